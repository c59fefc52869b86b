import PyProof.Rows.All
import Wide.All
import OpenK.AllK
import Wide.FinOn
import PyProof.EqAt
import PyProof.EqKinds
import PyProof.NeKinds
import PyProof.TupleCall
import HandS.OwnEq
import HandS.IsInst
import HandS.ForMost
import HandS.ForExc
import HandS.ExcInit
import HandS.ExcField
import HandS.ExcIs
import HandS.Gcd
import HandS.FStr
import HandS.Wide
import HandS.WideBits
import HandS.Star
import HandS.EndBits
import HandS.ClsMeth
import PySem.Challenge.RW_bothwalks_k85_texts_of_chains
import HandS.Defaults
import KE.KOpsOwn
import PyProof.SumAny
import HandS.SortKw
import HandS.Comp
import HandS.DictComp
import HandS.Deep
import KE.KDictDisplayH
import HandS.TupMul
import KE.DataMinMax
import HandS.Conv
import HandS.TupAny
import HandS.Iter
import PyProof.FactsAll.list_3
import HandS.Text
import HandS.WordsExc
import KE.GoesMore
import PyProof.EnumMake
import HandS.Walk
import HandS.StrMore
import HandS.Codes
import KE.KIntText
import HandS.Style
import HandS.Flow
import HandS.TryOnly
import HandS.Words
import KE.KUnpackStar
import KE.DataEq
import HandS.More
import HandS.Head3
import HandS.HeadHook4
import HandS.HeadEnd
set_option Elab.async false
set_option linter.all false
set_option maxRecDepth 100000
set_option maxHeartbeats 4000000
/-! == and != where one side is an instance of an own class with an own __eq__ -/
namespace OC
open PySem PySem.SeqAt PySem.W
open AutoSeq1 (wpAny_loadPart')
open MeetsSeq MeetsSeq2 MeetsSeq3 SeqRoads2
def Is2 (op : CmpOp) : Prop := op = .Eq ∨ op = .NotEq
section
variable {prog : Program} {w : World} {A : Around} {E : Value → Shared → Prop} {s : Shared} {K : Frag} {x C f : Addr} {ox : Obj} {od : Option Obj}
/-- the built-in's own comparison hands back NotImplemented: nothing is known of it, nothing has changed -/
def Decl (prog : Program) (w : World) (A : Around) (s : Shared) (op : CmpOp) (a b : Value) : Prop :=
  ∀ (Q : Option Value → Shared → Prop) (E : Value → Shared → Prop), Q none s → wpAny (model prog w) A (tryCompare a (cmpInfo op).2.1 b) Q E s
theorem int_ref_eq (b : Int) (u : Tok) {o : Obj} (hd : o.data = .plain) (l : Addr) :
    Meets (Builtin.«int.__eq__» ⟨[.int b u, .ref l], []⟩) (fun _ R s => s.heap.get? l = some o ∧ R (.ok (.ret .notImplemented)) s) :=
  .of_wp fun prog w A R s h => by obtain ⟨cls, dd, data, sl⟩ := o; obtain ⟨hp, g, d, tk, os⟩ := s; obtain ⟨hl, h⟩ := h; simp only at hd; subst hd; wp_walk using wpAny_loadPart' hl, wpAny_load hl; exact ⟨_, rfl, h⟩
theorem int_ref_ne (b : Int) (u : Tok) {o : Obj} (hd : o.data = .plain) (l : Addr) :
    Meets (Builtin.«int.__ne__» ⟨[.int b u, .ref l], []⟩) (fun _ R s => s.heap.get? l = some o ∧ R (.ok (.ret .notImplemented)) s) :=
  .of_wp fun prog w A R s h => by obtain ⟨cls, dd, data, sl⟩ := o; obtain ⟨hp, g, d, tk, os⟩ := s; obtain ⟨hl, h⟩ := h; simp only at hd; subst hd; wp_walk using wpAny_loadPart' hl, wpAny_load hl; exact ⟨_, rfl, h⟩
theorem bool_ref_eq (b : Bool) {o : Obj} (hd : o.data = .plain) (l : Addr) :
    Meets (Builtin.«int.__eq__» ⟨[.bool b, .ref l], []⟩) (fun _ R s => s.heap.get? l = some o ∧ R (.ok (.ret .notImplemented)) s) :=
  .of_wp fun prog w A R s h => by obtain ⟨cls, dd, data, sl⟩ := o; obtain ⟨hp, g, d, tk, os⟩ := s; obtain ⟨hl, h⟩ := h; simp only at hd; subst hd; wp_walk using wpAny_loadPart' hl, wpAny_load hl; exact ⟨_, rfl, h⟩
theorem bool_ref_ne (b : Bool) {o : Obj} (hd : o.data = .plain) (l : Addr) :
    Meets (Builtin.«int.__ne__» ⟨[.bool b, .ref l], []⟩) (fun _ R s => s.heap.get? l = some o ∧ R (.ok (.ret .notImplemented)) s) :=
  .of_wp fun prog w A R s h => by obtain ⟨cls, dd, data, sl⟩ := o; obtain ⟨hp, g, d, tk, os⟩ := s; obtain ⟨hl, h⟩ := h; simp only at hd; subst hd; wp_walk using wpAny_loadPart' hl, wpAny_load hl; exact ⟨_, rfl, h⟩
theorem str_ref_eq (b : Str) (u : Tok) {o : Obj} (hd : o.data = .plain) (l : Addr) :
    Meets (Builtin.«str.__eq__» ⟨[.str b u, .ref l], []⟩) (fun _ R s => s.heap.get? l = some o ∧ R (.ok (.ret .notImplemented)) s) :=
  .of_wp fun prog w A R s h => by obtain ⟨cls, dd, data, sl⟩ := o; obtain ⟨hp, g, d, tk, os⟩ := s; obtain ⟨hl, h⟩ := h; simp only at hd; subst hd; wp_walk using wpAny_loadPart' hl, wpAny_load hl; exact ⟨_, rfl, h⟩
theorem str_ref_ne (b : Str) (u : Tok) {o : Obj} (hd : o.data = .plain) (l : Addr) :
    Meets (Builtin.«str.__ne__» ⟨[.str b u, .ref l], []⟩) (fun _ R s => s.heap.get? l = some o ∧ R (.ok (.ret .notImplemented)) s) :=
  .of_wp fun prog w A R s h => by obtain ⟨cls, dd, data, sl⟩ := o; obtain ⟨hp, g, d, tk, os⟩ := s; obtain ⟨hl, h⟩ := h; simp only at hd; subst hd; wp_walk using wpAny_loadPart' hl, wpAny_load hl; exact ⟨_, rfl, h⟩
theorem decl_int {op : CmpOp} (ho : Is2 op) (b : Int) (u : Tok) (hx : s.heap.get? x = some ox) (hd : ox.data = .plain) : Decl prog w A s op (.int b u) (.ref x) := fun Q E hq => by
  rcases ho with rfl | rfl
  · exact wpAny_tryCompare_declines (typeIs_int s b u) F.slot_int_eq (call_meets F.slot_int_eq (typeIs_int s b u) F.entry_int_eq (F.args_int_eq_2 _ _) (int_ref_eq b u hd x) ⟨hx, rfl, hq⟩)
  · exact wpAny_tryCompare_declines (typeIs_int s b u) F.slot_int_ne (call_meets F.slot_int_ne (typeIs_int s b u) F.entry_int_ne (F.args_int_ne_2 _ _) (int_ref_ne b u hd x) ⟨hx, rfl, hq⟩)
theorem decl_bool {op : CmpOp} (ho : Is2 op) (b : Bool) (hx : s.heap.get? x = some ox) (hd : ox.data = .plain) : Decl prog w A s op (.bool b) (.ref x) := fun Q E hq => by
  rcases ho with rfl | rfl
  · exact wpAny_tryCompare_declines (T := "bool") rfl F.slot_bool_eq (call_meets F.slot_bool_eq rfl F.entry_int_eq (F.args_int_eq_2 _ _) (bool_ref_eq b hd x) ⟨hx, rfl, hq⟩)
  · exact wpAny_tryCompare_declines (T := "bool") rfl F.slot_bool_ne (call_meets F.slot_bool_ne rfl F.entry_int_ne (F.args_int_ne_2 _ _) (bool_ref_ne b hd x) ⟨hx, rfl, hq⟩)
theorem decl_str {op : CmpOp} (ho : Is2 op) (b : Str) (u : Tok) (hx : s.heap.get? x = some ox) (hd : ox.data = .plain) : Decl prog w A s op (.str b u) (.ref x) := fun Q E hq => by
  rcases ho with rfl | rfl
  · exact wpAny_tryCompare_declines (typeIs_str s b u) F.slot_str_eq (call_meets F.slot_str_eq (typeIs_str s b u) F.entry_str_eq (F.args_str_eq_2 _ _) (str_ref_eq b u hd x) ⟨hx, rfl, hq⟩)
  · exact wpAny_tryCompare_declines (typeIs_str s b u) F.slot_str_ne (call_meets F.slot_str_ne (typeIs_str s b u) F.entry_str_ne (F.args_str_ne_2 _ _) (str_ref_ne b u hd x) ⟨hx, rfl, hq⟩)
theorem decl_none {op : CmpOp} (ho : Is2 op) : Decl prog w A s op .none (.ref x) := fun Q E hq => by
  rcases ho with rfl | rfl
  · exact wpAny_tryCompare_declines (T := "NoneType") rfl F.slot_NoneType_eq (call_gives F.slot_NoneType_eq rfl F.entry_NoneType_eq (F.args_NoneType_eq_2 _ _) (NoneType___eq___none_ref_0 x) ⟨rfl, hq⟩)
  · exact wpAny_tryCompare_declines (T := "NoneType") rfl F.slot_NoneType_ne (call_gives F.slot_NoneType_ne rfl F.entry_NoneType_ne (F.args_NoneType_ne_2 _ _) (NoneType___ne___none_ref_0 x) ⟨rfl, hq⟩)
end
end OC
set_option Elab.async false
set_option linter.all false
set_option maxRecDepth 100000
set_option maxHeartbeats 4000000
namespace OC
open PySem PySem.SeqAt PySem.W
open AutoSeq1 (wpAny_loadPart')
open MeetsSeq MeetsSeq2 MeetsSeq3 SeqRoads2
section
variable {prog : Program} {w : World} {A : Around} {E : Value → Shared → Prop} {s : Shared} {K : Frag} {x C f : Addr} {ox : Obj} {od : Option Obj}
theorem not_inst {M : Model} {h : Heap} {T : String} (X : K.In h) (I : InstAt h x ox C od) (hn : subIn K (.ref C) (.type T) = some false) : Looks M h (isInstance (.ref x) (.type T)) false :=
  I.type.andThen (looks_subIn X hn)
theorem tup_ref_eq (l : Addr) (items : Array Value) (n : Nat) (dd : Option Addr) (sl : Array (Option Value)) (x : Addr) :
    Meets (Builtin.«tuple.__eq__» ⟨[.ref l, .ref x], []⟩) (fun _ R s => (∀ M : Model, Looks M s.heap (isInstance (.ref x) (.type "tuple")) false) ∧ s.heap.get? l = some { cls := .type "tuple", dict := dd, data := .seq items n, slots := sl } ∧ R (.ok (.ret .notImplemented)) s) :=
  .of_wp fun prog w A R s h => by
    obtain ⟨hp, g, d, tk, os⟩ := s; obtain ⟨L0, hl, h⟩ := h
    have L := L0 (model prog w)
    unfold Builtin.«tuple.__eq__»
    repeat (first | with_reducible refine L.at ?_ | (refine wpAny_bind (m := isInstance (.ref x) (.type "tuple")) (L.at ?_)) | wp_step)
    exact ⟨_, rfl, h⟩
theorem tup_ref_ne (l : Addr) (items : Array Value) (n : Nat) (dd : Option Addr) (sl : Array (Option Value)) (x : Addr) :
    Meets (Builtin.«tuple.__ne__» ⟨[.ref l, .ref x], []⟩) (fun _ R s => (∀ M : Model, Looks M s.heap (isInstance (.ref x) (.type "tuple")) false) ∧ s.heap.get? l = some { cls := .type "tuple", dict := dd, data := .seq items n, slots := sl } ∧ R (.ok (.ret .notImplemented)) s) :=
  .of_wp fun prog w A R s h => by
    obtain ⟨hp, g, d, tk, os⟩ := s; obtain ⟨L0, hl, h⟩ := h
    have L := L0 (model prog w)
    unfold Builtin.«tuple.__ne__»
    repeat (first | with_reducible refine L.at ?_ | (refine wpAny_bind (m := isInstance (.ref x) (.type "tuple")) (L.at ?_)) | wp_step)
    exact ⟨_, rfl, h⟩
theorem list_ref_eq (l : Addr) (items : Array Value) (n : Nat) (dd : Option Addr) (sl : Array (Option Value)) (x : Addr) :
    Meets (Builtin.«list.__eq__» ⟨[.ref l, .ref x], []⟩) (fun _ R s => (∀ M : Model, Looks M s.heap (isInstance (.ref x) (.type "list")) false) ∧ s.heap.get? l = some { cls := .type "list", dict := dd, data := .seq items n, slots := sl } ∧ R (.ok (.ret .notImplemented)) s) :=
  .of_wp fun prog w A R s h => by
    obtain ⟨hp, g, d, tk, os⟩ := s; obtain ⟨L0, hl, h⟩ := h
    have L := L0 (model prog w)
    unfold Builtin.«list.__eq__»
    repeat (first | with_reducible refine L.at ?_ | (refine wpAny_bind (m := isInstance (.ref x) (.type "list")) (L.at ?_)) | wp_step)
    exact ⟨_, rfl, h⟩
theorem list_ref_ne (l : Addr) (items : Array Value) (n : Nat) (dd : Option Addr) (sl : Array (Option Value)) (x : Addr) :
    Meets (Builtin.«list.__ne__» ⟨[.ref l, .ref x], []⟩) (fun _ R s => (∀ M : Model, Looks M s.heap (isInstance (.ref x) (.type "list")) false) ∧ s.heap.get? l = some { cls := .type "list", dict := dd, data := .seq items n, slots := sl } ∧ R (.ok (.ret .notImplemented)) s) :=
  .of_wp fun prog w A R s h => by
    obtain ⟨hp, g, d, tk, os⟩ := s; obtain ⟨L0, hl, h⟩ := h
    have L := L0 (model prog w)
    unfold Builtin.«list.__ne__»
    repeat (first | with_reducible refine L.at ?_ | (refine wpAny_bind (m := isInstance (.ref x) (.type "list")) (L.at ?_)) | wp_step)
    exact ⟨_, rfl, h⟩
theorem dict_ref_eq (l : Addr) (x : Addr) {o : Obj} (ho : o.ExactDict) :
    Meets (Builtin.«dict.__eq__» ⟨[.ref l, .ref x], []⟩) (fun _ R s => (∀ M : Model, Looks M s.heap (isInstance (.ref x) (.type "dict")) false) ∧ s.heap.get? l = some o ∧ R (.ok (.ret .notImplemented)) s) :=
  .of_wp fun prog w A R s h => by
    obtain ⟨hp, g, d, tk, os⟩ := s; obtain ⟨L0, hl, h⟩ := h
    have L := L0 (model prog w)
    show wpAny _ _ (Builtin.Dict.dictSlotArgs "__eq__" ⟨[.ref l, .ref x], []⟩ >>= _) _ _ _
    repeat (first | with_reducible refine L.at ?_ | (refine wpAny_bind (m := isInstance (.ref x) (.type "dict")) (L.at ?_)) | wp_step)
    exact ⟨_, rfl, h⟩
theorem dict_ref_ne (l : Addr) (x : Addr) {o : Obj} (ho : o.ExactDict) :
    Meets (Builtin.«dict.__ne__» ⟨[.ref l, .ref x], []⟩) (fun _ R s => (∀ M : Model, Looks M s.heap (isInstance (.ref x) (.type "dict")) false) ∧ s.heap.get? l = some o ∧ R (.ok (.ret .notImplemented)) s) :=
  .of_wp fun prog w A R s h => by
    obtain ⟨hp, g, d, tk, os⟩ := s; obtain ⟨L0, hl, h⟩ := h
    have L := L0 (model prog w)
    show wpAny _ _ (Builtin.Dict.dictSlotArgs "__ne__" ⟨[.ref l, .ref x], []⟩ >>= _) _ _ _
    repeat (first | with_reducible refine L.at ?_ | (refine wpAny_bind (m := isInstance (.ref x) (.type "dict")) (L.at ?_)) | wp_step)
    exact ⟨_, rfl, h⟩
end
end OC
set_option Elab.async false
set_option linter.all false
set_option maxRecDepth 100000
set_option maxHeartbeats 4000000
namespace OC
open PySem PySem.SeqAt PySem.W Builtin
open AutoSeq1 (wpAny_loadPart')
open MeetsSeq MeetsSeq2 MeetsSeq3 SeqRoads2
section
variable {prog : Program} {w : World} {A : Around} {E : Value → Shared → Prop} {s : Shared} {K : Frag} {x C f : Addr} {ox : Obj} {od : Option Obj} {y : Value}
/-- what the own __eq__ hands back, turned for != -/
def turn (op : CmpOp) (b : Bool) : Bool := match op with | .Eq => b | _ => !b
/-- the class: its own __eq__ at f, its __ne__ is object's -/
structure OwnQ (K : Frag) (C f : Addr) : Prop where
  eq : findIn K (.ref C) "__eq__" = some (some (.ref f))
  ne : findIn K (.ref C) "__ne__" = some (some (.builtin "object.__ne__"))
  ob : mroIn K C (.type "object") = some true
  fn : isFn K (.ref f) = true
theorem ifBound_objNe {M : Model} {args : List Value} {Q : Option Value → Shared → Prop} (X : K.In s.heap) (I : InstAt s.heap x ox C od) (hs : findIn K (.ref C) "__ne__" = some (some (.builtin "object.__ne__")))
    (h : wpAny M A (call (.builtin "object.__ne__") (.ref x :: args)) (fun v => Q (some v)) E s) : wpAny M A (callSpecialIfBound? (.ref x) "__ne__" args) Q E s := by
  simp only [callSpecialIfBound?, bindSpecialIfBound?]
  refine wpAny_holding (wpAny_bind (wpAny_bind (wpAny_bind (I.type.here ((looks_findIn X hs).here ?_)))))
  refine wpAny_bind (wpAny_askSetting (wpAny_ite ?_))
  have fin : wpAny M A (call (.builtin "object.__ne__") ([.ref x] ++ args) >>= fun v => pure (some v)) Q E s := wpAny_bind (wpAny_mono h (fun v s' h' => wpAny_pure h') fun _ _ h' => h')
  split
  · exact wpAny_bind (wpAny_of_eq (F.cmp_object.ne.bind _) (wpAny_pure (by exact fin)))
  · exact wpAny_tryCatch (wpAny_bind (wpAny_of_eq (F.cmp_object.ne.bind _) (wpAny_pure (by exact fin))))
theorem ne_entry {Q : Fin → Shared → Prop} (hu : A.units < cLine) (X : K.In s.heap) (I : InstAt s.heap x ox C od) (O : OwnQ K C f)
    (h : wpAny (model prog w) A (call (.ref f) [.ref x, y]) (fun v s' => ∃ b, v = .bool b ∧ Q (.done (.ret (.bool (!b)))) s') E s) :
    wpAny (model prog w) A (Builtin.«object.__ne__» ⟨[.ref x, y], []⟩) Q E s := by
  obtain ⟨hp, g, d, t, os⟩ := s
  unfold Builtin.«object.__ne__»
  repeat (first
    | with_reducible refine wpAny_cRoomFor hu ?_
    | (refine wpAny_bind (m := callSpecialIfBound? (.ref x) (Str.ofString "__eq__") [y])
        (ifBound_K X I O.eq O.fn (wpAny_mono h (fun r s' hr => by
          obtain ⟨b, rfl, hq⟩ := hr
          repeat (first | exact hq | exact wpAny_pure hq | exact wpAny_truthy_bool hq | (refine wpAny_bind (m := truthy (.bool _)) (wpAny_truthy_bool ?_)) | wp_step)) fun _ _ e => e)))
    | wp_step)
theorem own_try {op : CmpOp} {Q : Value → Shared → Prop} (ho : Is2 op) (hu : A.units + 1 < cLine) (X : K.In s.heap) (I : InstAt s.heap x ox C od) (O : OwnQ K C f)
    (h : ∀ A' : Around, A' = A ∨ A' = A.in1 → wpAny (model prog w) A' (call (.ref f) [.ref x, y]) (fun v s' => ∃ b, v = .bool b ∧ Q (.bool (turn op b)) s') E s) :
    wpAny (model prog w) A (tryCompare (.ref x) (cmpInfo op).2.1 y) (fun r s' => ∃ v, r = some v ∧ Q v s') E s := by
  rcases ho with rfl | rfl
  · unfold tryCompare
    refine wpAny_bind (m := callSpecialIfBound? (.ref x) "__eq__" [y]) (ifBound_K X I O.eq O.fn (wpAny_mono (h A (.inl rfl)) (fun v s' hv => ?_) fun _ _ e => e))
    obtain ⟨b, rfl, hq⟩ := hv
    exact wpAny_pure ⟨_, rfl, hq⟩
  · unfold tryCompare
    refine wpAny_bind (m := callSpecialIfBound? (.ref x) "__ne__" [y]) (ifBound_objNe X I O.ne ?_)
    refine wpAny_call (codeAny_call_builtin F.cmp_object.ne.plain F.cmpEntry_ne (check_slot F.cmpKind_ne F.cmpSplit_ne (I.type.andThen (looks_mroIn X O.ob)) (F.cmpArgs_ne _ _) ?_))
    refine ne_entry (A := A.in1) hu X I O (wpAny_mono (h A.in1 (.inr rfl)) (fun v s' hv => ?_) fun _ _ e => e)
    obtain ⟨b, rfl, hq⟩ := hv
    first
      | exact ⟨b, rfl, wpAny_pure ⟨_, rfl, hq⟩⟩
      | exact ⟨b, rfl, wpAny_pure (wpAny_pure ⟨_, rfl, hq⟩)⟩
      | exact ⟨b, rfl, ⟨_, rfl, hq⟩⟩
theorem compareOp2 {op : CmpOp} (ho : Is2 op) (a b : Value) : compareOp op a b = richCompare op a b := by rcases ho with rfl | rfl <;> rfl
/-- the instance on the left -/
theorem rc_left {op : CmpOp} {tb : Value} {Q : Value → Shared → Prop} (ho : Is2 op) (hu : A.units + 1 < cLine) (X : K.In s.heap) (I : InstAt s.heap x ox C od) (O : OwnQ K C f) (hb : Looks (model prog w) s.heap (typeOf y) tb) (hn : notFirst K C tb = true)
    (h : ∀ A' : Around, A' = A ∨ A' = A.in1 → wpAny (model prog w) A' (call (.ref f) [.ref x, y]) (fun v s' => ∃ b, v = .bool b ∧ Q (.bool (turn op b)) s') E s) :
    wpAny (model prog w) A (richCompare op (.ref x) y) Q E s := by
  have one := own_try ho hu X I O h
  unfold richCompare
  simp only [oneThing_ref]
  refine wpAny_holding (wpAny_bind (wpAny_cRoomFor (Nat.lt_of_succ_lt hu) ?_))
  refine wpAny_bind (I.type.here (wpAny_bind (hb.here ?_)))
  split
  · rename_i q
    have e : subIn K tb (.ref C) = some false := by
      rcases Bool.or_eq_true_iff.mp hn with e | e
      · rw [beq_iff_eq.mp e] at q; simp at q
      · exact beq_iff_eq.mp e
    refine wpAny_bind ((looks_subIn X e).here ?_)
    simp only [Bool.false_eq_true, if_false]
    refine wpAny_bind (wpAny_mono one (fun r s' z => ?_) fun _ _ e => e)
    obtain ⟨v, rfl, hq⟩ := z
    exact wpAny_pure hq
  · refine wpAny_bind (wpAny_pure ?_)
    simp only [Bool.false_eq_true, if_false]
    refine wpAny_bind (wpAny_mono one (fun r s' z => ?_) fun _ _ e => e)
    obtain ⟨v, rfl, hq⟩ := z
    exact wpAny_pure hq
/-- the instance on the right, a value of a built-in type on the left -/
theorem rc_right {op : CmpOp} {T : String} {a : Value} {Q : Value → Shared → Prop} (ho : Is2 op) (hu : A.units + 1 < cLine) (X : K.In s.heap) (I : InstAt s.heap x ox C od) (O : OwnQ K C f) (ha : s.TypeIs a T) (hn : subIn K (.ref C) (.type T) = some false)
    (hne : (oneThing? op a (.ref x)) = none)
    (hd : Decl prog w A s op a (.ref x))
    (h : ∀ A' : Around, A' = A ∨ A' = A.in1 → wpAny (model prog w) A' (call (.ref f) [.ref x, a]) (fun v s' => ∃ b, v = .bool b ∧ Q (.bool (turn op b)) s') E s) :
    wpAny (model prog w) A (richCompare op a (.ref x)) Q E s := by
  have one := own_try ho hu X I O h
  have e2 : (cmpInfo op).2.2 = (cmpInfo op).2.1 := by rcases ho with rfl | rfl <;> rfl
  unfold richCompare
  simp only [hne]
  refine wpAny_holding (wpAny_bind (wpAny_cRoomFor (Nat.lt_of_succ_lt hu) ?_))
  refine wpAny_bind (wpAny_typeOf ha (wpAny_bind (I.type.here ?_)))
  have ne : (Value.type T != Value.ref C) = true := by simp
  simp only [ne, if_true]
  refine wpAny_bind ((looks_subIn X hn).here ?_)
  simp only [Bool.false_eq_true, if_false]
  refine wpAny_bind (m := tryCompare a (cmpInfo op).2.1 (.ref x)) (hd _ _ ?_)
  simp only [Bool.not_false, if_true]
  rw [e2]
  refine wpAny_bind (m := tryCompare (.ref x) (cmpInfo op).2.1 a) (wpAny_mono one (fun r s' z => ?_) fun _ _ e => e)
  obtain ⟨v, rfl, hq⟩ := z
  exact wpAny_pure hq
end
end OC
set_option Elab.async false
set_option linter.all false
set_option maxRecDepth 100000
set_option maxHeartbeats 4000000
namespace L2
open PySem PySem.Spec PyProof.Rows
/-- a foreign thing: its built-in type, its kind told by the heap -/
inductive Fo (K : PySem.W.Frag) (H : Hp) : V → String → Prop where
  | non : Fo K H .non "NoneType"
  | bl (b : Bool) : Fo K H (.bl b) "bool"
  | int (i : Int) : Fo K H (.int i) "int"
  | str (x : Str) : Fo K H (.str x) "str"
  | lst {a : Addr} {xs : List V} (e : H a = some (.lst xs)) : Fo K H (.ref a) "list"
  | tup {a : Addr} {xs : List V} (e : H a = some (.tup xs)) : Fo K H (.ref a) "tuple"
  | dK {a : Addr} {kvs : List (Key × V)} (e : H a = some (.dK kvs)) : Fo K H (.ref a) "dict"
theorem Fo.ty {K : PySem.W.Frag} {H : Hp} {x : V} {T : String} (h : Fo K H x T) : TyX K H x (.type T) := by
  cases h with
  | non => exact .base .non
  | bl b => exact .base (.bl b)
  | int i => exact .base (.int i)
  | str x => exact .base (.str x)
  | lst e => exact .base (.lst e)
  | tup e => exact .base (.tup e)
  | dK e => exact .base (.dK e)
/-- the class at C as far as == and != ask -/
structure OwnT (K : PySem.W.Frag) (C f : Addr) : Prop where
  q : OC.OwnQ K C f
  sint : PySem.W.subIn K (.ref C) (.type "int") = some false
  sbool : PySem.W.subIn K (.ref C) (.type "bool") = some false
  snon : PySem.W.subIn K (.ref C) (.type "NoneType") = some false
  sstr : PySem.W.subIn K (.ref C) (.type "str") = some false
  slst : PySem.W.subIn K (.ref C) (.type "list") = some false
  stup : PySem.W.subIn K (.ref C) (.type "tuple") = some false
  sdct : PySem.W.subIn K (.ref C) (.type "dict") = some false
theorem not_first {K : PySem.W.Frag} {C : Addr} {T : String} {l : List Value} (h : fastBuiltinMro T = some l) (hl : l.all (fun v => match v with | .type _ => true | _ => false) = true) : PySem.W.notFirst K C (.type T) = true := by
  unfold PySem.W.notFirst
  have e : PySem.W.subIn K (.type T) (.ref C) = some false := by
    show (fastBuiltinMro T).map (·.contains (.ref C)) = some false
    rw [h]
    show some (l.contains (.ref C)) = some false
    congr 1
    induction l with
    | nil => rfl
    | cons a r ih =>
      rw [List.all_cons, Bool.and_eq_true] at hl
      rw [List.contains_cons]
      have : (Value.ref C == a) = false := by
        cases a <;> first | rfl | (simp at hl)
        
      rw [this, Bool.false_or]
      clear h
      exact (by
        revert hl
        intro hl
        clear ih this
        have hl2 := hl.2
        clear hl
        induction r with
        | nil => rfl
        | cons b r ih2 =>
          rw [List.all_cons, Bool.and_eq_true] at hl2
          rw [List.contains_cons]
          have : (Value.ref C == b) = false := by
            cases b <;> first | rfl | (simp at hl2)
          rw [this, Bool.false_or]
          exact ih2 hl2.2)
  rw [e]
  simp
theorem Fo.nf {K : PySem.W.Frag} {H : Hp} {x : V} {T : String} {C : Addr} (h : Fo K H x T) : PySem.W.notFirst K C (.type T) = true := by
  cases h with
  | non => exact not_first (l := [.type "NoneType", .type "object"]) (by decide +kernel) (by decide +kernel)
  | bl b => exact not_first (l := [.type "bool", .type "int", .type "object"]) (by decide +kernel) (by decide +kernel)
  | int i => exact not_first (l := [.type "int", .type "object"]) (by decide +kernel) (by decide +kernel)
  | str x => exact not_first (l := [.type "str", .type "object"]) (by decide +kernel) (by decide +kernel)
  | lst e => exact not_first (l := [.type "list", .type "object"]) (by decide +kernel) (by decide +kernel)
  | tup e => exact not_first (l := [.type "tuple", .type "object"]) (by decide +kernel) (by decide +kernel)
  | dK e => exact not_first (l := [.type "dict", .type "object"]) (by decide +kernel) (by decide +kernel)
theorem Fo.sub {K : PySem.W.Frag} {H : Hp} {x : V} {T : String} {C f : Addr} (h : Fo K H x T) (O : OwnT K C f) : PySem.W.subIn K (.ref C) (.type T) = some false := by
  cases h with
  | non => exact O.snon
  | bl b => exact O.sbool
  | int i => exact O.sint
  | str x => exact O.sstr
  | lst e => exact O.slst
  | tup e => exact O.stup
  | dK e => exact O.sdct
section
variable {X : Cx} {pins : List (Addr × Obj)} {σ : St} {H : Hp} {s : Shared}
theorem Fo.typ {x : V} {u : Value} {T : String} (h : Fo X.K H x T) (I : Inv X pins σ H s) (r : RelV x u) : s.TypeIs u T := by
  cases h with
  | non => cases (show u = Value.none from r); rfl
  | bl b => cases (show u = Value.bool b from r); rfl
  | int i => obtain ⟨t, q⟩ := (show ∃ t, u = Value.int i t from r); cases q; rfl
  | str x => obtain ⟨t, q⟩ := (show ∃ t, u = Value.str x t from r); cases q; rfl
  | @lst a xs e =>
    cases (show u = Value.ref a from r)
    obtain ⟨_, _, n, _, h1⟩ := (show ObjOk X.prog X.w H s.heap a (.lst xs) from I.hok a _ e)
    exact ⟨_, h1, rfl⟩
  | @tup a xs e =>
    cases (show u = Value.ref a from r)
    obtain ⟨_, _, _, o, h1, h2, _⟩ := (show ObjOk X.prog X.w H s.heap a (.tup xs) from I.hok a _ e)
    exact ⟨o, h1, h2⟩
  | @dK a kvs e =>
    cases (show u = Value.ref a from r)
    obtain ⟨_, _, vs, _, o, es, ep, h1, h2, _⟩ := (show ObjOk X.prog X.w H s.heap a (.dK kvs) from I.hok a _ e)
    exact ⟨o, h1, h2.1⟩
theorem Fo.looks {x : V} {u : Value} {T : String} (h : Fo X.K H x T) (I : Inv X pins σ H s) (r : RelV x u) : PySem.W.Looks (model X.prog X.w) s.heap (typeOf u) (.type T) := by
  cases h with
  | non => cases (show u = Value.none from r); exact .of_pure rfl
  | bl b => cases (show u = Value.bool b from r); exact .of_pure rfl
  | int i => obtain ⟨t, q⟩ := (show ∃ t, u = Value.int i t from r); cases q; exact .of_pure rfl
  | str x => obtain ⟨t, q⟩ := (show ∃ t, u = Value.str x t from r); cases q; exact .of_pure rfl
  | @lst a xs e =>
    cases (show u = Value.ref a from r)
    obtain ⟨_, _, n, _, h1⟩ := (show ObjOk X.prog X.w H s.heap a (.lst xs) from I.hok a _ e)
    exact (PySem.W.Looks.ld h1).andThen .now
  | @tup a xs e =>
    cases (show u = Value.ref a from r)
    obtain ⟨_, _, _, o, h1, h2, _⟩ := (show ObjOk X.prog X.w H s.heap a (.tup xs) from I.hok a _ e)
    rw [← h2]
    exact (PySem.W.Looks.ld h1).andThen .now
  | @dK a kvs e =>
    cases (show u = Value.ref a from r)
    obtain ⟨_, _, vs, _, o, es, ep, h1, h2, _⟩ := (show ObjOk X.prog X.w H s.heap a (.dK kvs) from I.hok a _ e)
    rw [← h2.1]
    exact (PySem.W.Looks.ld h1).andThen .now
theorem Fo.one {x : V} {u : Value} {T : String} {op : CmpOp} {c : Addr} (h : Fo X.K H x T) (r : RelV x u) : oneThing? op u (.ref c) = none := by
  cases h with
  | non => cases (show u = Value.none from r); rfl
  | bl b => cases (show u = Value.bool b from r); rfl
  | int i => obtain ⟨t, q⟩ := (show ∃ t, u = Value.int i t from r); cases q; rfl
  | str x => obtain ⟨t, q⟩ := (show ∃ t, u = Value.str x t from r); cases q; rfl
  | @lst a xs e => cases (show u = Value.ref a from r); rfl
  | @tup a xs e => cases (show u = Value.ref a from r); rfl
  | @dK a kvs e => cases (show u = Value.ref a from r); rfl
theorem Fo.decl {A : Around} {x : V} {u : Value} {T : String} {op : CmpOp} {c C f : Addr} {ox : Obj} {od : Option Obj} (ho : OC.Is2 op) (h : Fo X.K H x T) (O : OwnT X.K C f) (I : Inv X pins σ H s) (r : RelV x u) (J : PySem.W.InstAt s.heap c ox C od) (hd : ox.data = .plain) :
    OC.Decl X.prog X.w A s op u (.ref c) := by
  cases h with
  | non => cases (show u = Value.none from r); exact OC.decl_none ho
  | bl b => cases (show u = Value.bool b from r); exact OC.decl_bool ho b J.at_ hd
  | int i => obtain ⟨t, q⟩ := (show ∃ t, u = Value.int i t from r); cases q; exact OC.decl_int ho i t J.at_ hd
  | str x => obtain ⟨t, q⟩ := (show ∃ t, u = Value.str x t from r); cases q; exact OC.decl_str ho x t J.at_ hd
  | @lst a xs e =>
    cases (show u = Value.ref a from r)
    obtain ⟨_, its, n, _, h1⟩ := (show ObjOk X.prog X.w H s.heap a (.lst xs) from I.hok a _ e)
    intro Q E hq
    rcases ho with rfl | rfl
    · exact wpAny_tryCompare_declines ⟨_, h1, rfl⟩ F.slot_list_eq (call_meets F.slot_list_eq ⟨_, h1, rfl⟩ F.entry_list_eq (F.args_list_eq_2 _ _) (OC.list_ref_eq a _ n _ _ c) ⟨fun M => OC.not_inst I.kIn J O.slst, h1, rfl, hq⟩)
    · exact wpAny_tryCompare_declines ⟨_, h1, rfl⟩ F.slot_list_ne (call_meets F.slot_list_ne ⟨_, h1, rfl⟩ F.entry_list_ne (F.args_list_ne_2 _ _) (OC.list_ref_ne a _ n _ _ c) ⟨fun M => OC.not_inst I.kIn J O.slst, h1, rfl, hq⟩)
  | @tup a xs e =>
    cases (show u = Value.ref a from r)
    obtain ⟨_, its, _, o, h1, h2, n, h3⟩ := (show ObjOk X.prog X.w H s.heap a (.tup xs) from I.hok a _ e)
    obtain ⟨oc, odd, dt, sl⟩ := o
    simp only at h2 h3
    subst h2 h3
    intro Q E hq
    rcases ho with rfl | rfl
    · exact wpAny_tryCompare_declines ⟨_, h1, rfl⟩ F.slot_tuple_eq (call_meets F.slot_tuple_eq ⟨_, h1, rfl⟩ F.entry_tuple_eq (F.args_tuple_eq_2 _ _) (OC.tup_ref_eq a _ n _ _ c) ⟨fun M => OC.not_inst I.kIn J O.stup, h1, rfl, hq⟩)
    · exact wpAny_tryCompare_declines ⟨_, h1, rfl⟩ F.slot_tuple_ne (call_meets F.slot_tuple_ne ⟨_, h1, rfl⟩ F.entry_tuple_ne (F.args_tuple_ne_2 _ _) (OC.tup_ref_ne a _ n _ _ c) ⟨fun M => OC.not_inst I.kIn J O.stup, h1, rfl, hq⟩)
  | @dK a kvs e =>
    cases (show u = Value.ref a from r)
    obtain ⟨_, _, vs, _, o, es, ep, h1, h2, _⟩ := (show ObjOk X.prog X.w H s.heap a (.dK kvs) from I.hok a _ e)
    intro Q E hq
    rcases ho with rfl | rfl
    · exact wpAny_tryCompare_declines ⟨_, h1, h2.1⟩ F.slot_dict_eq (call_meets F.slot_dict_eq ⟨_, h1, h2.1⟩ F.entry_dict_eq (F.args_dict_eq_2 _ _) (OC.dict_ref_eq a c h2) ⟨fun M => OC.not_inst I.kIn J O.sdct, h1, rfl, hq⟩)
    · exact wpAny_tryCompare_declines ⟨_, h1, h2.1⟩ F.slot_dict_ne (call_meets F.slot_dict_ne ⟨_, h1, h2.1⟩ F.entry_dict_ne (F.args_dict_ne_2 _ _) (OC.dict_ref_ne a c h2) ⟨fun M => OC.not_inst I.kIn J O.sdct, h1, rfl, hq⟩)
/-- what the own == promises: R tells its answer; nothing changes -/
def spOwn (R : Addr → V → Bool → Hp → Prop) : Sp := fun vs H Q _ => ∃ (a : Addr) (y : V) (b : Bool), vs = [.ref a, y] ∧ R a y b H ∧ Q (.bl b) H
/-- x == y, x != y, one of both an instance of the class at C -/
def rOwnB (K : PySem.W.Frag) (C : Addr) (R : Addr → V → Bool → Hp → Prop) (op : CmpOp) : R2 := fun x y H Q => ∃ b : Bool,
  ((∃ a dx fs, x = .ref a ∧ H a = some (.ins C dx fs) ∧ R a y b H ∧ ((∃ T, Fo K H y T) ∨ ∃ c dy gs, y = .ref c ∧ H c = some (.ins C dy gs))) ∨
    (∃ c dy gs T, y = .ref c ∧ H c = some (.ins C dy gs) ∧ Fo K H x T ∧ R c x b H)) ∧ Q (.bl (OC.turn op b)) H
theorem op_ownB {CX : CXT} {C f : Addr} {fd : FuncData} {ps : List Str} {n : Nat} {R : Addr → V → Bool → Hp → Prop} {E : XK} {op : CmpOp} (ho : OC.Is2 op) (F : FnOk X.prog X.w X.K X.mg X.base CX n f fd ps (spOwn R))
    (O : OwnT X.K C f) (hb : Binds X.K fd ps []) (hx : Passes CX X E) (hr : Room (n + 1) X.A) : OpR X (compareOp op) (rOwnB X.K C R op) := by
  intro pins s σ H x y v u Q I rx ry hq
  obtain ⟨b, hc, q⟩ := hq
  rw [OC.compareOp2 ho]
  have hu : X.A.units + 1 < cLine := hu_of hr
  -- the call of __eq__
  have run : ∀ (a : Addr) (y : V) (u : Value) (A' : Around), RelV y u → R a y b H → (A' = X.A ∨ A' = X.A.in1) →
      wpAny (model X.prog X.w) A' (call (.ref f) [.ref a, u]) (fun v s' => ∃ b, v = .bool b ∧ EP X pins σ Q (.bool (OC.turn op b)) s') X.xe s := by
    intro a y u A' ry hR hA
    have sb : Room n A' ∧ A'.frames = X.A.frames := by
      rcases hA with rfl | rfl
      · exact ⟨hr.mono (Nat.le_succ n), rfl⟩
      · exact ⟨hr.in1, rfl⟩
    have hsp : spOwn R [.ref a, y] H (fun v H' => v = .bl b ∧ H' = H) E := ⟨a, y, b, rfl, hR, rfl, rfl⟩
    have e0 : Env0 X.prog X.w X.K X.mg X.base A' X.stack s H := by
      have e := I.env0
      exact ⟨by rw [sb.2]; exact e.frames, e.mod, e.bs, e.bsz, e.funs, e.frf, e.hok, e.bare⟩
    have hl := F.len _ _ _ _ hsp
    have r2 : Vals [V.ref a, y] [Value.ref a, u] := .cons rfl (.cons ry .nil)
    refine wpAny_call (codeAny_mono (F.run A' X.stack s H ⟨[.ref a, u], []⟩ [.ref a, u] [.ref a, y] _ E sb.1 e0 (by
      have := hb s [.ref a, u] I.kIn (by simpa using hl)
      simpa using this) r2 hsp) fun r s' hq => ?_)
    cases r with
    | error e => exact hx pins σ H s e s' I hq
    | ok fl =>
      cases fl with
      | ret w =>
        obtain ⟨z, H', I', rz, ez, ex⟩ := I.after hq
        subst ez ex
        cases rz
        exact ⟨b, rfl, .bl (OC.turn op b), H', I', rfl, q⟩
      | next => exact False.elim hq
      | brk => exact False.elim hq
      | cont => exact False.elim hq
  rcases hc with ⟨a, dx, fs, rfl, ha, hR, hy⟩ | ⟨c, dy, gs, T, rfl, hc, hT, hR⟩
  · cases rx
    obtain ⟨mA, J, _⟩ := ins_get I.hok ha
    obtain ⟨od, J, _⟩ := J.look
    rcases hy with ⟨T, hT⟩ | ⟨c, dy, gs, rfl, hc⟩
    · exact OC.rc_left ho hu I.kIn J O.q (hT.looks I ry) hT.nf fun A' hA => run a y u A' ry hR hA
    · cases ry
      obtain ⟨mB, J', _⟩ := ins_get I.hok hc
      obtain ⟨od', J', _⟩ := J'.look
      exact OC.rc_left ho hu I.kIn J O.q J'.type (by simp [PySem.W.notFirst]) fun A' hA => run a (.ref c) _ A' rfl hR hA
  · cases ry
    obtain ⟨mA, J, _⟩ := ins_get I.hok hc
    obtain ⟨od, J, _⟩ := J.look
    exact OC.rc_right ho hu I.kIn J O.q (hT.typ I rx) (hT.sub O) (hT.one rx) (hT.decl ho O I rx J rfl) fun A' hA => run c x v A' rx hR hA
end
end L2
set_option Elab.async false
set_option linter.all false
set_option maxRecDepth 100000
set_option maxHeartbeats 4000000
namespace KI
open PySem L2
def top (i : Nat) : Stmt := PySem.Challenge.pw_bothwalks_k85_texts_of_chains.main.body.getD i (.Pass ⟨0, 0, 0, 0⟩)
/-- a def of the text that stands, is kept and keeps its promise; nothing leaves it -/
structure Cal (P : Program) (w : World) (K : PySem.W.Frag) (mg : Str → Option Value) (base : Heap) (k : Nat) (x : Str) (ps : List Str) (sp : Sp) : Prop where
  ex : ∃ (f : Addr) (fd : FuncData), mg x = some (.ref f) ∧ PySem.W.keepIn K (.ref f) = true ∧ FnOk P w K mg base CX0 k f fd ps sp ∧ Binds K fd ps []
section
variable {X : Cx} {k : Nat} {ps : List Str} {sp : Sp} {x : Str} {p pos : Pos} {e : Expr} {es : List Expr} {t : TA}
theorem pe_cal (c : Cal X.prog X.w X.K X.mg X.base k x ps sp) (hr : Room k X.A) (hg : Gl X x) (ha : PA X (e :: es) t) (hdb : (x == ("__debug__" : Str)) = false := by decide)
    (he : starEach (e :: es) X.env = (false, eval e X.env) :: starEach es X.env := by rfl) (hpl : (backTo pos (starEach es X.env)).any (·.1) = false := by rfl) :
    PE X (.Call (.Name x p) (e :: es) [] pos) (tCall sp [] E0 t) := by
  obtain ⟨f, fd, hm, hk, F, hb⟩ := c.ex
  exact pe_call F hr hg hm hk hb .nil pass0 ha hdb he hpl
end
/-- a thing: a foreign one, or an instance of the class at C -/
inductive Thing (K : PySem.W.Frag) (C : Addr) (H : Hp) : V → Prop where
  | fo {x : V} {T : String} (h : Fo K H x T) : Thing K C H x
  | ins {a dx : Addr} {fs : List (Str × V)} (e : H a = some (.ins C dx fs)) : Thing K C H (.ref a)
def isI : V → Bool
  | .int _ => true
  | _ => false
/-- what isinstance asks of the class at C -/
structure InsT (K : PySem.W.Frag) (C : Addr) : Prop where
  cl : Cls K C
  ha : PySem.W.findIn K (.ref C) "__class__" = some (some (.builtin "object.__class__"))
  hn : PySem.W.specialIn K (.builtin "object.__class__") "__get__" = some (some (.builtin "getset_descriptor.__get__"))
  htk : PySem.W.takesIn K (.builtin "object.__class__") = some true
  hm : PySem.W.mroIn K C (.type "object") = some true
  kint : PySem.W.kitOne K (.ref C) (.type "int") = some false
  kbool : PySem.W.kitOne K (.ref C) (.type "bool") = some false
  kself : PySem.W.kitOne K (.ref C) (.ref C) = some true
  oint : PySem.W.kitOne K (.type "int") (.ref C) = some false
  obool : PySem.W.kitOne K (.type "bool") (.ref C) = some false
  onon : PySem.W.kitOne K (.type "NoneType") (.ref C) = some false
  ostr : PySem.W.kitOne K (.type "str") (.ref C) = some false
  olst : PySem.W.kitOne K (.type "list") (.ref C) = some false
  otup : PySem.W.kitOne K (.type "tuple") (.ref C) = some false
  odct : PySem.W.kitOne K (.type "dict") (.ref C) = some false
theorem InsT.ty {K : PySem.W.Frag} {C : Addr} {H : Hp} {a dx : Addr} {fs : List (Str × V)} (I : InsT K C) (e : H a = some (.ins C dx fs)) : TyX K H (.ref a) (.ref C) :=
  .base (.ins e I.cl I.ha I.hn I.htk I.hm)
theorem InsT.fo {K : PySem.W.Frag} {C : Addr} {H : Hp} {x : V} {T : String} (I : InsT K C) (h : Fo K H x T) : PySem.W.kitOne K (.type T) (.ref C) = some false := by
  cases h with
  | non => exact I.onon
  | bl b => exact I.obool
  | int i => exact I.oint
  | str x => exact I.ostr
  | lst e => exact I.olst
  | tup e => exact I.otup
  | dK e => exact I.odct
/-- isinstance(x, int) of a thing -/
def isIB : V → Bool
  | .int _ => true
  | .bl _ => true
  | _ => false
def isB : V → Bool
  | .bl _ => true
  | _ => false
theorem Thing.isInt {K : PySem.W.Frag} {C : Addr} {H : Hp} {x : V} (I : InsT K C) (h : Thing K C H x) : ∃ t, TyX K H x t ∧ PySem.W.kitOne K t (.type "int") = some (isIB x) ∧ PySem.W.kitOne K t (.type "bool") = some (isB x) := by
  cases h with
  | ins e => exact ⟨_, I.ty e, I.kint, I.kbool⟩
  | fo h =>
    refine ⟨_, h.ty, ?_⟩
    cases h with
    | non => exact ⟨by exact kit_ty (r := false) (by decide +kernel), by exact kit_ty (r := false) (by decide +kernel)⟩
    | bl b => exact ⟨by exact kit_ty (r := true) (by decide +kernel), by exact kit_ty (r := true) (by decide +kernel)⟩
    | int i => exact ⟨by exact kit_ty (r := true) (by decide +kernel), by exact kit_ty (r := false) (by decide +kernel)⟩
    | str x => exact ⟨by exact kit_ty (r := false) (by decide +kernel), by exact kit_ty (r := false) (by decide +kernel)⟩
    | lst e => exact ⟨by exact kit_ty (r := false) (by decide +kernel), by exact kit_ty (r := false) (by decide +kernel)⟩
    | tup e => exact ⟨by exact kit_ty (r := false) (by decide +kernel), by exact kit_ty (r := false) (by decide +kernel)⟩
    | dK e => exact ⟨by exact kit_ty (r := false) (by decide +kernel), by exact kit_ty (r := false) (by decide +kernel)⟩
/-- is_whole(x) -/
def spWhole (K : PySem.W.Frag) (C : Addr) : Sp := fun vs H Q _ => ∃ x, vs = [x] ∧ Thing K C H x ∧ Q (.bl (isI x)) H
/-- the built-in names that stand as they are -/
structure Bn (mg : Str → Option Value) : Prop where
  n_isinstance : mg "isinstance" = none
  n_int : mg "int" = none
  n_bool : mg "bool" = none
  n_abs : mg "abs" = none
  n_len : mg "len" = none
  n_str : mg "str" = none
  n_divmod : mg "divmod" = none
  n_ValueError : mg "ValueError" = none
section
variable {P : Program} {w : World} {K : PySem.W.Frag} {mg : Str → Option Value} {base : Heap} {C : Addr}
abbrev s_is_whole : Stmt := top 9
theorem sc_is_whole : FnScope ["thing"] ["thing"] (defScope s_is_whole) := ⟨rfl, rfl, rfl, by decide +kernel, rfl, by decide +kernel, by decide +kernel⟩
theorem ok_is_whole {f : Addr} {fd : FuncData} (F : Fun K "is_whole" "is_whole" s_is_whole f fd) (T : Bn mg) (I : InsT K C) : FnOk P w K mg base CX0 1 f fd ["thing"] (spWhole K C) := by
  refine F.ok sc_is_whole (fun vs H Q E h => ?_) (fun cdv A outer s H vs Q E hr h => ?_)
  · obtain ⟨x, rfl, _⟩ := h
    rfl
  · obtain ⟨x, rfl, h, k⟩ := h
    refine ⟨_, (pss_one (ps_ret (pe_and (pe_callB call_isi (by rfl) T.n_isinstance (by decide +kernel) (pa_cons (pv 0) (pa_cons (pe_bltn (v := .ty "int") rfl T.n_int (by decide +kernel) rfl) pa_nil))) (pe_one (pe_not (pe_callB call_isi (by rfl) T.n_isinstance (by decide +kernel) (pa_cons (pv 0) (pa_cons (pe_bltn (v := .ty "bool") rfl T.n_bool (by decide +kernel) rfl) pa_nil)))))))), ?_⟩
    obtain ⟨t, ty, k1, k2⟩ := h.isInt I
    refine ⟨_, rfl, x, .ty "int", t, _, _, rfl, .ty _, ty, k1, _, rfl, ?_⟩
    cases e : isIB x with
    | true =>
      refine iteT ⟨_, rfl, x, .ty "bool", t, _, _, rfl, .ty _, ty, k2, _, rfl, ?_⟩
      have : (!isB x) = isI x := by cases x <;> first | rfl | (simp [isIB] at e)
      rw [this]
      exact k
    | false =>
      refine iteF ?_
      have : isI x = false := by cases x <;> first | rfl | (simp [isIB] at e)
      rw [this] at k
      exact k
end
end KI
set_option Elab.async false
set_option linter.all false
set_option maxRecDepth 100000
set_option maxHeartbeats 4000000
namespace L2
open PySem PySem.Spec PyProof.Rows
/-- C.m(e, ..), C a class of the text by its global name, m a plain def of it, read off the class -/
structure ClsFn (K : PySem.W.Frag) (C : Addr) (mc : Value) (m : Str) (g : Addr) : Prop where
  rd : PySem.W.readsIn K C mc = true
  ga : PySem.W.specialIn K (.ref C) "__getattribute__" = some (some (.builtin "type.__getattribute__"))
  at_ : PySem.W.findCls K (.ref C) mc m = some (.val (.ref g))
  kp : PySem.W.keepIn K (.ref g) = true
theorem pe_clsfn {X : Cx} {CX : CXT} {k : Nat} {C g : Addr} {mc : Value} {fd : FuncData} {ps : List Str} {sp : Sp} {E : XK} {x m : Str} {p1 p2 pos : Pos} {e : Expr} {es : List Expr} {t : TA} {pl : Sem Bool}
    (c : ClsFn X.K C mc m g) (F : FnOk X.prog X.w X.K X.mg X.base CX k g fd ps sp) (hr : Room k X.A) (hg : Gl X x) (hm : X.mg x = some (.ref C)) (hb : Binds X.K fd ps []) (hx : Passes CX X E) (ha : PA X (e :: es) t) (hdb : (x == ("__debug__" : Str)) = false := by decide)
    (hc : eval (.Call (.Attribute (.Name x p1) m p2) (e :: es) [] pos) X.env = (do
      let ov ← eval (.Name x p1) X.env
      standAt p2.atName
      let (f, first) ← holding [ov] (getMethod ov m pl)
      callWith pos f first (backTo pos (starEach (e :: es) X.env)) (backToKw pos (keywordEach [] X.env))) := by rfl)
    (he : starEach (e :: es) X.env = (false, eval e X.env) :: starEach es X.env := by rfl) (hpl : (backTo pos (starEach es X.env)).any (·.1) = false := by rfl) :
    PE X (.Call (.Attribute (.Name x p1) m p2) (e :: es) [] pos) (tCall sp [] E t) := by
  refine ⟨fun pins s σ H Q I h => ?_⟩
  refine PySem.W.methodCall_KW (ld_glob I hg hm ?_ hdb) hc
  refine PySem.W.method_cls I.kIn c.ga (PySem.W.cls_value I.kIn c.rd c.at_ rfl ?_)
  have J := I.tok (s.toks + 1)
  show wpAny _ _ (callWith pos (Value.ref g) [] (backTo pos (starEach (e :: es) X.env)) []) _ _ _
  refine PySem.W.callWith_K (h₀ := X.base) J.ok.mod.kin c.kp (thn (ha.run pos pins _ σ H _ J h) fun us s1 ⟨vs, H1, I1, r, q⟩ => ⟨I1.kIn, ?_⟩) he hpl
  exact run_fn F hr hb .nil hx I1 r q
end L2
namespace KI
open PySem L2
section
variable {P : Program} {w : World} {K : PySem.W.Frag} {mg : Str → Option Value} {base : Heap}
/-- WalkError.__init__, of an exception that is being made -/
def spWE (K : PySem.W.Frag) : Sp := fun vs H Q _ => ∃ (a C : Addr) (y : V), vs = [.ref a, y] ∧ OexC K C ∧ H a = some (exo a C none) ∧ Q .non H
abbrev s_WE : Stmt := inClass (top 2) 0
theorem sc_WE : FnScope ["self", "words"] ["self", "words"] (defScope s_WE) := ⟨rfl, rfl, rfl, by decide +kernel, rfl, by decide +kernel, by decide +kernel⟩
theorem ok_WE {f : Addr} {fd : FuncData} {dvs : List V} (F : FunD K "__init__" "WalkError.__init__" (defArgs s_WE) (defBody s_WE) (defScope s_WE) dvs [] f fd) (T : Bn mg) (vV : PySem.W.findCls K (.type "ValueError") (.type "type") "__init__" = some (.val (.builtin "ValueError.__init__"))) :
    FnOk P w K mg base CX0 1 f fd ["self", "words"] (spWE K) := by
  refine F.ok sc_WE (fun vs H Q E h => ?_) (fun cdv A outer s H vs Q E hr h => ?_)
  · obtain ⟨a, C, y, rfl, _⟩ := h
    rfl
  · obtain ⟨a, C, y, rfl, O, ha, k⟩ := h
    refine ⟨_, pss_one (ps_expr (pe_veinit rfl T.n_ValueError vV (pa_cons (pv 0) (pa_cons (pv 1) pa_nil)))), ?_⟩
    exact ⟨_, rfl, _, rfl, a, C, [y], rfl, by show 1 ≤ 1000; decide, O, ha, k⟩
/-- BadShare.__init__: the two things are kept -/
def spBS (K : PySem.W.Frag) (B : Addr) : Sp := fun vs H Q _ => ∃ (a : Addr) (y z : V), vs = [.ref a, y, z] ∧ OexC K B ∧ PySem.W.findIn K (.ref B) "top" = some none ∧ PySem.W.findIn K (.ref B) "bottom" = some none ∧ H a = some (exo a B none) ∧
  ∀ dx, H dx = none → dx ≠ a → Q .non (upd (upd (upd H dx (exd dx [("top", y)])) a (exo a B (some dx))) dx (exd dx [("bottom", z), ("top", y)]))
abbrev s_BS : Stmt := inClass (top 3) 0
theorem sc_BS : FnScope ["self", "top", "bottom"] ["self", "top", "bottom"] (defScope s_BS) := ⟨rfl, rfl, rfl, by decide +kernel, rfl, by decide +kernel, by decide +kernel⟩
theorem ok_BS {f g W B : Addr} {mc : Value} {fd fdW : FuncData} (F : Fun K "__init__" "BadShare.__init__" s_BS f fd) (gW : mg "WalkError" = some (.ref W)) (c : ClsFn K W mc "__init__" g) (FW : FnOk P w K mg base CX0 1 g fdW ["self", "words"] (spWE K)) (bW : Binds K fdW ["self", "words"] []) :
    FnOk P w K mg base CX0 2 f fd ["self", "top", "bottom"] (spBS K B) := by
  refine F.ok sc_BS (fun vs H Q E h => ?_) (fun cdv A outer s H vs Q E hr h => ?_)
  · obtain ⟨a, y, z, rfl, _⟩ := h
    rfl
  · obtain ⟨a, y, z, rfl, O, nt, nb, ha, k⟩ := h
    refine ⟨_, pss_cons (ps_expr (pe_clsfn c FW hr rfl gW bW pass0 (pa_cons (pv 0) (pa_cons pe_str pa_nil))))
      (pss_cons (ps_ost (pv 0) (pv 1)) (pss_one (ps_ost (pv 0) (pv 2)))), ?_⟩
    refine ⟨_, rfl, a, B, _, rfl, O, ha, ?_⟩
    refine ⟨_, rfl, _, rfl, a, B, rfl, O, nt, .inl ⟨ha, fun dx hd ne => ?_⟩⟩
    refine ⟨_, rfl, _, rfl, a, B, rfl, O, nb, .inr ⟨dx, [("top", y)], upd_same, ?_, by show 1 ≤ 900; decide, ?_⟩⟩
    · rw [upd_ne ne, upd_same]
    · exact k dx hd ne
end
end KI
set_option Elab.async false
set_option linter.all false
set_option maxRecDepth 100000
set_option maxHeartbeats 4000000
namespace L2
open PySem PySem.Spec PyProof.Rows
/-- // by any divisor but 0 below 2 ^ 9000 -/
def CDivG (_ j : Int) : Prop := j ≠ 0 ∧ j.natAbs.log2 < 9000
theorem op_fdivG {X : Cx} : OpR X (binaryOp .FloorDiv) (rI CDivG fun i j => .int (i.fdiv j)) := opI fun _ _ _ _ _ _ _ hc q => floordiv_int hc.1 q (.inl (PyProof.noPylong_of_log2 hc.2))
end L2
namespace KI
open PySem L2
/-! ### a share's numbers -/
theorem kTB : ¬ (("top" : Str) = "bottom") := by decide +kernel
def shF (t n : Int) : List (Str × V) := putF "bottom" (.int n) (putF "top" (.int t) [])
theorem shF_top (t n : Int) : (shF t n).lookup ("top" : Str) = some (.int t) := by
  unfold shF
  rw [lookup_putF, if_neg kTB, lookup_putF, if_pos rfl]
theorem shF_bottom (t n : Int) : (shF t n).lookup ("bottom" : Str) = some (.int n) := by
  unfold shF
  rw [lookup_putF, if_pos rfl]
/-- the divisor: the greatest common one, with the bottom's sign -/
def sg (a b : Int) : Int := if 0 < b then ((Nat.gcd a.natAbs b.natAbs : Nat) : Int) else -((Nat.gcd a.natAbs b.natAbs : Nat) : Int)
def lowT (a b : Int) : Int := a.fdiv (sg a b)
def lowB (a b : Int) : Int := b.fdiv (sg a b)
theorem sg_abs (a b : Int) : (sg a b).natAbs = Nat.gcd a.natAbs b.natAbs := by
  unfold sg
  split
  · exact Int.natAbs_natCast _
  · rw [Int.natAbs_neg]
    exact Int.natAbs_natCast _
theorem gcd_pos {a b : Int} (hb : b ≠ 0) : 0 < Nat.gcd a.natAbs b.natAbs := Nat.gcd_pos_of_pos_right _ (Int.natAbs_pos.mpr hb)
theorem gcd_le {a b : Int} (hb : b ≠ 0) : Nat.gcd a.natAbs b.natAbs ≤ b.natAbs := Nat.gcd_le_right _ (Int.natAbs_pos.mpr hb)
theorem sg_ne {a b : Int} (hb : b ≠ 0) : sg a b ≠ 0 := fun z => by
  have h := sg_abs a b
  rw [z] at h
  have := gcd_pos (a := a) hb
  have h0 : (0 : Int).natAbs = 0 := rfl
  omega
theorem log2_mono {m n : Nat} (h : m ≤ n) : m.log2 ≤ n.log2 := by
  by_cases hm : m = 0
  · subst hm
    exact Nat.zero_le _
  · have hn : n ≠ 0 := by omega
    exact (Nat.le_log2 hn).mpr (Nat.le_trans (Nat.log2_self_le hm) h)
theorem sg_div {a b : Int} (hb : b ≠ 0) (hl : b.natAbs.log2 < 9000) (i : Int) : CDivG i (sg a b) :=
  ⟨sg_ne hb, by rw [sg_abs]; exact Nat.lt_of_le_of_lt (log2_mono (gcd_le hb)) hl⟩
/-! ### Share.__init__ -/
def bad (p q : V) : Prop := isI p = false ∨ isI q = false ∨ q = .int 0
def xF (p q : V) : List (Str × V) := [("bottom", q), ("top", p)]
def spSI (K : PySem.W.Frag) (C B : Addr) : Sp := fun vs H Q E => ∃ (x dx : Addr) (p q : V), vs = [.ref x, p, q] ∧ H x = some (.ins C dx []) ∧ Thing K C H p ∧ Thing K C H q ∧
  ((∃ a b : Int, p = .int a ∧ q = .int b ∧ b ≠ 0 ∧ b.natAbs.log2 < 9000 ∧ Q .non (upd H x (.ins C dx (shF (lowT a b) (lowB a b))))) ∨
    (bad p q ∧ ∀ (d : Addr) (H' : Hp), H d = none → Same H H' → H' d = some (.xd (xF p q)) → E (.ref B) (some d) H'))
/-- what the walk asks of the class Share -/
structure ShT (K : PySem.W.Frag) (mg : Str → Option Value) (C : Addr) : Prop where
  bn : Bn mg
  it : InsT K C
  nT : NoAttr K C "top"
  nB : NoAttr K C "bottom"
  g_gcd : mg "gcd" = some (.builtin "math.gcd")
  g_Share : mg "Share" = some (.ref C)
/-- .. of the class BadShare -/
structure BsT (P : Program) (w : World) (K : PySem.W.Frag) (mg : Str → Option Value) (base : Heap) (B : Addr) : Prop where
  O : OexC K B
  nt : PySem.W.findIn K (.ref B) "top" = some none
  nb : PySem.W.findIn K (.ref B) "bottom" = some none
  gB : mg "BadShare" = some (.ref B)
  made : ∃ (fI : Addr) (fd : FuncData), PySem.W.findIn K (.ref B) "__init__" = some (some (.ref fI)) ∧ PySem.W.typeIn K (.ref fI) = some (.type "function") ∧ FnOk P w K mg base CX0 2 fI fd ["self", "top", "bottom"] (spBS K B) ∧ Binds K fd ["self", "top", "bottom"] []
section
variable {P : Program} {w : World} {K : PySem.W.Frag} {mg : Str → Option Value} {base : Heap} {C B : Addr}
theorem iteB {c : Bool} {A B : Prop} (h1 : c = true → A) (h2 : c = false → B) : if c = true then A else B := by
  cases c
  · rw [if_neg (by decide)]
    exact h2 rfl
  · rw [if_pos rfl]
    exact h1 rfl
/-- the exception's dict behind the call of its class -/
theorem bs_end {H : Hp} {a dx : Addr} {p q : V} {B : Addr} (ha : H a = none) (hd : (upd H a (exo a B none)) dx = none) (ne : dx ≠ a) :
    Same H (upd (L2.del (upd (upd (upd (upd H a (exo a B none)) dx (exd dx [("top", p)])) a (exo a B (some dx))) dx (exd dx (xF p q))) a) dx (.xd (xF p q))) := fun b o h => by
  have nb : b ≠ a := ne_of_none h ha
  have nd : b ≠ dx := fun z => by rw [upd_ne ne] at hd; rw [z, hd] at h; cases h
  rw [upd_ne nd, del_ne nb, upd_ne nd, upd_ne nb, upd_ne nd, upd_ne nb]
  exact h
theorem isI_int {p : V} (h : isI p = true) : ∃ a, p = .int a := by cases p <;> first | exact ⟨_, rfl⟩ | cases h
abbrev s_SI : Stmt := inClass (top 20) 0
theorem sc_SI : FnScope ["self", "top", "bottom", "common"] ["self", "top", "bottom"] (defScope s_SI) := ⟨rfl, rfl, rfl, by decide +kernel, rfl, by decide +kernel, by decide +kernel⟩
theorem ok_SI {f : Addr} {fd : FuncData} {dvs : List V} (F : FunD K "__init__" "Share.__init__" (defArgs s_SI) (defBody s_SI) (defScope s_SI) dvs [] f fd) (T : ShT K mg C) (Bt : BsT P w K mg base B) (c_is_whole : Cal P w K mg base 1 "is_whole" ["thing"] (spWhole K C)) :
    FnOk P w K mg base (L2.CX P w) 4 f fd ["self", "top", "bottom"] (spSI K C B) := by
  obtain ⟨fI, fdI, iC, tI, FI, bI⟩ := Bt.made
  refine F.ok sc_SI (fun vs H Q E h => ?_) (fun cdv A outer s H vs Q E hr h => ?_)
  · obtain ⟨x, dx, p, q, rfl, _⟩ := h
    rfl
  · obtain ⟨x, dx, p, q, rfl, hx, hp, hq, k⟩ := h
    refine ⟨_, (pss_cons (ps_if (PW.pt (pw_or (pt_not (pt_val (pe_cal c_is_whole (hr.mono (by decide)) rfl (pa_cons (pv 1) pa_nil)))) (pw_or (pt_not (pt_val (pe_cal c_is_whole (hr.mono (by decide)) rfl (pa_cons (pv 2) pa_nil)))) (pw_or1 (pt_cmpR op_eq (pv 2) pe_int (nomark _))))))
        (pss_one (ps_raise (W := fun cls d _ H => E cls d H) rfl (takes_of rfl rfl rfl rfl) (pmk_oex Bt.O iC tI FI hr bI .nil pass0 rfl Bt.gB (pa_cons (pv 1) (pa_cons (pv 2) pa_nil)))))
        pss_nil)
      (pss_cons (ps_set (i := 3) sc_SI.nd rfl (Or.inl rfl) (pe_ifExp (pt_cmpR op_gt (pv 2) pe_int (nomark _)) (pe_callBfun cr_gcd rfl T.g_gcd (pa_cons (pv 1) (pa_cons (pv 2) pa_nil))) (pe_un un_neg (pe_callBfun cr_gcd rfl T.g_gcd (pa_cons (pv 1) (pa_cons (pv 2) pa_nil))))))
      (pss_cons (ps_fld (pv 0) (pe_op op_fdivG (pv 1) (pv 3)) rfl)
      (pss_one (ps_fld (pv 0) (pe_op op_fdivG (pv 2) (pv 3)) rfl))))), ?_⟩
    -- BadShare(top, bottom)
    have raise : bad p q → ∀ (σ : St), σ[1]? = some (some p) → σ[2]? = some (some q) →
        tMkO B (spBS K B) [] (tCons (tVar 1) (tCons (tVar 2) tNil)) σ H (fun cls d H' => E cls d H') := by
      intro hb σ h1 h2
      rcases k with ⟨a, b, rfl, rfl, nz, _⟩ | ⟨_, k⟩
      · rcases hb with z | z | z
        · cases z
        · cases z
        · exact absurd (V.int.inj z) nz
      · refine ⟨p, h1, q, h2, by show 2 ≤ 1000; decide, fun a ha => ?_⟩
        refine ⟨a, p, q, rfl, Bt.O, Bt.nt, Bt.nb, upd_same, fun d hd ne => ⟨rfl, d, xF p q, ?_, upd_same, ?_, ?_⟩⟩
        · rw [upd_ne ne.symm, upd_same]
        · rw [upd_ne ne] at hd
          exact hd
        · refine k d _ ?_ (bs_end ha hd ne) upd_same
          rw [upd_ne ne] at hd
          exact hd
    refine ⟨_, rfl, p, rfl, hp, _, rfl, iteB (fun z => ?_) (fun z => ?_)⟩
    · refine iteT (raise (.inl ?_) _ rfl rfl)
      simpa using z
    · refine ⟨_, rfl, q, rfl, hq, _, rfl, iteB (fun z2 => ?_) (fun z2 => ?_)⟩
      · refine iteT (raise (.inr (.inl ?_)) _ rfl rfl)
        simpa using z2
      · obtain ⟨a, rfl⟩ := isI_int (p := p) (by simpa using z)
        obtain ⟨b, rfl⟩ := isI_int (p := q) (by simpa using z2)
        refine ⟨_, rfl, rfl, _, rfl, ?_⟩
        refine ite2 (fun e => ?_) (fun e => ?_)
        · have e' : V.int b = V.int 0 := of_decide_eq_true e
          exact raise (.inr (.inr e')) _ rfl rfl
        · have nz : b ≠ 0 := fun z => e (by rw [z]; exact decide_eq_true rfl)
          rcases k with ⟨a', b', ea, eb, _, hl, k⟩ | ⟨hb, _⟩
          · cases ea
            cases eb
            -- common
            refine ⟨_, rfl, _, _, rfl, rfl, _, rfl, ?_⟩
            have rest : ∀ c : Int, c = sg a b → (tSeq (sFld K (tVar 0) (tOp (rI CDivG fun i j => .int (i.fdiv j)) (tVar 1) (tVar 3)) "top") (sFld K (tVar 0) (tOp (rI CDivG fun i j => .int (i.fdiv j)) (tVar 2) (tVar 3)) "bottom"))
                { nx := fun _ H' => Q .non H', rt := Q } [some (.ref x), some (.int a), some (.int b), some (.int c)] H := by
              rintro c rfl
              refine ⟨_, rfl, _, rfl, a, sg a b, rfl, rfl, sg_div nz hl a, ?_⟩
              refine ⟨_, rfl, x, C, dx, [], rfl, hx, T.it.cl, T.nT, by show 0 < 1000; decide, ?_⟩
              refine ⟨_, rfl, _, rfl, b, sg a b, rfl, rfl, sg_div nz hl b, ?_⟩
              refine ⟨_, rfl, x, C, dx, _, rfl, upd_same, T.it.cl, T.nB, by show 1 < 1000; decide, ?_⟩
              rw [upd_upd]
              exact k
            refine ite2 (fun e2 => ?_) (fun e2 => ?_)
            · refine ⟨_, rfl, _, rfl, a, b, rfl, ?_⟩
              refine rest _ ?_
              unfold sg
              rw [if_pos (of_decide_eq_true e2)]
            · refine ⟨_, rfl, _, rfl, a, b, rfl, _, rfl, ?_⟩
              refine rest _ ?_
              unfold sg
              rw [if_neg (fun z => e2 (decide_eq_true z))]
          · rcases hb with z | z | z
            · cases z
            · cases z
            · exact absurd (V.int.inj z) nz
end
end KI
set_option Elab.async false
set_option linter.all false
set_option maxRecDepth 100000
set_option maxHeartbeats 4000000
namespace KI
open PySem L2
/-- == of a share at a and y -/
def EqS (K : PySem.W.Frag) (C : Addr) (a : Addr) (y : V) (b : Bool) (H : Hp) : Prop := ∃ (dx : Addr) (t n : Int), H a = some (.ins C dx (shF t n)) ∧
  ((∃ (c dy : Addr) (t' n' : Int), y = .ref c ∧ H c = some (.ins C dy (shF t' n')) ∧ b = (decide (V.int t = V.int t') && decide (V.int n = V.int n'))) ∨
    (∃ T, Fo K H y T) ∧ b = (isI y && (decide (V.int n = V.int 1) && decide (V.int t = y))))
section
variable {P : Program} {w : World} {K : PySem.W.Frag} {mg : Str → Option Value} {base : Heap} {C B : Addr}
abbrev s_eq : Stmt := inClass (top 20) 8
theorem sc_eq : FnScope ["self", "other"] ["self", "other"] (defScope s_eq) := ⟨rfl, rfl, rfl, by decide +kernel, rfl, by decide +kernel, by decide +kernel⟩
theorem ok_eq {f : Addr} {fd : FuncData} (F : Fun K "__eq__" "Share.__eq__" s_eq f fd) (T : ShT K mg C) (c_is_whole : Cal P w K mg base 1 "is_whole" ["thing"] (spWhole K C)) :
    FnOk P w K mg base CX0 2 f fd ["self", "other"] (spOwn (EqS K C)) := by
  refine F.ok sc_eq (fun vs H Q E h => ?_) (fun cdv A outer s H vs Q E hr h => ?_)
  · obtain ⟨a, y, b, rfl, _⟩ := h
    rfl
  · obtain ⟨a, y, b, rfl, ⟨dx, t, n, ha, hy⟩, k⟩ := h
    refine ⟨_, (pss_cons (ps_if (pt_val (pe_callB call_isi (by rfl) T.bn.n_isinstance (by decide +kernel) (pa_cons (pv 1) (pa_cons (pe_glob (v := .ref C) rfl T.g_Share rfl) pa_nil))))
        (pss_one (ps_ret (pe_and (pe_cmpR op_eq (pe_fld (pv 0) rfl) (pe_fld (pv 1) rfl) (nomark _)) (pe_one (pe_cmpR op_eq (pe_fld (pv 0) rfl) (pe_fld (pv 1) rfl) (nomark _))))))
        pss_nil)
      (pss_one (ps_ret (pe_and (pe_cal c_is_whole (hr.mono (by decide)) rfl (pa_cons (pv 1) pa_nil)) (pe_and (pe_cmpR op_eq (pe_fld (pv 0) rfl) pe_int (nomark _)) (pe_one (pe_cmpR op_eq (pe_fld (pv 0) rfl) (pv 1) (nomark _)))))))), ?_⟩
    rcases hy with ⟨c, dy, t', n', rfl, hc, rfl⟩ | ⟨⟨T', hT⟩, rfl⟩
    · refine ⟨_, rfl, .ref c, .ref C, _, _, true, rfl, .own C, T.it.ty hc, T.it.kself, _, rfl, iteT ?_⟩
      refine ⟨_, rfl, a, C, dx, _, _, rfl, ha, T.it.cl, T.nT, shF_top _ _, _, rfl, c, C, dy, _, _, rfl, hc, T.it.cl, T.nT, shF_top _ _, rfl, _, rfl, iteB (fun z => ?_) (fun z => ?_)⟩
      · refine ⟨_, rfl, a, C, dx, _, _, rfl, ha, T.it.cl, T.nB, shF_bottom _ _, _, rfl, c, C, dy, _, _, rfl, hc, T.it.cl, T.nB, shF_bottom _ _, rfl, ?_⟩
        rw [z, Bool.true_and] at k
        exact k
      · rw [z, Bool.false_and] at k
        exact k
    · refine ⟨_, rfl, y, .ref C, _, _, false, rfl, .own C, hT.ty, T.it.fo hT, _, rfl, iteF ?_⟩
      refine ⟨_, rfl, y, rfl, .fo hT, _, rfl, iteB (fun z => ?_) (fun z => ?_)⟩
      · rw [z, Bool.true_and] at k
        obtain ⟨i, rfl⟩ := isI_int z
        refine ⟨_, rfl, a, C, dx, _, _, rfl, ha, T.it.cl, T.nB, shF_bottom _ _, rfl, _, rfl, iteB (fun z => ?_) (fun z => ?_)⟩
        · refine ⟨_, rfl, a, C, dx, _, _, rfl, ha, T.it.cl, T.nT, shF_top _ _, _, rfl, rfl, ?_⟩
          rw [z, Bool.true_and] at k
          exact k
        · rw [z, Bool.false_and] at k
          exact k
      · rw [z, Bool.false_and] at k
        exact k
end
end KI
set_option Elab.async false
set_option linter.all false
set_option maxRecDepth 100000
set_option maxHeartbeats 4000000
namespace KI
open PySem L2
/-! ### the pool of the draws -/
/-- its list: a number below 2 ^ 64, and what is left of the greatest cell -/
def PoolL (o : HO) : Prop := ∃ n g : Int, o = .lst [.int n, .int g] ∧ 0 ≤ n ∧ n < 2 ^ 64 ∧ 0 ≤ g
def PoolAt (H : Hp) (a : Addr) : Prop := ∃ o, H a = some o ∧ PoolL o
theorem PoolAt.put {H : Hp} {a : Addr} {o : HO} (h : PoolL o) : PoolAt (upd H a o) a := ⟨o, upd_same, h⟩
/-- all that was tracked, but the pool, stands -/
def Keep (a : Addr) (H H' : Hp) : Prop := ∀ b o, H b = some o → b ≠ a → H' b = some o
theorem Keep.refl (a : Addr) (H : Hp) : Keep a H H := fun _ _ h _ => h
theorem Keep.trans {a : Addr} {H H1 H2 : Hp} (x : Keep a H H1) (y : Keep a H1 H2) : Keep a H H2 := fun b o h n => y b o (x b o h n) n
theorem Keep.put {a : Addr} {H : Hp} (o : HO) : Keep a H (upd H a o) := fun b u h n => by rw [upd_ne n]; exact h
theorem Keep.of {a : Addr} {H H' : Hp} (s : Same H H') : Keep a H H' := fun b o h _ => s b o h
theorem Same.put {H : Hp} {p : Addr} {o : HO} (h : H p = none) : Same H (upd H p o) := fun b u e => by rw [upd_ne (ne_of_none e h)]; exact e
theorem PoolAt.new {H : Hp} {a p : Addr} {o : HO} (h : PoolAt H a) (hp : H p = none) : PoolAt (upd H p o) a := by
  obtain ⟨u, e, q⟩ := h
  exact ⟨u, by rw [upd_ne (ne_of_none e hp)]; exact e, q⟩
theorem PoolAt.same {H H' : Hp} {a : Addr} (h : PoolAt H a) (s : Same H H') : PoolAt H' a := by
  obtain ⟨u, e, q⟩ := h
  exact ⟨u, s _ _ e, q⟩
theorem PoolAt.ne {H : Hp} {a b : Addr} {xs : List V} (h : PoolAt H a) (e : H b = some (.tup xs)) : b ≠ a := fun z => by
  obtain ⟨u, e2, n, g, q, _⟩ := h
  rw [z, e2, q] at e
  cases e
theorem PoolAt.nei {H : Hp} {a b C dx : Addr} {fs : List (Str × V)} (h : PoolAt H a) (e : H b = some (.ins C dx fs)) : b ≠ a := fun z => by
  obtain ⟨u, e2, n, g, q, _⟩ := h
  rw [z, e2, q] at e
  cases e
theorem SqT.put {K : PySem.W.Frag} {H : Hp} {a t : Addr} {xs : List V} {o : HO} (h : PoolAt H a) (s : SqT K H t xs) : SqT K (upd H a o) t xs := by
  obtain ⟨u, e2, n, g, q, _⟩ := h
  rcases s with (s | ⟨ob, s⟩) | s
  · refine .inl (.inl ?_)
    rw [upd_ne (fun z => by rw [z, e2, q] at s; cases s)]
    exact s
  · refine .inl (.inr ⟨ob, ?_⟩)
    rw [upd_ne (fun z => by rw [z, e2, q] at s; cases s)]
    exact s
  · exact .inr s
/-- the next number of the pool -/
def nextN (n : Int) : Int := ((n + 7919) * 6364136223846793005 + 1442695040888963407).fmod ((2 : Int) ^ (64 : Int).toNat)
theorem nextN_ok (n : Int) : 0 ≤ nextN n ∧ nextN n < 2 ^ 64 := by
  have e2 : ((2 : Int) ^ (64 : Int).toNat) = 18446744073709551616 := by decide +kernel
  unfold nextN
  rw [e2, Int.fmod_eq_emod_of_nonneg _ (by decide)]
  exact ⟨Int.emod_nonneg _ (by decide), Int.emod_lt_of_pos _ (by decide)⟩
def spDraw : Sp := fun vs H Q _ => ∃ (a : Addr) (m : Int), vs = [.ref a, .int m] ∧ PoolAt H a ∧ 0 < m ∧ m.natAbs.log2 < 9000 ∧ ∀ (r : Int) (o : HO), 0 ≤ r → r < m → PoolL o → Q (.int r) (upd H a o)
theorem log_small {m : Int} {b : Nat} (h : m.natAbs < 2 ^ b) (h0 : 0 < b) (hb : b ≤ 9000) : m.natAbs.log2 < 9000 := Nat.lt_of_lt_of_le (PySem.Flt.log2_lt_of h0 h) hb
theorem at0 {x y : V} : atI [x, y] 0 = some x := by
  have h : ([x, y] : List V)[0]? = some x := rfl
  exact atI_nat h
theorem at1 {x y : V} : atI [x, y] 1 = some y := by
  have h : ([x, y] : List V)[1]? = some y := rfl
  exact atI_nat h
section
variable {P : Program} {w : World} {K : PySem.W.Frag} {mg : Str → Option Value} {base : Heap} {C B : Addr}
abbrev s_draw : Stmt := top 42
theorem sc_draw : FnScope ["_law_pool_here", "_law_many", "_law_digit"] ["_law_pool_here", "_law_many"] (defScope s_draw) := ⟨rfl, rfl, rfl, by decide +kernel, rfl, by decide +kernel, by decide +kernel⟩
theorem ok_draw {f : Addr} {fd : FuncData} (F : Fun K "_law_draw" "_law_draw" s_draw f fd) (T : Bn mg) : FnOk P w K mg base CX0 1 f fd ["_law_pool_here", "_law_many"] spDraw := by
  refine F.ok sc_draw (fun vs H Q E h => ?_) (fun cdv A outer s H vs Q E hr h => ?_)
  · obtain ⟨a, m, rfl, _⟩ := h
    rfl
  · obtain ⟨a, m, rfl, ⟨_, ha, n, g, rfl, n0, n1, g0⟩, m0, ml, k⟩ := h
    have ia : ∀ {H' : Hp} {n g : Int}, H' a = some (.lst [.int n, .int g]) → SqL K H' a [.int n, .int g] := fun h => SqL.of h
    refine ⟨_, (pss_cons (ps_if (pt_cmpR op_ge (pe_ix ix_list (pv 0) pe_int (fun _ _ => rfl)) (pe_op op_pow pe_int pe_int) (nomark _))
        (pss_cons (ps_set (i := 2) sc_draw.nd rfl (Or.inl rfl) (pe_op op_modN (pe_callTy call_int1 (by rfl) T.n_int (by decide +kernel) (pa_cons (pe_ix ix_list (pv 0) pe_int (fun _ _ => rfl)) pa_nil)) (pv 1)))
          (pss_cons (ps_asg (pe_op op_fdivW (pe_ix ix_list (pv 0) pe_int (fun _ _ => rfl)) (pv 1)) (pg_sub (pv 0) pe_int set_list))
          (pss_one (ps_ret (pv 2)))))
        pss_nil)
      (pss_cons (ps_asg (pe_op op_modN (pe_callTy call_int1 (by rfl) T.n_int (by decide +kernel) (pa_cons (pe_op op_add (pe_op op_mul (pe_callTy call_int1 (by rfl) T.n_int (by decide +kernel) (pa_cons (pe_op op_add (pe_ix ix_list (pv 0) pe_int (fun _ _ => rfl)) pe_int) pa_nil)) pe_int) pe_int) pa_nil)) (pe_op op_pow pe_int pe_int)) (pg_sub (pv 0) pe_int set_list))
      (pss_one (ps_ret (pe_op op_modN (pe_callTy call_int1 (by rfl) T.n_int (by decide +kernel) (pa_cons (pe_op op_fdivW (pe_ix ix_list (pv 0) pe_int (fun _ _ => rfl)) pe_int) pa_nil)) (pv 1)))))), ?_⟩
    refine ⟨_, rfl, a, _, 1, _, rfl, rfl, ia ha, at1, 10, 9, rfl, rfl, ⟨by decide, by decide, by decide⟩, g, _, rfl, rfl, _, rfl, ite2 (fun e => ?_) (fun e => ?_)⟩
    · refine ⟨_, rfl, a, _, 1, _, rfl, rfl, ia ha, at1, .inl ⟨g, rfl, _, rfl, g, m, rfl, rfl, by omega, ?_⟩⟩
      refine ⟨_, rfl, a, _, 1, _, rfl, rfl, ia ha, at1, _, rfl, g, m, rfl, rfl, ⟨m0, ml⟩, ?_⟩
      refine ⟨_, rfl, a, _, 1, 1, rfl, rfl, ha, rfl, _, rfl, ?_⟩
      have e1 : g.fmod m = g % m := Int.fmod_eq_emod_of_nonneg g (by omega)
      show Q (.int (g.fmod m)) (upd H a (.lst [.int n, .int (g / m)]))
      rw [e1]
      exact k _ _ (Int.emod_nonneg g (by omega)) (Int.emod_lt_of_pos g m0) ⟨n, g / m, rfl, n0, n1, Int.ediv_nonneg g0 (by omega)⟩
    · refine ⟨_, rfl, a, _, 0, _, rfl, rfl, ia ha, at0, n, 7919, rfl, rfl, .inl ⟨n + 7919, rfl, _, _, rfl, rfl, .inr ⟨by decide, by decide⟩, _, _, rfl, rfl, .inl ⟨_, rfl, ?_⟩⟩⟩
      refine ⟨2, 64, rfl, rfl, ⟨by decide, by decide, by decide⟩, _, _, rfl, rfl, (by show ((2 : Int) ^ (64 : Int).toNat) ≠ 0; decide +kernel), ?_⟩
      refine ⟨_, rfl, a, _, 0, 0, rfl, rfl, ha, rfl, ?_⟩
      obtain ⟨z0, z1⟩ := nextN_ok n
      refine ⟨_, rfl, a, _, 0, _, rfl, rfl, ia (n := nextN n) (g := g) upd_same, at0, nextN n, 65536, rfl, rfl, ⟨by decide, by decide⟩, .inl ⟨_, rfl, _, rfl, _, m, rfl, rfl, by omega, ?_⟩⟩
      have e1 : (nextN n / 65536).fmod m = (nextN n / 65536) % m := Int.fmod_eq_emod_of_nonneg _ (by omega)
      show Q (.int ((nextN n / 65536).fmod m)) (upd H a (.lst [.int (nextN n), .int g]))
      rw [e1]
      exact k _ _ (Int.emod_nonneg _ (by omega)) (Int.emod_lt_of_pos _ m0) ⟨nextN n, g, rfl, z0, z1, g0⟩
abbrev s_pick : Stmt := top 43
theorem sc_pick : FnScope ["_law_pool_here", "_law_things"] ["_law_pool_here", "_law_things"] (defScope s_pick) := ⟨rfl, rfl, rfl, by decide +kernel, rfl, by decide +kernel, by decide +kernel⟩
end
end KI
set_option Elab.async false
set_option linter.all false
set_option maxRecDepth 100000
set_option maxHeartbeats 4000000
namespace KI
open PySem L2
theorem take_more {α : Type} : ∀ {l : List α} {i : Nat} {x : α}, l[i]? = some x → l.take (i + 1) = l.take i ++ [x]
  | [], i, x, h => by simp at h
  | a :: l, 0, x, h => by
    have e : a = x := Option.some.inj h
    subst e
    rfl
  | a :: l, i + 1, x, h => by
    have ih := take_more (l := l) (i := i) (x := x) h
    show a :: l.take (i + 1) = a :: l.take i ++ [x]
    rw [ih]
    rfl
theorem at_map {ms : List Int} {i : Nat} {x : V} (h : (ms.map V.int)[i]? = some x) : ∃ z, ms[i]? = some z ∧ x = .int z := by
  rw [List.getElem?_map] at h
  cases e : ms[i]? with
  | none => rw [e] at h; cases h
  | some z => rw [e] at h; exact ⟨z, rfl, (Option.some.inj h).symm⟩
theorem cut_map (ns : List Int) (lo hi : Option Int) : ∃ ms : List Int, cutV (ns.map V.int) lo hi = ms.map V.int ∧ ms.length ≤ ns.length := by
  refine ⟨(ns.drop (HT.sIx (ns.map V.int).length 0 lo)).take (HT.sIx (ns.map V.int).length (ns.map V.int).length hi - HT.sIx (ns.map V.int).length 0 lo), ?_, ?_⟩
  · unfold cutV
    rw [List.map_take, List.map_drop]
  · rw [List.length_take, List.length_drop]
    omega
theorem yes_of {σ : St} {H : Hp} {A B : Hp → Prop} (h : A H) : tYes σ H (fun b H3 => if b = true then A H3 else B H3) := by
  show (if true = true then A H else B H)
  rw [if_pos rfl]
  exact h
def spPool (K : PySem.W.Frag) : Sp := fun vs H Q _ => ∃ (a : Addr) (ns : List Int), vs = [.ref a] ∧ SqL K H a (ns.map V.int) ∧ ns.length ≤ 63 ∧ ∀ (p : Addr) (H' : Hp), Same H H' → H p = none → PoolAt H' p → Q (.ref p) H'
theorem sml {n : Nat} (h : n ≤ 1000) : n < sizeLine := small1000 h
section
variable {P : Program} {w : World} {K : PySem.W.Frag} {mg : Str → Option Value} {base : Heap} {C B : Addr}
abbrev s_pool : Stmt := top 41
theorem sc_pool : FnScope ["_law_script", "_law_cells", "_law_number", "_law_cell", "_law_great"] ["_law_script"] (defScope s_pool) := ⟨rfl, rfl, rfl, by decide +kernel, rfl, by decide +kernel, by decide +kernel⟩
theorem ok_pool {f : Addr} {fd : FuncData} (F : Fun K "_law_pool" "_law_pool" s_pool f fd) (T : Bn mg) : FnOk P w K mg base CX0 1 f fd ["_law_script"] (spPool K) := by
  refine F.ok sc_pool (fun vs H Q E h => ?_) (fun cdv A outer s H vs Q E hr h => ?_)
  · obtain ⟨a, ns, rfl, _⟩ := h
    rfl
  · obtain ⟨a, ns, rfl, ha, hl, k⟩ := h
    refine ⟨_, (pss_cons (ps_set (i := 1) sc_pool.nd rfl (Or.inl rfl) (pe_op op_cat (pe_lc (own := [("_law_cell", 3)]) rfl sc_pool.nd (pi_list (pe_slice sl_list (pv 0) po_none (po_some pe_int))) (blkOk_by (N := ["_law_script", "_law_cells", "_law_number", "_law_cell", "_law_great"]) (sc := defScope s_pool) (by decide +kernel)) (fun _ _ _ _ _ => (pg_name (i := 3) sc_pool.nd rfl (Or.inl rfl))) (fun _ _ _ _ _ => pts_nil) (fun _ _ _ _ _ => (pe_callTy call_int1 (by rfl) T.n_int (by decide +kernel) (pa_cons (pv 3) pa_nil)))) (pe_lst (pa_cons (pe_callB call_len_seq (by rfl) T.n_len PySem.boot_len (pa_cons (pe_slice sl_list (pv 0) po_none (po_some pe_int)) pa_nil)) pa_nil))))
      (pss_cons (ps_set (i := 2) sc_pool.nd rfl (Or.inl rfl) pe_int)
      (pss_cons (ps_for PassesOwn.never rfl (pi_list (pv 1)) (pg_name (i := 3) sc_pool.nd rfl (Or.inl rfl))
        (pss_one (ps_set (i := 2) sc_pool.nd rfl (Or.inl rfl) (pe_op op_modN (pe_callTy call_int1 (by rfl) T.n_int (by decide +kernel) (pa_cons (pe_op op_add (pe_op op_add (pe_op op_mul (pv 2) pe_int) (pv 3)) pe_int) pa_nil)) (pe_op op_sub (pe_op op_pow pe_int pe_int) pe_int)))))
      (pss_cons (ps_setLc (i := 4) (own := [("_law_cell", 3)]) rfl sc_pool.nd rfl rfl (sw_true rfl rfl rfl (by decide +kernel)) (pi_list (pv 1)) (blkOk_by (N := ["_law_script", "_law_cells", "_law_number", "_law_cell", "_law_great"]) (sc := defScope s_pool) (by decide +kernel)) (fun _ _ _ _ _ => (pg_name (i := 3) sc_pool.nd rfl (Or.inl rfl))) (fun _ _ _ _ _ => (pts_one (pt_cmpR op_ge (pe_callB call_abs (by rfl) T.n_abs (by decide +kernel) (pa_cons (pv 3) pa_nil)) (pe_op op_pow pe_int pe_int) (nomark _)))) (fun _ _ _ _ _ => (pe_callB call_abs (by rfl) T.n_abs (by decide +kernel) (pa_cons (pv 3) pa_nil))))
      (pss_one (ps_ret (pe_lst (pa_cons (pv 2) (pa_cons (pe_ix ix_list (pe_op op_cat (pv 4) (pe_lst (pa_cons pe_int pa_nil))) pe_int (fun _ _ => rfl)) pa_nil))))))))), ?_⟩
    obtain ⟨ms, hms, hml⟩ := cut_map ns none (some 60)
    -- the cells
    refine ⟨_, rfl, _, rfl, a, _, rfl, ha, fun p1 np1 => ?_⟩
    rw [hms]
    refine ⟨p1, rfl, ⟨_, SqL.of upd_same⟩, fun D nD => ?_⟩
    refine lc_list (K := K) (a := p1) (xs := ms.map V.int) (fun i H' => H' = upd (upd H p1 (.lst (ms.map V.int))) D (.lst ((ms.take i).map V.int))) rfl (fun i H' hi e => ?_) ?_ ?_
    · rw [e]
      have ne : p1 ≠ D := fun z => by rw [← z, upd_same] at nD; cases nD
      exact SqL.of (by rw [upd_ne ne, upd_same])
    · rintro i x H' hi rfl
      obtain ⟨z, hz, rfl⟩ := at_map hi
      refine ⟨rfl, yes_of ?_⟩
      refine ⟨_, rfl, .inl ⟨z, rfl, _, upd_same, ?_, ?_⟩⟩
      · rw [List.length_map, List.length_take]
        exact sml (by omega)
      · rw [upd_upd, take_more hz, List.map_append]
        rfl
    · rintro H' rfl
      rw [List.length_map, List.take_length]
      have s1 : Same H (upd (upd H p1 (.lst (ms.map V.int))) D (.lst (ms.map V.int))) := (Same.put np1).trans (Same.put nD)
      have eD : (upd (upd H p1 (.lst (ms.map V.int))) D (.lst (ms.map V.int))) D = some (.lst (ms.map V.int)) := upd_same
      generalize (upd (upd H p1 (.lst (ms.map V.int))) D (.lst (ms.map V.int))) = H1 at s1 eD ⊢
      refine ⟨_, rfl, _, rfl, a, _, rfl, s1.seq ha, fun p2 np2 => ?_⟩
      rw [hms]
      refine ⟨p2, _, rfl, .inl (SqL.of upd_same), by show 1 ≤ sizeLine; decide, fun p3 np3 => ?_⟩
      rw [List.length_map]
      have s2 : Same H1 (upd (upd H1 p2 (.lst (ms.map V.int))) p3 (.lst [V.int (ms.length : Int)])) := (Same.put np2).trans (Same.put np3)
      refine ⟨D, p3, ms.map V.int, [V.int (ms.length : Int)], rfl, rfl, s2 _ _ eD, upd_same, ?_, fun p4 np4 => ?_⟩
      · rw [List.length_map]
        exact Nat.le_of_lt (sml (by show ms.length + 1 ≤ 1000; omega))
      have s3 : Same H (upd (upd (upd H1 p2 (.lst (ms.map V.int))) p3 (.lst [V.int (ms.length : Int)])) p4 (.lst ((ms ++ [(ms.length : Int)]).map V.int))) := (s1.trans s2).trans (Same.put np4)
      have e4 : (ms.map V.int ++ [V.int (ms.length : Int)]) = (ms ++ [(ms.length : Int)]).map V.int := by rw [List.map_append]; rfl
      rw [e4]
      have eC : (upd (upd (upd H1 p2 (.lst (ms.map V.int))) p3 (.lst [V.int (ms.length : Int)])) p4 (.lst ((ms ++ [(ms.length : Int)]).map V.int))) p4 = some (.lst ((ms ++ [(ms.length : Int)]).map V.int)) := upd_same
      have hcl : (ms ++ [(ms.length : Int)]).length ≤ 64 := by
        rw [List.length_append]
        show ms.length + 1 ≤ 64
        omega
      generalize (upd (upd (upd H1 p2 (.lst (ms.map V.int))) p3 (.lst [V.int (ms.length : Int)])) p4 (.lst ((ms ++ [(ms.length : Int)]).map V.int))) = H4 at s3 eC ⊢
      generalize ms ++ [(ms.length : Int)] = cs at eC hcl ⊢
      -- the number
      refine ⟨_, rfl, p4, rfl, ⟨_, SqL.of eC⟩, for_list (K := K) (a := p4) (xs := cs.map V.int) (fun i σ H' => H' = H4 ∧ ∃ (n : Int) (v : Option V), 0 ≤ n ∧ n < 2 ^ 64 ∧ σ = [some (.ref a), some (.ref p4), some (.int n), v, none]) ⟨rfl, 7, none, by decide, by decide, rfl⟩ (fun i σ H' _ h => by rw [h.1]; exact SqL.of eC) ?_ ?_⟩
      · rintro i x σ H' hi ⟨rfl, n, v, n0, n1, rfl⟩
        obtain ⟨z, hz, rfl⟩ := at_map hi
        refine ⟨_, rfl, _, _, rfl, rfl, .inr ⟨by decide, by decide⟩, _, rfl, _, _, rfl, rfl, _, _, rfl, rfl, .inl ⟨_, rfl, 2, 61, rfl, rfl, ⟨by decide, by decide, by decide⟩, _, _, rfl, rfl, _, _, rfl, rfl, ?_, rfl, ?_⟩⟩
        · show ((2 : Int) ^ (61 : Int).toNat - 1) ≠ 0
          decide +kernel
        · have e : ((2 : Int) ^ (61 : Int).toNat - 1) = 2305843009213693951 := by decide +kernel
          refine ⟨(n * 48271 + z + 11).fmod ((2 : Int) ^ (61 : Int).toNat - 1), some (.int z), ?_, ?_, rfl⟩
          · rw [e, Int.fmod_eq_emod_of_nonneg _ (by decide)]
            exact Int.emod_nonneg _ (by decide)
          · rw [e, Int.fmod_eq_emod_of_nonneg _ (by decide)]
            exact Int.lt_trans (Int.emod_lt_of_pos _ (by decide)) (by decide)
      · rintro σ H4 ⟨rfl, n, v, n0, n1, rfl⟩
        -- the great cells
        refine ⟨_, rfl, p4, rfl, ⟨_, SqL.of eC⟩, fun G nG => ?_⟩
        refine lc_list (K := K) (a := p4) (xs := cs.map V.int) (fun i H' => ∃ gs : List Int, H' = upd H4 G (.lst (gs.map V.int)) ∧ gs.length ≤ i ∧ ∀ g ∈ gs, 0 ≤ g) ⟨[], rfl, Nat.le_refl _, fun _ h => by cases h⟩ (fun i H' hi h => ?_) ?_ ?_
        · obtain ⟨gs, e, _⟩ := h
          rw [e]
          exact SqL.of (by rw [upd_ne (ne_of_none eC nG)]; exact eC)
        · rintro i x H' hi ⟨gs, rfl, gl, g0⟩
          obtain ⟨z, hz, rfl⟩ := at_map hi
          have hi2 : i < cs.length := (List.getElem?_eq_some_iff.mp hz).1
          refine ⟨rfl, _, rfl, z, rfl, 10, 18, rfl, rfl, ⟨by decide, by decide, by decide⟩, _, _, rfl, rfl, _, rfl, iteB (fun _ => ?_) (fun _ => ?_)⟩
          · refine ⟨_, rfl, z, rfl, _, upd_same, ?_, gs ++ [if z < 0 then -z else z], ?_, ?_, ?_⟩
            · rw [List.length_map]
              exact sml (by omega)
            · rw [upd_upd, List.map_append]
              rfl
            · rw [List.length_append]
              show gs.length + 1 ≤ i + 1
              omega
            · intro g hg
              rcases List.mem_append.mp hg with h | h
              · exact g0 g h
              · have e := List.mem_singleton.mp h
                rw [e]
                split <;> omega
          · exact ⟨gs, rfl, Nat.le_succ_of_le gl, g0⟩
        · rintro H' ⟨gs, rfl, gl, g0⟩
          rw [List.length_map] at gl
          have s4 : Same H (upd H4 G (.lst (gs.map V.int))) := s3.trans (Same.put nG)
          have eG : (upd H4 G (.lst (gs.map V.int))) G = some (.lst (gs.map V.int)) := upd_same
          generalize (upd H4 G (.lst (gs.map V.int))) = H5 at s4 eG ⊢
          refine ⟨_, rfl, _, rfl, by show 1 ≤ sizeLine; decide, fun p5 np5 => ?_⟩
          refine ⟨G, p5, gs.map V.int, [.int 0], rfl, rfl, Same.put np5 _ _ eG, upd_same, ?_, fun p6 np6 => ?_⟩
          · rw [List.length_map]
            exact Nat.le_of_lt (sml (by show gs.length + 1 ≤ 1000; omega))
          have hd : ∃ g : Int, (gs.map V.int ++ [V.int 0])[0]? = some (V.int g) ∧ 0 ≤ g := by
            cases gs with
            | nil => exact ⟨0, rfl, Int.le_refl _⟩
            | cons g r => exact ⟨g, rfl, g0 g (List.mem_cons_self ..)⟩
          obtain ⟨g, hg, gg⟩ := hd
          refine ⟨p6, _, 0, .int g, rfl, rfl, SqL.of upd_same, atI_nat hg, by show 2 ≤ sizeLine; decide, fun p7 np7 => ?_⟩
          have s5 := ((s4.trans (Same.put np5)).trans (Same.put np6)).trans (Same.put (o := .lst [.int n, .int g]) np7)
          exact k p7 _ s5 (((s4.trans (Same.put np5)).trans (Same.put np6)).free np7) ⟨_, upd_same, n, g, rfl, n0, n1, gg⟩
end
end KI
set_option Elab.async false
set_option linter.all false
set_option maxRecDepth 100000
set_option maxHeartbeats 4000000
/-! + - * with an instance of an own class: its own methods, on the left and on the right -/
namespace OA
open PySem PySem.SeqAt PySem.W Builtin PySem.Calls PyProof.Rows
section
variable {prog : Program} {w : World} {A : Around} {E : Value → Shared → Prop} {s : Shared} {K : Frag} {x C f g : Addr} {ox : Obj} {od : Option Obj} {nm sym : String}
/-- both of one class: the left one's method -/
theorem bin_twins {op : Operator} {b : Value} {Q : Value → Shared → Prop} (hi : op.info = (sym, nm)) (X : K.In s.heap) (I : InstAt s.heap x ox C od) (hc : selfFirst K C = true) (hs : findIn K (.ref C) (PySem.dunder nm) = some (some (.ref f))) (hf : isFn K (.ref f) = true)
    (hb : Looks (model prog w) s.heap (typeOf b) (.ref C)) (h : wpAny (model prog w) A (call (.ref f) [.ref x, b]) (PySem.W.CmpBack Q) E s) : wpAny (model prog w) A (binaryOp op (.ref x) b) Q E s := by
  obtain ⟨cd, rest, hcd, hm⟩ := ksp_first hc
  have one := ksp_try X I hs hf h
  obtain ⟨hp, gs, dd, tk, os⟩ := s
  have T1 : Looks (model prog w) hp (typeOf (.ref x)) (.ref C) := I.type
  have T2 : Looks (model prog w) hp (fillsNumberSlot (.ref C) nm) true := fills_K X hcd hm hs
  simp only [binaryOp, hi]
  refine wpAny_holding (wpAny_bind ?_)
  unfold binaryOp1
  refine wpAny_bind (T1.at (wpAny_bind (hb.at (wpAny_bind (T2.at ?_)))))
  have self : (Value.ref C == Value.ref C) = true := beq_iff_eq.mpr rfl
  simp only [self, if_true]
  ksp_lk
  refine wpAny_mono one (fun r s' hr => ?_) fun _ _ e => e
  obtain ⟨v, rfl, hq⟩ := hr
  ksp_lk
  exact hq
/-- an int on the right of an instance: the instance's method -/
theorem bin_left_int {op : Operator} {i : Int} {ti : Tok} {ro : Option Value} {Q : Value → Shared → Prop} (hi : op.info = (sym, nm)) (X : K.In s.heap) (I : InstAt s.heap x ox C od) (hc : selfFirst K C = true) (hs : findIn K (.ref C) (PySem.dunder nm) = some (some (.ref f))) (hf : isFn K (.ref f) = true)
    (hr : findIn K (.ref C) (dunderR nm) = some (some (.ref g))) (ho : findIn K (.type "int") (dunderR nm) = some ro) (hn : fillsNumberSlot (.type "int") nm = pure true) (hsub : subIn K (.type "int") (.ref C) = some false)
    (h : wpAny (model prog w) A (call (.ref f) [.ref x, .int i ti]) (PySem.W.CmpBack Q) E s) : wpAny (model prog w) A (binaryOp op (.ref x) (.int i ti)) Q E s := by
  obtain ⟨cd, rest, hcd, hm⟩ := ksp_first hc
  have one := ksp_try X I hs hf h
  obtain ⟨hp, gs, dd, tk, os⟩ := s
  have T1 : Looks (model prog w) hp (typeOf (.ref x)) (.ref C) := I.type
  have T2 : Looks (model prog w) hp (fillsNumberSlot (.ref C) nm) true := fills_K X hcd hm hs
  have T3 : Looks (model prog w) hp (typeOf (.int i ti)) (.type "int") := Looks.of_pure rfl
  have T4 : Looks (model prog w) hp (fillsNumberSlot (.type "int") nm) true := Looks.of_pure hn
  have T5 : Looks (model prog w) hp (isSubtype (.type "int") (.ref C)) false := looks_subIn X hsub
  have T6 : Looks (model prog w) hp (numberSlotInPython (.ref C) nm) true := ksp_inPy X hs hr (.inr ⟨_, rfl⟩)
  have T7 : Looks (model prog w) hp (numberSlotInPython (.type "int") nm) false := Looks.of_pure rfl
  have T8 : Looks (model prog w) hp (typeLookup (.type "int") (dunderR nm)) ro := looks_findIn X ho
  have other : (Value.ref C == Value.type "int") = false := Bool.eq_false_iff.mpr fun q => by cases beq_iff_eq.mp q
  simp only [binaryOp, hi]
  refine wpAny_holding (wpAny_bind ?_)
  unfold binaryOp1
  refine wpAny_bind (T1.at (wpAny_bind (T3.at (wpAny_bind (T2.at ?_)))))
  simp only [other, Bool.false_eq_true, if_false]
  ksp_lk
  refine wpAny_mono one (fun r s' hr => ?_) fun _ _ e => e
  obtain ⟨v, rfl, hq⟩ := hr
  ksp_lk
  exact hq
/-- an int on the left: its own method declines, then the instance's reflected one -/
theorem bin_right_int {op : Operator} {i : Int} {ti : Tok} {id : String} {Q : Value → Shared → Prop} (hi : op.info = (sym, nm)) (X : K.In s.heap) (I : InstAt s.heap x ox C od) (hc : selfFirst K C = true) (hs : findIn K (.ref C) (PySem.dunder nm) = some (some (.ref f)))
    (hr : findIn K (.ref C) (dunderR nm) = some (some (.ref g))) (hg : isFn K (.ref g) = true) (hn : fillsNumberSlot (.type "int") nm = pure true) (hsub : subIn K (.ref C) (.type "int") = some false) (sl : Slot "int" (PySem.dunder nm) id)
    (hd : ∀ (Q' : Value → Shared → Prop) (E' : Value → Shared → Prop), Q' .notImplemented s → wpAny (model prog w) A (call (.builtin id) [.int i ti, .ref x]) Q' E' s)
    (h : wpAny (model prog w) A (call (.ref g) [.ref x, .int i ti]) (PySem.W.CmpBack Q) E s) : wpAny (model prog w) A (binaryOp op (.int i ti) (.ref x)) Q E s := by
  obtain ⟨cd, rest, hcd, hm⟩ := ksp_first hc
  have two := ksp_try X I hr hg h
  have one : ∀ (Q' : Option Value → Shared → Prop) (E' : Value → Shared → Prop), Q' none s → wpAny (model prog w) A (tryMethod (.int i ti) (PySem.dunder nm) (.ref x)) Q' E' s := fun Q' E' q => wpAny_tryMethod_declines (typeIs_int s i ti) sl (hd _ _ ⟨rfl, q⟩)
  obtain ⟨hp, gs, dd, tk, os⟩ := s
  have T1 : Looks (model prog w) hp (typeOf (.ref x)) (.ref C) := I.type
  have T2 : Looks (model prog w) hp (fillsNumberSlot (.ref C) nm) true := fills_K X hcd hm hs
  have T3 : Looks (model prog w) hp (typeOf (.int i ti)) (.type "int") := Looks.of_pure rfl
  have T4 : Looks (model prog w) hp (fillsNumberSlot (.type "int") nm) true := Looks.of_pure hn
  have T5 : Looks (model prog w) hp (isSubtype (.ref C) (.type "int")) false := looks_subIn X hsub
  have T7 : Looks (model prog w) hp (numberSlotInPython (.type "int") nm) false := Looks.of_pure rfl
  have other : (Value.type "int" == Value.ref C) = false := Bool.eq_false_iff.mpr fun q => by cases beq_iff_eq.mp q
  simp only [binaryOp, hi]
  refine wpAny_holding (wpAny_bind ?_)
  unfold binaryOp1
  refine wpAny_bind (T3.at (wpAny_bind (T1.at (wpAny_bind (T4.at ?_)))))
  simp only [other, Bool.false_eq_true, if_false]
  ksp_lk
  refine one _ _ ?_
  ksp_lk
  refine wpAny_mono two (fun r s' hr => ?_) fun _ _ e => e
  obtain ⟨v, rfl, hq⟩ := hr
  ksp_lk
  exact hq
end
end OA
set_option Elab.async false
set_option linter.all false
set_option maxRecDepth 100000
set_option maxHeartbeats 4000000
namespace OA
open PySem PySem.SeqAt PySem.W Builtin
open AutoSeq1 (wpAny_loadPart')
open MeetsSeq MeetsSeq2 MeetsSeq3 SeqRoads2
section
variable {prog : Program} {w : World} {A : Around} {E : Value → Shared → Prop} {s : Shared} {x : Addr} {ox : Obj}
/-- the int's own method hands back NotImplemented at an instance -/
def Declines (id : String) : Prop := ∀ (prog : Program) (w : World) (A : Around) (s : Shared) (i : Int) (ti : Tok) (x : Addr) (ox : Obj), s.heap.get? x = some ox → ox.data = .plain → ∀ (Q E : Value → Shared → Prop), Q .notImplemented s → wpAny (model prog w) A (call (.builtin id) [.int i ti, .ref x]) Q E s
theorem at_add (b : Int) (u : Tok) {o : Obj} (hd : o.data = .plain) (l : Addr) : Meets (Builtin.«int.__add__» ⟨[.int b u, .ref l], []⟩) (fun _ R s => s.heap.get? l = some o ∧ R (.ok (.ret .notImplemented)) s) :=
  .of_wp fun prog w A R s h => by obtain ⟨cls, dd, data, sl⟩ := o; obtain ⟨hp, g, d, tk, os⟩ := s; obtain ⟨hl, h⟩ := h; simp only at hd; subst hd; wp_walk using wpAny_loadPart' hl, wpAny_load hl; exact ⟨_, rfl, h⟩
theorem at_sub (b : Int) (u : Tok) {o : Obj} (hd : o.data = .plain) (l : Addr) : Meets (Builtin.«int.__sub__» ⟨[.int b u, .ref l], []⟩) (fun _ R s => s.heap.get? l = some o ∧ R (.ok (.ret .notImplemented)) s) :=
  .of_wp fun prog w A R s h => by obtain ⟨cls, dd, data, sl⟩ := o; obtain ⟨hp, g, d, tk, os⟩ := s; obtain ⟨hl, h⟩ := h; simp only at hd; subst hd; wp_walk using wpAny_loadPart' hl, wpAny_load hl; exact ⟨_, rfl, h⟩
theorem at_mul (b : Int) (u : Tok) {o : Obj} (hd : o.data = .plain) (l : Addr) : Meets (Builtin.«int.__mul__» ⟨[.int b u, .ref l], []⟩) (fun _ R s => s.heap.get? l = some o ∧ R (.ok (.ret .notImplemented)) s) :=
  .of_wp fun prog w A R s h => by obtain ⟨cls, dd, data, sl⟩ := o; obtain ⟨hp, g, d, tk, os⟩ := s; obtain ⟨hl, h⟩ := h; simp only at hd; subst hd; wp_walk using wpAny_loadPart' hl, wpAny_load hl; exact ⟨_, rfl, h⟩
theorem dec_add : Declines "int.__add__" := fun prog w A s i ti x ox hx hd Q E q => call_meets F.slot_int_add (typeIs_int s i ti) F.entry_int_add (F.args_int_add_2 _ _) (at_add i ti hd x) ⟨hx, q⟩
theorem dec_sub : Declines "int.__sub__" := fun prog w A s i ti x ox hx hd Q E q => call_meets F.slot_int_sub (typeIs_int s i ti) F.entry_int_sub (F.args_int_sub_2 _ _) (at_sub i ti hd x) ⟨hx, q⟩
theorem dec_mul : Declines "int.__mul__" := fun prog w A s i ti x ox hx hd Q E q => call_meets F.slot_int_mul (typeIs_int s i ti) F.entry_int_mul (F.args_int_mul_2 _ _) (at_mul i ti hd x) ⟨hx, q⟩
end
end OA
set_option Elab.async false
set_option linter.all false
set_option maxRecDepth 100000
set_option maxHeartbeats 4000000
namespace L2
open PySem PySem.Spec PyProof.Rows
/-- the class's own method for op, at f -/
structure ArL (K : PySem.W.Frag) (C : Addr) (op : Operator) (sym nm : String) (f : Addr) : Prop where
  hi : op.info = (sym, nm)
  hc : PySem.W.selfFirst K C = true
  hs : PySem.W.findIn K (.ref C) (PySem.dunder nm) = some (some (.ref f))
  hf : PySem.W.isFn K (.ref f) = true
/-- its reflected one, at g, and what int says of the op -/
structure ArR (K : PySem.W.Frag) (C : Addr) (nm : String) (g : Addr) : Prop where
  hr : PySem.W.findIn K (.ref C) (dunderR nm) = some (some (.ref g))
  hg : PySem.W.isFn K (.ref g) = true
  ho : ∃ ro, PySem.W.findIn K (.type "int") (dunderR nm) = some ro
  hn : fillsNumberSlot (.type "int") nm = pure true
  up : PySem.W.subIn K (.type "int") (.ref C) = some false
  dn : PySem.W.subIn K (.ref C) (.type "int") = some false
  dec : ∃ id, Slot "int" (PySem.dunder nm) id ∧ OA.Declines id
theorem back_of {z : V} {u : Value} {Q : Value → Shared → Prop} {s : Shared} (r : RelV z u) (q : Q u s) : PySem.W.CmpBack Q u s := by
  cases z with
  | non => cases (show u = Value.none from r); exact q
  | bl b => cases (show u = Value.bool b from r); exact q
  | int i => obtain ⟨t, e⟩ := (show ∃ t, u = Value.int i t from r); cases e; exact q
  | str x => obtain ⟨t, e⟩ := (show ∃ t, u = Value.str x t from r); cases e; exact q
  | byt b => obtain ⟨t, e⟩ := (show ∃ t, u = Value.bytes b t from r); cases e; exact q
  | flt b => obtain ⟨t, e⟩ := (show ∃ t, u = Value.float b t from r); cases e; exact q
  | ref a => cases (show u = Value.ref a from r); exact q
  | ty n => cases (show u = Value.type n from r); exact q
/-- x op y: one of both at least an instance of the class at C, the other one too, or an int -/
def rAr (C : Addr) (spF spG : Sp) : R2 := fun x y H Q =>
  (∃ a dx fs, x = .ref a ∧ H a = some (.ins C dx fs) ∧ ((∃ i, y = .int i) ∨ ∃ c dy gs, y = .ref c ∧ H c = some (.ins C dy gs)) ∧ spF [x, y] H Q E0) ∨
    (∃ i c dy gs, x = .int i ∧ y = .ref c ∧ H c = some (.ins C dy gs) ∧ spG [y, x] H Q E0)
section
variable {X : Cx} {C f g : Addr} {sym nm : String} {fd gd : FuncData} {ps qs : List Str} {n n' : Nat} {spF spG : Sp} {op : Operator}
/-- a def of the text is called by an operator -/
theorem run_two {E : Value → Shared → Prop} {pins : List (Addr × Obj)} {s : Shared} {σ : St} {H : Hp} {x y : V} {v u : Value} {Q : VK} (F : FnOk X.prog X.w X.K X.mg X.base CX0 n f fd ps spF) (hb : Binds X.K fd ps []) (hr : Room n X.A) (I : Inv X pins σ H s) (rx : RelV x v) (ry : RelV y u) (hsp : spF [x, y] H Q E0) :
    wpAny (model X.prog X.w) X.A (call (.ref f) [v, u]) (PySem.W.CmpBack (EP X pins σ Q)) E s := by
  have hl := F.len _ _ _ _ hsp
  have r2 : Vals [x, y] [v, u] := .cons rx (.cons ry .nil)
  refine wpAny_call (codeAny_mono (F.run X.A X.stack s H ⟨[v, u], []⟩ [v, u] [x, y] _ E0 hr I.env0 (by
    have := hb s [v, u] I.kIn (by simpa using hl)
    simpa using this) r2 hsp) fun r s' hq => ?_)
  cases r with
  | error e => exact hq.elim
  | ok fl =>
    cases fl with
    | ret w =>
      obtain ⟨z, H', I', rz, q⟩ := I.after hq
      exact back_of rz ⟨z, H', I', rz, q⟩
    | next => exact False.elim hq
    | brk => exact False.elim hq
    | cont => exact False.elim hq
/-- an operator that lets nothing out -/
def OpN (X : Cx) (f : Value → Value → Sem Value) (r : R2) : Prop := ∀ (E : Value → Shared → Prop) (pins : List (Addr × Obj)) (s : Shared) (σ : St) (H : Hp) (x y : V) (v u : Value) (Q : VK), Inv X pins σ H s → RelV x v → RelV y u → r x y H Q → wpAny (model X.prog X.w) X.A (f v u) (EP X pins σ Q) E s
theorem OpN.toR {f : Value → Value → Sem Value} {r : R2} (h : OpN X f r) : OpR X f r := fun pins s σ H x y v u Q I rx ry q => h _ pins s σ H x y v u Q I rx ry q
theorem op_ar (L : ArL X.K C op sym nm f) (R : ArR X.K C nm g) (F : FnOk X.prog X.w X.K X.mg X.base CX0 n f fd ps spF) (hb : Binds X.K fd ps []) (hr : Room n X.A)
    (G : FnOk X.prog X.w X.K X.mg X.base CX0 n' g gd qs spG) (hbG : Binds X.K gd qs []) (hrG : Room n' X.A) : OpN X (binaryOp op) (rAr C spF spG) := by
  intro E pins s σ H x y v u Q I rx ry hq
  rcases hq with ⟨a, dx, fs, rfl, ha, hy, hsp⟩ | ⟨i, c, dy, gs, rfl, rfl, hc, hsp⟩
  · cases (show v = Value.ref a from rx)
    obtain ⟨mA, J, _⟩ := ins_get I.hok ha
    obtain ⟨od, J, _⟩ := J.look
    have go := run_two (E := E) F hb hr I rx ry hsp
    rcases hy with ⟨i, rfl⟩ | ⟨c, dy, gs, rfl, hc⟩
    · obtain ⟨ti, e⟩ := (show ∃ t, u = Value.int i t from ry)
      subst e
      obtain ⟨ro, ho⟩ := R.ho
      exact OA.bin_left_int L.hi I.kIn J L.hc L.hs L.hf R.hr ho R.hn R.up go
    · cases (show u = Value.ref c from ry)
      obtain ⟨mB, J', _⟩ := ins_get I.hok hc
      obtain ⟨od', J', _⟩ := J'.look
      exact OA.bin_twins L.hi I.kIn J L.hc L.hs L.hf J'.type go
  · cases (show u = Value.ref c from ry)
    obtain ⟨ti, e⟩ := (show ∃ t, v = Value.int i t from rx)
    subst e
    obtain ⟨mA, J, _⟩ := ins_get I.hok hc
    obtain ⟨od, J, _⟩ := J.look
    obtain ⟨id, sl, dec⟩ := R.dec
    exact OA.bin_right_int L.hi I.kIn J L.hc L.hs R.hr R.hg R.hn R.dn sl (fun Q' E' q => dec _ _ _ _ _ _ _ _ J.at_ rfl Q' E' q) (run_two G hbG hrG I ry rx hsp)
end
end L2
set_option Elab.async false
set_option linter.all false
set_option maxRecDepth 100000
set_option maxHeartbeats 4000000
/-! sum(row, start=share): a row of numbers of which some are instances of an own class -/
namespace L2
open PySem PySem.Spec PyProof.Rows
def Cx.inn (X : Cx) : Cx := { X with A := X.A.in1 }
section
variable {X : Cx} {pins : List (Addr × Obj)} {σ : St} {H : Hp} {s : Shared}
theorem Inv.inn (I : Inv X pins σ H s) : Inv X.inn pins σ H s :=
  ⟨⟨I.ok.mod, I.ok.kind, I.ok.glob, I.ok.blt, I.ok.above, I.ok.inj, I.ok.has, I.ok.cab, I.ok.hd, I.ok.frames, I.ok.stk, I.ok.exf, I.ok.bs, I.ok.bsz, I.ok.noex, I.ok.exfs, I.ok.funs, I.ok.frf⟩, I.os, I.bare, I.base, I.loc, I.cell, I.free, I.freeC, I.pin, I.hok, I.len⟩
theorem Inv.outn (I : Inv X.inn pins σ H s) (ok : X.Ok) : Inv X pins σ H s := ⟨ok, I.os, I.bare, I.base, I.loc, I.cell, I.free, I.freeC, I.pin, I.hok, I.len⟩
/-- the state of the sum: a list of the one total -/
def sumSt (v : Value) (c : Nat) : Obj := { cls := .type "list", dict := none, data := .seq #[v] c, slots := #[] }
theorem sum_turns {rA : R2} {l it S : Addr} {xs : List V} {Q : VK} (hc : X.calm = true) (op : OpN X.inn (binaryOp .Add) rA) (Pv : Nat → V → Hp → Prop) (own : ∀ i acc H, Pv i acc H → ∃ a, acc = .ref a) (row : ∀ i acc H, i ≤ xs.length → Pv i acc H → SqT X.K H l xs)
    (step : ∀ i acc x H, xs[i]? = some x → Pv i acc H → rA acc x H (Pv (i + 1))) (fin : ∀ acc H, Pv xs.length acc H → Q acc H) (ne : it ≠ S) :
    ∀ (k i : Nat) (acc : V) (v : Value) (c : Nat) (H : Hp) (s : Shared), xs.length - i = k → i ≤ xs.length → Inv X pins σ H s → RelV acc v → Pv i acc H → s.heap.IsTupleIter it l i → s.heap.get? S = some (sumSt v c) → FpOk X pins H it → FpOk X pins H S →
      codeAny (model X.prog X.w) X.A (.builtin "sum.loop" ⟨[.ref it, .ref S, rawInt 2, rawInt 0], []⟩) (fun r s' => match r with | .ok (.ret v) => EP X pins σ Q v s' | .ok _ => False | .error e => X.xe e s') s := by
  intro k
  induction k with
  | zero =>
    intro i acc v c H s hk hi I rv pv st hS fi fS
    have e : i = xs.length := by omega
    subst e
    obtain ⟨a, rfl⟩ := own _ _ _ pv
    obtain rfl : v = Value.ref a := rv
    obtain ⟨its, ri, pl, hz⟩ := I.tuple (row _ _ _ hi pv)
    have hl := ri.length
    obtain ⟨f0, f1, f2, f3, f4, f5⟩ := fi
    refine codeAny_builtin F.entry_sum_loop ?_
    rw [Around.under_plainId F.plain_sum_loop _]
    show wpAny _ X.A.in1 (seqItems? (.ref S) >>= _) _ _ s
    refine wpAny_bind (wpAny_seqItems hS rfl ?_)
    show wpAny _ X.A.in1 (tryCatch (pyNext (.ref it)) _ >>= _) _ _ s
    refine wpAny_bind (wpAny_tryCatch (wpAny_pyNext_tuple_end (I.ok.hd hc) st (show s.heap.IsTuple l its.toArray from pl) (by simp; omega) fun h' eb => ?_))
    exact wpAny_pure ⟨.ref a, H, I.turned (t' := s.toks) (fun b o hb e => eb b o hb e) f0 f1 f3 f4 f5, rfl, fin _ _ pv⟩
  | succ k ih =>
    intro i acc v c H s hk hi I rv pv st hS fi fS
    have hlt : i < xs.length := by omega
    obtain ⟨a, rfl⟩ := own _ _ _ pv
    obtain rfl : v = Value.ref a := rv
    have hx : xs[i]? = some xs[i] := by simp [hlt]
    obtain ⟨its, ri, pl, hz⟩ := I.tuple (row _ _ _ hi pv)
    obtain ⟨u, hu, ru⟩ := ri.get hx
    have go := step i (.ref a) xs[i] H hx pv
    generalize xs[i] = x at go ru
    obtain ⟨f0, f1, f2, f3, f4, f5⟩ := id fi
    obtain ⟨g0, g1, g2, g3, g4, g5⟩ := id fS
    refine codeAny_builtin F.entry_sum_loop ?_
    rw [Around.under_plainId F.plain_sum_loop _]
    show wpAny _ X.A.in1 (seqItems? (.ref S) >>= _) _ _ s
    refine wpAny_bind (wpAny_seqItems hS rfl ?_)
    show wpAny _ X.A.in1 (tryCatch (pyNext (.ref it)) _ >>= _) _ _ s
    refine wpAny_bind (wpAny_tryCatch (wpAny_pyNext_tuple_item st (show s.heap.IsTuple l its.toArray from pl) (x := u) (by simpa using hu) fun h' st' sb => ?_))
    have I1 : Inv X pins σ H { s with heap := h' } := I.turned (t' := s.toks) (fun b o hb e => (sb.2 b hb).trans e) f0 f1 f3 f4 f5
    have hS1 : h'.get? S = some (sumSt (.ref a) c) := (sb.2 S (Ne.symm ne)).trans hS
    obtain ⟨oi, ei, ci, di⟩ := id st'
    have I2 : Inv X (pins ++ [(it, oi), (S, sumSt (.ref a) c)]) σ H { s with heap := h' } := I1.pins_of fun p hp => by
      rcases List.mem_append.mp hp with hp | hp
      · exact I1.pin p (List.mem_append_right _ hp)
      · rcases List.mem_cons.mp hp with rfl | hp
        · exact ⟨ei, f0, f1, f2, fun v z => by rw [di] at z; cases z⟩
        · rw [List.mem_singleton.mp hp]
          exact ⟨hS1, g0, g1, g2, fun v z => by cases z⟩
    show wpAny _ X.A.in1 ((holding [u] (binaryOp .Add (.ref a) u)).attempt >>= _) _ _ _
    refine wpAny_bind (wpAny_attempt (wpAny_holding (wpAny_mono (op (fun _ _ => False) _ _ σ H (.ref a) x (.ref a) u _ I2.inn rfl ru go) (fun w s2 q => ?_) (fun e s2 z => z.elim))))
    obtain ⟨z, H2, I3, rz, pv2⟩ := q
    have I4 : Inv X (pins ++ [(it, oi), (S, sumSt (.ref a) c)]) σ H2 s2 := I3.outn I.ok
    obtain ⟨ki, ni, _⟩ := I4.pin (it, oi) (List.mem_append_right _ (List.mem_append_right _ List.mem_cons_self))
    obtain ⟨kS, nS, _⟩ := I4.pin (S, sumSt (.ref a) c) (List.mem_append_right _ (List.mem_append_right _ (List.mem_cons_of_mem _ List.mem_cons_self)))
    obtain ⟨a2, rfl⟩ := own _ _ _ pv2
    obtain rfl : w = Value.ref a2 := rz
    have I5 : Inv X pins σ H2 s2 := I4.unpinned
    show wpAny _ X.A.in1 (updateSeq S (fun _ => #[Value.ref a2]) >>= _) _ _ _
    refine wpAny_bind (wpAny_updateSeq kS rfl ?_)
    have hS₂ := Heap.get?_update_self (Obj.mapSeq fun _ => #[Value.ref a2]) kS rfl
    refine wpAny_bind (wpAny_letGo ?_)
    refine wpAny_bind (wpAny_updateSeq hS₂ rfl ?_)
    have hS3 := Heap.get?_update_self (Obj.mapSeq fun _ => #[Value.ref a2]) hS₂ rfl
    have oth : ∀ (b : Addr) (o : Obj), b ≠ S → s2.heap.get? b = some o → ((s2.heap.update S (Obj.mapSeq fun _ => #[Value.ref a2])).update S (Obj.mapSeq fun _ => #[Value.ref a2])).get? b = some o := fun b o hb e =>
      (Heap.get?_update_other _ _ (Ne.symm hb)).trans ((Heap.get?_update_other _ _ (Ne.symm hb)).trans e)
    have I6 : Inv X pins σ H2 { s2 with heap := (s2.heap.update S (Obj.mapSeq fun _ => #[Value.ref a2])).update S (Obj.mapSeq fun _ => #[Value.ref a2]) } := I5.turned (t' := s2.toks) oth nS g1 g3 g4 g5
    refine wpAny_pure ⟨plainId_quiet F.plain_sum_loop _, ih (i + 1) (.ref a2) (.ref a2) c H2 _ (by omega) hlt I6 rfl pv2 ⟨oi, oth it oi ne ki, by obtain ⟨o', e', c', d'⟩ := st'; rw [ei] at e'; cases e'; exact ⟨c', d'⟩⟩ hS3 ⟨ni, f1, f2, f3, f4, f5⟩ ⟨nS, g1, g2, g3, g4, g5⟩⟩
/-- a class that is no text -/
structure NoTxt (K : PySem.W.Frag) (C : Addr) : Prop where
  str : PySem.W.subIn K (.ref C) (.type "str") = some false
  byt : PySem.W.subIn K (.ref C) (.type "bytes") = some false
  bar : PySem.W.subIn K (.ref C) (.type "bytearray") = some false
/-- sum(row, start=an instance): Pv tells the total behind i items -/
def rSumO (K : PySem.W.Frag) (rA : R2) : List V → List V → Hp → VK → Prop := fun xs zs H Q => ∃ (l a C dx : Addr) (fs : List (Str × V)) (row : List V), xs = [.ref l] ∧ zs = [.ref a] ∧ H a = some (.ins C dx fs) ∧ NoTxt K C ∧
  ∃ Pv : Nat → V → Hp → Prop, Pv 0 (.ref a) H ∧ (∀ i acc H', Pv i acc H' → ∃ b, acc = .ref b) ∧ (∀ i acc H', i ≤ row.length → Pv i acc H' → SqT K H' l row) ∧ (∀ i acc x H', row[i]? = some x → Pv i acc H' → rA acc x H' (Pv (i + 1))) ∧ ∀ acc H', Pv row.length acc H' → Q acc H'
theorem argsOk_sum (a b : Value) : argsOk "sum" ⟨[a], [(Str.ofString "start", b)]⟩ := by
  unfold argsOk
  kernel_rfl
theorem cr_sumO {rA : R2} (hc : X.calm = true) (op : OpN X.inn (binaryOp .Add) rA) : CallRK X (.builtin "sum") [Str.ofString "start"] (rSumO X.K rA) := by
  intro pins s σ H xs zs us ws Q I r rz h
  obtain ⟨l, a, C, dx, fs, row, rfl, rfl, ha, nt, Pv, p0, own, kept, step, fin⟩ := h
  obtain rfl := Vals.ref1 r
  obtain rfl := Vals.ref1 rz
  obtain ⟨its, ri, pl, hz⟩ := I.tuple (kept 0 _ _ (Nat.zero_le _) p0)
  obtain ⟨mA, J, _⟩ := ins_get I.hok ha
  obtain ⟨od, J, _⟩ := J.look
  have n1 : ∀ M : Model, PySem.W.Looks M s.heap (isInstance (.ref a) (.type "str")) false := fun M => OC.not_inst I.kIn J nt.str
  have n2 : ∀ M : Model, PySem.W.Looks M s.heap (isInstance (.ref a) (.type "bytes")) false := fun M => OC.not_inst I.kIn J nt.byt
  have n3 : ∀ M : Model, PySem.W.Looks M s.heap (isInstance (.ref a) (.type "bytearray")) false := fun M => OC.not_inst I.kIn J nt.bar
  refine wpAny_call (codeAny_call_builtin F.plain_sum F.entry_sum ?_)
  have body : wpAny (model X.prog X.w) X.A.in1 (Builtin.«sum» ⟨[.ref l], [(Str.ofString "start", .ref a)]⟩) (fun fin s' => match fin with
      | .done f => (match (Except.ok f : Result) with | .ok (.ret v) => EP X pins σ Q v s' | .ok _ => False | .error e => X.xe e s')
      | .again c' => c'.quiet = true ∧ codeAny (model X.prog X.w) X.A c' (fun r s' => match r with | .ok (.ret v) => EP X pins σ Q v s' | .ok _ => False | .error e => X.xe e s') s') X.xe s := by
    unfold Builtin.«sum»
    simp only [List.length_cons, List.length_nil]
    rw [if_neg (by decide)]
    refine wpAny_bind (wpAny_of_eq (show Builtin.Builtins.bindParams "sum" ["start"] 0 ⟨[], [(Str.ofString "start", .ref a)]⟩ = pure [some (.ref a)] from rfl) ?_)
    refine wpAny_bind (wpAny_pyIter_tuple (show s.heap.IsTuple l its.toArray from pl) ?_)
    have up : ∀ b o, s.heap.get? b = some o → (s.heap.push { cls := .type "tuple_iterator", data := .fields #[.ref l, .int 0 0] }).get? b = some o := fun b o e => Heap.get?_push_of_some _ e
    refine wpAny_bind (wpAny_pure ?_)
    simp only [List.forIn_cons, List.forIn_nil]
    refine wpAny_bind (wpAny_bind (wpAny_bind (n1 _ _ _ _ _ up ?_)))
    simp only [Bool.false_eq_true, if_false]
    refine wpAny_pure (wpAny_bind (wpAny_bind (n2 _ _ _ _ _ up ?_)))
    simp only [Bool.false_eq_true, if_false]
    refine wpAny_pure (wpAny_bind (wpAny_bind (n3 _ _ _ _ _ up ?_)))
    simp only [Bool.false_eq_true, if_false]
    refine wpAny_pure (wpAny_pure ?_)
    refine wpAny_bind (wpAny_newObj_type ?_)
    have I1 : Inv X pins σ H { s with heap := s.heap.push { cls := .type "tuple_iterator", data := .fields #[.ref l, .int 0 0] } } := I.kept (t' := s.toks) up
    have sz1 : (s.heap.push { cls := .type "tuple_iterator", data := .fields #[.ref l, .int 0 0] }).objs.size = s.heap.objs.size + 1 := Heap.size_push ..
    have up2 : ∀ b o, (s.heap.push { cls := .type "tuple_iterator", data := .fields #[.ref l, .int 0 0] }).get? b = some o → ((s.heap.push { cls := .type "tuple_iterator", data := .fields #[.ref l, .int 0 0] }).push { cls := .type "list", dict := none, data := .seq #[.ref a] 0 }).get? b = some o := fun b o e => Heap.get?_push_of_some _ e
    have I2 := I1.kept (t' := s.toks) up2
    have le1 : s.heap.objs.size ≤ (s.heap.push { cls := .type "tuple_iterator", data := .fields #[.ref l, .int 0 0] }).objs.size := by rw [sz1]; exact Nat.le_succ _
    exact wpAny_pure ⟨plainId_quiet F.plain_sum_loop _, sum_turns hc op Pv own kept step fin (by show s.heap.objs.size ≠ _; rw [sz1]; exact Nat.ne_of_lt (Nat.lt_succ_self _)) row.length 0 (.ref a) (.ref a) 0 H _ rfl (Nat.zero_le _) I2 rfl p0
      ⟨_, up2 _ _ (Heap.get?_push_size _ rfl), rfl, rfl⟩ (Heap.get?_push_size _ rfl) (I.fpOk (Nat.le_refl _) (I.hok.fresh (Nat.le_refl _))) (I.fpOk le1 (I.hok.fresh le1))⟩
  simp only [checkBuiltinCall, F.kind_sum]
  cases hsig : Manifest.signature? "sum" with
  | none => exact wpAny_pure body
  | some sig =>
    have ha' : Bind.checkArgs "sum" sig ⟨[.ref l], [(Str.ofString "start", .ref a)]⟩ = pure () := by simpa only [argsOk, hsig] using argsOk_sum (.ref l) (.ref a)
    simp only [List.zip_cons_cons, List.zip_nil_right, ha']
    exact wpAny_pure body
end
end L2
set_option Elab.async false
set_option linter.all false
set_option maxRecDepth 100000
set_option maxHeartbeats 4000000
namespace KI
open PySem L2
/-- how == of the two is told: one of both a share -/
def Cmp (K : PySem.W.Frag) (C : Addr) (H : Hp) (x y : V) (b : Bool) : Prop :=
  (∃ a dx fs, x = .ref a ∧ H a = some (.ins C dx fs) ∧ EqS K C a y b H ∧ ((∃ T, Fo K H y T) ∨ ∃ c dy gs, y = .ref c ∧ H c = some (.ins C dy gs))) ∨
    (∃ c dy gs T, y = .ref c ∧ H c = some (.ins C dy gs) ∧ Fo K H x T ∧ EqS K C c x b H)
theorem sh2 (x y : Int) : SeqAt.shaped (.tuple [.int x, .int y]) = true := rfl
/-- __eq__ of the class -/
structure EqT (P : Program) (w : World) (K : PySem.W.Frag) (mg : Str → Option Value) (base : Heap) (C : Addr) : Prop where
  ex : ∃ (f : Addr) (fd : FuncData), OwnT K C f ∧ FnOk P w K mg base CX0 2 f fd ["self", "other"] (spOwn (EqS K C)) ∧ Binds K fd ["self", "other"] []
/-- x == y: by a share, or of plain data -/
theorem EqT.op {X : Cx} {C : Addr} {op : CmpOp} (ho : OC.Is2 op) (c : EqT X.prog X.w X.K X.mg X.base C) (hr : Room 3 X.A) : ∃ r : R2, OpR X (compareOp op) r ∧ ∀ x y b H Q, Cmp X.K C H x y b → Q (.bl (OC.turn op b)) H → r x y H Q := by
  obtain ⟨f, fd, O, F, hb⟩ := c.ex
  exact ⟨_, op_ownB ho F O hb pass0 hr, fun x y b H Q h q => ⟨b, h, q⟩⟩
theorem is_eq : OC.Is2 .Eq := .inl rfl
theorem is_ne : OC.Is2 .NotEq := .inr rfl
theorem passX {X : Cx} : Passes (L2.CX X.prog X.w) X E0 := fun _ _ _ _ _ _ _ ⟨_, _, _, _, _, _, _, _, _, _, _, _, h⟩ => h.elim
/-- Share(p, q) and Share(p) -/
structure MkT (P : Program) (w : World) (K : PySem.W.Frag) (mg : Str → Option Value) (base : Heap) (C B : Addr) : Prop where
  ex : ∃ (f : Addr) (fd : FuncData) (ds : List Value), Mk K C f ∧ FnOk P w K mg base (L2.CX P w) 4 f fd ["self", "top", "bottom"] (spSI K C B) ∧ Binds K fd ["self", "top", "bottom"] [] ∧ Vals [.int 1] ds ∧ Binds K fd ["self", "top", "bottom"] ds
  gS : mg "Share" = some (.ref C)
section
variable {X : Cx} {C B : Addr} {p pos : Pos} {e : Expr} {es : List Expr} {t : TA}
theorem pe_share2 (m : MkT X.prog X.w X.K X.mg X.base C B) (hr : Room 5 X.A) (hg : Gl X "Share") (ha : PA X (e :: es) t)
    (he : starEach (e :: es) X.env = (false, eval e X.env) :: starEach es X.env := by rfl) (hpl : (backTo pos (starEach es X.env)).any (·.1) = false := by rfl) :
    PE X (.Call (.Name "Share" p) (e :: es) [] pos) (tMake C (spSI X.K C B) [] E0 t) := by
  obtain ⟨f, fd, ds, M, F, b0, v1, b1⟩ := m.ex
  exact pe_make M F hr hg m.gS b0 .nil passX ha (by decide) he hpl
theorem pe_share1 (m : MkT X.prog X.w X.K X.mg X.base C B) (hr : Room 5 X.A) (hg : Gl X "Share") (ha : PA X (e :: es) t)
    (he : starEach (e :: es) X.env = (false, eval e X.env) :: starEach es X.env := by rfl) (hpl : (backTo pos (starEach es X.env)).any (·.1) = false := by rfl) :
    PE X (.Call (.Name "Share" p) (e :: es) [] pos) (tMake C (spSI X.K C B) [.int 1] E0 t) := by
  obtain ⟨f, fd, ds, M, F, b0, v1, b1⟩ := m.ex
  exact pe_make M F hr hg m.gS b1 v1 passX ha (by decide) he hpl
end
/-- a share is made -/
theorem mk_ok {K : PySem.W.Frag} {C B : Addr} {a b : Int} {H : Hp} {Q : VK} {E : XK} (nz : b ≠ 0) (hl : b.natAbs.log2 < 9000)
    (k : ∀ (x dx : Addr) (H' : Hp), Same H H' → H' x = some (.ins C dx (shF (lowT a b) (lowB a b))) → Q (.ref x) H') :
    ∀ x dx, H x = none → H dx = none → dx ≠ x → spSI K C B [.ref x, .int a, .int b] (upd (upd H dx (.own x)) x (.ins C dx [])) (fun v H2 => v = .non ∧ Q (.ref x) H2) E :=
  fun x dx hx hd ne => ⟨x, dx, .int a, .int b, rfl, upd_same, .fo (.int a), .fo (.int b), .inl ⟨a, b, rfl, rfl, nz, hl, rfl, k x dx _ (by
    rw [upd_upd]
    exact (Same.put hd).trans (Same.put (by rw [upd_ne ne.symm]; exact hx))) upd_same⟩⟩
theorem mk_same {C : Addr} {H : Hp} {x dx : Addr} {o : HO} (hx : H x = none) (hd : H dx = none) (ne : dx ≠ x) : Same H (upd (upd (upd H dx (.own x)) x (.ins C dx [])) x o) := by
  rw [upd_upd]
  exact (Same.put hd).trans (Same.put (by rw [upd_ne ne.symm]; exact hx))
/-! ### lowest terms, once more -/
theorem sg_dvdT (a b : Int) : sg a b ∣ a := by
  have h : ((Nat.gcd a.natAbs b.natAbs : Nat) : Int) ∣ a := Int.ofNat_dvd_left.mpr (Nat.gcd_dvd_left _ _)
  unfold sg
  split
  · exact h
  · exact Int.neg_dvd.mpr h
theorem sg_dvdB (a b : Int) : sg a b ∣ b := by
  have h : ((Nat.gcd a.natAbs b.natAbs : Nat) : Int) ∣ b := Int.ofNat_dvd_left.mpr (Nat.gcd_dvd_right _ _)
  unfold sg
  split
  · exact h
  · exact Int.neg_dvd.mpr h
theorem low_mulT (a b : Int) : lowT a b * sg a b = a := by
  unfold lowT
  exact Int.fdiv_mul_cancel (sg_dvdT a b)
theorem low_mulB (a b : Int) : lowB a b * sg a b = b := by
  unfold lowB
  exact Int.fdiv_mul_cancel (sg_dvdB a b)
theorem abs_le {x g y : Int} (h : x * g = y) (hg : g ≠ 0) : x.natAbs ≤ y.natAbs := by
  rw [← h, Int.natAbs_mul]
  exact Nat.le_mul_of_pos_right _ (Int.natAbs_pos.mpr hg)
theorem lowT_le {a b : Int} (hb : b ≠ 0) : (lowT a b).natAbs ≤ a.natAbs := abs_le (low_mulT a b) (sg_ne hb)
theorem lowB_le {a b : Int} (hb : b ≠ 0) : (lowB a b).natAbs ≤ b.natAbs := abs_le (low_mulB a b) (sg_ne hb)
theorem lowB_pos {a b : Int} (hb : b ≠ 0) : 0 < lowB a b := by
  have e := low_mulB a b
  by_cases h : 0 < b
  · have hs : 0 < sg a b := by
      unfold sg
      rw [if_pos h]
      exact Int.ofNat_lt.mpr (gcd_pos hb)
    by_cases z : 0 < lowB a b
    · exact z
    · have : lowB a b * sg a b ≤ 0 := Int.mul_nonpos_of_nonpos_of_nonneg (by omega) (by omega)
      omega
  · have hs : sg a b < 0 := by
      unfold sg
      rw [if_neg h]
      have := Int.ofNat_lt.mpr (gcd_pos (a := a) hb)
      omega
    by_cases z : 0 < lowB a b
    · exact z
    · have : 0 ≤ lowB a b * sg a b := Int.mul_nonneg_of_nonpos_of_nonpos (by omega) (by omega)
      omega
theorem low_gcd {a b : Int} (hb : b ≠ 0) : Nat.gcd (lowT a b).natAbs (lowB a b).natAbs = 1 := by
  have e1 : (lowT a b).natAbs * Nat.gcd a.natAbs b.natAbs = a.natAbs := by
    rw [← sg_abs, ← Int.natAbs_mul, low_mulT]
  have e2 : (lowB a b).natAbs * Nat.gcd a.natAbs b.natAbs = b.natAbs := by
    rw [← sg_abs, ← Int.natAbs_mul, low_mulB]
  have h : Nat.gcd ((lowT a b).natAbs * Nat.gcd a.natAbs b.natAbs) ((lowB a b).natAbs * Nat.gcd a.natAbs b.natAbs) = Nat.gcd (lowT a b).natAbs (lowB a b).natAbs * Nat.gcd a.natAbs b.natAbs := Nat.gcd_mul_right _ _ _
  rw [e1, e2] at h
  have hp := gcd_pos (a := a) hb
  exact Nat.eq_of_mul_eq_mul_right hp (by rw [← h, Nat.one_mul])
theorem sg_one {x y : Int} (hy : 0 < y) (h : Nat.gcd x.natAbs y.natAbs = 1) : sg x y = 1 := by
  unfold sg
  rw [if_pos hy, h]
  rfl
theorem low_one {x y : Int} (hy : 0 < y) (h : Nat.gcd x.natAbs y.natAbs = 1) : lowT x y = x ∧ lowB x y = y := by
  unfold lowT lowB
  rw [sg_one hy h]
  exact ⟨Int.fdiv_one x, Int.fdiv_one y⟩
theorem low_int (i : Int) : lowT i 1 = i ∧ lowB i 1 = 1 := low_one (by decide) (by show Nat.gcd i.natAbs 1 = 1; exact Nat.gcd_one_right _)
/-! ### how shares and things compare -/
theorem cmp_fo {K : PySem.W.Frag} {C a dx : Addr} {t n : Int} {H : Hp} {y : V} {T : String} (e : H a = some (.ins C dx (shF t n))) (h : Fo K H y T) {b : Bool} (hb : b = (isI y && (decide (V.int n = V.int 1) && decide (V.int t = y)))) : Cmp K C H (.ref a) y b ∧ Cmp K C H y (.ref a) b :=
  have eq : EqS K C a y b H := ⟨dx, t, n, e, .inr ⟨⟨T, h⟩, hb⟩⟩
  ⟨.inl ⟨a, dx, _, rfl, e, eq, .inl ⟨T, h⟩⟩, .inr ⟨a, dx, _, T, rfl, e, h, eq⟩⟩
theorem si_ok {K : PySem.W.Frag} {C B : Addr} {a b : Int} {H : Hp} {x dx : Addr} {Q : VK} {E : XK} (hx : H x = none) (hd : H dx = none) (ne : dx ≠ x) (nz : b ≠ 0) (hl : b.natAbs.log2 < 9000)
    (k : ∀ H', Same H H' → H' x = some (.ins C dx (shF (lowT a b) (lowB a b))) → Q .non H') : spSI K C B [.ref x, .int a, .int b] (upd (upd H dx (.own x)) x (.ins C dx [])) Q E :=
  ⟨x, dx, .int a, .int b, rfl, upd_same, .fo (.int a), .fo (.int b), .inl ⟨a, b, rfl, rfl, nz, hl, k _ (mk_same hx hd ne) upd_same⟩⟩
theorem fo_same {K : PySem.W.Frag} {H H' : Hp} {x : V} {T : String} (h : Fo K H x T) (s : Same H H') : Fo K H' x T := by
  cases h with
  | non => exact .non
  | bl b => exact .bl b
  | int i => exact .int i
  | str x => exact .str x
  | lst e => exact .lst (s _ _ e)
  | tup e => exact .tup (s _ _ e)
  | dK e => exact .dK (s _ _ e)
end KI
set_option Elab.async false
set_option linter.all false
set_option maxRecDepth 100000
set_option maxHeartbeats 4000000
namespace L2
open PySem PySem.Spec PyProof.Rows
def rArL (C : Addr) (spF : Sp) : R2 := fun x y H Q => ∃ a dx fs, x = .ref a ∧ H a = some (.ins C dx fs) ∧ ((∃ i, y = .int i) ∨ ∃ c dy gs, y = .ref c ∧ H c = some (.ins C dy gs)) ∧ spF [x, y] H Q E0
section
variable {X : Cx} {C f g : Addr} {sym nm : String} {fd : FuncData} {ps : List Str} {n : Nat} {spF : Sp} {op : Operator}
/-- the same with the instance on the left -/
theorem op_arL (L : ArL X.K C op sym nm f) (R : ArR X.K C nm g) (F : FnOk X.prog X.w X.K X.mg X.base CX0 n f fd ps spF) (hb : Binds X.K fd ps []) (hr : Room n X.A) : OpN X (binaryOp op) (rArL C spF) := by
  intro E pins s σ H x y v u Q I rx ry ⟨a, dx, fs, ex, ha, hy, hsp⟩
  subst ex
  cases (show v = Value.ref a from rx)
  obtain ⟨mA, J, _⟩ := ins_get I.hok ha
  obtain ⟨od, J, _⟩ := J.look
  have go := run_two (E := E) F hb hr I rx ry hsp
  rcases hy with ⟨i, rfl⟩ | ⟨c, dy, gs, rfl, hc⟩
  · obtain ⟨ti, e⟩ := (show ∃ t, u = Value.int i t from ry)
    subst e
    obtain ⟨ro, ho⟩ := R.ho
    exact OA.bin_left_int L.hi I.kIn J L.hc L.hs L.hf R.hr ho R.hn R.up go
  · cases (show u = Value.ref c from ry)
    obtain ⟨mB, J', _⟩ := ins_get I.hok hc
    obtain ⟨od', J', _⟩ := J'.look
    exact OA.bin_twins L.hi I.kIn J L.hc L.hs L.hf J'.type go
/-- -x: of an int, or by the class's own method -/
def rUnO (C : Addr) (spN : Sp) : V → Hp → VK → Prop := fun x H Q => (∃ i, x = .int i ∧ Q (.int (-i)) H) ∨ ∃ a dx fs, x = .ref a ∧ H a = some (.ins C dx fs) ∧ spN [x] H Q E0
theorem un_own (hs : PySem.W.findIn X.K (.ref C) "__neg__" = some (some (.ref f))) (hf : PySem.W.isFn X.K (.ref f) = true) (F : FnOk X.prog X.w X.K X.mg X.base CX0 n f fd ps spF) (hb : Binds X.K fd ps []) (hr : Room n X.A) : UnR X (unaryOp .USub) (rUnO C spF) := by
  intro pins s σ H x v Q I rx h
  rcases h with ⟨i, rfl, q⟩ | ⟨a, dx, fs, rfl, ha, hsp⟩
  · exact un_neg pins s σ H _ v Q I rx ⟨i, rfl, q⟩
  · cases (show v = Value.ref a from rx)
    obtain ⟨mA, J, _⟩ := ins_get I.hok ha
    obtain ⟨od, J, _⟩ := J.look
    have hl := F.len _ _ _ _ hsp
    have r2 : Vals [V.ref a] [Value.ref a] := .cons rfl .nil
    unfold unaryOp
    refine wpAny_holding (wpAny_bind (PySem.W.special_fn I.kIn J hs (beq_iff_eq.mp hf) (wpAny_call (codeAny_mono (F.run X.A X.stack s H ⟨[.ref a], []⟩ [.ref a] [.ref a] _ E0 hr I.env0 (by
      have := hb s [.ref a] I.kIn (by simpa using hl)
      simpa using this) r2 hsp) fun r s' hq => ?_))))
    cases r with
    | error e => exact hq.elim
    | ok fl =>
      cases fl with
      | ret w =>
        obtain ⟨z, H', I', rz, q⟩ := I.after hq
        exact wpAny_pure ⟨z, H', I', rz, q⟩
      | next => exact False.elim hq
      | brk => exact False.elim hq
      | cont => exact False.elim hq
end
end L2
set_option Elab.async false
set_option linter.all false
set_option maxRecDepth 100000
set_option maxHeartbeats 4000000
namespace KI
open PySem L2
/-- a number: an integer, or a share with these fields -/
def Nm (C : Addr) (H : Hp) (v : V) (t n : Int) : Prop := (v = .int t ∧ n = 1) ∨ ∃ a dx, v = .ref a ∧ H a = some (.ins C dx (shF t n))
/-- lowest terms, of a moderate size -/
structure Low (t n : Int) : Prop where
  pos : 0 < n
  gcd : Nat.gcd t.natAbs n.natAbs = 1
  tb : t.natAbs < 2 ^ 4000
  nb : n.natAbs < 2 ^ 4000
theorem Nm.same {C : Addr} {H H' : Hp} {v : V} {t n : Int} (h : Nm C H v t n) (s : Same H H') : Nm C H' v t n := by
  rcases h with h | ⟨a, dx, e, h⟩
  · exact .inl h
  · exact .inr ⟨a, dx, e, s _ _ h⟩
theorem mul_lt {a b : Int} {i j : Nat} (h : a.natAbs < 2 ^ i) (h' : b.natAbs < 2 ^ j) : (a * b).natAbs < 2 ^ (i + j) := by
  rw [Int.natAbs_mul, Nat.pow_add]
  exact Nat.mul_lt_mul'' h h'
theorem log_of {a : Int} {i : Nat} (h : a.natAbs < 2 ^ i) (h0 : 0 < i) (hi : i ≤ 9000) : a.natAbs.log2 < 9000 := Nat.lt_of_lt_of_le (PySem.Flt.log2_lt_of h0 h) hi
section
variable {P : Program} {w : World} {K : PySem.W.Frag} {mg : Str → Option Value} {base : Heap} {C B : Addr}
/-- is_share(thing) -/
def spIsShare (K : PySem.W.Frag) (C : Addr) : Sp := fun vs H Q _ => ∃ x, vs = [x] ∧ ((∃ t n, Nm C H x t n ∧ Q (.bl true) H) ∨ ∃ T, Fo K H x T ∧ isI x = false ∧ Q (.bl false) H)
abbrev s_is_share : Stmt := top 21
theorem sc_is_share : FnScope ["thing"] ["thing"] (defScope s_is_share) := ⟨rfl, rfl, rfl, by decide +kernel, rfl, by decide +kernel, by decide +kernel⟩
theorem ok_is_share {f : Addr} {fd : FuncData} (F : Fun K "is_share" "is_share" s_is_share f fd) (T : ShT K mg C) (c_is_whole : Cal P w K mg base 1 "is_whole" ["thing"] (spWhole K C)) : FnOk P w K mg base CX0 2 f fd ["thing"] (spIsShare K C) := by
  refine F.ok sc_is_share (fun vs H Q E h => ?_) (fun cdv A outer s H vs Q E hr h => ?_)
  · obtain ⟨x, rfl, _⟩ := h
    rfl
  · obtain ⟨x, rfl, h⟩ := h
    refine ⟨_, (pss_one (ps_ret (pe_or (pe_callB call_isi (by rfl) T.bn.n_isinstance (by decide +kernel) (pa_cons (pv 0) (pa_cons (pe_glob (v := .ref C) rfl T.g_Share rfl) pa_nil))) (pe_one (pe_cal c_is_whole (hr.mono (by decide)) rfl (pa_cons (pv 0) pa_nil)))))), ?_⟩
    rcases h with ⟨t, n, ⟨rfl, rfl⟩ | ⟨a, dx, rfl, e⟩, k⟩ | ⟨T', fo, ix, k⟩
    · refine ⟨_, rfl, .int t, .ref C, _, _, false, rfl, .own C, (Fo.int t).ty, T.it.fo (H := H) (.int t), _, rfl, iteF ?_⟩
      exact ⟨_, rfl, .int t, rfl, .fo (.int t), k⟩
    · exact ⟨_, rfl, .ref a, .ref C, _, _, true, rfl, .own C, T.it.ty e, T.it.kself, _, rfl, iteT k⟩
    · refine ⟨_, rfl, x, .ref C, _, _, false, rfl, .own C, fo.ty, T.it.fo fo, _, rfl, iteF ?_⟩
      refine ⟨_, rfl, x, rfl, .fo fo, ?_⟩
      rw [ix]
      exact k
/-- share_of(number) -/
def spShareOf (C : Addr) : Sp := fun vs H Q _ => ∃ x t n, vs = [x] ∧ Nm C H x t n ∧ ∀ (a dx : Addr) (H' : Hp), Same H H' → H' a = some (.ins C dx (shF t n)) → Q (.ref a) H'
abbrev s_share_of : Stmt := top 22
theorem sc_share_of : FnScope ["thing"] ["thing"] (defScope s_share_of) := ⟨rfl, rfl, rfl, by decide +kernel, rfl, by decide +kernel, by decide +kernel⟩
theorem ok_share_of {f : Addr} {fd : FuncData} (F : Fun K "share_of" "share_of" s_share_of f fd) (T : ShT K mg C) (m : MkT P w K mg base C B) : FnOk P w K mg base CX0 6 f fd ["thing"] (spShareOf C) := by
  refine F.ok sc_share_of (fun vs H Q E h => ?_) (fun cdv A outer s H vs Q E hr h => ?_)
  · obtain ⟨x, t, n, rfl, _⟩ := h
    rfl
  · obtain ⟨x, t, n, rfl, h, k⟩ := h
    refine ⟨_, (pss_cons (ps_if (pt_val (pe_callB call_isi (by rfl) T.bn.n_isinstance (by decide +kernel) (pa_cons (pv 0) (pa_cons (pe_glob (v := .ref C) rfl T.g_Share rfl) pa_nil))))
        (pss_one (ps_ret (pv 0)))
        pss_nil)
      (pss_one (ps_ret (pe_share1 m hr rfl (pa_cons (pv 0) pa_nil))))), ?_⟩
    rcases h with ⟨rfl, rfl⟩ | ⟨a, dx, rfl, e⟩
    · refine ⟨_, rfl, .int t, .ref C, _, _, false, rfl, .own C, (Fo.int t).ty, T.it.fo (H := H) (.int t), _, rfl, iteF ?_⟩
      refine ⟨_, rfl, fun z dz hz hd ne => si_ok hz hd ne (a := t) (b := 1) (by decide) (by decide +kernel) fun H' s e => ⟨rfl, ?_⟩⟩
      rw [(low_int t).1, (low_int t).2] at e
      exact k z dz _ s e
    · exact ⟨_, rfl, .ref a, .ref C, _, _, true, rfl, .own C, T.it.ty e, T.it.kself, _, rfl, iteT ⟨_, rfl, k a dx H (Same.refl H) e⟩⟩
/-- share.less(number) -/
def spLess (C : Addr) : Sp := fun vs H Q _ => ∃ (a dx : Addr) (y : V) (t n t' n' : Int), vs = [.ref a, y] ∧ H a = some (.ins C dx (shF t n)) ∧ Nm C H y t' n' ∧ Low t n ∧ Low t' n' ∧ ∀ H', Same H H' → Q (.bl (decide (t * n' < t' * n))) H'
abbrev s_sless : Stmt := inClass (top 20) 12
theorem sc_sless : FnScope ["self", "other", "beside"] ["self", "other"] (defScope s_sless) := ⟨rfl, rfl, rfl, by decide +kernel, rfl, by decide +kernel, by decide +kernel⟩
theorem ok_sless {f : Addr} {fd : FuncData} (F : Fun K "less" "Share.less" s_sless f fd) (T : ShT K mg C) (c_of : Cal P w K mg base 6 "share_of" ["thing"] (spShareOf C)) : FnOk P w K mg base CX0 7 f fd ["self", "other"] (spLess C) := by
  refine F.ok sc_sless (fun vs H Q E h => ?_) (fun cdv A outer s H vs Q E hr h => ?_)
  · obtain ⟨a, dx, y, t, n, t', n', rfl, _⟩ := h
    rfl
  · obtain ⟨a, dx, y, t, n, t', n', rfl, ha, hy, l1, l2, k⟩ := h
    refine ⟨_, (pss_cons (ps_set (i := 2) sc_sless.nd rfl (Or.inl rfl) (pe_cal c_of hr rfl (pa_cons (pv 1) pa_nil)))
      (pss_one (ps_ret (pe_cmpR op_lt (pe_op op_mulW (pe_fld (pv 0) rfl) (pe_fld (pv 2) rfl)) (pe_op op_mulW (pe_fld (pv 2) rfl) (pe_fld (pv 0) rfl)) (nomark _))))), ?_⟩
    refine ⟨_, rfl, y, t', n', rfl, hy, fun b db H1 s1 e1 => ?_⟩
    have ha1 := s1 _ _ ha
    refine ⟨_, rfl, a, C, dx, _, _, rfl, ha1, T.it.cl, T.nT, shF_top _ _, _, rfl, b, C, db, _, _, rfl, e1, T.it.cl, T.nB, shF_bottom _ _, t, n', rfl, rfl, wide_mul l1.tb l2.nb (by decide) (by decide) (by decide), ?_⟩
    refine ⟨_, rfl, b, C, db, _, _, rfl, e1, T.it.cl, T.nT, shF_top _ _, _, rfl, a, C, dx, _, _, rfl, ha1, T.it.cl, T.nB, shF_bottom _ _, t', n, rfl, rfl, wide_mul l2.tb l1.nb (by decide) (by decide) (by decide), ?_⟩
    exact ⟨_, _, rfl, rfl, k _ s1⟩
end
end KI
set_option Elab.async false
set_option linter.all false
set_option maxRecDepth 100000
set_option maxHeartbeats 4000000
namespace KI
open PySem L2
theorem Low.neg {t n : Int} (h : Low t n) : Low (-t) n := ⟨h.pos, by rw [Int.natAbs_neg]; exact h.gcd, by rw [Int.natAbs_neg]; exact h.tb, h.nb⟩
theorem Low.one {i : Int} (h : i.natAbs < 2 ^ 4000) : Low i 1 := ⟨by decide, by show Nat.gcd i.natAbs 1 = 1; exact Nat.gcd_one_right _, h, by decide +kernel⟩
/-- the methods for + and - are where they should be -/
structure ArT (P : Program) (w : World) (K : PySem.W.Frag) (mg : Str → Option Value) (base : Heap) (C : Addr) (op : Operator) (sym nm : String) (k k' : Nat) (sp spR : Sp) : Prop where
  ex : ∃ (f g : Addr) (fd gd : FuncData), ArL K C op sym nm f ∧ ArR K C nm g ∧ FnOk P w K mg base CX0 k f fd ["self", "other"] sp ∧ Binds K fd ["self", "other"] [] ∧ FnOk P w K mg base CX0 k' g gd ["self", "other"] spR ∧ Binds K gd ["self", "other"] []
/-- the left method alone -/
structure ArTL (P : Program) (w : World) (K : PySem.W.Frag) (mg : Str → Option Value) (base : Heap) (C : Addr) (op : Operator) (sym nm : String) (k : Nat) (sp : Sp) : Prop where
  ex : ∃ (f g : Addr) (fd : FuncData), ArL K C op sym nm f ∧ ArR K C nm g ∧ FnOk P w K mg base CX0 k f fd ["self", "other"] sp ∧ Binds K fd ["self", "other"] []
structure NegT (P : Program) (w : World) (K : PySem.W.Frag) (mg : Str → Option Value) (base : Heap) (C : Addr) (k : Nat) (sp : Sp) : Prop where
  ex : ∃ (f : Addr) (fd : FuncData), PySem.W.findIn K (.ref C) "__neg__" = some (some (.ref f)) ∧ PySem.W.isFn K (.ref f) = true ∧ FnOk P w K mg base CX0 k f fd ["self"] sp ∧ Binds K fd ["self"] []
theorem ArTL.op {X : Cx} {C : Addr} {op : Operator} {sym nm : String} {k : Nat} {sp : Sp} (c : ArTL X.prog X.w X.K X.mg X.base C op sym nm k sp) (hr : Room k X.A) : OpN X (binaryOp op) (rArL C sp) := by
  obtain ⟨f, g, fd, L, R, F, b⟩ := c.ex
  exact op_arL L R F b hr
theorem ArT.op {X : Cx} {C : Addr} {op : Operator} {sym nm : String} {k k' : Nat} {sp spR : Sp} (c : ArT X.prog X.w X.K X.mg X.base C op sym nm k k' sp spR) (hr : Room k X.A) (hr' : Room k' X.A) : OpN X (binaryOp op) (rAr C sp spR) := by
  obtain ⟨f, g, fd, gd, L, R, F, b, G, b'⟩ := c.ex
  exact op_ar L R F b hr G b' hr'
theorem NegT.op {X : Cx} {C : Addr} {k : Nat} {sp : Sp} (c : NegT X.prog X.w X.K X.mg X.base C k sp) (hr : Room k X.A) : UnR X (unaryOp .USub) (rUnO C sp) := by
  obtain ⟨f, fd, h1, h2, F, b⟩ := c.ex
  exact un_own h1 h2 F b hr
theorem other_of {C : Addr} {H : Hp} {y : V} {t n : Int} (h : Nm C H y t n) : (∃ i, y = .int i) ∨ ∃ c dy gs, y = .ref c ∧ H c = some (.ins C dy gs) := by
  rcases h with ⟨rfl, _⟩ | ⟨a, dx, rfl, e⟩
  · exact .inl ⟨t, rfl⟩
  · exact .inr ⟨a, dx, _, rfl, e⟩
/-- a new share with the lowest terms of a over b -/
def NewSh (C : Addr) (H : Hp) (Q : VK) (a b : Int) : Prop := ∀ (z dz : Addr) (H' : Hp), Same H H' → H' z = some (.ins C dz (shF (lowT a b) (lowB a b))) → Q (.ref z) H'
def spNeg (C : Addr) : Sp := fun vs H Q _ => ∃ (a dx : Addr) (t n : Int), vs = [.ref a] ∧ H a = some (.ins C dx (shF t n)) ∧ Low t n ∧ ∀ (z dz : Addr) (H' : Hp), Same H H' → H' z = some (.ins C dz (shF (-t) n)) → Q (.ref z) H'
def spAdd (C : Addr) : Sp := fun vs H Q _ => ∃ (a dx : Addr) (y : V) (t n t' n' : Int), vs = [.ref a, y] ∧ H a = some (.ins C dx (shF t n)) ∧ Nm C H y t' n' ∧ Low t n ∧ Low t' n' ∧ NewSh C H Q (t * n' + t' * n) (n * n')
def spSub (C : Addr) : Sp := fun vs H Q _ => ∃ (a dx : Addr) (y : V) (t n t' n' : Int), vs = [.ref a, y] ∧ H a = some (.ins C dx (shF t n)) ∧ Nm C H y t' n' ∧ Low t n ∧ Low t' n' ∧ NewSh C H Q (t * n' + -t' * n) (n * n')
def spRadd (C : Addr) : Sp := fun vs H Q _ => ∃ (a dx : Addr) (i t n : Int), vs = [.ref a, .int i] ∧ H a = some (.ins C dx (shF t n)) ∧ Low t n ∧ Low i 1 ∧ NewSh C H Q (t * 1 + i * n) (n * 1)
def spRsub (C : Addr) : Sp := fun vs H Q _ => ∃ (a dx : Addr) (i t n : Int), vs = [.ref a, .int i] ∧ H a = some (.ins C dx (shF t n)) ∧ Low t n ∧ Low i 1 ∧ NewSh C H Q (-t * 1 + i * n) (n * 1)
section
variable {P : Program} {w : World} {K : PySem.W.Frag} {mg : Str → Option Value} {base : Heap} {C B : Addr}
abbrev s_neg : Stmt := inClass (top 20) 3
theorem sc_neg : FnScope ["self"] ["self"] (defScope s_neg) := ⟨rfl, rfl, rfl, by decide +kernel, rfl, by decide +kernel, by decide +kernel⟩
theorem ok_neg {f : Addr} {fd : FuncData} (F : Fun K "__neg__" "Share.__neg__" s_neg f fd) (T : ShT K mg C) (m : MkT P w K mg base C B) : FnOk P w K mg base CX0 6 f fd ["self"] (spNeg C) := by
  refine F.ok sc_neg (fun vs H Q E h => ?_) (fun cdv A outer s H vs Q E hr h => ?_)
  · obtain ⟨a, dx, t, n, rfl, _⟩ := h
    rfl
  · obtain ⟨a, dx, t, n, rfl, ha, l, k⟩ := h
    refine ⟨_, (pss_one (ps_ret (pe_share2 m hr rfl (pa_cons (pe_un un_neg (pe_fld (pv 0) rfl)) (pa_cons (pe_fld (pv 0) rfl) pa_nil))))), ?_⟩
    refine ⟨_, rfl, a, C, dx, _, _, rfl, ha, T.it.cl, T.nT, shF_top _ _, t, rfl, _, rfl, a, C, dx, _, _, rfl, ha, T.it.cl, T.nB, shF_bottom _ _, fun z dz hz hd ne => si_ok hz hd ne (a := -t) (b := n) (by have := l.pos; omega) (log_of l.nb (by decide) (by decide)) fun H' s e => ⟨rfl, ?_⟩⟩
    have h1 := low_one (x := -t) l.pos (by rw [Int.natAbs_neg]; exact l.gcd)
    rw [h1.1, h1.2] at e
    exact k z dz H' s e
abbrev s_add : Stmt := inClass (top 20) 1
theorem sc_add : FnScope ["self", "other", "beside"] ["self", "other"] (defScope s_add) := ⟨rfl, rfl, rfl, by decide +kernel, rfl, by decide +kernel, by decide +kernel⟩
theorem ok_add {f : Addr} {fd : FuncData} (F : Fun K "__add__" "Share.__add__" s_add f fd) (T : ShT K mg C) (m : MkT P w K mg base C B) (c_is : Cal P w K mg base 2 "is_share" ["thing"] (spIsShare K C)) (c_of : Cal P w K mg base 6 "share_of" ["thing"] (spShareOf C)) :
    FnOk P w K mg base CX0 7 f fd ["self", "other"] (spAdd C) := by
  refine F.ok sc_add (fun vs H Q E h => ?_) (fun cdv A outer s H vs Q E hr h => ?_)
  · obtain ⟨a, dx, y, t, n, t', n', rfl, _⟩ := h
    rfl
  · obtain ⟨a, dx, y, t, n, t', n', rfl, ha, hy, l1, l2, k⟩ := h
    refine ⟨_, (pss_cons (ps_if (pt_not (pt_val (pe_cal c_is (hr.mono (by decide)) rfl (pa_cons (pv 1) pa_nil))))
        pss_never
        pss_nil)
      (pss_cons (ps_set (i := 2) sc_add.nd rfl (Or.inl rfl) (pe_cal c_of hr rfl (pa_cons (pv 1) pa_nil)))
      (pss_one (ps_ret (pe_share2 m (hr.mono (by decide)) rfl (pa_cons (pe_op op_add (pe_op op_mulW (pe_fld (pv 0) rfl) (pe_fld (pv 2) rfl)) (pe_op op_mulW (pe_fld (pv 2) rfl) (pe_fld (pv 0) rfl))) (pa_cons (pe_op op_mulW (pe_fld (pv 0) rfl) (pe_fld (pv 2) rfl)) pa_nil))))))), ?_⟩
    refine ⟨_, rfl, y, rfl, .inl ⟨t', n', hy, _, rfl, iteF ?_⟩⟩
    refine ⟨_, rfl, y, t', n', rfl, hy, fun b db H1 s1 e1 => ?_⟩
    have ha1 := s1 _ _ ha
    refine ⟨_, rfl, a, C, dx, _, _, rfl, ha1, T.it.cl, T.nT, shF_top _ _, _, rfl, b, C, db, _, _, rfl, e1, T.it.cl, T.nB, shF_bottom _ _, t, n', rfl, rfl, wide_mul l1.tb l2.nb (by decide) (by decide) (by decide), ?_⟩
    refine ⟨_, rfl, b, C, db, _, _, rfl, e1, T.it.cl, T.nT, shF_top _ _, _, rfl, a, C, dx, _, _, rfl, ha1, T.it.cl, T.nB, shF_bottom _ _, t', n, rfl, rfl, wide_mul l2.tb l1.nb (by decide) (by decide) (by decide), ?_⟩
    refine ⟨_, _, rfl, rfl, _, rfl, a, C, dx, _, _, rfl, ha1, T.it.cl, T.nB, shF_bottom _ _, _, rfl, b, C, db, _, _, rfl, e1, T.it.cl, T.nB, shF_bottom _ _, n, n', rfl, rfl, wide_mul l1.nb l2.nb (by decide) (by decide) (by decide), ?_⟩
    have p1 := l1.pos
    have p2 := l2.pos
    have pp : 0 < n * n' := Int.mul_pos p1 p2
    refine fun z dz hz hd ne => si_ok hz hd ne (a := t * n' + t' * n) (b := n * n') (by omega) (log_of (mul_lt l1.nb l2.nb) (by decide) (by decide)) fun H' s e => ⟨rfl, ?_⟩
    exact k z dz H' (s1.trans s) e
abbrev s_radd : Stmt := inClass (top 20) 2
theorem sc_radd : FnScope ["self", "other"] ["self", "other"] (defScope s_radd) := ⟨rfl, rfl, rfl, by decide +kernel, rfl, by decide +kernel, by decide +kernel⟩
theorem ok_radd {f : Addr} {fd : FuncData} (F : Fun K "__radd__" "Share.__radd__" s_radd f fd) (c_is_whole : Cal P w K mg base 1 "is_whole" ["thing"] (spWhole K C)) (ad : ArTL P w K mg base C .Add "+" "add" 7 (spAdd C)) :
    FnOk P w K mg base CX0 8 f fd ["self", "other"] (spRadd C) := by
  refine F.ok sc_radd (fun vs H Q E h => ?_) (fun cdv A outer s H vs Q E hr h => ?_)
  · obtain ⟨a, dx, i, t, n, rfl, _⟩ := h
    rfl
  · obtain ⟨a, dx, i, t, n, rfl, ha, l1, l2, k⟩ := h
    have o := (ArTL.op (X := (cxOf CX0 P w K mg base ["self", "other"] "Share.__radd__" (defScope s_radd) f cdv A outer s H E).nox) ad hr).toR
    refine ⟨_, (pss_cons (ps_if (pt_not (pt_val (pe_cal c_is_whole (hr.mono (by decide)) rfl (pa_cons (pv 1) pa_nil))))
        pss_never
        pss_nil)
      (pss_one (ps_ret (pe_op o (pv 0) (pv 1))))), ?_⟩
    refine ⟨_, rfl, .int i, rfl, .fo (.int i), _, rfl, iteF ?_⟩
    exact ⟨_, rfl, _, rfl, a, dx, _, rfl, ha, .inl ⟨i, rfl⟩, a, dx, .int i, t, n, i, 1, rfl, ha, .inl ⟨rfl, rfl⟩, l1, l2, k⟩
abbrev s_sub : Stmt := inClass (top 20) 4
theorem sc_sub : FnScope ["self", "other"] ["self", "other"] (defScope s_sub) := ⟨rfl, rfl, rfl, by decide +kernel, rfl, by decide +kernel, by decide +kernel⟩
theorem ok_sub {f : Addr} {fd : FuncData} (F : Fun K "__sub__" "Share.__sub__" s_sub f fd) (c_is : Cal P w K mg base 2 "is_share" ["thing"] (spIsShare K C)) (ad : ArTL P w K mg base C .Add "+" "add" 7 (spAdd C)) (ng : NegT P w K mg base C 6 (spNeg C)) :
    FnOk P w K mg base CX0 8 f fd ["self", "other"] (spSub C) := by
  refine F.ok sc_sub (fun vs H Q E h => ?_) (fun cdv A outer s H vs Q E hr h => ?_)
  · obtain ⟨a, dx, y, t, n, t', n', rfl, _⟩ := h
    rfl
  · obtain ⟨a, dx, y, t, n, t', n', rfl, ha, hy, l1, l2, k⟩ := h
    have o := (ArTL.op (X := (cxOf CX0 P w K mg base ["self", "other"] "Share.__sub__" (defScope s_sub) f cdv A outer s H E).nox) ad hr).toR
    have un := NegT.op (X := (cxOf CX0 P w K mg base ["self", "other"] "Share.__sub__" (defScope s_sub) f cdv A outer s H E).nox) ng (hr.mono (by decide))
    refine ⟨_, (pss_cons (ps_if (pt_not (pt_val (pe_cal c_is (hr.mono (by decide)) rfl (pa_cons (pv 1) pa_nil))))
        pss_never
        pss_nil)
      (pss_one (ps_ret (pe_op o (pv 0) (pe_un un (pv 1)))))), ?_⟩
    refine ⟨_, rfl, y, rfl, .inl ⟨t', n', hy, _, rfl, iteF ?_⟩⟩
    refine ⟨_, rfl, _, rfl, ?_⟩
    rcases hy with ⟨rfl, rfl⟩ | ⟨b, db, rfl, hb⟩
    · exact .inl ⟨t', rfl, a, dx, _, rfl, ha, .inl ⟨_, rfl⟩, a, dx, .int (-t'), t, n, -t', 1, rfl, ha, .inl ⟨rfl, rfl⟩, l1, l2.neg, k⟩
    · refine .inr ⟨b, db, _, rfl, hb, b, db, t', n', rfl, hb, l2, fun z dz H1 s1 e1 => ?_⟩
      exact ⟨a, dx, _, rfl, s1 _ _ ha, .inr ⟨z, dz, _, rfl, e1⟩, a, dx, .ref z, t, n, -t', n', rfl, s1 _ _ ha, .inr ⟨z, dz, rfl, e1⟩, l1, l2.neg, fun z2 dz2 H2 s2 e2 => k z2 dz2 H2 (s1.trans s2) e2⟩
abbrev s_rsub : Stmt := inClass (top 20) 5
theorem sc_rsub : FnScope ["self", "other"] ["self", "other"] (defScope s_rsub) := ⟨rfl, rfl, rfl, by decide +kernel, rfl, by decide +kernel, by decide +kernel⟩
theorem ok_rsub {f : Addr} {fd : FuncData} (F : Fun K "__rsub__" "Share.__rsub__" s_rsub f fd) (c_is_whole : Cal P w K mg base 1 "is_whole" ["thing"] (spWhole K C)) (ad : ArTL P w K mg base C .Add "+" "add" 7 (spAdd C)) (ng : NegT P w K mg base C 6 (spNeg C)) :
    FnOk P w K mg base CX0 8 f fd ["self", "other"] (spRsub C) := by
  refine F.ok sc_rsub (fun vs H Q E h => ?_) (fun cdv A outer s H vs Q E hr h => ?_)
  · obtain ⟨a, dx, i, t, n, rfl, _⟩ := h
    rfl
  · obtain ⟨a, dx, i, t, n, rfl, ha, l1, l2, k⟩ := h
    have o := (ArTL.op (X := (cxOf CX0 P w K mg base ["self", "other"] "Share.__rsub__" (defScope s_rsub) f cdv A outer s H E).nox) ad hr).toR
    have un := NegT.op (X := (cxOf CX0 P w K mg base ["self", "other"] "Share.__rsub__" (defScope s_rsub) f cdv A outer s H E).nox) ng (hr.mono (by decide))
    refine ⟨_, (pss_cons (ps_if (pt_not (pt_val (pe_cal c_is_whole (hr.mono (by decide)) rfl (pa_cons (pv 1) pa_nil))))
        pss_never
        pss_nil)
      (pss_one (ps_ret (pe_op o (pe_un un (pv 0)) (pv 1))))), ?_⟩
    refine ⟨_, rfl, .int i, rfl, .fo (.int i), _, rfl, iteF ?_⟩
    refine ⟨_, rfl, .inr ⟨a, dx, _, rfl, ha, a, dx, t, n, rfl, ha, l1, fun z dz H1 s1 e1 => ⟨_, rfl, ?_⟩⟩⟩
    exact ⟨z, dz, _, rfl, e1, .inl ⟨i, rfl⟩, z, dz, .int i, -t, n, i, 1, rfl, e1, .inl ⟨rfl, rfl⟩, l1.neg, l2, fun z2 dz2 H2 s2 e2 => k z2 dz2 H2 (s1.trans s2) e2⟩
end
end KI
set_option Elab.async false
set_option linter.all false
set_option maxRecDepth 100000
set_option maxHeartbeats 4000000
namespace KI
open PySem L2
theorem low_cross (S D : Int) : lowT S D * D = S * lowB S D := by
  have h1 := low_mulT S D
  have h2 := low_mulB S D
  calc lowT S D * D = lowT S D * (lowB S D * sg S D) := by rw [h2]
    _ = (lowT S D * sg S D) * lowB S D := by rw [Int.mul_comm (lowB S D), Int.mul_assoc]
    _ = S * lowB S D := by rw [h1]
/-- lowest terms are told by the ratio -/
theorem low_unique {p q p' q' : Int} (hq : 0 < q) (hq' : 0 < q') (g : Nat.gcd p.natAbs q.natAbs = 1) (g' : Nat.gcd p'.natAbs q'.natAbs = 1) (e : p * q' = p' * q) : p = p' ∧ q = q' := by
  have ea : p.natAbs * q'.natAbs = p'.natAbs * q.natAbs := by rw [← Int.natAbs_mul, ← Int.natAbs_mul, e]
  have d1 : q.natAbs ∣ q'.natAbs := by
    have c : Nat.Coprime q.natAbs p.natAbs := by
      show Nat.gcd q.natAbs p.natAbs = 1
      rw [Nat.gcd_comm]
      exact g
    exact c.dvd_of_dvd_mul_left ⟨p'.natAbs, by rw [ea, Nat.mul_comm]⟩
  have d2 : q'.natAbs ∣ q.natAbs := by
    have c : Nat.Coprime q'.natAbs p'.natAbs := by
      show Nat.gcd q'.natAbs p'.natAbs = 1
      rw [Nat.gcd_comm]
      exact g'
    exact c.dvd_of_dvd_mul_left ⟨p.natAbs, by rw [← ea, Nat.mul_comm]⟩
  have eq : q = q' := by
    have := Nat.dvd_antisymm d1 d2
    omega
  subst eq
  exact ⟨Int.eq_of_mul_eq_mul_right (by omega) e, rfl⟩
theorem low_ratio {a b c d : Int} (hb : b ≠ 0) (hd : d ≠ 0) (e : a * d = c * b) : lowT a b = lowT c d ∧ lowB a b = lowB c d := by
  refine low_unique (lowB_pos hb) (lowB_pos hd) (low_gcd hb) (low_gcd hd) ?_
  have h1 := low_cross a b
  have h2 := low_cross c d
  have key : (lowT a b * lowB c d) * (b * d) = (lowT c d * lowB a b) * (b * d) := by
    calc (lowT a b * lowB c d) * (b * d) = (lowT a b * b) * (d * lowB c d) := by ac_rfl
      _ = (a * lowB a b) * (d * lowB c d) := by rw [h1]
      _ = (a * d) * (lowB a b * lowB c d) := by ac_rfl
      _ = (c * b) * (lowB a b * lowB c d) := by rw [e]
      _ = (c * lowB c d) * (lowB a b * b) := by ac_rfl
      _ = (lowT c d * d) * (lowB a b * b) := by rw [← h2]
      _ = (lowT c d * lowB a b) * (b * d) := by ac_rfl
  exact Int.eq_of_mul_eq_mul_right (Int.mul_ne_zero hb hd) key
/-- v is the number S over D -/
def Num (C : Addr) (H : Hp) (v : V) (S D : Int) : Prop := Nm C H v (lowT S D) (lowB S D)
theorem Num.same {C : Addr} {H H' : Hp} {v : V} {S D : Int} (h : Num C H v S D) (s : Same H H') : Num C H' v S D := Nm.same h s
theorem low_of {S D : Int} (hD : 0 < D) (hS : S.natAbs < 2 ^ 4000) (hDb : D.natAbs < 2 ^ 4000) : Low (lowT S D) (lowB S D) :=
  ⟨lowB_pos (by omega), low_gcd (by omega), Nat.lt_of_le_of_lt (lowT_le (by omega)) hS, Nat.lt_of_le_of_lt (lowB_le (by omega)) hDb⟩
theorem low_sum {S S' D : Int} (hD : 0 < D) : lowT (lowT S D * lowB S' D + lowT S' D * lowB S D) (lowB S D * lowB S' D) = lowT (S + S') D ∧ lowB (lowT S D * lowB S' D + lowT S' D * lowB S D) (lowB S D * lowB S' D) = lowB (S + S') D := by
  have p1 := lowB_pos (a := S) (b := D) (by omega)
  have p2 := lowB_pos (a := S') (b := D) (by omega)
  refine low_ratio (Int.mul_ne_zero (by omega) (by omega)) (by omega) ?_
  have h1 := low_cross S D
  have h2 := low_cross S' D
  rw [Int.add_mul, Int.add_mul]
  congr 1
  · calc lowT S D * lowB S' D * D = (lowT S D * D) * lowB S' D := by ac_rfl
      _ = S * (lowB S D * lowB S' D) := by rw [h1]; ac_rfl
  · calc lowT S' D * lowB S D * D = (lowT S' D * D) * lowB S D := by ac_rfl
      _ = S' * (lowB S D * lowB S' D) := by rw [h2]; ac_rfl
theorem low_neg {S D : Int} (hD : 0 < D) : lowT (-S) D = -lowT S D ∧ lowB (-S) D = lowB S D := by
  refine low_unique (lowB_pos (by omega)) (lowB_pos (by omega)) (low_gcd (by omega)) (by rw [Int.natAbs_neg]; exact low_gcd (by omega)) ?_
  have h1 := low_cross (-S) D
  have h2 := low_cross S D
  have key : (lowT (-S) D * lowB S D) * D = (-lowT S D * lowB (-S) D) * D := by
    calc (lowT (-S) D * lowB S D) * D = (lowT (-S) D * D) * lowB S D := by ac_rfl
      _ = (-S * lowB (-S) D) * lowB S D := by rw [h1]
      _ = -(S * lowB S D) * lowB (-S) D := by rw [Int.neg_mul, Int.neg_mul, Int.neg_mul]; congr 1; ac_rfl
      _ = -(lowT S D * D) * lowB (-S) D := by rw [h2]
      _ = (-lowT S D * lowB (-S) D) * D := by rw [Int.neg_mul, Int.neg_mul, Int.neg_mul]; congr 1; ac_rfl
  exact Int.eq_of_mul_eq_mul_right (by omega) key
theorem low_diff {S S' D : Int} (hD : 0 < D) : lowT (lowT S D * lowB S' D + -lowT S' D * lowB S D) (lowB S D * lowB S' D) = lowT (S - S') D ∧ lowB (lowT S D * lowB S' D + -lowT S' D * lowB S D) (lowB S D * lowB S' D) = lowB (S - S') D := by
  have h := low_sum (S := S) (S' := -S') hD
  rw [(low_neg (S := S') hD).1, (low_neg (S := S') hD).2] at h
  rw [Int.sub_eq_add_neg]
  exact h
theorem low_lt {S S' D : Int} (hD : 0 < D) : (lowT S D * lowB S' D < lowT S' D * lowB S D) ↔ S < S' := by
  have p1 := lowB_pos (a := S) (b := D) (by omega)
  have p2 := lowB_pos (a := S') (b := D) (by omega)
  have h1 := low_cross S D
  have h2 := low_cross S' D
  have e1 : (lowT S D * lowB S' D) * D = S * (lowB S D * lowB S' D) := by
    calc lowT S D * lowB S' D * D = (lowT S D * D) * lowB S' D := by ac_rfl
      _ = S * (lowB S D * lowB S' D) := by rw [h1]; ac_rfl
  have e2 : (lowT S' D * lowB S D) * D = S' * (lowB S D * lowB S' D) := by
    calc lowT S' D * lowB S D * D = (lowT S' D * D) * lowB S D := by ac_rfl
      _ = S' * (lowB S D * lowB S' D) := by rw [h2]; ac_rfl
  have pp : 0 < lowB S D * lowB S' D := Int.mul_pos p1 p2
  constructor
  · intro h
    have := Int.mul_lt_mul_of_pos_right h hD
    rw [e1, e2] at this
    exact Int.lt_of_mul_lt_mul_right this (Int.le_of_lt pp)
  · intro h
    have := Int.mul_lt_mul_of_pos_right h pp
    rw [← e1, ← e2] at this
    exact Int.lt_of_mul_lt_mul_right this (Int.le_of_lt hD)
theorem low_whole {i D : Int} (hD : 0 < D) : lowT (i * D) D = i ∧ lowB (i * D) D = 1 := by
  have h := low_ratio (a := i * D) (b := D) (c := i) (d := 1) (by omega) (by decide) (by rw [Int.mul_one])
  rw [h.1, h.2]
  exact low_int i
theorem Num.int {C : Addr} {H : Hp} {D : Int} (hD : 0 < D) (i : Int) : Num C H (.int i) (i * D) D := by
  unfold Num
  rw [(low_whole hD).1, (low_whole hD).2]
  exact .inl ⟨rfl, rfl⟩
theorem low_one_iff {S D : Int} (hD : 0 < D) : (lowT S D = 1 ∧ lowB S D = 1) ↔ S = D := by
  have h := low_cross S D
  constructor
  · rintro ⟨h1, h2⟩
    rw [h1, h2] at h
    omega
  · rintro rfl
    have := low_whole (i := 1) hD
    rw [Int.one_mul] at this
    exact this
end KI
set_option Elab.async false
set_option linter.all false
set_option maxRecDepth 100000
set_option maxHeartbeats 4000000
namespace KI
open PySem L2
theorem sum_bound {B : Nat} : ∀ (l : List Int), (∀ S ∈ l, S.natAbs ≤ B) → l.sum.natAbs ≤ l.length * B
  | [], _ => by simp
  | a :: r, h => by
    have h1 := sum_bound r fun S hS => h S (List.mem_cons_of_mem _ hS)
    have h2 := h a List.mem_cons_self
    rw [List.sum_cons, List.length_cons, Nat.succ_mul]
    have := Int.natAbs_add_le a r.sum
    omega
theorem sum_small {l : List Int} (hl : l.length ≤ 1000) (h : ∀ S ∈ l, S.natAbs < 2 ^ 3000) : l.sum.natAbs < 2 ^ 4000 := by
  have h1 := sum_bound (B := 2 ^ 3000) l fun S hS => Nat.le_of_lt (h S hS)
  have h2 : l.length * 2 ^ 3000 ≤ 1000 * 2 ^ 3000 := Nat.mul_le_mul_right _ hl
  exact Nat.lt_of_le_of_lt (Nat.le_trans h1 h2) (by decide +kernel)
theorem mem_of_at {α : Type} {l : List α} {i : Nat} {x : α} (h : l[i]? = some x) : x ∈ l := List.mem_of_getElem? h
/-- numbers over D -/
def Nums (C : Addr) (D : Int) (H : Hp) (xs : List V) (Ss : List Int) : Prop := xs.length = Ss.length ∧ ∀ (i : Nat) (x : V), xs[i]? = some x → ∃ S : Int, Ss[i]? = some S ∧ Num C H x S D
theorem Nums.same {C : Addr} {D : Int} {H H' : Hp} {xs : List V} {Ss : List Int} (h : Nums C D H xs Ss) (s : Same H H') : Nums C D H' xs Ss := ⟨h.1, fun i x e => let ⟨S, e2, n⟩ := h.2 i x e; ⟨S, e2, n.same s⟩⟩
theorem SqT.same {K : PySem.W.Frag} {H H' : Hp} {a : Addr} {xs : List V} (h : SqT K H a xs) (e : Same H H') : SqT K H' a xs := by
  rcases h with (h | ⟨o, h⟩) | h
  · exact .inl (.inl (e _ _ h))
  · exact .inl (.inr ⟨o, e _ _ h⟩)
  · exact .inr h
abbrev AddT (P : Program) (w : World) (K : PySem.W.Frag) (mg : Str → Option Value) (base : Heap) (C : Addr) : Prop := ArT P w K mg base C .Add "+" "add" 7 8 (spAdd C) (spRadd C)
abbrev SubT (P : Program) (w : World) (K : PySem.W.Frag) (mg : Str → Option Value) (base : Heap) (C : Addr) : Prop := ArT P w K mg base C .Sub "-" "sub" 8 8 (spSub C) (spRsub C)
/-- total(row) -/
def spTotal (K : PySem.W.Frag) (C : Addr) : Sp := fun vs H Q _ => ∃ (l : Addr) (xs : List V) (Ss : List Int) (D : Int), vs = [.ref l] ∧ SqT K H l xs ∧ Nums C D H xs Ss ∧ 0 < D ∧ D.natAbs < 2 ^ 4000 ∧ Ss.length ≤ 1000 ∧ (∀ S ∈ Ss, S.natAbs < 2 ^ 3000) ∧
  ∀ (a dx : Addr) (H' : Hp), Same H H' → H' a = some (.ins C dx (shF (lowT Ss.sum D) (lowB Ss.sum D))) → Q (.ref a) H'
section
variable {P : Program} {w : World} {K : PySem.W.Frag} {mg : Str → Option Value} {base : Heap} {C B : Addr}
abbrev s_total : Stmt := top 24
theorem sc_total : FnScope ["row"] ["row"] (defScope s_total) := ⟨rfl, rfl, rfl, by decide +kernel, rfl, by decide +kernel, by decide +kernel⟩
theorem ok_total {f : Addr} {fd : FuncData} (F : Fun K "total" "total" s_total f fd) (m : MkT P w K mg base C B) (nt : NoTxt K C) (n_sum : mg "sum" = none) (ad : AddT P w K mg base C) : FnOk P w K mg base CX0 10 f fd ["row"] (spTotal K C) := by
  refine F.ok sc_total (fun vs H Q E h => ?_) (fun cdv A outer s H vs Q E hr h => ?_)
  · obtain ⟨l, xs, Ss, D, rfl, _⟩ := h
    rfl
  · obtain ⟨l, xs, Ss, D, rfl, hl, hn, hD, hDb, hlen, hS, k⟩ := h
    have o := ArT.op (X := (cxOf CX0 P w K mg base ["row"] "total" (defScope s_total) f cdv A outer s H E).nox.inn) ad (hr.in1.mono (by decide)) (hr.in1.mono (by decide))
    refine ⟨_, pss_one (ps_ret (pe_callBK (cr_sumO rfl o) rfl n_sum PyProof.Rows.boot_sum (pa_cons (pv 0) pa_nil) (pk_cons (pe_share1 m (hr.mono (by decide)) rfl (pa_cons pe_int pa_nil)) pk_nil))), ?_⟩
    refine ⟨_, rfl, fun z dz hz hd ne => si_ok hz hd ne (a := 0) (b := 1) (by decide) (by decide +kernel) fun H1 s1 e1 => ⟨rfl, ?_⟩⟩
    have e0 : shF (lowT 0 1) (lowB 0 1) = shF (lowT (Ss.take 0).sum D) (lowB (Ss.take 0).sum D) := by
      have h1 := low_whole (i := 0) hD
      have h2 := low_int 0
      rw [Int.zero_mul] at h1
      rw [h2.1, h2.2, List.take_zero, List.sum_nil, h1.1, h1.2]
    rw [e0] at e1
    refine ⟨l, z, C, dz, _, xs, rfl, rfl, e1, nt, fun i acc H' => Same H1 H' ∧ ∃ a dx, acc = .ref a ∧ H' a = some (.ins C dx (shF (lowT (Ss.take i).sum D) (lowB (Ss.take i).sum D))),
      ⟨Same.refl _, z, dz, rfl, e1⟩, fun i acc H' ⟨_, a, _, e, _⟩ => ⟨a, e⟩, fun i acc H' _ ⟨s2, _⟩ => SqT.same hl (s1.trans s2), ?_, ?_⟩
    · rintro i acc x H' hx ⟨s2, a, dx, rfl, ea⟩
      obtain ⟨S, hSi, nx⟩ := (hn.same (s1.trans s2)).2 i x hx
      have hi : i < Ss.length := (List.getElem?_eq_some_iff.mp hSi).1
      have b1 : (Ss.take i).sum.natAbs < 2 ^ 4000 := sum_small (by rw [List.length_take]; omega) fun S hm => hS S (List.mem_of_mem_take hm)
      have b2 : S.natAbs < 2 ^ 4000 := Nat.lt_trans (hS S (mem_of_at hSi)) (by decide +kernel)
      refine .inl ⟨a, dx, _, rfl, ea, other_of nx, a, dx, x, _, _, _, _, rfl, ea, nx, low_of hD b1 hDb, low_of hD b2 hDb, fun z2 dz2 H2 s3 e3 => ?_⟩
      rw [(low_sum hD).1, (low_sum hD).2] at e3
      refine ⟨s2.trans s3, z2, dz2, rfl, ?_⟩
      rw [take_more hSi, List.sum_append, List.sum_cons, List.sum_nil, Int.add_zero]
      exact e3
    · rintro acc H' ⟨s2, a, dx, rfl, ea⟩
      rw [hn.1, List.take_length] at ea
      exact k a dx H' (s1.trans s2) ea
/-- is_from_zero(thing) -/
def spFrom0 (K : PySem.W.Frag) (C : Addr) : Sp := fun vs H Q _ => ∃ x, vs = [x] ∧ ((∃ S D, Num C H x S D ∧ 0 < D ∧ S.natAbs < 2 ^ 4000 ∧ D.natAbs < 2 ^ 4000 ∧ ∀ H', Same H H' → Q (.bl (decide (0 ≤ S))) H') ∨ ∃ T, Fo K H x T ∧ isI x = false ∧ ∀ H', Same H H' → Q (.bl false) H')
/-- the method less -/
structure LsT (P : Program) (w : World) (K : PySem.W.Frag) (mg : Str → Option Value) (base : Heap) (C : Addr) : Prop where
  ex : ∃ (f : Addr) (fd : FuncData), Meth K C "less" f ∧ FnOk P w K mg base CX0 7 f fd ["self", "other"] (spLess C) ∧ Binds K fd ["self", "other"] []
theorem less_none (t n : Int) : (shF t n).lookup ("less" : Str) = none := by
  unfold shF
  rw [lookup_putF, if_neg (by decide +kernel), lookup_putF, if_neg (by decide +kernel)]
  rfl
abbrev s_from0 : Stmt := top 25
theorem sc_from0 : FnScope ["thing"] ["thing"] (defScope s_from0) := ⟨rfl, rfl, rfl, by decide +kernel, rfl, by decide +kernel, by decide +kernel⟩
theorem ok_from0 {f : Addr} {fd : FuncData} (F : Fun K "is_from_zero" "is_from_zero" s_from0 f fd) (T : ShT K mg C) (c_is : Cal P w K mg base 2 "is_share" ["thing"] (spIsShare K C)) (c_of : Cal P w K mg base 6 "share_of" ["thing"] (spShareOf C)) (ls : LsT P w K mg base C) :
    FnOk P w K mg base CX0 8 f fd ["thing"] (spFrom0 K C) := by
  obtain ⟨g, gd, M, G, bG⟩ := ls.ex
  refine F.ok sc_from0 (fun vs H Q E h => ?_) (fun cdv A outer s H vs Q E hr h => ?_)
  · obtain ⟨x, rfl, _⟩ := h
    rfl
  · obtain ⟨x, rfl, h⟩ := h
    refine ⟨_, (pss_one (ps_ret (pe_and (pe_cal c_is (hr.mono (by decide)) rfl (pa_cons (pv 0) pa_nil)) (pe_one (pe_not (pe_meth (pl := _) (pe_cal c_of (hr.mono (by decide)) rfl (pa_cons (pv 0) pa_nil)) T.it.cl M G hr bG .nil pass0 (pa_cons pe_int pa_nil))))))), ?_⟩
    rcases h with ⟨S, D, hx, hD, hS, hDb, k⟩ | ⟨T', fo, ix, k⟩
    · refine ⟨_, rfl, x, rfl, .inl ⟨_, _, hx, _, rfl, iteT ?_⟩⟩
      refine ⟨_, rfl, x, _, _, rfl, hx, fun a dx H1 s1 e1 => ⟨a, dx, _, rfl, e1, less_none _ _, a, dx, .int 0, _, _, 0, 1, rfl, e1, .inl ⟨rfl, rfl⟩, low_of hD hS hDb, Low.one (by decide +kernel), fun H2 s2 => ⟨_, rfl, ?_⟩⟩⟩
      have h := low_lt (S := S) (S' := 0 * D) hD
      rw [(low_whole hD).1, (low_whole hD).2, Int.zero_mul] at h
      have e : (!decide (lowT S D * 1 < 0 * lowB S D)) = decide (0 ≤ S) := by
        rw [Bool.eq_iff_iff]
        simp only [Bool.not_eq_true', decide_eq_false_iff_not, decide_eq_true_eq]
        rw [Int.zero_mul, h]
        omega
      rw [e]
      exact k H2 (s1.trans s2)
    · exact ⟨_, rfl, x, rfl, .inr ⟨T', fo, ix, _, rfl, iteF (k H (Same.refl H))⟩⟩
end
end KI
set_option Elab.async false
set_option linter.all false
set_option maxRecDepth 100000
set_option maxHeartbeats 4000000
namespace KI
open PySem L2
/-- a thing that is no tuple -/
inductive NotTup (K : PySem.W.Frag) (C : Addr) (H : Hp) : V → Prop where
  | fo {x : V} {T : String} (h : Fo K H x T) (ne : T ≠ "tuple") : NotTup K C H x
  | ins {a dx : Addr} {fs : List (Str × V)} (e : H a = some (.ins C dx fs)) : NotTup K C H (.ref a)
theorem NotTup.kit {K : PySem.W.Frag} {C : Addr} {H : Hp} {x : V} (I : InsT K C) (tu : PySem.W.kitOne K (.ref C) (.type "tuple") = some false) (h : NotTup K C H x) : ∃ t, TyX K H x t ∧ PySem.W.kitOne K t (.type "tuple") = some false := by
  cases h with
  | ins e => exact ⟨_, I.ty e, tu⟩
  | fo h ne =>
    refine ⟨_, h.ty, ?_⟩
    cases h with
    | non => exact kit_ty (r := false) (by decide +kernel)
    | bl b => exact kit_ty (r := false) (by decide +kernel)
    | int i => exact kit_ty (r := false) (by decide +kernel)
    | str x => exact kit_ty (r := false) (by decide +kernel)
    | lst e => exact kit_ty (r := false) (by decide +kernel)
    | tup e => exact absurd rfl ne
    | dK e => exact kit_ty (r := false) (by decide +kernel)
/-- an item: a number over D, or a thing that is none -/
def Item (K : PySem.W.Frag) (C : Addr) (D : Int) (H : Hp) (x : V) : Option Int → Prop
  | some S => Num C H x S D ∧ S.natAbs < 2 ^ 3000
  | none => ∃ T, Fo K H x T ∧ isI x = false
theorem Item.same {K : PySem.W.Frag} {C : Addr} {D : Int} {H H' : Hp} {x : V} {o : Option Int} (h : Item K C D H x o) (s : Same H H') : Item K C D H' x o := by
  cases o with
  | some S => exact ⟨h.1.same s, h.2⟩
  | none =>
    obtain ⟨T, fo, ix⟩ := h
    exact ⟨T, fo_same fo s, ix⟩
def Items (K : PySem.W.Frag) (C : Addr) (D : Int) (H : Hp) (xs : List V) (os : List (Option Int)) : Prop := xs.length = os.length ∧ ∀ (i : Nat) (x : V), xs[i]? = some x → ∃ o : Option Int, os[i]? = some o ∧ Item K C D H x o
theorem Items.same {K : PySem.W.Frag} {C : Addr} {D : Int} {H H' : Hp} {xs : List V} {os : List (Option Int)} (h : Items K C D H xs os) (s : Same H H') : Items K C D H' xs os := ⟨h.1, fun i x e => let ⟨o, e2, n⟩ := h.2 i x e; ⟨o, e2, n.same s⟩⟩
def from0 : Option Int → Bool
  | some S => decide (0 ≤ S)
  | none => false
/-- a spread over D -/
def sprB (D : Int) (os : List (Option Int)) : Bool := (os.map from0).all id && decide ((os.map (·.getD 0)).sum = D)
theorem Items.nums {K : PySem.W.Frag} {C : Addr} {D : Int} {H : Hp} {xs : List V} {os : List (Option Int)} (h : Items K C D H xs os) (a : (os.map from0).all id = true) : Nums C D H xs (os.map (·.getD 0)) ∧ ∀ S ∈ os.map (·.getD 0), S.natAbs < 2 ^ 3000 := by
  have each : ∀ o ∈ os, ∃ S, o = some S := fun o ho => by
    have := List.all_eq_true.mp a (from0 o) (List.mem_map_of_mem ho)
    cases o with
    | some S => exact ⟨S, rfl⟩
    | none => cases this
  have bound : ∀ (i : Nat) (o : Option Int), os[i]? = some o → ∃ x, xs[i]? = some x := fun i o e => by
    have hi := (List.getElem?_eq_some_iff.mp e).1
    rw [← h.1] at hi
    exact ⟨xs[i], List.getElem?_eq_getElem hi⟩
  refine ⟨⟨by rw [List.length_map]; exact h.1, fun i x e => ?_⟩, fun S hS => ?_⟩
  · obtain ⟨o, e2, n⟩ := h.2 i x e
    obtain ⟨S, rfl⟩ := each o (mem_of_at e2)
    exact ⟨S, by rw [List.getElem?_map, e2]; rfl, n.1⟩
  · obtain ⟨o, ho, rfl⟩ := List.mem_map.mp hS
    obtain ⟨S, rfl⟩ := each o ho
    obtain ⟨i, hi⟩ := List.getElem?_of_mem ho
    obtain ⟨x, hx⟩ := bound i _ hi
    obtain ⟨o2, e2, n⟩ := h.2 i x hx
    rw [hi] at e2
    cases e2
    exact n.2
def spTupOf (K : PySem.W.Frag) (C : Addr) : Sp := fun vs H Q _ => ∃ (many : Int) (x : V), vs = [.int many, x] ∧ ((∃ t xs, x = .ref t ∧ H t = some (.tup xs) ∧ Q (.bl (decide (V.int (xs.length : Int) = V.int many))) H) ∨ (NotTup K C H x ∧ Q (.bl false) H))
def spSpread (K : PySem.W.Frag) (C : Addr) : Sp := fun vs H Q _ => ∃ (many : Int) (x : V), vs = [.int many, x] ∧ ((∃ t xs os D, x = .ref t ∧ H t = some (.tup xs) ∧ Items K C D H xs os ∧ 0 < D ∧ D.natAbs < 2 ^ 4000 ∧ os.length ≤ 1000 ∧
  ∀ H', Same H H' → Q (.bl (decide (V.int (xs.length : Int) = V.int many) && sprB D os)) H') ∨ (NotTup K C H x ∧ ∀ H', Same H H' → Q (.bl false) H'))
section
variable {P : Program} {w : World} {K : PySem.W.Frag} {mg : Str → Option Value} {base : Heap} {C B : Addr}
abbrev s_tupOf : Stmt := top 14
theorem sc_tupOf : FnScope ["many", "thing"] ["many", "thing"] (defScope s_tupOf) := ⟨rfl, rfl, rfl, by decide +kernel, rfl, by decide +kernel, by decide +kernel⟩
theorem ok_tupOf {f : Addr} {fd : FuncData} (F : Fun K "is_tuple_of" "is_tuple_of" s_tupOf f fd) (T : ShT K mg C) (n_tuple : mg "tuple" = none) (tu : PySem.W.kitOne K (.ref C) (.type "tuple") = some false) : FnOk P w K mg base CX0 1 f fd ["many", "thing"] (spTupOf K C) := by
  refine F.ok sc_tupOf (fun vs H Q E h => ?_) (fun cdv A outer s H vs Q E hr h => ?_)
  · obtain ⟨many, x, rfl, _⟩ := h
    rfl
  · obtain ⟨many, x, rfl, h⟩ := h
    refine ⟨_, (pss_one (ps_ret (pe_and (pe_callB call_isi (by rfl) T.bn.n_isinstance (by decide +kernel) (pa_cons (pv 1) (pa_cons (pe_bltn (v := .ty "tuple") rfl n_tuple (by decide +kernel) rfl) pa_nil))) (pe_one (pe_cmpR op_eq (pe_callB call_len_seq (by rfl) T.bn.n_len PySem.boot_len (pa_cons (pv 1) pa_nil)) (pv 0) (nomark _)))))), ?_⟩
    rcases h with ⟨t, xs, rfl, e, k⟩ | ⟨nt, k⟩
    · refine ⟨_, rfl, .ref t, .ty "tuple", _, _, true, rfl, .ty _, (Fo.tup e).ty, kit_ty (r := true) (by decide +kernel), _, rfl, iteT ?_⟩
      exact ⟨_, rfl, t, xs, rfl, .inr (.inl (.inl e)), _, rfl, rfl, k⟩
    · obtain ⟨ty, h1, h2⟩ := nt.kit T.it tu
      exact ⟨_, rfl, x, .ty "tuple", ty, _, false, rfl, .ty _, h1, h2, _, rfl, iteF k⟩
abbrev s_spread : Stmt := top 26
theorem sc_spread : FnScope ["many", "thing", "part"] ["many", "thing"] (defScope s_spread) := ⟨rfl, rfl, rfl, by decide +kernel, rfl, by decide +kernel, by decide +kernel⟩
theorem ok_spread {f : Addr} {fd : FuncData} (F : Fun K "is_spread" "is_spread" s_spread f fd) (n_all : mg "all" = none) (c_tup : Cal P w K mg base 1 "is_tuple_of" ["many", "thing"] (spTupOf K C)) (c_f0 : Cal P w K mg base 8 "is_from_zero" ["thing"] (spFrom0 K C)) (c_total : Cal P w K mg base 10 "total" ["row"] (spTotal K C)) (c_eq : EqT P w K mg base C) :
    FnOk P w K mg base CX0 11 f fd ["many", "thing"] (spSpread K C) := by
  refine F.ok sc_spread (fun vs H Q E h => ?_) (fun cdv A outer s H vs Q E hr h => ?_)
  · obtain ⟨many, x, rfl, _⟩ := h
    rfl
  · obtain ⟨many, x, rfl, h⟩ := h
    obtain ⟨r1, o1, q1⟩ := EqT.op (X := (cxOf CX0 P w K mg base ["many", "thing", "part"] "is_spread" (defScope s_spread) f cdv A outer s H E).nox) is_eq c_eq (hr.mono (by decide))
    refine ⟨_, (pss_cons (ps_if (PW.pt (pw_or (pt_not (pt_val (pe_cal c_tup (hr.mono (by decide)) rfl (pa_cons (pv 0) (pa_cons (pv 1) pa_nil))))) (pw_or1 (pt_not (pt_val (pe_callB (cr_all rfl) (by rfl) n_all PyProof.Rows.boot_all (pa_cons (pe_lc (own := [("part", 2)]) rfl sc_spread.nd (pi_tup (pv 1)) (blkOk_by (N := ["many", "thing", "part"]) (sc := defScope s_spread) (by decide +kernel)) (fun _ _ _ _ _ => (pg_name (i := 2) sc_spread.nd rfl (Or.inl rfl))) (fun _ _ _ _ _ => pts_nil) (fun _ _ _ _ _ => (pe_cal c_f0 (hr.mono (by decide)) rfl (pa_cons (pv 2) pa_nil)))) pa_nil)))))))
        (pss_one (ps_ret pe_bl))
        pss_nil)
      (pss_one (ps_ret (pe_cmpR o1 (pe_cal c_total (hr.mono (by decide)) rfl (pa_cons (pv 1) pa_nil)) pe_int (nomark _))))), ?_⟩
    rcases h with ⟨t, xs, os, D, rfl, e, it, hD, hDb, hlen, k⟩ | ⟨nt, k⟩
    · refine ⟨_, rfl, _, rfl, many, .ref t, rfl, .inl ⟨t, xs, rfl, e, _, rfl, ?_⟩⟩
      cases hb : decide (V.int (xs.length : Int) = V.int many) with
      | false =>
        refine iteT ?_
        have k2 := k H (Same.refl H)
        rw [hb, Bool.false_and] at k2
        exact k2
      | true =>
        refine iteF ⟨_, rfl, t, rfl, ⟨_, SqT.of e⟩, fun L nL => ?_⟩
        refine lc_tup (K := K) (a := t) (xs := xs) (fun i H' => Same H H' ∧ H' L = some (.lst ((os.take i).map fun o => V.bl (from0 o)))) ⟨Same.put nL, upd_same⟩ (fun i H' _ p => SqT.of (p.1 _ _ e)) ?_ ?_
        · rintro i x H' hx ⟨s1, eL⟩
          obtain ⟨o, ho, io⟩ := (it.same s1).2 i x hx
          have hi : i < os.length := (List.getElem?_eq_some_iff.mp ho).1
          refine ⟨rfl, yes_of ?_⟩
          have fin : ∀ H2, Same H' H2 → ∃ acc, H2 L = some (.lst acc) ∧ acc.length < sizeLine ∧ Same H (upd H2 L (.lst (acc ++ [V.bl (from0 o)]))) ∧ (upd H2 L (.lst (acc ++ [V.bl (from0 o)]))) L = some (.lst ((os.take (i + 1)).map fun o => V.bl (from0 o))) := fun H2 s2 => by
            refine ⟨_, s2 _ _ eL, ?_, ?_, ?_⟩
            · rw [List.length_map, List.length_take]
              exact small1000 (by omega)
            · refine fun b u hu => ?_
              rw [upd_ne (ne_of_none hu nL)]
              exact s2 _ _ (s1 _ _ hu)
            · rw [upd_same, take_more ho, List.map_append]
              rfl
          refine ⟨_, rfl, x, rfl, ?_⟩
          cases o with
          | some S => exact .inl ⟨S, D, io.1, hD, Nat.lt_trans io.2 (by decide +kernel), hDb, fin⟩
          | none =>
            obtain ⟨T', fo, ix⟩ := io
            exact .inr ⟨T', fo, ix, fin⟩
        · rintro H1 ⟨s1, eL⟩
          rw [it.1, List.take_length] at eL
          refine ⟨L, os.map from0, rfl, SqL.of (by rw [List.map_map]; exact eL), _, rfl, ?_⟩
          cases ha : (os.map from0).all id with
          | false =>
            refine iteT ?_
            have k2 := k H1 s1
            unfold sprB at k2
            rw [hb, ha, Bool.false_and, Bool.and_false] at k2
            exact k2
          | true =>
            refine iteF ?_
            obtain ⟨nums, small⟩ := (it.same s1).nums ha
            refine ⟨_, rfl, t, xs, os.map (·.getD 0), D, rfl, SqT.of (s1 _ _ e), nums, hD, hDb, by rw [List.length_map]; exact hlen, small, fun a dx H2 s2 e2 => ?_⟩
            obtain ⟨c1, c2⟩ := cmp_fo (K := K) (C := C) (y := .int 1) (b := sprB D os) e2 (.int 1) (by
              unfold sprB
              rw [ha, Bool.true_and, Bool.eq_iff_iff]
              have h := low_one_iff (S := (os.map (·.getD 0)).sum) hD
              simp only [isI, Bool.true_and, Bool.and_eq_true, decide_eq_true_eq, V.int.injEq]
              rw [← h]
              exact And.comm)
            have k2 := k H2 (s1.trans s2)
            rw [hb, Bool.true_and] at k2
            exact q1 _ _ _ _ _ c1 k2
    · refine ⟨_, rfl, _, rfl, many, x, rfl, .inr ⟨nt, _, rfl, iteT (k H (Same.refl H))⟩⟩
end
end KI
set_option Elab.async false
set_option linter.all false
set_option maxRecDepth 100000
set_option maxHeartbeats 4000000
/-! a dict comprehension whose keys are tuples; x in a tuple of data; a block that is never reached -/
namespace L2
open PySem PySem.Spec PyProof.Rows
end L2
set_option Elab.async false
set_option linter.all false
set_option maxRecDepth 100000
set_option maxHeartbeats 4000000
/-! a sequence that may be a list or a tuple, gone through -/
namespace L2
open PySem PySem.Spec PyProof.Rows
def Sq (H : Hp) (a : Addr) (xs : List V) : Prop := H a = some (.lst xs) ∨ H a = some (.tup xs)
theorem Sq.same {H H' : Hp} {a : Addr} {xs : List V} (h : Sq H a xs) (s : ∀ o, H a = some o → H' a = some o) : Sq H' a xs := h.elim (fun e => .inl (s _ e)) fun e => .inr (s _ e)
end L2
set_option Elab.async false
set_option linter.all false
set_option maxRecDepth 100000
set_option maxHeartbeats 4000000
/-! sum(t), t a tuple of ints; t * k, k from 1 on -/
namespace L2
open PySem PySem.Spec PyProof.Rows
theorem preSum_take (ns : List Int) : ∀ n, preSum (fun j => ns.getD j 0) n = (ns.take n).sum
  | 0 => by simp [preSum]
  | n + 1 => by
    rw [preSum, preSum_take ns n]
    rcases Nat.lt_or_ge n ns.length with h | h
    · rw [List.take_succ_eq_append_getElem h, List.sum_append, List.sum_cons, List.sum_nil, Int.add_zero]
      simp [h]
    · rw [List.take_of_length_le h, List.take_of_length_le (by omega)]
      simp [List.getD, List.getElem?_eq_none h]
theorem intsAre_at {its : List Value} {ns : List Int} (h : IntsAre its ns) : ∀ (i : Nat) (v : Value), its[i]? = some v → ∃ t, v = .int (ns.getD i 0) t := by
  induction h with
  | nil => intro i v e; simp at e
  | cons n t h ih =>
    intro i v e
    cases i with
    | zero =>
      have e2 : Value.int n t = v := Option.some.inj e
      exact ⟨t, e2.symm⟩
    | succ i => exact ih i v e
section
variable {prog : Program} {w : World} {A : Around} {E : Value → Shared → Prop} {s : Shared} {l : Addr} {its : List Value} {ns : List Int} {Q : Value → Shared → Prop}
theorem sum_rawT (hh : A.in1.handled = none) (hl : s.heap.IsTuple l its.toArray) (hi : IntsAre its ns)
    (h : ∀ h' tk t', (∀ b o, s.heap.get? b = some o → h'.get? b = some o) → Q (.int ns.sum t') { s with heap := h', toks := tk }) : wpAny (model prog w) A (call (.builtin "sum") [.ref l]) Q E s := by
  refine call_sum_walkAnyS (PySem.W.iter_tupleW (A := A.in1) hh hl fun s₂ e W st fp _ _ => ⟨_, _, _, _, _, _, _, fun j => ns.getD j 0, rfl, W, st, fp, fun i v hv => ?_, fun s' t' hm => ?_⟩)
  · exact intsAre_at hi i v (by simpa using hv)
  · obtain ⟨h', tk, rfl, old⟩ := PySem.W.moved_old e rfl hm
    have hlen : its.toArray.size = ns.length := by rw [List.size_toArray]; exact hi.length
    rw [preSum_take, hlen, List.take_length]
    exact h h' tk t' old
end
section
variable {X : Cx}
def rSumT (K : PySem.W.Frag) : List V → Hp → VK → Prop := fun vs H Q => ∃ (a : Addr) (ns : List Int), vs = [V.ref a] ∧ SqT K H a (ns.map V.int) ∧ Q (.int ns.sum) H
theorem cr_sumT (hc : X.calm = true) : CallR X (.builtin "sum") (rSumT X.K) := by
  intro pins s σ H vs us Q I r h
  obtain ⟨a, ns, rfl, hs, q⟩ := h
  obtain ⟨its, rv, hl, _⟩ := I.tuple hs
  rw [Vals.ref1 r]
  exact sum_rawT (I.ok.hd hc) hl rv.ints fun h' tk t' hk => ⟨.int _, H, I.kept hk, ⟨_, rfl⟩, q⟩
end
end L2
set_option Elab.async false
set_option linter.all false
set_option maxRecDepth 100000
set_option maxHeartbeats 4000000
/-! t * k, t a tuple that is not empty, k from 1 on: for k = 1 it is t itself -/
namespace L2
open PySem PySem.Spec PyProof.Rows
theorem tuple_mul1 (l : Addr) (items : Array Value) (n : Nat) (dd : Option Addr) (sl : Array (Option Value)) (u : Tok) :
    Meets (Builtin.«tuple.__mul__» ⟨[.ref l, .int 1 u], []⟩) (fun _ R s => s.heap.get? l = some { cls := .type "tuple", dict := dd, data := .seq items n, slots := sl } ∧ R (.ok (.ret (Value.ref l))) s) :=
  .of_wp fun prog w A R s h => by
    obtain ⟨hp, g, d, tk, os⟩ := s
    obtain ⟨hl, h⟩ := h
    have f1 := AutoSeq1.idx_int
    have c1 : (items.isEmpty || (1 : Int) == 1) = true := by rw [show ((1 : Int) == 1) = true from rfl, Bool.or_true]
    wp_walk using wpAny_loadPart' hl
    repeat (first
      | (refine wpAny_ite_false (decide_eq_false (by decide)) ?_; wp_walk using wpAny_loadPart' hl)
      | (refine wpAny_ite_true (decide_eq_true (by rw [c1])) ?_; wp_walk using wpAny_loadPart' hl))
    exact ⟨_, rfl, h⟩
def rRepT1 (K : PySem.W.Frag) : R2 := fun x y H Q => ∃ l xs, x = .ref l ∧ y = .int 1 ∧ SqT K H l xs ∧ Q (.ref l) H
section
variable {X : Cx}
theorem op_repT1 : OpR X (binaryOp .Mult) (rRepT1 X.K) := by
  intro pins s σ H x y v u Q I rx ry h
  obtain ⟨l, xs, rfl, rfl, hT, q⟩ := h
  cases rx
  obtain ⟨t, rfl⟩ := ry
  obtain ⟨its, r, ⟨⟨cls, dd, data, sl⟩, ho, hc, n, hd⟩, hs⟩ := I.tuple hT
  simp only at hc hd
  subst hc hd
  refine wpAny_binaryOp_repeat_ref (T := "tuple") (U := "int") (by decide) ⟨_, ho, rfl⟩ (fun s' => typeIs_int s' 1 t) noFill_tuple_mul F.fills_int_mul F.slot_int_rmul repeat_tuple F.slot_int_index.lookup
    (call_meets F.slot_int_rmul (typeIs_int s 1 t) F.entry_int_rmul (F.args_int_rmul_2 _ _) (int_rmul_tuple 1 t l its.toArray n dd sl)
      ⟨ho, rfl, ⟨_, ho, rfl⟩, call_meets F.slot_tuple_mul ⟨_, ho, rfl⟩ F.entry_tuple_mul (F.args_tuple_mul_2 _ _) (tuple_mul1 l its.toArray n dd sl t) ⟨ho, ?_⟩⟩)
  exact ⟨.ref l, H, I, rfl, q⟩
end
end L2
set_option Elab.async false
set_option linter.all false
set_option maxRecDepth 100000
set_option maxHeartbeats 4000000
namespace L2
open PySem PySem.Spec PyProof.Rows
section
variable {X : Cx}
theorem op_orR {f : Value → Value → Sem Value} {r1 r2 : R2} (h1 : OpR X f r1) (h2 : OpR X f r2) : OpR X f (fun x y H Q => r1 x y H Q ∨ r2 x y H Q) :=
  fun ps s σ H x y v u Q I rx ry h => h.elim (h1 ps s σ H x y v u Q I rx ry) (h2 ps s σ H x y v u Q I rx ry)
end
end L2
namespace KI
open PySem L2
/-! ### what all of the texts want -/
theorem iteTe {c : Bool} {A D : Prop} (e : c = true) (h : A) : if c = true then A else D := by
  rw [if_pos e]
  exact h
abbrev rfs {α : Type} (ts : List (Addr × α)) : List V := ts.map fun t => V.ref t.1
theorem rfs_snoc {α : Type} {ts : List (Addr × α)} {t : Addr × α} : rfs (ts ++ [t]) = rfs ts ++ [V.ref t.1] := by rw [rfs, List.map_append]; rfl
theorem rfs_len {α : Type} {ts : List (Addr × α)} : (rfs ts).length = ts.length := List.length_map _
theorem rfs_at {α : Type} {ts : List (Addr × α)} {i : Nat} {x : V} (h : (rfs ts)[i]? = some x) : ∃ t, ts[i]? = some t ∧ t ∈ ts ∧ x = .ref t.1 := by
  rw [rfs, List.getElem?_map] at h
  cases e : ts[i]? with
  | none => rw [e] at h; cases h
  | some t => rw [e] at h; exact ⟨t, rfl, List.mem_of_getElem? e, (Option.some.inj h).symm⟩
theorem Same.but {H H' : Hp} {D : Addr} {o : HO} (h : ∀ b u, H b = some u → H' b = some u) (n : H D = none) : ∀ b u, H b = some u → (upd H' D o) b = some u := fun b u e => by
  rw [upd_ne (ne_of_none e n)]
  exact h b u e
/-- the same, beside the pool -/
theorem Keep.but {a D : Addr} {H H' : Hp} {o : HO} (h : Keep a H H') (n : H D = none) : Keep a H (upd H' D o) := fun b u e ne => by
  rw [upd_ne (ne_of_none e n)]
  exact h b u e ne
theorem new_ne {H : Hp} {a t : Addr} (h : PoolAt H a) (n : H t = none) : t ≠ a := fun z => by
  obtain ⟨o, e, _⟩ := h
  rw [z, e] at n
  cases n
theorem PoolAt.other {H : Hp} {a D : Addr} {u : HO} (h : PoolAt H a) (ne : a ≠ D) : PoolAt (upd H D u) a := by
  obtain ⟨o, e, q⟩ := h
  exact ⟨o, by rw [upd_ne ne]; exact e, q⟩
theorem PoolAt.neR {α : Type} {H : Hp} {a b : Addr} {ts : List (Addr × α)} (h : PoolAt H a) (e : H b = some (.lst (rfs ts))) : b ≠ a := fun z => by
  obtain ⟨u, e2, n, g, q, _⟩ := h
  rw [z, e2, q] at e
  cases ts with
  | nil => cases e
  | cons t ts => cases e
abbrev cV (l : List Nat) : List V := l.map fun k : Nat => V.int (k : Int)
theorem cV_at {l : List Nat} {i : Nat} {x : Nat} (h : l[i]? = some x) : (cV l)[i]? = some (V.int (x : Int)) := by rw [List.getElem?_map, h]; rfl
theorem cV_of {l : List Nat} {i : Nat} {x : V} (h : (cV l)[i]? = some x) : ∃ k, l[i]? = some k ∧ x = V.int (k : Int) := by
  rw [List.getElem?_map] at h
  cases e : l[i]? with
  | none => rw [e] at h; cases h
  | some k => rw [e] at h; exact ⟨k, rfl, (Option.some.inj h).symm⟩
theorem cV_set (l : List Nat) (i x : Nat) : (cV l).set i (V.int (x : Int)) = cV (l.set i x) := by
  rw [cV, cV, List.map_set]
theorem cV_ints (l : List Nat) : cV l = (l.map fun k : Nat => (k : Int)).map V.int := by rw [List.map_map]; rfl
theorem sum_ints : ∀ l : List Nat, (l.map fun k : Nat => (k : Int)).sum = ((l.sum : Nat) : Int)
  | [] => rfl
  | a :: l => by
    rw [List.map_cons, List.sum_cons, List.sum_cons, sum_ints l]
    omega
theorem small_len {n : Nat} (h : n ≤ 1000) : n < sizeLine := small1000 h
theorem nsm {n : Nat} (h : n ≤ 1000) : ((n : Int)).natAbs.log2 < 9000 := log_small (b := 10) (by show ((n : Int)).natAbs < 2 ^ 10; omega) (by decide) (by decide)
theorem nat_of {r : Int} (h : 0 ≤ r) : ∃ j : Nat, r = (j : Int) := ⟨r.toNat, by omega⟩
/-- a draw, at what stands -/
theorem drawn {a : Addr} {H0 H : Hp} {o : HO} (hp : PoolAt H a) (k : Keep a H0 H) (ho : PoolL o) : PoolAt (upd H a o) a ∧ Keep a H0 (upd H a o) := ⟨.put ho, k.trans (Keep.put o)⟩
/-- one of the things -/
def spPickQ : Sp := fun vs H Q _ => ∃ (a l : Addr) (xs : List V), vs = [.ref a, .ref l] ∧ PoolAt H a ∧ Sq H l xs ∧ l ≠ a ∧ 0 < xs.length ∧ xs.length ≤ 200 ∧ ∀ (x : V) (o : HO), x ∈ xs → PoolL o → Q x (upd H a o)
section
variable {P : Program} {w : World} {K : PySem.W.Frag} {mg : Str → Option Value} {base : Heap} {C : Addr}
theorem ok_pickQ {f : Addr} {fd : FuncData} (F : Fun K "_law_pick" "_law_pick" s_pick f fd) (T : Bn mg) (c_draw : Cal P w K mg base 1 "_law_draw" ["_law_pool_here", "_law_many"] spDraw) : FnOk P w K mg base CX0 2 f fd ["_law_pool_here", "_law_things"] spPickQ := by
  refine F.ok sc_pick (fun vs H Q E h => ?_) (fun cdv A outer s H vs Q E hr h => ?_)
  · obtain ⟨a, l, xs, rfl, _⟩ := h
    rfl
  · obtain ⟨a, l, xs, rfl, hp, hl, ne, h0, h1, k⟩ := h
    refine ⟨_, (pss_one (ps_ret (pe_ix (show IxR _ (rIx K) from ix_seq) (pv 1) (pe_cal c_draw (hr.mono (by decide)) rfl (pa_cons (pv 0) (pa_cons (pe_callB call_len_seq (by rfl) T.n_len PySem.boot_len (pa_cons (pv 1) pa_nil)) pa_nil))) (fun _ _ => rfl)))), ?_⟩
    refine ⟨_, rfl, _, rfl, _, rfl, l, xs, rfl, hl.elim (fun e => .inl (SqL.of e)) (fun e => .inr (SqT.of e)), a, _, rfl, hp, by omega, nsm (by omega), fun r o r0 r1 ho => ?_⟩
    obtain ⟨j, rfl⟩ := nat_of r0
    have hj : j < xs.length := by omega
    have gj : xs[j]? = some xs[j] := List.getElem?_eq_getElem hj
    have hl2 : Sq (upd H a o) l xs := hl.elim (fun e => .inl (by rw [upd_ne ne]; exact e)) fun e => .inr (by rw [upd_ne ne]; exact e)
    rcases hl2 with e | e
    · exact .inl ⟨l, _, _, _, rfl, rfl, SqL.of e, atI_nat gj, k _ o (List.mem_of_getElem? gj) ho⟩
    · exact .inr (.inl ⟨l, _, _, _, rfl, rfl, SqT.of e, atI_nat gj, k _ o (List.mem_of_getElem? gj) ho⟩)
end
/-! ### rows, as lists of tops -/
def Tps (n : Nat) (ws : List Nat) : Prop := ws.length = n ∧ 0 < ws.sum ∧ ∀ w ∈ ws, w < 2 ^ 40
def TpsAt (n : Nat) (H : Hp) (r : Addr × List Nat) : Prop := H r.1 = some (.tup (cV r.2)) ∧ Tps n r.2
def Rws (n : Nat) (H : Hp) (rs : List (Addr × List Nat)) : Prop := ∀ r ∈ rs, TpsAt n H r
theorem Rws.same {n : Nat} {H H' : Hp} {rs : List (Addr × List Nat)} (h : Rws n H rs) (s : Same H H') : Rws n H' rs := fun r m => ⟨s _ _ (h r m).1, (h r m).2⟩
theorem Rws.keep {n : Nat} {a : Addr} {H H' : Hp} {rs : List (Addr × List Nat)} (h : Rws n H rs) (k : Keep a H H') (hp : PoolAt H a) : Rws n H' rs := fun r m => ⟨k _ _ (h r m).1 (hp.ne (h r m).1), (h r m).2⟩
theorem Rws.lstU {n : Nat} {H : Hp} {D : Addr} {ys : List V} {rs : List (Addr × List Nat)} {o : HO} (h : Rws n H rs) (e : H D = some (.lst ys)) : Rws n (upd H D o) rs := fun r m => by
  have q := (h r m).1
  exact ⟨by rw [upd_ne (fun z => by rw [z, e] at q; cases q)]; exact q, (h r m).2⟩
theorem Rws.snoc {n : Nat} {H : Hp} {rs : List (Addr × List Nat)} {r : Addr × List Nat} (h : Rws n H rs) (e : TpsAt n H r) : Rws n H (rs ++ [r]) := fun u m => by
  rcases List.mem_append.mp m with m | m
  · exact h u m
  · rw [List.mem_singleton.mp m]; exact e
theorem Rws.nil {n : Nat} {H : Hp} : Rws n H [] := fun _ m => by cases m
/-- a tuple of tops -/
def spTops : Sp := fun vs H Q _ => ∃ (a : Addr) (n : Nat), vs = [.ref a, .int (n : Int)] ∧ PoolAt H a ∧ 1 ≤ n ∧ n ≤ 8 ∧ ∀ (t : Addr) (ws : List Nat) (H' : Hp), Keep a H H' → PoolAt H' a → H' t = some (.tup (cV ws)) → Tps n ws → Q (.ref t) H'
/-- a list of them -/
def spRowsG : Sp := fun vs H Q _ => ∃ (a : Addr) (n : Nat), vs = [.ref a, .int (n : Int)] ∧ PoolAt H a ∧ 1 ≤ n ∧ n ≤ 8 ∧
  ∀ (l : Addr) (rs : List (Addr × List Nat)) (H' : Hp), Keep a H H' → PoolAt H' a → H' l = some (.lst (rfs rs)) → Rws n H' rs → rs.length = n → Q (.ref l) H'
theorem sum_pos_of {ws : List Nat} {i x : Nat} (h : ws[i]? = some x) (p : 0 < x) : 0 < ws.sum := by
  have h1 : x ∈ ws := List.mem_of_getElem? h
  induction ws generalizing i with
  | nil => cases h1
  | cons y ws ih =>
    rw [List.sum_cons]
    rcases List.mem_cons.mp h1 with rfl | h1
    · omega
    · obtain ⟨j, hj⟩ := List.mem_iff_getElem?.mp h1
      have := ih hj h1
      omega
theorem ex_pos {ws : List Nat} (h : 0 < ws.sum) : ∃ (i : Nat) (x : Nat), ws[i]? = some x ∧ 0 < x := by
  induction ws with
  | nil => simp at h
  | cons y ws ih =>
    by_cases hy : 0 < y
    · exact ⟨0, y, rfl, hy⟩
    · rw [List.sum_cons] at h
      obtain ⟨i, x, hx, p⟩ := ih (by omega)
      exact ⟨i + 1, x, hx, p⟩
end KI
set_option Elab.async false
set_option linter.all false
set_option maxRecDepth 100000
set_option maxHeartbeats 4000000
namespace KI
open PySem L2
/-- more built-in names that stand as they are -/
structure Bm (mg : Str → Option Value) : Prop where
  b : Bn mg
  n_list : mg "list" = none
  n_tuple : mg "tuple" = none
  n_range : mg "range" = none
  n_sum : mg "sum" = none
  n_min : mg "min" = none
  n_max : mg "max" = none
  n_all : mg "all" = none
theorem cV_snoc (ws : List Nat) (x : Nat) : cV ws ++ [V.int (x : Int)] = cV (ws ++ [x]) := by rw [cV, cV, List.map_append]; rfl
section
variable {P : Program} {w : World} {K : PySem.W.Frag} {mg : Str → Option Value} {base : Heap} {C : Addr}
abbrev s_tops : Stmt := top 45
abbrev nTo : List Str := ["_law_pool_here", "_law_size_here", "_law_tops_here", "_law_k", "_law_top"]
theorem sc_tops : FnScope nTo ["_law_pool_here", "_law_size_here"] (defScope s_tops) := ⟨rfl, rfl, rfl, by decide +kernel, rfl, by decide +kernel, by decide +kernel⟩
abbrev XT (P : Program) (w : World) (K : PySem.W.Frag) (mg : Str → Option Value) (base : Heap) (f : Addr) (cdv : Value) (A : Around) (outer : List Env) (s : Shared) (H : Hp) (E : XK) : Cx :=
  (cxOf CX0 P w K mg base nTo "_law_tops" (defScope s_tops) f cdv A outer s H E).nox
/-- perhaps greater ones; told as a tuple -/
theorem segT2 {f : Addr} {cdv : Value} {A : Around} {outer : List Env} {s : Shared} {H : Hp} {E : XK} {Q : VK} (T : Bm mg) (c_draw : Cal P w K mg base 1 "_law_draw" ["_law_pool_here", "_law_many"] spDraw) (hr : Room 1 (XT P w K mg base f cdv A outer s H E).A) :
    ∃ u, PSs (XT P w K mg base f cdv A outer s H E) ((defBody s_tops).drop 2) u ∧ ∀ (a l : Addr) (n : Nat) (ws : List Nat) (G : Hp), PoolAt G a → l ≠ a → G l = some (.lst (cV ws)) → ws.length = n → n ≤ 8 → 0 < ws.sum → (∀ x ∈ ws, x ≤ 3) →
      (∀ (t : Addr) (ws : List Nat) (H' : Hp), Keep a G H' → PoolAt H' a → H' t = some (.tup (cV ws)) → Tps n ws → Q (.ref t) H') →
      u { nx := fun _ H' => Q .non H', rt := Q } [some (.ref a), some (.int (n : Int)), some (.ref l), none, none] G := by
  refine ⟨_, (pss_cons (ps_if (pt_cmpR op_eq (pe_cal c_draw (hr.mono (by decide)) rfl (pa_cons (pv 0) (pa_cons pe_int pa_nil))) pe_int (nomark _))
      (pss_one (ps_setLc (i := 2) (own := [("_law_top", 4)]) rfl sc_tops.nd rfl rfl (sw_true rfl rfl rfl (by decide +kernel)) (pi_list (pv 2)) (blkOk_by (N := nTo) (sc := defScope s_tops) (by decide +kernel)) (fun _ _ _ _ _ => (pg_name (i := 4) sc_tops.nd rfl (Or.inl rfl))) (fun _ _ _ _ _ => pts_nil) (fun _ _ _ _ _ => (pe_op op_mul (pv 4) (pe_op op_add (pe_op op_pow pe_int pe_int) (pe_cal c_draw (hr.mono (by decide)) rfl (pa_cons (pv 0) (pa_cons (pe_op op_pow pe_int pe_int) pa_nil))))))))
      pss_nil)
    (pss_one (ps_ret (pe_callTy call_tuple_of (by rfl) T.n_tuple (by decide +kernel) (pa_cons (pv 2) pa_nil))))), ?_⟩
  intro a l n ws G hp la el len n8 pos small k
  have fin : ∀ (l : Addr) (ws : List Nat) (G2 : Hp) (c : Addr), Keep a G G2 → PoolAt G2 a → G2 c = none → Tps n ws → Q (.ref c) (upd G2 c (.tup (cV ws))) := fun l ws G2 c kG hpG nc tp =>
    k c ws _ (kG.trans (Keep.of (Same.put nc))) (hpG.same (Same.put nc)) upd_same tp
  refine ⟨_, rfl, a, 40, rfl, hp, by decide, by decide, fun y o y0 y1 ho => ?_⟩
  obtain ⟨p1, k1⟩ := drawn hp (Keep.refl a G) ho
  have el1 := k1 _ _ el la
  generalize (upd G a o) = G1 at p1 k1 el1 ⊢
  refine ⟨rfl, _, rfl, ite2 (fun _ => ?_) (fun _ => ?_)⟩
  · refine ⟨_, rfl, l, rfl, ⟨_, SqL.of el1⟩, fun D nD => ?_⟩
    have Da := new_ne p1 nD
    refine lc_list (K := K) (a := l) (xs := cV ws) (fun i H' => Keep a G1 H' ∧ PoolAt H' a ∧ ∃ us : List Nat, H' D = some (.lst (cV us)) ∧ us.length = i ∧ (∀ x ∈ us, x < 2 ^ 40) ∧ ∀ (j : Nat) (x : Nat), ws[j]? = some x → j < i → 0 < x → ∃ z, us[j]? = some z ∧ 0 < z) ⟨Keep.of (Same.put nD), p1.new nD, [], upd_same, rfl, fun _ m => (by cases m), fun _ _ _ h => absurd h (Nat.not_lt_zero _)⟩ (fun i H' _ h => SqL.of (h.1 _ _ el1 la)) ?_ ?_
    · rintro i x' H' hx' ⟨k2, p2, us, eD, lu, su, pu⟩
      obtain ⟨x, hx, rfl⟩ := cV_of hx'
      have sx := small x (List.mem_of_getElem? hx)
      have il := (List.getElem?_eq_some_iff.mp hx).1
      refine ⟨rfl, yes_of ?_⟩
      refine ⟨_, rfl, 10, 7, rfl, rfl, ⟨by decide, by decide, by decide⟩, _, rfl, 10, 7, rfl, rfl, ⟨by decide, by decide, by decide⟩, a, _, rfl, p2, by decide +kernel, by decide +kernel, fun r o2 r0 r1 ho2 => ?_⟩
      obtain ⟨p3, k3⟩ := drawn p2 k2 ho2
      have eD3 : (upd H' a o2) D = some (.lst (cV us)) := by rw [upd_ne Da]; exact eD
      generalize (upd H' a o2) = H3 at p3 k3 eD3 ⊢
      obtain ⟨r, rfl⟩ := nat_of r0
      have e7 : ((10 : Int) ^ (7 : Int).toNat) = 10000000 := by decide +kernel
      rw [e7] at r1
      refine ⟨(10 : Int) ^ (7 : Int).toNat, (r : Int), rfl, rfl, (x : Int), _, rfl, rfl, .inl ⟨by omega, by omega⟩, ?_⟩
      have e : ((x : Int) * ((10 : Int) ^ (7 : Int).toNat + (r : Int))) = ((x * (10000000 + r) : Nat) : Int) := by rw [e7, Int.natCast_mul, Int.natCast_add]; rfl
      refine ⟨_, eD3, by rw [List.length_map]; exact small_len (by omega), k3.but nD, p3.other (Ne.symm Da), us ++ [x * (10000000 + r)], ?_, ?_, ?_, ?_⟩
      · rw [upd_same]
        show some (HO.lst (cV us ++ [V.int ((x : Int) * ((10 : Int) ^ (7 : Int).toNat + (r : Int)))])) = _
        rw [e, cV_snoc]
      · rw [List.length_append, lu]
        rfl
      · intro z hz
        rcases List.mem_append.mp hz with hz | hz
        · exact su z hz
        · rw [List.mem_singleton.mp hz]
          have : x * (10000000 + r) ≤ 3 * 20000000 := Nat.mul_le_mul sx (by omega)
          omega
      · intro j y hy hj py
        rcases Nat.lt_or_ge j i with h | h
        · obtain ⟨z, hz, pz⟩ := pu j y hy h py
          exact ⟨z, by rw [List.getElem?_append_left (by omega)]; exact hz, pz⟩
        · have : j = i := by omega
          subst this
          rw [hx] at hy
          cases hy
          exact ⟨x * (10000000 + r), by rw [List.getElem?_append_right (by omega), lu, Nat.sub_self]; rfl, Nat.mul_pos py (by omega)⟩
    · rintro H' ⟨k2, p2, us, eD, lu, su, pu⟩
      rw [List.length_map] at lu pu
      obtain ⟨j, y, hy, py⟩ := ex_pos pos
      obtain ⟨z, hz, pz⟩ := pu j y hy (List.getElem?_eq_some_iff.mp hy).1 py
      refine ⟨_, rfl, D, _, rfl, .inl ⟨SqL.of eD, fun c nc => ?_⟩⟩
      exact fin D us H' c (k1.trans k2) p2 nc ⟨by omega, sum_pos_of hz pz, su⟩
  · refine ⟨_, rfl, l, _, rfl, .inl ⟨SqL.of el1, fun c nc => ?_⟩⟩
    exact fin l ws G1 c k1 p1 nc ⟨len, pos, fun x m => Nat.lt_of_le_of_lt (small x m) (by decide)⟩
theorem ok_tops {f : Addr} {fd : FuncData} (F : Fun K "_law_tops" "_law_tops" s_tops f fd) (T : Bm mg) (c_draw : Cal P w K mg base 1 "_law_draw" ["_law_pool_here", "_law_many"] spDraw) : FnOk P w K mg base CX0 2 f fd ["_law_pool_here", "_law_size_here"] spTops := by
  refine F.ok sc_tops (fun vs H Q E h => ?_) (fun cdv A outer s H vs Q E hr h => ?_)
  · obtain ⟨a, n, rfl, _⟩ := h
    rfl
  · obtain ⟨a, n, rfl, hp, n1, n8, k⟩ := h
    obtain ⟨u, hu, qu⟩ := segT2 (f := f) (cdv := cdv) (A := A) (outer := outer) (s := s) (H := H) (E := E) (Q := Q) T c_draw (hr.mono (by decide))
    refine ⟨_, (pss_cons (ps_setLc (i := 2) (own := [("_law_k", 3)]) rfl sc_tops.nd rfl rfl (sw_true rfl rfl rfl (by decide +kernel)) (pi_range1 (by rfl) T.n_range (pa_cons (pv 1) pa_nil)) (blkOk_by (N := nTo) (sc := defScope s_tops) (by decide +kernel)) (fun _ _ _ _ _ => (pg_name (i := 3) sc_tops.nd rfl (Or.inl rfl))) (fun _ _ _ _ _ => pts_nil) (fun _ _ _ _ _ => (pe_ix (show IxR _ (rIxT K) from ix_tup) (pe_tup (pa_cons pe_int (pa_cons pe_int (pa_cons pe_int (pa_cons pe_int (pa_cons pe_int (pa_cons pe_int (pa_cons pe_int pa_nil)))))))) (pe_cal c_draw (hr.mono (by decide)) rfl (pa_cons (pv 0) (pa_cons pe_int pa_nil))) (fun _ _ => rfl))))
      (pss_cons (ps_if (pt_cmpR op_eq (pe_callB (cr_sum rfl) (by rfl) T.n_sum PyProof.Rows.boot_sum (pa_cons (pv 2) pa_nil)) pe_int (nomark _))
        (pss_one (ps_asg pe_int (pg_sub (pv 2) (pe_cal c_draw (hr.mono (by decide)) rfl (pa_cons (pv 0) (pa_cons (pv 1) pa_nil))) set_list)))
        pss_nil) hu)), ?_⟩
    refine ⟨_, rfl, _, rfl, by omega, by omega, fun D nD => ?_⟩
    rw [Int.toNat_natCast]
    have Da := new_ne hp nD
    refine lc_range (fun i H' => Keep a H H' ∧ PoolAt H' a ∧ ∃ ws : List Nat, H' D = some (.lst (cV ws)) ∧ ws.length = i ∧ ∀ x ∈ ws, x ≤ 3) ⟨Keep.of (Same.put nD), hp.new nD, [], upd_same, rfl, fun _ m => (by cases m)⟩ ?_ ?_
    · rintro i H' hi ⟨k1, p1, ws, eD, lw, sw⟩
      refine ⟨rfl, yes_of ?_⟩
      refine ⟨by show 7 ≤ sizeLine; decide, fun t nt => ?_⟩
      have s2 := Same.put (o := .tup (cV [0, 0, 0, 1, 1, 2, 3])) nt
      have e2 : (upd H' t (.tup (cV [0, 0, 0, 1, 1, 2, 3]))) t = some (.tup (cV [0, 0, 0, 1, 1, 2, 3])) := upd_same
      have p2 := p1.same s2
      have k2 := k1.trans (Keep.of s2)
      have eD2 := s2 _ _ eD
      show tCall spDraw [] E0 _ _ (upd H' t (.tup (cV [0, 0, 0, 1, 1, 2, 3]))) _
      generalize (upd H' t (.tup (cV [0, 0, 0, 1, 1, 2, 3]))) = H2 at e2 p2 k2 eD2 ⊢
      refine ⟨_, rfl, a, 7, rfl, p2, by decide, by decide, fun r o r0 r1 ho => ?_⟩
      obtain ⟨p3, k3⟩ := drawn p2 k2 ho
      have eD3 : (upd H2 a o) D = some (.lst (cV ws)) := by rw [upd_ne Da]; exact eD2
      have e3 : (upd H2 a o) t = some (.tup (cV [0, 0, 0, 1, 1, 2, 3])) := by rw [upd_ne (p2.ne e2)]; exact e2
      generalize (upd H2 a o) = H3 at p3 k3 eD3 e3 ⊢
      obtain ⟨j, rfl⟩ := nat_of r0
      have hj : j < [0, 0, 0, 1, 1, 2, 3].length := by show j < 7; omega
      have gj : ([0, 0, 0, 1, 1, 2, 3] : List Nat)[j]? = some [0, 0, 0, 1, 1, 2, 3][j] := List.getElem?_eq_getElem hj
      have gx : [0, 0, 0, 1, 1, 2, 3][j] ≤ 3 := (by decide : ∀ x ∈ ([0, 0, 0, 1, 1, 2, 3] : List Nat), x ≤ 3) _ (List.mem_of_getElem? gj)
      generalize [0, 0, 0, 1, 1, 2, 3][j] = x at gj gx
      refine ⟨t, _, _, _, rfl, rfl, SqT.of e3, atI_nat (cV_at gj), ?_⟩
      refine ⟨_, eD3, by rw [List.length_map]; exact small_len (by omega), k3.but nD, p3.other (Ne.symm Da), ws ++ [x], ?_, ?_, ?_⟩
      · rw [upd_same, cV_snoc]
      · rw [List.length_append, lw]
        rfl
      · intro z hz
        rcases List.mem_append.mp hz with hz | hz
        · exact sw z hz
        · rw [List.mem_singleton.mp hz]
          exact gx
    · rintro H1 ⟨k1, p1, ws, eD, lw, sw⟩
      have eI := eD
      rw [cV_ints] at eI
      refine ⟨_, rfl, D, _, rfl, SqL.of eI, rfl, _, rfl, ite2 (fun z => ?_) (fun z => ?_)⟩
      · refine ⟨_, rfl, _, rfl, _, rfl, a, (n : Int), rfl, p1, by omega, nsm (by omega), fun r o r0 r1 ho => ?_⟩
        obtain ⟨p2, k2⟩ := drawn p1 k1 ho
        have eD2 : (upd H1 a o) D = some (.lst (cV ws)) := by rw [upd_ne Da]; exact eD
        generalize (upd H1 a o) = H2 at p2 k2 eD2 ⊢
        obtain ⟨j, rfl⟩ := nat_of r0
        refine ⟨D, _, _, j, rfl, rfl, eD2, ?_, ?_⟩
        · unfold ixN
          rw [if_pos (by omega), if_pos (by rw [List.length_map]; omega), Int.toNat_natCast]
        · have e1 : (cV ws).set j (V.int 1) = cV (ws.set j 1) := cV_set ws j 1
          rw [e1]
          have hs : (ws.set j 1)[j]? = some 1 := by rw [List.getElem?_set_self (by omega)]
          refine qu a D n (ws.set j 1) _ (p2.other (Ne.symm Da)) Da upd_same (by rw [List.length_set]; exact lw) n8 (sum_pos_of hs (by decide)) (fun x m => ?_) fun t us H' kk pp ee tt => k t us H' ((k2.but nD).trans kk) pp ee tt
          rcases List.mem_or_eq_of_mem_set m with m | rfl
          · exact sw x m
          · decide
      · have pos : 0 < ws.sum := by
          rw [sum_ints] at z
          rcases Nat.eq_zero_or_pos ws.sum with h | h
          · rw [h] at z
            exact absurd rfl z
          · exact h
        exact qu a D n ws H1 p1 Da eD lw n8 pos sw fun t us H' kk pp ee tt => k t us H' (k1.trans kk) pp ee tt
end
end KI
set_option Elab.async false
set_option linter.all false
set_option maxRecDepth 100000
set_option maxHeartbeats 4000000
namespace KI
open PySem L2
theorem le_sum {ws : List Nat} {x : Nat} (h : x ∈ ws) : x ≤ ws.sum := by
  induction ws with
  | nil => cases h
  | cons y ws ih =>
    rw [List.sum_cons]
    rcases List.mem_cons.mp h with rfl | h
    · omega
    · have := ih h
      omega
theorem ixN_ok {n j : Nat} (h : j < n) : ixN n (j : Int) = some j := by
  unfold ixN
  rw [if_pos (by omega), if_pos (by omega), Int.toNat_natCast]
theorem cV_len {ws : List Nat} : (cV ws).length = ws.length := List.length_map _
/-- _law_moved_bit(pool, tops) -/
def spMoved : Sp := fun vs H Q _ => ∃ (a t : Addr) (n : Nat) (ws : List Nat), vs = [.ref a, .ref t] ∧ PoolAt H a ∧ H t = some (.tup (cV ws)) ∧ Tps n ws ∧ 1 ≤ n ∧ n ≤ 8 ∧ ∀ (t : Addr) (ws : List Nat) (H' : Hp), Keep a H H' → PoolAt H' a → H' t = some (.tup (cV ws)) → Tps n ws → Q (.ref t) H'
section
variable {P : Program} {w : World} {K : PySem.W.Frag} {mg : Str → Option Value} {base : Heap} {C : Addr}
abbrev s_moved : Stmt := top 47
abbrev nMb : List Str := ["_law_pool_here", "_law_tops_here", "_law_found", "_law_at", "_law_to", "_law_top", "_law_k"]
theorem sc_moved : FnScope nMb ["_law_pool_here", "_law_tops_here"] (defScope s_moved) := ⟨rfl, rfl, rfl, by decide +kernel, rfl, by decide +kernel, by decide +kernel⟩
theorem ok_moved {f : Addr} {fd : FuncData} (F : Fun K "_law_moved_bit" "_law_moved_bit" s_moved f fd) (T : Bm mg) (c_draw : Cal P w K mg base 1 "_law_draw" ["_law_pool_here", "_law_many"] spDraw) : FnOk P w K mg base CX0 2 f fd ["_law_pool_here", "_law_tops_here"] spMoved := by
  refine F.ok sc_moved (fun vs H Q E h => ?_) (fun cdv A outer s H vs Q E hr h => ?_)
  · obtain ⟨a, t, n, ws, rfl, _⟩ := h
    rfl
  · obtain ⟨a, t, n, ws, rfl, hp, et, ⟨lw, pos, sm⟩, n1, n8, k⟩ := h
    refine ⟨_, (pss_cons (ps_if (pt_cmpR op_gt (pe_callB (cr_sumT rfl) (by rfl) T.n_sum PyProof.Rows.boot_sum (pa_cons (pv 1) pa_nil)) (pe_op op_pow pe_int pe_int) (nomark _))
        (pss_one (ps_ret (pe_callTy call_tuple_of (by rfl) T.n_tuple (by decide +kernel) (pa_cons (pv 1) pa_nil))))
        pss_nil)
      (pss_cons (ps_set (i := 2) sc_moved.nd rfl (Or.inr rfl) (pe_lc (own := [("_law_top", 5)]) rfl sc_moved.nd (pi_tup (pv 1)) (blkOk_by (N := nMb) (sc := defScope s_moved) (by decide +kernel)) (fun _ _ _ _ _ => (pg_name (i := 5) sc_moved.nd rfl (Or.inl rfl))) (fun _ _ _ _ _ => pts_nil) (fun _ _ _ _ _ => (pe_op op_mul pe_int (pv 5)))))
      (pss_cons (ps_set (i := 3) sc_moved.nd rfl (Or.inl rfl) (pe_ix ix_list (pe_lc (own := [("_law_k", 6)]) rfl sc_moved.nd (pi_range1 (by rfl) T.n_range (pa_cons (pe_callB call_len_seq (by rfl) T.b.n_len PySem.boot_len (pa_cons (pv 2) pa_nil)) pa_nil)) (blkOk_by (N := nMb) (sc := defScope s_moved) (by decide +kernel)) (fun _ _ _ _ _ => (pg_name (i := 6) sc_moved.nd rfl (Or.inl rfl))) (fun _ _ _ _ _ => (pts_one (pt_cmpR op_gt (pe_ix (show IxR _ (rIxL K) from ix_list) (pv 2) (pv 6) (fun _ _ => rfl)) pe_int (nomark _)))) (fun _ _ _ _ _ => (pv 6))) pe_int (fun _ _ => rfl)))
      (pss_cons (ps_asg (pe_op op_sub (pe_ix ix_list (pv 2) (pv 3) (fun _ _ => rfl)) pe_int) (pg_sub (pv 2) (pv 3) set_list))
      (pss_cons (ps_set (i := 4) sc_moved.nd rfl (Or.inl rfl) (pe_cal c_draw (hr.mono (by decide)) rfl (pa_cons (pv 0) (pa_cons (pe_callB call_len_seq (by rfl) T.b.n_len PySem.boot_len (pa_cons (pv 2) pa_nil)) pa_nil))))
      (pss_cons (ps_asg (pe_op op_add (pe_ix ix_list (pv 2) (pv 4) (fun _ _ => rfl)) pe_int) (pg_sub (pv 2) (pv 4) set_list))
      (pss_one (ps_ret (pe_callTy call_tuple_of (by rfl) T.n_tuple (by decide +kernel) (pa_cons (pv 2) pa_nil)))))))))), ?_⟩
    have eI := et
    rw [cV_ints] at eI
    refine ⟨_, rfl, t, _, rfl, SqT.of eI, 10, 10, rfl, rfl, ⟨by decide, by decide, by decide⟩, _, _, rfl, rfl, _, rfl, iteB (fun z => ?_) (fun z => ?_)⟩
    · exact ⟨_, rfl, t, _, rfl, .inr ⟨SqT.of et, k t ws H (Keep.refl a H) hp et ⟨lw, pos, sm⟩⟩⟩
    have big : ws.sum ≤ 10000000000 := by
      have e10 : ((10 : Int) ^ (10 : Int).toNat) = 10000000000 := by decide +kernel
      have z := of_decide_eq_false z
      rw [sum_ints, e10] at z
      omega
    have b6 : ∀ x ∈ ws, x ≤ 10000000000 := fun x m => Nat.le_trans (le_sum m) big
    refine ⟨_, rfl, t, rfl, ⟨_, SqT.of et⟩, fun D nD => ?_⟩
    have Da := new_ne hp nD
    refine lc_tup (K := K) (a := t) (xs := cV ws) (fun i H' => Same H H' ∧ H' D = some (.lst (cV ((ws.take i).map (6 * ·))))) ⟨Same.put nD, upd_same⟩ (fun i H' _ h => SqT.of (h.1 _ _ et)) ?_ ?_
    · rintro i x' H' hx' ⟨s1, eD⟩
      obtain ⟨x, hx, rfl⟩ := cV_of hx'
      have il := (List.getElem?_eq_some_iff.mp hx).1
      refine ⟨rfl, yes_of ?_⟩
      refine ⟨_, rfl, 6, (x : Int), rfl, rfl, .inl ⟨by decide, by decide⟩, ?_⟩
      refine ⟨_, eD, by rw [cV_len, List.length_map, List.length_take]; exact small_len (by omega), Same.but (fun b u e => s1 _ _ e) nD, ?_⟩
      rw [upd_same, take_more hx, List.map_append]
      show some (HO.lst (cV _ ++ [V.int (6 * (x : Int))])) = _
      rw [show (6 * (x : Int)) = ((6 * x : Nat) : Int) by rw [Int.natCast_mul]; rfl, cV_snoc]
      rfl
    rintro H1 ⟨s1, eD⟩
    rw [cV_len, List.take_length] at eD
    have p1 := hp.same s1
    generalize hfs : ws.map (6 * ·) = fs at eD
    have lf : fs.length = n := by rw [← hfs, List.length_map, lw]
    have bf : ∀ x ∈ fs, x ≤ 60000000000 := by
      intro x m
      rw [← hfs] at m
      obtain ⟨y, my, rfl⟩ := List.mem_map.mp m
      have := b6 y my
      show 6 * y ≤ _
      omega
    have posf : 0 < fs.sum := by
      obtain ⟨i, x, hx, px⟩ := ex_pos pos
      refine sum_pos_of (i := i) (x := 6 * x) ?_ (by omega)
      rw [← hfs, List.getElem?_map, hx]
      rfl
    -- the first above 0
    refine ⟨_, rfl, D, _, rfl, .inl (SqL.of eD), ?_⟩
    rw [cV_len, lf]
    refine ⟨_, rfl, by omega, by omega, fun G nG => ?_⟩
    rw [Int.toNat_natCast]
    refine lc_range (fun i H' => Same H1 H' ∧ H' G = some (.lst (cV ((List.range i).filter fun j => decide (0 < fs.getD j 0))))) ⟨Same.put nG, upd_same⟩ ?_ ?_
    · rintro i H' hi ⟨s2, eG⟩
      rw [Int.zero_add]
      have gi : fs[i]? = some fs[i] := List.getElem?_eq_getElem (by omega)
      have gd : fs.getD i 0 = fs[i] := by rw [List.getD, gi]; rfl
      refine ⟨rfl, ?_⟩
      refine ⟨_, rfl, _, rfl, D, _, _, _, rfl, rfl, SqL.of (s2 _ _ eD), atI_nat (cV_at gi), _, _, rfl, rfl, _, rfl, iteB (fun z => ?_) (fun z => ?_)⟩
      · have z : 0 < fs[i] := by
          have := of_decide_eq_true z
          omega
        refine ⟨_, rfl, _, eG, ?_, Same.but (fun b u e => s2 _ _ e) nG, ?_⟩
        · rw [cV_len]
          have := List.length_filter_le (fun j => decide (0 < fs.getD j 0)) (List.range i)
          rw [List.length_range] at this
          exact small_len (by omega)
        · rw [upd_same, cV_snoc, List.range_succ, List.filter_append, List.filter_cons, gd, decide_eq_true z]
          rfl
      · have z : ¬ 0 < fs[i] := by
          have := of_decide_eq_false z
          omega
        refine ⟨s2, ?_⟩
        rw [List.range_succ, List.filter_append, List.filter_cons, gd, decide_eq_false z]
        simpa using eG
    rintro H2 ⟨s2, eG⟩
    obtain ⟨i, x, hx, px⟩ := ex_pos posf
    have iw : i ∈ (List.range n).filter fun j => decide (0 < fs.getD j 0) := by
      refine List.mem_filter.mpr ⟨List.mem_range.mpr ?_, ?_⟩
      · have := (List.getElem?_eq_some_iff.mp hx).1
        omega
      · rw [List.getD, hx]
        exact decide_eq_true px
    generalize hL : ((List.range n).filter fun j => decide (0 < fs.getD j 0)) = L at iw eG
    obtain ⟨j, rest, rfl⟩ : ∃ j rest, L = j :: rest := by
      cases L with
      | nil => cases iw
      | cons j rest => exact ⟨j, rest, rfl⟩
    obtain ⟨j1, j2⟩ := List.mem_filter.mp (show j ∈ ((List.range n).filter fun j => decide (0 < fs.getD j 0)) by rw [hL]; exact List.mem_cons_self)
    have j1 := List.mem_range.mp j1
    have j2 := of_decide_eq_true j2
    have gj : fs[j]? = some fs[j] := List.getElem?_eq_getElem (by omega)
    have gd : fs.getD j 0 = fs[j] := by rw [List.getD, gj]; rfl
    rw [gd] at j2
    refine ⟨_, _, 0, _, rfl, rfl, SqL.of eG, atI_nat (j := 0) rfl, ?_⟩
    have eD2 := s2 _ _ eD
    have p2 := p1.same s2
    refine ⟨_, rfl, _, rfl, D, _, _, _, rfl, rfl, SqL.of eD2, atI_nat (cV_at gj), _, _, rfl, rfl, _, rfl, _, rfl, D, _, _, j, rfl, rfl, eD2, ixN_ok (by rw [cV_len]; omega), ?_⟩
    have e1 : (cV fs).set j (V.int ((fs[j] : Int) - 1)) = cV (fs.set j (fs[j] - 1)) := by
      rw [show ((fs[j] : Int) - 1) = ((fs[j] - 1 : Nat) : Int) by omega]
      exact cV_set fs j _
    have k3 : Keep a H (upd H2 D (.lst ((cV fs).set j (V.int ((fs[j] : Int) - 1))))) := (Keep.of (s1.trans s2)).but nD
    have p3 : PoolAt (upd H2 D (.lst ((cV fs).set j (V.int ((fs[j] : Int) - 1))))) a := p2.other (Ne.symm Da)
    have e3 : (upd H2 D (.lst ((cV fs).set j (V.int ((fs[j] : Int) - 1))))) D = some (.lst (cV (fs.set j (fs[j] - 1)))) := by rw [upd_same, e1]
    generalize (upd H2 D (.lst ((cV fs).set j (V.int ((fs[j] : Int) - 1))))) = H3 at k3 p3 e3 ⊢
    have lg : (fs.set j (fs[j] - 1)).length = n := by rw [List.length_set, lf]
    have bg : ∀ x ∈ fs.set j (fs[j] - 1), x ≤ 60000000000 := fun x m => by
      rcases List.mem_or_eq_of_mem_set m with m | rfl
      · exact bf x m
      · have := bf fs[j] (List.mem_of_getElem? gj)
        omega
    obtain ⟨gs, e3, lg, bg⟩ : ∃ gs : List Nat, H3 D = some (.lst (cV gs)) ∧ gs.length = n ∧ ∀ x ∈ gs, x ≤ 60000000000 := ⟨_, e3, lg, bg⟩
    clear e1 hL iw eG s2 p2 eD2 hfs s1 p1 eD
    refine ⟨_, rfl, _, rfl, D, _, rfl, .inl (SqL.of e3), a, _, rfl, p3, by rw [cV_len]; omega, by rw [cV_len]; exact nsm (by omega), fun r o r0 r1 ho => ?_⟩
    obtain ⟨p4, k4⟩ := drawn p3 k3 ho
    have e4 : (upd H3 a o) D = some (.lst (cV gs)) := by rw [upd_ne Da]; exact e3
    generalize (upd H3 a o) = H4 at p4 k4 e4 ⊢
    obtain ⟨q, rfl⟩ := nat_of r0
    rw [cV_len] at r1
    have gq : gs[q]? = some gs[q] := List.getElem?_eq_getElem (by omega)
    refine ⟨_, rfl, _, rfl, D, _, _, _, rfl, rfl, SqL.of e4, atI_nat (cV_at gq), _, _, rfl, rfl, _, rfl, _, rfl, D, _, _, q, rfl, rfl, e4, ixN_ok (by rw [cV_len]; omega), ?_⟩
    have e5 : (cV gs).set q (V.int ((gs[q] : Int) + 1)) = cV (gs.set q (gs[q] + 1)) := cV_set gs q (gs[q] + 1)
    refine ⟨_, rfl, D, cV (gs.set q (gs[q] + 1)), rfl, .inl ⟨SqL.of (by rw [upd_same]; exact congrArg (fun l => some (HO.lst l)) e5), fun c nc => ?_⟩⟩
    refine k c (gs.set q (gs[q] + 1)) _ ((k4.but nD).trans (Keep.of (Same.put nc))) ((p4.other (Ne.symm Da)).same (Same.put nc)) upd_same ⟨by rw [List.length_set, lg], sum_pos_of (i := q) (x := gs[q] + 1) (by rw [List.getElem?_set_self (by omega)]) (by omega), fun x m => ?_⟩
    rcases List.mem_or_eq_of_mem_set m with m | rfl
    · exact Nat.lt_of_le_of_lt (bg x m) (by decide)
    · have := bg gs[q] (List.mem_of_getElem? gq)
      exact Nat.lt_of_le_of_lt (show gs[q] + 1 ≤ 60000000001 by omega) (by decide)
end
end KI
set_option Elab.async false
set_option linter.all false
set_option maxRecDepth 100000
set_option maxHeartbeats 4000000
namespace KI
open PySem L2
/-- a list of rows under way -/
structure RowsSt (n : Nat) (a : Addr) (H0 : Hp) (l : Addr) (H : Hp) (rs : List (Addr × List Nat)) : Prop where
  kp : Keep a H0 H
  pl : PoolAt H a
  el : H l = some (.lst (rfs rs))
  rw_ : Rws n H rs
  n0 : H0 l = none
/-- what a step that keeps all but the pool leaves of it -/
theorem RowsSt.step {n : Nat} {a : Addr} {H0 H H' : Hp} {l : Addr} {rs : List (Addr × List Nat)} (h : RowsSt n a H0 l H rs) (k : Keep a H H') (p : PoolAt H' a) : RowsSt n a H0 l H' rs :=
  ⟨h.kp.trans k, p, k _ _ h.el (h.pl.neR h.el), h.rw_.keep k h.pl, h.n0⟩
theorem RowsSt.draw {n : Nat} {a : Addr} {H0 H : Hp} {l : Addr} {rs : List (Addr × List Nat)} {o : HO} (h : RowsSt n a H0 l H rs) (ho : PoolL o) : RowsSt n a H0 l (upd H a o) rs := h.step (Keep.put o) (.put ho)
theorem RowsSt.same {n : Nat} {a : Addr} {H0 H H' : Hp} {l : Addr} {rs : List (Addr × List Nat)} (h : RowsSt n a H0 l H rs) (s : Same H H') : RowsSt n a H0 l H' rs := h.step (Keep.of s) (h.pl.same s)
/-- one more row -/
theorem RowsSt.push {n : Nat} {a : Addr} {H0 H : Hp} {l : Addr} {rs : List (Addr × List Nat)} {r : Addr × List Nat} (h : RowsSt n a H0 l H rs) (e : TpsAt n H r) : RowsSt n a H0 l (upd H l (.lst (rfs rs ++ [V.ref r.1]))) (rs ++ [r]) :=
  ⟨h.kp.but h.n0, h.pl.other (Ne.symm (h.pl.neR h.el)), by rw [upd_same, rfs_snoc], (h.rw_.snoc e).lstU h.el, h.n0⟩
theorem RowsSt.new {n : Nat} {a l : Addr} {H : Hp} (hp : PoolAt H a) (nl : H l = none) : RowsSt n a H l (upd H l (.lst [])) [] := ⟨Keep.of (Same.put nl), hp.new nl, upd_same, Rws.nil, nl⟩
section
variable {P : Program} {w : World} {K : PySem.W.Frag} {mg : Str → Option Value} {base : Heap} {C : Addr}
abbrev s_alike : Stmt := top 48
abbrev nAl : List Str := ["_law_pool_here", "_law_size_here", "_law_rows_here", "_law_k", "_law_way"]
theorem sc_alike : FnScope nAl ["_law_pool_here", "_law_size_here"] (defScope s_alike) := ⟨rfl, rfl, rfl, by decide +kernel, rfl, by decide +kernel, by decide +kernel⟩
theorem ok_alike {f : Addr} {fd : FuncData} (F : Fun K "_law_rows_alike" "_law_rows_alike" s_alike f fd) (T : Bm mg) (c_draw : Cal P w K mg base 1 "_law_draw" ["_law_pool_here", "_law_many"] spDraw) (c_pick : Cal P w K mg base 2 "_law_pick" ["_law_pool_here", "_law_things"] spPickQ)
    (c_tops : Cal P w K mg base 2 "_law_tops" ["_law_pool_here", "_law_size_here"] spTops) (c_moved : Cal P w K mg base 2 "_law_moved_bit" ["_law_pool_here", "_law_tops_here"] spMoved) : FnOk P w K mg base CX0 3 f fd ["_law_pool_here", "_law_size_here"] spRowsG := by
  refine F.ok sc_alike (fun vs H Q E h => ?_) (fun cdv A outer s H vs Q E hr h => ?_)
  · obtain ⟨a, n, rfl, _⟩ := h
    rfl
  · obtain ⟨a, n, rfl, hp, n1, n8, k⟩ := h
    refine ⟨_, (pss_cons (ps_set (i := 2) sc_alike.nd rfl (Or.inl rfl) (pe_lst (pa_cons (pe_cal c_tops (hr.mono (by decide)) rfl (pa_cons (pv 0) (pa_cons (pv 1) pa_nil))) pa_nil)))
      (pss_cons (ps_for PassesOwn.never rfl (pi_range2 (by rfl) T.n_range (pa_cons pe_int (pa_cons (pv 1) pa_nil))) (pg_name (i := 3) sc_alike.nd rfl (Or.inl rfl))
        (pss_cons (ps_set (i := 4) sc_alike.nd rfl (Or.inl rfl) (pe_cal c_draw (hr.mono (by decide)) rfl (pa_cons (pv 0) (pa_cons pe_int pa_nil))))
          (pss_one (ps_if (pt_cmpR op_eq (pv 4) pe_int (nomark _))
            (pss_one (ps_expr (pe_bm PySem.F.plainAttrs_list PySem.F.slot_list_append PySem.F.type_list_append mt_append (pv 2) (pa_cons (pe_cal c_tops (hr.mono (by decide)) rfl (pa_cons (pv 0) (pa_cons (pv 1) pa_nil))) pa_nil))))
            (pss_one (ps_if (pt_cmpR op_eq (pv 4) pe_int (nomark _))
              (pss_one (ps_expr (pe_bm PySem.F.plainAttrs_list PySem.F.slot_list_append PySem.F.type_list_append mt_append (pv 2) (pa_cons (pe_cal c_moved (hr.mono (by decide)) rfl (pa_cons (pv 0) (pa_cons (pe_cal c_pick (hr.mono (by decide)) rfl (pa_cons (pv 0) (pa_cons (pv 2) pa_nil))) pa_nil))) pa_nil))))
              (pss_one (ps_expr (pe_bm PySem.F.plainAttrs_list PySem.F.slot_list_append PySem.F.type_list_append mt_append (pv 2) (pa_cons (pe_cal c_pick (hr.mono (by decide)) rfl (pa_cons (pv 0) (pa_cons (pv 2) pa_nil))) pa_nil))))))))))
      (pss_one (ps_ret (pv 2))))), ?_⟩
    refine ⟨_, rfl, _, rfl, a, n, rfl, hp, n1, n8, fun t ws H1 k1 p1 et tp => ⟨by show 1 ≤ sizeLine; decide, fun l nl => ?_⟩⟩
    have st0 : RowsSt n a H1 l (upd H1 l (.lst (rfs [(t, ws)]))) [(t, ws)] := ⟨Keep.of (Same.put nl), p1.new nl, upd_same, fun r m => by
      rw [List.mem_singleton.mp m]
      exact ⟨Same.put nl _ _ et, tp⟩, nl⟩
    refine ⟨_, rfl, 1, (n : Int), rfl, ⟨by decide, by decide, by omega, by omega⟩, ?_⟩
    have en : ((n : Int) - 1).toNat = n - 1 := by omega
    rw [en]
    refine for_range (fun i σ H' => ∃ v3 v4 rs, σ = [some (.ref a), some (.int (n : Int)), some (.ref l), v3, v4] ∧ RowsSt n a H1 l H' rs ∧ rs.length = i + 1) ⟨none, none, _, rfl, st0, rfl⟩ ?_ ?_
    · rintro i σ H2 hi ⟨v3, v4, rs, rfl, st, lr⟩
      refine ⟨_, rfl, a, 4, rfl, st.pl, by decide, by decide, fun y o y0 y1 ho => ?_⟩
      have st := st.draw ho
      generalize (upd H2 a o) = H3 at st ⊢
      have app : ∀ (r : Addr × List Nat) (H4 : Hp) (D : Ends) (σ : St), RowsSt n a H1 l H4 rs → TpsAt n H4 r → (RowsSt n a H1 l (upd H4 l (.lst (rfs rs ++ [V.ref r.1]))) (rs ++ [r]) → D.nx σ (upd H4 l (.lst (rfs rs ++ [V.ref r.1])))) →
          ∃ a_1 y xs, (V.ref l = V.ref a_1) ∧ [V.ref r.1] = [y] ∧ H4 a_1 = some (.lst xs) ∧ xs.length < sizeLine ∧ D.nx σ (upd H4 a_1 (.lst (xs ++ [y]))) :=
        fun r H4 D σ st4 tr kk => ⟨l, _, _, rfl, rfl, st4.el, by rw [rfs_len]; exact small_len (by omega), kk (st4.push tr)⟩
      refine ⟨_, rfl, rfl, _, rfl, ite2 (fun _ => ?_) (fun _ => ?_)⟩
      · refine ⟨_, rfl, .inl ⟨rfl, _, SqL.of st.el⟩, _, rfl, _, rfl, a, n, rfl, st.pl, n1, n8, fun t2 w2 H4 k4 p4 e4 tp4 => ?_⟩
        have st4 := st.step k4 p4
        exact ⟨l, _, _, rfl, rfl, st4.el, by rw [rfs_len]; exact small_len (by omega), _, _, _, rfl, st4.push (r := (t2, w2)) ⟨e4, tp4⟩, by rw [List.length_append, lr]; rfl⟩
      · have pk : ∀ {Q2 : VK}, (∀ (r : Addr × List Nat) (o : HO), r ∈ rs → PoolL o → Q2 (.ref r.1) (upd H3 a o)) → spPickQ [.ref a, .ref l] H3 Q2 E0 := fun q =>
          ⟨a, l, rfs rs, rfl, st.pl, .inl st.el, st.pl.neR st.el, by rw [rfs_len]; omega, by rw [rfs_len]; omega, fun x o2 hx ho2 => by
            obtain ⟨r, hr2, rfl⟩ := List.mem_map.mp hx
            exact q r o2 hr2 ho2⟩
        refine ⟨_, rfl, rfl, _, rfl, ite2 (fun _ => ?_) (fun _ => ?_)⟩
        · refine ⟨_, rfl, .inl ⟨rfl, _, SqL.of st.el⟩, _, rfl, _, rfl, _, rfl, pk fun r o2 mr ho2 => ?_⟩
          have st2 := st.draw ho2
          have tr := st2.rw_ r mr
          refine ⟨a, r.1, n, r.2, rfl, st2.pl, tr.1, tr.2, n1, n8, fun t2 w2 H4 k4 p4 e4 tp4 => ?_⟩
          have st4 := st2.step k4 p4
          exact ⟨l, _, _, rfl, rfl, st4.el, by rw [rfs_len]; exact small_len (by omega), _, _, _, rfl, st4.push (r := (t2, w2)) ⟨e4, tp4⟩, by rw [List.length_append, lr]; rfl⟩
        · refine ⟨_, rfl, .inl ⟨rfl, _, SqL.of st.el⟩, _, rfl, _, rfl, pk fun r o2 mr ho2 => ?_⟩
          have st2 := st.draw ho2
          have tr := st2.rw_ r mr
          exact ⟨l, _, _, rfl, rfl, st2.el, by rw [rfs_len]; exact small_len (by omega), _, _, _, rfl, st2.push (r := r) tr, by rw [List.length_append, lr]; rfl⟩
    · rintro σ H2 ⟨v3, v4, rs, rfl, st, lr⟩
      exact ⟨_, rfl, k l rs H2 (k1.trans st.kp) st.pl st.el st.rw_ (by omega)⟩
end
end KI
set_option Elab.async false
set_option linter.all false
set_option maxRecDepth 100000
set_option maxHeartbeats 4000000
namespace KI
open PySem L2
def hitW (n g : Nat) : List Nat := (List.range n).map fun j => if j = g then 1 else 0
theorem hit_tps {n g : Nat} (h : g < n) : Tps n (hitW n g) := by
  refine ⟨by rw [hitW, List.length_map, List.length_range], ?_, fun w m => ?_⟩
  · refine sum_pos_of (i := g) (x := 1) ?_ (by decide)
    rw [hitW, List.getElem?_map, List.getElem?_range h]
    simp
  · obtain ⟨j, _, rfl⟩ := List.mem_map.mp m
    split <;> decide
theorem hit_succ (i g : Nat) : cV (hitW i g) ++ [V.int (if i = g then 1 else 0)] = cV (hitW (i + 1) g) := by
  rw [show hitW (i + 1) g = hitW i g ++ [if i = g then 1 else 0] by rw [hitW, hitW, List.range_succ, List.map_append]; rfl, ← cV_snoc]
  split <;> rfl
theorem fmod_nat (x n : Nat) : ((x : Int)).fmod (n : Int) = ((x % n : Nat) : Int) := by
  rw [Int.fmod_eq_emod_of_nonneg _ (by omega)]
  omega
theorem eq_nat (i g : Nat) : decide (V.int (i : Int) = V.int (g : Int)) = decide (i = g) := by
  rw [decide_eq_decide, V.int.injEq]
  omega
section
variable {P : Program} {w : World} {K : PySem.W.Frag} {mg : Str → Option Value} {base : Heap} {C : Addr}
abbrev s_turning : Stmt := top 49
abbrev nTu : List Str := ["_law_pool_here", "_law_size_here", "_law_step", "_law_rows_here", "_law_k", "_law_goal", "_law_j"]
theorem sc_turning : FnScope nTu ["_law_pool_here", "_law_size_here"] (defScope s_turning) := ⟨rfl, rfl, rfl, by decide +kernel, rfl, by decide +kernel, by decide +kernel⟩
def loopTu : List Stmt := match (defBody s_turning).getD 2 (.Pass ⟨0, 0, 0, 0⟩) with
  | .For _ _ b _ _ => b
  | _ => []
abbrev XTu (P : Program) (w : World) (K : PySem.W.Frag) (mg : Str → Option Value) (base : Heap) (f : Addr) (cdv : Value) (A : Around) (outer : List Env) (s : Shared) (H : Hp) (E : XK) : Cx :=
  (cxOf CX0 P w K mg base nTu "_law_rows_turning" (defScope s_turning) f cdv A outer s H E).nox
theorem segTu2 {f : Addr} {cdv : Value} {A : Around} {outer : List Env} {s : Shared} {H : Hp} {E : XK} (T : Bm mg) :
    ∃ u, PSs (XTu P w K mg base f cdv A outer s H E) (loopTu.drop 2) u ∧ ∀ (a l : Addr) (n g : Nat) (rs : List (Addr × List Nat)) (v2 v4 v6 : Option V) (x5 : V) (D : Ends) (H1 G : Hp), x5 = .int (g : Int) → n ≤ 8 → g < n → RowsSt n a H1 l G rs → rs.length ≤ 8 →
      (∀ (v6 : Option V) (r : Addr × List Nat) (H' : Hp), RowsSt n a H1 l H' (rs ++ [r]) → D.nx [some (.ref a), some (.int (n : Int)), v2, some (.ref l), v4, some x5, v6] H') → u D [some (.ref a), some (.int (n : Int)), v2, some (.ref l), v4, some x5, v6] G := by
  refine ⟨_, (pss_one (ps_expr (pe_bm PySem.F.plainAttrs_list PySem.F.slot_list_append PySem.F.type_list_append mt_append (pv 3) (pa_cons (pe_callTy call_tuple_of (by rfl) T.n_tuple (by decide +kernel) (pa_cons (pe_lc (own := [("_law_j", 6)]) rfl sc_turning.nd (pi_range1 (by rfl) T.n_range (pa_cons (pv 1) pa_nil)) (blkOk_by (N := nTu) (sc := defScope s_turning) (by decide +kernel)) (fun _ _ _ _ _ => (pg_name (i := 6) sc_turning.nd rfl (Or.inl rfl))) (fun _ _ _ _ _ => pts_nil) (fun _ _ _ _ _ => (pe_callTy call_int1 (by rfl) T.b.n_int (by decide +kernel) (pa_cons (pe_cmpR op_eq (pv 6) (pv 5) (nomark _)) pa_nil)))) pa_nil)) pa_nil)))), ?_⟩
  intro a l n g rs v2 v4 v6 x5 D H1 G e5 n8 hg st lr k
  subst e5
  refine ⟨_, rfl, .inl ⟨rfl, _, SqL.of st.el⟩, _, rfl, _, rfl, by omega, by omega, fun B nB => ?_⟩
  rw [Int.toNat_natCast]
  refine lc_range (fun i H' => Same G H' ∧ H' B = some (.lst (cV (hitW i g)))) ⟨Same.put nB, upd_same⟩ ?_ ?_
  · rintro i H' hi ⟨s1, eB⟩
    rw [Int.zero_add]
    refine ⟨rfl, yes_of ?_⟩
    refine ⟨_, rfl, _, rfl, rfl, .inr ⟨_, rfl, _, eB, by rw [cV_len, hitW, List.length_map, List.length_range]; exact small_len (by omega), Same.but (fun b u e => s1 _ _ e) nB, ?_⟩⟩
    rw [upd_same, eq_nat, ← hit_succ]
    by_cases e : i = g
    · rw [decide_eq_true e, if_pos e]; rfl
    · rw [decide_eq_false e, if_neg e]; rfl
  · rintro H2 ⟨s1, eB⟩
    refine ⟨B, _, rfl, .inl ⟨SqL.of eB, fun t nt => ?_⟩⟩
    have st2 := (st.same s1).same (Same.put (o := .tup (cV (hitW n g))) nt)
    exact ⟨l, _, _, rfl, rfl, st2.el, by rw [rfs_len]; exact small_len (by omega), k _ (t, hitW n g) _ (st2.push (r := (t, hitW n g)) ⟨upd_same, hit_tps hg⟩)⟩
theorem ok_turning {f : Addr} {fd : FuncData} (F : Fun K "_law_rows_turning" "_law_rows_turning" s_turning f fd) (T : Bm mg) (c_draw : Cal P w K mg base 1 "_law_draw" ["_law_pool_here", "_law_many"] spDraw) : FnOk P w K mg base CX0 3 f fd ["_law_pool_here", "_law_size_here"] spRowsG := by
  refine F.ok sc_turning (fun vs H Q E h => ?_) (fun cdv A outer s H vs Q E hr h => ?_)
  · obtain ⟨a, n, rfl, _⟩ := h
    rfl
  · obtain ⟨a, n, rfl, hp, n1, n8, k⟩ := h
    obtain ⟨u, hu, qu⟩ := segTu2 (P := P) (w := w) (K := K) (mg := mg) (base := base) (f := f) (cdv := cdv) (A := A) (outer := outer) (s := s) (H := H) (E := E) T
    refine ⟨_, (pss_cons (ps_set (i := 2) sc_turning.nd rfl (Or.inl rfl) (pe_cal c_draw (hr.mono (by decide)) rfl (pa_cons (pv 0) (pa_cons (pv 1) pa_nil))))
      (pss_cons (ps_set (i := 3) sc_turning.nd rfl (Or.inl rfl) (pe_lst pa_nil))
      (pss_cons (ps_for PassesOwn.never rfl (pi_range1 (by rfl) T.n_range (pa_cons (pv 1) pa_nil)) (pg_name (i := 4) sc_turning.nd rfl (Or.inl rfl))
        (pss_cons (ps_set (i := 5) sc_turning.nd rfl (Or.inr rfl) (pe_op op_modN (pe_callTy call_int1 (by rfl) T.b.n_int (by decide +kernel) (pa_cons (pe_op op_add (pv 4) (pv 2)) pa_nil)) (pv 1)))
          (pss_cons (ps_if (pt_cmpR op_eq (pe_cal c_draw (hr.mono (by decide)) rfl (pa_cons (pv 0) (pa_cons pe_int pa_nil))) pe_int (nomark _))
            (pss_one (ps_set (i := 5) sc_turning.nd rfl (Or.inr rfl) (pe_cal c_draw (hr.mono (by decide)) rfl (pa_cons (pv 0) (pa_cons (pv 1) pa_nil)))))
            pss_nil) hu)))
      (pss_one (ps_ret (pv 3)))))), ?_⟩
    refine ⟨_, rfl, _, rfl, a, (n : Int), rfl, hp, by omega, nsm (by omega), fun sp o s0 s1 ho => ?_⟩
    have p1 : PoolAt (upd H a o) a := .put ho
    have k1 := Keep.put (a := a) (H := H) o
    generalize (upd H a o) = H1 at p1 k1 ⊢
    obtain ⟨sp, rfl⟩ := nat_of s0
    refine ⟨by show 0 ≤ sizeLine; decide, fun l nl => ?_⟩
    have st0 := RowsSt.new (n := n) p1 nl
    refine ⟨_, rfl, _, rfl, by omega, by omega, ?_⟩
    rw [Int.toNat_natCast]
    refine for_range (fun i σ H' => ∃ v4 v5 v6 rs, σ = [some (.ref a), some (.int (n : Int)), some (.int (sp : Int)), some (.ref l), v4, v5, v6] ∧ RowsSt n a H1 l H' rs ∧ rs.length = i) ⟨none, none, none, [], rfl, st0, rfl⟩ ?_ ?_
    · rintro i σ H2 hi ⟨v4, v5, v6, rs, rfl, st, lr⟩
      rw [Int.zero_add]
      refine ⟨_, rfl, _, rfl, _, _, rfl, rfl, .inl ⟨_, rfl, _, rfl, _, _, rfl, rfl, by omega, ?_⟩⟩
      have em : (((i : Int) + (sp : Int)).fmod (n : Int)) = (((i + sp) % n : Nat) : Int) := by rw [← Int.natCast_add, fmod_nat]
      refine ⟨_, rfl, a, 4, rfl, st.pl, by decide, by decide, fun y o y0 y1 ho => ?_⟩
      have st2 := st.draw ho
      have lt : (i + sp) % n < n := Nat.mod_lt _ (by omega)
      refine ⟨rfl, _, rfl, ite2 (fun _ => ?_) (fun _ => ?_)⟩
      · refine ⟨_, rfl, _, rfl, a, (n : Int), rfl, st2.pl, by omega, nsm (by omega), fun g o2 g0 g1 ho2 => ?_⟩
        have st3 := st2.draw ho2
        obtain ⟨g, rfl⟩ := nat_of g0
        exact qu a l n g rs _ _ _ _ _ H1 _ rfl n8 (by omega) st3 (by omega) fun v6 r H' st' => ⟨_, _, v6, _, rfl, st', by rw [List.length_append, lr]; rfl⟩
      · exact qu a l n ((i + sp) % n) rs _ _ _ _ _ H1 _ (congrArg V.int em) n8 lt st2 (by omega) fun v6 r H' st' => ⟨_, _, v6, _, rfl, st', by rw [List.length_append, lr]; rfl⟩
    · rintro σ H2 ⟨v4, v5, v6, rs, rfl, st, lr⟩
      exact ⟨_, rfl, k l rs H2 (k1.trans st.kp) st.pl st.el st.rw_ lr⟩
end
end KI
set_option Elab.async false
set_option linter.all false
set_option maxRecDepth 100000
set_option maxHeartbeats 4000000
namespace KI
open PySem L2
theorem iteA {c : Bool} {A B : Prop} (h1 : A) (h2 : B) : if c = true then A else B := iteB (fun _ => h1) fun _ => h2
/-- made positive by one item -/
def mend (ws : List Nat) (k : Nat) : List Nat := if ws.sum = 0 then ws.set k 1 else ws
theorem mend_tps {n k : Nat} {ws : List Nat} (lw : ws.length = n) (hk : k < n) (b : ∀ w ∈ ws, w < 2 ^ 40) : Tps n (mend ws k) := by
  unfold mend
  split
  · refine ⟨by rw [List.length_set, lw], sum_pos_of (i := k) (x := 1) (by rw [List.getElem?_set_self (by omega)]) (by decide), fun w m => ?_⟩
    rcases List.mem_or_eq_of_mem_set m with m | rfl
    · exact b w m
    · decide
  · exact ⟨lw, by omega, b⟩
section
variable {P : Program} {w : World} {K : PySem.W.Frag} {mg : Str → Option Value} {base : Heap} {C : Addr}
abbrev s_parted : Stmt := top 50
abbrev nPa : List Str := ["_law_pool_here", "_law_size_here", "_law_cut", "_law_rows_here", "_law_k", "_law_tops_here", "_law_j"]
theorem sc_parted : FnScope nPa ["_law_pool_here", "_law_size_here"] (defScope s_parted) := ⟨rfl, rfl, rfl, by decide +kernel, rfl, by decide +kernel, by decide +kernel⟩
def loopPa : List Stmt := match (defBody s_parted).getD 2 (.Pass ⟨0, 0, 0, 0⟩) with
  | .For _ _ b _ _ => b
  | _ => []
abbrev XPa (P : Program) (w : World) (K : PySem.W.Frag) (mg : Str → Option Value) (base : Heap) (f : Addr) (cdv : Value) (A : Around) (outer : List Env) (s : Shared) (H : Hp) (E : XK) : Cx :=
  (cxOf CX0 P w K mg base nPa "_law_rows_parted" (defScope s_parted) f cdv A outer s H E).nox
theorem segPa2 {f : Addr} {cdv : Value} {A : Around} {outer : List Env} {s : Shared} {H : Hp} {E : XK} (T : Bm mg) :
    ∃ u, PSs (XPa P w K mg base f cdv A outer s H E) (loopPa.drop 2) u ∧ ∀ (a l B : Addr) (n i : Nat) (rs : List (Addr × List Nat)) (ws : List Nat) (v2 v6 : Option V) (D : Ends) (H1 G : Hp), n ≤ 8 → i < n → RowsSt n a H1 l G rs → rs.length ≤ 8 → G B = some (.lst (cV ws)) → H1 B = none → B ≠ a → B ≠ l → ws.length = n → (∀ w ∈ ws, w < 2 ^ 40) →
      (∀ (r : Addr × List Nat) (H' : Hp), RowsSt n a H1 l H' (rs ++ [r]) → D.nx [some (.ref a), some (.int (n : Int)), v2, some (.ref l), some (.int (i : Int)), some (.ref B), v6] H') → u D [some (.ref a), some (.int (n : Int)), v2, some (.ref l), some (.int (i : Int)), some (.ref B), v6] G := by
  refine ⟨_, (pss_cons (ps_if (pt_cmpR op_eq (pe_callB (cr_sum rfl) (by rfl) T.n_sum PyProof.Rows.boot_sum (pa_cons (pv 5) pa_nil)) pe_int (nomark _))
      (pss_one (ps_asg pe_int (pg_sub (pv 5) (pv 4) set_list)))
      pss_nil)
    (pss_one (ps_expr (pe_bm PySem.F.plainAttrs_list PySem.F.slot_list_append PySem.F.type_list_append mt_append (pv 3) (pa_cons (pe_callTy call_tuple_of (by rfl) T.n_tuple (by decide +kernel) (pa_cons (pv 5) pa_nil)) pa_nil))))), ?_⟩
  intro a l B n i rs ws v2 v6 D H1 G n8 hi st lr eB nB Ba Bl lw bw k
  have eI := eB
  rw [cV_ints] at eI
  have tp := mend_tps lw hi bw
  have fin : ∀ (G2 : Hp) (us : List Nat) (t : Addr), RowsSt n a H1 l G2 rs → G2 t = none → Tps n us → rAppend (.ref l) [.ref t] (upd G2 t (.tup (cV us))) fun _ H' => D.nx [some (.ref a), some (.int (n : Int)), v2, some (.ref l), some (.int (i : Int)), some (.ref B), v6] H' := by
    intro G2 us t st2 nt tp
    have st3 := st2.same (Same.put (o := .tup (cV us)) nt)
    exact ⟨l, _, _, rfl, rfl, st3.el, by rw [rfs_len]; exact small_len (by omega), k (t, us) _ (st3.push (r := (t, us)) ⟨upd_same, tp⟩)⟩
  refine ⟨_, rfl, B, _, rfl, SqL.of eI, rfl, _, rfl, ite2 (fun z => ?_) (fun z => ?_)⟩
  · have z0 : ws.sum = 0 := by
      have z := of_decide_eq_true z
      rw [sum_ints, V.int.injEq] at z
      omega
    unfold mend at tp
    rw [if_pos z0] at tp
    refine ⟨_, rfl, _, rfl, B, _, _, i, rfl, rfl, eB, ixN_ok (by rw [cV_len]; omega), ?_⟩
    have e1 : (cV ws).set i (V.int 1) = cV (ws.set i 1) := cV_set ws i 1
    rw [e1]
    have st2 : RowsSt n a H1 l (upd G B (.lst (cV (ws.set i 1)))) rs := ⟨st.kp.but nB, st.pl.other (Ne.symm Ba), by rw [upd_ne (Ne.symm Bl)]; exact st.el, st.rw_.lstU eB, st.n0⟩
    refine ⟨_, rfl, .inl ⟨rfl, _, SqL.of st2.el⟩, _, rfl, B, _, rfl, .inl ⟨SqL.of upd_same, fun t nt => ?_⟩⟩
    exact fin _ _ t st2 nt tp
  · have z0 : ¬ ws.sum = 0 := by
      intro h
      refine z (decide_eq_true ?_)
      rw [sum_ints, h]
      rfl
    unfold mend at tp
    rw [if_neg z0] at tp
    refine ⟨_, rfl, .inl ⟨rfl, _, SqL.of st.el⟩, _, rfl, B, _, rfl, .inl ⟨SqL.of eB, fun t nt => ?_⟩⟩
    exact fin _ _ t st nt tp
def ifT : Stmt → List Stmt
  | .If _ b _ _ => b
  | _ => []
def thenPa : List Stmt := ifT (loopPa.getD 1 (.Pass ⟨0, 0, 0, 0⟩))
theorem segPaT {f : Addr} {cdv : Value} {A : Around} {outer : List Env} {s : Shared} {H : Hp} {E : XK} (T : Bm mg) :
    ∃ u, PSs (XPa P w K mg base f cdv A outer s H E) thenPa u ∧ ∀ (a l B : Addr) (n i : Nat) (ws : List Nat) (c : Int) (v6 : Option V) (D : Ends) (G : Hp), n ≤ 8 → i < n → G B = some (.lst (cV ws)) → ws.length = n → (∀ w ∈ ws, w < 2 ^ 40) →
      (∀ (B2 : Addr) (us : List Nat) (H' : Hp), Same G H' → G B2 = none → H' B2 = some (.lst (cV us)) → us.length = n → (∀ w ∈ us, w < 2 ^ 40) → D.nx [some (.ref a), some (.int (n : Int)), some (.int c), some (.ref l), some (.int (i : Int)), some (.ref B2), v6] H') → u D [some (.ref a), some (.int (n : Int)), some (.int c), some (.ref l), some (.int (i : Int)), some (.ref B), v6] G := by
  refine ⟨_, (pss_one (ps_set (i := 5) sc_parted.nd rfl (Or.inr rfl) (pe_lc (own := [("_law_j", 6)]) rfl sc_parted.nd (pi_range1 (by rfl) T.n_range (pa_cons (pv 1) pa_nil)) (blkOk_by (N := nPa) (sc := defScope s_parted) (by decide +kernel)) (fun _ _ _ _ _ => (pg_name (i := 6) sc_parted.nd rfl (Or.inl rfl))) (fun _ _ _ _ _ => pts_nil) (fun _ _ _ _ _ => (pe_op op_mul (pe_ix (show IxR _ (rIxL K) from ix_list) (pv 5) (pv 6) (fun _ _ => rfl)) (pe_callTy call_int1 (by rfl) T.b.n_int (by decide +kernel) (pa_cons (pe_cmpR op_eq (pe_cmpR op_lt (pv 6) (pv 2) (nomark _)) (pe_cmpR op_lt (pv 4) (pv 2) (nomark _)) (nomark _)) pa_nil))))))), ?_⟩
  intro a l B n i ws c v6 D G n8 hi eB lw bw k
  refine ⟨_, rfl, _, rfl, by omega, by omega, fun B2 nB2 => ?_⟩
  rw [Int.toNat_natCast]
  refine lc_range (fun j H' => Same G H' ∧ ∃ us : List Nat, H' B2 = some (.lst (cV us)) ∧ us.length = j ∧ ∀ w ∈ us, w < 2 ^ 40) ⟨Same.put nB2, [], upd_same, rfl, fun _ m => (by cases m)⟩ ?_ ?_
  · rintro j H' hj ⟨s1, us, e2, lu, bu⟩
    rw [Int.zero_add]
    have gj : ws[j]? = some ws[j] := List.getElem?_eq_getElem (by omega)
    have bj := bw ws[j] (List.mem_of_getElem? gj)
    generalize ws[j] = x at gj bj
    refine ⟨rfl, yes_of ?_⟩
    refine ⟨_, rfl, _, rfl, B, _, _, _, rfl, rfl, SqL.of (s1 _ _ eB), atI_nat (cV_at gj), ?_⟩
    refine ⟨_, rfl, _, rfl, _, _, rfl, rfl, _, rfl, _, rfl, _, _, rfl, rfl, rfl, .inr ⟨_, rfl, (x : Int), _, rfl, rfl, .inl ⟨by omega, by omega⟩, ?_⟩⟩
    have e : ∀ b : Bool, ((x : Int) * (if b = true then 1 else 0)) = (((if b = true then x else 0) : Nat) : Int) := by
      intro b
      cases b
      · rw [if_neg (by decide), if_neg (by decide), Int.mul_zero]; rfl
      · rw [if_pos rfl, if_pos rfl, Int.mul_one]
    have fin : ∀ b : Bool, ∃ acc, H' B2 = some (.lst acc) ∧ acc.length < sizeLine ∧ Same G (upd H' B2 (.lst (acc ++ [V.int ((x : Int) * (if b = true then 1 else 0))]))) ∧ ∃ us : List Nat, (upd H' B2 (.lst (acc ++ [V.int ((x : Int) * (if b = true then 1 else 0))]))) B2 = some (.lst (cV us)) ∧ us.length = j + 1 ∧ ∀ w ∈ us, w < 2 ^ 40 := by
      intro b
      refine ⟨_, e2, by rw [cV_len]; exact small_len (by omega), Same.but (fun b u e => s1 _ _ e) nB2, us ++ [if b = true then x else 0], ?_, ?_, fun w m => ?_⟩
      · rw [upd_same, e, cV_snoc]
      · rw [List.length_append, lu]; rfl
      · rcases List.mem_append.mp m with m | m
        · exact bu w m
        · rw [List.mem_singleton.mp m]
          split
          · exact bj
          · decide
    exact fin _
  · rintro H' ⟨s1, us, e2, lu, bu⟩
    exact k B2 us H' s1 nB2 e2 lu bu
theorem ok_parted {f : Addr} {fd : FuncData} (F : Fun K "_law_rows_parted" "_law_rows_parted" s_parted f fd) (T : Bm mg) (c_draw : Cal P w K mg base 1 "_law_draw" ["_law_pool_here", "_law_many"] spDraw) (c_tops : Cal P w K mg base 2 "_law_tops" ["_law_pool_here", "_law_size_here"] spTops) : FnOk P w K mg base CX0 3 f fd ["_law_pool_here", "_law_size_here"] spRowsG := by
  refine F.ok sc_parted (fun vs H Q E h => ?_) (fun cdv A outer s H vs Q E hr h => ?_)
  · obtain ⟨a, n, rfl, _⟩ := h
    rfl
  · obtain ⟨a, n, rfl, hp, n1, n8, k⟩ := h
    obtain ⟨u, hu, qu⟩ := segPa2 (P := P) (w := w) (K := K) (mg := mg) (base := base) (f := f) (cdv := cdv) (A := A) (outer := outer) (s := s) (H := H) (E := E) T
    obtain ⟨uT, huT, quT⟩ := segPaT (P := P) (w := w) (K := K) (mg := mg) (base := base) (f := f) (cdv := cdv) (A := A) (outer := outer) (s := s) (H := H) (E := E) T
    refine ⟨_, (pss_cons (ps_set (i := 2) sc_parted.nd rfl (Or.inr rfl) (pe_op op_add pe_int (pe_cal c_draw (hr.mono (by decide)) rfl (pa_cons (pv 0) (pa_cons (pe_callB (call_max2 rfl) (by rfl) T.n_max (by decide +kernel) (pa_cons pe_int (pa_cons (pe_op op_sub (pv 1) pe_int) pa_nil))) pa_nil)))))
      (pss_cons (ps_set (i := 3) sc_parted.nd rfl (Or.inl rfl) (pe_lst pa_nil))
      (pss_cons (ps_for PassesOwn.never rfl (pi_range1 (by rfl) T.n_range (pa_cons (pv 1) pa_nil)) (pg_name (i := 4) sc_parted.nd rfl (Or.inr rfl))
        (pss_cons (ps_set (i := 5) sc_parted.nd rfl (Or.inr rfl) (pe_callTy call_list_of (by rfl) T.n_list (by decide +kernel) (pa_cons (pe_cal c_tops (hr.mono (by decide)) rfl (pa_cons (pv 0) (pa_cons (pv 1) pa_nil))) pa_nil)))
          (pss_cons (ps_if (PW.pt (pw_or (pt_cmpR op_gt (pe_cal c_draw (hr.mono (by decide)) rfl (pa_cons (pv 0) (pa_cons pe_int pa_nil))) pe_int (nomark _)) (pw_or1 (pt_cmpR op_in_seq (pv 4) (pe_tup (pa_cons pe_int (pa_cons (pe_op op_sub (pv 1) pe_int) pa_nil))) (by rfl)))))
            huT
            pss_nil) hu)))
      (pss_one (ps_ret (pv 3)))))), ?_⟩
    refine ⟨_, rfl, _, rfl, _, _, rfl, rfl, 1, (n : Int) - 1, rfl, a, _, rfl, hp, by split <;> omega, by split <;> exact log_small (b := 10) (by omega) (by decide) (by decide), fun c o c0 c1 ho => ?_⟩
    have p1 : PoolAt (upd H a o) a := .put ho
    have k1 := Keep.put (a := a) (H := H) o
    generalize (upd H a o) = H1 at p1 k1 ⊢
    refine ⟨_, _, rfl, rfl, by show 0 ≤ sizeLine; decide, fun l nl => ?_⟩
    have st0 := RowsSt.new (n := n) p1 nl
    refine ⟨_, rfl, _, rfl, by omega, by omega, ?_⟩
    rw [Int.toNat_natCast]
    refine for_range (fun i σ H' => ∃ v4 v5 v6 rs, σ = [some (.ref a), some (.int (n : Int)), some (.int (1 + c)), some (.ref l), v4, v5, v6] ∧ RowsSt n a H1 l H' rs ∧ rs.length = i) ⟨none, none, none, [], rfl, st0, rfl⟩ ?_ ?_
    · rintro i σ H2 hi ⟨v4, v5, v6, rs, rfl, st, lr⟩
      rw [Int.zero_add]
      refine ⟨_, rfl, _, rfl, a, n, rfl, st.pl, n1, n8, fun t ws H3 k3 p3 et tp => ?_⟩
      have st3 := st.step k3 p3
      refine ⟨t, _, rfl, .inr (SqT.of et), fun B nB => ?_⟩
      have sB := Same.put (o := .lst (cV ws)) nB
      have eB : (upd H3 B (.lst (cV ws))) B = some (.lst (cV ws)) := upd_same
      have Ba := new_ne p3 nB
      have Bl : B ≠ l := fun z => by rw [z, st3.el] at nB; cases nB
      have nB1 : H1 B = none := by
        cases e : H1 B with
        | none => rfl
        | some o => rw [st3.kp B o e Ba] at nB; cases nB
      have st4 := st3.same sB
      generalize (upd H3 B (.lst (cV ws))) = H4 at eB st4 ⊢
      clear sB nB st3 et k3 p3 st
      refine ⟨_, rfl, a, 3, rfl, st4.pl, by decide, by decide, fun y o2 y0 y1 ho2 => ?_⟩
      have st5 := st4.draw ho2
      have eB5 : (upd H4 a o2) B = some (.lst (cV ws)) := by rw [upd_ne Ba]; exact eB
      generalize (upd H4 a o2) = H5 at st5 eB5 ⊢
      have nb : ∀ (H6 : Hp) (B2 : Addr), Same H5 H6 → H6 B2 = none → H1 B2 = none ∧ B2 ≠ a ∧ B2 ≠ l := by
        intro H6 B2 s6 nB2
        have st6 := st5.same s6
        have B2a := new_ne st6.pl nB2
        refine ⟨?_, B2a, fun z => by rw [z, st6.el] at nB2; cases nB2⟩
        cases e : H1 B2 with
        | none => rfl
        | some o => rw [st6.kp B2 o e B2a] at nB2; cases nB2
      refine ⟨_, _, rfl, rfl, _, rfl, iteB (fun _ => ?_) (fun _ => ?_)⟩
      · refine quT a l B n i ws _ v6 _ H5 n8 hi eB5 tp.1 tp.2.2 fun B2 us H7 s7 nB2 e7 lu bu => ?_
        obtain ⟨q1, q2, q3⟩ := nb H5 B2 (Same.refl H5) nB2
        exact qu a l B2 n i rs us _ v6 _ H1 H7 n8 hi (st5.same s7) (by omega) e7 q1 q2 q3 lu bu fun r H' st' => ⟨_, _, v6, _, rfl, st', by rw [List.length_append, lr]; rfl⟩
      · refine ⟨_, rfl, _, rfl, _, _, rfl, rfl, by show 2 ≤ sizeLine; decide, fun c2 nc2 => ?_⟩
        have s6 := Same.put (o := .tup [.int 0, .int ((n : Int) - 1)]) nc2
        refine ⟨c2, _, rfl, .inr (SqT.of upd_same), rfl, rfl, _, rfl, iteB (fun _ => ?_) (fun _ => ?_)⟩
        · refine quT a l B n i ws _ v6 _ _ n8 hi (s6 _ _ eB5) tp.1 tp.2.2 fun B2 us H7 s7 nB2 e7 lu bu => ?_
          obtain ⟨q1, q2, q3⟩ := nb _ B2 s6 nB2
          exact qu a l B2 n i rs us _ v6 _ H1 H7 n8 hi ((st5.same s6).same s7) (by omega) e7 q1 q2 q3 lu bu fun r H' st' => ⟨_, _, v6, _, rfl, st', by rw [List.length_append, lr]; rfl⟩
        · exact qu a l B n i rs ws _ v6 _ H1 _ n8 hi (st5.same s6) (by omega) (s6 _ _ eB5) nB1 Ba Bl tp.1 tp.2.2 fun r H' st' => ⟨_, _, v6, _, rfl, st', by rw [List.length_append, lr]; rfl⟩
    · rintro σ H2 ⟨v4, v5, v6, rs, rfl, st, lr⟩
      exact ⟨_, rfl, k l rs H2 (k1.trans st.kp) st.pl st.el st.rw_ lr⟩
end
end KI
set_option Elab.async false
set_option linter.all false
set_option maxRecDepth 100000
set_option maxHeartbeats 4000000
namespace KI
open PySem L2
def PosW (ws : List Nat) : Prop := ∃ (j y : Nat), ws[j]? = some y ∧ 0 < y
theorem PosW.sum {ws : List Nat} (h : PosW ws) : 0 < ws.sum := by
  obtain ⟨j, y, hy, py⟩ := h
  exact sum_pos_of hy py
end KI
set_option Elab.async false
set_option linter.all false
set_option maxRecDepth 100000
set_option maxHeartbeats 4000000
namespace KI
open PySem L2
/-- _law_size(pool, 5) -/
def spSize : Sp := fun vs H Q _ => ∃ (a : Addr), vs = [.ref a, .int 5] ∧ PoolAt H a ∧ ∀ (n : Nat) (H' : Hp), 1 ≤ n → n ≤ 8 → Keep a H H' → PoolAt H' a → Q (.int (n : Int)) H'
section
variable {P : Program} {w : World} {K : PySem.W.Frag} {mg : Str → Option Value} {base : Heap} {C : Addr}
abbrev s_size : Stmt := top 53
theorem sc_size : FnScope ["_law_pool_here", "_law_most"] ["_law_pool_here", "_law_most"] (defScope s_size) := ⟨rfl, rfl, rfl, by decide +kernel, rfl, by decide +kernel, by decide +kernel⟩
theorem ok_size {f : Addr} {fd : FuncData} (F : Fun K "_law_size" "_law_size" s_size f fd) (T : Bm mg) (c_draw : Cal P w K mg base 1 "_law_draw" ["_law_pool_here", "_law_many"] spDraw) : FnOk P w K mg base CX0 2 f fd ["_law_pool_here", "_law_most"] spSize := by
  refine F.ok sc_size (fun vs H Q E h => ?_) (fun cdv A outer s H vs Q E hr h => ?_)
  · obtain ⟨a, rfl, _⟩ := h
    rfl
  · obtain ⟨a, rfl, hp, k⟩ := h
    refine ⟨_, (pss_cons (ps_if (pt_cmpR op_eq (pe_cal c_draw (hr.mono (by decide)) rfl (pa_cons (pv 0) (pa_cons pe_int pa_nil))) pe_int (nomark _))
        (pss_one (ps_ret pe_int))
        pss_nil)
      (pss_one (ps_ret (pe_callB (call_min2 rfl) (by rfl) T.n_min (by decide +kernel) (pa_cons (pv 1) (pa_cons (pe_ix ix_tup (pe_tup (pa_cons pe_int (pa_cons pe_int (pa_cons pe_int (pa_cons pe_int (pa_cons pe_int (pa_cons pe_int (pa_cons pe_int (pa_cons pe_int (pa_cons pe_int (pa_cons pe_int pa_nil))))))))))) (pe_cal c_draw (hr.mono (by decide)) rfl (pa_cons (pv 0) (pa_cons pe_int pa_nil))) (fun _ _ => rfl)) pa_nil)))))), ?_⟩
    refine ⟨_, rfl, a, 30, rfl, hp, by decide, by decide, fun y o y0 y1 ho => ?_⟩
    obtain ⟨p1, k1⟩ := drawn hp (Keep.refl a H) ho
    generalize (upd H a o) = H1 at p1 k1 ⊢
    refine ⟨rfl, _, rfl, iteA (k 1 H1 (by decide) (by decide) k1 p1) ?_⟩
    refine ⟨_, rfl, by show 10 ≤ sizeLine; decide, fun t nt => ?_⟩
    have s2 := Same.put (o := .tup (cV [2, 2, 3, 3, 3, 3, 4, 4, 4, 5])) nt
    have e2 : (upd H1 t (.tup (cV [2, 2, 3, 3, 3, 3, 4, 4, 4, 5]))) t = some (.tup (cV [2, 2, 3, 3, 3, 3, 4, 4, 4, 5])) := upd_same
    have p2 := p1.same s2
    have k2 := k1.trans (Keep.of s2)
    show tCall spDraw [] E0 _ _ (upd H1 t (.tup (cV [2, 2, 3, 3, 3, 3, 4, 4, 4, 5]))) _
    generalize (upd H1 t (.tup (cV [2, 2, 3, 3, 3, 3, 4, 4, 4, 5]))) = H2 at e2 p2 k2 ⊢
    refine ⟨_, rfl, a, 10, rfl, p2, by decide, by decide, fun r o r0 r1 ho => ?_⟩
    obtain ⟨p3, k3⟩ := drawn p2 k2 ho
    have e3 : (upd H2 a o) t = some (.tup (cV [2, 2, 3, 3, 3, 3, 4, 4, 4, 5])) := by rw [upd_ne (p2.ne e2)]; exact e2
    generalize (upd H2 a o) = H3 at p3 k3 e3 ⊢
    obtain ⟨j, rfl⟩ := nat_of r0
    have hj : j < [2, 2, 3, 3, 3, 3, 4, 4, 4, 5].length := by show j < 10; omega
    have gj : ([2, 2, 3, 3, 3, 3, 4, 4, 4, 5] : List Nat)[j]? = some [2, 2, 3, 3, 3, 3, 4, 4, 4, 5][j] := List.getElem?_eq_getElem hj
    have gx : 1 ≤ [2, 2, 3, 3, 3, 3, 4, 4, 4, 5][j] ∧ [2, 2, 3, 3, 3, 3, 4, 4, 4, 5][j] ≤ 5 := (by decide : ∀ x ∈ ([2, 2, 3, 3, 3, 3, 4, 4, 4, 5] : List Nat), 1 ≤ x ∧ x ≤ 5) _ (List.mem_of_getElem? gj)
    generalize [2, 2, 3, 3, 3, 3, 4, 4, 4, 5][j] = x at gj gx
    refine ⟨t, _, _, _, rfl, rfl, SqT.of e3, atI_nat (cV_at gj), 5, (x : Int), rfl, ?_⟩
    have e : (if (x : Int) < 5 then (x : Int) else 5) = (x : Int) := by split <;> omega
    have := k x H3 gx.1 (by omega) k3 p3
    rw [← e] at this
    exact this
abbrev s_rows : Stmt := top 51
abbrev nRo : List Str := ["_law_pool_here", "_law_size_here", "_law_way", "_law_k"]
theorem sc_rows : FnScope nRo ["_law_pool_here", "_law_size_here"] (defScope s_rows) := ⟨rfl, rfl, rfl, by decide +kernel, rfl, by decide +kernel, by decide +kernel⟩
theorem ok_rows {f : Addr} {fd : FuncData} (F : Fun K "_law_rows" "_law_rows" s_rows f fd) (T : Bm mg) (c_draw : Cal P w K mg base 1 "_law_draw" ["_law_pool_here", "_law_many"] spDraw) (c_tops : Cal P w K mg base 2 "_law_tops" ["_law_pool_here", "_law_size_here"] spTops)
    (c_alike : Cal P w K mg base 3 "_law_rows_alike" ["_law_pool_here", "_law_size_here"] spRowsG) (c_turning : Cal P w K mg base 3 "_law_rows_turning" ["_law_pool_here", "_law_size_here"] spRowsG) (c_parted : Cal P w K mg base 3 "_law_rows_parted" ["_law_pool_here", "_law_size_here"] spRowsG) : FnOk P w K mg base CX0 4 f fd ["_law_pool_here", "_law_size_here"] spRowsG := by
  refine F.ok sc_rows (fun vs H Q E h => ?_) (fun cdv A outer s H vs Q E hr h => ?_)
  · obtain ⟨a, n, rfl, _⟩ := h
    rfl
  · obtain ⟨a, n, rfl, hp, n1, n8, k⟩ := h
    refine ⟨_, (pss_cons (ps_set (i := 2) sc_rows.nd rfl (Or.inl rfl) (pe_cal c_draw (hr.mono (by decide)) rfl (pa_cons (pv 0) (pa_cons pe_int pa_nil))))
      (pss_cons (ps_if (pt_cmpR op_lt (pv 2) pe_int (nomark _))
        (pss_one (ps_ret (pe_cal c_alike (hr.mono (by decide)) rfl (pa_cons (pv 0) (pa_cons (pv 1) pa_nil)))))
        pss_nil)
      (pss_cons (ps_if (pt_cmpR op_eq (pv 2) pe_int (nomark _))
        (pss_one (ps_ret (pe_cal c_turning (hr.mono (by decide)) rfl (pa_cons (pv 0) (pa_cons (pv 1) pa_nil)))))
        pss_nil)
      (pss_cons (ps_if (pt_cmpR op_lt (pv 2) pe_int (nomark _))
        (pss_one (ps_ret (pe_cal c_parted (hr.mono (by decide)) rfl (pa_cons (pv 0) (pa_cons (pv 1) pa_nil)))))
        pss_nil)
      (pss_one (ps_ret (pe_lc (own := [("_law_k", 3)]) rfl sc_rows.nd (pi_range1 (by rfl) T.n_range (pa_cons (pv 1) pa_nil)) (blkOk_by (N := nRo) (sc := defScope s_rows) (by decide +kernel)) (fun _ _ _ _ _ => (pg_name (i := 3) sc_rows.nd rfl (Or.inl rfl))) (fun _ _ _ _ _ => pts_nil) (fun _ _ _ _ _ => (pe_cal c_tops (hr.mono (by decide)) rfl (pa_cons (pv 0) (pa_cons (pv 1) pa_nil))))))))))), ?_⟩
    refine ⟨_, rfl, a, 8, rfl, hp, by decide, by decide, fun y o y0 y1 ho => ?_⟩
    obtain ⟨p1, k1⟩ := drawn hp (Keep.refl a H) ho
    generalize (upd H a o) = H1 at p1 k1 ⊢
    have sub : spRowsG [.ref a, .int (n : Int)] H1 Q E0 := ⟨a, n, rfl, p1, n1, n8, fun l rs H' k2 p2 el rw_ len => k l rs H' (k1.trans k2) p2 el rw_ len⟩
    refine ⟨_, rfl, _, _, rfl, rfl, _, rfl, iteA ⟨_, rfl, _, rfl, sub⟩ ?_⟩
    refine ⟨_, rfl, rfl, _, rfl, iteA ⟨_, rfl, _, rfl, sub⟩ ?_⟩
    refine ⟨_, rfl, _, _, rfl, rfl, _, rfl, iteA ⟨_, rfl, _, rfl, sub⟩ ?_⟩
    refine ⟨_, rfl, _, rfl, by omega, by omega, fun l nl => ?_⟩
    rw [Int.toNat_natCast]
    refine lc_range (fun i H' => ∃ rs, RowsSt n a H1 l H' rs ∧ rs.length = i) ⟨[], RowsSt.new p1 nl, rfl⟩ ?_ ?_
    · rintro i H' hi ⟨rs, st, lr⟩
      refine ⟨rfl, yes_of ?_⟩
      refine ⟨_, rfl, _, rfl, a, n, rfl, st.pl, n1, n8, fun t ws H2 k2 p2 et tp => ?_⟩
      have st2 := st.step k2 p2
      exact ⟨_, st2.el, by rw [rfs_len]; exact small_len (by omega), rs ++ [(t, ws)], st2.push (r := (t, ws)) ⟨et, tp⟩, by rw [List.length_append, lr]; rfl⟩
    · rintro H' ⟨rs, st, lr⟩
      exact k l rs H' (k1.trans st.kp) st.pl st.el st.rw_ lr
end
end KI
set_option Elab.async false
set_option linter.all false
set_option maxRecDepth 100000
set_option maxHeartbeats 4000000
set_option Elab.async false
set_option linter.all false
set_option maxRecDepth 100000
set_option maxHeartbeats 4000000
namespace KI
open PySem L2 TL
/-! ### names -/
def Nam (x : Str) : Prop := 1 ≤ x.cps.toList.length ∧ x.cps.toList.length ≤ 8 ∧ ∀ c ∈ x.cps.toList, 97 ≤ c ∧ c ≤ 122
def abc : Str := "abcdefghijklmnopqrstuvwxyz"
theorem abc_tl : abc.cps.toList = (List.range 26).map (97 + ·) := by decide +kernel
theorem abc_at {k : Nat} (h : k < 26) : abc.cps.toList[k]? = some (97 + k) := by
  rw [abc_tl, List.getElem?_map, List.getElem?_range h]
  rfl
theorem abc_mem {c : Nat} (h : 97 ≤ c ∧ c ≤ 122) : c ∈ abc.cps.toList := by
  rw [abc_tl]
  exact List.mem_map.mpr ⟨c - 97, List.mem_range.mpr (by omega), by omega⟩
abbrev one (c : Nat) : Str := ⟨#[c]⟩
theorem join_one : ∀ cs : List Nat, joinL [] (cs.map fun c => [c]) = cs
  | [] => rfl
  | [_] => rfl
  | a :: b :: r => by
    show [a] ++ ([] ++ joinL [] ((b :: r).map fun c => [c])) = a :: b :: r
    rw [join_one (b :: r)]
    rfl
theorem join_tl (cs : List Nat) : (Txt.join "" (cs.map one)).cps.toList = cs := by
  have h := tl_join "" (cs.map one)
  rw [← join_eq] at h
  have e : (cs.map one).map tl = cs.map fun c => [c] := by rw [List.map_map]; rfl
  have e0 : tl ("" : Str) = [] := by decide +kernel
  rw [e, e0, join_one] at h
  exact h
/-- one of many unlike ones is not in a short list -/
theorem pigeon {α : Type} {f : Nat → α} (inj : ∀ i j, f i = f j → i = j) : ∀ (l : List α) (S : List Nat), S.Nodup → l.length < S.length → ∃ k ∈ S, f k ∉ l
  | [], S, _, h => by
    cases S with
    | nil => cases h
    | cons k r => exact ⟨k, List.mem_cons_self, by intro m; cases m⟩
  | a :: r, S, nd, h => by
    by_cases e : ∃ k ∈ S, f k = a
    · obtain ⟨k0, m0, e0⟩ := e
      have len : r.length < (S.erase k0).length := by
        rw [List.length_erase_of_mem m0]
        have : (a :: r).length = r.length + 1 := rfl
        omega
      obtain ⟨k, m, nk⟩ := pigeon inj r (S.erase k0) (nd.erase k0) len
      have mk := (List.Nodup.mem_erase_iff nd).mp m
      refine ⟨k, mk.2, fun q => ?_⟩
      rcases List.mem_cons.mp q with q | q
      · exact mk.1 (inj k k0 (by rw [q, e0]))
      · exact nk q
    · obtain ⟨k, m, nk⟩ := pigeon inj r S nd (by have : (a :: r).length = r.length + 1 := rfl; omega)
      refine ⟨k, m, fun q => ?_⟩
      rcases List.mem_cons.mp q with q | q
      · exact e ⟨k, m, q⟩
      · exact nk q
/-- a spare name -/
def spare (k : Nat) : Str := ("zzzzz" : Str) ++ one (97 + k / 26) ++ one (97 + k % 26)
theorem spare_tl (k : Nat) : (spare k).cps.toList = [122, 122, 122, 122, 122, 97 + k / 26, 97 + k % 26] := by
  show tl (("zzzzz" : Str) ++ one (97 + k / 26) ++ one (97 + k % 26)) = _
  rw [tl_append, tl_append]
  have e : tl ("zzzzz" : Str) = [122, 122, 122, 122, 122] := by decide +kernel
  rw [e]
  rfl
theorem spare_inj (i j : Nat) (h : spare i = spare j) : i = j := by
  have e := congrArg (fun x : Str => x.cps.toList) h
  simp only [spare_tl, List.cons.injEq, and_true, true_and] at e
  omega
theorem spare_nam {k : Nat} (h : k < 676) : Nam (spare k) := by
  unfold Nam
  rw [spare_tl]
  refine ⟨by show 1 ≤ 7; decide, by show 7 ≤ 8; decide, fun c m => ?_⟩
  simp only [List.mem_cons, List.not_mem_nil, or_false] at m
  omega
/-- all but the pool and the list of names so far -/
def Keep2 (a tk : Addr) (H H' : Hp) : Prop := ∀ b o, H b = some o → b ≠ a → b ≠ tk → H' b = some o
abbrev sV (ws : List Str) : List V := ws.map V.str
theorem sV_len {ws : List Str} : (sV ws).length = ws.length := List.length_map _
theorem sV_snoc (ws : List Str) (x : Str) : sV ws ++ [V.str x] = sV (ws ++ [x]) := by rw [sV, sV, List.map_append]; rfl
theorem sV_flat (ws : List Str) : (sV ws).all flatV = true := List.all_eq_true.mpr fun x m => by
  obtain ⟨k, _, rfl⟩ := List.mem_map.mp m
  rfl
theorem inV_mem {x : Str} {ws : List Str} : inV (.str x) (sV ws) = decide (x ∈ ws) := by
  rw [Bool.eq_iff_iff, decide_eq_true_eq]
  unfold inV
  rw [List.any_eq_true]
  constructor
  · rintro ⟨v, m, e⟩
    obtain ⟨y, my, rfl⟩ := List.mem_map.mp m
    have e : (y == x) = true := e
    rw [← beq_iff_eq.mp e]
    exact my
  · intro m
    exact ⟨.str x, List.mem_map.mpr ⟨x, m, rfl⟩, by show (x == x) = true; exact beq_self_eq_true x⟩
def spIsName : Sp := fun vs H Q _ => ∃ x : Str, vs = [.str x] ∧ Nam x ∧ ∀ H', Same H H' → Q (.bl true) H'
/-- _law_name(pool, taken) -/
def spName : Sp := fun vs H Q _ => ∃ (a tk : Addr) (ws : List Str), vs = [.ref a, .ref tk] ∧ PoolAt H a ∧ tk ≠ a ∧ H tk = some (.lst (sV ws)) ∧ ws.length ≤ 8 ∧
  ∀ (x : Str) (H' : Hp), Nam x → x ∉ ws → Keep2 a tk H H' → PoolAt H' a → H' tk = some (.lst (sV (ws ++ [x]))) → Q (.str x) H'
section
variable {P : Program} {w : World} {K : PySem.W.Frag} {mg : Str → Option Value} {base : Heap} {C : Addr}
abbrev s_is_name : Stmt := top 13
theorem sc_is_name : FnScope ["thing", "letter"] ["thing"] (defScope s_is_name) := ⟨rfl, rfl, rfl, by decide +kernel, rfl, by decide +kernel, by decide +kernel⟩
theorem ok_is_name {f : Addr} {fd : FuncData} (F : Fun K "is_name" "is_name" s_is_name f fd) (T : Bm mg) (gL : ∃ t, mg "LETTERS" = some (.str abc t)) : FnOk P w K mg base CX0 1 f fd ["thing"] spIsName := by
  obtain ⟨tL, gL⟩ := gL
  refine F.ok sc_is_name (fun vs H Q E h => ?_) (fun cdv A outer s H vs Q E hr h => ?_)
  · obtain ⟨x, rfl, _⟩ := h
    rfl
  · obtain ⟨x, rfl, ⟨h1, h2, h3⟩, k⟩ := h
    refine ⟨_, (pss_cons (ps_if (PW.pt (pw_or (pt_not (pt_val (pe_callB call_isi (by rfl) T.b.n_isinstance (by decide +kernel) (pa_cons (pv 0) (pa_cons (pe_bltn (v := .ty "str") rfl T.b.n_str (by decide +kernel) rfl) pa_nil))))) (pw_or1 (pt_not (pt_chain op_le op_le pe_int (pe_callB call_len_str (by rfl) T.b.n_len PySem.boot_len (pa_cons (pv 0) pa_nil)) pe_int)))))
        (pss_one (ps_ret pe_bl))
        pss_nil)
      (pss_one (ps_ret (pe_callB (cr_all rfl) (by rfl) T.n_all PyProof.Rows.boot_all (pa_cons (pe_lc (own := [("letter", 1)]) rfl sc_is_name.nd (pi_str (pv 0)) (blkOk_by (N := ["thing", "letter"]) (sc := defScope s_is_name) (by decide +kernel)) (fun _ _ _ _ _ => (pg_name (i := 1) sc_is_name.nd rfl (Or.inl rfl))) (fun _ _ _ _ _ => pts_nil) (fun _ _ _ _ _ => (pe_cmpR op_in_sign (pv 1) (pe_glob (v := .str abc) rfl gL ⟨_, rfl⟩) (by rfl)))) pa_nil))))), ?_⟩
    have hl : x.length = x.cps.toList.length := (Array.length_toList).symm
    refine ⟨_, rfl, .str x, .ty "str", _, _, true, rfl, .ty _, .base (.str x), kit_ty (r := true) (by decide +kernel), _, rfl, iteF ?_⟩
    refine ⟨_, rfl, x, rfl, Nat.le_of_lt (small_len (by omega)), 1, (x.length : Int), rfl, rfl, _, rfl, iteTe (decide_eq_true (by omega)) ?_⟩
    refine ⟨(x.length : Int), 8, rfl, rfl, true, congrArg V.bl (decide_eq_true (by omega)), iteF ?_⟩
    refine ⟨_, rfl, x, rfl, fun D nD => ?_⟩
    let Pv : Nat → Hp → Prop := fun i H' => Same H H' ∧ H' D = some (.lst ((List.replicate i true).map V.bl))
    refine ⟨fun i m H' => m + i = x.cps.size ∧ Pv i H', ⟨x.cps.size, rfl, Same.put nD, upd_same⟩, fun i m H1 ⟨em, p⟩ => ?_⟩
    have hs : x.cps.size = x.cps.toList.length := (Array.length_toList).symm
    cases m with
    | zero =>
      refine .inl ⟨show x.cps.size ≤ i by omega, D, _, rfl, SqL.of p.2, ?_⟩
      have e : (List.replicate i true).all id = true := List.all_eq_true.mpr fun b m => List.eq_of_mem_replicate m
      rw [e]
      exact k H1 p.1
    | succ m =>
      refine .inr ⟨show i < x.cps.size by omega, Pv (i + 1), fun H' p' => ⟨m, Nat.lt_succ_self m, by omega, p'⟩, fun v H' y => ?_⟩
      obtain ⟨e, c, hc, rfl⟩ := y
      subst e
      have mc : c ∈ x.cps.toList := by
        have := Array.mem_of_getElem? hc
        exact Array.mem_toList_iff.mpr this
      refine ⟨rfl, yes_of ?_⟩
      refine ⟨_, rfl, c, abc, rfl, rfl, ?_⟩
      rw [decide_eq_true (abc_mem (h3 c mc))]
      refine ⟨_, p.2, by rw [List.length_map, List.length_replicate]; exact small_len (by omega), Same.but (fun b u e => p.1 _ _ e) nD, ?_⟩
      rw [upd_same, List.replicate_succ', List.map_append]
      rfl
end
end KI
set_option Elab.async false
set_option linter.all false
set_option maxRecDepth 100000
set_option maxHeartbeats 4000000
namespace KI
open PySem L2 TL
theorem lenZ : ("zzzzz" : Str).length = 5 := by decide +kernel
theorem lenZ1 (c : Nat) : (("zzzzz" : Str) ++ one c).length = 6 := by
  show (("zzzzz" : Str) ++ one c).cps.size = 6
  rw [show (("zzzzz" : Str) ++ one c).cps.size = (tl (("zzzzz" : Str) ++ one c)).length from (Array.length_toList).symm, tl_append, List.length_append]
  have : (tl ("zzzzz" : Str)).length = 5 := by decide +kernel
  rw [this]
  rfl
theorem Keep2.of {a tk : Addr} {H H' : Hp} (k : Keep a H H') : Keep2 a tk H H' := fun b o h n _ => k b o h n
theorem Keep2.put {a tk : Addr} {H H' : Hp} {o : HO} (k : Keep2 a tk H H') : Keep2 a tk H (upd H' tk o) := fun b u h n n2 => by rw [upd_ne n2]; exact k b u h n n2
section
variable {P : Program} {w : World} {K : PySem.W.Frag} {mg : Str → Option Value} {base : Heap} {C : Addr}
abbrev s_name : Stmt := top 44
abbrev nNa : List Str := ["_law_pool_here", "_law_taken", "_law_letters", "_law_size_here", "_law_word", "_law_k", "_law_x"]
theorem sc_name : FnScope nNa ["_law_pool_here", "_law_taken"] (defScope s_name) := ⟨rfl, rfl, rfl, by decide +kernel, rfl, by decide +kernel, by decide +kernel⟩
abbrev XNa (P : Program) (w : World) (K : PySem.W.Frag) (mg : Str → Option Value) (base : Heap) (f : Addr) (cdv : Value) (A : Around) (outer : List Env) (s : Shared) (H : Hp) (E : XK) : Cx :=
  (cxOf CX0 P w K mg base nNa "_law_name" (defScope s_name) f cdv A outer s H E).nox
/-- a word that is taken gives way to a spare one -/
theorem segNa3 {f : Addr} {cdv : Value} {A : Around} {outer : List Env} {s : Shared} {H : Hp} {E : XK} {Q : VK} (T : Bm mg) :
    ∃ u, PSs (XNa P w K mg base f cdv A outer s H E) ((defBody s_name).drop 3) u ∧ ∀ (a tk : Addr) (ws : List Str) (v3 : Option V) (x : Str) (G : Hp), PoolAt G a → tk ≠ a → G tk = some (.lst (sV ws)) → ws.length ≤ 8 → Nam x →
      (∀ (x : Str) (H' : Hp), Nam x → x ∉ ws → Keep2 a tk G H' → PoolAt H' a → H' tk = some (.lst (sV (ws ++ [x]))) → Q (.str x) H') →
      u { nx := fun _ H' => Q .non H', rt := Q } [some (.ref a), some (.ref tk), some (.str abc), v3, some (.str x), none, none] G := by
  refine ⟨_, (pss_cons (ps_if (pt_cmpR op_in_seq (pv 4) (pv 1) (by rfl))
      (pss_one (ps_set (i := 4) sc_name.nd rfl (Or.inl rfl) (pe_ix ix_list (pe_lc (own := [("_law_x", 6)]) rfl sc_name.nd (pi_list (pe_lc (own := [("_law_k", 5)]) rfl sc_name.nd (pi_range1 (by rfl) T.n_range (pa_cons pe_int pa_nil)) (blkOk_by (N := nNa) (sc := defScope s_name) (by decide +kernel)) (fun _ _ _ _ _ => (pg_name (i := 5) sc_name.nd rfl (Or.inl rfl))) (fun _ _ _ _ _ => pts_nil) (fun _ _ _ _ _ => (pe_op op_add_str (pe_op op_add_str pe_str (pe_ix (show IxR _ rIxS from ix_str) (pv 2) (pe_op op_fdivW (pv 5) pe_int) (fun _ _ => rfl))) (pe_ix (show IxR _ rIxS from ix_str) (pv 2) (pe_op op_modN (pe_callTy call_int1 (by rfl) T.b.n_int (by decide +kernel) (pa_cons (pv 5) pa_nil)) pe_int) (fun _ _ => rfl)))))) (blkOk_by (N := nNa) (sc := defScope s_name) (by decide +kernel)) (fun _ _ _ _ _ => (pg_name (i := 6) sc_name.nd rfl (Or.inl rfl))) (fun _ _ _ _ _ => (pts_one (pt_cmpR (show OpR _ _ (rIn K true) from op_notIn_seq) (pv 6) (pv 1) (by rfl)))) (fun _ _ _ _ _ => (pv 6))) pe_int (fun _ _ => rfl))))
      pss_nil)
    (pss_cons (ps_expr (pe_bm PySem.F.plainAttrs_list PySem.F.slot_list_append PySem.F.type_list_append mt_append (pv 1) (pa_cons (pv 4) pa_nil)))
    (pss_one (ps_ret (pv 4))))), ?_⟩
  intro a tk ws v3 x G hp ta et lw nx k
  have fin : ∀ (y : Str) (G2 : Hp), Nam y → y ∉ ws → Same G G2 → ∃ l xs z, V.ref tk = .ref l ∧ [V.str y] = [z] ∧ G2 l = some (.lst xs) ∧ xs.length < sizeLine ∧ Q (.str y) (upd G2 l (.lst (xs ++ [z]))) := by
    intro y G2 ny yw s2
    refine ⟨tk, _, _, rfl, rfl, s2 _ _ et, by rw [sV_len]; exact small_len (by omega), k y _ ny yw ((Keep2.of (Keep.of s2)).put) ((hp.same s2).other (Ne.symm ta)) (by rw [upd_same, sV_snoc])⟩
  refine ⟨_, rfl, _, rfl, tk, _, rfl, .inl (SqL.of et), rfl, sV_flat ws, _, rfl, iteB (fun _ => ?_) (fun zx => ?_)⟩
  · refine ⟨676, rfl, by decide, by decide, fun B nB => ?_⟩
    refine lc_range (n := 676) (fun i H' => Same G H' ∧ H' B = some (.lst (sV ((List.range i).map spare)))) ⟨Same.put nB, upd_same⟩ ?_ ?_
    · rintro i H' hi ⟨s1, eB⟩
      rw [Int.zero_add]
      refine ⟨rfl, yes_of ?_⟩
      have d26 : ((i : Int) / 26) = ((i / 26 : Nat) : Int) := by omega
      have m26 : ((i : Int)).fmod 26 = ((i % 26 : Nat) : Int) := fmod_nat i 26
      refine ⟨_, rfl, _, rfl, (i : Int), 26, rfl, rfl, ⟨by decide, by decide⟩, abc, ((i / 26 : Nat) : Int), 97 + i / 26, rfl, congrArg V.int d26, Nat.le_of_lt (small_len (by decide +kernel)), atI_nat (abc_at (by omega)), _, _, rfl, rfl, Nat.le_of_lt (small_len (by rw [lenZ]; show 5 + 1 ≤ 1000; decide)), ?_⟩
      refine ⟨_, rfl, _, rfl, .inl ⟨_, rfl, (i : Int), 26, rfl, rfl, (by show (26 : Int) ≠ 0; decide), abc, ((i % 26 : Nat) : Int), 97 + i % 26, rfl, congrArg V.int m26, Nat.le_of_lt (small_len (by decide +kernel)), atI_nat (abc_at (by omega)), _, _, rfl, rfl, Nat.le_of_lt (small_len (by rw [lenZ1]; show 6 + 1 ≤ 1000; decide)), ?_⟩⟩
      refine ⟨_, eB, by rw [sV_len, List.length_map, List.length_range]; exact small_len (by omega), Same.but (fun b u e => s1 _ _ e) nB, ?_⟩
      rw [upd_same, List.range_succ, List.map_append]
      show some (HO.lst (sV _ ++ [V.str (spare i)])) = _
      rw [sV_snoc]
      rfl
    · rintro H1 ⟨s1, eB⟩
      generalize hC : (List.range 676).map spare = cands at eB
      have len : cands.length = 676 := by rw [← hC, List.length_map, List.length_range]
      refine ⟨B, rfl, ⟨_, SqL.of eB⟩, fun L nL => ?_⟩
      refine lc_list (K := K) (a := B) (xs := sV cands) (fun i H' => Same H1 H' ∧ H' L = some (.lst (sV ((cands.take i).filter fun y => !decide (y ∈ ws))))) ⟨Same.put nL, upd_same⟩ (fun i H' _ h => SqL.of (h.1 _ _ eB)) ?_ ?_
      · rintro i v H' hv ⟨s2, eL⟩
        obtain ⟨y, hy, rfl⟩ : ∃ y, cands[i]? = some y ∧ v = .str y := by
          rw [sV, List.getElem?_map] at hv
          cases e : cands[i]? with
          | none => rw [e] at hv; cases hv
          | some y => rw [e] at hv; exact ⟨y, rfl, (Option.some.inj hv).symm⟩
        have il := (List.getElem?_eq_some_iff.mp hy).1
        refine ⟨rfl, ?_⟩
        refine ⟨_, rfl, _, rfl, tk, _, rfl, .inl (SqL.of (s2 _ _ (s1 _ _ et))), rfl, sV_flat ws, ?_⟩
        rw [if_pos rfl, inV_mem]
        refine ⟨_, rfl, iteB (fun z => ?_) (fun z => ?_)⟩
        · refine ⟨_, rfl, _, eL, ?_, Same.but (fun b u e => s2 _ _ e) nL, ?_⟩
          · rw [sV_len]
            have := List.length_filter_le (fun y => !decide (y ∈ ws)) (cands.take i)
            rw [List.length_take] at this
            exact small_len (by omega)
          · rw [upd_same, take_more hy, List.filter_append, List.filter_cons, z, sV_snoc]
            rfl
        · refine ⟨s2, ?_⟩
          rw [take_more hy, List.filter_append, List.filter_cons, z]
          simpa using eL
      · rintro H2 ⟨s2, eL⟩
        rw [sV_len, List.take_length] at eL
        obtain ⟨q, mq, nq⟩ := pigeon spare_inj ws (List.range 676) List.nodup_range (by rw [List.length_range]; omega)
        have mem : spare q ∈ cands.filter fun y => !decide (y ∈ ws) := List.mem_filter.mpr ⟨by rw [← hC]; exact List.mem_map_of_mem mq, by rw [decide_eq_false nq]; rfl⟩
        have all : ∀ y ∈ cands.filter (fun y => !decide (y ∈ ws)), Nam y ∧ y ∉ ws := fun y m => by
          refine ⟨?_, fun h => by have := (List.mem_filter.mp m).2; rw [decide_eq_true h] at this; cases this⟩
          have := (List.mem_filter.mp m).1
          rw [← hC] at this
          obtain ⟨j, mj, rfl⟩ := List.mem_map.mp this
          exact spare_nam (List.mem_range.mp mj)
        generalize (cands.filter fun y => !decide (y ∈ ws)) = F2 at eL mem all
        obtain ⟨y, r, rfl⟩ : ∃ y r, F2 = y :: r := by
          cases F2 with
          | nil => cases mem
          | cons y r => exact ⟨y, r, rfl⟩
        refine ⟨L, _, 0, _, rfl, rfl, SqL.of eL, atI_nat (j := 0) rfl, ?_⟩
        refine ⟨_, rfl, .inl ⟨rfl, _, SqL.of (s2 _ _ (s1 _ _ et))⟩, _, rfl, ?_⟩
        obtain ⟨l, xs, z, h1, h2, h3, h4, h5⟩ := fin y H2 (all y List.mem_cons_self).1 (all y List.mem_cons_self).2 (s1.trans s2)
        exact ⟨l, xs, z, h1, h2, h3, h4, _, rfl, h5⟩
  · refine ⟨_, rfl, .inl ⟨rfl, _, SqL.of et⟩, _, rfl, ?_⟩
    obtain ⟨l, xs, z, h1, h2, h3, h4, h5⟩ := fin x G nx (by rw [inV_mem] at zx; exact of_decide_eq_false zx) (Same.refl G)
    exact ⟨l, xs, z, h1, h2, h3, h4, _, rfl, h5⟩
theorem ok_name {f : Addr} {fd : FuncData} (F : Fun K "_law_name" "_law_name" s_name f fd) (T : Bm mg) (c_draw : Cal P w K mg base 1 "_law_draw" ["_law_pool_here", "_law_many"] spDraw) : FnOk P w K mg base CX0 2 f fd ["_law_pool_here", "_law_taken"] spName := by
  refine F.ok sc_name (fun vs H Q E h => ?_) (fun cdv A outer s H vs Q E hr h => ?_)
  · obtain ⟨a, tk, ws, rfl, _⟩ := h
    rfl
  · obtain ⟨a, tk, ws, rfl, hp, ta, et, lw, k⟩ := h
    obtain ⟨u, hu, qu⟩ := segNa3 (P := P) (w := w) (K := K) (mg := mg) (base := base) (f := f) (cdv := cdv) (A := A) (outer := outer) (s := s) (H := H) (E := E) (Q := Q) T
    refine ⟨_, (pss_cons (ps_set (i := 2) sc_name.nd rfl (Or.inr rfl) pe_str)
      (pss_cons (ps_set (i := 3) sc_name.nd rfl (Or.inl rfl) (pe_ix ix_tup (pe_tup (pa_cons pe_int (pa_cons pe_int (pa_cons pe_int (pa_cons pe_int (pa_cons pe_int pa_nil)))))) (pe_cal c_draw (hr.mono (by decide)) rfl (pa_cons (pv 0) (pa_cons pe_int pa_nil))) (fun _ _ => rfl)))
      (pss_cons (ps_set (i := 4) sc_name.nd rfl (Or.inl rfl) (pe_join pe_str (pe_lc (own := [("_law_k", 5)]) rfl sc_name.nd (pi_range1 (by rfl) T.n_range (pa_cons (pv 3) pa_nil)) (blkOk_by (N := nNa) (sc := defScope s_name) (by decide +kernel)) (fun _ _ _ _ _ => (pg_name (i := 5) sc_name.nd rfl (Or.inl rfl))) (fun _ _ _ _ _ => pts_nil) (fun _ _ _ _ _ => (pe_ix (show IxR _ rIxS from ix_str) (pv 2) (pe_cal c_draw (hr.mono (by decide)) rfl (pa_cons (pv 0) (pa_cons pe_int pa_nil))) (fun _ _ => rfl)))))) hu))), ?_⟩
    refine ⟨by show 5 ≤ sizeLine; decide, fun t nt => ?_⟩
    have s1 := Same.put (o := .tup (cV [1, 1, 2, 3, 8])) nt
    have e1 : (upd H t (.tup (cV [1, 1, 2, 3, 8]))) t = some (.tup (cV [1, 1, 2, 3, 8])) := upd_same
    have p1 := hp.same s1
    have k1 : Keep a H (upd H t (.tup (cV [1, 1, 2, 3, 8]))) := Keep.of s1
    show tCall spDraw [] E0 _ _ (upd H t (.tup (cV [1, 1, 2, 3, 8]))) _
    generalize (upd H t (.tup (cV [1, 1, 2, 3, 8]))) = H1 at e1 p1 k1 ⊢
    refine ⟨_, rfl, a, 5, rfl, p1, by decide, by decide, fun r o r0 r1 ho => ?_⟩
    obtain ⟨p2, k2⟩ := drawn p1 k1 ho
    have e2 : (upd H1 a o) t = some (.tup (cV [1, 1, 2, 3, 8])) := by rw [upd_ne (p1.ne e1)]; exact e1
    generalize (upd H1 a o) = H2 at p2 k2 e2 ⊢
    obtain ⟨j, rfl⟩ := nat_of r0
    have hj : j < [1, 1, 2, 3, 8].length := by show j < 5; omega
    have gj : ([1, 1, 2, 3, 8] : List Nat)[j]? = some [1, 1, 2, 3, 8][j] := List.getElem?_eq_getElem hj
    have gx : 1 ≤ [1, 1, 2, 3, 8][j] ∧ [1, 1, 2, 3, 8][j] ≤ 8 := (by decide : ∀ x ∈ ([1, 1, 2, 3, 8] : List Nat), 1 ≤ x ∧ x ≤ 8) _ (List.mem_of_getElem? gj)
    generalize [1, 1, 2, 3, 8][j] = n at gj gx
    refine ⟨t, _, _, _, rfl, rfl, SqT.of e2, atI_nat (cV_at gj), ?_⟩
    refine ⟨⟨_, rfl⟩, _, rfl, _, rfl, by omega, by omega, fun D nD => ?_⟩
    rw [Int.toNat_natCast]
    have Da := new_ne p2 nD
    refine lc_range (fun i H' => Keep a H2 H' ∧ PoolAt H' a ∧ ∃ cs : List Nat, H' D = some (.lst (sV (cs.map one))) ∧ cs.length = i ∧ ∀ c ∈ cs, 97 ≤ c ∧ c ≤ 122) ⟨Keep.of (Same.put nD), p2.new nD, [], upd_same, rfl, fun _ m => (by cases m)⟩ ?_ ?_
    · rintro i H' hi ⟨k3, p3, cs, eD, lc, bc⟩
      refine ⟨rfl, yes_of ?_⟩
      refine ⟨_, rfl, _, rfl, a, 26, rfl, p3, by decide, by decide, fun r o2 r0 r1 ho2 => ?_⟩
      obtain ⟨p4, k4⟩ := drawn p3 k3 ho2
      have eD4 : (upd H' a o2) D = some (.lst (sV (cs.map one))) := by rw [upd_ne Da]; exact eD
      generalize (upd H' a o2) = H4 at p4 k4 eD4 ⊢
      obtain ⟨r, rfl⟩ := nat_of r0
      refine ⟨abc, (r : Int), 97 + r, rfl, rfl, Nat.le_of_lt (small_len (by decide +kernel)), atI_nat (abc_at (by omega)), ?_⟩
      refine ⟨_, eD4, by rw [sV_len, List.length_map]; exact small_len (by omega), k4.but nD, p4.other (Ne.symm Da), cs ++ [97 + r], ?_, by rw [List.length_append, lc]; rfl, fun c m => ?_⟩
      · rw [upd_same, sV_snoc, List.map_append]
        rfl
      · rcases List.mem_append.mp m with m | m
        · exact bc c m
        · rw [List.mem_singleton.mp m]
          omega
    · rintro H3 ⟨k3, p3, cs, eD, lc, bc⟩
      have kk := k2.trans k3
      have jt := join_tl cs
      refine ⟨"", D, cs.map one, rfl, rfl, .inl (SqL.of eD), ?_, ?_⟩
      · have : ∀ l : List Nat, ((l.map one).map (·.length)).sum = l.length := fun l => by
          induction l with
          | nil => rfl
          | cons c l ih =>
            rw [List.map_cons, List.map_cons, List.sum_cons, ih, List.length_cons]
            show 1 + l.length = _
            omega
        rw [this, List.length_map]
        have e0 : ("" : Str).length = 0 := by decide +kernel
        rw [e0]
        omega
      · exact qu a tk ws _ _ H3 p3 ta (kk _ _ et ta) lw ⟨by rw [jt]; omega, by rw [jt]; omega, fun c m => by rw [jt] at m; exact bc c m⟩ fun x H' nx nw k5 p5 e5 => k x H' nx nw (fun b o e n1 n2 => k5 b o (kk b o e n1) n1 n2) p5 e5
end
end KI
set_option Elab.async false
set_option linter.all false
set_option maxRecDepth 100000
set_option maxHeartbeats 4000000
namespace KI
open PySem L2 TL
theorem sV_at {ws : List Str} {i : Nat} {x : Str} (h : ws[i]? = some x) : (sV ws)[i]? = some (V.str x) := by rw [List.getElem?_map, h]; rfl
/-- labels: a tuple of names -/
def Lbs (n : Nat) (ls : List Str) : Prop := ls.length = n ∧ ∀ x ∈ ls, Nam x
def spLabels : Sp := fun vs H Q _ => ∃ (a : Addr) (n : Nat), vs = [.ref a, .int (n : Int)] ∧ PoolAt H a ∧ 1 ≤ n ∧ n ≤ 8 ∧ ∀ (t : Addr) (ls : List Str) (H' : Hp), Keep a H H' → PoolAt H' a → H' t = some (.tup (sV ls)) → Lbs n ls → Q (.ref t) H'
section
variable {P : Program} {w : World} {K : PySem.W.Frag} {mg : Str → Option Value} {base : Heap} {C : Addr}
abbrev s_labels : Stmt := top 52
abbrev nLb : List Str := ["_law_pool_here", "_law_size_here", "_law_taken", "_law_words", "_law_way", "_law_odd", "_law_k"]
theorem sc_labels : FnScope nLb ["_law_pool_here", "_law_size_here"] (defScope s_labels) := ⟨rfl, rfl, rfl, by decide +kernel, rfl, by decide +kernel, by decide +kernel⟩
theorem ok_labels {f : Addr} {fd : FuncData} (F : Fun K "_law_labels" "_law_labels" s_labels f fd) (T : Bm mg) (c_draw : Cal P w K mg base 1 "_law_draw" ["_law_pool_here", "_law_many"] spDraw) (c_name : Cal P w K mg base 2 "_law_name" ["_law_pool_here", "_law_taken"] spName) : FnOk P w K mg base CX0 3 f fd ["_law_pool_here", "_law_size_here"] spLabels := by
  refine F.ok sc_labels (fun vs H Q E h => ?_) (fun cdv A outer s H vs Q E hr h => ?_)
  · obtain ⟨a, n, rfl, _⟩ := h
    rfl
  · obtain ⟨a, n, rfl, hp, n1, n8, k⟩ := h
    refine ⟨_, (pss_cons (ps_set (i := 2) sc_labels.nd rfl (Or.inr rfl) (pe_lst pa_nil))
      (pss_cons (ps_set (i := 3) sc_labels.nd rfl (Or.inr rfl) (pe_lc (own := [("_law_k", 6)]) rfl sc_labels.nd (pi_range1 (by rfl) T.n_range (pa_cons (pv 1) pa_nil)) (blkOk_by (N := nLb) (sc := defScope s_labels) (by decide +kernel)) (fun _ _ _ _ _ => (pg_name (i := 6) sc_labels.nd rfl (Or.inl rfl))) (fun _ _ _ _ _ => pts_nil) (fun _ _ _ _ _ => (pe_cal c_name (hr.mono (by decide)) rfl (pa_cons (pv 0) (pa_cons (pv 2) pa_nil))))))
      (pss_cons (ps_set (i := 4) sc_labels.nd rfl (Or.inl rfl) (pe_cal c_draw (hr.mono (by decide)) rfl (pa_cons (pv 0) (pa_cons pe_int pa_nil))))
      (pss_cons (ps_if (pt_cmpR op_eq (pv 4) pe_int (nomark _))
        (pss_one (ps_ret (pe_callTy call_tuple_of (by rfl) T.n_tuple (by decide +kernel) (pa_cons (pv 3) pa_nil))))
        pss_nil)
      (pss_cons (ps_if (pt_cmpR op_lt (pv 4) pe_int (nomark _))
        (pss_one (ps_ret (pe_op (op_orR op_repT op_repT1) (pe_tup (pa_cons (pe_ix ix_list (pv 3) pe_int (fun _ _ => rfl)) pa_nil)) (pv 1))))
        pss_nil)
      (pss_cons (ps_if (pt_cmpR op_lt (pv 4) pe_int (nomark _))
        (pss_cons (ps_set (i := 5) sc_labels.nd rfl (Or.inr rfl) (pe_cal c_draw (hr.mono (by decide)) rfl (pa_cons (pv 0) (pa_cons (pv 1) pa_nil))))
          (pss_one (ps_ret (pe_callTy call_tuple_of (by rfl) T.n_tuple (by decide +kernel) (pa_cons (pe_lc (own := [("_law_k", 6)]) rfl sc_labels.nd (pi_range1 (by rfl) T.n_range (pa_cons (pv 1) pa_nil)) (blkOk_by (N := nLb) (sc := defScope s_labels) (by decide +kernel)) (fun _ _ _ _ _ => (pg_name (i := 6) sc_labels.nd rfl (Or.inl rfl))) (fun _ _ _ _ _ => pts_nil) (fun _ _ _ _ _ => (pe_ix (show IxR _ (rIxL K) from ix_list) (pv 3) (pe_op op_mul (pe_callTy call_int1 (by rfl) T.b.n_int (by decide +kernel) (pa_cons (pe_cmpR op_eq (pv 6) (pv 5) (nomark _)) pa_nil)) (pe_callTy call_int1 (by rfl) T.b.n_int (by decide +kernel) (pa_cons (pe_cmpR op_gt (pv 1) pe_int (nomark _)) pa_nil))) (fun _ _ => rfl)))) pa_nil)))))
        pss_nil)
      (pss_one (ps_ret (pe_callTy call_tuple_of (by rfl) T.n_tuple (by decide +kernel) (pa_cons (pe_lc (own := [("_law_k", 6)]) rfl sc_labels.nd (pi_range1 (by rfl) T.n_range (pa_cons (pv 1) pa_nil)) (blkOk_by (N := nLb) (sc := defScope s_labels) (by decide +kernel)) (fun _ _ _ _ _ => (pg_name (i := 6) sc_labels.nd rfl (Or.inl rfl))) (fun _ _ _ _ _ => pts_nil) (fun _ _ _ _ _ => (pe_ix (show IxR _ (rIxL K) from ix_list) (pv 3) (pe_cal c_draw (hr.mono (by decide)) rfl (pa_cons (pv 0) (pa_cons (pe_callB (call_min2 rfl) (by rfl) T.n_min (by decide +kernel) (pa_cons pe_int (pa_cons (pv 1) pa_nil))) pa_nil))) (fun _ _ => rfl)))) pa_nil)))))))))), ?_⟩
    refine ⟨by show 0 ≤ sizeLine; decide, fun tk ntk => ?_⟩
    have ta := new_ne hp ntk
    have p1 := hp.new (o := .lst []) ntk
    have k1 : Keep a H (upd H tk (.lst [])) := Keep.of (Same.put ntk)
    have et : (upd H tk (.lst [])) tk = some (.lst (sV [])) := upd_same
    generalize (upd H tk (.lst [])) = H1 at p1 k1 et ⊢
    refine ⟨_, rfl, _, rfl, by omega, by omega, fun D nD => ?_⟩
    rw [Int.toNat_natCast]
    have Da := new_ne p1 nD
    have Dt : tk ≠ D := fun z => by rw [z, nD] at et; cases et
    have nDH : H D = none := by
      cases e : H D with
      | none => rfl
      | some o => rw [k1 D o e Da] at nD; cases nD
    refine lc_range (fun i H' => Keep a H H' ∧ PoolAt H' a ∧ ∃ ws : List Str, H' D = some (.lst (sV ws)) ∧ H' tk = some (.lst (sV ws)) ∧ ws.length = i ∧ ∀ x ∈ ws, Nam x) ⟨k1.trans (Keep.of (Same.put nD)), p1.new nD, [], upd_same, by rw [upd_ne Dt]; exact et, rfl, fun _ m => (by cases m)⟩ ?_ ?_
    · rintro i H' hi ⟨k2, p2, ws, eD, e2, lw, nw⟩
      refine ⟨rfl, yes_of ?_⟩
      refine ⟨_, rfl, _, rfl, a, tk, ws, rfl, p2, ta, e2, by omega, fun x H3 nx _ k3 p3 e3 => ?_⟩
      have eD3 : H3 D = some (.lst (sV ws)) := k3 _ _ eD Da (Ne.symm Dt)
      have k4 : Keep a H H3 := fun b o e ne => k3 b o (k2 b o e ne) ne (ne_of_none e ntk)
      refine ⟨_, eD3, by rw [sV_len]; exact small_len (by omega), k4.but nDH, p3.other (Ne.symm Da), ws ++ [x], by rw [upd_same, sV_snoc], by rw [upd_ne Dt]; exact e3, by rw [List.length_append, lw]; rfl, fun y m => ?_⟩
      rcases List.mem_append.mp m with m | m
      · exact nw y m
      · rw [List.mem_singleton.mp m]; exact nx
    rintro H2 ⟨k2, p2, ws, eD, _, lw, nw⟩
    refine ⟨_, rfl, a, 8, rfl, p2, by decide, by decide, fun y o y0 y1 ho => ?_⟩
    obtain ⟨p3, k3⟩ := drawn p2 k2 ho
    have eD3 : (upd H2 a o) D = some (.lst (sV ws)) := by rw [upd_ne Da]; exact eD
    generalize (upd H2 a o) = H3 at p3 k3 eD3 ⊢
    have fin : ∀ (t : Addr) (ls : List Str) (G : Hp), Keep a H G → PoolAt G a → G t = none → Lbs n ls → Q (.ref t) (upd G t (.tup (sV ls))) := fun t ls G kG pG nt lb => k t ls _ (kG.trans (Keep.of (Same.put nt))) (pG.same (Same.put nt)) upd_same lb
    have w0 : ws[0]? = some ws[0] := List.getElem?_eq_getElem (by omega)
    have n0 := nw ws[0] (List.mem_of_getElem? w0)
    refine ⟨_, rfl, rfl, _, rfl, iteA ⟨_, rfl, D, _, rfl, .inl ⟨SqL.of eD3, fun t nt => fin t ws H3 k3 p3 nt ⟨lw, nw⟩⟩⟩ ?_⟩
    refine ⟨_, rfl, _, _, rfl, rfl, _, rfl, iteA ?_ ?_⟩
    · refine ⟨_, rfl, D, _, 0, _, rfl, rfl, SqL.of eD3, atI_nat (j := 0) (sV_at w0), by show 1 ≤ sizeLine; decide, fun c nc => ?_⟩
      have s4 := Same.put (o := .tup [V.str ws[0]]) nc
      have e4 : (upd H3 c (.tup [V.str ws[0]])) c = some (.tup [V.str ws[0]]) := upd_same
      have p4 := p3.same s4
      have k4 := k3.trans (Keep.of s4)
      generalize (upd H3 c (.tup [V.str ws[0]])) = H4 at e4 p4 k4 ⊢
      refine ⟨_, rfl, ?_⟩
      by_cases e : n = 1
      · subst e
        exact .inr ⟨c, _, rfl, rfl, SqT.of e4, k c [ws[0]] H4 k4 p4 e4 ⟨rfl, fun x m => by rw [List.mem_singleton.mp m]; exact n0⟩⟩
      · refine .inl ⟨c, (n : Int), _, rfl, rfl, SqT.of e4, by simp, by omega, by omega, by show 1 ≤ 1000; decide, fun t nt => ?_⟩
        have er : (List.replicate (n : Int).toNat [V.str ws[0]]).flatten = sV (List.replicate n ws[0]) := by
          rw [Int.toNat_natCast, sV, List.map_replicate]
          exact List.flatten_replicate_singleton
        rw [er]
        exact fin t _ H4 k4 p4 nt ⟨List.length_replicate, fun x m => by rw [List.eq_of_mem_replicate m]; exact n0⟩
    refine ⟨_, rfl, _, _, rfl, rfl, _, rfl, iteA ?_ ?_⟩
    · refine ⟨_, rfl, _, rfl, a, (n : Int), rfl, p3, by omega, nsm (by omega), fun q o2 q0 q1 ho2 => ?_⟩
      obtain ⟨p4, k4⟩ := drawn p3 k3 ho2
      have eD4 : (upd H3 a o2) D = some (.lst (sV ws)) := by rw [upd_ne Da]; exact eD3
      generalize (upd H3 a o2) = H4 at p4 k4 eD4 ⊢
      refine ⟨_, rfl, _, rfl, by omega, by omega, fun L nL => ?_⟩
      rw [Int.toNat_natCast]
      refine lc_range (fun i H' => Same H4 H' ∧ ∃ ls : List Str, H' L = some (.lst (sV ls)) ∧ ls.length = i ∧ ∀ x ∈ ls, Nam x) ⟨Same.put nL, [], upd_same, rfl, fun _ m => (by cases m)⟩ ?_ ?_
      · rintro i H' hi ⟨s1, ls, eL, ll, nl⟩
        refine ⟨rfl, yes_of ?_⟩
        obtain ⟨b, hb⟩ : ∃ b : Bool, b = decide (V.int (0 + (i : Int)) = V.int q) := ⟨_, rfl⟩
        refine ⟨_, rfl, _, rfl, _, rfl, rfl, .inr ⟨_, rfl, _, rfl, _, _, rfl, rfl, .inr ⟨_, rfl, _, _, rfl, rfl, .inl ⟨by split <;> decide, by split <;> decide⟩, ?_⟩⟩⟩
        have idx : ∃ j : Nat, ((if decide (V.int (0 + (i : Int)) = V.int q) = true then (1 : Int) else 0) * (if decide ((n : Int) > 1) = true then (1 : Int) else 0)) = (j : Int) ∧ j < n := by
          by_cases h1 : decide (V.int (0 + (i : Int)) = V.int q) = true
          · by_cases h2 : decide ((n : Int) > 1) = true
            · rw [if_pos h1, if_pos h2]
              exact ⟨1, rfl, by have := of_decide_eq_true h2; omega⟩
            · rw [if_pos h1, if_neg h2]
              exact ⟨0, rfl, by omega⟩
          · rw [if_neg h1, Int.zero_mul]
            exact ⟨0, rfl, by omega⟩
        obtain ⟨j, ej, hj⟩ := idx
        have gj : ws[j]? = some ws[j] := List.getElem?_eq_getElem (by omega)
        refine ⟨D, _, (j : Int), _, rfl, congrArg V.int ej, SqL.of (s1 _ _ eD4), atI_nat (sV_at gj), ?_⟩
        refine ⟨_, eL, by rw [sV_len]; exact small_len (by omega), Same.but (fun b u e => s1 _ _ e) nL, ls ++ [ws[j]], by rw [upd_same, sV_snoc], by rw [List.length_append, ll]; rfl, fun y m => ?_⟩
        rcases List.mem_append.mp m with m | m
        · exact nl y m
        · rw [List.mem_singleton.mp m]; exact nw _ (List.mem_of_getElem? gj)
      · rintro H5 ⟨s1, ls, eL, ll, nl⟩
        exact ⟨L, _, rfl, .inl ⟨SqL.of eL, fun t nt => fin t ls H5 (k4.trans (Keep.of s1)) (p4.same s1) nt ⟨ll, nl⟩⟩⟩
    · refine ⟨_, rfl, _, rfl, by omega, by omega, fun L nL => ?_⟩
      rw [Int.toNat_natCast]
      have La := new_ne p3 nL
      refine lc_range (fun i H' => Keep a H3 H' ∧ PoolAt H' a ∧ ∃ ls : List Str, H' L = some (.lst (sV ls)) ∧ ls.length = i ∧ ∀ x ∈ ls, Nam x) ⟨Keep.of (Same.put nL), p3.new nL, [], upd_same, rfl, fun _ m => (by cases m)⟩ ?_ ?_
      · rintro i H' hi ⟨k4, p4, ls, eL, ll, nl⟩
        refine ⟨rfl, yes_of ?_⟩
        refine ⟨_, rfl, _, rfl, _, rfl, 2, (n : Int), rfl, a, _, rfl, p4, by split <;> omega, by split <;> exact log_small (b := 10) (by omega) (by decide) (by decide), fun q o2 q0 q1 ho2 => ?_⟩
        obtain ⟨p5, k5⟩ := drawn p4 k4 ho2
        have eL5 : (upd H' a o2) L = some (.lst (sV ls)) := by rw [upd_ne La]; exact eL
        generalize (upd H' a o2) = H5 at p5 k5 eL5 ⊢
        obtain ⟨j, rfl⟩ := nat_of q0
        have hj : j < n := by
          split at q1 <;> omega
        have gj : ws[j]? = some ws[j] := List.getElem?_eq_getElem (by omega)
        refine ⟨D, _, (j : Int), _, rfl, rfl, SqL.of (k5 _ _ eD3 Da), atI_nat (sV_at gj), ?_⟩
        refine ⟨_, eL5, by rw [sV_len]; exact small_len (by omega), k5.but nL, p5.other (Ne.symm La), ls ++ [ws[j]], by rw [upd_same, sV_snoc], by rw [List.length_append, ll]; rfl, fun y m => ?_⟩
        rcases List.mem_append.mp m with m | m
        · exact nl y m
        · rw [List.mem_singleton.mp m]; exact nw _ (List.mem_of_getElem? gj)
      · rintro H5 ⟨k4, p4, ls, eL, ll, nl⟩
        exact ⟨L, _, rfl, .inl ⟨SqL.of eL, fun t nt => fin t ls H5 (k3.trans k4) p4 nt ⟨ll, nl⟩⟩⟩
end
end KI
set_option Elab.async false
set_option linter.all false
set_option maxRecDepth 100000
set_option maxHeartbeats 4000000
/-! raise C(), C an own exception whose __init__ takes nothing and keeps nothing -/
namespace L2
open PySem PySem.Spec PyProof.Rows
end L2
set_option Elab.async false
set_option linter.all false
set_option maxRecDepth 100000
set_option maxHeartbeats 4000000
namespace KI
open PySem L2
/-! ### things, a chain among them -/
inductive Th2 (K : PySem.W.Frag) (C CC : Addr) (H : Hp) : V → Prop
  | th {x : V} (h : Thing K C H x) : Th2 K C CC H x
  | ch {a dx : Addr} {fs : List (Str × V)} (e : H a = some (.ins CC dx fs)) : Th2 K C CC H (.ref a)
theorem Thing.same {K : PySem.W.Frag} {C : Addr} {H H' : Hp} {x : V} (h : Thing K C H x) (s : Same H H') : Thing K C H' x := by
  cases h with
  | fo h => exact .fo (fo_same h s)
  | ins e => exact .ins (s _ _ e)
theorem Th2.same {K : PySem.W.Frag} {C CC : Addr} {H H' : Hp} {x : V} (h : Th2 K C CC H x) (s : Same H H') : Th2 K C CC H' x := by
  cases h with
  | th h => exact .th (h.same s)
  | ch e => exact .ch (s _ _ e)
theorem Th2.isInt {K : PySem.W.Frag} {C CC : Addr} {H : Hp} {x : V} (I : InsT K C) (J : InsT K CC) (h : Th2 K C CC H x) : ∃ t, TyX K H x t ∧ PySem.W.kitOne K t (.type "int") = some (isIB x) ∧ PySem.W.kitOne K t (.type "bool") = some (isB x) := by
  cases h with
  | th h => exact h.isInt I
  | ch e => exact ⟨_, J.ty e, J.kint, J.kbool⟩
theorem isI_IB (x : V) : (isIB x && !isB x) = isI x := by cases x <;> rfl
def btw (a b : Int) : V → Bool
  | .int i => decide (a ≤ i) && decide (i ≤ b)
  | _ => false
theorem btw_no {a b : Int} {x : V} (h : isI x = false) : btw a b x = false := by
  cases x <;> first | rfl | cases h
theorem int_btw {n s : Nat} (h : s < n) : btw 0 ((n : Int) - 1) (.int (s : Int)) = true := by
  show (decide (0 ≤ (s : Int)) && decide ((s : Int) ≤ (n : Int) - 1)) = true
  rw [Bool.and_eq_true, decide_eq_true_eq, decide_eq_true_eq]
  omega
def spWhole2 (K : PySem.W.Frag) (C CC : Addr) : Sp := fun vs H Q _ => ∃ x, vs = [x] ∧ Th2 K C CC H x ∧ Q (.bl (isI x)) H
def spBetween (K : PySem.W.Frag) (C CC : Addr) : Sp := fun vs H Q _ => ∃ (a b : Int) (x : V), vs = [.int a, .int b, x] ∧ Th2 K C CC H x ∧ Q (.bl (btw a b x)) H
def spIndex (K : PySem.W.Frag) (C CC : Addr) : Sp := fun vs H Q _ => ∃ (n : Int) (x : V), vs = [.int n, x] ∧ Th2 K C CC H x ∧ Q (.bl (btw 0 (n - 1) x)) H
/-- NoState.__init__ -/
def spNS (K : PySem.W.Frag) (B : Addr) : Sp := fun vs H Q _ => ∃ (a : Addr) (y : V), vs = [.ref a, y] ∧ OexC K B ∧ PySem.W.findIn K (.ref B) "state" = some none ∧ H a = some (exo a B none) ∧
  ∀ dx, H dx = none → dx ≠ a → Q .non (upd (upd H dx (exd dx [("state", y)])) a (exo a B (some dx)))
structure NsT (P : Program) (w : World) (K : PySem.W.Frag) (mg : Str → Option Value) (base : Heap) (B : Addr) : Prop where
  O : OexC K B
  nf : PySem.W.findIn K (.ref B) "state" = some none
  gB : mg "NoState" = some (.ref B)
  made : ∃ (fI : Addr) (fd : FuncData), PySem.W.findIn K (.ref B) "__init__" = some (some (.ref fI)) ∧ PySem.W.typeIn K (.ref fI) = some (.type "function") ∧ FnOk P w K mg base CX0 2 fI fd ["self", "state"] (spNS K B) ∧ Binds K fd ["self", "state"] []
theorem ns_end {H : Hp} {a dx : Addr} {p : V} {B : Addr} (ha : H a = none) (hd : (upd H a (exo a B none)) dx = none) (ne : dx ≠ a) :
    Same H (upd (L2.del (upd (upd (upd H a (exo a B none)) dx (exd dx [("state", p)])) a (exo a B (some dx))) a) dx (.xd [("state", p)])) := fun b o h => by
  have nb : b ≠ a := ne_of_none h ha
  have nd : b ≠ dx := fun z => by rw [upd_ne ne] at hd; rw [z, hd] at h; cases h
  rw [upd_ne nd, del_ne nb, upd_ne nb, upd_ne nd, upd_ne nb]
  exact h
/-- check_state(size, x) -/
def spCheck (K : PySem.W.Frag) (C CC B : Addr) : Sp := fun vs H Q E => ∃ (n : Int) (x : V), vs = [.int n, x] ∧ Th2 K C CC H x ∧ ((btw 0 (n - 1) x = true ∧ Q .non H) ∨ (btw 0 (n - 1) x = false ∧ ∀ (d : Addr) (H' : Hp), Same H H' → H' d = some (.xd [("state", x)]) → E (.ref B) (some d) H'))
/-- a def that may raise -/
structure CalX (P : Program) (w : World) (K : PySem.W.Frag) (mg : Str → Option Value) (base : Heap) (k : Nat) (x : Str) (ps : List Str) (sp : Sp) : Prop where
  ex : ∃ (f : Addr) (fd : FuncData), mg x = some (.ref f) ∧ PySem.W.keepIn K (.ref f) = true ∧ FnOk P w K mg base (L2.CX P w) k f fd ps sp ∧ Binds K fd ps []
section
variable {X : Cx} {k : Nat} {ps : List Str} {sp : Sp} {x : Str} {p pos : Pos} {e : Expr} {es : List Expr} {t : TA}
theorem pe_calx (c : CalX X.prog X.w X.K X.mg X.base k x ps sp) (hr : Room k X.A) (hg : Gl X x) (ha : PA X (e :: es) t) (hdb : (x == ("__debug__" : Str)) = false := by decide)
    (he : starEach (e :: es) X.env = (false, eval e X.env) :: starEach es X.env := by rfl) (hpl : (backTo pos (starEach es X.env)).any (·.1) = false := by rfl) :
    PE X (.Call (.Name x p) (e :: es) [] pos) (tCall sp [] E0 t) := by
  obtain ⟨f, fd, hm, hk, F, hb⟩ := c.ex
  exact pe_call F hr hg hm hk hb .nil passX ha hdb he hpl
end
section
variable {P : Program} {w : World} {K : PySem.W.Frag} {mg : Str → Option Value} {base : Heap} {C CC B : Addr}
theorem ok_is_whole2 {f : Addr} {fd : FuncData} (F : Fun K "is_whole" "is_whole" s_is_whole f fd) (T : Bn mg) (I : InsT K C) (J : InsT K CC) : FnOk P w K mg base CX0 1 f fd ["thing"] (spWhole2 K C CC) := by
  refine F.ok sc_is_whole (fun vs H Q E h => ?_) (fun cdv A outer s H vs Q E hr h => ?_)
  · obtain ⟨x, rfl, _⟩ := h
    rfl
  · obtain ⟨x, rfl, h, k⟩ := h
    refine ⟨_, (pss_one (ps_ret (pe_and (pe_callB call_isi (by rfl) T.n_isinstance (by decide +kernel) (pa_cons (pv 0) (pa_cons (pe_bltn (v := .ty "int") rfl T.n_int (by decide +kernel) rfl) pa_nil))) (pe_one (pe_not (pe_callB call_isi (by rfl) T.n_isinstance (by decide +kernel) (pa_cons (pv 0) (pa_cons (pe_bltn (v := .ty "bool") rfl T.n_bool (by decide +kernel) rfl) pa_nil)))))))), ?_⟩
    obtain ⟨t, ty, k1, k2⟩ := h.isInt I J
    have e := isI_IB x
    refine ⟨_, rfl, x, .ty "int", t, _, _, rfl, .ty _, ty, k1, _, rfl, iteB (fun z => ?_) (fun z => ?_)⟩
    · refine ⟨_, rfl, x, .ty "bool", t, _, _, rfl, .ty _, ty, k2, _, rfl, ?_⟩
      rw [z, Bool.true_and] at e
      rw [e]
      exact k
    · rw [z, Bool.false_and] at e
      rw [← e] at k
      exact k
abbrev s_is_between : Stmt := top 10
theorem sc_is_between : FnScope ["least", "most", "thing"] ["least", "most", "thing"] (defScope s_is_between) := ⟨rfl, rfl, rfl, by decide +kernel, rfl, by decide +kernel, by decide +kernel⟩
theorem ok_is_between {f : Addr} {fd : FuncData} (F : Fun K "is_between" "is_between" s_is_between f fd) (c_is_whole : Cal P w K mg base 1 "is_whole" ["thing"] (spWhole2 K C CC)) : FnOk P w K mg base CX0 2 f fd ["least", "most", "thing"] (spBetween K C CC) := by
  refine F.ok sc_is_between (fun vs H Q E h => ?_) (fun cdv A outer s H vs Q E hr h => ?_)
  · obtain ⟨a, b, x, rfl, _⟩ := h
    rfl
  · obtain ⟨a, b, x, rfl, h, k⟩ := h
    refine ⟨_, (pss_one (ps_ret (pe_and (pe_cal c_is_whole (hr.mono (by decide)) rfl (pa_cons (pv 2) pa_nil)) (pe_one (pe_chain op_le op_le (pv 0) (pv 2) (pv 1)))))), ?_⟩
    refine ⟨_, rfl, x, rfl, h, _, rfl, iteB (fun z => ?_) (fun z => ?_)⟩
    · obtain ⟨i, rfl⟩ := isI_int z
      refine ⟨_, rfl, _, rfl, a, i, rfl, rfl, _, rfl, iteB (fun z2 => ?_) (fun z2 => ?_)⟩
      · refine ⟨_, rfl, i, b, rfl, rfl, ?_⟩
        show Q (.bl (decide (i ≤ b))) H
        have k : Q (.bl (decide (a ≤ i) && decide (i ≤ b))) H := k
        rw [z2, Bool.true_and] at k
        exact k
      · have k : Q (.bl (decide (a ≤ i) && decide (i ≤ b))) H := k
        rw [z2, Bool.false_and] at k
        exact k
    · rw [btw_no z] at k
      exact k
abbrev s_is_index : Stmt := top 11
theorem sc_is_index : FnScope ["many", "thing"] ["many", "thing"] (defScope s_is_index) := ⟨rfl, rfl, rfl, by decide +kernel, rfl, by decide +kernel, by decide +kernel⟩
theorem ok_is_index {f : Addr} {fd : FuncData} (F : Fun K "is_index" "is_index" s_is_index f fd) (c_is_between : Cal P w K mg base 2 "is_between" ["least", "most", "thing"] (spBetween K C CC)) : FnOk P w K mg base CX0 3 f fd ["many", "thing"] (spIndex K C CC) := by
  refine F.ok sc_is_index (fun vs H Q E h => ?_) (fun cdv A outer s H vs Q E hr h => ?_)
  · obtain ⟨n, x, rfl, _⟩ := h
    rfl
  · obtain ⟨n, x, rfl, h, k⟩ := h
    refine ⟨_, (pss_one (ps_ret (pe_cal c_is_between (hr.mono (by decide)) rfl (pa_cons pe_int (pa_cons (pe_op op_sub (pv 0) pe_int) (pa_cons (pv 1) pa_nil)))))), ?_⟩
    exact ⟨_, rfl, _, _, rfl, rfl, _, rfl, 0, n - 1, x, rfl, h, k⟩
abbrev s_NS : Stmt := inClass (top 5) 0
theorem sc_NS : FnScope ["self", "state"] ["self", "state"] (defScope s_NS) := ⟨rfl, rfl, rfl, by decide +kernel, rfl, by decide +kernel, by decide +kernel⟩
theorem ok_NS {f g W B : Addr} {mc : Value} {fd fdW : FuncData} (F : Fun K "__init__" "NoState.__init__" s_NS f fd) (gW : mg "WalkError" = some (.ref W)) (c : ClsFn K W mc "__init__" g) (FW : FnOk P w K mg base CX0 1 g fdW ["self", "words"] (spWE K)) (bW : Binds K fdW ["self", "words"] []) :
    FnOk P w K mg base CX0 2 f fd ["self", "state"] (spNS K B) := by
  refine F.ok sc_NS (fun vs H Q E h => ?_) (fun cdv A outer s H vs Q E hr h => ?_)
  · obtain ⟨a, y, rfl, _⟩ := h
    rfl
  · obtain ⟨a, y, rfl, O, nt, ha, k⟩ := h
    refine ⟨_, pss_cons (ps_expr (pe_clsfn c FW hr rfl gW bW pass0 (pa_cons (pv 0) (pa_cons pe_str pa_nil)))) (pss_one (ps_ost (pv 0) (pv 1))), ?_⟩
    exact ⟨_, rfl, a, B, _, rfl, O, ha, _, rfl, _, rfl, a, B, rfl, O, nt, .inl ⟨ha, fun dx hd ne => k dx hd ne⟩⟩
/-- the reading of raise NoState(x) -/
theorem ns_raise {p : V} {H : Hp} {E : XK} (T : NsT P w K mg base B) (k : ∀ (d : Addr) (H' : Hp), Same H H' → H' d = some (.xd [("state", p)]) → E (.ref B) (some d) H') {t : TA} {σ : St} (ht : ∀ Q : List V → Hp → Prop, Q [p] H → t σ H Q) :
    tMkO B (spNS K B) [] t σ H (fun cls d H' => E cls d H') := by
  refine ht _ ⟨by show 1 ≤ 1000; decide, fun a ha => ⟨a, p, rfl, T.O, T.nf, upd_same, fun d hd ne => ⟨rfl, d, [("state", p)], upd_same, ?_, ?_, ?_⟩⟩⟩
  · rw [upd_ne ne, upd_same]
  · rw [upd_ne ne] at hd
    exact hd
  · exact k d _ (ns_end ha hd ne) upd_same
abbrev s_check : Stmt := top 12
theorem sc_check : FnScope ["size", "state"] ["size", "state"] (defScope s_check) := ⟨rfl, rfl, rfl, by decide +kernel, rfl, by decide +kernel, by decide +kernel⟩
theorem ok_check {f : Addr} {fd : FuncData} (F : Fun K "check_state" "check_state" s_check f fd) (c_ix : Cal P w K mg base 3 "is_index" ["many", "thing"] (spIndex K C CC)) (N : NsT P w K mg base B) : FnOk P w K mg base (L2.CX P w) 4 f fd ["size", "state"] (spCheck K C CC B) := by
  obtain ⟨fS, fdS, iS, tS, FS, bS⟩ := id N.made
  refine F.okX sc_check (fun vs H Q E h => ?_) (fun cdv A outer s H vs Q E hr h => ?_)
  · obtain ⟨n, x, rfl, _⟩ := h
    rfl
  · obtain ⟨n, x, rfl, h, k⟩ := h
    refine ⟨_, (pss_one (ps_if (pt_not (pt_val (pe_cal c_ix hr rfl (pa_cons (pv 0) (pa_cons (pv 1) pa_nil)))))
        (pss_one (ps_raise (W := fun cls d _ H => E cls d H) rfl (takes_of rfl rfl rfl rfl) (pmk_oex N.O iS tS FS (hr.mono (by decide)) bS .nil pass0 rfl N.gB (pa_cons (pv 1) pa_nil))))
        pss_nil)), ?_⟩
    refine ⟨_, rfl, _, rfl, n, x, rfl, h, _, rfl, ?_⟩
    rcases k with ⟨e, k⟩ | ⟨e, k⟩
    · rw [e]
      exact iteF k
    · rw [e]
      exact iteT (ns_raise N k fun Q q => ⟨x, rfl, q⟩)
end
end KI
set_option Elab.async false
set_option linter.all false
set_option maxRecDepth 100000
set_option maxHeartbeats 4000000
namespace KI
open PySem L2
abbrev iW (ws : List Nat) : List Int := ws.map fun k : Nat => (k : Int)
/-- weights of a row, long numbers among them -/
def Tpg (n : Nat) (ws : List Nat) : Prop := ws.length = n ∧ 0 < ws.sum ∧ ∀ w ∈ ws, w < 2 ^ 1300
theorem Tps.g {n : Nat} {ws : List Nat} (h : Tps n ws) : Tpg n ws := ⟨h.1, h.2.1, fun w m => Nat.lt_trans (h.2.2 w m) (by decide +kernel)⟩
/-- a row of numbers over their sum -/
def RowIn (C : Addr) (H : Hp) (n : Nat) (r : Addr × List Nat) : Prop := ∃ xs, H r.1 = some (.tup xs) ∧ Nums C (r.2.sum : Int) H xs (iW r.2) ∧ Tpg n r.2
/-- a row of shares -/
def RowSh (C : Addr) (H : Hp) (n : Nat) (r : Addr × List Nat) : Prop := ∃ as : List Addr, H r.1 = some (.tup (as.map V.ref)) ∧ as.length = n ∧ Tpg n r.2 ∧
  ∀ (i : Nat) (a : Addr), as[i]? = some a → ∃ (dx : Addr) (w : Nat), r.2[i]? = some w ∧ H a = some (.ins C dx (shF (lowT (w : Int) (r.2.sum : Int)) (lowB (w : Int) (r.2.sum : Int))))
theorem RowIn.same {C : Addr} {H H' : Hp} {n : Nat} {r : Addr × List Nat} (h : RowIn C H n r) (s : Same H H') : RowIn C H' n r := by
  obtain ⟨xs, h1, h2, h3⟩ := h
  exact ⟨xs, s _ _ h1, h2.same s, h3⟩
theorem RowSh.same {C : Addr} {H H' : Hp} {n : Nat} {r : Addr × List Nat} (h : RowSh C H n r) (s : Same H H') : RowSh C H' n r := by
  obtain ⟨as, h1, h2, h3, h4⟩ := h
  exact ⟨as, s _ _ h1, h2, h3, fun i a e => let ⟨dx, w, q1, q2⟩ := h4 i a e; ⟨dx, w, q1, s _ _ q2⟩⟩
theorem refs_at {as : List Addr} {i : Nat} {x : V} (h : (as.map V.ref)[i]? = some x) : ∃ a, as[i]? = some a ∧ x = .ref a := by
  rw [List.getElem?_map] at h
  cases e : as[i]? with
  | none => rw [e] at h; cases h
  | some a => rw [e] at h; exact ⟨a, rfl, (Option.some.inj h).symm⟩
theorem RowSh.inn {C : Addr} {H : Hp} {n : Nat} {r : Addr × List Nat} (h : RowSh C H n r) : RowIn C H n r := by
  obtain ⟨as, h1, h2, h3, h4⟩ := h
  refine ⟨_, h1, ⟨by rw [List.length_map, List.length_map, h2, h3.1], fun i x e => ?_⟩, h3⟩
  obtain ⟨a, ha, rfl⟩ := refs_at e
  obtain ⟨dx, w, q1, q2⟩ := h4 i a ha
  exact ⟨(w : Int), by rw [List.getElem?_map, q1]; rfl, .inr ⟨a, dx, rfl, q2⟩⟩
theorem RowSh.keep {C p : Addr} {H H' : Hp} {n : Nat} {r : Addr × List Nat} (h : RowSh C H n r) (k : Keep p H H') (hp : PoolAt H p) : RowSh C H' n r := by
  obtain ⟨as, h1, h2, h3, h4⟩ := h
  exact ⟨as, k _ _ h1 (hp.ne h1), h2, h3, fun i a e => let ⟨dx, w, q1, q2⟩ := h4 i a e; ⟨dx, w, q1, k _ _ q2 (hp.nei q2)⟩⟩
theorem sum_le {b : Nat} : ∀ l : List Nat, (∀ w ∈ l, w ≤ b) → l.sum ≤ l.length * b
  | [], _ => by simp
  | x :: l, h => by
    have := sum_le l fun w m => h w (List.mem_cons_of_mem _ m)
    have := h x List.mem_cons_self
    rw [List.sum_cons, List.length_cons, Nat.succ_mul]
    omega
theorem tpg_sum {n : Nat} {ws : List Nat} (h : Tpg n ws) (n8 : n ≤ 8) : ws.sum ≤ 8 * 2 ^ 1300 := by
  have := sum_le ws fun w m => Nat.le_of_lt (h.2.2 w m)
  rw [h.1] at this
  exact Nat.le_trans this (Nat.mul_le_mul_right _ n8)
theorem tps_low {n : Nat} {ws : List Nat} (h : Tpg n ws) (n8 : n ≤ 8) : 0 < (ws.sum : Int) ∧ ((ws.sum : Int)).natAbs < 2 ^ 4000 ∧ ∀ w ∈ ws, ((w : Int)).natAbs < 2 ^ 3000 := by
  have s1 := tpg_sum h n8
  refine ⟨by have := h.2.1; omega, ?_, fun w m => ?_⟩
  · rw [Int.natAbs_natCast]
    exact Nat.lt_of_le_of_lt s1 (by decide +kernel)
  · rw [Int.natAbs_natCast]
    exact Nat.lt_trans (h.2.2 w m) (by decide +kernel)
def spSharesOf (C : Addr) : Sp := fun vs H Q _ => ∃ (b : Addr) (n : Nat) (ws : List Nat), vs = [.ref b] ∧ n ≤ 8 ∧ RowIn C H n (b, ws) ∧ ∀ (t : Addr) (H' : Hp), Same H H' → RowSh C H' n (t, ws) → Q (.ref t) H'
section
variable {P : Program} {w : World} {K : PySem.W.Frag} {mg : Str → Option Value} {base : Heap} {C CC B : Addr}
abbrev s_shares_of : Stmt := top 23
theorem sc_shares_of : FnScope ["row", "part"] ["row"] (defScope s_shares_of) := ⟨rfl, rfl, rfl, by decide +kernel, rfl, by decide +kernel, by decide +kernel⟩
theorem ok_shares_of {f : Addr} {fd : FuncData} (F : Fun K "shares_of" "shares_of" s_shares_of f fd) (T : Bm mg) (c_of : Cal P w K mg base 6 "share_of" ["thing"] (spShareOf C)) : FnOk P w K mg base CX0 7 f fd ["row"] (spSharesOf C) := by
  refine F.ok sc_shares_of (fun vs H Q E h => ?_) (fun cdv A outer s H vs Q E hr h => ?_)
  · obtain ⟨b, n, ws, rfl, _⟩ := h
    rfl
  · obtain ⟨b, n, ws, rfl, n8, ⟨xs, eb, nu, tp⟩, k⟩ := h
    refine ⟨_, (pss_one (ps_ret (pe_callTy call_tuple_of (by rfl) T.n_tuple (by decide +kernel) (pa_cons (pe_lc (own := [("part", 1)]) rfl sc_shares_of.nd (pi_tup (pv 0)) (blkOk_by (N := ["row", "part"]) (sc := defScope s_shares_of) (by decide +kernel)) (fun _ _ _ _ _ => (pg_name (i := 1) sc_shares_of.nd rfl (Or.inl rfl))) (fun _ _ _ _ _ => pts_nil) (fun _ _ _ _ _ => (pe_cal c_of (hr.mono (by decide)) rfl (pa_cons (pv 1) pa_nil)))) pa_nil)))), ?_⟩
    have eb : H b = some (.tup xs) := eb
    have lx : xs.length = n := by rw [nu.1, List.length_map, tp.1]
    refine ⟨_, rfl, b, rfl, ⟨_, SqT.of eb⟩, fun D nD => ?_⟩
    refine lc_tup (K := K) (a := b) (xs := xs) (fun i H' => Same H H' ∧ ∃ as : List Addr, H' D = some (.lst (as.map V.ref)) ∧ as.length = i ∧
      ∀ (j : Nat) (a : Addr), as[j]? = some a → ∃ (dx : Addr) (w : Nat), ws[j]? = some w ∧ H' a = some (.ins C dx (shF (lowT (w : Int) (ws.sum : Int)) (lowB (w : Int) (ws.sum : Int))))) ⟨Same.put nD, [], upd_same, rfl, fun j a e => by simp at e⟩ (fun i H' _ h => SqT.of (h.1 _ _ eb)) ?_ ?_
    · rintro i x H' hx ⟨s1, as, eD, la, fa⟩
      obtain ⟨S, hS, nx⟩ := (nu.same s1).2 i x hx
      obtain ⟨w, hw, rfl⟩ : ∃ w, ws[i]? = some w ∧ S = (w : Int) := by
        have hS : (ws.map fun k : Nat => (k : Int))[i]? = some S := hS
        rw [List.getElem?_map] at hS
        cases e : ws[i]? with
        | none => rw [e] at hS; cases hS
        | some w => rw [e] at hS; exact ⟨w, rfl, (Option.some.inj hS).symm⟩
      have il := (List.getElem?_eq_some_iff.mp hx).1
      refine ⟨rfl, yes_of ?_⟩
      refine ⟨_, rfl, x, _, _, rfl, nx, fun a dx H2 s2 ea => ?_⟩
      have aD : ∀ {c dy : Addr} {fs : List (Str × V)}, H2 c = some (.ins C dy fs) → c ≠ D := fun e z => by
        rw [z, s2 _ _ eD] at e
        cases e
      refine ⟨_, s2 _ _ eD, by rw [List.length_map]; exact small_len (by omega), Same.but (fun b u e => s2 _ _ (s1 _ _ e)) nD, as ++ [a], by rw [upd_same, List.map_append]; rfl, by rw [List.length_append, la]; rfl, fun j c hc => ?_⟩
      rcases Nat.lt_or_ge j as.length with h | h
      · rw [List.getElem?_append_left h] at hc
        obtain ⟨dy, v, q1, q2⟩ := fa j c hc
        exact ⟨dy, v, q1, by rw [upd_ne (aD (s2 _ _ q2))]; exact s2 _ _ q2⟩
      · rw [List.getElem?_append_right h] at hc
        have hz : j - as.length = 0 := by
          have := (List.getElem?_eq_some_iff.mp hc).1
          simpa using this
        rw [hz] at hc
        have e : a = c := by simpa using hc
        have ej : j = i := by omega
        rw [← e, ej]
        exact ⟨dx, w, hw, by rw [upd_ne (aD ea)]; exact ea⟩
    · rintro H1 ⟨s1, as, eD, la, fa⟩
      refine ⟨D, _, rfl, .inl ⟨SqL.of eD, fun t nt => ?_⟩⟩
      have st := Same.put (o := .tup (as.map V.ref)) nt
      exact k t _ (s1.trans st) ⟨as, upd_same, by omega, tp, fun j c hc => let ⟨dx, w, q1, q2⟩ := fa j c hc; ⟨dx, w, q1, st _ _ q2⟩⟩
end
/-! ### chains -/
theorem nSR : ¬ (("size" : Str) = "_rows") := by decide +kernel
theorem nSL : ¬ (("size" : Str) = "_labels") := by decide +kernel
theorem nRL : ¬ (("_rows" : Str) = "_labels") := by decide +kernel
def chF (n : Nat) (T lb : Addr) : List (Str × V) := putF "_labels" (.ref lb) (putF "_rows" (.ref T) (putF "size" (.int (n : Int)) []))
theorem chF_size (n : Nat) (T lb : Addr) : (chF n T lb).lookup ("size" : Str) = some (.int (n : Int)) := by
  unfold chF
  rw [lookup_putF, if_neg nSL, lookup_putF, if_neg nSR, lookup_putF, if_pos rfl]
theorem chF_rows (n : Nat) (T lb : Addr) : (chF n T lb).lookup ("_rows" : Str) = some (.ref T) := by
  unfold chF
  rw [lookup_putF, if_neg nRL, lookup_putF, if_pos rfl]
theorem chF_labels (n : Nat) (T lb : Addr) : (chF n T lb).lookup ("_labels" : Str) = some (.ref lb) := by
  unfold chF
  rw [lookup_putF, if_pos rfl]
theorem chF_none (n : Nat) (T lb : Addr) {m : Str} (h1 : ¬ m = "_labels") (h2 : ¬ m = "_rows") (h3 : ¬ m = "size") : (chF n T lb).lookup m = none := by
  unfold chF
  rw [lookup_putF, if_neg h1, lookup_putF, if_neg h2, lookup_putF, if_neg h3]
  rfl
/-- a chain of these rows and labels -/
def IsCh (C CC : Addr) (H : Hp) (o : Addr) (n : Nat) (rws : List (List Nat)) (ls : List Str) : Prop := ∃ (dx T lb : Addr) (rs : List (Addr × List Nat)), H o = some (.ins CC dx (chF n T lb)) ∧ H T = some (.tup (rfs rs)) ∧ rs.length = n ∧ (∀ r ∈ rs, RowSh C H n r) ∧ rs.map (·.2) = rws ∧ H lb = some (.tup (sV ls)) ∧ Lbs n ls
theorem IsCh.same {C CC : Addr} {H H' : Hp} {o : Addr} {n : Nat} {rws : List (List Nat)} {ls : List Str} (h : IsCh C CC H o n rws ls) (s : Same H H') : IsCh C CC H' o n rws ls := by
  obtain ⟨dx, T, lb, rs, h1, h2, h3, h4, h5, h6, h7⟩ := h
  exact ⟨dx, T, lb, rs, s _ _ h1, s _ _ h2, h3, fun r m => (h4 r m).same s, h5, s _ _ h6, h7⟩
theorem IsCh.keep {C CC p : Addr} {H H' : Hp} {o : Addr} {n : Nat} {rws : List (List Nat)} {ls : List Str} (h : IsCh C CC H o n rws ls) (k : Keep p H H') (hp : PoolAt H p) : IsCh C CC H' o n rws ls := by
  obtain ⟨dx, T, lb, rs, h1, h2, h3, h4, h5, h6, h7⟩ := h
  exact ⟨dx, T, lb, rs, k _ _ h1 (hp.nei h1), k _ _ h2 (hp.ne h2), h3, fun r m => (h4 r m).keep k hp, h5, k _ _ h6 (hp.ne h6), h7⟩
structure ChT (K : PySem.W.Frag) (mg : Str → Option Value) (CC : Addr) : Prop where
  it : InsT K CC
  nS : NoAttr K CC "size"
  nR : NoAttr K CC "_rows"
  nL : NoAttr K CC "_labels"
  gC : mg "Chain" = some (.ref CC)
  gM : ∃ t, mg "MOST_STATES" = some (.int 8 t)
/-- Chain.__init__(rows, labels) -/
def spCI (C CC : Addr) : Sp := fun vs H Q _ => ∃ (x dx T lb : Addr) (n : Nat) (rs : List (Addr × List Nat)) (ls : List Str), vs = [.ref x, .ref T, .ref lb] ∧ H x = some (.ins CC dx []) ∧ 1 ≤ n ∧ n ≤ 8 ∧ H T = some (.tup (rfs rs)) ∧ rs.length = n ∧ (∀ r ∈ rs, RowIn C H n r) ∧ H lb = some (.tup (sV ls)) ∧ Lbs n ls ∧
  ∀ (T2 : Addr) (rs2 : List (Addr × List Nat)) (H2 : Hp), Same H H2 → H2 T2 = some (.tup (rfs rs2)) → rs2.length = n → (∀ r ∈ rs2, RowSh C H2 n r) → rs2.map (·.2) = rs.map (·.2) → Q .non (upd H2 x (.ins CC dx (chF n T2 lb)))
end KI
set_option Elab.async false
set_option linter.all false
set_option maxRecDepth 100000
set_option maxHeartbeats 4000000
namespace KI
open PySem L2
theorem all_true (n : Nat) : (List.replicate n true).all id = true := List.all_eq_true.mpr fun b m => List.eq_of_mem_replicate m
theorem refs_rep {i : Nat} : (List.replicate i true).map V.bl ++ [V.bl true] = (List.replicate (i + 1) true).map V.bl := by
  rw [List.replicate_succ', List.map_append]
  rfl
theorem spr_ok {ws : List Nat} : sprB (ws.sum : Int) (ws.map fun k : Nat => some (k : Int)) = true := by
  unfold sprB
  rw [Bool.and_eq_true]
  refine ⟨List.all_eq_true.mpr fun b m => ?_, decide_eq_true ?_⟩
  · rw [List.map_map] at m
    obtain ⟨k, _, rfl⟩ := List.mem_map.mp m
    show decide ((0 : Int) ≤ (k : Int)) = true
    exact decide_eq_true (by omega)
  · rw [List.map_map]
    exact sum_ints ws
theorem items_of {K : PySem.W.Frag} {C : Addr} {H : Hp} {n : Nat} {ws : List Nat} {xs : List V} (h : Nums C (ws.sum : Int) H xs (iW ws)) (t : Tpg n ws) : Items K C (ws.sum : Int) H xs (ws.map fun k : Nat => some (k : Int)) := by
  refine ⟨by rw [h.1, List.length_map, List.length_map], fun i x e => ?_⟩
  obtain ⟨S, hS, nx⟩ := h.2 i x e
  have hS : (ws.map fun k : Nat => (k : Int))[i]? = some S := hS
  rw [List.getElem?_map] at hS
  cases q : ws[i]? with
  | none => rw [q] at hS; cases hS
  | some w =>
    rw [q] at hS
    cases Option.some.inj hS
    refine ⟨some (w : Int), by rw [List.getElem?_map, q]; rfl, nx, ?_⟩
    rw [Int.natAbs_natCast]
    exact Nat.lt_trans (t.2.2 w (List.mem_of_getElem? q)) (by decide +kernel)
theorem shF_top' (t n : Int) : (shF t n).lookup ("top" : Str) = some (.int t) := by
  unfold shF
  rw [lookup_putF, if_neg (by decide +kernel), lookup_putF, if_pos rfl]
theorem RowIn.upx {C CC x dx : Addr} {H : Hp} {fs : List (Str × V)} {n : Nat} {r : Addr × List Nat} {o : HO} (h : RowIn C H n r) (ex : H x = some (.ins CC dx fs)) (nf : fs.lookup ("top" : Str) = none) : RowIn C (upd H x o) n r := by
  obtain ⟨xs, h1, h2, h3⟩ := h
  refine ⟨xs, by rw [upd_ne (fun z => by rw [z, ex] at h1; cases h1)]; exact h1, ⟨h2.1, fun i v e => ?_⟩, h3⟩
  obtain ⟨S, e2, nx⟩ := h2.2 i v e
  refine ⟨S, e2, ?_⟩
  rcases nx with nx | ⟨a, dy, e3, nx⟩
  · exact .inl nx
  · refine .inr ⟨a, dy, e3, ?_⟩
    rw [upd_ne (fun z => ?_)]
    · exact nx
    · rw [z, ex] at nx
      have e4 := HO.ins.inj (Option.some.inj nx)
      rw [e4.2.2, shF_top'] at nf
      cases nf
theorem RowSh.upx {C CC x dx : Addr} {H : Hp} {fs : List (Str × V)} {n : Nat} {r : Addr × List Nat} {o : HO} (h : RowSh C H n r) (ex : H x = some (.ins CC dx fs)) (nf : fs.lookup ("top" : Str) = none) : RowSh C (upd H x o) n r := by
  obtain ⟨as, h1, h2, h3, h4⟩ := h
  refine ⟨as, by rw [upd_ne (fun z => by rw [z, ex] at h1; cases h1)]; exact h1, h2, h3, fun i a e => ?_⟩
  obtain ⟨dy, w, q1, q2⟩ := h4 i a e
  refine ⟨dy, w, q1, ?_⟩
  rw [upd_ne (fun z => ?_)]
  · exact q2
  · rw [z, ex] at q2
    have e4 := HO.ins.inj (Option.some.inj q2)
    rw [e4.2.2, shF_top'] at nf
    cases nf
section
variable {P : Program} {w : World} {K : PySem.W.Frag} {mg : Str → Option Value} {base : Heap} {C CC B : Addr}
abbrev s_CI : Stmt := inClass (top 29) 0
abbrev nCI : List Str := ["self", "rows", "labels", "row", "label"]
theorem sc_CI : FnScope nCI ["self", "rows", "labels"] (defScope s_CI) := ⟨rfl, rfl, rfl, by decide +kernel, rfl, by decide +kernel, by decide +kernel⟩
abbrev XCI (P : Program) (w : World) (K : PySem.W.Frag) (mg : Str → Option Value) (base : Heap) (f : Addr) (cdv : Value) (A : Around) (outer : List Env) (s : Shared) (H : Hp) (E : XK) : Cx :=
  (cxOf CX0 P w K mg base nCI "Chain.__init__" (defScope s_CI) f cdv A outer s H E).nox
/-- the fields -/
theorem segCI3 {f : Addr} {cdv : Value} {A : Around} {outer : List Env} {s : Shared} {H : Hp} {E : XK} {Q : VK} (T : Bm mg) (t : ChT K mg CC) (c_sh : Cal P w K mg base 7 "shares_of" ["row"] (spSharesOf C)) (hr : Room 7 (XCI P w K mg base f cdv A outer s H E).A) :
    ∃ u, PSs (XCI P w K mg base f cdv A outer s H E) ((defBody s_CI).drop 2) u ∧ ∀ (x dx T0 lb : Addr) (n : Nat) (rs : List (Addr × List Nat)) (G : Hp), G x = some (.ins CC dx []) → n ≤ 8 → G T0 = some (.tup (rfs rs)) → rs.length = n → (∀ r ∈ rs, RowIn C G n r) →
      (∀ (T2 : Addr) (rs2 : List (Addr × List Nat)) (H2 : Hp), Same G H2 → H2 T2 = some (.tup (rfs rs2)) → rs2.length = n → (∀ r ∈ rs2, RowSh C H2 n r) → rs2.map (·.2) = rs.map (·.2) → Q .non (upd H2 x (.ins CC dx (chF n T2 lb)))) →
      u { nx := fun _ H' => Q .non H', rt := Q } [some (.ref x), some (.ref T0), some (.ref lb), none, none] G := by
  refine ⟨_, (pss_cons (ps_fld (pv 0) (pe_callB call_len_seq (by rfl) T.b.n_len PySem.boot_len (pa_cons (pv 1) pa_nil)) rfl)
    (pss_cons (ps_fld (pv 0) (pe_callTy call_tuple_of (by rfl) T.n_tuple (by decide +kernel) (pa_cons (pe_lc (own := [("row", 3)]) rfl sc_CI.nd (pi_tup (pv 1)) (blkOk_by (N := nCI) (sc := defScope s_CI) (by decide +kernel)) (fun _ _ _ _ _ => (pg_name (i := 3) sc_CI.nd rfl (Or.inl rfl))) (fun _ _ _ _ _ => pts_nil) (fun _ _ _ _ _ => (pe_cal c_sh (hr.mono (by decide)) rfl (pa_cons (pv 3) pa_nil)))) pa_nil)) rfl)
    (pss_one (ps_fld (pv 0) (pv 2) rfl)))), ?_⟩
  intro x dx T0 lb n rs G ex n8 eT lr rw_ k
  refine ⟨_, rfl, T0, _, rfl, .inr (SqT.of eT), ?_⟩
  rw [rfs_len, lr]
  refine ⟨_, rfl, x, CC, dx, [], rfl, ex, t.it.cl, t.nS, by show 0 < 1000; decide, ?_⟩
  have eT1 : (upd G x (.ins CC dx (putF "size" (.int (n : Int)) []))) T0 = some (.tup (rfs rs)) := by rw [upd_ne (fun z => by rw [z, ex] at eT; cases eT)]; exact eT
  have rw1 : ∀ r ∈ rs, RowIn C (upd G x (.ins CC dx (putF "size" (.int (n : Int)) []))) n r := fun r m => (rw_ r m).upx ex rfl
  have ex1 : (upd G x (.ins CC dx (putF "size" (.int (n : Int)) []))) x = some (.ins CC dx (putF "size" (.int (n : Int)) [])) := upd_same
  refine ⟨_, rfl, T0, rfl, ⟨_, SqT.of eT1⟩, fun D nD => ?_⟩
  have nDG : G D = none := by
    by_cases e : D = x
    · rw [e, ex1] at nD; cases nD
    · rw [upd_ne e] at nD; exact nD
  have xD : x ≠ D := fun z => by rw [z, nDG] at ex; cases ex
  refine lc_tup (K := K) (a := T0) (xs := rfs rs) (fun i H' => Same (upd G x (.ins CC dx (putF "size" (.int (n : Int)) []))) H' ∧ ∃ r2 : List (Addr × List Nat), H' D = some (.lst (rfs r2)) ∧ r2.length = i ∧ (∀ r ∈ r2, RowSh C H' n r) ∧ r2.map (·.2) = (rs.take i).map (·.2)) ⟨Same.put nD, [], upd_same, rfl, fun _ m => (by cases m), rfl⟩ (fun i H' _ h => SqT.of (h.1 _ _ eT1)) ?_ ?_
  · rintro i y H' hy ⟨s1, r2, eD, l2, h2, q2⟩
    obtain ⟨r, hr2, mr, rfl⟩ := rfs_at hy
    have il := (List.getElem?_eq_some_iff.mp hr2).1
    refine ⟨rfl, yes_of ?_⟩
    refine ⟨_, rfl, r.1, n, r.2, rfl, n8, (rw1 r mr).same s1, fun t2 H3 s3 sh => ?_⟩
    have up : ∀ (q : Addr × List Nat), RowSh C H3 n q → RowSh C (upd H3 D (.lst (rfs r2 ++ [V.ref t2]))) n q := by
      rintro q ⟨as, h1, h2', h3, h4⟩
      have e3 := s3 _ _ eD
      exact ⟨as, by rw [upd_ne (fun z => by rw [z, e3] at h1; cases h1)]; exact h1, h2', h3, fun j c hc => let ⟨dy, v, q1, q2⟩ := h4 j c hc; ⟨dy, v, q1, by rw [upd_ne (fun z => by rw [z, e3] at q2; cases q2)]; exact q2⟩⟩
    refine ⟨_, s3 _ _ eD, by rw [rfs_len]; exact small_len (by omega), Same.but (fun b u e => s3 _ _ (s1 _ _ e)) nD, r2 ++ [(t2, r.2)], by rw [upd_same, rfs_snoc], by rw [List.length_append, l2]; rfl, fun q m => ?_, ?_⟩
    · rcases List.mem_append.mp m with m | m
      · exact up q ((h2 q m).same s3)
      · rw [List.mem_singleton.mp m]; exact up _ sh
    · rw [List.map_append, q2, take_more hr2, List.map_append]
      rfl
  · rintro H2 ⟨s2, r2, eD, l2, h2, q2⟩
    rw [rfs_len] at l2 q2
    rw [List.take_length] at q2
    refine ⟨D, _, rfl, .inl ⟨SqL.of eD, fun T2 nT2 => ?_⟩⟩
    have sT := Same.put (o := .tup (rfs r2)) nT2
    have eT2 : (upd H2 T2 (.tup (rfs r2))) T2 = some (.tup (rfs r2)) := upd_same
    have ex2 := sT _ _ (s2 _ _ ex1)
    have xT2 : T2 ≠ x := fun z => by rw [z, s2 _ _ ex1] at nT2; cases nT2
    refine ⟨_, rfl, x, CC, dx, _, rfl, ex2, t.it.cl, t.nR, by show 1 < 1000; decide, ?_⟩
    refine ⟨_, rfl, _, rfl, x, CC, dx, _, rfl, upd_same, t.it.cl, t.nL, by show 2 < 1000; decide, ?_⟩
    rw [upd_upd]
    -- the heap without the fields: as it stood before
    have sG : Same G (upd (upd H2 T2 (.tup (rfs r2))) x (.ins CC dx [])) := fun b u e => by
      by_cases q : b = x
      · subst q
        rw [upd_same]
        rw [ex] at e
        exact e
      · rw [upd_ne q]
        exact sT _ _ (s2 _ _ (by rw [upd_ne q]; exact e))
    have kk := k T2 r2 _ sG (by rw [upd_ne xT2]; exact eT2) (by omega) (fun r m => ((h2 r m).same sT).upx ex2 rfl) q2
    rw [upd_upd] at kk
    exact kk
/-- is_tuple_between(least, most, thing), of a tuple that is so -/
def spTupBet : Sp := fun vs H Q _ => ∃ (l m : Int) (t : Addr) (xs : List V), vs = [.int l, .int m, .ref t] ∧ H t = some (.tup xs) ∧ l ≤ (xs.length : Int) ∧ (xs.length : Int) ≤ m ∧ Q (.bl true) H
/-- is_name_row(many, thing), of a tuple of so many names -/
def spNameRow : Sp := fun vs H Q _ => ∃ (lb : Addr) (ls : List Str) (n : Nat), vs = [.int (n : Int), .ref lb] ∧ H lb = some (.tup (sV ls)) ∧ Lbs n ls ∧ ls.length ≤ 8 ∧ ∀ H', Same H H' → Q (.bl true) H'
abbrev s_tupBet : Stmt := top 15
theorem sc_tupBet : FnScope ["least", "most", "thing"] ["least", "most", "thing"] (defScope s_tupBet) := ⟨rfl, rfl, rfl, by decide +kernel, rfl, by decide +kernel, by decide +kernel⟩
theorem ok_tupBet {f : Addr} {fd : FuncData} (F : Fun K "is_tuple_between" "is_tuple_between" s_tupBet f fd) (T : Bm mg) : FnOk P w K mg base CX0 1 f fd ["least", "most", "thing"] spTupBet := by
  refine F.ok sc_tupBet (fun vs H Q E h => ?_) (fun cdv A outer s H vs Q E hr h => ?_)
  · obtain ⟨l, m, t, xs, rfl, _⟩ := h
    rfl
  · obtain ⟨l, m, t, xs, rfl, e, h1, h2, k⟩ := h
    refine ⟨_, (pss_one (ps_ret (pe_and (pe_callB call_isi (by rfl) T.b.n_isinstance (by decide +kernel) (pa_cons (pv 2) (pa_cons (pe_bltn (v := .ty "tuple") rfl T.n_tuple (by decide +kernel) rfl) pa_nil))) (pe_one (pe_chain op_le op_le (pv 0) (pe_callB call_len_seq (by rfl) T.b.n_len PySem.boot_len (pa_cons (pv 2) pa_nil)) (pv 1)))))), ?_⟩
    refine ⟨_, rfl, .ref t, .ty "tuple", _, _, true, rfl, .ty _, .base (.tup e), kit_ty (r := true) (by decide +kernel), _, rfl, iteT ?_⟩
    refine ⟨_, rfl, _, rfl, t, xs, rfl, .inr (SqT.of e), l, _, rfl, rfl, ?_⟩
    refine ⟨true, congrArg V.bl (decide_eq_true h1), iteT ⟨_, rfl, (xs.length : Int), m, rfl, rfl, ?_⟩⟩
    show Q (.bl (decide ((xs.length : Int) ≤ m))) H
    rw [decide_eq_true h2]
    exact k
abbrev s_nameRow : Stmt := top 16
theorem sc_nameRow : FnScope ["many", "thing", "part"] ["many", "thing"] (defScope s_nameRow) := ⟨rfl, rfl, rfl, by decide +kernel, rfl, by decide +kernel, by decide +kernel⟩
theorem ok_nameRow {f : Addr} {fd : FuncData} (F : Fun K "is_name_row" "is_name_row" s_nameRow f fd) (T : Bm mg) (c_tup : Cal P w K mg base 1 "is_tuple_of" ["many", "thing"] (spTupOf K C)) (c_name : Cal P w K mg base 1 "is_name" ["thing"] spIsName) : FnOk P w K mg base CX0 2 f fd ["many", "thing"] spNameRow := by
  refine F.ok sc_nameRow (fun vs H Q E h => ?_) (fun cdv A outer s H vs Q E hr h => ?_)
  · obtain ⟨lb, ls, n, rfl, _⟩ := h
    rfl
  · obtain ⟨lb, ls, n, rfl, el1, ⟨ll, nl⟩, l8, k⟩ := h
    refine ⟨_, (pss_one (ps_ret (pe_and (pe_cal c_tup (hr.mono (by decide)) rfl (pa_cons (pv 0) (pa_cons (pv 1) pa_nil))) (pe_one (pe_callB (cr_all rfl) (by rfl) T.n_all PyProof.Rows.boot_all (pa_cons (pe_lc (own := [("part", 2)]) rfl sc_nameRow.nd (pi_tup (pv 1)) (blkOk_by (N := ["many", "thing", "part"]) (sc := defScope s_nameRow) (by decide +kernel)) (fun _ _ _ _ _ => (pg_name (i := 2) sc_nameRow.nd rfl (Or.inl rfl))) (fun _ _ _ _ _ => pts_nil) (fun _ _ _ _ _ => (pe_cal c_name (hr.mono (by decide)) rfl (pa_cons (pv 2) pa_nil)))) pa_nil)))))), ?_⟩
    refine ⟨_, rfl, _, rfl, _, .ref lb, rfl, .inl ⟨lb, _, rfl, el1, true, congrArg V.bl (decide_eq_true (by rw [sV_len, ll])), iteT ?_⟩⟩
    refine ⟨_, rfl, lb, rfl, ⟨_, SqT.of el1⟩, fun G nG => ?_⟩
    refine lc_tup (K := K) (a := lb) (xs := sV ls) (fun i H' => Same H H' ∧ H' G = some (.lst ((List.replicate i true).map V.bl))) ⟨Same.put nG, upd_same⟩ (fun i H' _ h => SqT.of (h.1 _ _ el1)) ?_ ?_
    · rintro i y H' hy ⟨s2, eG⟩
      obtain ⟨z, hz, rfl⟩ : ∃ z, ls[i]? = some z ∧ y = .str z := by
        rw [sV, List.getElem?_map] at hy
        cases e : ls[i]? with
        | none => rw [e] at hy; cases hy
        | some z => rw [e] at hy; exact ⟨z, rfl, (Option.some.inj hy).symm⟩
      have il := (List.getElem?_eq_some_iff.mp hz).1
      refine ⟨rfl, yes_of ?_⟩
      refine ⟨_, rfl, z, rfl, nl z (List.mem_of_getElem? hz), fun H3 s3 => ?_⟩
      refine ⟨_, s3 _ _ eG, by rw [List.length_map, List.length_replicate]; exact small_len (by omega), Same.but (fun b u e => s3 _ _ (s2 _ _ e)) nG, ?_⟩
      rw [upd_same, refs_rep]
    rintro H2 ⟨s2, eG⟩
    refine ⟨G, _, rfl, SqL.of eG, ?_⟩
    rw [all_true]
    exact k H2 s2
theorem ok_CI {f : Addr} {fd : FuncData} (F : Fun K "__init__" "Chain.__init__" s_CI f fd) (T : Bm mg) (t : ChT K mg CC) (c_spread : Cal P w K mg base 11 "is_spread" ["many", "thing"] (spSpread K C)) (c_bet : Cal P w K mg base 1 "is_tuple_between" ["least", "most", "thing"] spTupBet) (c_nr : Cal P w K mg base 2 "is_name_row" ["many", "thing"] spNameRow) (c_sh : Cal P w K mg base 7 "shares_of" ["row"] (spSharesOf C)) : FnOk P w K mg base CX0 12 f fd ["self", "rows", "labels"] (spCI C CC) := by
  obtain ⟨tM, gM⟩ := t.gM
  refine F.ok sc_CI (fun vs H Q E h => ?_) (fun cdv A outer s H vs Q E hr h => ?_)
  · obtain ⟨x, dx, T0, lb, n, rs, ls, rfl, _⟩ := h
    rfl
  · obtain ⟨x, dx, T0, lb, n, rs, ls, rfl, ex, n1, n8, eT, lr, rw_, el, ⟨ll, nl⟩, k⟩ := h
    obtain ⟨u, hu, qu⟩ := segCI3 (P := P) (w := w) (K := K) (mg := mg) (base := base) (C := C) (f := f) (cdv := cdv) (A := A) (outer := outer) (s := s) (H := H) (E := E) (Q := Q) T t c_sh (hr.mono (by decide))
    refine ⟨_, (pss_cons (ps_if (PW.pt (pw_or (pt_not (pt_val (pe_cal c_bet (hr.mono (by decide)) rfl (pa_cons pe_int (pa_cons (pe_glob (v := .int 8) rfl gM ⟨_, rfl⟩) (pa_cons (pv 1) pa_nil)))))) (pw_or1 (pt_not (pt_val (pe_callB (cr_all rfl) (by rfl) T.n_all PyProof.Rows.boot_all (pa_cons (pe_lc (own := [("row", 3)]) rfl sc_CI.nd (pi_tup (pv 1)) (blkOk_by (N := nCI) (sc := defScope s_CI) (by decide +kernel)) (fun _ _ _ _ _ => (pg_name (i := 3) sc_CI.nd rfl (Or.inl rfl))) (fun _ _ _ _ _ => pts_nil) (fun _ _ _ _ _ => (pe_cal c_spread (hr.mono (by decide)) rfl (pa_cons (pe_callB (show CallR _ _ (fun xs H Q => ∃ p ys, xs = [.ref p] ∧ (SqL K H p ys ∨ SqT K H p ys) ∧ Q (.int ys.length) H) from call_len_seq) (by rfl) T.b.n_len PySem.boot_len (pa_cons (pv 1) pa_nil)) (pa_cons (pv 3) pa_nil))))) pa_nil)))))))
        pss_never
        pss_nil)
      (pss_cons (ps_if (pt_not (pt_val (pe_cal c_nr (hr.mono (by decide)) rfl (pa_cons (pe_callB call_len_seq (by rfl) T.b.n_len PySem.boot_len (pa_cons (pv 1) pa_nil)) (pa_cons (pv 2) pa_nil)))))
        pss_never
        pss_nil) hu)), ?_⟩
    refine ⟨_, rfl, 1, 8, T0, _, rfl, eT, by rw [rfs_len]; omega, by rw [rfs_len]; omega, true, rfl, iteF ?_⟩
    -- the rows are spreads
    refine ⟨_, rfl, T0, rfl, ⟨_, SqT.of eT⟩, fun D nD => ?_⟩
    refine lc_tup (K := K) (a := T0) (xs := rfs rs) (fun i H' => Same H H' ∧ H' D = some (.lst ((List.replicate i true).map V.bl))) ⟨Same.put nD, upd_same⟩ (fun i H' _ h => SqT.of (h.1 _ _ eT)) ?_ ?_
    · rintro i y H' hy ⟨s1, eD⟩
      obtain ⟨r, hr2, mr, rfl⟩ := rfs_at hy
      have il := (List.getElem?_eq_some_iff.mp hr2).1
      obtain ⟨xs, h1, h2, h3⟩ := (rw_ r mr).same s1
      obtain ⟨b1, b2, b3⟩ := tps_low h3 n8
      refine ⟨rfl, yes_of ?_⟩
      refine ⟨_, rfl, T0, _, rfl, .inr (SqT.of (s1 _ _ eT)), _, rfl, _, .ref r.1, rfl, .inl ⟨r.1, xs, _, (r.2.sum : Int), rfl, h1, items_of h2 h3, b1, b2, by rw [List.length_map]; have := h3.1; omega, fun H3 s3 => ?_⟩⟩
      have e : (decide (V.int (xs.length : Int) = V.int ((rfs rs).length : Int)) && sprB (r.2.sum : Int) (r.2.map fun k : Nat => some (k : Int))) = true := by
        rw [spr_ok, Bool.and_true]
        refine decide_eq_true ?_
        rw [rfs_len, h2.1, List.length_map, h3.1, lr]
      rw [e]
      refine ⟨_, s3 _ _ eD, by rw [List.length_map, List.length_replicate]; exact small_len (by omega), Same.but (fun b u e => s3 _ _ (s1 _ _ e)) nD, ?_⟩
      rw [upd_same, refs_rep]
    rintro H1 ⟨s1, eD⟩
    refine ⟨D, _, rfl, SqL.of eD, true, congrArg V.bl (all_true _), iteF ?_⟩
    -- the labels are names
    have el1 := s1 _ _ el
    refine ⟨_, rfl, T0, _, rfl, .inr (SqT.of (s1 _ _ eT)), _, rfl, lb, ls, n, by rw [rfs_len, lr]; rfl, el1, ⟨ll, nl⟩, by omega, fun H2 s2 => ⟨true, rfl, iteF ?_⟩⟩
    have s12 := s1.trans s2
    exact qu x dx T0 lb n rs H2 (s12 _ _ ex) n8 (s12 _ _ eT) lr (fun r m => (rw_ r m).same s12) fun T2 rs2 H3 s3 e2 l2 h2 q2 => k T2 rs2 H3 (s12.trans s3) e2 l2 h2 q2
end
end KI
set_option Elab.async false
set_option linter.all false
set_option maxRecDepth 100000
set_option maxHeartbeats 4000000
/-! enumerate(t), t a tuple -/
namespace PySem
open AutoSeq1 (wpAny_loadPart')
end PySem
namespace L2
open PySem PySem.Spec PyProof.Rows
end L2
set_option Elab.async false
set_option linter.all false
set_option maxRecDepth 100000
set_option maxHeartbeats 4000000
namespace L2
open PySem PySem.Spec PyProof.Rows
end L2
namespace KI
open PySem L2
/-- Chain(rows, labels) -/
structure MkC (P : Program) (w : World) (K : PySem.W.Frag) (mg : Str → Option Value) (base : Heap) (C CC : Addr) : Prop where
  ex : ∃ (f : Addr) (fd : FuncData), Mk K CC f ∧ FnOk P w K mg base CX0 12 f fd ["self", "rows", "labels"] (spCI C CC) ∧ Binds K fd ["self", "rows", "labels"] []
  gC : mg "Chain" = some (.ref CC)
section
variable {X : Cx} {C CC : Addr} {p pos : Pos} {e : Expr} {es : List Expr} {t : TA}
theorem pe_chn (m : MkC X.prog X.w X.K X.mg X.base C CC) (hr : Room 13 X.A) (hg : Gl X "Chain") (ha : PA X (e :: es) t)
    (he : starEach (e :: es) X.env = (false, eval e X.env) :: starEach es X.env := by rfl) (hpl : (backTo pos (starEach es X.env)).any (·.1) = false := by rfl) :
    PE X (.Call (.Name "Chain" p) (e :: es) [] pos) (tMake CC (spCI C CC) [] E0 t) := by
  obtain ⟨f, fd, M, F, b0⟩ := m.ex
  exact pe_make M F hr hg m.gC b0 .nil pass0 ha (by decide) he hpl
end
/-- a chain is made -/
theorem chn_go {C CC : Addr} {n : Nat} {T lb : Addr} {rs : List (Addr × List Nat)} {ls : List Str} {H : Hp} {Qv : VK} {E : XK} {x dx : Addr} (hx : H x = none) (hd : H dx = none) (ne : dx ≠ x) (n1 : 1 ≤ n) (n8 : n ≤ 8) (eT : H T = some (.tup (rfs rs))) (lr : rs.length = n) (rw_ : ∀ r ∈ rs, RowIn C H n r) (el : H lb = some (.tup (sV ls))) (hl : Lbs n ls)
    (k : ∀ (H' : Hp), Same H H' → IsCh C CC H' x n (rs.map (·.2)) ls → Qv .non H') : spCI C CC [.ref x, .ref T, .ref lb] (upd (upd H dx (.own x)) x (.ins CC dx [])) Qv E := by
  have s1 : Same H (upd (upd H dx (.own x)) x (.ins CC dx [])) := (Same.put hd).trans (Same.put (by rw [upd_ne ne.symm]; exact hx))
  refine ⟨x, dx, T, lb, n, rs, ls, rfl, upd_same, n1, n8, s1 _ _ eT, lr, fun r m => (rw_ r m).same s1, s1 _ _ el, hl, fun T2 rs2 H2 s2 e2 l2 h2 q2 => ?_⟩
  have ex := s2 _ _ (show (upd (upd H dx (.own x)) x (.ins CC dx [])) x = some (.ins CC dx []) from upd_same)
  refine k _ (fun b u e => ?_) ⟨dx, T2, lb, rs2, upd_same, ?_, l2, fun r m => (h2 r m).upx ex rfl, q2, ?_, hl⟩
  · rw [upd_ne (ne_of_none e hx)]
    exact s2 _ _ (s1 _ _ e)
  · rw [upd_ne (fun z => by rw [z, ex] at e2; cases e2)]
    exact e2
  · have := s2 _ _ (s1 _ _ el)
    rw [upd_ne (fun z => by rw [z, ex] at this; cases this)]
    exact this
/-- chain.row(s) -/
def spChRow (C CC : Addr) : Sp := fun vs H Q _ => ∃ (o : Addr) (n : Nat) (rws : List (List Nat)) (ls : List Str) (s : Nat), vs = [.ref o, .int (s : Int)] ∧ IsCh C CC H o n rws ls ∧ s < n ∧
  ∀ (b : Addr) (ws : List Nat), rws[s]? = some ws → RowSh C H n (b, ws) → Q (.ref b) H
structure RowT (P : Program) (w : World) (K : PySem.W.Frag) (mg : Str → Option Value) (base : Heap) (C CC : Addr) : Prop where
  ex : ∃ (f : Addr) (fd : FuncData), Meth K CC "row" f ∧ FnOk P w K mg base CX0 5 f fd ["self", "state"] (spChRow C CC) ∧ Binds K fd ["self", "state"] []
abbrev kyI (t : Nat) : Key := Sum.inl (t : Int)
theorem iteFe {c : Bool} {A D : Prop} (e : c = false) (h : D) : if c = true then A else D := by
  rw [e]
  exact h
/-- a dict whose keys are these places, ascending -/
def KeysAt (H : Hp) (d : Addr) (ts : List Nat) : Prop := ∃ kvs : List (Key × V), H d = some (.dK kvs) ∧ kvs.map (·.1) = ts.map kyI
theorem KeysAt.same {H H' : Hp} {d : Addr} {ts : List Nat} (h : KeysAt H d ts) (s : Same H H') : KeysAt H' d ts := by
  obtain ⟨kvs, h1, h2⟩ := h
  exact ⟨kvs, s _ _ h1, h2⟩
section
variable {P : Program} {w : World} {K : PySem.W.Frag} {mg : Str → Option Value} {base : Heap} {C CC B : Addr}
abbrev s_chrow : Stmt := inClass (top 29) 1
theorem sc_chrow : FnScope ["self", "state"] ["self", "state"] (defScope s_chrow) := ⟨rfl, rfl, rfl, by decide +kernel, rfl, by decide +kernel, by decide +kernel⟩
theorem ok_chrow {f : Addr} {fd : FuncData} (F : Fun K "row" "Chain.row" s_chrow f fd) (t : ChT K mg CC) (c : CalX P w K mg base 4 "check_state" ["size", "state"] (spCheck K C CC B)) : FnOk P w K mg base CX0 5 f fd ["self", "state"] (spChRow C CC) := by
  refine F.ok sc_chrow (fun vs H Q E h => ?_) (fun cdv A outer s H vs Q E hr h => ?_)
  · obtain ⟨o, n, rws, ls, st, rfl, _⟩ := h
    rfl
  · obtain ⟨o, n, rws, ls, st, rfl, ⟨dx, T, lb, rs, h1, h2, h3, h4, h5, h6, h7⟩, hs, k⟩ := h
    refine ⟨_, (pss_cons (ps_expr (pe_calx c (hr.mono (by decide)) rfl (pa_cons (pe_fld (pv 0) rfl) (pa_cons (pv 1) pa_nil))))
      (pss_one (ps_ret (pe_ix ix_tup (pe_fld (pv 0) rfl) (pv 1) (fun _ _ => rfl))))), ?_⟩
    have gs : rs[st]? = some rs[st] := List.getElem?_eq_getElem (by omega)
    refine ⟨_, rfl, o, CC, dx, _, _, rfl, h1, t.it.cl, t.nS, chF_size _ _ _, _, rfl, (n : Int), .int (st : Int), rfl, .th (.fo (.int _)), .inl ⟨int_btw hs, ?_⟩⟩
    refine ⟨_, rfl, o, CC, dx, _, _, rfl, h1, t.it.cl, t.nR, chF_rows _ _ _, _, rfl, T, _, (st : Int), .ref rs[st].1, rfl, rfl, SqT.of h2, atI_nat (by rw [rfs, List.getElem?_map, gs]; rfl), ?_⟩
    exact k rs[st].1 rs[st].2 (by rw [← h5, List.getElem?_map, gs]; rfl) (h4 _ (List.mem_of_getElem? gs))
end
end KI
set_option Elab.async false
set_option linter.all false
set_option maxRecDepth 100000
set_option maxHeartbeats 4000000
namespace KI
open PySem L2
/-- a slice of a tuple, whole or not -/
theorem sl_any {K : PySem.W.Frag} {H : Hp} {Q : VK} {a : Addr} {xs : List V} {lo hi : Option Int} (e : H a = some (.tup xs)) (k : ∀ (p : Addr) (H' : Hp), Same H H' → H' p = some (.tup (cutV xs lo hi)) → Q (.ref p) H') : rSlA K (.ref a) lo hi H Q := by
  refine ⟨a, xs, rfl, SqT.of e, fun h => ?_, fun _ p np => k p _ (Same.put np) upd_same⟩
  have : cutV xs lo hi = xs := by
    unfold cutV
    rw [h.1, h.2, List.drop_zero, Nat.sub_zero, List.take_length]
  exact k a H (Same.refl H) (by rw [this]; exact e)
/-- tuple + tuple -/
theorem cat_any {K : PySem.W.Frag} {H : Hp} {Q : VK} {a b : Addr} {xs ys : List V} (ea : H a = some (.tup xs)) (eb : H b = some (.tup ys)) (l : xs.length + ys.length ≤ sizeLine) (k : ∀ (p : Addr) (H' : Hp), Same H H' → H' p = some (.tup (xs ++ ys)) → Q (.ref p) H') : rCatA K (.ref a) (.ref b) H Q := by
  refine ⟨a, b, xs, ys, rfl, rfl, SqT.of ea, SqT.of eb, l, fun h => ?_, fun h1 h2 => ?_, fun _ _ p np => k p _ (Same.put np) upd_same⟩
  · subst h
    exact k b H (Same.refl H) eb
  · subst h2
    exact k a H (Same.refl H) (by rw [List.append_nil]; exact ea)
theorem cut_to {xs : List V} {s : Nat} (h : s < xs.length) : cutV xs none (some (s : Int)) = xs.take s := by
  unfold cutV
  rw [HT.sIx_nat, HT.sIx_none, Nat.min_eq_left (Nat.le_of_lt h)]
  rfl
theorem cut_from' {xs : List V} {s : Nat} (h : s ≤ xs.length) : cutV xs (some (s : Int)) none = xs.drop s := by
  unfold cutV
  rw [HT.sIx_nat, HT.sIx_none, Nat.min_eq_left h]
  exact List.take_of_length_le (by rw [List.length_drop]; exact Nat.le_refl _)
/-- chain.with_row(s, row) -/
def spWithRow (C CC : Addr) : Sp := fun vs H Q _ => ∃ (o b : Addr) (n : Nat) (rws : List (List Nat)) (ls : List Str) (s : Nat) (ws : List Nat), vs = [.ref o, .int (s : Int), .ref b] ∧ n ≤ 8 ∧ IsCh C CC H o n rws ls ∧ s < n ∧ RowIn C H n (b, ws) ∧
  ∀ (x : Addr) (H' : Hp), Same H H' → IsCh C CC H' x n (rws.set s ws) ls → Q (.ref x) H'
section
variable {P : Program} {w : World} {K : PySem.W.Frag} {mg : Str → Option Value} {base : Heap} {C CC B : Addr}
abbrev s_withrow : Stmt := inClass (top 29) 3
theorem sc_withrow : FnScope ["self", "state", "spread"] ["self", "state", "spread"] (defScope s_withrow) := ⟨rfl, rfl, rfl, by decide +kernel, rfl, by decide +kernel, by decide +kernel⟩
theorem ok_withrow {f : Addr} {fd : FuncData} (F : Fun K "with_row" "Chain.with_row" s_withrow f fd) (t : ChT K mg CC) (m : MkC P w K mg base C CC) (c : CalX P w K mg base 4 "check_state" ["size", "state"] (spCheck K C CC B)) : FnOk P w K mg base CX0 14 f fd ["self", "state", "spread"] (spWithRow C CC) := by
  refine F.ok sc_withrow (fun vs H Q E h => ?_) (fun cdv A outer s H vs Q E hr h => ?_)
  · obtain ⟨o, b, n, rws, ls, st, ws, rfl, _⟩ := h
    rfl
  · obtain ⟨o, b, n, rws, ls, st, ws, rfl, n8, ch, hs, ri, k⟩ := h
    refine ⟨_, (pss_cons (ps_expr (pe_calx c (hr.mono (by decide)) rfl (pa_cons (pe_fld (pv 0) rfl) (pa_cons (pv 1) pa_nil))))
      (pss_one (ps_ret (pe_chn m hr rfl (pa_cons (pe_op op_catA (pe_op op_catA (pe_slice sl_tupA (pe_fld (pv 0) rfl) po_none (po_some (pv 1))) (pe_tup (pa_cons (pv 2) pa_nil))) (pe_slice sl_tupA (pe_fld (pv 0) rfl) (po_some (pe_op op_add (pv 1) pe_int)) po_none)) (pa_cons (pe_fld (pv 0) rfl) pa_nil)))))), ?_⟩
    obtain ⟨dx, T, lb, rs, h1, h2, h3, h4, h5, h6, h7⟩ := id ch
    refine ⟨_, rfl, o, CC, dx, _, _, rfl, h1, t.it.cl, t.nS, chF_size _ _ _, _, rfl, (n : Int), .int (st : Int), rfl, .th (.fo (.int _)), .inl ⟨int_btw hs, ?_⟩⟩
    have lrs : (rfs rs).length = n := by rw [rfs_len, h3]
    refine ⟨_, rfl, o, CC, dx, _, _, rfl, h1, t.it.cl, t.nR, chF_rows _ _ _, ?_⟩
    refine ⟨_, rfl, _, rfl, sl_any h2 fun p1 H1 s1 e1 => ?_⟩
    rw [cut_to (by rw [lrs]; exact hs)] at e1
    refine ⟨_, rfl, by (show 1 ≤ sizeLine; decide), fun p2 n2 => ?_⟩
    have s2 := Same.put (o := .tup [.ref b]) n2
    have e2 : (upd H1 p2 (.tup [.ref b])) p2 = some (.tup [.ref b]) := upd_same
    have s12 := s1.trans s2
    have e12 := s2 _ _ e1
    generalize (upd H1 p2 (.tup [.ref b])) = H2 at s12 e12 e2 ⊢
    refine cat_any e12 e2 (by rw [List.length_take, lrs]; show _ + 1 ≤ _; exact Nat.le_of_lt (small_len (by omega))) fun p3 H3 s3 e3 => ?_
    have s13 := s12.trans s3
    refine ⟨_, rfl, o, CC, dx, _, _, rfl, s13 _ _ h1, t.it.cl, t.nR, chF_rows _ _ _, ?_⟩
    refine ⟨_, rfl, _, _, rfl, rfl, _, rfl, ?_⟩
    rw [show ((st : Int) + 1) = ((st + 1 : Nat) : Int) from rfl]
    dsimp only [tNoPart]
    refine sl_any (s13 _ _ h2) fun p4 H4 s4 e4 => ?_
    rw [cut_from' (by rw [lrs]; exact hs)] at e4
    have s14 := s13.trans s4
    refine cat_any (s4 _ _ e3) e4 (by rw [List.length_append, List.length_take, List.length_drop, lrs]; show _ + 1 + _ ≤ _; exact Nat.le_of_lt (small_len (by omega))) fun p5 H5 s5 e5 => ?_
    have s15 := s14.trans s5
    refine ⟨_, rfl, o, CC, dx, _, _, rfl, s15 _ _ h1, t.it.cl, t.nL, chF_labels _ _ _, ?_⟩
    have er : (rfs rs).take st ++ [V.ref b] ++ (rfs rs).drop (st + 1) = rfs (rs.take st ++ [(b, ws)] ++ rs.drop (st + 1)) := by
      simp only [rfs, List.map_append, List.map_take, List.map_drop, List.map_cons, List.map_nil]
    rw [er] at e5
    have eq : (rs.take st ++ [(b, ws)] ++ rs.drop (st + 1)).map (·.2) = rws.set st ws := by
      rw [← h5, List.set_eq_take_append_cons_drop, if_pos (by rw [List.length_map, h3]; exact hs)]
      simp only [List.map_append, List.map_take, List.map_drop, List.map_cons, List.map_nil, List.append_assoc, List.cons_append, List.nil_append]
    intro x dx2 hx hd ne
    refine chn_go hx hd ne (by omega) n8 e5 ?_ (fun r m => ?_) (s15 _ _ h6) h7 fun H' s' ic => ⟨rfl, ?_⟩
    · rw [List.length_append, List.length_append, List.length_take, List.length_drop, h3]
      show _ + 1 + _ = n
      omega
    · rcases List.mem_append.mp m with m | m
      · rcases List.mem_append.mp m with m | m
        · exact ((h4 r (List.mem_of_mem_take m)).same s15).inn
        · rw [List.mem_singleton.mp m]
          exact ri.same s15
      · exact ((h4 r (List.mem_of_mem_drop m)).same s15).inn
    · rw [eq] at ic
      exact k x H' (s15.trans s') ic
end
end KI
set_option Elab.async false
set_option linter.all false
set_option maxRecDepth 100000
set_option maxHeartbeats 4000000
namespace KI
open PySem L2
def spSpreadL (C : Addr) : Sp := fun vs H Q _ => ∃ (b : Addr) (n : Nat) (ws : List Nat), vs = [.ref b] ∧ n ≤ 8 ∧ TpsAt n H (b, ws) ∧ ∀ (t : Addr) (H' : Hp), Same H H' → RowSh C H' n (t, ws) → Q (.ref t) H'
section
variable {P : Program} {w : World} {K : PySem.W.Frag} {mg : Str → Option Value} {base : Heap} {C CC B : Addr}
abbrev s_spreadL : Stmt := top 46
theorem sc_spreadL : FnScope ["_law_tops_here", "_law_top"] ["_law_tops_here"] (defScope s_spreadL) := ⟨rfl, rfl, rfl, by decide +kernel, rfl, by decide +kernel, by decide +kernel⟩
theorem ok_spreadL {f : Addr} {fd : FuncData} (F : Fun K "_law_spread" "_law_spread" s_spreadL f fd) (T : Bm mg) (m : MkT P w K mg base C B) : FnOk P w K mg base CX0 6 f fd ["_law_tops_here"] (spSpreadL C) := by
  refine F.ok sc_spreadL (fun vs H Q E h => ?_) (fun cdv A outer s H vs Q E hr h => ?_)
  · obtain ⟨b, n, ws, rfl, _⟩ := h
    rfl
  · obtain ⟨b, n, ws, rfl, n8, ⟨eb, tp⟩, k⟩ := h
    refine ⟨_, (pss_one (ps_ret (pe_callTy call_tuple_of (by rfl) T.n_tuple (by decide +kernel) (pa_cons (pe_lc (own := [("_law_top", 1)]) rfl sc_spreadL.nd (pi_tup (pv 0)) (blkOk_by (N := ["_law_tops_here", "_law_top"]) (sc := defScope s_spreadL) (by decide +kernel)) (fun _ _ _ _ _ => (pg_name (i := 1) sc_spreadL.nd rfl (Or.inl rfl))) (fun _ _ _ _ _ => pts_nil)
      (fun _ _ _ _ _ => (show PE _ _ (tMake C (spSI K C B) [] E0 (tCons (tVar 1) (tCons (tCB (rSumT K) (tCons (tVar 0) tNil)) tNil))) from pe_share2 m (hr.mono (by decide)) rfl (pa_cons (pv 1) (pa_cons (pe_callB (show CallR _ _ (rSumT K) from cr_sumT rfl) (by rfl) T.n_sum PyProof.Rows.boot_sum (pa_cons (pv 0) pa_nil)) pa_nil))))) pa_nil)))), ?_⟩
    have eb : H b = some (.tup (cV ws)) := eb
    obtain ⟨p0, p1, p2⟩ := tps_low tp.g n8
    refine ⟨_, rfl, b, rfl, ⟨_, SqT.of eb⟩, fun D nD => ?_⟩
    refine lc_tup (K := K) (a := b) (xs := cV ws) (fun i H' => Same H H' ∧ ∃ as : List Addr, H' D = some (.lst (as.map V.ref)) ∧ as.length = i ∧
      ∀ (j : Nat) (a : Addr), as[j]? = some a → ∃ (dx : Addr) (w : Nat), ws[j]? = some w ∧ H' a = some (.ins C dx (shF (lowT (w : Int) (ws.sum : Int)) (lowB (w : Int) (ws.sum : Int))))) ⟨Same.put nD, [], upd_same, rfl, fun j a e => by simp at e⟩ (fun i H' _ h => SqT.of (h.1 _ _ eb)) ?_ ?_
    · rintro i x H' hx ⟨s1, as, eD, la, fa⟩
      obtain ⟨w, hw, rfl⟩ := cV_of hx
      have il := (List.getElem?_eq_some_iff.mp hw).1
      have lw : ws.length = n := tp.1
      refine ⟨rfl, yes_of ?_⟩
      refine ⟨_, rfl, _, rfl, b, ws.map (fun k : Nat => (k : Int)), rfl, SqT.of (by rw [← cV_ints]; exact s1 _ _ eb), ?_⟩
      rw [sum_ints]
      have p0 : 0 < (ws.sum : Int) := p0
      intro y0 dy0 hy0 hd0 ne0
      refine mk_ok (K := K) (C := C) (B := B) (a := (w : Int)) (b := (ws.sum : Int)) (H := H') (Q := fun y H4 => ∃ acc, H4 D = some (HO.lst acc) ∧ acc.length < sizeLine ∧ Same H (upd H4 D (.lst (acc ++ [y]))) ∧ ∃ as : List Addr, (upd H4 D (.lst (acc ++ [y]))) D = some (.lst (as.map V.ref)) ∧ as.length = i + 1 ∧ ∀ (j : Nat) (a : Addr), as[j]? = some a → ∃ (dx : Addr) (w : Nat), ws[j]? = some w ∧ (upd H4 D (.lst (acc ++ [y]))) a = some (.ins C dx (shF (lowT (w : Int) (ws.sum : Int)) (lowB (w : Int) (ws.sum : Int))))) (by omega) (log_small p1 (by decide +kernel) (by decide +kernel)) (fun a dx H2 s2 ea => ?_) y0 dy0 hy0 hd0 ne0
      have aD : ∀ {c dy : Addr} {fs : List (Str × V)}, H2 c = some (.ins C dy fs) → c ≠ D := fun e z => by
        rw [z, s2 _ _ eD] at e
        cases e
      refine ⟨_, s2 _ _ eD, by rw [List.length_map]; exact small_len (by omega), Same.but (fun b u e => s2 _ _ (s1 _ _ e)) nD, as ++ [a], by rw [upd_same, List.map_append]; rfl, by rw [List.length_append, la]; rfl, fun j c hc => ?_⟩
      rcases Nat.lt_or_ge j as.length with h | h
      · rw [List.getElem?_append_left h] at hc
        obtain ⟨dy, v, q1, q2⟩ := fa j c hc
        exact ⟨dy, v, q1, by rw [upd_ne (aD (s2 _ _ q2))]; exact s2 _ _ q2⟩
      · rw [List.getElem?_append_right h] at hc
        have hz : j - as.length = 0 := by
          have := (List.getElem?_eq_some_iff.mp hc).1
          simpa using this
        rw [hz] at hc
        have e : a = c := by simpa using hc
        have ej : j = i := by omega
        rw [← e, ej]
        exact ⟨dx, w, hw, by rw [upd_ne (aD ea)]; exact ea⟩
    · rintro H1 ⟨s1, as, eD, la, fa⟩
      rw [show (cV ws).length = n by rw [cV, List.length_map, tp.1]] at la
      refine ⟨D, _, rfl, .inl ⟨SqL.of eD, fun t nt => ?_⟩⟩
      have st := Same.put (o := .tup (as.map V.ref)) nt
      exact k t _ (s1.trans st) ⟨as, upd_same, la, tp.g, fun j c hc => let ⟨dx, w, q1, q2⟩ := fa j c hc; ⟨dx, w, q1, st _ _ q2⟩⟩
end
end KI
set_option Elab.async false
set_option linter.all false
set_option maxRecDepth 100000
set_option maxHeartbeats 4000000
/-! the digits of a number -/
namespace Tx
open PySem SX PySem.W PySem.W.KIN PySem.NumText
def dg (n : Nat) : List Nat := (Nat.toDigits 10 n).map Char.toNat
/-- k digits -/
def pd : Nat → Nat → List Nat
  | 0, _ => []
  | k + 1, b => pd k (b / 10) ++ [48 + b % 10]
theorem dg_small {n : Nat} (h : n < 10) : dg n = [48 + n] := by
  unfold dg
  rw [Nat.toDigits_of_lt_base h]
  exact (by decide : ∀ d : Fin 10, [(Nat.digitChar d.1)].map Char.toNat = [48 + d.1]) ⟨n, h⟩
theorem dg_step {m d : Nat} (hm : 0 < m) (hd : d < 10) : dg (10 * m + d) = dg m ++ [48 + d] := by
  have t : Nat.toDigits 10 m ++ Nat.toDigits 10 d = Nat.toDigits 10 (10 * m + d) := Nat.toDigits_append_toDigits (by decide) hm hd
  have e := dg_small hd
  unfold dg at e ⊢
  rw [← t, List.map_append, e]
theorem dg_big {n : Nat} (h : 10 ≤ n) : dg n = dg (n / 10) ++ [48 + n % 10] := by
  have := dg_step (m := n / 10) (d := n % 10) (by omega) (by omega)
  rwa [Nat.div_add_mod] at this
theorem dg_block {a : Nat} (ha : 0 < a) : ∀ (k b : Nat), b < 10 ^ k → dg (a * 10 ^ k + b) = dg a ++ pd k b
  | 0, b, h => by
    obtain rfl : b = 0 := by simpa using h
    simp [pd]
  | k + 1, b, h => by
    have hp : 10 ^ (k + 1) = 10 * 10 ^ k := by rw [Nat.pow_succ, Nat.mul_comm]
    have hb : b / 10 < 10 ^ k := by rw [hp] at h; omega
    have e : a * 10 ^ (k + 1) + b = 10 * (a * 10 ^ k + b / 10) + b % 10 := by
      rw [hp, Nat.mul_add, Nat.mul_left_comm a 10, Nat.add_assoc, Nat.div_add_mod]
    have hpos : 0 < 10 ^ k := Nat.pow_pos (by decide)
    have h0 : 0 < a * 10 ^ k := Nat.mul_pos ha hpos
    rw [e, dg_step (by omega) (by omega), dg_block ha k (b / 10) hb, List.append_assoc]
    rfl
theorem dg_ne (n : Nat) : dg n ≠ [] := by
  by_cases h : n < 10
  · rw [dg_small h]; simp
  · rw [dg_big (by omega)]; simp
theorem pd_zero : ∀ k, pd k 0 = List.replicate k 48
  | 0 => rfl
  | k + 1 => by
    show pd k (0 / 10) ++ [48 + 0 % 10] = _
    rw [Nat.zero_div, pd_zero k, List.replicate_succ']
/-- k digits are the number's, behind noughts -/
theorem pd_eq : ∀ (k b : Nat), b < 10 ^ (k + 1) → pd (k + 1) b = List.replicate (k + 1 - (dg b).length) 48 ++ dg b
  | 0, b, h => by
    have h : b < 10 := by simpa using h
    rw [dg_small h]
    show [] ++ [48 + b % 10] = List.replicate 0 48 ++ _
    rw [Nat.mod_eq_of_lt h]
    rfl
  | k + 1, b, h => by
    have hp : 10 ^ (k + 1 + 1) = 10 * 10 ^ (k + 1) := by rw [Nat.pow_succ, Nat.mul_comm]
    by_cases c : b < 10
    · show pd (k + 1) (b / 10) ++ [48 + b % 10] = _
      rw [Nat.div_eq_of_lt c, Nat.mod_eq_of_lt c, pd_zero, dg_small c]
      rfl
    · have hb : b / 10 < 10 ^ (k + 1) := by rw [hp] at h; omega
      show pd (k + 1) (b / 10) ++ [48 + b % 10] = _
      rw [pd_eq k (b / 10) hb, dg_big (n := b) (by omega), List.length_append, List.append_assoc]
      show _ = List.replicate (k + 1 + 1 - ((dg (b / 10)).length + 1)) 48 ++ _
      rw [Nat.add_sub_add_right]
theorem dg_digit (n : Nat) : AllDigits (dg n) := fun c hc => by
  obtain ⟨ch, hch, e⟩ := List.mem_map.mp hc
  rw [← e]
  exact PyProof.Rows.digit_range (Nat.isDigit_of_mem_toDigits (by decide) (by decide) hch)
theorem dg_len : ∀ (k n : Nat), n < 10 ^ (k + 1) → (dg n).length ≤ k + 1
  | 0, n, h => by rw [dg_small (by simpa using h)]; exact Nat.le_refl 1
  | k + 1, n, h => by
    have hp : 10 ^ (k + 1 + 1) = 10 * 10 ^ (k + 1) := by rw [Nat.pow_succ, Nat.mul_comm]
    by_cases c : n < 10
    · rw [dg_small c]; simp
    · have := dg_len k (n / 10) (by rw [hp] at h; omega)
      rw [dg_big (by omega), List.length_append]
      show (dg (n / 10)).length + 1 ≤ _
      omega
theorem str_dg (n : Nat) : (Str.ofString (toString ((n : Nat) : Int))) = S (dg n) := TL.ext_tl (signs_num n)
theorem int_dg {n : Nat} (h : (dg n).length ≤ 640) : PySem.intText? (S (dg n)) = some (n : Int) := by
  have e := intText_digits (x := S (dg n)) (dg_digit n) (dg_ne n) (by rw [S_len]; omega)
  rw [e]
  exact congrArg (fun z : Nat => some (z : Int)) (val_back n)
theorem zfill_dg {k b : Nat} (h : b < 10 ^ (k + 1)) : Txt.zfill (S (dg b)) ((k + 1 : Nat) : Int) = S (pd (k + 1) b) := by
  have hl := dg_len k b h
  unfold Txt.zfill
  rw [pd_eq k b h, S_len]
  by_cases c : ((k + 1 : Nat) : Int) ≤ ((dg b).length : Int)
  · rw [if_pos c, show k + 1 - (dg b).length = 0 by omega]
    rfl
  · rw [if_neg c]
    have hz : ∀ l : List Nat, AllDigits l → l ≠ [] → PySem.zfilled (S l) (((k + 1 : Nat) : Int).toNat - l.length) = S (List.replicate (k + 1 - l.length) 48 ++ l) := by
      intro l hd hn
      cases l with
      | nil => exact absurd rfl hn
      | cons d r =>
        have h1 := hd d List.mem_cons_self
        have hp : PySem.zfilled (S (d :: r)) (((k + 1 : Nat) : Int).toNat - (d :: r).length) = Builtin.Str.padded (S (d :: r)) (((k + 1 : Nat) : Int).toNat - (d :: r).length) 0 48 := by
          unfold PySem.zfilled
          have e0 : (S (d :: r)).cps[0]? = some d := rfl
          rw [e0]
          split
          · rename_i z; have := Option.some.inj z; omega
          · rename_i z; have := Option.some.inj z; omega
          · rfl
        rw [hp, Int.toNat_natCast]
        refine TL.ext_tl ?_
        show (Array.replicate _ 48 ++ (d :: r).toArray ++ Array.replicate 0 48).toList = _
        simp
    exact hz _ (dg_digit b) (dg_ne b)
/-- the head of a number of two digits or more is not 0 -/
theorem dg_head {n : Nat} (h : 10 ≤ n) : (dg n).head? ≠ some 48 := by
  induction n using Nat.strongRecOn with
  | _ n ih =>
    rw [dg_big h]
    by_cases c : n / 10 < 10
    · rw [dg_small c]
      show some (48 + n / 10) ≠ some 48
      intro z
      have := Option.some.inj z
      omega
    · have := ih (n / 10) (by omega) (by omega)
      rw [List.head?_append]
      cases e : (dg (n / 10)).head? with
      | none => exact absurd (List.head?_eq_none_iff.mp e) (dg_ne _)
      | some x =>
        rw [e] at this
        simpa using this
end Tx
set_option Elab.async false
set_option linter.all false
set_option maxRecDepth 100000
set_option maxHeartbeats 1000000
namespace KI
open PySem L2 SX Tx
theorem log_lt {n : Nat} (h : n < 10 ^ 64) : n.log2 < 1920 := by
  by_cases h0 : n = 0
  · rw [h0]
    decide
  · refine (Nat.log2_lt h0).mpr (Nat.lt_trans h ?_)
    decide +kernel
/-- digits(number), of a number that is not negative -/
def spDigL : Sp := fun vs H Q _ => ∃ n : Nat, vs = [.int (n : Int)] ∧ n < 2 ^ 1400 ∧ ∀ H', Same H H' → Q (.str (S (dg n))) H'
theorem joinL_flat : ∀ ps : List (List Nat), TL.joinL [] ps = ps.flatten
  | [] => rfl
  | [p] => by show p = p ++ []; rw [List.append_nil]
  | p :: q :: r => by
    show p ++ ([] ++ TL.joinL [] (q :: r)) = p ++ (q :: r).flatten
    rw [List.nil_append, joinL_flat (q :: r)]
theorem pd_len : ∀ k b, (pd k b).length = k
  | 0, _ => rfl
  | k + 1, b => by
    show (pd k (b / 10) ++ [48 + b % 10]).length = _
    rw [List.length_append, pd_len k]
    rfl
theorem flat64 : ∀ {bs : List (List Nat)}, (∀ b ∈ bs, b.length = 64) → bs.reverse.flatten.length = 64 * bs.length
  | [], _ => rfl
  | b :: bs, h => by
    rw [List.reverse_cons, List.flatten_append, List.length_append, flat64 fun x m => h x (List.mem_cons_of_mem _ m)]
    show _ + (b ++ []).length = _
    rw [List.append_nil, h b List.mem_cons_self, List.length_cons]
    omega
theorem strs_snoc (bs : List (List Nat)) (x : List Nat) : (bs.map S).map V.str ++ [V.str (S x)] = ((bs ++ [x]).map S).map V.str := by
  rw [List.map_append, List.map_append]
  rfl
theorem blk_step {n left k : Nat} {bs : List (List Nat)} (q : dg n = dg left ++ bs.reverse.flatten) (lp : 0 < left / 10 ^ k) (lo : left % 10 ^ k < 10 ^ k) : dg n = dg (left / 10 ^ k) ++ (bs ++ [pd k (left % 10 ^ k)]).reverse.flatten := by
  have e := dg_block lp k _ lo
  rw [Nat.div_add_mod'] at e
  generalize pd k (left % 10 ^ k) = x at e
  rw [q, e, List.reverse_append, List.flatten_append, List.append_assoc]
  congr 1
  show x ++ _ = (x ++ []) ++ _
  rw [List.append_nil]
theorem log64 {n : Nat} (h : n < 10 ^ 64) : ((n : Int)).natAbs.log2 < 1920 := log_lt h
section
variable {P : Program} {w : World} {K : PySem.W.Frag} {mg : Str → Option Value} {base : Heap} {C B : Addr}
abbrev s_digits : Stmt := top 19
abbrev nDg : List Str := ["number", "blocks", "left", "low", "sign"]
theorem sc_digits : FnScope nDg ["number"] (defScope s_digits) := ⟨rfl, rfl, rfl, by decide +kernel, rfl, by decide +kernel, by decide +kernel⟩
theorem ok_digits {f : Addr} {fd : FuncData} {tk : Tok} (F : Fun K "digits" "digits" s_digits f fd) (T : Bm mg) (gB : mg "BLOCK" = some (.int (10 ^ 64) tk)) : FnOk P w K mg base CX0 1 f fd ["number"] spDigL := by
  refine F.ok sc_digits (fun vs H Q E h => ?_) (fun cdv A outer s H vs Q E hr h => ?_)
  · obtain ⟨n, rfl, _⟩ := h
    rfl
  · obtain ⟨n, rfl, hn, k⟩ := h
    refine ⟨_, (pss_cons (ps_set (i := 1) sc_digits.nd rfl (Or.inl rfl) (pe_lst pa_nil))
      (pss_cons (ps_set (i := 2) sc_digits.nd rfl (Or.inl rfl) (pe_callB call_abs (by rfl) T.b.n_abs (by decide +kernel) (pa_cons (pv 0) pa_nil)))
      (pss_cons (ps_while PassesOwn.never (pt_cmpR op_ge (pv 2) (pe_glob (v := .int (10 ^ 64)) rfl gB ⟨_, rfl⟩) (nomark _))
        (pss_cons (ps_asg (pe_callB call_divmodW (by rfl) T.b.n_divmod (by decide +kernel) (pa_cons (pv 2) (pa_cons (pe_glob (v := .int (10 ^ 64)) rfl gB ⟨_, rfl⟩) pa_nil))) (pg_tup (by rfl) (pgs_cons (pg_name (i := 2) sc_digits.nd rfl (Or.inl rfl)) (pgs_cons (pg_name (i := 3) sc_digits.nd rfl (Or.inl rfl)) pgs_nil))))
          (pss_one (ps_expr (pe_bm PySem.F.plainAttrs_list PySem.F.slot_list_append PySem.F.type_list_append mt_append (pv 1) (pa_cons (pe_m1 PySem.F.slot_str_zfill PySem.F.type_str_zfill mt_zfill (pe_callTy call_str_int (by rfl) T.b.n_str (by decide +kernel) (pa_cons (pv 3) pa_nil)) pe_int) pa_nil))))))
      (pss_cons (ps_set (i := 4) sc_digits.nd rfl (Or.inl rfl) (pe_ifExp (pt_cmpR op_lt (pv 0) pe_int (nomark _)) pe_str pe_str))
      (pss_one (ps_ret (pe_join pe_str (pe_lst (pa_cons (pv 4) (pa_cons (pe_callTy call_str_int (by rfl) T.b.n_str (by decide +kernel) (pa_cons (pv 2) pa_nil)) (StX.pa_star (pe_revL (pv 1)) pa_nil))))))))))), ?_⟩
    have big : (10 : Int) ^ 64 = ((10 ^ 64 : Nat) : Int) := by decide +kernel
    have n14 : (dg n).length ≤ 1400 := dg_len 1399 n (Nat.lt_of_lt_of_le hn (Nat.pow_le_pow_left (by decide) _))
    refine ⟨by show 0 ≤ sizeLine; exact Nat.zero_le _, fun l nl => ?_⟩
    refine ⟨_, rfl, (n : Int), rfl, ?_⟩
    rw [if_neg (by omega)]
    refine while_by (fun σ H' => ∃ (left : Nat) (v3 : Option V) (bs : List (List Nat)), σ = [some (.int (n : Int)), some (.ref l), some (.int (left : Int)), v3, none] ∧ Same H H' ∧ H' l = some (.lst ((bs.map S).map V.str)) ∧ dg n = dg left ++ bs.reverse.flatten ∧ left ≤ n ∧ ∀ b ∈ bs, b.length = 64) (fun σ _ => match σ with | [_, _, some (.int i), _, _] => i.toNat | _ => 0)
      ⟨n, none, [], rfl, Same.put nl, upd_same, by simp, Nat.le_refl n, fun _ m => by cases m⟩ ?_ ?_
    · rintro σ H1 ⟨left, v3, bs, rfl, s1, e1, q1, ln, b64⟩
      have fl := flat64 b64
      have few : bs.length ≤ 22 := by
        have := congrArg List.length q1
        rw [List.length_append, fl] at this
        omega
      refine ⟨_, rfl, (left : Int), _, rfl, rfl, _, rfl, iteB (fun z => ?_) (fun z => ?_)⟩
      · have z := of_decide_eq_true z
        rw [big] at z
        have z : 10 ^ 64 ≤ left := Int.ofNat_le.mp z
        refine ⟨_, rfl, (left : Int), _, rfl, ⟨by rw [big]; decide +kernel, PyProof.noPylong_of_log2 (by decide +kernel)⟩, fun p np => ?_⟩
        refine ⟨p, _, rfl, SqT.of upd_same, rfl, _, _, rfl, _, _, rfl, rfl, ?_⟩
        have sp := Same.put (o := .tup [.int ((left : Int) / 10 ^ 64), .int ((left : Int) % 10 ^ 64)]) np
        have e2 := sp _ _ e1
        have s2 := s1.trans sp
        have hd : (left : Int) / 10 ^ 64 = ((left / 10 ^ 64 : Nat) : Int) := by rw [big, Int.natCast_ediv]
        have hm : (left : Int) % 10 ^ 64 = ((left % 10 ^ 64 : Nat) : Int) := by rw [big, Int.natCast_emod]
        rw [hd, hm] at e2 s2 ⊢
        generalize (upd H1 p (.tup [.int ((left / 10 ^ 64 : Nat) : Int), .int ((left % 10 ^ 64 : Nat) : Int)])) = H2 at e2 s2 ⊢
        have lo : left % 10 ^ 64 < 10 ^ 64 := Nat.mod_lt _ (by decide +kernel)
        have lp : 0 < left / 10 ^ 64 := Nat.div_pos z (by decide +kernel)
        have ll : left / 10 ^ 64 < left := Nat.div_lt_self (by omega) (by decide +kernel)
        refine ⟨_, rfl, .inl ⟨rfl, _, SqL.of e2⟩, _, rfl, _, rfl, log64 lo, ⟨_, rfl⟩, _, _, rfl, rfl, by decide, ?_⟩
        rw [str_dg, show Txt.zfill (S (dg (left % 10 ^ 64))) 64 = S (pd 64 (left % 10 ^ 64)) from zfill_dg (k := 63) lo]
        refine ⟨l, _, _, rfl, rfl, e2, by rw [List.length_map, List.length_map]; exact small_len (by omega), ⟨left / 10 ^ 64, _, bs ++ [pd 64 (left % 10 ^ 64)], rfl, Same.but (fun b u e => s2 _ _ e) nl, ?_, ?_, by omega, fun b m => ?_⟩, ?_⟩
        · rw [upd_same]
          exact congrArg (fun z => some (HO.lst z)) (strs_snoc bs _)
        · exact blk_step q1 lp lo
        · rcases List.mem_append.mp m with m | m
          · exact b64 b m
          · rw [List.mem_singleton.mp m]
            exact pd_len 64 _
        · show left / 10 ^ 64 < left
          exact ll
      · have z := of_decide_eq_false z
        rw [big] at z
        have z : left < 10 ^ 64 := by
          have : ¬ 10 ^ 64 ≤ left := fun c => z (Int.ofNat_le.mpr c)
          exact Nat.lt_of_not_le this
        refine ⟨_, rfl, _, _, rfl, rfl, _, rfl, ite2 (fun e => absurd (of_decide_eq_true e) (by omega)) (fun _ => ?_)⟩
        refine ⟨⟨_, rfl⟩, _, rfl, _, rfl, _, rfl, log64 z, _, rfl, l, _, rfl, .inl (.inl e1), fun r hr' => ?_⟩
        rw [str_dg]
        have sr := Same.put (o := .lst ((bs.map S).map V.str).reverse) hr'
        refine ⟨r, _, rfl, .inr (SqL.of upd_same), ?_, fun d hd => ?_⟩
        · simp only [List.length_cons, List.length_append, List.length_reverse, List.length_map, List.length_nil]
          exact Nat.le_of_lt (small_len (by omega))
        refine ⟨_, d, (([] :: dg left :: bs.reverse).map S), rfl, rfl, .inl (SqL.of ?_), ?_, ?_⟩
        · rw [upd_same]
          refine congrArg (fun z => some (HO.lst z)) ?_
          simp [List.map_reverse]
          rfl
        · rw [lens]
          have e : ((([] : List Nat) :: dg left :: bs.reverse).map (·.length)).sum = (dg n).length := by
            rw [← List.length_flatten, q1]
            rfl
          rw [e]
          show (dg n).length + _ * 0 ≤ 16777216
          omega
        · rw [show Str.ofString "" = S [] from rfl, join_S, joinL_flat, show (([] : List Nat) :: dg left :: bs.reverse).flatten = dg n by rw [q1]; rfl]
          exact k _ ((s1.trans sr).trans (Same.put hd))
    · rintro σ H1 Q1 Q2 hm ⟨v, hv, i, j, e1, e2, k, e3, q⟩
      exact ⟨v, hv, i, j, e1, e2, k, e3, hm _ _ q⟩
end
end KI
set_option Elab.async false
set_option linter.all false
set_option maxRecDepth 100000
set_option maxHeartbeats 1000000
namespace KI
open PySem PySem.Spec L2 PyProof.Rows SX Tx
/-- a share's text -/
def shL (t n : Nat) : List Nat := if n = 1 then dg t else dg t ++ (47 :: dg n)
def spStrL (C : Addr) : Sp := fun vs H Q _ => ∃ (a dx : Addr) (t n : Nat), vs = [.ref a] ∧ H a = some (.ins C dx (shF (t : Int) (n : Int))) ∧ t < 2 ^ 1400 ∧ n < 2 ^ 1400 ∧ ∀ H', Same H H' → Q (.str (S (shL t n))) H'
theorem dgS_len {n : Nat} (h : n < 2 ^ 1400) : (S (dg n)).length ≤ 1400 := by
  rw [S_len]
  exact dg_len 1399 n (Nat.lt_of_lt_of_le h (Nat.pow_le_pow_left (by decide) _))
section
variable {P : Program} {w : World} {K : PySem.W.Frag} {mg : Str → Option Value} {base : Heap} {C B : Addr}
abbrev s_str : Stmt := inClass (top 20) 9
theorem sc_str : FnScope ["self"] ["self"] (defScope s_str) := ⟨rfl, rfl, rfl, by decide +kernel, rfl, by decide +kernel, by decide +kernel⟩
theorem ok_str {f : Addr} {fd : FuncData} (F : Fun K "__str__" "Share.__str__" s_str f fd) (T : ShT K mg C) (c_digits : Cal P w K mg base 1 "digits" ["number"] spDigL) :
    FnOk P w K mg base CX0 2 f fd ["self"] (spStrL C) := by
  refine F.ok sc_str (fun vs H Q E h => ?_) (fun cdv A outer s H vs Q E hr h => ?_)
  · obtain ⟨a, dx, t, n, rfl, _⟩ := h
    rfl
  · obtain ⟨a, dx, t, n, rfl, ha, ht, hn, k⟩ := h
    refine ⟨_, (pss_cons (ps_if (pt_cmpR op_eq (pe_fld (pv 0) rfl) pe_int (nomark _))
        (pss_one (ps_ret (pe_joined1 (pe_fmt (pe_cal c_digits (hr.mono (by decide)) rfl (pa_cons (pe_fld (pv 0) rfl) pa_nil))))))
        pss_nil)
      (pss_one (ps_ret (pe_joined (.cons (pe_fmt (pe_cal c_digits (hr.mono (by decide)) rfl (pa_cons (pe_fld (pv 0) rfl) pa_nil))) (.cons pe_str (.cons (pe_fmt (pe_cal c_digits (hr.mono (by decide)) rfl (pa_cons (pe_fld (pv 0) rfl) pa_nil))) .nil))))))), ?_⟩
    have lt := dgS_len ht
    have ln := dgS_len hn
    have lt' := lt
    have ln' := ln
    rw [S_len] at lt' ln'
    refine ⟨_, rfl, a, C, dx, _, _, rfl, ha, T.it.cl, T.nB, shF_bottom _ _, rfl, _, rfl, iteB (fun z => ?_) (fun z => ?_)⟩
    · have e : n = 1 := by have := of_decide_eq_true z; rw [V.int.injEq] at this; omega
      refine ⟨_, rfl, a, C, dx, _, _, rfl, ha, T.it.cl, T.nT, shF_top _ _, t, rfl, ht, fun H' hs => .inl ⟨_, rfl, ?_, ?_⟩⟩
      · exact Nat.le_trans lt (by decide)
      · have q := k H' hs
        unfold shL at q
        rw [if_pos e] at q
        exact q
    · have e : ¬ n = 1 := fun q => of_decide_eq_false z (by rw [q]; rfl)
      have sl : Str.ofString "/" = S [47] := rfl
      have em : (Str.empty : Str) = S [] := rfl
      refine ⟨_, rfl, a, C, dx, _, _, rfl, ha, T.it.cl, T.nT, shF_top _ _, t, rfl, ht, fun H' hs => .inl ⟨_, rfl, Nat.le_trans lt (by decide), _, rfl, ?_, ?_⟩⟩
      · rw [em, S_cat, S_len, List.nil_append, ← S_len]
        exact Nat.le_trans lt (by decide)
      · refine ⟨_, rfl, ?_, ?_⟩
        · rw [em, sl, S_cat, S_cat, S_len, List.length_append, List.length_append]
          exact Nat.le_trans (show 0 + (dg t).length + 1 ≤ 1401 by omega) (by decide)
        · refine ⟨_, rfl, a, C, dx, _, _, rfl, hs _ _ ha, T.it.cl, T.nB, shF_bottom _ _, n, rfl, hn, fun H2 hs2 => .inl ⟨_, rfl, Nat.le_trans ln (by decide), _, rfl, ?_, ?_⟩⟩
          · rw [em, sl, S_cat, S_cat, S_cat, S_len, List.length_append, List.length_append, List.length_append]
            exact Nat.le_trans (show 0 + (dg t).length + 1 + (dg n).length ≤ 2801 by omega) (by decide)
          · show Q (.str (Str.empty ++ S (dg t) ++ Str.ofString "/" ++ S (dg n))) H2
            have q := k H2 (hs.trans hs2)
            unfold shL at q
            rw [if_neg e] at q
            rw [em, sl, S_cat, S_cat, S_cat, show ([] : List Nat) ++ dg t ++ [47] ++ dg n = dg t ++ (47 :: dg n) by simp]
            exact q
end
/-- __str__ of the class -/
structure StrT (P : Program) (w : World) (K : PySem.W.Frag) (mg : Str → Option Value) (base : Heap) (C : Addr) : Prop where
  ex : ∃ (f : Addr) (fd : FuncData), PySem.W.findIn K (.ref C) "__str__" = some (some (.ref f)) ∧ PySem.W.isFn K (.ref f) = true ∧ FnOk P w K mg base CX0 2 f fd ["self"] (spStrL C) ∧ Binds K fd ["self"] []
/-- str(share) -/
def rStrS (C : Addr) : List V → Hp → VK → Prop := fun xs H Q => ∃ (a dx : Addr) (t n : Nat), xs = [.ref a] ∧ H a = some (.ins C dx (shF (t : Int) (n : Int))) ∧ t < 2 ^ 1400 ∧ n < 2 ^ 1400 ∧ ∀ H', Same H H' → Q (.str (S (shL t n))) H'
theorem call_strS {X : Cx} {C : Addr} (c : StrT X.prog X.w X.K X.mg X.base C) (hr : Room 4 X.A) : CallR X (.type "str") (rStrS C) := by
  intro pins s σ H xs us Q I r h
  obtain ⟨a, dx, t, n, rfl, ha, ht, hn, q⟩ := h
  obtain ⟨f, fd, hs, hf, F, hb⟩ := c.ex
  obtain ⟨u, rfl, ru⟩ := vals1 r
  obtain rfl : u = Value.ref a := ru
  obtain ⟨mA, J, _⟩ := ins_get I.hok ha
  obtain ⟨od, J, _⟩ := J.look
  have hr2 : Room 2 X.A.in1.in1 := hr.in1.in1
  refine PySem.W.kso_call (hr2.units0) I.kIn J hs hf ?_
  have e0 : Env0 X.prog X.w X.K X.mg X.base X.A.in1.in1 X.stack s H := by
    have e := I.env0
    exact ⟨e.frames, e.mod, e.bs, e.bsz, e.funs, e.frf, e.hok, e.bare⟩
  have hsp : spStrL C [.ref a] H (fun v H' => v = .str (S (shL t n)) ∧ Same H H') E0 := ⟨a, dx, t, n, rfl, ha, ht, hn, fun H' hs => ⟨rfl, hs⟩⟩
  have hl := F.len _ _ _ _ hsp
  have r2 : Vals [V.ref a] [Value.ref a] := .cons rfl .nil
  refine wpAny_call (codeAny_mono (F.run X.A.in1.in1 X.stack s H ⟨[.ref a], []⟩ [.ref a] [.ref a] _ E0 hr2 e0 (by
    have := hb s [.ref a] I.kIn (by simpa using hl)
    simpa using this) r2 hsp) fun r s' hq => ?_)
  cases r with
  | error e => exact hq.elim
  | ok fl =>
    cases fl with
    | ret w =>
      obtain ⟨z, H', I', rz, ez, ex⟩ := I.after hq
      subst ez
      obtain ⟨tk, rfl⟩ := (show ∃ tk, w = Value.str (S (shL t n)) tk from rz)
      exact ⟨.str (S (shL t n)), H', I', ⟨tk, rfl⟩, q H' ex⟩
    | next => exact False.elim hq
    | brk => exact False.elim hq
    | cont => exact False.elim hq
end KI
set_option Elab.async false
set_option linter.all false
set_option maxRecDepth 100000
set_option maxHeartbeats 1000000
namespace KI
open PySem L2
/-! ### label, with_label -/
def spChLabel (C CC : Addr) : Sp := fun vs H Q _ => ∃ (o : Addr) (n : Nat) (rws : List (List Nat)) (ls : List Str) (s : Nat), vs = [.ref o, .int (s : Int)] ∧ IsCh C CC H o n rws ls ∧ s < n ∧ ∀ x, ls[s]? = some x → Q (.str x) H
structure LabT (P : Program) (w : World) (K : PySem.W.Frag) (mg : Str → Option Value) (base : Heap) (C CC : Addr) : Prop where
  ex : ∃ (f : Addr) (fd : FuncData), Meth K CC "label" f ∧ FnOk P w K mg base CX0 5 f fd ["self", "state"] (spChLabel C CC) ∧ Binds K fd ["self", "state"] []
def spWithLabel (C CC : Addr) : Sp := fun vs H Q _ => ∃ (o : Addr) (n : Nat) (rws : List (List Nat)) (ls : List Str) (s : Nat) (nm : Str), vs = [.ref o, .int (s : Int), .str nm] ∧ n ≤ 8 ∧ IsCh C CC H o n rws ls ∧ s < n ∧ Nam nm ∧
  ∀ (x : Addr) (H' : Hp), Same H H' → IsCh C CC H' x n rws (ls.set s nm) → Q (.ref x) H'
structure WlT (P : Program) (w : World) (K : PySem.W.Frag) (mg : Str → Option Value) (base : Heap) (C CC : Addr) : Prop where
  ex : ∃ (f : Addr) (fd : FuncData), Meth K CC "with_label" f ∧ FnOk P w K mg base CX0 14 f fd ["self", "state", "name"] (spWithLabel C CC) ∧ Binds K fd ["self", "state", "name"] []
structure WrT (P : Program) (w : World) (K : PySem.W.Frag) (mg : Str → Option Value) (base : Heap) (C CC : Addr) : Prop where
  ex : ∃ (f : Addr) (fd : FuncData), Meth K CC "with_row" f ∧ FnOk P w K mg base CX0 14 f fd ["self", "state", "spread"] (spWithRow C CC) ∧ Binds K fd ["self", "state", "spread"] []
section
variable {P : Program} {w : World} {K : PySem.W.Frag} {mg : Str → Option Value} {base : Heap} {C CC B BD : Addr}
abbrev s_chlabel : Stmt := inClass (top 29) 2
theorem sc_chlabel : FnScope ["self", "state"] ["self", "state"] (defScope s_chlabel) := ⟨rfl, rfl, rfl, by decide +kernel, rfl, by decide +kernel, by decide +kernel⟩
theorem ok_chlabel {f : Addr} {fd : FuncData} (F : Fun K "label" "Chain.label" s_chlabel f fd) (t : ChT K mg CC) (c : CalX P w K mg base 4 "check_state" ["size", "state"] (spCheck K C CC B)) : FnOk P w K mg base CX0 5 f fd ["self", "state"] (spChLabel C CC) := by
  refine F.ok sc_chlabel (fun vs H Q E h => ?_) (fun cdv A outer s H vs Q E hr h => ?_)
  · obtain ⟨o, n, rws, ls, st, rfl, _⟩ := h
    rfl
  · obtain ⟨o, n, rws, ls, st, rfl, ⟨dx, T, lb, rs, h1, h2, h3, h4, h5, h6, h7⟩, hs, k⟩ := h
    refine ⟨_, (pss_cons (ps_expr (pe_calx c (hr.mono (by decide)) rfl (pa_cons (pe_fld (pv 0) rfl) (pa_cons (pv 1) pa_nil))))
      (pss_one (ps_ret (pe_ix ix_tup (pe_fld (pv 0) rfl) (pv 1) (fun _ _ => rfl))))), ?_⟩
    have gs : ls[st]? = some (ls[st]'(by have := h7.1; omega)) := List.getElem?_eq_getElem (by have := h7.1; omega)
    refine ⟨_, rfl, o, CC, dx, _, _, rfl, h1, t.it.cl, t.nS, chF_size _ _ _, _, rfl, (n : Int), .int (st : Int), rfl, .th (.fo (.int _)), .inl ⟨int_btw hs, ?_⟩⟩
    refine ⟨_, rfl, o, CC, dx, _, _, rfl, h1, t.it.cl, t.nL, chF_labels _ _ _, _, rfl, lb, _, (st : Int), _, rfl, rfl, SqT.of h6, atI_nat (sV_at gs), ?_⟩
    exact k _ gs
abbrev s_withlab : Stmt := inClass (top 29) 4
theorem sc_withlab : FnScope ["self", "state", "name"] ["self", "state", "name"] (defScope s_withlab) := ⟨rfl, rfl, rfl, by decide +kernel, rfl, by decide +kernel, by decide +kernel⟩
theorem ok_withlab {f : Addr} {fd : FuncData} (F : Fun K "with_label" "Chain.with_label" s_withlab f fd) (t : ChT K mg CC) (m : MkC P w K mg base C CC) (c : CalX P w K mg base 4 "check_state" ["size", "state"] (spCheck K C CC B)) : FnOk P w K mg base CX0 14 f fd ["self", "state", "name"] (spWithLabel C CC) := by
  refine F.ok sc_withlab (fun vs H Q E h => ?_) (fun cdv A outer s H vs Q E hr h => ?_)
  · obtain ⟨o, n, rws, ls, st, nm, rfl, _⟩ := h
    rfl
  · obtain ⟨o, n, rws, ls, st, nm, rfl, n8, ch, hs, hnm, k⟩ := h
    refine ⟨_, (pss_cons (ps_expr (pe_calx c (hr.mono (by decide)) rfl (pa_cons (pe_fld (pv 0) rfl) (pa_cons (pv 1) pa_nil))))
      (pss_one (ps_ret (pe_chn m hr rfl (pa_cons (pe_fld (pv 0) rfl) (pa_cons (pe_op op_catA (pe_op op_catA (pe_slice sl_tupA (pe_fld (pv 0) rfl) po_none (po_some (pv 1))) (pe_tup (pa_cons (pv 2) pa_nil))) (pe_slice sl_tupA (pe_fld (pv 0) rfl) (po_some (pe_op op_add (pv 1) pe_int)) po_none)) pa_nil)))))), ?_⟩
    obtain ⟨dx, T, lb, rs, h1, h2, h3, h4, h5, h6, h7⟩ := id ch
    refine ⟨_, rfl, o, CC, dx, _, _, rfl, h1, t.it.cl, t.nS, chF_size _ _ _, _, rfl, (n : Int), .int (st : Int), rfl, .th (.fo (.int _)), .inl ⟨int_btw hs, ?_⟩⟩
    have lls : (sV ls).length = n := by rw [sV_len, h7.1]
    refine ⟨_, rfl, o, CC, dx, _, _, rfl, h1, t.it.cl, t.nR, chF_rows _ _ _, ?_⟩
    refine ⟨_, rfl, o, CC, dx, _, _, rfl, h1, t.it.cl, t.nL, chF_labels _ _ _, ?_⟩
    refine ⟨_, rfl, _, rfl, sl_any h6 fun p1 H1 s1 e1 => ?_⟩
    rw [cut_to (by rw [lls]; exact hs)] at e1
    refine ⟨_, rfl, by (show 1 ≤ sizeLine; decide), fun p2 n2 => ?_⟩
    have s2 := Same.put (o := .tup [.str nm]) n2
    have e2 : (upd H1 p2 (.tup [.str nm])) p2 = some (.tup [.str nm]) := upd_same
    have s12 := s1.trans s2
    have e12 := s2 _ _ e1
    generalize (upd H1 p2 (.tup [.str nm])) = H2 at s12 e12 e2 ⊢
    refine cat_any e12 e2 (by rw [List.length_take, lls]; show _ + 1 ≤ _; exact Nat.le_of_lt (small_len (by omega))) fun p3 H3 s3 e3 => ?_
    have s13 := s12.trans s3
    refine ⟨_, rfl, o, CC, dx, _, _, rfl, s13 _ _ h1, t.it.cl, t.nL, chF_labels _ _ _, ?_⟩
    refine ⟨_, rfl, _, _, rfl, rfl, _, rfl, ?_⟩
    rw [show ((st : Int) + 1) = ((st + 1 : Nat) : Int) from rfl]
    dsimp only [tNoPart]
    refine sl_any (s13 _ _ h6) fun p4 H4 s4 e4 => ?_
    rw [cut_from' (by rw [lls]; exact hs)] at e4
    have s14 := s13.trans s4
    refine cat_any (s4 _ _ e3) e4 (by rw [List.length_append, List.length_take, List.length_drop, lls]; show _ + 1 + _ ≤ _; exact Nat.le_of_lt (small_len (by omega))) fun p5 H5 s5 e5 => ?_
    have s15 := s14.trans s5
    have er : (sV ls).take st ++ [V.str nm] ++ (sV ls).drop (st + 1) = sV (ls.set st nm) := by
      rw [List.set_eq_take_append_cons_drop, if_pos (by rw [h7.1]; exact hs)]
      simp only [sV, List.map_append, List.map_take, List.map_drop, List.map_cons, List.append_assoc, List.cons_append, List.nil_append]
    rw [er] at e5
    intro x dx2 hx hd ne
    refine chn_go hx hd ne (by omega) n8 (s15 _ _ h2) h3 (fun r m => ((h4 r m).same s15).inn) e5 ⟨by rw [List.length_set]; exact h7.1, fun y my => ?_⟩ fun H' s' ic => ⟨rfl, ?_⟩
    · rcases List.mem_or_eq_of_mem_set my with my | rfl
      · exact h7.2 y my
      · exact hnm
    · rw [h5] at ic
      exact k x H' (s15.trans s') ic
end
end KI
set_option Elab.async false
set_option linter.all false
set_option maxRecDepth 100000
set_option maxHeartbeats 1000000
namespace KI
open PySem L2 SX Tx
/-! ### a chain's text -/
/-- the text of the share w of W -/
def wdL (W w : Nat) : List Nat := shL (lowT (w : Int) (W : Int)).toNat (lowB (w : Int) (W : Int)).toNat
def wordsL (ws : List Nat) : List (List Nat) := ws.map (wdL ws.sum)
def lineL (x : Str) (ws : List Nat) : List Nat := x.cps.toList ++ (58 :: 32 :: TL.joinL [32] (wordsL ws))
def linesL (ls : List Str) (rws : List (List Nat)) : List (List Nat) := List.zipWith lineL ls rws
def closeL (ps : List (List Nat)) : List Nat := (ps.map (· ++ [10])).flatten
def textL (ls : List Str) (rws : List (List Nat)) : List Nat := closeL (linesL ls rws)
abbrev sL (ps : List (List Nat)) : List V := (ps.map S).map V.str
theorem sL_len {ps : List (List Nat)} : (sL ps).length = ps.length := by rw [List.length_map, List.length_map]
theorem sL_snoc (ps : List (List Nat)) (x : List Nat) : sL ps ++ [V.str (S x)] = sL (ps ++ [x]) := strs_snoc ps x
theorem sL_at {ps : List (List Nat)} {i : Nat} {y : V} (h : (sL ps)[i]? = some y) : ∃ p, ps[i]? = some p ∧ p ∈ ps ∧ y = .str (S p) := by
  rw [List.getElem?_map, List.getElem?_map] at h
  cases e : ps[i]? with
  | none => rw [e] at h; cases h
  | some p => rw [e] at h; exact ⟨p, rfl, List.mem_of_getElem? e, (Option.some.inj h).symm⟩
theorem sum_len {b : Nat} {ps : List (List Nat)} (h : ∀ p ∈ ps, p.length ≤ b) : ((ps.map S).map (·.length)).sum ≤ ps.length * b := by
  rw [lens]
  have := sum_le (b := b) (ps.map (·.length)) fun x m => by
    obtain ⟨p, mp, rfl⟩ := List.mem_map.mp m
    exact h p mp
  rwa [List.length_map] at this
def tJd (ts : List TE) : TE := fun σ H Q => tJs ts Str.empty σ H fun out H1 => Q (.str out) H1
/-- closed_rows(rows) -/
def spClosed : Sp := fun vs H Q _ => ∃ (l : Addr) (ps : List (List Nat)), vs = [.ref l] ∧ H l = some (.lst (sL ps)) ∧ ps.length ≤ 8 ∧ (∀ p ∈ ps, p.length ≤ 30000) ∧ ∀ H', Same H H' → Q (.str (S (closeL ps))) H'
section
variable {P : Program} {w : World} {K : PySem.W.Frag} {mg : Str → Option Value} {base : Heap} {C CC B : Addr}
abbrev s_closed : Stmt := top 33
theorem sc_closed : FnScope ["rows", "row"] ["rows"] (defScope s_closed) := ⟨rfl, rfl, rfl, by decide +kernel, rfl, by decide +kernel, by decide +kernel⟩
theorem ok_closed {f : Addr} {fd : FuncData} (F : Fun K "closed_rows" "closed_rows" s_closed f fd) (T : Bm mg) : FnOk P w K mg base CX0 1 f fd ["rows"] spClosed := by
  refine F.ok sc_closed (fun vs H Q E h => ?_) (fun cdv A outer s H vs Q E hr h => ?_)
  · obtain ⟨l, ps, rfl, _⟩ := h
    rfl
  · obtain ⟨l, ps, rfl, el, l8, lp, k⟩ := h
    refine ⟨_, (pss_one (ps_ret (pe_join pe_str (pe_lc (own := [("row", 1)]) rfl sc_closed.nd (pi_list (pv 0)) (blkOk_by (N := ["rows", "row"]) (sc := defScope s_closed) (by decide +kernel)) (fun _ _ _ _ _ => (pg_name (i := 1) sc_closed.nd rfl (Or.inl rfl))) (fun _ _ _ _ _ => pts_nil) (fun _ _ _ _ _ => (show PE _ _ (tJd [tFmt (tVar 1), tC (.str (Str.ofString "\n"))]) from pe_joined (.cons (pe_fmt (pv 1)) (.cons pe_str .nil)))))))), ?_⟩
    refine ⟨⟨_, rfl⟩, _, rfl, l, rfl, ⟨_, SqL.of el⟩, fun D nD => ?_⟩
    refine lc_list (K := K) (a := l) (xs := sL ps) (fun i H' => Same H H' ∧ H' D = some (.lst (sL ((ps.take i).map (· ++ [10]))))) ⟨Same.put nD, upd_same⟩ (fun i H' _ h => SqL.of (h.1 _ _ el)) ?_ ?_
    · rintro i y H' hy ⟨s1, eD⟩
      obtain ⟨p, hp, mp, rfl⟩ := sL_at hy
      have il := (List.getElem?_eq_some_iff.mp hp).1
      have pl := lp p mp
      refine ⟨rfl, yes_of ?_⟩
      have em : (Str.empty : Str) = S [] := rfl
      have nl : Str.ofString "\n" = S [10] := rfl
      have ll : ∀ x : List Nat, x.length ≤ 30001 → (S x).length ≤ 16777216 := fun x h => by rw [S_len]; omega
      refine ⟨_, rfl, .inl ⟨_, rfl, ll p (by omega), _, rfl, ?_, ?_⟩⟩
      · rw [em, S_cat]
        exact ll _ (by rw [List.nil_append]; omega)
      · refine ⟨_, rfl, ?_, ?_⟩
        · rw [em, S_cat, nl, S_cat]
          exact ll _ (by rw [List.nil_append, List.length_append]; show p.length + 1 ≤ _; omega)
        · rw [em, S_cat, nl, S_cat, List.nil_append]
          refine ⟨_, eD, by rw [sL_len, List.length_map, List.length_take]; exact small_len (by omega), Same.but s1 nD, ?_⟩
          rw [upd_same, sL_snoc, take_more hp, List.map_append]
          rfl
    · rintro H' ⟨s1, eD⟩
      rw [sL_len, List.take_length] at eD
      have q := k H' s1
      refine ⟨_, D, (ps.map (· ++ [10])).map S, rfl, rfl, .inl (SqL.of eD), ?_, ?_⟩
      · have := sum_len (b := 30001) (ps := ps.map (· ++ [10])) fun p mp => by
          obtain ⟨r, mr, rfl⟩ := List.mem_map.mp mp
          have := lp r mr
          rw [List.length_append]
          show r.length + 1 ≤ _
          omega
        rw [List.length_map] at this
        have e0 : (Str.ofString "").length = 0 := rfl
        rw [e0, Nat.mul_zero]
        have h2 : ps.length * 30001 ≤ 8 * 30001 := Nat.mul_le_mul_right _ l8
        omega
      · rw [show Str.ofString "" = S [] from rfl, join_S, joinL_flat]
        exact q
end
end KI
set_option Elab.async false
set_option linter.all false
set_option maxRecDepth 100000
set_option maxHeartbeats 1000000
namespace KI
open PySem L2 SX Tx
theorem low_nat {w W : Nat} (hW : 0 < W) : lowT (w : Int) (W : Int) = (((lowT (w : Int) (W : Int)).toNat : Nat) : Int) ∧ lowB (w : Int) (W : Int) = (((lowB (w : Int) (W : Int)).toNat : Nat) : Int) := by
  have hp := lowB_pos (a := (w : Int)) (b := (W : Int)) (by omega)
  have c := low_cross (w : Int) (W : Int)
  have h0 : 0 ≤ lowT (w : Int) (W : Int) := by
    have h1 : 0 ≤ lowT (w : Int) (W : Int) * (W : Int) := by
      rw [c]
      exact Int.mul_nonneg (by omega) (by omega)
    exact Int.nonneg_of_mul_nonneg_left h1 (by omega)
  exact ⟨(Int.toNat_of_nonneg h0).symm, (Int.toNat_of_nonneg (by omega)).symm⟩
theorem low_bd {n w : Nat} {ws : List Nat} (h : Tpg n ws) (n8 : n ≤ 8) (m : w ∈ ws) : (lowT (w : Int) (ws.sum : Int)).toNat < 2 ^ 1400 ∧ (lowB (w : Int) (ws.sum : Int)).toNat < 2 ^ 1400 := by
  have h1 := lowT_le (a := (w : Int)) (b := (ws.sum : Int)) (by have := h.2.1; omega)
  have h2 := lowB_le (a := (w : Int)) (b := (ws.sum : Int)) (by have := h.2.1; omega)
  have h3 := h.2.2 w m
  have h4 := tpg_sum h n8
  have e1 : (2 : Nat) ^ 1300 < 2 ^ 1400 := by decide +kernel
  have e2 : 8 * (2 : Nat) ^ 1300 < 2 ^ 1400 := by decide +kernel
  generalize (2 : Nat) ^ 1300 = x at *
  generalize (2 : Nat) ^ 1400 = y at *
  constructor <;> omega
theorem shL_len {t n : Nat} (ht : t < 2 ^ 1400) (hn : n < 2 ^ 1400) : (shL t n).length ≤ 2801 := by
  have a := dgS_len ht
  have b := dgS_len hn
  rw [S_len] at a b
  unfold shL
  split
  · omega
  · rw [List.length_append, List.length_cons]; omega
theorem joinL_len {b : Nat} : ∀ {ps : List (List Nat)}, (∀ p ∈ ps, p.length ≤ b) → (TL.joinL [32] ps).length ≤ ps.length * (b + 1)
  | [], _ => Nat.le_of_eq (by simp [TL.joinL])
  | [p], h => by
    have := h p List.mem_cons_self
    show p.length ≤ 1 * (b + 1)
    omega
  | p :: q :: r, h => by
    have h1 := h p List.mem_cons_self
    have h2 := joinL_len (ps := q :: r) fun x m => h x (List.mem_cons_of_mem _ m)
    show (p ++ ([32] ++ TL.joinL [32] (q :: r))).length ≤ (r.length + 1 + 1) * (b + 1)
    rw [List.length_append, List.length_append]
    rw [List.length_cons] at h2
    rw [Nat.succ_mul]
    show p.length + (1 + _) ≤ _
    omega
theorem wordsL_len {n : Nat} {ws : List Nat} (h : Tpg n ws) (n8 : n ≤ 8) : ∀ p ∈ wordsL ws, p.length ≤ 2801 := fun p m => by
  obtain ⟨x, mx, rfl⟩ := List.mem_map.mp m
  obtain ⟨h1, h2⟩ := low_bd h n8 mx
  exact shL_len h1 h2
theorem lineL_len {n : Nat} {x : Str} {ws : List Nat} (h : Tpg n ws) (n8 : n ≤ 8) (hx : x.cps.toList.length ≤ 8) : (lineL x ws).length ≤ 30000 := by
  have jl := joinL_len (wordsL_len h n8)
  have lw : (wordsL ws).length = n := by unfold wordsL; rw [List.length_map]; exact h.1
  have jl : (TL.joinL [32] (wordsL ws)).length ≤ 8 * 2802 := Nat.le_trans jl (Nat.mul_le_mul_right _ (by omega))
  unfold lineL
  rw [List.length_append, List.length_cons, List.length_cons]
  omega
theorem linesL_mem {ls : List Str} {rws : List (List Nat)} {p : List Nat} (h : p ∈ linesL ls rws) : ∃ x ws, x ∈ ls ∧ ws ∈ rws ∧ p = lineL x ws := by
  obtain ⟨i, hi⟩ := List.mem_iff_getElem?.mp h
  unfold linesL at hi
  rw [List.getElem?_zipWith] at hi
  cases e1 : ls[i]? with
  | none => rw [e1] at hi; cases hi
  | some x =>
    cases e2 : rws[i]? with
    | none => rw [e1, e2] at hi; cases hi
    | some ws =>
      rw [e1, e2] at hi
      exact ⟨x, ws, List.mem_of_getElem? e1, List.mem_of_getElem? e2, (Option.some.inj hi).symm⟩
/-- written(chain) -/
def spWritten (C CC : Addr) : Sp := fun vs H Q _ => ∃ (o : Addr) (n : Nat) (rws : List (List Nat)) (ls : List Str), vs = [.ref o] ∧ n ≤ 8 ∧ IsCh C CC H o n rws ls ∧ ∀ H', Same H H' → Q (.str (S (textL ls rws))) H'
section
variable {P : Program} {w : World} {K : PySem.W.Frag} {mg : Str → Option Value} {base : Heap} {C CC B : Addr}
abbrev s_written : Stmt := top 34
abbrev nWr : List Str := ["chain", "rows", "state", "shares", "share"]
theorem sc_written : FnScope nWr ["chain"] (defScope s_written) := ⟨rfl, rfl, rfl, by decide +kernel, rfl, by decide +kernel, by decide +kernel⟩
theorem ok_written {f : Addr} {fd : FuncData} (F : Fun K "written" "written" s_written f fd) (T : Bm mg) (t : ChT K mg CC) (st : StrT P w K mg base C) (rt : RowT P w K mg base C CC) (lt : LabT P w K mg base C CC) (c_cl : Cal P w K mg base 1 "closed_rows" ["rows"] spClosed) : FnOk P w K mg base CX0 6 f fd ["chain"] (spWritten C CC) := by
  obtain ⟨g, gd, M, G, bG⟩ := rt.ex
  obtain ⟨g2, gd2, M2, G2, bG2⟩ := lt.ex
  refine F.ok sc_written (fun vs H Q E h => ?_) (fun cdv A outer s H vs Q E hr h => ?_)
  · obtain ⟨o, n, rws, ls, rfl, _⟩ := h
    rfl
  · obtain ⟨o, n, rws, ls, rfl, n8, ch, k⟩ := h
    refine ⟨_, (pss_cons (ps_set (i := 1) sc_written.nd rfl (Or.inl rfl) (pe_lst pa_nil))
      (pss_cons (ps_for PassesOwn.never rfl (pi_range1 (by rfl) T.n_range (pa_cons (pe_fld (pv 0) rfl) pa_nil)) (pg_name (i := 2) sc_written.nd rfl (Or.inl rfl))
        (pss_cons (ps_set (i := 3) sc_written.nd rfl (Or.inl rfl) (pe_join pe_str (pe_lc (own := [("share", 4)]) rfl sc_written.nd (pi_tup (pe_meth (pl := _) (pv 0) t.it.cl M G (hr.mono (by decide)) bG .nil pass0 (pa_cons (pv 2) pa_nil))) (blkOk_by (N := nWr) (sc := defScope s_written) (by decide +kernel)) (fun _ _ _ _ _ => (pg_name (i := 4) sc_written.nd rfl (Or.inl rfl))) (fun _ _ _ _ _ => pts_nil) (fun _ _ _ _ _ => (pe_callTy (show CallR _ _ (rStrS C) from call_strS st (hr.mono (by decide))) (by rfl) T.b.n_str (by decide +kernel) (pa_cons (pv 4) pa_nil))))))
          (pss_one (ps_expr (pe_bm PySem.F.plainAttrs_list PySem.F.slot_list_append PySem.F.type_list_append mt_append (pv 1) (pa_cons (pe_joined (.cons (pe_fmt (pe_meth (pl := _) (pv 0) t.it.cl M2 G2 (hr.mono (by decide)) bG2 .nil pass0 (pa_cons (pv 2) pa_nil))) (.cons pe_str (.cons (pe_fmt (pv 3)) .nil)))) pa_nil))))))
      (pss_one (ps_ret (pe_cal c_cl (hr.mono (by decide)) rfl (pa_cons (pv 1) pa_nil)))))), ?_⟩
    obtain ⟨dx, T0, lb, rs, h1, h2, h3, h4, h5, h6, h7⟩ := id ch
    have ll : ∀ x : List Nat, x.length ≤ 30001 → (S x).length ≤ 16777216 := fun x h => by rw [S_len]; omega
    have lrw : rws.length = n := by rw [← h5, List.length_map]; exact h3
    have lls : ls.length = n := h7.1
    have lln : (linesL ls rws).length = n := by unfold linesL; rw [List.length_zipWith, lrw, lls, Nat.min_self]
    refine ⟨by show 0 ≤ sizeLine; decide, fun R nR => ?_⟩
    have s0 := Same.put (o := .lst ([] : List V)) nR
    refine ⟨_, rfl, o, CC, dx, _, _, rfl, s0 _ _ h1, t.it.cl, t.nS, chF_size _ _ _, _, rfl, by omega, by omega, ?_⟩
    rw [Int.toNat_natCast]
    refine for_range (fun i σ H' => ∃ (v2 v3 : Option V), σ = [some (.ref o), some (.ref R), v2, v3, none] ∧ Same H H' ∧ H' R = some (.lst (sL ((linesL ls rws).take i)))) ⟨none, none, rfl, s0, upd_same⟩ ?_ ?_
    · rintro i σ H1 hi ⟨v2, v3, rfl, s1, eR⟩
      rw [Int.zero_add]
      refine ⟨⟨_, rfl⟩, _, rfl, o, dx, _, rfl, s1 _ _ h1, chF_none _ _ _ (by decide +kernel) (by decide +kernel) (by decide +kernel), _, rfl, o, n, rws, ls, i, rfl, ch.same s1, hi, fun b ws hw sh => ?_⟩
      obtain ⟨as, g1, g2, g3, g4⟩ := sh
      refine ⟨b, rfl, ⟨_, SqT.of g1⟩, fun D nD => ?_⟩
      have lw : (wordsL ws).length = n := by unfold wordsL; rw [List.length_map]; exact g3.1
      have wl : ∀ p ∈ wordsL ws, p.length ≤ 2801 := wordsL_len g3 n8
      refine lc_tup (K := K) (a := b) (xs := as.map V.ref) (fun j H' => Same H1 H' ∧ H' D = some (.lst (sL ((wordsL ws).take j)))) ⟨Same.put nD, upd_same⟩ (fun j H' _ h => SqT.of (h.1 _ _ g1)) ?_ ?_
      · rintro j y H' hy ⟨s2, eD⟩
        obtain ⟨a, ha, rfl⟩ := refs_at hy
        obtain ⟨dy, x, q1, q2⟩ := g4 j a ha
        have mx := List.mem_of_getElem? q1
        obtain ⟨e1, e2⟩ := low_nat (w := x) g3.2.1
        obtain ⟨b1, b2⟩ := low_bd g3 n8 mx
        have q3 := s2 _ _ q2
        rw [e1, e2] at q3
        have wj : (wordsL ws)[j]? = some (wdL ws.sum x) := by unfold wordsL; rw [List.getElem?_map, q1]; rfl
        have jl := (List.getElem?_eq_some_iff.mp wj).1
        refine ⟨rfl, yes_of ?_⟩
        refine ⟨_, rfl, a, dy, _, _, rfl, q3, b1, b2, fun H3 s3 => ?_⟩
        refine ⟨_, s3 _ _ eD, by rw [sL_len, List.length_take]; exact small_len (by omega), Same.but (fun b u e => s3 _ _ (s2 _ _ e)) nD, ?_⟩
        rw [upd_same, sL_snoc, take_more wj]
        rfl
      · rintro H2 ⟨s2, eD⟩
        rw [List.length_map, g2, ← lw, List.take_length] at eD
        refine ⟨_, D, (wordsL ws).map S, rfl, rfl, .inl (SqL.of eD), ?_, ?_⟩
        · have := sum_len wl
          have e0 : (Str.ofString " ").length = 1 := rfl
          rw [List.length_map, e0]
          have : (wordsL ws).length * 2801 ≤ 8 * 2801 := Nat.mul_le_mul_right _ (by omega)
          omega
        rw [show Str.ofString " " = S [32] from rfl, join_S]
        have s12 := s1.trans s2
        have eR2 := s2 _ _ eR
        have jl := joinL_len wl
        have jl : (TL.joinL [32] (wordsL ws)).length ≤ 8 * 2802 := Nat.le_trans jl (Nat.mul_le_mul_right _ (by omega))
        refine ⟨_, rfl, .inl ⟨rfl, _, SqL.of eR2⟩, _, rfl, o, dx, _, rfl, s12 _ _ h1, chF_none _ _ _ (by decide +kernel) (by decide +kernel) (by decide +kernel), _, rfl, o, n, rws, ls, i, rfl, ch.same s12, hi, fun x hx => ?_⟩
        have nm := h7.2 x (List.mem_of_getElem? hx)
        have xl : x.cps.toList.length ≤ 8 := nm.2.1
        have ex : x = S x.cps.toList := (S_tl x).symm
        have em : (Str.empty : Str) = S [] := rfl
        have co : Str.ofString ": " = S [58, 32] := rfl
        generalize hq : x.cps.toList = q at xl ex
        subst ex
        refine .inl ⟨_, rfl, ll q (by omega), _, rfl, ?_, ?_⟩
        · rw [em, S_cat]
          exact ll _ (by rw [List.nil_append]; omega)
        refine ⟨_, rfl, ?_, ?_⟩
        · rw [em, co, S_cat, S_cat]
          exact ll _ (by rw [List.nil_append, List.length_append]; show q.length + 2 ≤ _; omega)
        refine ⟨_, rfl, .inl ⟨_, rfl, ll _ (by omega), _, rfl, ?_, ?_⟩⟩
        · rw [em, co, S_cat, S_cat, S_cat]
          exact ll _ (by rw [List.nil_append, List.length_append, List.length_append]; show q.length + 2 + _ ≤ _; omega)
        rw [em, co, S_cat, S_cat, S_cat, List.nil_append]
        have li : (linesL ls rws)[i]? = some (lineL (S q) ws) := by
          unfold linesL
          rw [List.getElem?_zipWith, hx, hw]
        refine ⟨R, _, _, rfl, rfl, eR2, by rw [sL_len, List.length_take]; exact small_len (by omega), _, _, rfl, Same.but s12 nR, ?_⟩
        rw [upd_same, sL_snoc, take_more li]
        have e : q ++ [58, 32] ++ TL.joinL [32] (wordsL ws) = lineL (S q) ws := by
          show _ = q ++ (58 :: 32 :: _)
          rw [List.append_assoc]
          rfl
        rw [e]
    · rintro σ H1 ⟨v2, v3, rfl, s1, eR⟩
      rw [← lln, List.take_length] at eR
      refine ⟨_, rfl, R, linesL ls rws, rfl, eR, by omega, fun p mp => ?_, fun H2 s2 => k H2 (s1.trans s2)⟩
      obtain ⟨x, ws, mx, mw, rfl⟩ := linesL_mem mp
      have tg : Tpg n ws := by
        rw [← h5] at mw
        obtain ⟨r, mr, rfl⟩ := List.mem_map.mp mw
        obtain ⟨_, _, _, g3, _⟩ := h4 r mr
        exact g3
      exact lineL_len tg n8 (h7.2 x mx).2.1
end
end KI
set_option Elab.async false
set_option linter.all false
set_option maxRecDepth 100000
set_option maxHeartbeats 1000000
namespace KI
open PySem L2 SX Tx
def d09 : Str := "0123456789"
theorem d09_tl : d09.cps.toList = [48, 49, 50, 51, 52, 53, 54, 55, 56, 57] := by decide +kernel
theorem d09_mem {c : Nat} (h : 48 ≤ c ∧ c ≤ 57) : c ∈ d09.cps.toList := by
  rw [d09_tl]
  simp only [List.mem_cons, List.not_mem_nil, or_false]
  omega
theorem dg_first {m : Nat} (h : dg m ≠ [48]) : ∃ c, (dg m)[0]? = some c ∧ c ≠ 48 := by
  by_cases c : m < 10
  · rw [dg_small c] at h ⊢
    exact ⟨48 + m, rfl, fun e => h (by rw [e])⟩
  · have h2 := dg_head (n := m) (by omega)
    rw [List.head?_eq_getElem?] at h2
    cases e : (dg m)[0]? with
    | none => exact absurd (List.length_pos_iff.mpr (dg_ne m)) (by have := List.getElem?_eq_none_iff.mp e; omega)
    | some x => exact ⟨x, rfl, fun q => h2 (by rw [e, q])⟩
structure DgG (mg : Str → Option Value) : Prop where
  gM : ∃ t, mg "MOST_DIGITS" = some (.int 100 t)
  gD : ∃ t, mg "DIGITS" = some (.str d09 t)
/-- is_number_word(word), of a number's digits -/
def spNumWord : Sp := fun vs H Q _ => ∃ m : Nat, vs = [.str (S (dg m))] ∧ m < 2 ^ 1400 ∧ ∀ H', Same H H' → Q (.bl (decide ((dg m).length ≤ 100))) H'
section
variable {P : Program} {w : World} {K : PySem.W.Frag} {mg : Str → Option Value} {base : Heap} {C CC B : Addr}
abbrev s_numw : Stmt := top 39
theorem sc_numw : FnScope ["word", "sign"] ["word"] (defScope s_numw) := ⟨rfl, rfl, rfl, by decide +kernel, rfl, by decide +kernel, by decide +kernel⟩
theorem ok_numw {f : Addr} {fd : FuncData} (F : Fun K "is_number_word" "is_number_word" s_numw f fd) (T : Bm mg) (gd : DgG mg) : FnOk P w K mg base CX0 1 f fd ["word"] spNumWord := by
  obtain ⟨tM, gM⟩ := gd.gM
  obtain ⟨tD, gD⟩ := gd.gD
  refine F.ok sc_numw (fun vs H Q E h => ?_) (fun cdv A outer s H vs Q E hr h => ?_)
  · obtain ⟨m, rfl, _⟩ := h
    rfl
  · obtain ⟨m, rfl, hm, k⟩ := h
    refine ⟨_, (pss_cons (ps_if (PW.pt (pw_or (pt_not (pt_chain op_le op_le pe_int (pe_callB call_len_str (by rfl) T.b.n_len PySem.boot_len (pa_cons (pv 0) pa_nil)) (pe_glob (v := .int 100) rfl gM ⟨_, rfl⟩))) (pw_or1 (pt_not (pt_val (pe_callB (cr_all rfl) (by rfl) T.n_all PyProof.Rows.boot_all (pa_cons (pe_lc (own := [("sign", 1)]) rfl sc_numw.nd (pi_str (pv 0)) (blkOk_by (N := ["word", "sign"]) (sc := defScope s_numw) (by decide +kernel)) (fun _ _ _ _ _ => (pg_name (i := 1) sc_numw.nd rfl (Or.inl rfl))) (fun _ _ _ _ _ => pts_nil) (fun _ _ _ _ _ => (pe_cmpR op_in_sign (pv 1) (pe_glob (v := .str d09) rfl gD ⟨_, rfl⟩) (by rfl)))) pa_nil)))))))
        (pss_one (ps_ret pe_bl))
        pss_nil)
      (pss_one (ps_ret (pe_or (pe_cmpR op_eq (pv 0) pe_str (nomark _)) (pe_one (pe_cmpR op_ne (pe_ix ix_str (pv 0) pe_int (fun _ _ => rfl)) pe_str (nomark _))))))), ?_⟩
    have hl : (S (dg m)).length = (dg m).length := S_len _
    have h1 : 1 ≤ (dg m).length := List.length_pos_iff.mpr (dg_ne m)
    have h14 := dgS_len hm
    rw [hl] at h14
    refine ⟨_, rfl, _, rfl, by rw [hl]; exact Nat.le_trans h14 (by decide), 1, _, rfl, rfl, _, rfl, iteTe (decide_eq_true (by rw [hl]; omega)) ?_⟩
    refine ⟨_, 100, rfl, rfl, _, rfl, ?_⟩
    have lenI : decide (((S (dg m)).length : Int) ≤ 100) = decide ((dg m).length ≤ 100) := by rw [hl, decide_eq_decide]; omega
    rw [lenI]
    cases c : decide ((dg m).length ≤ 100) with
    | false =>
      have := k H (Same.refl H)
      rw [c] at this
      exact iteT this
    | true =>
      rw [c] at k
      have c := of_decide_eq_true c
      refine iteF ?_
      refine ⟨_, rfl, S (dg m), rfl, fun D nD => ?_⟩
      let Pv : Nat → Hp → Prop := fun i H' => Same H H' ∧ H' D = some (.lst ((List.replicate i true).map V.bl))
      have hs : (S (dg m)).cps.size = (dg m).length := by simp
      refine ⟨fun i j H' => j + i = (S (dg m)).cps.size ∧ Pv i H', ⟨(S (dg m)).cps.size, rfl, Same.put nD, upd_same⟩, fun i j H1 ⟨em, p⟩ => ?_⟩
      cases j with
      | zero =>
        refine .inl ⟨show (S (dg m)).cps.size ≤ i by omega, D, _, rfl, SqL.of p.2, ?_⟩
        have e : (List.replicate i true).all id = true := List.all_eq_true.mpr fun b m => List.eq_of_mem_replicate m
        rw [e]
        refine ⟨true, rfl, iteF ?_⟩
        have q := k H1 p.1
        refine ⟨_, rfl, rfl, _, rfl, iteB (fun z => ?_) (fun z => ?_)⟩
        · exact q
        · obtain ⟨c, hc, c48⟩ := dg_first (m := m) (fun e => of_decide_eq_false z (by rw [e]; rfl))
          refine ⟨_, rfl, _, 0, c, rfl, rfl, by rw [hl]; exact Nat.le_trans h14 (by decide), atI_nat (j := 0) hc, rfl, ?_⟩
          have e : decide (V.str ⟨#[c]⟩ = V.str (Str.ofString "0")) = false := decide_eq_false fun e => by
            rw [V.str.injEq] at e
            have e2 : ([c] : List Nat) = [48] := S_inj (a := [c]) (b := [48]) e
            exact c48 (List.cons.inj e2).1
          rw [e]
          exact q
      | succ j =>
        refine .inr ⟨show i < (S (dg m)).cps.size by omega, Pv (i + 1), fun H' p' => ⟨j, Nat.lt_succ_self j, by omega, p'⟩, fun v H' y => ?_⟩
        obtain ⟨e, c', hc, rfl⟩ := y
        subst e
        have mc : c' ∈ dg m := by
          have := Array.mem_of_getElem? hc
          exact Array.mem_toList_iff.mpr this
        refine ⟨rfl, yes_of ?_⟩
        refine ⟨_, rfl, c', d09, rfl, rfl, ?_⟩
        rw [decide_eq_true (d09_mem (dg_digit m c' mc))]
        refine ⟨_, p.2, by rw [List.length_map, List.length_replicate]; exact small_len (by omega), Same.but (fun b u e => p.1 _ _ e) nD, ?_⟩
        rw [upd_same, List.replicate_succ', List.map_append]
        rfl
end
end KI
set_option Elab.async false
set_option linter.all false
set_option maxRecDepth 100000
set_option maxHeartbeats 1000000
namespace KI
open PySem L2 SX Tx
/-- its numbers have no more than 100 digits -/
def shOk (t n : Nat) : Bool := decide ((dg t).length ≤ 100) && decide ((dg n).length ≤ 100)
/-- told_share(word), of the word of a share -/
def spTold (C : Addr) : Sp := fun vs H Q _ => ∃ t n : Nat, vs = [.str (S (shL t n))] ∧ t < 2 ^ 1400 ∧ n < 2 ^ 1400 ∧ 0 < n ∧ Nat.gcd t n = 1 ∧
  (shOk t n = true → ∀ (a dx : Addr) (H' : Hp), Same H H' → H' a = some (.ins C dx (shF (t : Int) (n : Int))) → Q (.ref a) H') ∧ (shOk t n = false → ∀ H', Same H H' → Q .non H')
theorem dg_one : dg 1 = [49] := dg_small (by decide)
theorem slash_free (m : Nat) : 47 ∉ dg m := fun h => by have := dg_digit m 47 h; omega
section
variable {P : Program} {w : World} {K : PySem.W.Frag} {mg : Str → Option Value} {base : Heap} {C CC B : Addr}
abbrev s_told : Stmt := top 38
abbrev nTw : List Str := ["word", "top", "sign", "bottom", "share"]
theorem sc_told : FnScope nTw ["word"] (defScope s_told) := ⟨rfl, rfl, rfl, by decide +kernel, rfl, by decide +kernel, by decide +kernel⟩
theorem ok_told {f : Addr} {fd : FuncData} (F : Fun K "told_share" "told_share" s_told f fd) (T : Bm mg) (m : MkT P w K mg base C B) (st : StrT P w K mg base C) (c_nw : Cal P w K mg base 1 "is_number_word" ["word"] spNumWord) : FnOk P w K mg base CX0 6 f fd ["word"] (spTold C) := by
  refine F.ok sc_told (fun vs H Q E h => ?_) (fun cdv A outer s H vs Q E hr h => ?_)
  · obtain ⟨t, n, rfl, _⟩ := h
    rfl
  · obtain ⟨t, n, rfl, ht, hn, n0, hg, k1, k2⟩ := h
    refine ⟨_, (pss_cons (ps_asg (pe_m1 PySem.F.slot_str_partition PySem.F.type_str_partition mt_partition (pv 0) pe_str) (pg_tup (by rfl) (pgs_cons (pg_name (i := 1) sc_told.nd rfl (Or.inl rfl)) (pgs_cons (pg_name (i := 2) sc_told.nd rfl (Or.inl rfl)) (pgs_cons (pg_name (i := 3) sc_told.nd rfl (Or.inl rfl)) pgs_nil)))))
      (pss_cons (ps_if (PW.pt (pw_or (pt_not (pt_val (pe_cal c_nw (hr.mono (by decide)) rfl (pa_cons (pv 1) pa_nil)))) (pw_or (PW.pt (pw_and (pt_cmpR op_ne (pv 2) pe_str (nomark _)) (pw_and1 (pt_not (pt_val (pe_cal c_nw (hr.mono (by decide)) rfl (pa_cons (pv 3) pa_nil))))))) (pw_or1 (pt_cmpR op_eq (pv 3) pe_str (nomark _))))))
        (pss_one (ps_ret pe_non))
        pss_nil)
      (pss_cons (ps_set (i := 4) sc_told.nd rfl (Or.inl rfl) (pe_share2 m (hr.mono (by decide)) rfl (pa_cons (pe_callTy call_int_str (by rfl) T.b.n_int (by decide +kernel) (pa_cons (pv 1) pa_nil)) (pa_cons (pe_callTy call_int_str (by rfl) T.b.n_int (by decide +kernel) (pa_cons (pe_orT (pv 3) (pe_one pe_str)) pa_nil)) pa_nil))))
      (pss_cons (ps_if (pt_cmpR op_ne (pe_callTy (show CallR _ _ (rStrS C) from call_strS st (hr.mono (by decide))) (by rfl) T.b.n_str (by decide +kernel) (pa_cons (pv 4) pa_nil)) (pv 0) (nomark _))
        (pss_one (ps_ret pe_non))
        pss_nil)
      (pss_one (ps_ret (pv 4))))))), ?_⟩
    have lt := dgS_len ht
    have ln := dgS_len hn
    rw [S_len] at lt ln
    have lw := shL_len ht hn
    refine ⟨_, rfl, ⟨_, rfl⟩, _, _, rfl, rfl, rfl, by rw [S_len]; exact Nat.le_trans lw (by decide), fun p np => ?_⟩
    have sp := Same.put (o := .tup [.str (Txt.partition (S (shL t n)) (Str.ofString "/")).1, .str (Txt.partition (S (shL t n)) (Str.ofString "/")).2.1, .str (Txt.partition (S (shL t n)) (Str.ofString "/")).2.2]) np
    refine ⟨p, _, rfl, SqT.of upd_same, rfl, _, _, rfl, _, _, rfl, _, _, rfl, rfl, ?_⟩
    generalize (upd H p (.tup [.str (Txt.partition (S (shL t n)) (Str.ofString "/")).1, .str (Txt.partition (S (shL t n)) (Str.ofString "/")).2.1, .str (Txt.partition (S (shL t n)) (Str.ofString "/")).2.2])) = H1 at sp ⊢
    have sl : Str.ofString "/" = S [47] := rfl
    obtain ⟨lT, lB⟩ := low_one (x := (t : Int)) (y := (n : Int)) (by omega) (by show Nat.gcd t n = 1; exact hg)
    by_cases c : n = 1
    · subst c
      have e : Txt.partition (S (shL t 1)) (Str.ofString "/") = (S (dg t), S [], S []) := by
        rw [sl, show shL t 1 = dg t from rfl]
        exact partition_none (by simp) (par_head_none (slash_free t))
      rw [e]
      refine ⟨_, rfl, t, rfl, ht, fun H2 s2 => ⟨_, rfl, ?_⟩⟩
      have s02 := sp.trans s2
      cases c1 : decide ((dg t).length ≤ 100) with
      | false => exact iteT (k2 (by unfold shOk; rw [c1]; rfl) H2 s02)
      | true =>
        have ok : shOk t 1 = true := by unfold shOk; rw [c1, dg_one]; rfl
        refine iteF ?_
        refine ⟨_, rfl, rfl, _, rfl, iteFe (by rfl) ?_⟩
        refine ⟨_, rfl, rfl, _, rfl, iteFe (by rfl) ?_⟩
        refine ⟨_, rfl, S (dg t), (t : Int), rfl, int_dg (by have := of_decide_eq_true c1; omega), by rw [S_len]; have := of_decide_eq_true c1; omega, ?_⟩
        refine ⟨_, rfl, false, ⟨by show 0 ≤ sizeLine; decide, rfl⟩, iteF ?_⟩
        refine ⟨S (dg 1), ((1 : Nat) : Int), rfl, int_dg (by rw [dg_one]; decide), by rw [S_len, dg_one]; decide, ?_⟩
        intro x dx hx hd ne
        refine ⟨x, dx, .int (t : Int), .int ((1 : Nat) : Int), rfl, upd_same, .fo (.int _), .fo (.int _), .inl ⟨_, _, rfl, rfl, by omega, by decide, rfl, ?_⟩⟩
        have s3 := mk_same (C := C) (o := .ins C dx (shF (lowT (t : Int) ((1 : Nat) : Int)) (lowB (t : Int) ((1 : Nat) : Int)))) hx hd ne
        have e3 : (upd (upd (upd H2 dx (.own x)) x (.ins C dx [])) x (.ins C dx (shF (lowT (t : Int) ((1 : Nat) : Int)) (lowB (t : Int) ((1 : Nat) : Int))))) x = some (.ins C dx (shF (lowT (t : Int) ((1 : Nat) : Int)) (lowB (t : Int) ((1 : Nat) : Int)))) := upd_same
        generalize (upd (upd (upd H2 dx (.own x)) x (.ins C dx [])) x (.ins C dx (shF (lowT (t : Int) ((1 : Nat) : Int)) (lowB (t : Int) ((1 : Nat) : Int))))) = H3 at s3 e3 ⊢
        rw [lT, lB] at e3
        refine ⟨_, rfl, x, dx, t, 1, rfl, e3, ht, hn, fun H4 s4 => ?_⟩
        refine ⟨_, rfl, rfl, _, rfl, iteFe (by rw [decide_eq_true rfl]; rfl) ?_⟩
        exact ⟨_, rfl, k1 ok x dx H4 ((s02.trans s3).trans s4) (s4 _ _ e3)⟩
    · have e : Txt.partition (S (shL t n)) (Str.ofString "/") = (S (dg t), S [47], S (dg n)) := by
        rw [sl, show shL t n = dg t ++ ([47] ++ dg n) from by unfold shL; rw [if_neg c]; rfl]
        exact partition_some (by simp) (par_head (dg n) (slash_free t))
      rw [e]
      refine ⟨_, rfl, t, rfl, ht, fun H2 s2 => ⟨_, rfl, ?_⟩⟩
      have s02 := sp.trans s2
      cases c1 : decide ((dg t).length ≤ 100) with
      | false => exact iteT (k2 (by unfold shOk; rw [c1]; rfl) H2 s02)
      | true =>
        refine iteF ?_
        refine ⟨_, rfl, rfl, _, rfl, iteTe (by rfl) ?_⟩
        refine ⟨_, rfl, n, rfl, hn, fun H3 s3 => ⟨_, rfl, ?_⟩⟩
        have s03 := s02.trans s3
        cases c2 : decide ((dg n).length ≤ 100) with
        | false => exact iteT (k2 (by unfold shOk; rw [c1, c2]; rfl) H3 s03)
        | true =>
          have ok : shOk t n = true := by unfold shOk; rw [c1, c2]; rfl
          refine iteF ?_
          have n0' : decide (V.str (S (dg n)) = V.str (Str.ofString "0")) = false := decide_eq_false fun e => by
            rw [V.str.injEq] at e
            have e2 : dg n = [48] := S_inj (a := dg n) (b := [48]) e
            by_cases d : n < 10
            · rw [dg_small d] at e2
              have := (List.cons.inj e2).1
              omega
            · have := congrArg List.length e2
              rw [dg_big (by omega), List.length_append] at this
              have h3 := List.length_pos_iff.mpr (dg_ne (n / 10))
              have this : (dg (n / 10)).length + 1 = 1 := this
              omega
          refine ⟨_, rfl, rfl, _, rfl, iteFe n0' ?_⟩
          refine ⟨_, rfl, S (dg t), (t : Int), rfl, int_dg (by have := of_decide_eq_true c1; omega), by rw [S_len]; have := of_decide_eq_true c1; omega, ?_⟩
          refine ⟨_, rfl, true, ⟨by rw [S_len]; exact Nat.le_trans ln (by decide), ?_⟩, iteT ?_⟩
          · have := List.length_pos_iff.mpr (dg_ne n)
            rw [S_len]
            refine (bne_iff_ne.mpr ?_).symm
            omega
          refine ⟨S (dg n), (n : Int), rfl, int_dg (by have := of_decide_eq_true c2; omega), by rw [S_len]; have := of_decide_eq_true c2; omega, ?_⟩
          intro x dx hx hd ne
          refine ⟨x, dx, .int (t : Int), .int (n : Int), rfl, upd_same, .fo (.int _), .fo (.int _), .inl ⟨_, _, rfl, rfl, by omega, log_small (b := 1400) (by show n < 2 ^ 1400; exact hn) (by decide) (by decide), rfl, ?_⟩⟩
          have s4 := mk_same (C := C) (o := .ins C dx (shF (lowT (t : Int) (n : Int)) (lowB (t : Int) (n : Int)))) hx hd ne
          have e4 : (upd (upd (upd H3 dx (.own x)) x (.ins C dx [])) x (.ins C dx (shF (lowT (t : Int) (n : Int)) (lowB (t : Int) (n : Int))))) x = some (.ins C dx (shF (lowT (t : Int) (n : Int)) (lowB (t : Int) (n : Int)))) := upd_same
          generalize (upd (upd (upd H3 dx (.own x)) x (.ins C dx [])) x (.ins C dx (shF (lowT (t : Int) (n : Int)) (lowB (t : Int) (n : Int))))) = H4 at s4 e4 ⊢
          rw [lT, lB] at e4
          refine ⟨_, rfl, x, dx, t, n, rfl, e4, ht, hn, fun H5 s5 => ?_⟩
          refine ⟨_, rfl, rfl, _, rfl, iteFe (by rw [decide_eq_true rfl]; rfl) ?_⟩
          exact ⟨_, rfl, k1 ok x dx H5 ((s03.trans s4).trans s5) (s5 _ _ e4)⟩
end
end KI
set_option Elab.async false
set_option linter.all false
set_option maxRecDepth 100000
set_option maxHeartbeats 4000000
/-! a, *b = a list -/
namespace L2
open PySem PySem.Spec PySem.Calls PyProof.Rows
def gStarL (K : PySem.W.Frag) (t : TGs) : TG := fun v σ H Q => ∃ a x xs, v = .ref a ∧ SqL K H a (x :: xs) ∧ ∀ l, H l = none → t [x, .ref l] σ (upd H l (.lst xs)) Q
section
variable {X : Cx} {pos : Pos}
theorem pgs_star {e : Expr} {p : Pos} {es : List Expr} {t : TG} {u : TGs} (h1 : PG X e t) (h2 : PGs X es u) : PGs X (.Starred e p :: es) (gCons t u) := by
  refine ⟨fun pins s σ H vs us Q I r h => ?_⟩
  obtain ⟨v, vr, e1, h⟩ := h
  subst e1
  cases r with
  | cons r rr =>
    show wpAny _ _ (assignInOrder (assign e X.env :: (assignEach es X.env).map (·.2)) _) _ _ _
    refine assignInOrder_cons (thn (h1.run pins s σ H _ _ _ I r h) fun _ s1 ⟨σ1, H1, I1, q1⟩ => ?_)
    exact h2.run pins s1 σ1 H1 _ _ Q I1 rr q1
theorem pg_starL {es : List Expr} {k : Nat} {t : TGs} (hc : X.calm = true) (h : PGs X es t) (hn : (assignEach es X.env).length = 2 := by rfl) (hst : (assignEach es X.env).findIdx? (·.1) = some 1 := by rfl) : PG X (.Tuple es k pos) (gStarL X.K t) := by
  refine ⟨fun pins s σ H v u Q I r hw => ?_⟩
  obtain ⟨a, x, xs, e1, hq, hw⟩ := hw
  subst e1
  cases r
  obtain ⟨its, rv, pl, hz⟩ := I.list hq
  cases rv with
  | cons rx rvs =>
  rename_i ux us
  have lus := rvs.length
  rw [List.length_cons] at hz
  have hl := pl.isList
  have hh := I.ok.hd hc
  rw [PyProof.Rows.assign_Tuple]
  refine wpAny_bind (wpAny_standAt ?_)
  unfold unpack
  rw [hn, hst]
  have hlt : a ≠ s.heap.objs.size := by obtain ⟨o, ho, _⟩ := hl; exact Nat.ne_of_lt (Heap.lt_size ho)
  refine wpAny_bind (wpAny_holding ?_)
  unfold unpackItems
  refine wpAny_bind ?_
  unfold notIterableAtAll
  refine wpAny_bind (wpAny_specialOf hl.typeIs slot_list_iter.lookup ?_)
  refine wpAny_pure ?_
  simp only [Bool.false_eq_true, if_false]
  refine wpAny_bind (wpAny_holding (wpAny_pyIter_list hl ?_))
  have sz : (ux :: us).toArray.size = xs.length + 1 := by rw [List.size_toArray, List.length_cons]; omega
  refine wpAny_bind (wpAny_holding (PySem.W.kun_draw hlt 1 0 _ _ ⟨_, Heap.get?_push_size _ rfl, rfl, rfl⟩ (hl.push _) (by omega) fun h₁ hit₁ hs₁ => ?_))
  have hl₁ := (hl.push _).extBut hs₁.extBut hlt
  rw [Nat.zero_add] at hit₁
  have hit₁' := hit₁
  obtain ⟨oi, hoi, _⟩ := hit₁'
  have hl₁' := hl₁
  obtain ⟨ol, hol, _⟩ := hl₁'
  rw [List.drop_zero]
  rw [if_neg (by simp)]
  refine wpAny_bind (wpAny_holding (PySem.W.kun_collect (s := { s with heap := h₁ }) (T := "list_iterator") (.inr (.inr (.inl rfl))) (Walks.list (A := X.A.in1) hh s.heap.objs.size a hlt (ux :: us).toArray) (fun j u st => st.1.typeIs) (k := 1) (by omega) ⟨hit₁, hl₁⟩ (Heap.lt_size hoi) (Heap.lt_size hol) (fun h₂ tk hk => ?_) (by omega)))
  have e2 : List.drop 1 (ux :: us).toArray.toList = us := by simp
  rw [e2]
  show wpAny _ _ (if us.length < 2 - 1 - 1 then _ else _) _ _ _
  rw [if_neg (by omega)]
  show wpAny _ _ (newList (us.take (us.length - (2 - 1 - 1))) >>= fun d => pure (List.take 1 (ux :: us).toArray.toList ++ [d] ++ us.drop (us.length - (2 - 1 - 1)))) _ _ _
  rw [show us.length - (2 - 1 - 1) = us.length by omega, List.take_length, List.drop_length]
  have I1 : Inv X pins σ H { s with heap := h₂, toks := tk } := I.kept fun b o e => hk b o (Nat.ne_of_lt (Heap.lt_size e)) (hs₁.extBut b o (Nat.ne_of_lt (Heap.lt_size e)) (Heap.get?_push_of_some _ e))
  refine wpAny_bind (wpAny_newList ?_ (by omega))
  have new : ObjOk X.prog X.w (upd H h₂.objs.size (.lst xs)) (h₂.push ({ cls := .type "list", data := .seq us.toArray } : Obj)) h₂.objs.size (.lst xs) := ⟨by omega, us, 0, rvs, Heap.get?_push_size _ rfl⟩
  have I2 : Inv X pins σ (upd H h₂.objs.size (.lst xs)) { s with heap := h₂.push ({ cls := .type "list", data := .seq us.toArray } : Obj), toks := tk } := I1.laid (t' := tk) (fun b o e => Heap.get?_push_of_some _ e) (Nat.le_refl _) new
  refine wpAny_pure ?_
  exact h.run pins _ σ _ [x, .ref h₂.objs.size] [ux, .ref h₂.objs.size] Q I2 (.cons rx (.cons rfl .nil)) (hw _ (I1.hok.fresh (Nat.le_refl _)))
end
end L2
set_option Elab.async false
set_option linter.all false
set_option maxRecDepth 100000
set_option maxHeartbeats 1000000
namespace KI
open PySem L2 SX Tx PySem.Builtin.Str
/-- a share of a row, whether it can be read -/
def wOk (W w : Nat) : Bool := shOk (lowT (w : Int) (W : Int)).toNat (lowB (w : Int) (W : Int)).toNat
def rowOk (ws : List Nat) : Bool := ws.all (wOk ws.sum)
theorem lineL_eq (x : Str) {ws : List Nat} (h : ws ≠ []) : lineL x ws = TL.joinL [32] ((x.cps.toList ++ [58]) :: wordsL ws) := by
  unfold lineL wordsL
  cases ws with
  | nil => exact absurd rfl h
  | cons a r =>
    rw [List.map_cons]
    show _ = (x.cps.toList ++ [58]) ++ ([32] ++ _)
    rw [List.append_assoc]
    rfl
theorem blank_free (t n : Nat) : 32 ∉ shL t n := fun h => by
  unfold shL at h
  split at h
  · have := dg_digit t 32 h; omega
  · rcases List.mem_append.mp h with h | h
    · have := dg_digit t 32 h; omega
    · rcases List.mem_cons.mp h with h | h
      · omega
      · have := dg_digit n 32 h; omega
theorem line_split {x : Str} {ws : List Nat} (hx : Nam x) (h : ws ≠ []) : Txt.split (S (lineL x ws)) (Str.ofString " ") = ((x.cps.toList ++ [58]) :: wordsL ws).map S := by
  rw [show Str.ofString " " = S [32] from rfl, split_S (by simp) (by decide), lineL_eq x h, spl_join (by simp)]
  intro p hp hm
  rcases List.mem_cons.mp hp with rfl | hp
  · rcases List.mem_append.mp hm with hm | hm
    · have := hx.2.2 32 hm; omega
    · simp at hm
  · obtain ⟨a, _, rfl⟩ := List.mem_map.mp hp
    exact blank_free _ _ hm
theorem ends_colon (p : List Nat) : Txt.endswith (S (p ++ [58])) (Str.ofString ":") = true := by
  unfold Txt.endswith
  rw [StrLaws.subAt_eq, show Str.ofString ":" = S [58] from rfl, S_len, S_len]
  simp
theorem num_lstU {C D : Addr} {H : Hp} {v : V} {a b : Int} {ys zs : List V} (h : Num C H v a b) (e : H D = some (.lst ys)) : Num C (upd H D (.lst zs)) v a b := by
  rcases h with h | ⟨c, dx, rfl, h⟩
  · exact .inl h
  · exact .inr ⟨c, dx, rfl, by rw [upd_ne (fun z => by rw [z, e] at h; cases h)]; exact h⟩
/-- told_row(row), of a row's line -/
def spToldRow (C : Addr) : Sp := fun vs H Q _ => ∃ (x : Str) (n : Nat) (ws : List Nat), vs = [.str (S (lineL x ws))] ∧ Nam x ∧ Tpg n ws ∧ 1 ≤ n ∧ n ≤ 8 ∧
  (rowOk ws = true → ∀ (t b : Addr) (H' : Hp), Same H H' → H' t = some (.tup [.str x, .ref b]) → RowIn C H' n (b, ws) → Q (.ref t) H') ∧ (rowOk ws = false → ∀ H', Same H H' → Q .non H')
section
variable {P : Program} {w : World} {K : PySem.W.Frag} {mg : Str → Option Value} {base : Heap} {C CC B : Addr}
abbrev s_trow : Stmt := top 37
abbrev nTr : List Str := ["row", "label", "words", "spread", "word"]
theorem sc_trow : FnScope nTr ["row"] (defScope s_trow) := ⟨rfl, rfl, rfl, by decide +kernel, rfl, by decide +kernel, by decide +kernel⟩
theorem ok_trow {f : Addr} {fd : FuncData} (F : Fun K "told_row" "told_row" s_trow f fd) (T : Bm mg) (t : ChT K mg CC) (c_nm : Cal P w K mg base 1 "is_name" ["thing"] spIsName) (c_ts : Cal P w K mg base 6 "told_share" ["word"] (spTold C)) (c_sp : Cal P w K mg base 11 "is_spread" ["many", "thing"] (spSpread K C)) : FnOk P w K mg base CX0 12 f fd ["row"] (spToldRow C) := by
  obtain ⟨tM, gM⟩ := t.gM
  refine F.ok sc_trow (fun vs H Q E h => ?_) (fun cdv A outer s H vs Q E hr h => ?_)
  · obtain ⟨x, n, ws, rfl, _⟩ := h
    rfl
  · obtain ⟨x, n, ws, rfl, hx, tg, n1, n8, k1, k2⟩ := h
    refine ⟨_, (pss_cons (ps_asg (pe_split (pv 0) pe_str) (show PG _ _ (gStarL K (gCons (gName 1) (gCons (gName 2) gNil))) from pg_starL rfl (pgs_cons (pg_name (i := 1) sc_trow.nd rfl (Or.inl rfl)) (pgs_star (pg_name (i := 2) sc_trow.nd rfl (Or.inl rfl)) pgs_nil))))
      (pss_cons (ps_if (PW.pt (pw_or (pt_not (pt_val (pe_m1 PySem.F.slot_str_endswith PySem.F.type_str_endswith mt_endswith (pv 1) pe_str))) (pw_or (pt_not (pt_val (pe_cal c_nm (hr.mono (by decide)) rfl (pa_cons (pe_slice C8.sl_txt (pv 1) po_none (po_some (pe_un un_neg pe_int))) pa_nil)))) (pw_or1 (pt_cmpR op_gt (pe_callB call_len_seq (by rfl) T.b.n_len PySem.boot_len (pa_cons (pv 2) pa_nil)) (pe_glob (v := .int 8) rfl gM ⟨_, rfl⟩) (nomark _))))))
        (pss_one (ps_ret pe_non))
        pss_nil)
      (pss_cons (ps_set (i := 3) sc_trow.nd rfl (Or.inl rfl) (pe_callTy call_tuple_of (by rfl) T.n_tuple (by decide +kernel) (pa_cons (pe_lc (own := [("word", 4)]) rfl sc_trow.nd (pi_list (pv 2)) (blkOk_by (N := nTr) (sc := defScope s_trow) (by decide +kernel)) (fun _ _ _ _ _ => (pg_name (i := 4) sc_trow.nd rfl (Or.inl rfl))) (fun _ _ _ _ _ => pts_nil) (fun _ _ _ _ _ => (pe_cal c_ts (hr.mono (by decide)) rfl (pa_cons (pv 4) pa_nil)))) pa_nil)))
      (pss_cons (ps_if (pt_not (pt_val (pe_cal c_sp (hr.mono (by decide)) rfl (pa_cons (pe_callB call_len_seq (by rfl) T.b.n_len PySem.boot_len (pa_cons (pv 2) pa_nil)) (pa_cons (pv 3) pa_nil)))))
        (pss_one (ps_ret pe_non))
        pss_nil)
      (pss_one (ps_ret (pe_tup (pa_cons (pe_slice C8.sl_txt (pv 1) po_none (po_some (pe_un un_neg pe_int))) (pa_cons (pv 3) pa_nil))))))))), ?_⟩
    have wn : ws ≠ [] := fun e => by have := tg.1; rw [e] at this; simp at this; omega
    have lw : (wordsL ws).length = n := by unfold wordsL; rw [List.length_map]; exact tg.1
    have ll := lineL_len tg n8 hx.2.1
    have e0 := line_split hx wn
    refine ⟨_, rfl, ⟨_, rfl⟩, _, _, rfl, rfl, rfl, by rw [S_len]; exact Nat.le_of_lt (Nat.lt_of_le_of_lt (show _ ≤ 30002 by omega) (by decide)), fun p np => ?_⟩
    have sp := Same.put (o := .lst ((Txt.split (S (lineL x ws)) (Str.ofString " ")).map V.str)) np
    have ep : (upd H p (.lst ((Txt.split (S (lineL x ws)) (Str.ofString " ")).map V.str))) p = some (.lst (V.str (S (x.cps.toList ++ [58])) :: sL (wordsL ws))) := by rw [upd_same, e0]; rfl
    generalize (upd H p (.lst ((Txt.split (S (lineL x ws)) (Str.ofString " ")).map V.str))) = H1 at sp ep ⊢
    refine ⟨p, _, _, rfl, SqL.of ep, fun l nl => ?_⟩
    have s1 := sp.trans (Same.put (o := .lst (sL (wordsL ws))) nl)
    have el : (upd H1 l (.lst (sL (wordsL ws)))) l = some (.lst (sL (wordsL ws))) := upd_same
    generalize (upd H1 l (.lst (sL (wordsL ws)))) = H2 at s1 el ⊢
    refine ⟨_, _, rfl, _, _, rfl, rfl, ?_⟩
    have sm : ∀ y : List Nat, y.length ≤ 100 → (S y).length ≤ sizeLine := fun y h => by rw [S_len]; exact Nat.le_trans h (by decide)
    have x8 := hx.2.1
    refine ⟨_, rfl, ⟨_, rfl⟩, _, _, rfl, rfl, _, rfl, ?_⟩
    rw [ends_colon]
    refine iteF ?_
    have cut : Txt.slice (S (x.cps.toList ++ [58])) none (some (-1)) = x := by
      rw [slice_butlast (by simp)]
      have : (x.cps.toList ++ [58]).take ((x.cps.toList ++ [58]).length - 1) = x.cps.toList := by simp
      rw [this]
    refine ⟨_, rfl, _, rfl, _, rfl, _, rfl, sm _ (by rw [List.length_append]; show _ + 1 ≤ 100; omega), ?_⟩
    refine ⟨x, congrArg (fun z => [V.str z]) cut, hx, fun H3 s3 => ⟨_, rfl, iteF ?_⟩⟩
    have s03 := s1.trans s3
    have el3 := s3 _ _ el
    refine ⟨_, rfl, l, _, rfl, .inl (SqL.of el3), ?_⟩
    refine ⟨_, _, rfl, rfl, _, rfl, iteFe (decide_eq_false (by rw [sL_len]; omega)) ?_⟩
    have wl : ∀ q ∈ wordsL ws, q.length ≤ 2801 := wordsL_len tg n8
    refine ⟨_, rfl, l, rfl, ⟨_, SqL.of el3⟩, fun D nD => ?_⟩
    refine lc_list (K := K) (a := l) (xs := sL (wordsL ws)) (fun i H' => Same H3 H' ∧ ∃ xs : List V, H' D = some (.lst xs) ∧ xs.length = i ∧ ∀ j, j < i → ∃ y w, xs[j]? = some y ∧ ws[j]? = some w ∧ (if wOk ws.sum w = true then Num C H' y (w : Int) (ws.sum : Int) else y = .non)) ⟨Same.put nD, [], upd_same, rfl, fun j h => absurd h (by omega)⟩ (fun i H' _ h => SqL.of (h.1 _ _ el3)) ?_ ?_
    · rintro i y H' hy ⟨s4, xs, eD, lx, fx⟩
      obtain ⟨q, hq, mq, rfl⟩ := sL_at hy
      have il := (List.getElem?_eq_some_iff.mp hq).1
      obtain ⟨v, hv, rfl⟩ : ∃ v, ws[i]? = some v ∧ q = wdL ws.sum v := by
        unfold wordsL at hq
        rw [List.getElem?_map] at hq
        cases e : ws[i]? with
        | none => rw [e] at hq; cases hq
        | some v => rw [e] at hq; exact ⟨v, rfl, (Option.some.inj hq).symm⟩
      obtain ⟨e1, e2⟩ := low_nat (w := v) tg.2.1
      obtain ⟨b1, b2⟩ := low_bd tg n8 (List.mem_of_getElem? hv)
      have W0 : (ws.sum : Int) ≠ 0 := by have := tg.2.1; omega
      have hg := low_gcd (a := (v : Int)) (b := (ws.sum : Int)) W0
      have hp := lowB_pos (a := (v : Int)) (b := (ws.sum : Int)) W0
      rw [e1, e2] at hg
      rw [e2] at hp
      have app : ∀ (z : V) (H5 : Hp), Same H' H5 → (if wOk ws.sum v = true then Num C H5 z (v : Int) (ws.sum : Int) else z = .non) → ∃ acc, H5 D = some (HO.lst acc) ∧ acc.length < sizeLine ∧ Same H3 (upd H5 D (.lst (acc ++ [z]))) ∧ ∃ xs : List V, (upd H5 D (.lst (acc ++ [z]))) D = some (.lst xs) ∧ xs.length = i + 1 ∧ ∀ j, j < i + 1 → ∃ y w, xs[j]? = some y ∧ ws[j]? = some w ∧ (if wOk ws.sum w = true then Num C (upd H5 D (.lst (acc ++ [z]))) y (w : Int) (ws.sum : Int) else y = .non) := by
        intro z H5 s5 hz
        have eD5 := s5 _ _ eD
        refine ⟨xs, eD5, small_len (by omega), Same.but (fun b u e => s5 _ _ (s4 _ _ e)) nD, xs ++ [z], upd_same, by rw [List.length_append, lx]; rfl, fun j hj => ?_⟩
        by_cases c : j = i
        · subst c
          refine ⟨z, v, by rw [← lx]; exact List.getElem?_concat_length, hv, ?_⟩
          split
          · rename_i ok
            rw [if_pos ok] at hz
            exact num_lstU hz eD5
          · rename_i ok
            rw [if_neg ok] at hz
            exact hz
        · obtain ⟨y, w, g1, g2, g3⟩ := fx j (by omega)
          refine ⟨y, w, by rw [List.getElem?_append_left (by omega)]; exact g1, g2, ?_⟩
          split
          · rename_i ok
            rw [if_pos ok] at g3
            exact num_lstU (g3.same s5) eD5
          · rename_i ok
            rw [if_neg ok] at g3
            exact g3
      refine ⟨rfl, yes_of ?_⟩
      refine ⟨_, rfl, _, _, rfl, b1, b2, by omega, hg, fun ok a dx H5 s5 e5 => ?_, fun nok H5 s5 => ?_⟩
      · refine app (.ref a) H5 s5 ?_
        rw [if_pos (show wOk ws.sum v = true from ok)]
        rw [← e1, ← e2] at e5
        exact .inr ⟨a, dx, rfl, e5⟩
      · refine app .non H5 s5 ?_
        rw [if_neg (by unfold wOk; rw [nok]; decide)]
    · rintro H4 ⟨s4, xs, eD, lx, fx⟩
      rw [sL_len, lw] at lx fx
      have s04 := s03.trans s4
      refine ⟨D, _, rfl, .inl ⟨SqL.of eD, fun tp ntp => ?_⟩⟩
      have st := Same.put (o := .tup xs) ntp
      have et : (upd H4 tp (.tup xs)) tp = some (.tup xs) := upd_same
      have s05 := s04.trans st
      have el5 := st _ _ (s4 _ _ el3)
      have W0 : 0 < (ws.sum : Int) := by have := tg.2.1; omega
      obtain ⟨q0, q1, q2⟩ := tps_low tg n8
      have its : Items K C (ws.sum : Int) (upd H4 tp (.tup xs)) xs (ws.map fun w => if wOk ws.sum w = true then some (w : Int) else none) := by
        refine ⟨by rw [lx, List.length_map]; exact tg.1.symm, fun i y hy => ?_⟩
        have il := (List.getElem?_eq_some_iff.mp hy).1
        obtain ⟨y', w, g1, g2, g3⟩ := fx i (by omega)
        rw [g1] at hy
        cases hy
        refine ⟨_, by rw [List.getElem?_map, g2]; rfl, ?_⟩
        by_cases ok : wOk ws.sum w = true
        · rw [if_pos ok] at g3
          show Item K C _ _ y (if wOk ws.sum w = true then some (w : Int) else none)
          rw [if_pos ok]
          exact ⟨g3.same st, q2 w (List.mem_of_getElem? g2)⟩
        · rw [if_neg ok] at g3
          show Item K C _ _ y (if wOk ws.sum w = true then some (w : Int) else none)
          rw [if_neg ok, g3]
          exact ⟨_, .non, rfl⟩
      generalize (upd H4 tp (.tup xs)) = H5 at st et s05 el5 its ⊢
      refine ⟨_, rfl, l, _, rfl, .inl (SqL.of el5), _, rfl, _, .ref tp, rfl, .inl ⟨tp, xs, _, (ws.sum : Int), rfl, et, its, W0, q1, by rw [List.length_map, tg.1]; omega, fun H6 s6 => ?_⟩⟩
      have s06 := s05.trans s6
      rw [show decide (V.int (xs.length : Int) = V.int ((sL (wordsL ws)).length : Int)) = true from decide_eq_true (by rw [lx, sL_len, lw]), Bool.true_and]
      cases hro : rowOk ws with
      | false =>
        have e : sprB (ws.sum : Int) (ws.map fun w => if wOk ws.sum w = true then some (w : Int) else none) = false := by
          unfold sprB
          obtain ⟨v, mv, hv⟩ := List.all_eq_false.mp hro
          have : ((ws.map fun w => if wOk ws.sum w = true then some (w : Int) else none).map from0).all id = false := by
            rw [List.all_eq_false]
            refine ⟨false, List.mem_map.mpr ⟨none, List.mem_map.mpr ⟨v, mv, if_neg hv⟩, rfl⟩, by decide⟩
          rw [this, Bool.false_and]
        rw [e]
        refine ⟨_, rfl, iteT (k2 hro H6 s06)⟩
      | true =>
        have all : ∀ w ∈ ws, wOk ws.sum w = true := List.all_eq_true.mp hro
        have e : (ws.map fun w => if wOk ws.sum w = true then some (w : Int) else none) = ws.map fun w : Nat => some (w : Int) := List.map_congr_left fun w m => if_pos (all w m)
        have e2 : sprB (ws.sum : Int) (ws.map fun w : Nat => some (w : Int)) = true := spr_ok
        rw [e, e2]
        refine ⟨_, rfl, iteF ?_⟩
        refine ⟨_, rfl, _, rfl, _, rfl, _, rfl, sm _ (by rw [List.length_append]; show _ + 1 ≤ 100; omega), _, rfl, ?_⟩
        rw [cut]
        refine ⟨by show 2 ≤ sizeLine; decide, fun r nr => ?_⟩
        have sr := Same.put (o := .tup [.str x, .ref tp]) nr
        refine k1 hro r tp _ (s06.trans sr) upd_same ⟨xs, sr _ _ (s6 _ _ et), ?_, tg⟩
        refine ⟨by rw [lx, List.length_map]; exact tg.1.symm, fun i y hy => ?_⟩
        have il := (List.getElem?_eq_some_iff.mp hy).1
        obtain ⟨o, g1, g2⟩ := its.2 i y hy
        rw [e, List.getElem?_map] at g1
        cases g : ws[i]? with
        | none => rw [g] at g1; cases g1
        | some w =>
          rw [g] at g1
          cases g1
          exact ⟨(w : Int), by rw [List.getElem?_map, g]; rfl, (g2.1.same s6).same sr⟩
end
end KI
set_option Elab.async false
set_option linter.all false
set_option maxRecDepth 100000
set_option maxHeartbeats 1000000
namespace KI
open PySem L2 SX Tx
theorem close_join : ∀ ps : List (List Nat), closeL ps = TL.joinL [10] (ps ++ [[]])
  | [] => rfl
  | p :: ps => by
    show (p ++ [10]) ++ closeL ps = TL.joinL [10] (p :: (ps ++ [[]]))
    rw [close_join ps]
    cases h : ps ++ [[]] with
    | nil => simp at h
    | cons q r =>
      show _ = p ++ ([10] ++ TL.joinL [10] (q :: r))
      rw [List.append_assoc]
theorem close_split {ps : List (List Nat)} (h : ∀ p ∈ ps, 10 ∉ p) : Txt.split (S (closeL ps)) (Str.ofString "\n") = (ps ++ [[]]).map S := by
  rw [show Str.ofString "\n" = S [10] from rfl, split_S (by simp) (by decide), close_join, spl_join (by simp)]
  intro p hp
  rcases List.mem_append.mp hp with hp | hp
  · exact h p hp
  · rw [List.mem_singleton.mp hp]
    simp
theorem cut_last {xs : List V} {x : V} : cutV (xs ++ [x]) none (some (-1)) = xs := by
  have hl : (xs ++ [x]).length = xs.length + 1 := by simp
  have e1 : HT.sIx (xs ++ [x]).length 0 none = 0 := rfl
  have e2 : HT.sIx (xs ++ [x]).length (xs ++ [x]).length (some (-1)) = xs.length := by
    rw [hl]
    show (if (-1 : Int) < 0 then ((-1 : Int) + ((xs.length + 1 : Nat) : Int)).toNat else min (-1 : Int).toNat (xs.length + 1)) = xs.length
    rw [if_pos (by decide)]
    omega
  unfold cutV
  rw [e1, e2, List.drop_zero, Nat.sub_zero]
  simp
/-- text_rows(text), of closed rows -/
def spTextRows : Sp := fun vs H Q _ => ∃ ps : List (List Nat), vs = [.str (S (closeL ps))] ∧ ps.length ≤ 8 ∧ (∀ p ∈ ps, 10 ∉ p ∧ p.length ≤ 30000) ∧ ∀ (l : Addr) (H' : Hp), Same H H' → H l = none → H' l = some (.lst (sL ps)) → Q (.ref l) H'
theorem close_len {ps : List (List Nat)} (h8 : ps.length ≤ 8) (h : ∀ p ∈ ps, p.length ≤ 30000) : (closeL ps).length ≤ 8 * 30001 := by
  unfold closeL
  rw [List.length_flatten]
  have := sum_le (b := 30001) ((ps.map (· ++ [10])).map (·.length)) fun w m => by
    obtain ⟨q, mq, rfl⟩ := List.mem_map.mp m
    obtain ⟨p, mp, rfl⟩ := List.mem_map.mp mq
    have := h p mp
    rw [List.length_append]
    show p.length + 1 ≤ _
    omega
  rw [List.length_map, List.length_map] at this
  exact Nat.le_trans this (Nat.mul_le_mul_right _ h8)
section
variable {P : Program} {w : World} {K : PySem.W.Frag} {mg : Str → Option Value} {base : Heap} {C CC B : Addr}
abbrev s_trows : Stmt := top 35
theorem sc_trows : FnScope ["text", "pieces"] ["text"] (defScope s_trows) := ⟨rfl, rfl, rfl, by decide +kernel, rfl, by decide +kernel, by decide +kernel⟩
theorem ok_trows {f : Addr} {fd : FuncData} (F : Fun K "text_rows" "text_rows" s_trows f fd) (T : Bm mg) : FnOk P w K mg base CX0 1 f fd ["text"] spTextRows := by
  refine F.ok sc_trows (fun vs H Q E h => ?_) (fun cdv A outer s H vs Q E hr h => ?_)
  · obtain ⟨ps, rfl, _⟩ := h
    rfl
  · obtain ⟨ps, rfl, h8, hp, k⟩ := h
    refine ⟨_, (pss_cons (ps_if (pt_not (pt_val (pe_callB call_isi (by rfl) T.b.n_isinstance (by decide +kernel) (pa_cons (pv 0) (pa_cons (pe_bltn (v := .ty "str") rfl T.b.n_str (by decide +kernel) rfl) pa_nil)))))
        pss_never
        pss_nil)
      (pss_cons (ps_set (i := 1) sc_trows.nd rfl (Or.inl rfl) (pe_split (pv 0) pe_str))
      (pss_cons (ps_if (pt_cmpR op_ne (pe_ix (show IxR _ (rIxL K) from ix_list) (pv 1) (pe_un un_neg pe_int) (fun _ _ => rfl)) pe_str (nomark _))
        pss_never
        pss_nil)
      (pss_one (ps_ret (pe_slice sl_list (pv 1) po_none (po_some (pe_un un_neg pe_int)))))))), ?_⟩
    have e0 := close_split fun p m => (hp p m).1
    have cl := close_len h8 fun p m => (hp p m).2
    refine ⟨_, rfl, .str _, .ty "str", _, _, true, rfl, .ty _, .base (.str _), kit_ty (r := true) (by decide +kernel), _, rfl, iteF ?_⟩
    refine ⟨_, rfl, ⟨_, rfl⟩, _, _, rfl, rfl, rfl, by rw [S_len]; exact Nat.le_of_lt (Nat.lt_of_le_of_lt (show _ ≤ 300000 by omega) (by decide)), fun p np => ?_⟩
    have sp := Same.put (o := .lst ((Txt.split (S (closeL ps)) (Str.ofString "\n")).map V.str)) np
    have ep : (upd H p (.lst ((Txt.split (S (closeL ps)) (Str.ofString "\n")).map V.str))) p = some (.lst (sL ps ++ [V.str (S [])])) := by rw [upd_same, e0, List.map_append, List.map_append]; rfl
    generalize (upd H p (.lst ((Txt.split (S (closeL ps)) (Str.ofString "\n")).map V.str))) = H1 at sp ep ⊢
    refine ⟨_, rfl, _, rfl, p, _, -1, .str (S []), rfl, rfl, SqL.of ep, atI_last _ _, ?_⟩
    refine ⟨rfl, _, rfl, iteFe (by rfl) ?_⟩
    refine ⟨_, rfl, _, rfl, _, rfl, p, _, rfl, SqL.of ep, fun l nl => ?_⟩
    rw [cut_last]
    exact k l _ (sp.trans (Same.put nl)) (sp.free nl) upd_same
end
end KI
set_option Elab.async false
set_option linter.all false
set_option maxRecDepth 100000
set_option maxHeartbeats 1000000
namespace KI
open PySem L2 SX Tx
/-- BadText.__init__ -/
def spBT (K : PySem.W.Frag) (B : Addr) : Sp := fun vs H Q _ => ∃ (a : Addr) (y : V), vs = [.ref a, y] ∧ OexC K B ∧ PySem.W.findIn K (.ref B) "line" = some none ∧ H a = some (exo a B none) ∧
  ∀ dx, H dx = none → dx ≠ a → Q .non (upd (upd H dx (exd dx [("line", y)])) a (exo a B (some dx)))
structure BtxT (P : Program) (w : World) (K : PySem.W.Frag) (mg : Str → Option Value) (base : Heap) (B : Addr) : Prop where
  O : OexC K B
  nf : PySem.W.findIn K (.ref B) "line" = some none
  gB : mg "BadText" = some (.ref B)
  made : ∃ (fI : Addr) (fd : FuncData), PySem.W.findIn K (.ref B) "__init__" = some (some (.ref fI)) ∧ PySem.W.typeIn K (.ref fI) = some (.type "function") ∧ FnOk P w K mg base CX0 2 fI fd ["self", "line"] (spBT K B) ∧ Binds K fd ["self", "line"] []
theorem bt_end {H : Hp} {a dx : Addr} {p : V} {B : Addr} (ha : H a = none) (hd : (upd H a (exo a B none)) dx = none) (ne : dx ≠ a) :
    Same H (upd (L2.del (upd (upd (upd H a (exo a B none)) dx (exd dx [("line", p)])) a (exo a B (some dx))) a) dx (.xd [("line", p)])) := fun b o h => by
  have nb : b ≠ a := ne_of_none h ha
  have nd : b ≠ dx := fun z => by rw [upd_ne ne] at hd; rw [z, hd] at h; cases h
  rw [upd_ne nd, del_ne nb, upd_ne nb, upd_ne nd, upd_ne nb]
  exact h
section
variable {P : Program} {w : World} {K : PySem.W.Frag} {mg : Str → Option Value} {base : Heap} {C CC B : Addr}
abbrev s_BT : Stmt := inClass (top 6) 0
theorem sc_BT : FnScope ["self", "line"] ["self", "line"] (defScope s_BT) := ⟨rfl, rfl, rfl, by decide +kernel, rfl, by decide +kernel, by decide +kernel⟩
theorem ok_BT {f g W B : Addr} {mc : Value} {fd fdW : FuncData} (F : Fun K "__init__" "BadText.__init__" s_BT f fd) (gW : mg "WalkError" = some (.ref W)) (c : ClsFn K W mc "__init__" g) (FW : FnOk P w K mg base CX0 1 g fdW ["self", "words"] (spWE K)) (bW : Binds K fdW ["self", "words"] []) :
    FnOk P w K mg base CX0 2 f fd ["self", "line"] (spBT K B) := by
  refine F.ok sc_BT (fun vs H Q E h => ?_) (fun cdv A outer s H vs Q E hr h => ?_)
  · obtain ⟨a, y, rfl, _⟩ := h
    rfl
  · obtain ⟨a, y, rfl, O, nt, ha, k⟩ := h
    refine ⟨_, pss_cons (ps_expr (pe_clsfn c FW hr rfl gW bW pass0 (pa_cons (pv 0) (pa_cons pe_str pa_nil)))) (pss_one (ps_ost (pv 0) (pv 1))), ?_⟩
    exact ⟨_, rfl, a, B, _, rfl, O, ha, _, rfl, _, rfl, a, B, rfl, O, nt, .inl ⟨ha, fun dx hd ne => k dx hd ne⟩⟩
/-- the reading of raise BadText(x) -/
theorem bt_raise {p : V} {H : Hp} {E : XK} (T : BtxT P w K mg base B) (k : ∀ (d : Addr) (H' : Hp), Same H H' → H' d = some (.xd [("line", p)]) → E (.ref B) (some d) H') {t : TA} {σ : St} (ht : ∀ Q : List V → Hp → Prop, Q [p] H → t σ H Q) :
    tMkO B (spBT K B) [] t σ H (fun cls d H' => E cls d H') := by
  refine ht _ ⟨by show 1 ≤ 1000; decide, fun a ha => ⟨a, p, rfl, T.O, T.nf, upd_same, fun d hd ne => ⟨rfl, d, [("line", p)], upd_same, ?_, ?_, ?_⟩⟩⟩
  · rw [upd_ne ne, upd_same]
  · rw [upd_ne ne] at hd
    exact hd
  · exact k d _ (bt_end ha hd ne) upd_same
end
end KI
set_option Elab.async false
set_option linter.all false
set_option maxRecDepth 100000
set_option maxHeartbeats 1000000
namespace KI
open PySem L2 SX Tx
theorem joinL_mem {c : Nat} : ∀ {ps : List (List Nat)}, c ∈ TL.joinL [32] ps → c = 32 ∨ ∃ p ∈ ps, c ∈ p
  | [], h => by simp [TL.joinL] at h
  | [p], h => .inr ⟨p, List.mem_cons_self, h⟩
  | p :: q :: r, h => by
    have h : c ∈ p ++ ([32] ++ TL.joinL [32] (q :: r)) := h
    rcases List.mem_append.mp h with h | h
    · exact .inr ⟨p, List.mem_cons_self, h⟩
    · rcases List.mem_append.mp h with h | h
      · exact .inl (List.mem_singleton.mp h)
      · rcases joinL_mem h with h | ⟨x, mx, h⟩
        · exact .inl h
        · exact .inr ⟨x, List.mem_cons_of_mem _ mx, h⟩
theorem nl_free (t n : Nat) : 10 ∉ shL t n := fun h => by
  unfold shL at h
  split at h
  · have := dg_digit t 10 h; omega
  · rcases List.mem_append.mp h with h | h
    · have := dg_digit t 10 h; omega
    · rcases List.mem_cons.mp h with h | h
      · omega
      · have := dg_digit n 10 h; omega
theorem line_nl {x : Str} {ws : List Nat} (hx : Nam x) : 10 ∉ lineL x ws := fun h => by
  unfold lineL at h
  rcases List.mem_append.mp h with h | h
  · have := hx.2.2 10 h; omega
  · rcases List.mem_cons.mp h with h | h
    · omega
    · rcases List.mem_cons.mp h with h | h
      · omega
      · rcases joinL_mem h with h | ⟨p, mp, h⟩
        · omega
        · obtain ⟨a, _, rfl⟩ := List.mem_map.mp mp
          exact nl_free _ _ h
/-- what is found in a row: its label and its spread, or None -/
def Fnd (C : Addr) (H : Hp) (n : Nat) (y : V) (x : Str) (ws : List Nat) : Prop := if rowOk ws = true then ∃ t b, y = .ref t ∧ H t = some (.tup [.str x, .ref b]) ∧ RowIn C H n (b, ws) else y = .non
theorem Fnd.same {C : Addr} {H H' : Hp} {n : Nat} {y : V} {x : Str} {ws : List Nat} (h : Fnd C H n y x ws) (s : Same H H') : Fnd C H' n y x ws := by
  unfold Fnd at h ⊢
  split
  · rename_i ok
    rw [if_pos ok] at h
    obtain ⟨t, b, e, h1, h2⟩ := h
    exact ⟨t, b, e, s _ _ h1, h2.same s⟩
  · rename_i ok
    rw [if_neg ok] at h
    exact h
theorem Fnd.lstU {C D : Addr} {H : Hp} {n : Nat} {y : V} {x : Str} {ws : List Nat} {us zs : List V} (h : Fnd C H n y x ws) (e : H D = some (.lst us)) : Fnd C (upd H D (.lst zs)) n y x ws := by
  unfold Fnd at h ⊢
  split
  · rename_i ok
    rw [if_pos ok] at h
    obtain ⟨t, b, e1, h1, xs, h2, h3, h4⟩ := h
    have ne : ∀ {c : Addr} {o : HO}, H c = some o → (∀ ys, o ≠ .lst ys) → (upd H D (.lst zs)) c = some o := fun q no => by
      rw [upd_ne (fun z => by rw [z, e] at q; exact no _ (Option.some.inj q).symm)]
      exact q
    refine ⟨t, b, e1, ne h1 (fun _ z => by cases z), xs, ne h2 (fun _ z => by cases z), ⟨h3.1, fun i v hv => ?_⟩, h4⟩
    obtain ⟨S, q1, q2⟩ := h3.2 i v hv
    exact ⟨S, q1, num_lstU q2 e⟩
  · rename_i ok
    rw [if_neg ok] at h
    exact h
/-- read(text), of a chain's text: the chain, or the first row that can't be read -/
def spRead (C CC B : Addr) : Sp := fun vs H Q E => ∃ (n : Nat) (rws : List (List Nat)) (ls : List Str), vs = [.str (S (textL ls rws))] ∧ 1 ≤ n ∧ n ≤ 8 ∧ Lbs n ls ∧ rws.length = n ∧ (∀ ws ∈ rws, Tpg n ws) ∧
  (((∀ ws ∈ rws, rowOk ws = true) ∧ ∀ (x : Addr) (H' : Hp), Same H H' → IsCh C CC H' x n rws ls → Q (.ref x) H') ∨
    ∃ i : Nat, i < n ∧ (∀ j ws, j < i → rws[j]? = some ws → rowOk ws = true) ∧ (∀ ws, rws[i]? = some ws → rowOk ws = false) ∧ ∀ (d : Addr) (H' : Hp), Same H H' → H' d = some (.xd [("line", .int ((i + 1 : Nat) : Int))]) → E (.ref B) (some d) H')
section
variable {P : Program} {w : World} {K : PySem.W.Frag} {mg : Str → Option Value} {base : Heap} {C CC B : Addr}
abbrev s_read : Stmt := top 36
abbrev nRe : List Str := ["text", "rows", "found", "at", "told", "_", "spread", "row", "label"]
theorem sc_read : FnScope nRe ["text"] (defScope s_read) := ⟨rfl, rfl, rfl, by decide +kernel, rfl, by decide +kernel, by decide +kernel⟩
theorem ok_read {f : Addr} {fd : FuncData} (F : Fun K "read" "read" s_read f fd) (T : Bm mg) (n_en : mg "enumerate" = none) (m : MkC P w K mg base C CC) (N : BtxT P w K mg base B) (c_rows : Cal P w K mg base 1 "text_rows" ["text"] spTextRows) (c_row : Cal P w K mg base 12 "told_row" ["row"] (spToldRow C)) : FnOk P w K mg base (L2.CX P w) 14 f fd ["text"] (spRead C CC B) := by
  obtain ⟨fS, fdS, iS, tS, FS, bS⟩ := id N.made
  refine F.okX sc_read (fun vs H Q E h => ?_) (fun cdv A outer s H vs Q E hr h => ?_)
  · obtain ⟨n, rws, ls, rfl, _⟩ := h
    rfl
  · obtain ⟨n, rws, ls, rfl, n1, n8, hl, lr, tg, k⟩ := h
    refine ⟨_, (pss_cons (ps_set (i := 1) sc_read.nd rfl (Or.inl rfl) (pe_cal c_rows (hr.mono (by decide)) rfl (pa_cons (pv 0) pa_nil)))
      (pss_cons (ps_if (pt_not (pt_truth (pv 1) (by intro _; rfl)))
        pss_never
        pss_nil)
      (pss_cons (ps_setLc (i := 2) (own := [("row", 7)]) rfl sc_read.nd rfl rfl (sw_true rfl rfl rfl (by decide +kernel)) (pi_list (pv 1)) (blkOk_by (N := nRe) (sc := defScope s_read) (by decide +kernel)) (fun _ _ _ _ _ => (pg_name (i := 7) sc_read.nd rfl (Or.inl rfl))) (fun _ _ _ _ _ => pts_nil) (fun _ _ _ _ _ => (pe_cal c_row (hr.mono (by decide)) rfl (pa_cons (pv 7) pa_nil))))
      (pss_cons (ps_for (passes_of rfl) rfl (pi_enum (by rfl) n_en (pa_cons (pv 2) pa_nil)) (pg_tup (by rfl) (pgs_cons (pg_name (i := 3) sc_read.nd rfl (Or.inl rfl)) (pgs_cons (pg_name (i := 4) sc_read.nd rfl (Or.inl rfl)) pgs_nil)))
        (pss_one (ps_if (pt_cmpR op_isN (pv 4) pe_non (nomark _))
          (pss_one (ps_raise (W := fun cls d _ H => E cls d H) rfl (takes_of rfl rfl rfl rfl) (pmk_oex N.O iS tS FS (hr.mono (by decide)) bS .nil pass0 rfl N.gB (pa_cons (pe_op op_add (pv 3) pe_int) pa_nil))))
          pss_nil)))
      (pss_cons (ps_for (passes_of rfl) rfl (pi_enum (by rfl) n_en (pa_cons (pv 2) pa_nil)) (pg_tup (by rfl) (pgs_cons (pg_name (i := 3) sc_read.nd rfl (Or.inl rfl)) (pgs_cons (pg_tup (by rfl) (pgs_cons (pg_name (i := 5) sc_read.nd rfl (Or.inl rfl)) (pgs_cons (pg_name (i := 6) sc_read.nd rfl (Or.inl rfl)) pgs_nil))) pgs_nil)))
        (pss_one (ps_if (pt_cmpR op_ne (pe_callB call_len_seq (by rfl) T.b.n_len PySem.boot_len (pa_cons (pv 6) pa_nil)) (pe_callB call_len_seq (by rfl) T.b.n_len PySem.boot_len (pa_cons (pv 1) pa_nil)) (nomark _))
          pss_never
          pss_nil)))
      (pss_one (ps_ret (pe_chn m hr rfl (pa_cons (pe_callTy call_tuple_of (by rfl) T.n_tuple (by decide +kernel) (pa_cons (pe_lc (own := [("_", 5), ("spread", 6)]) (g := gTup K 2 (gCons (gName 5) (gCons (gName 6) gNil))) rfl sc_read.nd (pi_list (pv 2)) (blkOk_by (N := nRe) (sc := defScope s_read) (by decide +kernel)) (fun _ _ _ _ _ => (pg_tup (by rfl) (pgs_cons (pg_name (i := 5) sc_read.nd rfl (Or.inl rfl)) (pgs_cons (pg_name (i := 6) sc_read.nd rfl (Or.inl rfl)) pgs_nil)))) (fun _ _ _ _ _ => pts_nil) (fun _ _ _ _ _ => (pv 6))) pa_nil)) (pa_cons (pe_callTy call_tuple_of (by rfl) T.n_tuple (by decide +kernel) (pa_cons (pe_lc (own := [("label", 8), ("_", 5)]) (g := gTup K 2 (gCons (gName 8) (gCons (gName 5) gNil))) rfl sc_read.nd (pi_list (pv 2)) (blkOk_by (N := nRe) (sc := defScope s_read) (by decide +kernel)) (fun _ _ _ _ _ => (pg_tup (by rfl) (pgs_cons (pg_name (i := 8) sc_read.nd rfl (Or.inl rfl)) (pgs_cons (pg_name (i := 5) sc_read.nd rfl (Or.inl rfl)) pgs_nil)))) (fun _ _ _ _ _ => pts_nil) (fun _ _ _ _ _ => (pv 8))) pa_nil)) pa_nil)))))))))), ?_⟩
    have lls : ls.length = n := hl.1
    have lln : (linesL ls rws).length = n := by unfold linesL; rw [List.length_zipWith, lr, lls, Nat.min_self]
    have at_ : ∀ i, i < n → ∃ x ws, ls[i]? = some x ∧ rws[i]? = some ws ∧ (linesL ls rws)[i]? = some (lineL x ws) := fun i hi => by
      have h1 : ls[i]? = some ls[i] := List.getElem?_eq_getElem (by omega)
      have h2 : rws[i]? = some rws[i] := List.getElem?_eq_getElem (by omega)
      exact ⟨_, _, h1, h2, by unfold linesL; rw [List.getElem?_zipWith, h1, h2]⟩
    refine ⟨_, rfl, linesL ls rws, rfl, by omega, fun p mp => ?_, fun l H1 s1 nl el => ?_⟩
    · obtain ⟨x, ws, mx, mw, rfl⟩ := linesL_mem mp
      exact ⟨line_nl (hl.2 x mx), lineL_len (tg ws mw) n8 (hl.2 x mx).2.1⟩
    have nemp : (sL (linesL ls rws)).isEmpty = false := by
      rw [List.isEmpty_eq_false_iff]
      intro e
      have := congrArg List.length e
      rw [sL_len, lln] at this
      simp at this
      omega
    refine ⟨_, rfl, !(sL (linesL ls rws)).isEmpty, .inl ⟨_, SqL.of el, rfl⟩, ?_⟩
    rw [nemp]
    refine iteF ?_
    refine ⟨_, rfl, l, rfl, ⟨_, SqL.of el⟩, fun D nD => ?_⟩
    refine lc_list (K := K) (a := l) (xs := sL (linesL ls rws)) (fun i H' => Same H1 H' ∧ ∃ fs : List V, H' D = some (.lst fs) ∧ fs.length = i ∧ ∀ j, j < i → ∃ y x ws, fs[j]? = some y ∧ ls[j]? = some x ∧ rws[j]? = some ws ∧ Fnd C H' n y x ws) ⟨Same.put nD, [], upd_same, rfl, fun j h => absurd h (by omega)⟩ (fun i H' _ h => SqL.of (h.1 _ _ el)) ?_ ?_
    · rintro i y H' hy ⟨s2, fs, eD, lf, ff⟩
      obtain ⟨p, hp, mp, rfl⟩ := sL_at hy
      have il := (List.getElem?_eq_some_iff.mp hp).1
      obtain ⟨x, ws, hx, hw, hli⟩ := at_ i (by omega)
      rw [hli] at hp
      cases hp
      have app : ∀ (z : V) (H5 : Hp), Same H' H5 → Fnd C H5 n z x ws → ∃ acc, H5 D = some (HO.lst acc) ∧ acc.length < sizeLine ∧ Same H1 (upd H5 D (.lst (acc ++ [z]))) ∧ ∃ fs : List V, (upd H5 D (.lst (acc ++ [z]))) D = some (.lst fs) ∧ fs.length = i + 1 ∧ ∀ j, j < i + 1 → ∃ y x ws, fs[j]? = some y ∧ ls[j]? = some x ∧ rws[j]? = some ws ∧ Fnd C (upd H5 D (.lst (acc ++ [z]))) n y x ws := by
        intro z H5 s5 hz
        have eD5 := s5 _ _ eD
        refine ⟨fs, eD5, small_len (by omega), Same.but (fun b u e => s5 _ _ (s2 _ _ e)) nD, fs ++ [z], upd_same, by rw [List.length_append, lf]; rfl, fun j hj => ?_⟩
        by_cases c : j = i
        · subst c
          exact ⟨z, x, ws, by rw [← lf]; exact List.getElem?_concat_length, hx, hw, hz.lstU eD5⟩
        · obtain ⟨y, x', ws', g1, g2, g3, g4⟩ := ff j (by omega)
          exact ⟨y, x', ws', by rw [List.getElem?_append_left (by omega)]; exact g1, g2, g3, (g4.same s5).lstU eD5⟩
      refine ⟨rfl, yes_of ?_⟩
      refine ⟨_, rfl, x, n, ws, rfl, hl.2 x (List.mem_of_getElem? hx), tg ws (List.mem_of_getElem? hw), n1, n8, fun ok t b H5 s5 e5 ri => ?_, fun nok H5 s5 => ?_⟩
      · refine app (.ref t) H5 s5 ?_
        unfold Fnd
        rw [if_pos ok]
        exact ⟨t, b, rfl, e5, ri⟩
      · refine app .non H5 s5 ?_
        unfold Fnd
        rw [if_neg (by rw [nok]; decide)]
    · rintro H2 ⟨s2, fs, eD, lf, ff⟩
      rw [sL_len, lln] at lf ff
      have s02 := s1.trans s2
      refine ⟨_, rfl, D, fs, rfl, SqL.of eD, ?_⟩
      refine for_it (walk_enum (K := K) (a := D) (xs := fs)) (fun i σ H' => ∃ v3 v4 : Option V, σ = [some (.str (S (textL ls rws))), some (.ref l), some (.ref D), v3, v4, none, none, none, none] ∧ Same H2 H' ∧ ∀ j ws, j < i → rws[j]? = some ws → rowOk ws = true) ⟨none, none, rfl, Same.refl H2, fun j ws h => absurd h (by omega)⟩ ?_ ?_ ?_
      · rintro i σ H' _ ⟨_, _, _, s3, _⟩
        exact SqL.of (s3 _ _ eD)
      · rintro i y0 σ H' H3 hi ⟨v3, v4, rfl, s3, ok⟩ ⟨T0, u, y, rfl, nT, rfl, hu2, hy⟩
        cases (Option.some.inj hu2)
        rw [lf] at hi
        obtain ⟨y', x, ws, g1, g2, g3, g4⟩ := ff i hi
        have ey : y = y' := Option.some.inj (hy.symm.trans g1)
        subst ey
        refine ⟨T0, [.int (i : Int), y], rfl, SqT.of upd_same, rfl, _, _, rfl, _, _, rfl, rfl, ?_⟩
        have s4 := Same.put (o := .tup [.int (i : Int), y]) nT
        have s24 := s3.trans s4
        have s04 := s02.trans s24
        have g5 := g4.same s24
        generalize (upd H' T0 (.tup [.int (i : Int), y])) = H4 at s04 s24 g5 ⊢
        unfold Fnd at g5
        cases c : rowOk ws with
        | true =>
          rw [if_pos c] at g5
          obtain ⟨t, b, rfl, _, _⟩ := g5
          refine ⟨_, rfl, rfl, _, rfl, iteFe (decide_eq_false fun z => by cases z) ?_⟩
          refine ⟨_, _, rfl, s24, fun j ws' hj hw => ?_⟩
          by_cases cj : j = i
          · subst cj
            rw [g3] at hw
            cases hw
            exact c
          · exact ok j ws' (by omega) hw
        | false =>
          rw [if_neg (by rw [c]; decide)] at g5
          subst g5
          refine ⟨_, rfl, rfl, _, rfl, iteTe (decide_eq_true rfl) ?_⟩
          rcases k with ⟨k0, _⟩ | ⟨i', hi', k1, k2, k⟩
          · have := k0 ws (List.mem_of_getElem? g3)
            rw [c] at this
            cases this
          have ei : i' = i := by
            rcases Nat.lt_trichotomy i' i with h | h | h
            · have h1 : rws[i']? = some rws[i'] := List.getElem?_eq_getElem (by omega)
              have h2 := ok i' _ h h1
              rw [k2 _ h1] at h2
              cases h2
            · exact h
            · have h2 := k1 i ws h g3
              rw [c] at h2
              cases h2
          subst ei
          exact bt_raise N (fun d H5 s5 e5 => k d H5 (s04.trans s5) e5) fun Q q => ⟨_, rfl, _, _, rfl, rfl, q⟩
      · rintro σ H3 ⟨v3, v4, rfl, s3, ok⟩
        rw [lf] at ok
        have k : ∀ (x : Addr) (H' : Hp), Same H H' → IsCh C CC H' x n rws ls → Q (.ref x) H' := by
          rcases k with ⟨_, k⟩ | ⟨i', hi', _, k2, _⟩
          · exact k
          · have h1 : rws[i']? = some rws[i'] := List.getElem?_eq_getElem (by omega)
            have h2 := ok i' _ hi' h1
            rw [k2 _ h1] at h2
            cases h2
        have fo : ∀ j, j < n → ∃ t b x ws, fs[j]? = some (.ref t) ∧ ls[j]? = some x ∧ rws[j]? = some ws ∧ H2 t = some (.tup [.str x, .ref b]) ∧ RowIn C H2 n (b, ws) := fun j hj => by
          obtain ⟨y, x, ws, g1, g2, g3, g4⟩ := ff j hj
          unfold Fnd at g4
          rw [if_pos (ok j ws hj g3)] at g4
          obtain ⟨t, b, rfl, h1, h2⟩ := g4
          exact ⟨t, b, x, ws, g1, g2, g3, h1, h2⟩
        refine ⟨_, rfl, D, fs, rfl, SqL.of (s3 _ _ eD), ?_⟩
        refine for_it (walk_enum (K := K) (a := D) (xs := fs)) (fun i σ H' => ∃ v3 v4 v5 v6 : Option V, σ = [some (.str (S (textL ls rws))), some (.ref l), some (.ref D), v3, v4, v5, v6, none, none] ∧ Same H2 H') ⟨v3, v4, none, none, rfl, s3⟩ ?_ ?_ ?_
        · rintro i σ H' _ ⟨_, _, _, _, _, s4⟩
          exact SqL.of (s4 _ _ eD)
        · rintro i y0 σ H' H4 hi ⟨w3, w4, w5, w6, rfl, s4⟩ ⟨T0, u, y, rfl, nT, rfl, hu2, hy⟩
          cases (Option.some.inj hu2)
          rw [lf] at hi
          obtain ⟨t, b, x, ws, g1, g2, g3, h1, ri⟩ := fo i hi
          have ey : y = .ref t := Option.some.inj (hy.symm.trans g1)
          subst ey
          have s5 := Same.put (o := .tup [.int (i : Int), .ref t]) nT
          have s25 := s4.trans s5
          obtain ⟨xs, q1, q2, q3⟩ := ri
          have q1 : H2 b = some (.tup xs) := q1
          have lx : xs.length = n := by rw [q2.1, List.length_map]; exact q3.1
          refine ⟨T0, [.int (i : Int), .ref t], rfl, SqT.of upd_same, rfl, _, _, rfl, _, _, rfl, t, [.str x, .ref b], rfl, SqT.of (s25 _ _ h1), rfl, _, _, rfl, _, _, rfl, rfl, rfl, ?_⟩
          generalize (upd H' T0 (.tup [.int (i : Int), .ref t])) = H5 at s25 ⊢
          refine ⟨_, rfl, b, xs, rfl, .inr (SqT.of (s25 _ _ q1)), _, rfl, l, _, rfl, .inl (SqL.of (s25 _ _ (s2 _ _ el))), rfl, _, rfl, iteFe ?_ ⟨_, _, _, _, rfl, s25⟩⟩
          rw [lx, sL_len, lln, decide_eq_true rfl]
          rfl
        · rintro σ H4 ⟨w3, w4, w5, w6, rfl, s4⟩
          have s04 := s02.trans s4
          refine ⟨_, rfl, D, rfl, ⟨_, SqL.of (s4 _ _ eD)⟩, fun D2 nD2 => ?_⟩
          refine lc_list (K := K) (a := D) (xs := fs) (fun i H' => Same H4 H' ∧ ∃ rs : List (Addr × List Nat), H' D2 = some (.lst (rfs rs)) ∧ rs.length = i ∧ (∀ r ∈ rs, RowIn C H4 n r) ∧ rs.map (·.2) = rws.take i) ⟨Same.put nD2, [], upd_same, rfl, fun _ m => (by cases m), rfl⟩ (fun i H' _ h => SqL.of (h.1 _ _ (s4 _ _ eD))) ?_ ?_
          · rintro i y H' hy ⟨s5, rs, eD2, lrs, ir, qr⟩
            have il := (List.getElem?_eq_some_iff.mp hy).1
            obtain ⟨t, b, x, ws, g1, g2, g3, h1, ri⟩ := fo i (by omega)
            rw [g1] at hy
            cases hy
            have e1 := s5 _ _ (s4 _ _ h1)
            refine ⟨t, [.str x, .ref b], rfl, SqT.of e1, rfl, _, _, rfl, _, _, rfl, rfl, rfl, yes_of ?_⟩
            refine ⟨_, rfl, _, eD2, by rw [rfs_len]; exact small_len (by omega), Same.but s5 nD2, rs ++ [(b, ws)], by rw [upd_same, rfs_snoc], by rw [List.length_append, lrs]; rfl, fun r m => ?_, ?_⟩
            · rcases List.mem_append.mp m with m | m
              · exact ir r m
              · rw [List.mem_singleton.mp m]
                exact ri.same s4
            · rw [List.map_append, qr, take_more g3]
              rfl
          rintro H5 ⟨s5, rs, eD2, lrs, ir, qr⟩
          rw [lf] at lrs qr
          rw [← lr, List.take_length] at qr
          refine ⟨D2, _, rfl, .inl ⟨SqL.of eD2, fun T1 nT1 => ?_⟩⟩
          have s6 := Same.put (o := .tup (rfs rs)) nT1
          have eT1 : (upd H5 T1 (.tup (rfs rs))) T1 = some (.tup (rfs rs)) := upd_same
          generalize (upd H5 T1 (.tup (rfs rs))) = H6 at s6 eT1 ⊢
          have s46 := s5.trans s6
          refine ⟨_, rfl, D, rfl, ⟨_, SqL.of (s46 _ _ (s4 _ _ eD))⟩, fun D3 nD3 => ?_⟩
          refine lc_list (K := K) (a := D) (xs := fs) (fun i H' => Same H6 H' ∧ H' D3 = some (.lst (sV (ls.take i)))) ⟨Same.put nD3, upd_same⟩ (fun i H' _ h => SqL.of (h.1 _ _ (s46 _ _ (s4 _ _ eD)))) ?_ ?_
          · rintro i y H' hy ⟨s7, eD3⟩
            have il := (List.getElem?_eq_some_iff.mp hy).1
            obtain ⟨t, b, x, ws, g1, g2, g3, h1, ri⟩ := fo i (by omega)
            rw [g1] at hy
            cases hy
            have e1 := s7 _ _ (s46 _ _ (s4 _ _ h1))
            refine ⟨t, [.str x, .ref b], rfl, SqT.of e1, rfl, _, _, rfl, _, _, rfl, rfl, rfl, yes_of ?_⟩
            refine ⟨_, rfl, _, eD3, by rw [sV_len, List.length_take]; exact small_len (by omega), Same.but s7 nD3, ?_⟩
            rw [upd_same, sV_snoc, take_more g2]
          rintro H7 ⟨s7, eD3⟩
          rw [lf, ← lls, List.take_length] at eD3
          refine ⟨D3, _, rfl, .inl ⟨SqL.of eD3, fun T2 nT2 => ?_⟩⟩
          have s8 := Same.put (o := .tup (sV ls)) nT2
          have s48 := (s46.trans s7).trans s8
          intro x dx hx hd ne
          refine chn_go hx hd ne n1 n8 (s8 _ _ (s7 _ _ eT1)) lrs (fun r m => (ir r m).same s48) upd_same hl fun H' s' ic => ⟨rfl, ?_⟩
          rw [qr] at ic
          exact k x H' ((s04.trans s48).trans s') ic
end
end KI
set_option Elab.async false
set_option linter.all false
set_option maxRecDepth 100000
set_option maxHeartbeats 4000000
/-! two lists of the very same things are not unlike, whatever the things are -/
namespace L2
open PySem PySem.Spec PyProof.Rows PySem.SeqAt PySem.MeetsSeq
def PlV : V → Prop
  | .non => True
  | .bl _ => True
  | .int _ => True
  | .str _ => True
  | .ref _ => True
  | _ => False
end L2
set_option Elab.async false
set_option linter.all false
set_option maxRecDepth 100000
set_option maxHeartbeats 4000000
/-! two tuples of instances, compared by the == of their class -/
namespace L2
open PySem PySem.Spec PyProof.Rows PySem.SeqAt PySem.MeetsSeq PySem.MeetsSeq2 PySem.MeetsSeq3 PySem.SeqRoads2
open PySem.AutoSeq1 (wpAny_loadPart')
def rEqTup (K : PySem.W.Frag) (r : R2) : R2 := fun x y H Q => ∃ (a b : Addr) (cs ds : List Addr) (e : Nat → Bool), x = .ref a ∧ y = .ref b ∧ SqT K H a (cs.map V.ref) ∧ SqT K H b (ds.map V.ref) ∧
  (∀ i c d, cs[i]? = some c → ds[i]? = some d → (c = d → e i = true) ∧ r (.ref c) (.ref d) H (fun v H' => v = .bl (e i) ∧ H' = H)) ∧
  Q (.bl ((List.range (min cs.length ds.length)).all e && cs.length == ds.length)) H
section
variable {X : Cx} {pins : List (Addr × Obj)} {σ : St} {H : Hp}
theorem tup_item {r : R2} (op : OpR X.inn (compareOp .Eq) r) {c d : Addr} {k : Bool} (hk : c = d → k = true) (hr : r (.ref c) (.ref d) H (fun v H' => v = .bl k ∧ H' = H)) {s : Shared} (I : Inv X pins σ H s) {E : Value → Shared → Prop} (hE : ∀ e s', X.xe e s' → E e s') {Q : Bool → Shared → Prop} (hQ : ∀ s', Inv X pins σ H s' → Q k s') :
    wpAny (model X.prog X.w) X.A.in1 (eqBool (.ref c) (.ref d)) Q E s := by
  unfold eqBool
  refine wpAny_holding ?_
  refine wpAny_ite_split (fun hab => ?_) (fun hab => ?_)
  · have : c = d := by have := eq_of_beq hab; injection this
    rw [hk this] at hQ
    exact wpAny_bind (wpAny_rule (wpAny_pure (hQ _ I)))
  · refine wpAny_bind (wpAny_mono (op pins s σ H (.ref c) (.ref d) (.ref c) (.ref d) (fun v H' => v = .bl k ∧ H' = H) I.inn rfl rfl hr) (fun w s2 q => ?_) (fun e s2 z => hE e s2 z))
    obtain ⟨z, H2, I3, rz, rfl, rfl⟩ := q
    cases rz
    exact wpAny_truthy_bool (hQ _ (I3.outn I.ok))
theorem op_eqTup {r : R2} (hu : X.A.units < cLine) (op : OpR X.inn (compareOp .Eq) r) : OpR X (compareOp .Eq) (rEqTup X.K r) := by
  intro pins s σ H x y v u Q I rx ry h
  obtain ⟨a, b, cs, ds, e, rfl, rfl, h1, h2, he, q⟩ := h
  cases rx
  cases ry
  obtain ⟨i1, r1, p1, _⟩ := I.tuple h1
  obtain ⟨i2, r2, p2, _⟩ := I.tuple h2
  have l1 : cs.length = i1.length := by have := r1.length; rwa [List.length_map] at this
  have l2 : ds.length = i2.length := by have := r2.length; rwa [List.length_map] at this
  have g1 : ∀ j (hj : j < i1.toArray.size) (hc : j < cs.length), i1.toArray[j] = .ref cs[j] := fun j hj hc => by
    obtain ⟨u1, e1, q1⟩ := r1.get (show (cs.map V.ref)[j]? = some (.ref cs[j]) from by rw [List.getElem?_map, List.getElem?_eq_getElem hc]; rfl)
    cases q1
    simp only [List.getElem_toArray]
    exact (List.getElem?_eq_some_iff.mp e1).2
  have g2 : ∀ j (hj : j < i2.toArray.size) (hc : j < ds.length), i2.toArray[j] = .ref ds[j] := fun j hj hc => by
    obtain ⟨u1, e1, q1⟩ := r2.get (show (ds.map V.ref)[j]? = some (.ref ds[j]) from by rw [List.getElem?_map, List.getElem?_eq_getElem hc]; rfl)
    cases q1
    simp only [List.getElem_toArray]
    exact (List.getElem?_eq_some_iff.mp e1).2
  obtain ⟨⟨cls, dd, data, sl⟩, ho, hc, n, hd⟩ := id p1
  obtain ⟨⟨cls2, dd2, data2, sl2⟩, ho2, hc2, n2, hd2⟩ := id p2
  simp only at hc hd hc2 hd2
  subst hc hd hc2 hd2
  have ta : s.TypeIs (.ref a) "tuple" := ⟨_, ho, rfl⟩
  have tb : s.TypeIs (.ref b) "tuple" := ⟨_, ho2, rfl⟩
  have key : MeetsIn X.prog X.w (Builtin.«tuple.__eq__» ⟨[.ref a, .ref b], []⟩) (fun A R s => A = X.A ∧ Inv X pins σ H s ∧ (∀ er s', X.xe er s' → R (.error er) s') ∧ s.heap.get? a = some { cls := .type "tuple", dict := dd, data := .seq i1.toArray n, slots := sl } ∧ s.heap.get? b = some { cls := .type "tuple", dict := dd2, data := .seq i2.toArray n2, slots := sl2 } ∧
      ∀ s', Inv X pins σ H s' → R (.ok (.ret (.bool ((List.range (min i1.toArray.size i2.toArray.size)).all e && i1.toArray.size == i2.toArray.size)))) s') := by
    intro A R s h
    obtain ⟨hp, g, d, tk, os⟩ := s
    obtain ⟨rfl, I, hE, hl, hb, h⟩ := h
    have f2 := AutoSeq1.sub_tuple_tuple
    have hZ : (i1.toArray.toList.zip i2.toArray.toList).length = min i1.toArray.size i2.toArray.size := by simp
    wp_walk using wpAny_loadPart' hl, wpAny_loadPart' hb, wpAny_forIn_list _ (fun rest b s' => b.1 = none ∧ Inv X pins σ H s' ∧ ∃ i, rest = (i1.toArray.toList.zip i2.toArray.toList).drop i ∧
      ∀ s', Inv X pins σ H s' → R (.ok (.ret (.bool (((List.range (min i1.toArray.size i2.toArray.size)).drop i).all e && i1.toArray.size == i2.toArray.size)))) s') _
    case turn =>
      rintro ⟨y, x⟩ rest b s' ⟨hb', I', i, hz, hR⟩
      have hlt : i < (i1.toArray.toList.zip i2.toArray.toList).length := by
        rcases Nat.lt_or_ge i (i1.toArray.toList.zip i2.toArray.toList).length with h' | h'
        · exact h'
        · rw [List.drop_of_length_le h'] at hz; cases hz
      have hm : i < min i1.toArray.size i2.toArray.size := hZ ▸ hlt
      have h1 : i < i1.toArray.size := Nat.lt_of_lt_of_le hm (Nat.min_le_left _ _)
      have h2 : i < i2.toArray.size := Nat.lt_of_lt_of_le hm (Nat.min_le_right _ _)
      have c1 : i < cs.length := by rw [l1]; simpa using h1
      have c2 : i < ds.length := by rw [l2]; simpa using h2
      rw [List.drop_eq_getElem_cons hlt] at hz
      injection hz with hyx hrest
      have hy : y = .ref cs[i] := by rw [← g1 i h1 c1]; have := congrArg Prod.fst hyx; simpa using this
      have hx : x = .ref ds[i] := by rw [← g2 i h2 c2]; have := congrArg Prod.snd hyx; simpa using this
      subst hy hx
      have hd : (List.range (min i1.toArray.size i2.toArray.size)).drop i = i :: (List.range (min i1.toArray.size i2.toArray.size)).drop (i + 1) := by
        rw [List.drop_eq_getElem_cons (by rw [List.length_range]; exact hm), List.getElem_range]
      rw [hd, List.all_cons] at hR
      obtain ⟨k1, k2⟩ := he i _ _ (List.getElem?_eq_getElem c1) (List.getElem?_eq_getElem c2)
      refine wpAny_bind (tup_item op k1 k2 I' hE fun s2 I2 => ?_)
      cases hy : e i with
      | true =>
        rw [hy] at hR
        wp_walk
        exact ⟨rfl, I2, i + 1, hrest, by simpa using hR⟩
      | false =>
        rw [hy] at hR
        wp_walk
        exact by simpa using hR _ I2
    case fin =>
      rintro ⟨b1, b2⟩ s' ⟨hb', I', i, hz, hR⟩
      simp only at hb'
      subst hb'
      have hge : min i1.toArray.size i2.toArray.size ≤ i := by
        rcases Nat.lt_or_ge i (i1.toArray.toList.zip i2.toArray.toList).length with h' | h'
        · rw [List.drop_eq_getElem_cons h'] at hz; cases hz
        · exact hZ ▸ h'
      rw [List.drop_of_length_le (by simpa using hge)] at hR
      wp_walk
      exact by simpa [Builtin.Tuple.tupleCompareSizes] using hR _ I'
    case h =>
      exact ⟨rfl, I, 0, rfl, by simpa using h⟩
  have sz : ((List.range (min i1.toArray.size i2.toArray.size)).all e && i1.toArray.size == i2.toArray.size) = ((List.range (min cs.length ds.length)).all e && cs.length == ds.length) := by
    simp only [List.size_toArray, ← l1, ← l2]
  exact wpAny_richCompare_same_room (op := .Eq) ta tb F.slot_tuple_eq (call_meetsIn F.slot_tuple_eq ta F.entry_tuple_eq (F.args_tuple_eq_2 _ _) key
    ⟨rfl, I, fun er s' z => z, ho, ho2, fun s' I' => by rw [sz]; exact ⟨(fun x => nomatch x), .bl _, H, I', rfl, q⟩⟩) hu
end
end L2
set_option Elab.async false
set_option linter.all false
set_option maxRecDepth 100000
set_option maxHeartbeats 1000000
namespace KI
open PySem L2 SX Tx
theorem un64 {k : Nat} {A : Around} (r : Room k A) : A.units + 64 < cLine := by
  have := r.un
  omega
/-- the shares of the rows, in lowest terms -/
def lowR (ws : List Nat) : List (Int × Int) := ws.map fun w : Nat => (lowT (w : Int) (ws.sum : Int), lowB (w : Int) (ws.sum : Int))
def lowRs (rws : List (List Nat)) : List (List (Int × Int)) := rws.map lowR
def sameCh (rws rws' : List (List Nat)) (ls ls' : List Str) : Bool := decide (lowRs rws = lowRs rws') && decide (ls = ls')
theorem range_eq {α : Type} [DecidableEq α] (xs ys : List α) (e : Nat → Bool) (h : ∀ i, i < xs.length → i < ys.length → e i = decide (xs[i]? = ys[i]?)) : ((List.range (min xs.length ys.length)).all e && xs.length == ys.length) = decide (xs = ys) := by
  rw [Bool.eq_iff_iff, Bool.and_eq_true, decide_eq_true_eq, List.all_eq_true, beq_iff_eq]
  constructor
  · rintro ⟨h1, h2⟩
    refine List.ext_getElem? fun i => ?_
    rcases Nat.lt_or_ge i xs.length with hi | hi
    · have := h1 i (List.mem_range.mpr (by omega))
      rw [h i hi (by omega)] at this
      exact of_decide_eq_true this
    · rw [List.getElem?_eq_none hi, List.getElem?_eq_none (by omega)]
  · rintro rfl
    refine ⟨fun i mi => ?_, rfl⟩
    have := List.mem_range.mp mi
    rw [h i (by omega) (by omega)]
    exact decide_eq_true rfl
theorem dp_strs {K : PySem.W.Frag} {H : Hp} : ∀ ls : List Str, DpAll K H (sV ls) (ls.map PyData.str)
  | [] => .nil
  | x :: ls => .cons (.str x) (dp_strs ls)
theorem nam_ok {x : Str} (h : Nam x) : PyData.canLay0 (.str x) = true := by
  show x.cps.all (· < 0x110000) = true
  rw [← Array.all_toList, List.all_eq_true]
  intro c m
  have := h.2.2 c m
  exact decide_eq_true (by omega)
theorem lay_strs : ∀ ls : List Str, (∀ x ∈ ls, Nam x) → PyData.canLayAll0 (ls.map PyData.str) = true ∧ PyData.depthAll (ls.map PyData.str) = 0
  | [], _ => ⟨rfl, rfl⟩
  | a :: ls, h => by
    obtain ⟨h1, h2⟩ := lay_strs ls fun x m => h x (List.mem_cons_of_mem _ m)
    refine ⟨?_, ?_⟩
    · show ((PyData.str a).canLay0 && PyData.canLayAll0 (ls.map PyData.str)) = true
      rw [h1, nam_ok (h a List.mem_cons_self)]
      rfl
    · show max (PyData.depth (.str a)) (PyData.depthAll (ls.map PyData.str)) = 0
      rw [h2]
      rfl
theorem shaped_strs {ls : List Str} (h : ∀ x ∈ ls, Nam x) : SeqAt.shaped (.tuple (ls.map PyData.str)) = true := by
  obtain ⟨h1, h2⟩ := lay_strs ls h
  unfold SeqAt.shaped
  rw [Bool.and_eq_true, decide_eq_true_eq]
  refine ⟨h1, ?_⟩
  show PyData.depthAll (ls.map PyData.str) + 1 ≤ 64
  omega
theorem eqvAll_strs : ∀ ns ms : List Str, PyData.eqvAll (ns.map PyData.str) (ms.map PyData.str) = decide (ns = ms)
  | [], [] => rfl
  | [], _ :: _ => rfl
  | _ :: _, [] => rfl
  | a :: ns, b :: ms => by
    show (PyData.eqv (.str a) (.str b) && PyData.eqvAll (ns.map PyData.str) (ms.map PyData.str)) = _
    rw [eqvAll_strs ns ms, Bool.eq_iff_iff, Bool.and_eq_true, decide_eq_true_eq, decide_eq_true_eq, List.cons.injEq]
    have e : PyData.eqv (.str a) (.str b) = (a == b) := by simp [PyData.eqv]
    rw [e, beq_iff_eq]
theorem eqv_strs (ls ls' : List Str) : PyData.eqv (.tuple (ls.map PyData.str)) (.tuple (ls'.map PyData.str)) = decide (ls = ls') := by
  rw [PyData.eqv]
  exact eqvAll_strs ls ls'
/-- two rows of shares, compared -/
theorem row_low {C : Addr} {H : Hp} {n : Nat} {r : Addr × List Nat} (h : RowSh C H n r) : ∃ as : List Addr, H r.1 = some (.tup (as.map V.ref)) ∧ as.length = (lowR r.2).length ∧ ∀ (i : Nat) (a : Addr), as[i]? = some a → ∃ (dx : Addr) (t b : Int), (lowR r.2)[i]? = some (t, b) ∧ H a = some (.ins C dx (shF t b)) := by
  obtain ⟨as, h1, h2, h3, h4⟩ := h
  refine ⟨as, h1, by unfold lowR; rw [List.length_map, h2, h3.1], fun i a e => ?_⟩
  obtain ⟨dx, w, q1, q2⟩ := h4 i a e
  exact ⟨dx, _, _, by unfold lowR; rw [List.getElem?_map, q1]; rfl, q2⟩
theorem same_low {C : Addr} {H : Hp} {a dx dy : Addr} {t b t' b' : Int} (h1 : H a = some (.ins C dx (shF t b))) (h2 : H a = some (.ins C dy (shF t' b'))) : (t, b) = (t', b') := by
  rw [h1] at h2
  have e := (HO.ins.inj (Option.some.inj h2)).2.2
  have e1 := congrArg (fun fs => fs.lookup ("top" : Str)) e
  have e2 := congrArg (fun fs => fs.lookup ("bottom" : Str)) e
  rw [shF_top, shF_top] at e1
  rw [shF_bottom, shF_bottom] at e2
  rw [V.int.inj (Option.some.inj e1), V.int.inj (Option.some.inj e2)]
theorem rows_eq {K : PySem.W.Frag} {C : Addr} {H : Hp} {n n' : Nat} {r r' : Addr × List Nat} (h : RowSh C H n r) (h' : RowSh C H n' r') : (r.1 = r'.1 → decide (lowR r.2 = lowR r'.2) = true) ∧ rEqTup K (rOwnB K C (EqS K C) .Eq) (.ref r.1) (.ref r'.1) H (fun v H' => v = .bl (decide (lowR r.2 = lowR r'.2)) ∧ H' = H) := by
  obtain ⟨as, e1, l1, f1⟩ := row_low h
  obtain ⟨bs, e2, l2, f2⟩ := row_low h'
  constructor
  · intro q
    rw [q, e2] at e1
    have q2 : bs.map V.ref = as.map V.ref := HO.tup.inj (Option.some.inj e1)
    have q3 : bs = as := (List.map_inj_right fun x y e => V.ref.inj e).mp q2
    subst q3
    refine decide_eq_true (List.ext_getElem? fun i => ?_)
    cases g : bs[i]? with
    | none =>
      have := List.getElem?_eq_none_iff.mp g
      rw [List.getElem?_eq_none (by omega), List.getElem?_eq_none (by omega)]
    | some a =>
      obtain ⟨dx, t, b, g1, g2⟩ := f1 i a g
      obtain ⟨dy, t', b', g3, g4⟩ := f2 i a g
      rw [g1, g3, same_low g2 g4]
  · refine ⟨r.1, r'.1, as, bs, fun i => decide ((lowR r.2)[i]? = (lowR r'.2)[i]?), rfl, rfl, SqT.of e1, SqT.of e2, fun i c d hc hd => ?_, ?_⟩
    · obtain ⟨dx, t, b, g1, g2⟩ := f1 i c hc
      obtain ⟨dy, t', b', g3, g4⟩ := f2 i d hd
      constructor
      · intro q
        subst q
        show decide ((lowR r.2)[i]? = (lowR r'.2)[i]?) = true
        rw [g1, g3, same_low g2 g4]
        exact decide_eq_true rfl
      · show rOwnB K C (EqS K C) .Eq (.ref c) (.ref d) H (fun v H' => v = .bl (decide ((lowR r.2)[i]? = (lowR r'.2)[i]?)) ∧ H' = H)
        rw [g1, g3]
        refine ⟨decide (V.int t = V.int t') && decide (V.int b = V.int b'), .inl ⟨c, dx, _, rfl, g2, ⟨dx, t, b, g2, .inl ⟨d, dy, t', b', rfl, g4, rfl⟩⟩, .inr ⟨d, dy, _, rfl, g4⟩⟩, ?_, rfl⟩
        show V.bl (decide (V.int t = V.int t') && decide (V.int b = V.int b')) = _
        rw [V.bl.injEq, Bool.eq_iff_iff, Bool.and_eq_true, decide_eq_true_eq, decide_eq_true_eq, decide_eq_true_eq, V.int.injEq, V.int.injEq, Option.some.injEq, Prod.mk.injEq]
    · refine ⟨?_, rfl⟩
      rw [l1, l2, range_eq (lowR r.2) (lowR r'.2) _ fun i _ _ => rfl]
/-- == of two chains -/
def EqC (C CC : Addr) : Addr → V → Bool → Hp → Prop := fun a y b H => ∃ (o : Addr) (n n' : Nat) (rws rws' : List (List Nat)) (ls ls' : List Str), y = .ref o ∧ n ≤ 8 ∧ n' ≤ 8 ∧ IsCh C CC H a n rws ls ∧ IsCh C CC H o n' rws' ls' ∧ (a = o → rws = rws' ∧ ls = ls') ∧ b = sameCh rws rws' ls ls'
structure EqCT (P : Program) (w : World) (K : PySem.W.Frag) (mg : Str → Option Value) (base : Heap) (C CC : Addr) : Prop where
  ex : ∃ (f : Addr) (fd : FuncData), OwnT K CC f ∧ FnOk P w K mg base CX0 6 f fd ["self", "other"] (spOwn (EqC C CC)) ∧ Binds K fd ["self", "other"] []
section
variable {P : Program} {w : World} {K : PySem.W.Frag} {mg : Str → Option Value} {base : Heap} {C CC B : Addr}
abbrev s_ceq : Stmt := inClass (top 29) 5
theorem sc_ceq : FnScope ["self", "other"] ["self", "other"] (defScope s_ceq) := ⟨rfl, rfl, rfl, by decide +kernel, rfl, by decide +kernel, by decide +kernel⟩
theorem ok_ceq {f : Addr} {fd : FuncData} (F : Fun K "__eq__" "Chain.__eq__" s_ceq f fd) (T : Bm mg) (t : ChT K mg CC) (eq : EqT P w K mg base C) : FnOk P w K mg base CX0 6 f fd ["self", "other"] (spOwn (EqC C CC)) := by
  obtain ⟨g, gd, O, G, bG⟩ := eq.ex
  refine F.ok sc_ceq (fun vs H Q E h => ?_) (fun cdv A outer s H vs Q E hr h => ?_)
  · obtain ⟨a, y, b, rfl, _⟩ := h
    rfl
  · obtain ⟨a, y, b, rfl, ⟨o, n, n', rws, rws', ls, ls', rfl, n8, n8', ca, co, same, rfl⟩, k⟩ := h
    have hu := hu_of hr
    have h64 := un64 hr
    refine ⟨_, (pss_one (ps_ret (pe_and (pe_callB call_isi (by rfl) T.b.n_isinstance (by decide +kernel) (pa_cons (pv 1) (pa_cons (pe_glob (v := .ref CC) rfl t.gC rfl) pa_nil))) (pe_and (pe_cmpR (op_eqTup (by exact Nat.lt_of_succ_lt hu) (op_eqTup (by exact hr.in1.units0) (op_ownB (R := EqS K C) is_eq G O bG pass0 hr.in1.in1))) (pe_fld (pv 0) rfl) (pe_fld (pv 1) rfl) (nomark _)) (pe_one (pe_cmpR (op_eqD (by exact h64)) (pe_fld (pv 0) rfl) (pe_fld (pv 1) rfl) (nomark _))))))), ?_⟩
    obtain ⟨dx, T1, lb, rs, h1, h2, h3, h4, h5, h6, h7⟩ := id ca
    obtain ⟨dy, T2, lb2, rs2, g1, g2, g3, g4, g5, g6, g7⟩ := id co
    refine ⟨_, rfl, .ref o, .ref CC, _, _, true, rfl, .own CC, t.it.ty g1, t.it.kself, _, rfl, iteT ?_⟩
    have eR : decide (lowRs rws = lowRs rws') = decide (rs.map (fun r => lowR r.2) = rs2.map fun r => lowR r.2) := by
      rw [← h5, ← g5]
      unfold lowRs
      rw [List.map_map, List.map_map]
      rfl
    refine ⟨_, rfl, a, CC, dx, _, _, rfl, h1, t.it.cl, t.nR, chF_rows _ _ _, _, rfl, o, CC, dy, _, _, rfl, g1, t.it.cl, t.nR, chF_rows _ _ _, ?_⟩
    refine ⟨T1, T2, rs.map (·.1), rs2.map (·.1), fun i => decide ((rs.map fun r => lowR r.2)[i]? = (rs2.map fun r => lowR r.2)[i]?), rfl, rfl, SqT.of (by rw [List.map_map]; exact h2), SqT.of (by rw [List.map_map]; exact g2), fun i c d hc hd => ?_, ?_⟩
    · rw [List.getElem?_map] at hc hd
      cases e1 : rs[i]? with
      | none => rw [e1] at hc; cases hc
      | some r =>
        cases e2 : rs2[i]? with
        | none => rw [e2] at hd; cases hd
        | some r' =>
          rw [e1] at hc
          rw [e2] at hd
          cases hc
          cases hd
          have q := rows_eq (K := K) (h4 r (List.mem_of_getElem? e1)) (g4 r' (List.mem_of_getElem? e2))
          have e : decide ((rs.map fun r => lowR r.2)[i]? = (rs2.map fun r => lowR r.2)[i]?) = decide (lowR r.2 = lowR r'.2) := by
            rw [List.getElem?_map, List.getElem?_map, e1, e2]
            show decide (some (lowR r.2) = some (lowR r'.2)) = _
            rw [decide_eq_decide, Option.some.injEq]
          show (_ → decide ((rs.map fun r => lowR r.2)[i]? = (rs2.map fun r => lowR r.2)[i]?) = true) ∧ rEqTup K _ _ _ H (fun v H' => v = .bl (decide ((rs.map fun r => lowR r.2)[i]? = (rs2.map fun r => lowR r.2)[i]?)) ∧ H' = H)
          rw [e]
          exact q
    · have e := range_eq (rs.map fun r => lowR r.2) (rs2.map fun r => lowR r.2) (fun i => decide ((rs.map fun r => lowR r.2)[i]? = (rs2.map fun r => lowR r.2)[i]?)) fun i _ _ => rfl
      rw [List.length_map, List.length_map] at e
      rw [List.length_map, List.length_map, e, ← eR]
      refine ⟨_, rfl, ?_⟩
      unfold sameCh at k
      cases c : decide (lowRs rws = lowRs rws') with
      | false =>
        rw [c, Bool.false_and] at k
        exact iteF k
      | true =>
        rw [c, Bool.true_and] at k
        refine iteT ?_
        refine ⟨_, rfl, a, CC, dx, _, _, rfl, h1, t.it.cl, t.nL, chF_labels _ _ _, _, rfl, o, CC, dy, _, _, rfl, g1, t.it.cl, t.nL, chF_labels _ _ _, ?_⟩
        refine ⟨_, _, .tup (SqT.of h6) (dp_strs ls), .tup (SqT.of g6) (dp_strs ls'), shaped_strs h7.2, shaped_strs g7.2, ?_⟩
        rw [eqv_strs]
        exact k
end
end KI
set_option Elab.async false
set_option linter.all false
set_option maxRecDepth 100000
set_option maxHeartbeats 1000000
namespace KI
open PySem L2 SX Tx
/-! ### the law's own text of a share -/
def spWrite (C : Addr) : Sp := fun vs H Q _ => ∃ (a dx : Addr) (t n : Nat), vs = [.ref a] ∧ H a = some (.ins C dx (shF (t : Int) (n : Int))) ∧ t < 2 ^ 1400 ∧ n < 2 ^ 1400 ∧ Q (.str (S (shL t n))) H
theorem log1400 {n : Nat} (h : n < 2 ^ 1400) : ((n : Int)).natAbs.log2 < 1920 := by
  show n.log2 < 1920
  by_cases h0 : n = 0
  · rw [h0]; decide
  · exact (Nat.log2_lt h0).mpr (Nat.lt_trans h (by decide +kernel))
section
variable {P : Program} {w : World} {K : PySem.W.Frag} {mg : Str → Option Value} {base : Heap} {C CC B : Addr}
abbrev s_write : Stmt := top 57
theorem sc_write : FnScope ["_law_share"] ["_law_share"] (defScope s_write) := ⟨rfl, rfl, rfl, by decide +kernel, rfl, by decide +kernel, by decide +kernel⟩
theorem ok_write {f : Addr} {fd : FuncData} (F : Fun K "_law_write" "_law_write" s_write f fd) (T : ShT K mg C) : FnOk P w K mg base CX0 1 f fd ["_law_share"] (spWrite C) := by
  refine F.ok sc_write (fun vs H Q E h => ?_) (fun cdv A outer s H vs Q E hr h => ?_)
  · obtain ⟨a, dx, t, n, rfl, _⟩ := h
    rfl
  · obtain ⟨a, dx, t, n, rfl, ha, ht, hn, k⟩ := h
    refine ⟨_, (pss_cons (ps_if (pt_cmpR op_eq (pe_fld (pv 0) rfl) pe_int (nomark _))
        (pss_one (ps_ret (pe_callTy call_str_int (by rfl) T.bn.n_str (by decide +kernel) (pa_cons (pe_fld (pv 0) rfl) pa_nil))))
        pss_nil)
      (pss_one (ps_ret (pe_op op_add_str (pe_op op_add_str (pe_callTy call_str_int (by rfl) T.bn.n_str (by decide +kernel) (pa_cons (pe_fld (pv 0) rfl) pa_nil)) pe_str) (pe_callTy call_str_int (by rfl) T.bn.n_str (by decide +kernel) (pa_cons (pe_fld (pv 0) rfl) pa_nil)))))), ?_⟩
    have lt := dgS_len ht
    have ln := dgS_len hn
    rw [S_len] at lt ln
    refine ⟨_, rfl, a, C, dx, _, _, rfl, ha, T.it.cl, T.nB, shF_bottom _ _, rfl, _, rfl, iteB (fun z => ?_) (fun z => ?_)⟩
    · have e : n = 1 := by have := of_decide_eq_true z; rw [V.int.injEq] at this; omega
      refine ⟨_, rfl, a, C, dx, _, _, rfl, ha, T.it.cl, T.nT, shF_top _ _, (t : Int), rfl, log1400 ht, ?_⟩
      rw [str_dg]
      unfold shL at k
      rw [if_pos e] at k
      exact k
    · have e : ¬ n = 1 := fun q => of_decide_eq_false z (by rw [q]; rfl)
      refine ⟨_, rfl, a, C, dx, _, _, rfl, ha, T.it.cl, T.nT, shF_top _ _, (t : Int), rfl, log1400 ht, ?_⟩
      rw [str_dg]
      refine ⟨_, _, rfl, rfl, by rw [S_len]; exact Nat.le_trans (show _ + 1 ≤ 1401 by omega) (by decide), ?_⟩
      refine ⟨_, rfl, a, C, dx, _, _, rfl, ha, T.it.cl, T.nB, shF_bottom _ _, (n : Int), rfl, log1400 hn, ?_⟩
      rw [str_dg, show Str.ofString "/" = S [47] from rfl, S_cat]
      refine ⟨_, _, rfl, rfl, by rw [S_len, S_len, List.length_append]; exact Nat.le_trans (show _ + 1 + _ ≤ 2801 by omega) (by decide), ?_⟩
      rw [S_cat, show dg t ++ [47] ++ dg n = dg t ++ (47 :: dg n) by simp]
      unfold shL at k
      rw [if_neg e] at k
      exact k
end
end KI
set_option Elab.async false
set_option linter.all false
set_option maxRecDepth 100000
set_option maxHeartbeats 1000000
namespace KI
open PySem L2 SX Tx
/-- _law_same(one, other), of two ints -/
def spSameI : Sp := fun vs H Q _ => ∃ i j : Int, vs = [.int i, .int j] ∧ Q (.bl (decide (i = j))) H
/-- _law_too_long(rows): 0, or the first row with a number of more than 100 digits, counted from 1 -/
def spTooLong (C : Addr) : Sp := fun vs H Q _ => ∃ (l : Addr) (n : Nat) (rs : List (Addr × List Nat)), vs = [.ref l] ∧ n ≤ 8 ∧ rs.length ≤ 8 ∧ H l = some (.lst (rfs rs)) ∧ (∀ r ∈ rs, RowSh C H n r) ∧
  (((∀ r ∈ rs, rowOk r.2 = true) ∧ Q (.int 0) H) ∨ ∃ i : Nat, i < rs.length ∧ (∀ (j : Nat) (r : Addr × List Nat), j < i → rs[j]? = some r → rowOk r.2 = true) ∧ (∀ r : Addr × List Nat, rs[i]? = some r → rowOk r.2 = false) ∧ Q (.int ((i + 1 : Nat) : Int)) H)
section
variable {P : Program} {w : World} {K : PySem.W.Frag} {mg : Str → Option Value} {base : Heap} {C CC B : Addr}
abbrev s_same : Stmt := top 54
theorem sc_same : FnScope ["_law_one", "_law_other"] ["_law_one", "_law_other"] (defScope s_same) := ⟨rfl, rfl, rfl, by decide +kernel, rfl, by decide +kernel, by decide +kernel⟩
theorem ok_same {f : Addr} {fd : FuncData} (F : Fun K "_law_same" "_law_same" s_same f fd) (T : Bn mg) : FnOk P w K mg base CX0 1 f fd ["_law_one", "_law_other"] spSameI := by
  refine F.ok sc_same (fun vs H Q E h => ?_) (fun cdv A outer s H vs Q E hr h => ?_)
  · obtain ⟨i, j, rfl, _⟩ := h
    rfl
  · obtain ⟨i, j, rfl, k⟩ := h
    refine ⟨_, (pss_one (ps_ret (pe_and (pe_cmpR op_eq (pe_callB call_isi (by rfl) T.n_isinstance (by decide +kernel) (pa_cons (pv 0) (pa_cons (pe_bltn (v := .ty "bool") rfl T.n_bool (by decide +kernel) rfl) pa_nil))) (pe_callB call_isi (by rfl) T.n_isinstance (by decide +kernel) (pa_cons (pv 1) (pa_cons (pe_bltn (v := .ty "bool") rfl T.n_bool (by decide +kernel) rfl) pa_nil))) (nomark _)) (pe_one (pe_cmpR op_eq (pv 0) (pv 1) (nomark _)))))), ?_⟩
    refine ⟨_, rfl, .int i, .ty "bool", _, _, false, rfl, .ty _, .base (.int i), kit_ty (r := false) (by decide +kernel), _, rfl, .int j, .ty "bool", _, _, false, rfl, .ty _, .base (.int j), kit_ty (r := false) (by decide +kernel), rfl, _, rfl, iteTe (decide_eq_true rfl) ?_⟩
    refine ⟨_, rfl, _, rfl, rfl, ?_⟩
    rw [show decide (V.int i = V.int j) = decide (i = j) by rw [decide_eq_decide, V.int.injEq]]
    exact k
abbrev s_long : Stmt := top 60
abbrev nTl : List Str := ["_law_rows_here", "_law_s", "_law_share"]
theorem sc_long : FnScope nTl ["_law_rows_here"] (defScope s_long) := ⟨rfl, rfl, rfl, by decide +kernel, rfl, by decide +kernel, by decide +kernel⟩
theorem ok_long {f : Addr} {fd : FuncData} (F : Fun K "_law_too_long" "_law_too_long" s_long f fd) (T : Bm mg) (sh : ShT K mg C) : FnOk P w K mg base CX0 1 f fd ["_law_rows_here"] (spTooLong C) := by
  refine F.ok sc_long (fun vs H Q E h => ?_) (fun cdv A outer s H vs Q E hr h => ?_)
  · obtain ⟨l, n, rs, rfl, _⟩ := h
    rfl
  · obtain ⟨l, n, rs, rfl, n8, r8, el, rw_, k⟩ := h
    refine ⟨_, (pss_cons (ps_for PassesOwn.never rfl (pi_range1 (by rfl) T.n_range (pa_cons (pe_callB call_len_seq (by rfl) T.b.n_len PySem.boot_len (pa_cons (pv 0) pa_nil)) pa_nil)) (pg_name (i := 1) sc_long.nd rfl (Or.inl rfl))
        (pss_one (ps_for PassesOwn.never rfl (pi_tup (pe_ix (show IxR _ (rIxL K) from ix_list) (pv 0) (pv 1) (fun _ _ => rfl))) (pg_name (i := 2) sc_long.nd rfl (Or.inl rfl))
          (pss_one (ps_if (PW.pt (pw_or (pt_cmpR op_gt (pe_callB call_len_str (by rfl) T.b.n_len PySem.boot_len (pa_cons (pe_callTy call_str_int (by rfl) T.b.n_str (by decide +kernel) (pa_cons (pe_fld (pv 2) rfl) pa_nil)) pa_nil)) pe_int (nomark _)) (pw_or1 (pt_cmpR op_gt (pe_callB call_len_str (by rfl) T.b.n_len PySem.boot_len (pa_cons (pe_callTy call_str_int (by rfl) T.b.n_str (by decide +kernel) (pa_cons (pe_fld (pv 2) rfl) pa_nil)) pa_nil)) pe_int (nomark _)))))
            (pss_one (ps_ret (pe_op op_add (pv 1) pe_int)))
            pss_nil)))))
      (pss_one (ps_ret pe_int))), ?_⟩
    refine ⟨_, rfl, l, _, rfl, .inl (SqL.of el), _, rfl, by omega, by rw [rfs_len]; omega, ?_⟩
    rw [rfs_len, Int.toNat_natCast]
    refine for_range (fun i σ H' => ∃ v1 v2 : Option V, σ = [some (.ref l), v1, v2] ∧ H' = H ∧ ∀ (j : Nat) (r : Addr × List Nat), j < i → rs[j]? = some r → rowOk r.2 = true) ⟨none, none, rfl, rfl, fun j r h => absurd h (by omega)⟩ ?_ ?_
    · rintro i σ H' hi ⟨v1, v2, rfl, eH, ok⟩
      rw [Int.zero_add, eH]
      have gr : rs[i]? = some rs[i] := List.getElem?_eq_getElem hi
      have mr := List.mem_of_getElem? gr
      obtain ⟨as, g1, g2, g3, g4⟩ := rw_ _ mr
      have W0 := g3.2.1
      generalize hR : rs[i] = r at gr mr g1 g2 g3 g4 W0
      refine ⟨_, rfl, _, rfl, l, _, (i : Int), .ref r.1, rfl, rfl, SqL.of el, atI_nat (by rw [rfs, List.getElem?_map, gr]; rfl), ?_⟩
      refine ⟨r.1, rfl, ⟨_, SqT.of g1⟩, ?_⟩
      refine for_it (walk_tup (K := K) (a := r.1) (xs := as.map V.ref)) (fun j σ H' => ∃ v2 : Option V, σ = [some (.ref l), some (.int (i : Int)), v2] ∧ H' = H ∧ ∀ (q : Nat) (x : Nat), q < j → r.2[q]? = some x → wOk r.2.sum x = true) ⟨v2, rfl, rfl, fun q x h => absurd h (by omega)⟩ (fun j σ H' _ h => by obtain ⟨_, _, h, _⟩ := h; rw [h]; exact SqT.of g1) ?_ ?_
      · rintro j y σ H2' H2 hj ⟨w2, rfl, eH2, okw⟩ ⟨eH3, hy⟩
        rw [eH3, eH2]
        obtain ⟨a, ha, rfl⟩ := refs_at hy
        obtain ⟨dx, x, q1, q2⟩ := g4 j a ha
        have mx := List.mem_of_getElem? q1
        obtain ⟨e1, e2⟩ := low_nat (w := x) W0
        obtain ⟨b1, b2⟩ := low_bd g3 n8 mx
        rw [e1, e2] at q2
        have lt := dgS_len b1
        have ln := dgS_len b2
        have hL : ∀ m : Nat, decide (((S (dg m)).length : Int) > 100) = !decide ((dg m).length ≤ 100) := fun m => by
          rw [S_len, Bool.eq_iff_iff, decide_eq_true_eq, Bool.not_eq_true', decide_eq_false_iff_not]
          omega
        have out : wOk r.2.sum x = false → Q (.int ((i + 1 : Nat) : Int)) H := fun hw => by
          have hro : rowOk r.2 = false := List.all_eq_false.mpr ⟨x, mx, by rw [hw]; decide⟩
          rcases k with ⟨k0, _⟩ | ⟨i', hi', k1, k2, k⟩
          · have := k0 r mr
            rw [hro] at this
            cases this
          · have ei : i' = i := by
              rcases Nat.lt_trichotomy i' i with h | h | h
              · have h1 : rs[i']? = some rs[i'] := List.getElem?_eq_getElem hi'
                have h2 := ok i' _ h h1
                rw [k2 _ h1] at h2
                cases h2
              · exact h
              · have h2 := k1 i r h gr
                rw [hro] at h2
                cases h2
            rw [← ei]
            exact k
        refine ⟨_, rfl, a, C, dx, _, _, rfl, q2, sh.it.cl, sh.nT, shF_top _ _, _, rfl, log1400 b1, ?_⟩
        rw [str_dg]
        refine ⟨_, rfl, Nat.le_trans lt (by decide), _, _, rfl, rfl, _, rfl, ?_⟩
        rw [hL]
        cases c1 : decide ((dg (lowT (x : Int) (r.2.sum : Int)).toNat).length ≤ 100) with
        | false => exact iteT ⟨_, rfl, _, _, rfl, rfl, out (by unfold wOk shOk; rw [c1]; rfl)⟩
        | true =>
          refine iteF ?_
          refine ⟨_, rfl, a, C, dx, _, _, rfl, q2, sh.it.cl, sh.nB, shF_bottom _ _, _, rfl, log1400 b2, ?_⟩
          rw [str_dg]
          refine ⟨_, rfl, Nat.le_trans ln (by decide), _, _, rfl, rfl, _, rfl, ?_⟩
          rw [hL]
          cases c2 : decide ((dg (lowB (x : Int) (r.2.sum : Int)).toNat).length ≤ 100) with
          | false => exact iteT ⟨_, rfl, _, _, rfl, rfl, out (by unfold wOk shOk; rw [c1, c2]; rfl)⟩
          | true =>
            refine iteF ⟨_, rfl, rfl, fun q x' hq hx' => ?_⟩
            by_cases c : q = j
            · subst c
              rw [q1] at hx'
              cases hx'
              unfold wOk shOk
              rw [c1, c2]
              rfl
            · exact okw q x' (by omega) hx'
      · rintro σ H2 ⟨w2, rfl, eH2, okw⟩
        refine ⟨_, _, rfl, eH2, fun j r' hj hr' => ?_⟩
        by_cases c : j = i
        · subst c
          rw [gr] at hr'
          cases hr'
          refine List.all_eq_true.mpr fun x mx => ?_
          obtain ⟨q, hq⟩ := List.mem_iff_getElem?.mp mx
          have := (List.getElem?_eq_some_iff.mp hq).1
          exact okw q x (by rw [List.length_map, g2]; have := g3.1; omega) hq
        · exact ok j r' (by omega) hr'
    · rintro σ H' ⟨v1, v2, rfl, rfl, ok⟩
      rcases k with ⟨_, k⟩ | ⟨i', hi', _, k2, _⟩
      · exact k
      · have h1 : rs[i']? = some rs[i'] := List.getElem?_eq_getElem hi'
        have h2 := ok i' _ hi' h1
        rw [k2 _ h1] at h2
        cases h2
end
end KI
set_option Elab.async false
set_option linter.all false
set_option maxRecDepth 100000
set_option maxHeartbeats 1000000
namespace KI
open PySem L2 SX Tx
/-! ### the law's own text of a chain -/
def rJn (K : PySem.W.Frag) : V → List V → Hp → VK → Prop := fun x xs H Q => ∃ a p, ∃ ys : List Str, x = .str a ∧ xs = [.ref p] ∧ (SqL K H p (ys.map V.str) ∨ SqT K H p (ys.map V.str)) ∧ (ys.map (·.length)).sum + ys.length * a.length ≤ 16777216 ∧ Q (.str (Txt.join a ys)) H
def rCt : R2 := fun x y H Q => ∃ i j, x = .str i ∧ y = .str j ∧ i.length + j.length ≤ sizeLine ∧ Q (.str (i ++ j)) H
theorem op_ct {X : Cx} : OpR X (binaryOp .Add) rCt := op_add_str
theorem flat32 : ∀ (p : List Nat) (ps : List (List Nat)), ((p :: ps).map (32 :: ·)).flatten = 32 :: TL.joinL [32] (p :: ps)
  | p, [] => by
    show (32 :: p) ++ [] = 32 :: p
    rw [List.append_nil]
  | p, q :: r => by
    show (32 :: p) ++ ((q :: r).map (32 :: ·)).flatten = 32 :: (p ++ ([32] ++ TL.joinL [32] (q :: r)))
    rw [flat32 q r]
    rfl
theorem flat32' {ps : List (List Nat)} (h : ps ≠ []) : (ps.map (32 :: ·)).flatten = 32 :: TL.joinL [32] ps := by
  cases ps with
  | nil => exact absurd rfl h
  | cons p ps => exact flat32 p ps
def spText (C : Addr) : Sp := fun vs H Q _ => ∃ (l b : Addr) (n : Nat) (rs : List (Addr × List Nat)) (ls : List Str), vs = [.ref l, .ref b] ∧ n ≤ 8 ∧ rs.length = n ∧ ls.length = n ∧ H l = some (.lst (rfs rs)) ∧ H b = some (.tup (sV ls)) ∧ (∀ r ∈ rs, RowSh C H n r) ∧ (∀ x ∈ ls, Nam x) ∧
  ∀ H', Same H H' → Q (.str (S (textL ls (rs.map (·.2))))) H'
section
variable {P : Program} {w : World} {K : PySem.W.Frag} {mg : Str → Option Value} {base : Heap} {C CC B : Addr}
abbrev s_text : Stmt := top 59
abbrev nTx : List Str := ["_law_rows_here", "_law_labels_here", "_law_lines", "_law_s", "_law_share"]
theorem sc_text : FnScope nTx ["_law_rows_here", "_law_labels_here"] (defScope s_text) := ⟨rfl, rfl, rfl, by decide +kernel, rfl, by decide +kernel, by decide +kernel⟩
theorem ok_text {f : Addr} {fd : FuncData} (F : Fun K "_law_text" "_law_text" s_text f fd) (T : Bm mg) (c_w : Cal P w K mg base 1 "_law_write" ["_law_share"] (spWrite C)) : FnOk P w K mg base CX0 2 f fd ["_law_rows_here", "_law_labels_here"] (spText C) := by
  refine F.ok sc_text (fun vs H Q E h => ?_) (fun cdv A outer s H vs Q E hr h => ?_)
  · obtain ⟨l, b, n, rs, ls, rfl, _⟩ := h
    rfl
  · obtain ⟨l, b, n, rs, ls, rfl, n8, lr, lls, el, eb, rw_, nm, k⟩ := h
    refine ⟨_, (pss_cons (ps_setLc (i := 2) (own := [("_law_s", 3)]) rfl sc_text.nd rfl rfl (sw_true rfl rfl rfl (by decide +kernel)) (pi_range1 (by rfl) T.n_range (pa_cons (pe_callB call_len_seq (by rfl) T.b.n_len PySem.boot_len (pa_cons (pv 0) pa_nil)) pa_nil)) (blkOk_by (N := nTx) (sc := defScope s_text) (by decide +kernel)) (fun _ _ _ _ _ => (pg_name (i := 3) sc_text.nd rfl (Or.inl rfl))) (fun _ _ _ _ _ => pts_nil)
        (fun _ _ _ _ _ => (show PE _ _ (tOp rCt (tOp rCt (tOp rCt (tOp (rIxT K) (tVar 1) (tVar 3)) (tC (.str (Str.ofString ":")))) (tM1 (rJn K) (tC (.str (Str.ofString ""))) (tLc (iTup K (tOp (rIxL K) (tVar 0) (tVar 3))) (gName 4) tYes (tOp rCt (tC (.str (Str.ofString " "))) (tCall (spWrite C) [] E0 (tCons (tVar 4) tNil))) [4]))) (tC (.str (Str.ofString "\n")))) from
          pe_op op_ct (pe_op op_ct (pe_op op_ct (pe_ix (show IxR _ (rIxT K) from ix_tup) (pv 1) (pv 3) (fun _ _ => rfl)) pe_str) (pe_join pe_str (pe_lc (own := [("_law_share", 4)]) rfl sc_text.nd (pi_tup (pe_ix (show IxR _ (rIxL K) from ix_list) (pv 0) (pv 3) (fun _ _ => rfl))) (blkOk_by (by rfl)) (fun _ _ _ _ _ => (pg_name (i := 4) sc_text.nd rfl (Or.inl rfl))) (fun _ _ _ _ _ => pts_nil) (fun _ _ _ _ _ => (pe_op op_ct pe_str (pe_cal c_w (hr.mono (by decide)) rfl (pa_cons (pv 4) pa_nil))))))) pe_str)))
      (pss_one (ps_ret (pe_join pe_str (pv 2))))), ?_⟩
    refine ⟨_, rfl, l, _, rfl, .inl (SqL.of el), _, rfl, by rw [rfs_len]; omega, by rw [rfs_len]; omega, fun D nD => ?_⟩
    rw [rfs_len, Int.toNat_natCast, lr]
    have ll : ∀ x : List Nat, x.length ≤ 31000 → (S x).length ≤ 31000 := fun x h => by rw [S_len]; omega
    let L := (linesL ls (rs.map (·.2))).map (· ++ [10])
    have lln : L.length = n := by
      show ((linesL ls (rs.map (·.2))).map (· ++ [10])).length = n
      unfold linesL
      rw [List.length_map, List.length_zipWith, List.length_map, lr, lls, Nat.min_self]
    have eb1 : ∀ {H' : Hp}, Same H H' → H' b = some (.tup (sV ls)) := fun s => s _ _ eb
    refine lc_range (fun i H' => Same H H' ∧ H' D = some (.lst (sL (L.take i)))) ⟨Same.put nD, upd_same⟩ ?_ ?_
    · rintro i H1 hi ⟨s1, eD⟩
      rw [Int.zero_add]
      have gr : rs[i]? = some rs[i] := List.getElem?_eq_getElem (by omega)
      have gx : ls[i]? = some ls[i] := List.getElem?_eq_getElem (by omega)
      have mr := List.mem_of_getElem? gr
      have mx := List.mem_of_getElem? gx
      generalize rs[i] = r at gr mr
      generalize ls[i] = x at gx mx
      have nmx := nm x mx
      obtain ⟨as, g1, g2, g3, g4⟩ := (rw_ r mr).same s1
      have lw : (wordsL r.2).length = n := by unfold wordsL; rw [List.length_map]; exact g3.1
      have wl : ∀ p ∈ wordsL r.2, p.length ≤ 2801 := wordsL_len g3 n8
      have wl1 : ∀ p ∈ (wordsL r.2).map (32 :: ·), p.length ≤ 2802 := fun p mp => by
        obtain ⟨q, mq, rfl⟩ := List.mem_map.mp mp
        have := wl q mq
        rw [List.length_cons]
        omega
      have hl : L[i]? = some (lineL x r.2 ++ [10]) := by
        show ((linesL ls (rs.map (·.2))).map (· ++ [10]))[i]? = _
        unfold linesL
        rw [List.getElem?_map, List.getElem?_zipWith, gx, List.getElem?_map, gr]
        rfl
      refine ⟨rfl, yes_of ?_⟩
      refine ⟨_, rfl, _, rfl, b, _, (i : Int), .str x, rfl, rfl, SqT.of (eb1 s1), atI_nat (by rw [sV, List.getElem?_map, gx]; rfl), ?_⟩
      have xl : x.cps.toList.length ≤ 8 := nmx.2.1
      have ex : x = S x.cps.toList := (S_tl x).symm
      have line : (lineL x r.2).length ≤ 30000 := lineL_len g3 n8 xl
      have dl : lineL x r.2 = x.cps.toList ++ (58 :: 32 :: TL.joinL [32] (wordsL r.2)) := rfl
      generalize x.cps.toList = q at xl ex dl
      rw [dl] at line hl
      rw [ex]
      refine ⟨_, _, rfl, rfl, Nat.le_trans (Nat.add_le_add (ll q (by omega)) (Nat.le_refl _)) (by decide), ?_⟩
      rw [show Str.ofString ":" = S [58] from rfl, S_cat]
      refine ⟨⟨_, rfl⟩, _, rfl, _, rfl, l, _, (i : Int), .ref r.1, rfl, rfl, SqL.of (s1 _ _ el), atI_nat (by rw [rfs, List.getElem?_map, gr]; rfl), ?_⟩
      refine ⟨r.1, rfl, ⟨_, SqT.of g1⟩, fun D2 nD2 => ?_⟩
      have hne : wordsL r.2 ≠ [] := fun h => by
        rw [h] at lw
        rw [List.length_nil] at lw
        omega
      refine lc_tup (K := K) (a := r.1) (xs := as.map V.ref) (fun j H' => Same H1 H' ∧ H' D2 = some (.lst (sL (((wordsL r.2).map (32 :: ·)).take j)))) ⟨Same.put nD2, upd_same⟩ (fun j H' _ h => SqT.of (h.1 _ _ g1)) ?_ ?_
      · rintro j y H' hy ⟨s2, eD2⟩
        obtain ⟨a, ha, rfl⟩ := refs_at hy
        obtain ⟨dy, x2, q1, q2⟩ := g4 j a ha
        have mx2 := List.mem_of_getElem? q1
        obtain ⟨e1, e2⟩ := low_nat (w := x2) g3.2.1
        obtain ⟨b1, b2⟩ := low_bd g3 n8 mx2
        have q3 := s2 _ _ q2
        rw [e1, e2] at q3
        have wj : ((wordsL r.2).map (32 :: ·))[j]? = some (32 :: wdL r.2.sum x2) := by unfold wordsL; rw [List.getElem?_map, List.getElem?_map, q1]; rfl
        have jl := (List.getElem?_eq_some_iff.mp wj).1
        rw [List.length_map] at jl
        refine ⟨rfl, yes_of ?_⟩
        refine ⟨_, rfl, a, dy, _, _, rfl, q3, b1, b2, ?_⟩
        have wlen := wl (wdL r.2.sum x2) (List.mem_map.mpr ⟨x2, mx2, rfl⟩)
        refine ⟨_, _, rfl, rfl, Nat.le_trans (Nat.add_le_add_left (ll (wdL r.2.sum x2) (by omega)) _) (by decide), ?_⟩
        refine ⟨_, eD2, by rw [sL_len, List.length_take, List.length_map]; exact small_len (by omega), Same.but s2 nD2, ?_⟩
        rw [upd_same, show Str.ofString " " = S [32] from rfl]
        show some (HO.lst (sL _ ++ [V.str (S [32] ++ S (wdL r.2.sum x2))])) = _
        rw [S_cat, sL_snoc, take_more wj]
        rfl
      · rintro H2 ⟨s2, eD2⟩
        rw [List.length_map, g2, ← lw, ← List.length_map (f := (32 :: ·)) (as := wordsL r.2), List.take_length] at eD2
        refine ⟨_, D2, ((wordsL r.2).map (32 :: ·)).map S, rfl, rfl, .inl (SqL.of eD2), ?_, ?_⟩
        · have := sum_len wl1
          have e0 : (Str.ofString "").length = 0 := rfl
          rw [List.length_map, e0]
          have : ((wordsL r.2).map (32 :: ·)).length * 2802 ≤ 8 * 2802 := Nat.mul_le_mul_right _ (by rw [List.length_map]; omega)
          omega
        rw [show Str.ofString "" = S [] from rfl, join_S, joinL_flat, flat32' hne]
        have jl : (q ++ [58] ++ (32 :: TL.joinL [32] (wordsL r.2))).length ≤ 30000 := by
          rw [List.append_assoc]
          exact line
        rw [List.length_append] at jl
        refine ⟨_, _, rfl, rfl, Nat.le_trans (by rw [S_len, S_len]; exact jl) (by decide), ?_⟩
        rw [S_cat]
        rw [← List.length_append] at jl
        refine ⟨_, _, rfl, rfl, Nat.le_trans (Nat.add_le_add_right (by rw [S_len]; exact jl) _) (by decide), ?_⟩
        rw [show Str.ofString "\n" = S [10] from rfl, S_cat]
        have iL := (List.getElem?_eq_some_iff.mp hl).1
        refine ⟨_, s2 _ _ eD, by rw [sL_len, List.length_take]; exact small_len (by omega), Same.but (s1.trans s2) nD, ?_⟩
        rw [upd_same, sL_snoc, take_more hl, List.append_assoc q [58]]
        rfl
    · rintro H1 ⟨s1, eD⟩
      rw [← lln, List.take_length] at eD
      refine ⟨⟨_, rfl⟩, .ref D, rfl, _, D, L.map S, rfl, rfl, .inl (SqL.of eD), ?_, ?_⟩
      · have := sum_len (b := 30001) (ps := L) fun p mp => by
          obtain ⟨r, mr, rfl⟩ := List.mem_map.mp mp
          obtain ⟨x, ws, mx, mw, rfl⟩ := linesL_mem mr
          obtain ⟨r, mr2, rfl⟩ := List.mem_map.mp mw
          obtain ⟨_, _, _, g3, _⟩ := rw_ r mr2
          have := lineL_len g3 n8 (nm x mx).2.1
          rw [List.length_append]
          show _ + 1 ≤ _
          omega
        have e0 : (Str.ofString "").length = 0 := rfl
        rw [e0, Nat.mul_zero]
        have h2 : L.length * 30001 ≤ 8 * 30001 := Nat.mul_le_mul_right _ (by omega)
        omega
      · rw [show Str.ofString "" = S [] from rfl, join_S, joinL_flat]
        exact k H1 s1
end
end KI
set_option Elab.async false
set_option linter.all false
set_option maxRecDepth 100000
set_option maxHeartbeats 4000000
namespace L2
open PySem PySem.Spec PyProof.Rows
/-- a try with one clause «except x as n» that serves every exception of the body, and an else: what the clause wishes -/
def wAsT (K : PySem.W.Frag) (c : Value) (i : Nat) (ts : Addr → Value → Option Addr → TS) (D : Ends) : WX := fun cls d σ H =>
  PySem.W.exmOne K cls c = some true ∧ ∀ a, H a = none → ts a cls d { nx := fun σ' H' => D.nx (σ'.set i none) H', rt := D.rt, bk := fun σ' H' => D.bk (σ'.set i none) H', ct := fun σ' H' => D.ct (σ'.set i none) H' } (σ.set i (some (.ref a))) H
section
variable {X : Cx} {x n : Str} {c : Value} {i : Nat} {body suite orelse : List Stmt} {b₀ : Stmt} {np pos pos' : Pos} {tb : WX → TS} {ts : Addr → Value → Option Addr → TS} {u : TS}
theorem ps_try_asE (ho : PSs X orelse u) (hs : X.stack = X.env :: X.outer) (hf : X.env.frame = some X.env.locals) (hN : X.N.Nodup) (hi : X.N[i]? = some n) (hln : X.env.kindOf n = some .local) (hc : Names X x c)
    (hb : ∀ (W : WX) (pn : List (Addr × Obj)) (xe : Value → Shared → Prop), Takes (X.tr pn xe) W → PSs (X.tr pn xe) body (tb W))
    (hsu : ∀ (a : Addr) (oe : Obj) (cls : Value) (d : Option Addr) (pn : List (Addr × Obj)), Zc cls d oe → (∃ vs, oe.data = .fields vs) → PSs (X.suite a ((a, oe) :: pn)) (b₀ :: suite) (ts a cls d)) :
    PS X (.Try body [.ExceptHandler (some (.Name x np)) (some n) (b₀ :: suite) pos'] orelse [] pos) (fun D σ H => tb (wAsT X.K c i ts D) { D with nx := u D } σ H) := by
  refine ⟨fun pins s σ H D I h => wpAny_Try_except ?_⟩
  have ok := I.ok
  -- the clause, from an exception that has left the body
  have catch_ : ∀ (a : Addr) (B : Heap) (sI s' : Shared) (σ' : St) (H' : Hp) (cls : Value) (d : Option Addr), Inv X pins σ' H' sI → (∀ b o, sI.heap.get? b = some o → b ∉ frs X.stack → B.get? b = some o) → sI.heap.UpToSlots s'.heap →
      Sky B X.stack a (Zc cls d) X.env.locals s'.heap → H' a = none → s'.os = sI.os → AllBare s'.gens → wAsT X.K c i ts D cls d σ' H' →
      wpAny (model X.prog X.w) X.A (noteFrame (.ref a) X.env) (fun _ s₂ => wpAny (model X.prog X.w) X.A (setFlight (.ref a) none) (fun _ s₃ =>
        wpAny (model X.prog X.w) X.A (handleBy (.ref a) X.env [.ExceptHandler (some (.Name x np)) (some n) (b₀ :: suite) pos']) (SP X pins D) X.xe s₃) X.xe s₂) X.xe s' := by
    intro a B sI s' σ' H' cls d J nb up sky na os ag ⟨hm, go⟩
    refine Sky.land (outer := X.outer) (L := X.env.locals) Zc.steady (by rw [ok.frames, hs]) hf (by rw [← hs]; exact sky) fun h3 fl up3 => ?_
    have J3 : Inv X pins σ' H' { s' with heap := h3 } := J.landed nb fl.1 (up.trans up3) os ag
    have off : a ∉ frs (X.env :: X.outer) := fun hm2 => by
      obtain ⟨oe, vs, e1, _, e2⟩ := fl.there
      obtain ⟨_, o', e3, hnf⟩ := fl.2.2.1.mem hm2
      rw [e1] at e3
      cases e3
      exact hnf _ e2
    have nL : a ≠ X.env.locals := fun z => off (List.mem_filterMap.mpr ⟨X.env, List.mem_cons_self, by rw [hf, z]⟩)
    have nF : a ∉ X.fs := fun hm2 => by
      obtain ⟨v, h1, h2⟩ := List.mem_filterMap.mp hm2
      exact off (List.mem_filterMap.mpr ⟨v, List.mem_cons_of_mem _ h1, h2⟩)
    obtain ⟨o3, v3, at3, z3, dt3⟩ := fl.there
    have S3 := J3.suite at3 dt3 na nL nF
    refine wpAny_handleBy_cons (codeAny_handlers_test ?_) (by intro q; cases q)
    have ty : PySem.W.Looks (model X.prog X.w) h3 (typeOf (.ref a)) cls := fun A Q E s k q => wpAny_typeOf_ref (k _ _ at3) (by rw [z3.1]; exact q)
    have fits := PySem.W.exm_one (M := model X.prog X.w) J3.kIn ty hm
    have name : ∀ {Q E : Value → Shared → Prop}, Q c { s' with heap := h3 } → wpAny (model X.prog X.w) (X.A.mark (some (.ref a))) (eval (.Name x np) X.env) Q E { s' with heap := h3 } := fun {Q E} q => by
      rcases hc with ⟨g, db, m | ⟨m, v, nn⟩⟩
      · exact ld_glob (X := X.suite a ((a, o3) :: (X.pn ++ pins))) S3 g m q db
      · exact ld_blt (X := X.suite a ((a, o3) :: (X.pn ++ pins))) S3 g m v q nn db
    refine name (fits.here (codeAny_handlers_suite_as (HandSPX.lands_againZ fl fun h4 fl4 up4 => ?_)))
    have J4 : Inv X pins σ' H' { s' with heap := h4 } := J.landed nb fl4.1 ((up.trans up3).trans up4) os ag
    obtain ⟨o4, v4, at4, z4, dt4⟩ := fl4.there
    refine store_ok (X := X.suite a ((a, o4) :: (X.pn ++ pins))) (v := .ref a) (J4.suite at4 dt4 na nL nF) hN hi (.inl hln) rfl (fun s5 S5 => ?_) (.inr hln)
    refine wpAny_mono ((hsu a o4 cls d (X.pn ++ pins) z4 ⟨_, dt4⟩).run [] s5 _ H' _ S5 (go a na)) (fun f s6 q => ?_) (fun _ _ z => z.elim)
    cases f with
    | next =>
      obtain ⟨σ6, H6, S6, q6⟩ := q
      exact gone_ok (S6.unsuite ok) hN hi hln fun s7 J7 => ⟨_, _, J7, q6⟩
    | brk =>
      obtain ⟨σ6, H6, S6, q6⟩ := q
      exact gone_ok (S6.unsuite ok) hN hi hln fun s7 J7 => ⟨_, _, J7, q6⟩
    | cont =>
      obtain ⟨σ6, H6, S6, q6⟩ := q
      exact gone_ok (S6.unsuite ok) hN hi hln fun s7 J7 => ⟨_, _, J7, q6⟩
    | ret r =>
      obtain ⟨v6, σ6, H6, S6, r6, q6⟩ := q
      exact gone_ok (S6.unsuite ok) hN hi hln fun s7 J7 => ⟨_, _, _, J7, r6, q6⟩
  refine wpAny_mono ((hb (wAsT X.K c i ts D) (X.pn ++ pins) _ fun e s' xx => ?_).run [] s σ H { D with nx := u D } (I.toTry _) h) (fun f s1 q => ?_) (fun e s1 z => z)
  · obtain ⟨a, B, sI, pins', σ', H', cls, d, rfl, J', nb, up, sky, na, os, ag, go⟩ := xx
    exact catch_ a B sI s' σ' H' cls d (J'.ofTry ok) nb up sky na os ag go
  · cases f with
    | next =>
      obtain ⟨σ', H', J', q'⟩ := q
      exact ho.run pins s1 σ' H' D (J'.ofTry ok) q'
    | brk =>
      obtain ⟨σ', H', J', q'⟩ := q
      exact ⟨σ', H', J'.ofTry ok, q'⟩
    | cont =>
      obtain ⟨σ', H', J', q'⟩ := q
      exact ⟨σ', H', J'.ofTry ok, q'⟩
    | ret r =>
      obtain ⟨v, σ', H', J', r', q'⟩ := q
      exact ⟨v, σ', H', J'.ofTry ok, r', q'⟩
end
end L2
set_option Elab.async false
set_option linter.all false
set_option maxRecDepth 100000
set_option maxHeartbeats 1000000
namespace KI
open PySem L2 SX Tx
structure BtC (K : PySem.W.Frag) (mg : Str → Option Value) (B : Addr) : Prop where
  xf : XfC K B
  xm : PySem.W.exmOne K (.ref B) (.ref B) = some true
  ns : PySem.W.findIn K (.ref B) "line" = some none
  gB : mg "BadText" = some (.ref B)
/-- _law_read(text), of a chain's text -/
def spReadL (C CC : Addr) : Sp := fun vs H Q _ => ∃ (n : Nat) (rws : List (List Nat)) (ls : List Str), vs = [.str (S (textL ls rws))] ∧ 1 ≤ n ∧ n ≤ 8 ∧ Lbs n ls ∧ rws.length = n ∧ (∀ ws ∈ rws, Tpg n ws) ∧
  (((∀ ws ∈ rws, rowOk ws = true) ∧ ∀ (x r : Addr) (H' : Hp), Same H H' → IsCh C CC H' x n rws ls → H' r = some (.tup [.str "told", .ref x]) → Q (.ref r) H') ∨
    ∃ i : Nat, i < n ∧ (∀ j ws, j < i → rws[j]? = some ws → rowOk ws = true) ∧ (∀ ws, rws[i]? = some ws → rowOk ws = false) ∧ ∀ (r : Addr) (H' : Hp), Same H H' → H' r = some (.tup [.str "bad", .int ((i + 1 : Nat) : Int)]) → Q (.ref r) H')
section
variable {P : Program} {w : World} {K : PySem.W.Frag} {mg : Str → Option Value} {base : Heap} {C CC B : Addr}
abbrev s_lread : Stmt := top 58
theorem sc_lread : FnScope ["_law_text_here", "_law_told", "e"] ["_law_text_here"] (defScope s_lread) := ⟨rfl, rfl, rfl, by decide +kernel, rfl, by decide +kernel, by decide +kernel⟩
theorem ok_lread {f : Addr} {fd : FuncData} (F : Fun K "_law_read" "_law_read" s_lread f fd) (x : BtC K mg B) (c_re : CalX P w K mg base 14 "read" ["text"] (spRead C CC B)) : FnOk P w K mg base CX0 15 f fd ["_law_text_here"] (spReadL C CC) := by
  obtain ⟨g, gd, mg1, kp, G, bG⟩ := c_re.ex
  refine F.ok sc_lread (fun vs H Q E h => ?_) (fun cdv A outer s H vs Q E hr h => ?_)
  · obtain ⟨n, rws, ls, rfl, _⟩ := h
    rfl
  · obtain ⟨n, rws, ls, rfl, n1, n8, lb, lr, tg, k⟩ := h
    refine ⟨_, (pss_cons (ps_set (i := 1) sc_lread.nd rfl (Or.inl rfl) pe_non)
      (pss_cons (ps_try_asE (i := 2) (c := .ref B) pss_nil rfl rfl sc_lread.nd rfl (by rfl) ⟨rfl, by decide, .inl x.gB⟩
          (fun W pn xe tk => pss_one (ps_set (i := 1) sc_lread.nd rfl (Or.inl rfl) (pe_tup (pa_cons pe_str (pa_cons (pe_callS G (hr.mono (by decide)) rfl mg1 kp bG (fun σ => passAt tk σ) (pa_cons (pv 0) pa_nil)) pa_nil)))))
          (fun a oe cls d pn hz hf => pss_one (ps_set (i := 1) sc_lread.nd rfl (Or.inl rfl) (pe_tup (pa_cons pe_str (pa_cons (pe_xf x.xf x.ns hz hf (pv 2)) pa_nil))))))
      (pss_one (ps_ret (pv 1))))), ?_⟩
    refine ⟨_, rfl, n, rws, ls, rfl, n1, n8, lb, lr, tg, ?_⟩
    rcases k with ⟨ok, k⟩ | ⟨i, hi, ok, bad, k⟩
    · exact .inl ⟨ok, fun z H2 s2 c2 => ⟨by show 2 ≤ sizeLine; decide, fun r nr => ⟨_, rfl, k z r _ (s2.trans (Same.put nr)) (c2.same (Same.put nr)) upd_same⟩⟩⟩
    · exact .inr ⟨i, hi, ok, bad, fun d H2 s2 e => ⟨x.xm, fun a ha => ⟨.ref a, rfl, rfl, rfl, d, [("line", .int ((i + 1 : Nat) : Int))], _, rfl, e, rfl, by show 2 ≤ sizeLine; decide, fun r nr => ⟨_, rfl, k r _ (s2.trans (Same.put nr)) upd_same⟩⟩⟩⟩
end
end KI
set_option Elab.async false
set_option linter.all false
set_option maxRecDepth 100000
set_option maxHeartbeats 4000000
/-! two lists of data and instances, == and !=, item by item -/
namespace L2
open PySem PySem.Spec PyProof.Rows PySem.SeqAt PySem.MeetsSeq PySem.MeetsSeq2 PySem.MeetsSeq3 PySem.SeqRoads2
open PySem.AutoSeq1 (wpAny_loadPart')
theorem plv_same {x y : V} {u : Value} (hx : PlV x) (hy : PlV y) (rx : RelV x u) (ry : RelV y u) : x = y := by
  cases x with
  | non => cases y with
    | non => rfl
    | bl b => have rx : u = .none := rx; have ry : u = .bool b := ry; rw [rx] at ry; cases ry
    | int i => have rx : u = .none := rx; obtain ⟨t, ry⟩ := ry; rw [rx] at ry; cases ry
    | str z => have rx : u = .none := rx; obtain ⟨t, ry⟩ := ry; rw [rx] at ry; cases ry
    | ref a => have rx : u = .none := rx; have ry : u = .ref a := ry; rw [rx] at ry; cases ry
    | _ => cases hy
  | bl c => cases y with
    | non => have rx : u = .bool c := rx; have ry : u = .none := ry; rw [rx] at ry; cases ry
    | bl b => have rx : u = .bool c := rx; have ry : u = .bool b := ry; rw [rx] at ry; injection ry with ry; rw [ry]
    | int i => have rx : u = .bool c := rx; obtain ⟨t, ry⟩ := ry; rw [rx] at ry; cases ry
    | str z => have rx : u = .bool c := rx; obtain ⟨t, ry⟩ := ry; rw [rx] at ry; cases ry
    | ref a => have rx : u = .bool c := rx; have ry : u = .ref a := ry; rw [rx] at ry; cases ry
    | _ => cases hy
  | int c =>
    obtain ⟨t, rx⟩ := rx
    cases y with
    | non => have ry : u = .none := ry; rw [rx] at ry; cases ry
    | bl b => have ry : u = .bool b := ry; rw [rx] at ry; cases ry
    | int i => obtain ⟨t', ry⟩ := ry; rw [rx] at ry; injection ry with ry; rw [ry]
    | str z => obtain ⟨t', ry⟩ := ry; rw [rx] at ry; cases ry
    | ref a => have ry : u = .ref a := ry; rw [rx] at ry; cases ry
    | _ => cases hy
  | str c =>
    obtain ⟨t, rx⟩ := rx
    cases y with
    | non => have ry : u = .none := ry; rw [rx] at ry; cases ry
    | bl b => have ry : u = .bool b := ry; rw [rx] at ry; cases ry
    | int i => obtain ⟨t', ry⟩ := ry; rw [rx] at ry; cases ry
    | str z => obtain ⟨t', ry⟩ := ry; rw [rx] at ry; injection ry with ry; rw [ry]
    | ref a => have ry : u = .ref a := ry; rw [rx] at ry; cases ry
    | _ => cases hy
  | ref c => cases y with
    | non => have rx : u = .ref c := rx; have ry : u = .none := ry; rw [rx] at ry; cases ry
    | bl b => have rx : u = .ref c := rx; have ry : u = .bool b := ry; rw [rx] at ry; cases ry
    | int i => have rx : u = .ref c := rx; obtain ⟨t, ry⟩ := ry; rw [rx] at ry; cases ry
    | str z => have rx : u = .ref c := rx; obtain ⟨t, ry⟩ := ry; rw [rx] at ry; cases ry
    | ref a => have rx : u = .ref c := rx; have ry : u = .ref a := ry; rw [rx] at ry; injection ry with ry; rw [ry]
    | _ => cases hy
  | _ => cases hx
/-- the items of two sequences, compared -/
def ItEq (r : R2) (H : Hp) (xs ys : List V) (e : Nat → Bool) : Prop := (∀ z ∈ xs, PlV z) ∧ (∀ z ∈ ys, PlV z) ∧ ∀ i c d, xs[i]? = some c → ys[i]? = some d → (c = d → e i = true) ∧ r c d H (fun v H' => v = .bl (e i) ∧ H' = H)
def rNeLst (K : PySem.W.Frag) (r : R2) : R2 := fun x y H Q => ∃ (a b : Addr) (xs ys : List V) (e : Nat → Bool), x = .ref a ∧ y = .ref b ∧ SqL K H a xs ∧ SqL K H b ys ∧ ItEq r H xs ys e ∧
  Q (.bl (!((List.range (min xs.length ys.length)).all e && xs.length == ys.length))) H
def rNeTpl (K : PySem.W.Frag) (r : R2) : R2 := fun x y H Q => ∃ (a b : Addr) (xs ys : List V) (e : Nat → Bool), x = .ref a ∧ y = .ref b ∧ SqT K H a xs ∧ SqT K H b ys ∧ ItEq r H xs ys e ∧
  Q (.bl (!((List.range (min xs.length ys.length)).all e && xs.length == ys.length))) H
section
variable {X : Cx} {pins : List (Addr × Obj)} {σ : St} {H : Hp}
theorem seq_item {r : R2} (op : OpR X.inn (compareOp .Eq) r) {c d : V} {u v : Value} {k : Bool} (rc : RelV c u) (rd : RelV d v) (sc : PlV c) (sd : PlV d) (hk : c = d → k = true) (hr : r c d H (fun v H' => v = .bl k ∧ H' = H)) {s : Shared} (I : Inv X pins σ H s) {E : Value → Shared → Prop} (hE : ∀ e s', X.xe e s' → E e s') {Q : Bool → Shared → Prop} (hQ : ∀ s', Inv X pins σ H s' → Q k s') :
    wpAny (model X.prog X.w) X.A.in1 (eqBool u v) Q E s := by
  have form : (u = .none) ∨ (∃ b, u = .bool b) ∨ (∃ i t, u = .int i t) ∨ (∃ z t, u = .str z t) ∨ ∃ a, u = .ref a := by
    cases c with
    | non => exact .inl rc
    | bl b => exact .inr (.inl ⟨b, rc⟩)
    | int i => obtain ⟨t, rc⟩ := rc; exact .inr (.inr (.inl ⟨i, t, rc⟩))
    | str z => obtain ⟨t, rc⟩ := rc; exact .inr (.inr (.inr (.inl ⟨z, t, rc⟩)))
    | ref a => exact .inr (.inr (.inr (.inr ⟨a, rc⟩)))
    | _ => cases sc
  rcases form with rfl | ⟨b, rfl⟩ | ⟨i, t, rfl⟩ | ⟨z, t, rfl⟩ | ⟨a, rfl⟩
  all_goals
    unfold eqBool
    refine wpAny_holding ?_
    refine wpAny_ite_split (fun hab => ?_) (fun hab => ?_)
    · have := eq_of_beq hab
      subst this
      rw [hk (plv_same sc sd rc rd)] at hQ
      exact wpAny_bind (wpAny_rule (wpAny_pure (hQ _ I)))
    · refine wpAny_bind (wpAny_mono (op pins s σ H c d _ _ (fun v H' => v = .bl k ∧ H' = H) I.inn rc rd hr) (fun w s2 q => ?_) (fun e s2 z => hE e s2 z))
      obtain ⟨z, H2, I3, rz, rfl, rfl⟩ := q
      cases rz
      exact wpAny_truthy_bool (hQ _ (I3.outn I.ok))
/-- the list's object at this state -/
theorem lst_at {s : Shared} (I : Inv X pins σ H s) {a : Addr} {xs : List V} (h : SqL X.K H a xs) : ∃ (it : List Value) (dd : Option Addr) (n : Nat) (sl : Array (Option Value)), s.heap.get? a = some { cls := .type "list", dict := dd, data := .seq it.toArray n, slots := sl } ∧ it.length = xs.length ∧ ∀ (i : Nat) (c : V), xs[i]? = some c → ∃ u, it[i]? = some u ∧ RelV c u := by
  obtain ⟨i1, r1, p1, _⟩ := I.list h
  obtain ⟨⟨cls, dd, data, sl⟩, ho, hc, n, hd⟩ := p1.isList
  simp only at hc hd
  subst hc hd
  exact ⟨i1, dd, n, sl, ho, r1.length.symm, fun i c hc => r1.get hc⟩
theorem ne_loopI {r : R2} (op : OpR X.inn (compareOp .Eq) r) {a b : Addr} {xs ys : List V} {e : Nat → Bool} (h1 : SqL X.K H a xs) (h2 : SqL X.K H b ys) (hl : xs.length = ys.length) (he : ItEq r H xs ys e) (k : Nat) : ∀ i : Nat, xs.length - i = k →
    MeetsIn X.prog X.w (Builtin.«list.__eq__.loop» ⟨[.ref a, .ref b, rawInt i, rawInt 3], []⟩) (fun A R s => A = X.A ∧ Inv X pins σ H s ∧ (∀ er s', X.xe er s' → R (.error er) s') ∧ ∀ s', Inv X pins σ H s' → R (.ok (.ret (.bool (!((List.range xs.length).drop i).all e)))) s') := by
  obtain ⟨px, py, hi⟩ := he
  induction k with
  | zero =>
    intro i hk A R s h
    obtain ⟨rfl, I, hE, h⟩ := h
    obtain ⟨i1, dd, n, sl, g1, l1, q1⟩ := lst_at I h1
    obtain ⟨i2, dd2, n2, sl2, g2, l2, q2⟩ := lst_at I h2
    have hR := h s I
    obtain ⟨hp, g, d, tk, os⟩ := s
    wp_walk using wpAny_loadPart' g1, wpAny_loadPart' g2
    have hi1 : i1.toArray[((i : Nat) : Int).toNat]? = none := by simp; omega
    have hi2 : i2.toArray[((i : Nat) : Int).toNat]? = none := by simp; omega
    have hd : (List.range xs.length).drop i = [] := by simp; omega
    rw [hd] at hR
    rw [hi1, hi2]
    wp_walk using wpAny_loadPart' g1, wpAny_loadPart' g2
    show R (.ok (.ret (.bool (i1.toArray.size != i2.toArray.size)))) _
    have : (i1.toArray.size != i2.toArray.size) = false := by simp; omega
    rw [this]
    simpa using hR
  | succ k ih =>
    intro i hk A R s h
    obtain ⟨rfl, I, hE, h⟩ := h
    obtain ⟨i1, dd, n, sl, g1, l1, q1⟩ := lst_at I h1
    obtain ⟨i2, dd2, n2, sl2, g2, l2, q2⟩ := lst_at I h2
    have lt1 : i < xs.length := by omega
    have lt2 : i < ys.length := by omega
    have e1 : xs[i]? = some xs[i] := List.getElem?_eq_getElem lt1
    have e2 : ys[i]? = some ys[i] := List.getElem?_eq_getElem lt2
    obtain ⟨u1, f1, r1⟩ := q1 i _ e1
    obtain ⟨u2, f2, r2⟩ := q2 i _ e2
    obtain ⟨k1, k2⟩ := hi i _ _ e1 e2
    have hd : (List.range xs.length).drop i = i :: (List.range xs.length).drop (i + 1) := by simp [List.drop_eq_getElem_cons, lt1]
    have hc : ((i : Int) + 1) = ((i + 1 : Nat) : Int) := by push_cast; rfl
    rw [hd, List.all_cons] at h
    obtain ⟨hp, g, d, tk, os⟩ := s
    wp_walk using wpAny_loadPart' g1, wpAny_loadPart' g2
    have hi1 : i1.toArray[((i : Nat) : Int).toNat]? = some u1 := by simp [f1]
    have hi2 : i2.toArray[((i : Nat) : Int).toNat]? = some u2 := by simp [f2]
    rw [hi1, hi2]
    refine wpAny_bind (seq_item op r1 r2 (px _ (List.mem_of_getElem? e1)) (py _ (List.mem_of_getElem? e2)) k1 k2 I hE fun s2 I2 => ?_)
    cases hb' : e i with
    | true =>
      rw [hb'] at h
      wp_walk
      rw [hc]
      exact ⟨plainId_quiet plain_eq_loop _, codeAny_builtin entry_eq_loop (by
        rw [Around.under_plainId plain_eq_loop _]
        exact ih (i + 1) (by omega) X.A R _ ⟨rfl, I2, hE, by simpa using h⟩)⟩
    | false =>
      rw [hb'] at h
      have hR := h s2 I2
      obtain ⟨i3, dd3, n3, sl3, g3, l3, q3⟩ := lst_at I2 h1
      obtain ⟨i4, dd4, n4, sl4, g4, l4, q4⟩ := lst_at I2 h2
      obtain ⟨u3, f3, r3⟩ := q3 i _ e1
      obtain ⟨u4, f4, r4⟩ := q4 i _ e2
      have hi3 : i3.toArray[((i : Nat) : Int).toNat]? = some u3 := by simp [f3]
      have hi4 : i4.toArray[((i : Nat) : Int).toNat]? = some u4 := by simp [f4]
      obtain ⟨hp2, g2', d2, tk2, os2⟩ := s2
      wp_walk using wpAny_loadPart' g3, wpAny_loadPart' g4
      rw [hi3, hi4]
      wp_walk
      simpa using hR
theorem op_neLst {r : R2} (hu : X.A.units < cLine) (op : OpR X.inn (compareOp .Eq) r) : OpR X (compareOp .NotEq) (rNeLst X.K r) := by
  intro pins s σ H x y v u Q I rx ry h
  obtain ⟨a, b, xs, ys, e, rfl, rfl, h1, h2, he, q⟩ := h
  cases rx
  cases ry
  obtain ⟨i1, dd, n, sl, g1, l1, q1⟩ := lst_at I h1
  obtain ⟨i2, dd2, n2, sl2, g2, l2, q2⟩ := lst_at I h2
  have ta : s.TypeIs (.ref a) "list" := ⟨_, g1, rfl⟩
  have tb : s.TypeIs (.ref b) "list" := ⟨_, g2, rfl⟩
  have key : MeetsIn X.prog X.w (Builtin.«list.__ne__» ⟨[.ref a, .ref b], []⟩) (fun A R s => A = X.A ∧ Inv X pins σ H s ∧ (∀ er s', X.xe er s' → R (.error er) s') ∧
      ∀ s', Inv X pins σ H s' → R (.ok (.ret (.bool (!((List.range (min xs.length ys.length)).all e && xs.length == ys.length))))) s') := by
    intro A R s h
    obtain ⟨rfl, I, hE, h⟩ := h
    obtain ⟨i1, dd, n, sl, g1, l1, q1⟩ := lst_at I h1
    obtain ⟨i2, dd2, n2, sl2, g2, l2, q2⟩ := lst_at I h2
    have f3 := AutoSeq1.sub_list_list
    by_cases hl : xs.length = ys.length
    · have hne : ¬ (i1.toArray.size != i2.toArray.size) = true := by simp; omega
      obtain ⟨hp, g, d, tk, os⟩ := s
      wp_walk using wpAny_loadPart' g1, wpAny_loadPart' g2
      refine ⟨plainId_quiet plain_eq_loop _, codeAny_builtin entry_eq_loop ?_⟩
      rw [Around.under_plainId plain_eq_loop _]
      refine ne_loopI op h1 h2 hl he _ 0 rfl X.A R _ ⟨rfl, I, hE, fun s' I' => ?_⟩
      have := h s' I'
      rw [← hl, Nat.min_self, beq_self_eq_true, Bool.and_true] at this
      simpa using this
    · have hne : (i1.toArray.size != i2.toArray.size) = true := by simp; omega
      have hR := h s I
      have : (xs.length == ys.length) = false := by simp; exact hl
      rw [this, Bool.and_false] at hR
      obtain ⟨hp, g, d, tk, os⟩ := s
      wp_walk using wpAny_loadPart' g1, wpAny_loadPart' g2
      first
        | simpa using hR
        | (show R (.ok (.ret (.bool false))) _; simpa using hR)
  exact wpAny_richCompare_same_room (op := .NotEq) ta tb F.slot_list_ne (call_meetsIn F.slot_list_ne ta F.entry_list_ne (F.args_list_ne_2 _ _) key
    ⟨rfl, I, fun er s' z => z, fun s' I' => ⟨(fun x => nomatch x), .bl _, H, I', rfl, q⟩⟩) hu
theorem op_neTpl {r : R2} (hu : X.A.units < cLine) (op : OpR X.inn (compareOp .Eq) r) : OpR X (compareOp .NotEq) (rNeTpl X.K r) := by
  intro pins s σ H x y v u Q I rx ry h
  obtain ⟨a, b, xs, ys, e, rfl, rfl, h1, h2, ⟨px, py, he⟩, q⟩ := h
  cases rx
  cases ry
  obtain ⟨i1, r1, p1, _⟩ := I.tuple h1
  obtain ⟨i2, r2, p2, _⟩ := I.tuple h2
  have l1 : xs.length = i1.length := r1.length
  have l2 : ys.length = i2.length := r2.length
  obtain ⟨⟨cls, dd, data, sl⟩, ho, hc, n, hd⟩ := id p1
  obtain ⟨⟨cls2, dd2, data2, sl2⟩, ho2, hc2, n2, hd2⟩ := id p2
  simp only at hc hd hc2 hd2
  subst hc hd hc2 hd2
  have ta : s.TypeIs (.ref a) "tuple" := ⟨_, ho, rfl⟩
  have tb : s.TypeIs (.ref b) "tuple" := ⟨_, ho2, rfl⟩
  have key : MeetsIn X.prog X.w (Builtin.«tuple.__ne__» ⟨[.ref a, .ref b], []⟩) (fun A R s => A = X.A ∧ Inv X pins σ H s ∧ (∀ er s', X.xe er s' → R (.error er) s') ∧ s.heap.get? a = some { cls := .type "tuple", dict := dd, data := .seq i1.toArray n, slots := sl } ∧ s.heap.get? b = some { cls := .type "tuple", dict := dd2, data := .seq i2.toArray n2, slots := sl2 } ∧
      ∀ s', Inv X pins σ H s' → R (.ok (.ret (.bool (!((List.range (min xs.length ys.length)).all e && xs.length == ys.length))))) s') := by
    intro A R s h
    obtain ⟨hp, g, d, tk, os⟩ := s
    obtain ⟨rfl, I, hE, hl, hb, h⟩ := h
    have f2 := AutoSeq1.sub_tuple_tuple
    have hZ : (i1.toArray.toList.zip i2.toArray.toList).length = min xs.length ys.length := by simp [l1, l2]
    wp_walk using wpAny_loadPart' hl, wpAny_loadPart' hb, wpAny_forIn_list _ (fun rest b s' => b.1 = none ∧ Inv X pins σ H s' ∧ ∃ i, rest = (i1.toArray.toList.zip i2.toArray.toList).drop i ∧
      ∀ s', Inv X pins σ H s' → R (.ok (.ret (.bool (!(((List.range (min xs.length ys.length)).drop i).all e && xs.length == ys.length))))) s') _
    case turn =>
      rintro ⟨y, x⟩ rest b s' ⟨hb', I', i, hz, hR⟩
      have hlt : i < (i1.toArray.toList.zip i2.toArray.toList).length := by
        rcases Nat.lt_or_ge i (i1.toArray.toList.zip i2.toArray.toList).length with h' | h'
        · exact h'
        · rw [List.drop_of_length_le h'] at hz; cases hz
      have hm : i < min xs.length ys.length := hZ ▸ hlt
      have h1 : i < xs.length := Nat.lt_of_lt_of_le hm (Nat.min_le_left _ _)
      have h2 : i < ys.length := Nat.lt_of_lt_of_le hm (Nat.min_le_right _ _)
      have e1 : xs[i]? = some xs[i] := List.getElem?_eq_getElem h1
      have e2 : ys[i]? = some ys[i] := List.getElem?_eq_getElem h2
      obtain ⟨u1, f1, q1⟩ := r1.get e1
      obtain ⟨u2, f2', q2⟩ := r2.get e2
      rw [List.drop_eq_getElem_cons hlt] at hz
      injection hz with hyx hrest
      have hy : y = u1 := by
        have := congrArg Prod.fst hyx
        have g := (List.getElem?_eq_some_iff.mp f1).2
        simpa [g] using this
      have hx : x = u2 := by
        have := congrArg Prod.snd hyx
        have g := (List.getElem?_eq_some_iff.mp f2').2
        simpa [g] using this
      subst hy hx
      have hd : (List.range (min xs.length ys.length)).drop i = i :: (List.range (min xs.length ys.length)).drop (i + 1) := by
        rw [List.drop_eq_getElem_cons (by rw [List.length_range]; exact hm), List.getElem_range]
      rw [hd, List.all_cons] at hR
      obtain ⟨k1, k2⟩ := he i _ _ e1 e2
      refine wpAny_bind (seq_item op q1 q2 (px _ (List.mem_of_getElem? e1)) (py _ (List.mem_of_getElem? e2)) k1 k2 I' hE fun s2 I2 => ?_)
      cases hy : e i with
      | true =>
        rw [hy] at hR
        wp_walk
        exact ⟨rfl, I2, i + 1, hrest, by simpa using hR⟩
      | false =>
        rw [hy] at hR
        have hR := hR _ I2
        wp_walk
        first
          | exact by simpa using hR
          | exact ⟨_, rfl, by simpa using hR⟩
    case fin =>
      rintro ⟨b1, b2⟩ s' ⟨hb', I', i, hz, hR⟩
      simp only at hb'
      subst hb'
      have hge : min xs.length ys.length ≤ i := by
        rcases Nat.lt_or_ge i (i1.toArray.toList.zip i2.toArray.toList).length with h' | h'
        · rw [List.drop_eq_getElem_cons h'] at hz; cases hz
        · exact hZ ▸ h'
      rw [List.drop_of_length_le (by simpa using hge)] at hR
      have hR := hR _ I'
      wp_walk
      first
        | exact by simpa [Builtin.Tuple.tupleCompareSizes, bne, l1, l2] using hR
        | exact ⟨_, rfl, by simpa [Builtin.Tuple.tupleCompareSizes, bne, l1, l2] using hR⟩
    case h =>
      exact ⟨rfl, I, 0, rfl, by simpa using h⟩
  exact wpAny_richCompare_same_room (op := .NotEq) ta tb F.slot_tuple_ne (call_meetsIn F.slot_tuple_ne ta F.entry_tuple_ne (F.args_tuple_ne_2 _ _) key
    ⟨rfl, I, fun er s' z => z, ho, ho2, fun s' I' => ⟨(fun x => nomatch x), .bl _, H, I', rfl, q⟩⟩) hu
end
end L2
set_option Elab.async false
set_option linter.all false
set_option maxRecDepth 100000
set_option maxHeartbeats 1000000
namespace KI
open PySem L2 SX Tx
/-- _law_is_chain(chain, rows, labels), of a chain of these rows and labels -/
def spIsChain (C CC : Addr) : Sp := fun vs H Q _ => ∃ (o l b : Addr) (n : Nat) (rs : List (Addr × List Nat)) (ls : List Str), vs = [.ref o, .ref l, .ref b] ∧ n ≤ 8 ∧ IsCh C CC H o n (rs.map (·.2)) ls ∧ H l = some (.lst (rfs rs)) ∧ H b = some (.tup (sV ls)) ∧ (∀ r ∈ rs, RowSh C H n r) ∧
  ∀ H', Same H H' → Q (.bl true) H'
theorem refs_plv {as : List Addr} : ∀ z ∈ as.map V.ref, PlV z := fun z m => by
  obtain ⟨a, _, rfl⟩ := List.mem_map.mp m
  trivial
theorem shaped_strsL {ls : List Str} (h : ∀ x ∈ ls, Nam x) : SeqAt.shaped (.list (ls.map PyData.str)) = true := by
  obtain ⟨h1, h2⟩ := lay_strs ls h
  unfold SeqAt.shaped
  rw [Bool.and_eq_true, decide_eq_true_eq]
  refine ⟨h1, ?_⟩
  show PyData.depthAll (ls.map PyData.str) + 1 ≤ 64
  omega
theorem all_rep (n : Nat) : (List.replicate n true).all id = true := List.all_eq_true.mpr fun x m => (List.mem_replicate.mp m).2 ▸ rfl
section
variable {P : Program} {w : World} {K : PySem.W.Frag} {mg : Str → Option Value} {base : Heap} {C CC B : Addr}
abbrev s_ischain : Stmt := top 61
abbrev nIc : List Str := ["_law_chain", "_law_rows_here", "_law_labels_here", "_law_s", "_law_row", "_law_share"]
theorem sc_ischain : FnScope nIc ["_law_chain", "_law_rows_here", "_law_labels_here"] (defScope s_ischain) := ⟨rfl, rfl, rfl, by decide +kernel, rfl, by decide +kernel, by decide +kernel⟩
theorem ok_ischain {f : Addr} {fd : FuncData} (F : Fun K "_law_is_chain" "_law_is_chain" s_ischain f fd) (T : Bm mg) (sh : ShT K mg C) (t : ChT K mg CC) (rt : RowT P w K mg base C CC) (lt : LabT P w K mg base C CC) (eq : EqT P w K mg base C) : FnOk P w K mg base CX0 6 f fd ["_law_chain", "_law_rows_here", "_law_labels_here"] (spIsChain C CC) := by
  obtain ⟨g, gd, M, G, bG⟩ := rt.ex
  obtain ⟨g2, gd2, M2, G2, bG2⟩ := lt.ex
  obtain ⟨g3, gd3, O, G3, bG3⟩ := eq.ex
  refine F.ok sc_ischain (fun vs H Q E h => ?_) (fun cdv A outer s H vs Q E hr h => ?_)
  · obtain ⟨o, l, b, n, rs, ls, rfl, _⟩ := h
    rfl
  · obtain ⟨o, l, b, n, rs, ls, rfl, n8, ch, el, eb, rw_, k⟩ := h
    have hu := hu_of hr
    have h64 := un64 hr
    refine ⟨_, (pss_cons (ps_if (PW.pt (pw_or (pt_cmpR op_ne (pe_fld (pv 0) rfl) (pe_callB call_len_seq (by rfl) T.b.n_len PySem.boot_len (pa_cons (pv 1) pa_nil)) (nomark _)) (pw_or1 (pt_cmpR (op_neD (by exact h64)) (pe_lc (own := [("_law_s", 3)]) rfl sc_ischain.nd (pi_range1 (by rfl) T.n_range (pa_cons (pe_callB call_len_seq (by rfl) T.b.n_len PySem.boot_len (pa_cons (pv 1) pa_nil)) pa_nil)) (blkOk_by (N := nIc) (sc := defScope s_ischain) (by decide +kernel)) (fun _ _ _ _ _ => (pg_name (i := 3) sc_ischain.nd rfl (Or.inl rfl))) (fun _ _ _ _ _ => pts_nil) (fun _ _ _ _ _ => (pe_meth (pl := _) (pv 0) t.it.cl M2 G2 (hr.mono (by decide)) bG2 .nil pass0 (pa_cons (pv 3) pa_nil)))) (pe_callTy call_list_of (by rfl) T.n_list (by decide +kernel) (pa_cons (pv 2) pa_nil)) (nomark _)))))
        (pss_one (ps_ret pe_bl))
        pss_nil)
      (pss_cons (ps_for PassesOwn.never rfl (pi_range1 (by rfl) T.n_range (pa_cons (pe_callB call_len_seq (by rfl) T.b.n_len PySem.boot_len (pa_cons (pv 1) pa_nil)) pa_nil)) (pg_name (i := 3) sc_ischain.nd rfl (Or.inl rfl))
        (pss_cons (ps_set (i := 4) sc_ischain.nd rfl (Or.inl rfl) (pe_meth (pl := _) (pv 0) t.it.cl M G (hr.mono (by decide)) bG .nil pass0 (pa_cons (pv 3) pa_nil)))
          (pss_one (ps_if (PW.pt (pw_or (pt_not (pt_val (pe_callB call_isi (by rfl) T.b.n_isinstance (by decide +kernel) (pa_cons (pv 4) (pa_cons (pe_bltn (v := .ty "tuple") rfl T.n_tuple (by decide +kernel) rfl) pa_nil))))) (pw_or (pt_cmpR (op_neLst (by exact Nat.lt_of_succ_lt hu) (op_ownB (R := EqS K C) is_eq G3 O bG3 pass0 (hr.mono (show 4 ≤ 5 by decide)).in1)) (pe_callTy call_list_of (by rfl) T.n_list (by decide +kernel) (pa_cons (pv 4) pa_nil)) (pe_callTy call_list_of (by rfl) T.n_list (by decide +kernel) (pa_cons (pe_ix (show IxR _ (rIxL K) from ix_list) (pv 1) (pv 3) (fun _ _ => rfl)) pa_nil)) (nomark _))
              (pw_or1 (pt_not (pt_val (pe_callB (cr_all rfl) (by rfl) T.n_all PyProof.Rows.boot_all (pa_cons (pe_lc (own := [("_law_share", 5)]) rfl sc_ischain.nd (pi_tup (pv 4)) (blkOk_by (N := nIc) (sc := defScope s_ischain) (by decide +kernel)) (fun _ _ _ _ _ => (pg_name (i := 5) sc_ischain.nd rfl (Or.inl rfl))) (fun _ _ _ _ _ => pts_nil) (fun _ _ _ _ _ => (pe_callB (show CallR _ _ (rIsi K) from call_isi) (by rfl) T.b.n_isinstance (by decide +kernel) (pa_cons (pv 5) (pa_cons (pe_glob (v := .ref C) rfl sh.g_Share rfl) pa_nil))))) pa_nil))))))))
            (pss_one (ps_ret pe_bl))
            pss_nil))))
      (pss_one (ps_ret pe_bl)))), ?_⟩
    obtain ⟨dx, T0, lb, rs2, h1, h2, h3, h4, h5, h6, h7⟩ := id ch
    have lr : rs.length = n := by rw [← h3, ← List.length_map (f := fun r : Addr × List Nat => r.2), ← h5, List.length_map]
    have lls : ls.length = n := h7.1
    refine ⟨_, rfl, o, CC, dx, _, _, rfl, h1, t.it.cl, t.nS, chF_size _ _ _, _, rfl, l, _, rfl, .inl (SqL.of el), rfl, _, rfl, iteFe (by rw [rfs_len, lr, decide_eq_true rfl]; rfl) ?_⟩
    refine ⟨_, rfl, l, _, rfl, .inl (SqL.of el), _, rfl, by rw [rfs_len]; omega, by rw [rfs_len]; omega, fun D nD => ?_⟩
    rw [rfs_len, lr, Int.toNat_natCast]
    refine lc_range (fun i H' => Same H H' ∧ H' D = some (.lst (sV (ls.take i)))) ⟨Same.put nD, upd_same⟩ ?_ ?_
    · rintro i H1 hi ⟨s1, eD⟩
      rw [Int.zero_add]
      refine ⟨rfl, yes_of ?_⟩
      have gx : ls[i]? = some (ls[i]'(by omega)) := List.getElem?_eq_getElem (by omega)
      refine ⟨_, rfl, o, dx, _, rfl, s1 _ _ h1, chF_none _ _ _ (by decide +kernel) (by decide +kernel) (by decide +kernel), _, rfl, o, n, rs.map (·.2), ls, i, rfl, ch.same s1, hi, fun x hx => ?_⟩
      refine ⟨_, eD, by rw [sV_len, List.length_take]; exact small_len (by omega), Same.but s1 nD, ?_⟩
      rw [upd_same, sV_snoc, take_more hx]
    · rintro H1 ⟨s1, eD⟩
      rw [← lls, List.take_length] at eD
      refine ⟨_, rfl, b, _, rfl, .inr (SqT.of (s1 _ _ eb)), fun L nL => ?_⟩
      have s2 := Same.put (o := .lst (sV ls)) nL
      have eD2 := s2 _ _ eD
      have s12 := s1.trans s2
      have eL : (upd H1 L (.lst (sV ls))) L = some (.lst (sV ls)) := upd_same
      generalize upd H1 L (.lst (sV ls)) = H2 at s2 eD2 s12 eL ⊢
      refine ⟨_, _, .lst (SqL.of eD2) (dp_strs ls), .lst (SqL.of eL) (dp_strs ls), shaped_strsL h7.2, shaped_strsL h7.2, ?_⟩
      rw [SeqAt.eqv_refl _ (show (PyData.list (ls.map PyData.str)).canLay0 = true from (lay_strs ls h7.2).1)]
      refine ⟨_, rfl, iteF ?_⟩
      have el2 := s12 _ _ el
      refine ⟨_, rfl, l, _, rfl, .inl (SqL.of el2), _, rfl, by rw [rfs_len]; omega, by rw [rfs_len]; omega, ?_⟩
      rw [rfs_len, lr, Int.toNat_natCast]
      refine for_range (fun i σ H' => ∃ v3 v4 : Option V, σ = [some (.ref o), some (.ref l), some (.ref b), v3, v4, none] ∧ Same H H') ⟨none, none, rfl, s12⟩ ?_ ?_
      · rintro i σ H3 hi ⟨v3, v4, rfl, s3⟩
        rw [Int.zero_add]
        refine ⟨_, rfl, o, dx, _, rfl, s3 _ _ h1, chF_none _ _ _ (by decide +kernel) (by decide +kernel) (by decide +kernel), _, rfl, o, n, rs.map (·.2), ls, i, rfl, ch.same s3, hi, fun p ws hw shr => ?_⟩
        have gr : rs[i]? = some (rs[i]'(by omega)) := List.getElem?_eq_getElem (by omega)
        have mr := List.mem_of_getElem? gr
        generalize (rs[i]'(by omega)) = r at gr mr
        have ew : ws = r.2 := by rw [List.getElem?_map, gr] at hw; exact (Option.some.inj hw).symm
        subst ew
        obtain ⟨as, e1, l1, f1⟩ := row_low shr
        obtain ⟨as', e1', l1', f1'⟩ := row_low ((rw_ r mr).same s3)
        refine ⟨_, rfl, .ref p, .ty "tuple", _, _, true, rfl, .ty _, .base (.tup e1), kit_ty (r := true) (by decide +kernel), _, rfl, iteF ?_⟩
        refine ⟨_, rfl, p, _, rfl, .inr (SqT.of e1), fun L1 nL1 => ?_⟩
        have s4 := Same.put (o := .lst (as.map V.ref)) nL1
        have s34 := s3.trans s4
        refine ⟨_, rfl, _, rfl, l, _, (i : Int), .ref r.1, rfl, rfl, SqL.of (s34 _ _ el), atI_nat (by rw [rfs, List.getElem?_map, gr]; rfl), ?_⟩
        refine ⟨r.1, _, rfl, .inr (SqT.of (s4 _ _ e1')), fun L2 nL2 => ?_⟩
        have s5 := Same.put (o := .lst (as'.map V.ref)) nL2
        have s35 := s34.trans s5
        have eL1 := s5 _ _ (show (upd H3 L1 (.lst (as.map V.ref))) L1 = some (.lst (as.map V.ref)) from upd_same)
        have eL2 : (upd (upd H3 L1 (.lst (as.map V.ref))) L2 (.lst (as'.map V.ref))) L2 = some (.lst (as'.map V.ref)) := upd_same
        have s45 := s4.trans s5
        have len : as.length = as'.length := by rw [l1, l1']
        refine ⟨L1, L2, _, _, fun _ => true, rfl, rfl, SqL.of eL1, SqL.of eL2, ⟨refs_plv, refs_plv, fun j c d hc hd => ⟨fun _ => rfl, ?_⟩⟩, ?_⟩
        · obtain ⟨c, hc2, rfl⟩ := refs_at hc
          obtain ⟨d, hd2, rfl⟩ := refs_at hd
          obtain ⟨dy, tt, bb, g1, g2⟩ := f1 j c hc2
          obtain ⟨dz, t', b', g3, g4⟩ := f1' j d hd2
          rw [g1] at g3
          obtain ⟨rfl, rfl⟩ := Prod.mk.inj (Option.some.inj g3)
          have g2 := s45 _ _ g2
          have g4 := s45 _ _ g4
          refine ⟨decide (V.int tt = V.int tt) && decide (V.int bb = V.int bb), .inl ⟨c, dy, _, rfl, g2, ⟨dy, tt, bb, g2, .inl ⟨d, dz, tt, bb, rfl, g4, rfl⟩⟩, .inr ⟨d, dz, _, rfl, g4⟩⟩, ?_, rfl⟩
          show V.bl (decide (V.int tt = V.int tt) && decide (V.int bb = V.int bb)) = V.bl true
          rw [decide_eq_true rfl, decide_eq_true rfl]
          rfl
        · rw [List.length_map, List.length_map, len, List.all_eq_true.mpr fun _ _ => rfl, beq_self_eq_true]
          refine ⟨_, rfl, iteF ?_⟩
          have e15 := s45 _ _ e1
          refine ⟨_, rfl, p, rfl, ⟨_, SqT.of e15⟩, fun D2 nD2 => ?_⟩
          generalize (upd (upd H3 L1 (.lst (as.map V.ref))) L2 (.lst (as'.map V.ref))) = H5 at s45 s35 e15 nD2 ⊢
          refine lc_tup (K := K) (a := p) (xs := as.map V.ref) (fun j H' => Same H5 H' ∧ H' D2 = some (.lst (List.replicate j (.bl true)))) ⟨Same.put nD2, upd_same⟩ (fun j H' _ h => SqT.of (h.1 _ _ e15)) ?_ ?_
          · rintro j y H' hy ⟨s6, eD2⟩
            obtain ⟨a, ha, rfl⟩ := refs_at hy
            have jl := (List.getElem?_eq_some_iff.mp ha).1
            obtain ⟨dy, tt, bb, g1, g2⟩ := f1 j a ha
            refine ⟨rfl, yes_of ?_⟩
            refine ⟨_, rfl, .ref a, .ref C, _, _, true, rfl, .own C, sh.it.ty (s6 _ _ (s45 _ _ g2)), sh.it.kself, ?_⟩
            refine ⟨_, eD2, by rw [List.length_replicate]; have : (lowR r.2).length ≤ 8 := (by unfold lowR; rw [List.length_map]; have := shr; obtain ⟨_, _, z1, z2, _⟩ := this; rw [z2.1]; exact n8); exact small_len (by omega), Same.but s6 nD2, ?_⟩
            rw [upd_same, List.replicate_succ']
          · rintro H6 ⟨s6, eD2⟩
            rw [← List.map_replicate] at eD2
            refine ⟨D2, _, rfl, SqL.of eD2, ?_⟩
            rw [all_rep]
            exact ⟨_, rfl, iteF ⟨_, _, rfl, s35.trans s6⟩⟩
      · rintro σ H3 ⟨v3, v4, rfl, s3⟩
        exact k H3 s3
end
end KI
set_option Elab.async false
set_option linter.all false
set_option maxRecDepth 100000
set_option maxHeartbeats 4000000
/-! not of use for k03: the methods * and over, to be ported to the rows that want them -/
namespace KI
open PySem L2
def spMul (C : Addr) : Sp := fun vs H Q _ => ∃ (a dx : Addr) (y : V) (t n t' n' : Int), vs = [.ref a, y] ∧ H a = some (.ins C dx (shF t n)) ∧ Nm C H y t' n' ∧ Low t n ∧ Low t' n' ∧ NewSh C H Q (t * t') (n * n')
section
variable {P : Program} {w : World} {K : PySem.W.Frag} {mg : Str → Option Value} {base : Heap} {C B : Addr}
abbrev s_mul : Stmt := inClass (top 20) 6
theorem sc_mul : FnScope ["self", "other", "beside"] ["self", "other"] (defScope s_mul) := ⟨rfl, rfl, rfl, by decide +kernel, rfl, by decide +kernel, by decide +kernel⟩
theorem ok_mul {f : Addr} {fd : FuncData} (F : Fun K "__mul__" "Share.__mul__" s_mul f fd) (T : ShT K mg C) (m : MkT P w K mg base C B) (c_is : Cal P w K mg base 2 "is_share" ["thing"] (spIsShare K C)) (c_of : Cal P w K mg base 6 "share_of" ["thing"] (spShareOf C)) :
    FnOk P w K mg base CX0 7 f fd ["self", "other"] (spMul C) := by
  refine F.ok sc_mul (fun vs H Q E h => ?_) (fun cdv A outer s H vs Q E hr h => ?_)
  · obtain ⟨a, dx, y, t, n, t', n', rfl, _⟩ := h
    rfl
  · obtain ⟨a, dx, y, t, n, t', n', rfl, ha, hy, l1, l2, k⟩ := h
    refine ⟨_, (pss_cons (ps_if (pt_not (pt_val (pe_cal c_is (hr.mono (by decide)) rfl (pa_cons (pv 1) pa_nil))))
        pss_never
        pss_nil)
      (pss_cons (ps_set (i := 2) sc_mul.nd rfl (Or.inl rfl) (pe_cal c_of hr rfl (pa_cons (pv 1) pa_nil)))
      (pss_one (ps_ret (pe_share2 m (hr.mono (by decide)) rfl (pa_cons (pe_op op_mulW (pe_fld (pv 0) rfl) (pe_fld (pv 2) rfl)) (pa_cons (pe_op op_mulW (pe_fld (pv 0) rfl) (pe_fld (pv 2) rfl)) pa_nil))))))), ?_⟩
    refine ⟨_, rfl, y, rfl, .inl ⟨t', n', hy, _, rfl, iteF ?_⟩⟩
    refine ⟨_, rfl, y, t', n', rfl, hy, fun b db H1 s1 e1 => ?_⟩
    have ha1 := s1 _ _ ha
    refine ⟨_, rfl, a, C, dx, _, _, rfl, ha1, T.it.cl, T.nT, shF_top _ _, _, rfl, b, C, db, _, _, rfl, e1, T.it.cl, T.nT, shF_top _ _, t, t', rfl, rfl, wide_mul l1.tb l2.tb (by decide) (by decide) (by decide), ?_⟩
    refine ⟨_, rfl, a, C, dx, _, _, rfl, ha1, T.it.cl, T.nB, shF_bottom _ _, _, rfl, b, C, db, _, _, rfl, e1, T.it.cl, T.nB, shF_bottom _ _, n, n', rfl, rfl, wide_mul l1.nb l2.nb (by decide) (by decide) (by decide), ?_⟩
    have pp : 0 < n * n' := Int.mul_pos l1.pos l2.pos
    refine fun z dz hz hd ne => si_ok hz hd ne (a := t * t') (b := n * n') (by omega) (log_of (mul_lt l1.nb l2.nb) (by decide) (by decide)) fun H' s e => ⟨rfl, ?_⟩
    exact k z dz H' (s1.trans s) e
abbrev MulL (P : Program) (w : World) (K : PySem.W.Frag) (mg : Str → Option Value) (base : Heap) (C : Addr) : Prop := ArTL P w K mg base C .Mult "*" "mul" 7 (spMul C)
abbrev s_rmul : Stmt := inClass (top 20) 7
end
/-! ### products over a common denominator -/
theorem low_prod {S S' D D' : Int} (hD : 0 < D) (hD' : 0 < D') : lowT (lowT S D * lowT S' D') (lowB S D * lowB S' D') = lowT (S * S') (D * D') ∧ lowB (lowT S D * lowT S' D') (lowB S D * lowB S' D') = lowB (S * S') (D * D') := by
  have p1 := lowB_pos (a := S) (b := D) (by omega)
  have p2 := lowB_pos (a := S') (b := D') (by omega)
  refine low_ratio (Int.mul_ne_zero (by omega) (by omega)) (Int.mul_ne_zero (by omega) (by omega)) ?_
  have h1 := low_cross S D
  have h2 := low_cross S' D'
  calc lowT S D * lowT S' D' * (D * D') = (lowT S D * D) * (lowT S' D' * D') := by ac_rfl
    _ = (S * lowB S D) * (S' * lowB S' D') := by rw [h1, h2]
    _ = S * S' * (lowB S D * lowB S' D') := by ac_rfl
end KI
set_option Elab.async false
set_option linter.all false
set_option maxRecDepth 100000
set_option maxHeartbeats 1000000
namespace KI
open PySem L2 SX Tx
/-- _law_long(pool): a share above 0 and below 1, of many digits -/
def spLong (C : Addr) : Sp := fun vs H Q _ => ∃ a : Addr, vs = [.ref a] ∧ PoolAt H a ∧ ∀ (z dz : Addr) (t n : Nat) (H' : Hp), Keep a H H' → PoolAt H' a → 0 < t → t < n → n ≤ 10 ^ 156 → H' z = some (.ins C dz (shF (lowT (t : Int) (n : Int)) (lowB (t : Int) (n : Int)))) → Q (.ref z) H'
theorem pow_lt4 {n i : Nat} (h : n ≤ 10 ^ (12 * i)) (hi : i ≤ 13) : n < 2 ^ 4000 := by
  have h1 : (10 : Nat) ^ (12 * i) ≤ 10 ^ 156 := Nat.pow_le_pow_right (by decide) (by omega)
  have h2 : (10 : Nat) ^ 156 < 2 ^ 4000 := by decide +kernel
  omega
section
variable {P : Program} {w : World} {K : PySem.W.Frag} {mg : Str → Option Value} {base : Heap} {C CC B : Addr}
abbrev s_lng : Stmt := top 55
abbrev nLn : List Str := ["_law_pool_here", "_law_many", "_law_share", "_law_k", "_law_bottom", "_law_least"]
theorem sc_lng : FnScope nLn ["_law_pool_here"] (defScope s_lng) := ⟨rfl, rfl, rfl, by decide +kernel, rfl, by decide +kernel, by decide +kernel⟩
theorem ok_lng {f : Addr} {fd : FuncData} (F : Fun K "_law_long" "_law_long" s_lng f fd) (T : Bm mg) (m : MkT P w K mg base C B) (ml : MulL P w K mg base C) (c_draw : Cal P w K mg base 1 "_law_draw" ["_law_pool_here", "_law_many"] spDraw) : FnOk P w K mg base CX0 8 f fd ["_law_pool_here"] (spLong C) := by
  refine F.ok sc_lng (fun vs H Q E h => ?_) (fun cdv A outer s H vs Q E hr h => ?_)
  · obtain ⟨a, rfl, _⟩ := h
    rfl
  · obtain ⟨a, rfl, hp, k⟩ := h
    have o := (ArTL.op (X := (cxOf CX0 P w K mg base nLn "_law_long" (defScope s_lng) f cdv A outer s H E).nox) ml (hr.mono (by decide))).toR
    refine ⟨_, (pss_cons (ps_set (i := 1) sc_lng.nd rfl (Or.inl rfl) (pe_ix (show IxR _ (rIxT K) from ix_tup) (pe_tup (pa_cons pe_int (pa_cons pe_int (pa_cons pe_int (pa_cons pe_int (pa_cons pe_int (pa_cons pe_int pa_nil))))))) (pe_cal c_draw (hr.mono (by decide)) rfl (pa_cons (pv 0) (pa_cons pe_int pa_nil))) (fun _ _ => rfl)))
      (pss_cons (ps_set (i := 2) sc_lng.nd rfl (Or.inl rfl) (pe_share1 m (hr.mono (by decide)) rfl (pa_cons pe_int pa_nil)))
      (pss_cons (ps_for PassesOwn.never rfl (pi_range1 (by rfl) T.n_range (pa_cons (pv 1) pa_nil)) (pg_name (i := 3) sc_lng.nd rfl (Or.inl rfl))
        (pss_cons (ps_set (i := 4) sc_lng.nd rfl (Or.inl rfl) (pe_op op_add (pe_op op_add (pe_op op_pow pe_int pe_int) pe_int) (pe_cal c_draw (hr.mono (by decide)) rfl (pa_cons (pv 0) (pa_cons (pe_op op_sub (pe_op op_mul pe_int (pe_op op_pow pe_int pe_int)) pe_int) pa_nil)))))
        (pss_cons (ps_set (i := 5) sc_lng.nd rfl (Or.inl rfl) (pe_ifExp (pt_cmpR op_gt (pv 1) pe_int (nomark _)) (pe_op op_pow pe_int pe_int) pe_int))
        (pss_one (ps_set (i := 2) sc_lng.nd rfl (Or.inl rfl) (pe_op o (pv 2) (pe_share2 m (hr.mono (by decide)) rfl (pa_cons (pe_op op_add (pv 5) (pe_cal c_draw (hr.mono (by decide)) rfl (pa_cons (pv 0) (pa_cons (pe_op op_sub (pv 4) (pv 5)) pa_nil)))) (pa_cons (pv 4) pa_nil)))))))))
      (pss_one (ps_ret (pv 2)))))), ?_⟩
    refine ⟨by show 6 ≤ sizeLine; decide, fun t nt => ?_⟩
    have s1 := Same.put (o := .tup (cV [1, 2, 10, 11, 12, 13])) nt
    have e1 : (upd H t (.tup (cV [1, 2, 10, 11, 12, 13]))) t = some (.tup (cV [1, 2, 10, 11, 12, 13])) := upd_same
    have p1 := hp.same s1
    have k1 : Keep a H (upd H t (.tup (cV [1, 2, 10, 11, 12, 13]))) := Keep.of s1
    show tCall spDraw [] E0 _ _ (upd H t (.tup (cV [1, 2, 10, 11, 12, 13]))) _
    generalize (upd H t (.tup (cV [1, 2, 10, 11, 12, 13]))) = H1 at e1 p1 k1 ⊢
    refine ⟨_, rfl, a, 6, rfl, p1, by decide, by decide, fun r od r0 r1 ho => ?_⟩
    obtain ⟨p2, k2⟩ := drawn p1 k1 ho
    have e2 : (upd H1 a od) t = some (.tup (cV [1, 2, 10, 11, 12, 13])) := by rw [upd_ne (p1.ne e1)]; exact e1
    generalize (upd H1 a od) = H2 at p2 k2 e2 ⊢
    obtain ⟨j, rfl⟩ := nat_of r0
    have hj : j < [1, 2, 10, 11, 12, 13].length := by show j < 6; omega
    have gj : ([1, 2, 10, 11, 12, 13] : List Nat)[j]? = some [1, 2, 10, 11, 12, 13][j] := List.getElem?_eq_getElem hj
    have gx : 1 ≤ [1, 2, 10, 11, 12, 13][j] ∧ [1, 2, 10, 11, 12, 13][j] ≤ 13 := (by decide : ∀ x ∈ ([1, 2, 10, 11, 12, 13] : List Nat), 1 ≤ x ∧ x ≤ 13) _ (List.mem_of_getElem? gj)
    generalize [1, 2, 10, 11, 12, 13][j] = n at gj gx
    refine ⟨t, _, _, _, rfl, rfl, SqT.of e2, atI_nat (cV_at gj), ?_⟩
    refine fun x dx hz hd ne => si_ok hz hd ne (a := 1) (b := 1) (by decide) (by decide) fun H3 s3 ex => ⟨rfl, ?_⟩
    have k3 := k2.trans (Keep.of (a := a) s3)
    have p3 := p2.same s3
    refine ⟨_, rfl, _, rfl, by omega, by omega, ?_⟩
    rw [Int.toNat_natCast]
    have q11 : (10 : Int) ^ (11 : Int).toNat = 100000000000 := by decide
    refine for_range (fun i σ H' => ∃ (v3 v4 v5 : Option V) (x dx : Addr) (t b : Nat), σ = [some (.ref a), some (.int (n : Int)), some (.ref x), v3, v4, v5] ∧ Keep a H H' ∧ PoolAt H' a ∧ 0 < t ∧ t ≤ b ∧ (0 < i → t < b) ∧ b ≤ 10 ^ (12 * i) ∧ H' x = some (.ins C dx (shF (lowT (t : Int) (b : Int)) (lowB (t : Int) (b : Int))))) ⟨none, none, none, x, dx, 1, 1, rfl, k3, p3, by decide, by decide, fun h => absurd h (by decide), by decide, ex⟩ ?_ ?_
    · rintro i σ H' hi ⟨v3, v4, v5, x, dx, t, b, rfl, k4, p4, t0, tb, tlt, bb, ex⟩
      rw [Int.zero_add]
      refine ⟨_, _, rfl, rfl, ⟨by decide, by decide, by decide⟩, ?_⟩
      refine ⟨100000000000, 1, rfl, rfl, ?_⟩
      refine ⟨_, rfl, 10, 11, rfl, rfl, ⟨by decide, by decide, by decide⟩, 9, 100000000000, rfl, rfl, .inl ⟨by decide, by decide⟩, 900000000000, 1, rfl, rfl, a, 899999999999, rfl, p4, by decide, by decide, fun r o r0 r1 ho => ?_⟩
      obtain ⟨p5, k5⟩ := drawn p4 k4 ho
      have ex5 : (upd H' a o) x = some (.ins C dx (shF (lowT (t : Int) (b : Int)) (lowB (t : Int) (b : Int)))) := by rw [upd_ne (p4.nei ex)]; exact ex
      generalize (upd H' a o) = H5 at p5 k5 ex5 ⊢
      obtain ⟨d, rfl⟩ := nat_of r0
      refine ⟨100000000001, (d : Int), rfl, rfl, ?_⟩
      obtain ⟨M, hM⟩ : ∃ M : Nat, (100000000001 + (d : Int)) = (M : Int) := ⟨100000000001 + d, by omega⟩
      have M1 : 100000000001 ≤ M ∧ M < 1000000000000 := by omega
      show gName 4 (V.int (100000000001 + (d : Int))) _ _ _
      rw [hM]
      have step : ∀ L : Nat, 1 ≤ L → L ≤ 100000000000 → ∀ D : Ends, (∀ (y dy : Addr) (t' b' : Nat) (H7 : Hp), Keep a H H7 → PoolAt H7 a → 0 < t' → t' < b' → b' ≤ 10 ^ (12 * (i + 1)) → H7 y = some (.ins C dy (shF (lowT (t' : Int) (b' : Int)) (lowB (t' : Int) (b' : Int)))) → D.nx [some (.ref a), some (.int (n : Int)), some (.ref y), some (.int (i : Int)), some (.int (M : Int)), some (.int (L : Int))] H7) →
          tAsg (tOp (rArL C (spMul C)) (tVar 2) (tMake C (spSI K C B) [] E0 (tCons (tOp (rI0 fun i j => V.int (i + j)) (tVar 5) (tCall spDraw [] E0 (tCons (tVar 0) (tCons (tOp (rI0 fun i j => V.int (i - j)) (tVar 4) (tVar 5)) tNil)))) (tCons (tVar 4) tNil)))) (gName 2) D [some (.ref a), some (.int (n : Int)), some (.ref x), some (.int (i : Int)), some (.int (M : Int)), some (.int (L : Int))] H5 := by
        intro L L0 L1 D k6
        refine ⟨_, rfl, _, rfl, _, rfl, _, rfl, _, rfl, _, _, rfl, rfl, a, _, rfl, p5, by omega, ?_, fun r2 o2 r20 r21 ho2 => ?_⟩
        · exact log_small (b := 60) (by omega) (by decide) (by decide)
        obtain ⟨p6, k6'⟩ := drawn p5 k5 ho2
        have ex6 : (upd H5 a o2) x = some (.ins C dx (shF (lowT (t : Int) (b : Int)) (lowB (t : Int) (b : Int)))) := by rw [upd_ne (p5.nei ex5)]; exact ex5
        generalize (upd H5 a o2) = H6 at p6 k6' ex6 ⊢
        obtain ⟨d2, rfl⟩ := nat_of r20
        refine ⟨(L : Int), (d2 : Int), rfl, rfl, ?_⟩
        obtain ⟨N, hN⟩ : ∃ N : Nat, L + d2 = N := ⟨L + d2, rfl⟩
        have hN1 : 0 < N ∧ N < M := by omega
        refine ⟨_, rfl, ?_⟩
        have m4 : M < 2 ^ 40 := by omega
        have b4 : b < 2 ^ 4000 := pow_lt4 bb (by omega)
        have e40 : (2 : Nat) ^ 40 < 2 ^ 4000 := by decide +kernel
        refine fun y dy hy hd ne => si_ok hy hd ne (a := ((L + d2 : Nat) : Int)) (b := (M : Int)) (by omega) (log_of (i := 40) (by show M < _; exact m4) (by decide) (by decide)) fun H7 s7 ey => ⟨rfl, ?_⟩
        rw [hN] at ey
        have ex7 := s7 _ _ ex6
        refine ⟨x, dx, _, rfl, ex7, .inr ⟨y, dy, _, rfl, ey⟩, ?_⟩
        have bpos : 0 < (b : Int) := by omega
        have Mpos : 0 < (M : Int) := by omega
        refine ⟨x, dx, .ref y, _, _, _, _, rfl, ex7, .inr ⟨y, dy, rfl, ey⟩, low_of bpos (by show t < _; exact Nat.lt_of_le_of_lt tb b4) (by show b < _; exact b4), low_of Mpos (by show N < _; exact Nat.lt_trans (Nat.lt_trans hN1.2 m4) e40) (by show M < _; exact Nat.lt_trans m4 e40), fun z dz H8 s8 ez => ?_⟩
        obtain ⟨u1, u2⟩ := low_prod (S := (t : Int)) (S' := (N : Int)) bpos Mpos
        rw [u1, u2] at ez
        refine k6 z dz (t * N) (b * M) H8 ((k6'.trans (Keep.of s7)).trans (Keep.of s8)) ((p6.same s7).same s8) (Nat.mul_pos t0 hN1.1) ?_ ?_ ez
        · exact Nat.lt_of_lt_of_le (Nat.mul_lt_mul_of_pos_left hN1.2 t0) (Nat.mul_le_mul_right _ tb)
        · rw [Nat.mul_succ, Nat.pow_add]
          exact Nat.mul_le_mul bb (by omega)
      refine ⟨_, rfl, _, _, rfl, rfl, _, rfl, iteB (fun c => ?_) (fun c => ?_)⟩
      · refine ⟨_, _, rfl, rfl, ⟨by decide, by decide, by decide⟩, ?_⟩
        exact step 100000000000 (by decide) (by decide) _ fun y dy t' b' H7 q1 q2 q3 q4 q5 q6 => ⟨_, _, _, y, dy, t', b', rfl, q1, q2, q3, Nat.le_of_lt q4, fun _ => q4, q5, q6⟩
      · exact step 1 (by decide) (by decide) _ fun y dy t' b' H7 q1 q2 q3 q4 q5 q6 => ⟨_, _, _, y, dy, t', b', rfl, q1, q2, q3, Nat.le_of_lt q4, fun _ => q4, q5, q6⟩
    · rintro σ H' ⟨v3, v4, v5, x, dx, t, b, rfl, k4, p4, t0, tb, tlt, bb, ex⟩
      exact ⟨_, rfl, k x dx t b H' k4 p4 t0 (tlt (by omega)) (Nat.le_trans bb (Nat.pow_le_pow_right (by decide) (by omega))) ex⟩
end
end KI
set_option Elab.async false
set_option linter.all false
set_option maxRecDepth 100000
set_option maxHeartbeats 1000000
namespace KI
open PySem L2 SX Tx
theorem sum_set : ∀ {l : List Nat} {i x : Nat}, i < l.length → (l.set i x).sum + l.getD i 0 = l.sum + x
  | [], _, _, h => absurd h (by simp)
  | a :: l, 0, x, _ => by
    show (x + l.sum) + a = a + l.sum + x
    omega
  | a :: l, i + 1, x, h => by
    have := sum_set (l := l) (i := i) (x := x) (by simpa using h)
    show (a + (l.set i x).sum) + l.getD i 0 = a + l.sum + x
    omega
theorem getD_set_ne {l : List Nat} {i j x : Nat} (h : i ≠ j) : (l.set i x).getD j 0 = l.getD j 0 := by
  rw [List.getD_eq_getElem?_getD, List.getD_eq_getElem?_getD, List.getElem?_set_ne h]
def twoW (n i j x y : Nat) : List Nat := ((List.replicate n 0).set i x).set j y
theorem twoW_len {n i j x y : Nat} : (twoW n i j x y).length = n := by unfold twoW; rw [List.length_set, List.length_set, List.length_replicate]
theorem zero_sum : ∀ n : Nat, (List.replicate n 0).sum = 0
  | 0 => rfl
  | n + 1 => by rw [List.replicate_succ, List.sum_cons, zero_sum n]
theorem twoW_sum {n i j x y : Nat} (hi : i < n) (hj : j < n) (ne : i ≠ j) : (twoW n i j x y).sum = x + y := by
  have h1 := sum_set (l := List.replicate n 0) (i := i) (x := x) (by rw [List.length_replicate]; exact hi)
  have h2 := sum_set (l := (List.replicate n 0).set i x) (i := j) (x := y) (by rw [List.length_set, List.length_replicate]; exact hj)
  rw [getD_set_ne ne] at h2
  have z : ∀ k, (List.replicate n 0).getD k 0 = 0 := fun k => by
    rw [List.getD_eq_getElem?_getD, List.getElem?_replicate]
    split <;> rfl
  rw [z, zero_sum] at h1
  rw [z] at h2
  unfold twoW
  omega
theorem twoW_at {n i j x y k : Nat} (ne : i ≠ j) (hk : k < n) : (twoW n i j x y)[k]? = some (if k = j then y else if k = i then x else 0) := by
  unfold twoW
  by_cases e : k = j
  · subst e
    rw [if_pos rfl, List.getElem?_set_self (by rw [List.length_set, List.length_replicate]; exact hk)]
  · rw [if_neg e, List.getElem?_set_ne (Ne.symm e)]
    by_cases e2 : k = i
    · subst e2
      rw [if_pos rfl, List.getElem?_set_self (by rw [List.length_replicate]; exact hk)]
    · rw [if_neg e2, List.getElem?_set_ne (Ne.symm e2), List.getElem?_replicate, if_pos hk]
theorem low_nil {D : Int} (hD : 0 < D) : lowT 0 D = 0 ∧ lowB 0 D = 1 := by
  have := low_whole (i := 0) hD
  rwa [Int.zero_mul] at this
/-- a row with the share t over n at the place i and what is left at the place j -/
theorem row_two {C : Addr} {H : Hp} {N i j t n : Nat} {z y u dz dy du T : Addr} (hi : i < N) (hj : j < N) (ne : i ≠ j) (t0 : 0 < t) (tn : t < n) (nb : n ≤ 10 ^ 156)
    (eT : H T = some (.tup ((((List.replicate N z).set i y).set j u).map V.ref))) (ez : H z = some (.ins C dz (shF 0 1))) (ey : H y = some (.ins C dy (shF (lowT (t : Int) (n : Int)) (lowB (t : Int) (n : Int))))) (eu : H u = some (.ins C du (shF (lowT (((n - t : Nat)) : Int) (n : Int)) (lowB (((n - t : Nat)) : Int) (n : Int))))) :
    RowSh C H N (T, twoW N i j t (n - t)) := by
  have sm : (twoW N i j t (n - t)).sum = n := by rw [twoW_sum hi hj ne]; omega
  refine ⟨_, eT, by rw [List.length_set, List.length_set, List.length_replicate], ⟨twoW_len, by rw [sm]; omega, fun w m => ?_⟩, fun k a ha => ?_⟩
  · have : w ≤ n := by
      obtain ⟨k, hk⟩ := List.mem_iff_getElem?.mp m
      have := (List.getElem?_eq_some_iff.mp hk).1
      rw [twoW_len] at this
      rw [twoW_at ne this] at hk
      have := Option.some.inj hk
      split at this
      · omega
      · split at this <;> omega
    exact Nat.lt_of_le_of_lt (Nat.le_trans this nb) (by decide +kernel)
  · have hk := (List.getElem?_eq_some_iff.mp ha).1
    rw [List.length_set, List.length_set, List.length_replicate] at hk
    have hw := twoW_at (x := t) (y := n - t) ne hk
    show ∃ dx w, (twoW N i j t (n - t))[k]? = some w ∧ H a = some (.ins C dx (shF (lowT (w : Int) ((twoW N i j t (n - t)).sum : Int)) (lowB (w : Int) ((twoW N i j t (n - t)).sum : Int))))
    rw [sm, hw]
    by_cases e : k = j
    · subst e
      rw [List.getElem?_set_self (by rw [List.length_set, List.length_replicate]; exact hk)] at ha
      cases ha
      exact ⟨du, _, by rw [if_pos rfl], eu⟩
    · rw [List.getElem?_set_ne (Ne.symm e)] at ha
      by_cases e2 : k = i
      · subst e2
        rw [List.getElem?_set_self (by rw [List.length_replicate]; exact hk)] at ha
        cases ha
        exact ⟨dy, _, by rw [if_neg e, if_pos rfl], ey⟩
      · rw [List.getElem?_set_ne (Ne.symm e2), List.getElem?_replicate, if_pos hk] at ha
        cases ha
        obtain ⟨q1, q2⟩ := low_nil (D := (n : Int)) (by omega)
        exact ⟨dz, 0, by rw [if_neg e, if_neg e2], by rw [show (((0 : Nat)) : Int) = 0 from rfl, q1, q2]; exact ez⟩
end KI
set_option Elab.async false
set_option linter.all false
set_option maxRecDepth 100000
set_option maxHeartbeats 1000000
namespace KI
open PySem L2 SX Tx
/-- a list of rows of shares -/
def spLongRows (C : Addr) : Sp := fun vs H Q _ => ∃ (a : Addr) (n : Nat), vs = [.ref a, .int (n : Int)] ∧ PoolAt H a ∧ 1 ≤ n ∧ n ≤ 8 ∧
  ∀ (l : Addr) (rs : List (Addr × List Nat)) (H' : Hp), Keep a H H' → PoolAt H' a → H' l = some (.lst (rfs rs)) → (∀ r ∈ rs, RowSh C H' n r) → rs.length = n → Q (.ref l) H'
theorem rep_flat (n : Nat) (z : Addr) : (List.replicate n [V.ref z]).flatten = (List.replicate n z).map V.ref := by
  induction n with
  | zero => rfl
  | succ n ih => rw [List.replicate_succ, List.replicate_succ, List.flatten_cons, ih]; rfl
theorem RowSh.lstU {C D : Addr} {H : Hp} {n : Nat} {r : Addr × List Nat} {ys : List V} {o : HO} (h : RowSh C H n r) (e : H D = some (.lst ys)) : RowSh C (upd H D o) n r := by
  obtain ⟨as, q1, q2, q3, q4⟩ := h
  refine ⟨as, by rw [upd_ne (fun z => by rw [z, e] at q1; cases q1)]; exact q1, q2, q3, fun i a ea => ?_⟩
  obtain ⟨dx, w, u1, u2⟩ := q4 i a ea
  exact ⟨dx, w, u1, by rw [upd_ne (fun z => by rw [z, e] at u2; cases u2)]; exact u2⟩
section
variable {P : Program} {w : World} {K : PySem.W.Frag} {mg : Str → Option Value} {base : Heap} {C CC B : Addr}
abbrev s_lrows : Stmt := top 56
abbrev nLr : List Str := ["_law_pool_here", "_law_size_here", "_law_rows_here", "_law_at", "_law_one", "_law_other", "_law_row", "_law_tops_here"]
theorem sc_lrows : FnScope nLr ["_law_pool_here", "_law_size_here"] (defScope s_lrows) := ⟨rfl, rfl, rfl, by decide +kernel, rfl, by decide +kernel, by decide +kernel⟩
theorem ok_lrows {f : Addr} {fd : FuncData} (F : Fun K "_law_long_rows" "_law_long_rows" s_lrows f fd) (T : Bm mg) (m : MkT P w K mg base C B) (sb : SubT P w K mg base C) (c_draw : Cal P w K mg base 1 "_law_draw" ["_law_pool_here", "_law_many"] spDraw) (c_rows : Cal P w K mg base 4 "_law_rows" ["_law_pool_here", "_law_size_here"] spRowsG) (c_spread : Cal P w K mg base 6 "_law_spread" ["_law_tops_here"] (spSpreadL C)) (c_long : Cal P w K mg base 8 "_law_long" ["_law_pool_here"] (spLong C)) : FnOk P w K mg base CX0 10 f fd ["_law_pool_here", "_law_size_here"] (spLongRows C) := by
  refine F.ok sc_lrows (fun vs H Q E h => ?_) (fun cdv A outer s H vs Q E hr h => ?_)
  · obtain ⟨a, n, rfl, _⟩ := h
    rfl
  · obtain ⟨a, n, rfl, hp, n1, n8, k⟩ := h
    have o := (ArT.op (X := (cxOf CX0 P w K mg base nLr "_law_long_rows" (defScope s_lrows) f cdv A outer s H E).nox) sb (hr.mono (by decide)) (hr.mono (by decide))).toR
    refine ⟨_, (pss_cons (ps_setLc (i := 2) (own := [("_law_tops_here", 7)]) rfl sc_lrows.nd rfl rfl (sw_true rfl rfl rfl (by decide +kernel)) (pi_list (pe_cal c_rows (hr.mono (by decide)) rfl (pa_cons (pv 0) (pa_cons (pv 1) pa_nil)))) (blkOk_by (N := nLr) (sc := defScope s_lrows) (by decide +kernel)) (fun _ _ _ _ _ => (pg_name (i := 7) sc_lrows.nd rfl (Or.inl rfl))) (fun _ _ _ _ _ => pts_nil) (fun _ _ _ _ _ => (pe_cal c_spread (hr.mono (by decide)) rfl (pa_cons (pv 7) pa_nil))))
      (pss_cons (ps_if (PW.pt (pw_and (pt_cmpR op_gt (pv 1) pe_int (nomark _)) (pw_and1 (pt_cmpR op_eq (pe_cal c_draw (hr.mono (by decide)) rfl (pa_cons (pv 0) (pa_cons pe_int pa_nil))) pe_int (nomark _)))))
        (pss_cons (ps_par (i := 3) (j := 4) (by rfl) sc_lrows.nd rfl rfl (by decide) rfl rfl (pa_cons (pe_cal c_draw (hr.mono (by decide)) rfl (pa_cons (pv 0) (pa_cons (pv 1) pa_nil))) (pa_cons (pe_cal c_draw (hr.mono (by decide)) rfl (pa_cons (pv 0) (pa_cons (pv 1) pa_nil))) pa_nil)) (by rfl))
          (pss_cons (ps_set (i := 5) sc_lrows.nd rfl (Or.inl rfl) (pe_op op_modN (pe_callTy call_int1 (by rfl) T.b.n_int (by decide +kernel) (pa_cons (pe_op op_add (pe_op op_add (pv 4) pe_int) (pe_cal c_draw (hr.mono (by decide)) rfl (pa_cons (pv 0) (pa_cons (pe_op op_sub (pv 1) pe_int) pa_nil)))) pa_nil)) (pv 1)))
          (pss_cons (ps_set (i := 6) sc_lrows.nd rfl (Or.inl rfl) (pe_op op_rep (pe_lst (pa_cons (pe_share1 m (hr.mono (by decide)) rfl (pa_cons pe_int pa_nil)) pa_nil)) (pv 1)))
          (pss_cons (ps_asg (pe_cal c_long (hr.mono (by decide)) rfl (pa_cons (pv 0) pa_nil)) (pg_sub (pv 6) (pv 4) set_list))
          (pss_cons (ps_asg (pe_op o (pe_share1 m (hr.mono (by decide)) rfl (pa_cons pe_int pa_nil)) (pe_ix (show IxR _ (rIxL K) from ix_list) (pv 6) (pv 4) (fun _ _ => rfl))) (pg_sub (pv 6) (pv 5) set_list))
          (pss_one (ps_asg (pe_callTy call_tuple_of (by rfl) T.n_tuple (by decide +kernel) (pa_cons (pv 6) pa_nil)) (pg_sub (pv 2) (pv 3) set_list))))))))
        pss_nil)
      (pss_one (ps_ret (pv 2))))), ?_⟩
    refine ⟨_, rfl, _, rfl, a, n, rfl, hp, n1, n8, fun l0 rs0 H1 k1 p1 el0 rw0 lr0 => ?_⟩
    refine ⟨l0, rfl, ⟨_, SqL.of el0⟩, fun D nD => ?_⟩
    refine lc_list (K := K) (a := l0) (xs := rfs rs0) (fun i H' => Same H1 H' ∧ ∃ rs : List (Addr × List Nat), H' D = some (.lst (rfs rs)) ∧ rs.length = i ∧ ∀ r ∈ rs, RowSh C H' n r) ⟨Same.put nD, [], upd_same, rfl, fun _ m => (by cases m)⟩ (fun i H' _ h => SqL.of (h.1 _ _ el0)) ?_ ?_
    · rintro i y H' hy ⟨s1, rs, eD, lr, sh⟩
      obtain ⟨r, hr', rfl⟩ : ∃ r, rs0[i]? = some r ∧ y = .ref r.1 := by
        rw [rfs, List.getElem?_map] at hy
        cases e : rs0[i]? with
        | none => rw [e] at hy; cases hy
        | some r => rw [e] at hy; exact ⟨r, rfl, (Option.some.inj hy).symm⟩
      have il := (List.getElem?_eq_some_iff.mp hr').1
      refine ⟨rfl, yes_of ?_⟩
      refine ⟨_, rfl, r.1, n, r.2, rfl, n8, (rw0.same s1) r (List.mem_of_getElem? hr'), fun t H2 s2 sh2 => ?_⟩
      refine ⟨_, s2 _ _ eD, by rw [rfs_len]; exact small_len (by omega), Same.but (s1.trans s2) nD, rs ++ [(t, r.2)], by rw [upd_same, rfs_snoc], by rw [List.length_append, lr]; rfl, fun q mq => ?_⟩
      rcases List.mem_append.mp mq with mq | mq
      · exact ((sh q mq).same s2).lstU (s2 _ _ eD)
      · rw [List.mem_singleton.mp mq]
        exact sh2.lstU (s2 _ _ eD)
    · rintro H2 ⟨s2, rs, eD, lr, sh⟩
      rw [rfs_len, lr0] at lr
      have k2 := k1.trans (Keep.of (a := a) s2)
      have p2 := p1.same s2
      refine ⟨_, rfl, _, _, rfl, rfl, _, rfl, iteB (fun c => ?_) (fun c => ?_)⟩
      rotate_left
      · exact ⟨_, rfl, k D rs H2 k2 p2 eD sh lr⟩
      have n2 : 1 < n := by have := of_decide_eq_true c; omega
      refine ⟨_, rfl, a, 2, rfl, p2, by decide, by decide, fun r o2 r0 r1 ho2 => ?_⟩
      obtain ⟨p3, k3⟩ := drawn p2 k2 ho2
      have Da : D ≠ a := p2.neR eD
      have eD3 : (upd H2 a o2) D = some (.lst (rfs rs)) := by rw [upd_ne Da]; exact eD
      have sh3 : ∀ r ∈ rs, RowSh C (upd H2 a o2) n r := fun r mr => (sh r mr).keep (Keep.put o2) p2
      generalize (upd H2 a o2) = H3 at p3 k3 eD3 sh3 ⊢
      refine ⟨rfl, _, rfl, iteB (fun c => ?_) (fun c => ?_)⟩
      rotate_left
      · exact ⟨_, rfl, k D rs H3 k3 p3 eD3 sh3 lr⟩
      have ln : ((n : Int)).natAbs.log2 < 9000 := log_small (b := 4) (by show n < _; omega) (by decide) (by decide)
      refine ⟨_, rfl, _, rfl, a, _, rfl, p3, by omega, ln, fun r4 o4 r40 r41 ho4 => ?_⟩
      obtain ⟨p4, k4⟩ := drawn p3 k3 ho4
      have eD4 : (upd H3 a o4) D = some (.lst (rfs rs)) := by rw [upd_ne Da]; exact eD3
      have sh4 : ∀ r ∈ rs, RowSh C (upd H3 a o4) n r := fun r mr => (sh3 r mr).keep (Keep.put o4) p3
      generalize (upd H3 a o4) = H4 at p4 k4 eD4 sh4 ⊢
      refine ⟨_, rfl, _, rfl, a, _, rfl, p4, by omega, ln, fun r5 o5 r50 r51 ho5 => ?_⟩
      obtain ⟨p5, k5⟩ := drawn p4 k4 ho5
      have eD5 : (upd H4 a o5) D = some (.lst (rfs rs)) := by rw [upd_ne Da]; exact eD4
      have sh5 : ∀ r ∈ rs, RowSh C (upd H4 a o5) n r := fun r mr => (sh4 r mr).keep (Keep.put o5) p4
      generalize (upd H4 a o5) = H5 at p5 k5 eD5 sh5 ⊢
      obtain ⟨at_, rfl⟩ := nat_of r40
      obtain ⟨one_, rfl⟩ := nat_of r50
      refine ⟨_, _, rfl, ?_⟩
      refine ⟨_, rfl, _, _, rfl, rfl, ?_⟩
      refine ⟨_, rfl, _, rfl, _, _, rfl, rfl, a, _, rfl, p5, by omega, log_small (b := 4) (by omega) (by decide) (by decide), fun r6 o6 r60 r61 ho6 => ?_⟩
      obtain ⟨p6, k6⟩ := drawn p5 k5 ho6
      have eD6 : (upd H5 a o6) D = some (.lst (rfs rs)) := by rw [upd_ne Da]; exact eD5
      have sh6 : ∀ r ∈ rs, RowSh C (upd H5 a o6) n r := fun r mr => (sh5 r mr).keep (Keep.put o6) p5
      generalize (upd H5 a o6) = H6 at p6 k6 eD6 sh6 ⊢
      obtain ⟨d, rfl⟩ := nat_of r60
      have em : ((one_ : Int) + 1 + (d : Int)).fmod (n : Int) = (((one_ + 1 + d) % n : Nat) : Int) := fmod_nat (one_ + 1 + d) n
      refine ⟨_, _, rfl, rfl, .inl ⟨_, rfl, _, rfl, _, _, rfl, rfl, by omega, ?_⟩⟩
      show gName 5 (V.int (((one_ : Int) + 1 + (d : Int)).fmod (n : Int))) _ _ _
      rw [em]
      have on : (one_ + 1 + d) % n < n := Nat.mod_lt _ (by omega)
      have oo : one_ ≠ (one_ + 1 + d) % n := by
        have h1 : one_ < n := by omega
        have h2 : d < n - 1 := by omega
        rcases Nat.lt_or_ge (one_ + 1 + d) n with h | h
        · rw [Nat.mod_eq_of_lt h]; omega
        · rw [Nat.mod_eq_sub_mod h, Nat.mod_eq_of_lt (by omega)]; omega
      generalize (one_ + 1 + d) % n = ot at on oo
      refine fun z dz hz hd ne => si_ok hz hd ne (a := 0) (b := 1) (by decide) (by decide) fun H7 s7 ez => ⟨rfl, ?_⟩
      rw [(low_int 0).1, (low_int 0).2] at ez
      refine ⟨by show 1 ≤ sizeLine; decide, fun q nq => ?_⟩
      have s8 := Same.put (o := .lst [V.ref z]) nq
      refine ⟨_, rfl, q, (n : Int), [V.ref z], rfl, rfl, upd_same, by omega, by omega, by show 1 * (n : Int).toNat ≤ sizeLine; rw [Int.toNat_natCast, Nat.one_mul]; exact Nat.le_of_lt (small_len (by omega)), fun R nR => ?_⟩
      rw [Int.toNat_natCast]
      rw [rep_flat]
      have s9 := Same.put (o := .lst ((List.replicate n z).map V.ref)) nR
      have s69 := s7.trans (s8.trans s9)
      have ez9 := s9 _ _ (s8 _ _ ez)
      have eR9 : (upd (upd H7 q (.lst [V.ref z])) R (.lst ((List.replicate n z).map V.ref))) R = some (.lst ((List.replicate n z).map V.ref)) := upd_same
      have p9 := p6.same s69
      have k9 := k6.trans (Keep.of (a := a) s69)
      have eD9 := s69 _ _ eD6
      have sh9 : ∀ r ∈ rs, RowSh C (upd (upd H7 q (.lst [V.ref z])) R (.lst ((List.replicate n z).map V.ref))) n r := fun r mr => (sh6 r mr).same s69
      have Ra0 : R ≠ a := new_ne (p6.same (s7.trans s8)) nR
      have hR : H R = none := by
        cases e : H R with
        | none => rfl
        | some v =>
          have := s8 _ _ (s7 _ _ (k6 _ _ e Ra0))
          rw [nR] at this
          cases this
      have hD : H D = none := by
        cases e : H D with
        | none => rfl
        | some v =>
          have := k1 _ _ e Da
          rw [nD] at this
          cases this
      have RD : R ≠ D := fun e => by
        have := s8 _ _ (s7 _ _ eD6)
        rw [← e, nR] at this
        cases this
      generalize (upd (upd H7 q (.lst [V.ref z])) R (.lst ((List.replicate n z).map V.ref))) = H9 at ez9 eR9 p9 k9 eD9 sh9 ⊢
      have Ra : R ≠ a := Ra0
      refine ⟨_, rfl, a, rfl, p9, fun y dy t b H10 k10 p10 t0 tb bb ey => ?_⟩
      have ez10 := k10 _ _ ez9 (p9.nei ez9)
      have eD10 := k10 _ _ eD9 Da
      have eR10 := k10 _ _ eR9 Ra
      have sh10 : ∀ r ∈ rs, RowSh C H10 n r := fun r mr => (sh9 r mr).keep k10 p9
      have k0 := k9.trans k10
      refine ⟨_, rfl, _, rfl, R, _, _, one_, rfl, rfl, eR10, ixN_ok (by rw [List.length_map, List.length_replicate]; omega), ?_⟩
      have eR11 : (upd H10 R (.lst (((List.replicate n z).map V.ref).set one_ (.ref y)))) R = some (.lst (((List.replicate n z).set one_ y).map V.ref)) := by rw [upd_same, List.map_set]
      have ins11 : ∀ {c dc : Addr} {fs : List (Str × V)}, H10 c = some (.ins C dc fs) → (upd H10 R (.lst (((List.replicate n z).map V.ref).set one_ (.ref y)))) c = some (.ins C dc fs) := fun e => by rw [upd_ne (fun q => by rw [q, eR10] at e; cases e)]; exact e
      have ez11 := ins11 ez10
      have ey11 := ins11 ey
      have eD11 : (upd H10 R (.lst (((List.replicate n z).map V.ref).set one_ (.ref y)))) D = some (.lst (rfs rs)) := by rw [upd_ne (Ne.symm RD)]; exact eD10
      have sh11 : ∀ r ∈ rs, RowSh C (upd H10 R (.lst (((List.replicate n z).map V.ref).set one_ (.ref y)))) n r := fun r mr => (sh10 r mr).lstU eR10
      have k11 : Keep a H (upd H10 R (.lst (((List.replicate n z).map V.ref).set one_ (.ref y)))) := k0.but hR
      have p11 : PoolAt (upd H10 R (.lst (((List.replicate n z).map V.ref).set one_ (.ref y)))) a := p10.other (Ne.symm Ra)
      generalize (upd H10 R (.lst (((List.replicate n z).map V.ref).set one_ (.ref y)))) = H11 at eR11 ez11 ey11 eD11 sh11 k11 p11 ⊢
      refine fun x dx hx hd2 ne2 => si_ok hx hd2 ne2 (a := 1) (b := 1) (by decide) (by decide) fun H12 s12 ex => ⟨rfl, ?_⟩
      have eR12 := s12 _ _ eR11
      have ey12 := s12 _ _ ey11
      have g1 : ((List.replicate n z).set one_ y)[one_]? = some y := List.getElem?_set_self (by rw [List.length_replicate]; omega)
      refine ⟨_, rfl, _, rfl, R, _, (one_ : Int), .ref y, rfl, rfl, SqL.of eR12, atI_nat (by rw [List.getElem?_map, g1]; rfl), ?_⟩
      have b0 : 0 < (b : Int) := by omega
      have b4 : b < 2 ^ 4000 := Nat.lt_of_le_of_lt bb (by decide +kernel)
      have lx : Low (lowT (b : Int) (b : Int)) (lowB (b : Int) (b : Int)) := low_of b0 (by show b < _; exact b4) (by show b < _; exact b4)
      have ly : Low (lowT (t : Int) (b : Int)) (lowB (t : Int) (b : Int)) := low_of b0 (by show t < _; exact Nat.lt_trans tb b4) (by show b < _; exact b4)
      obtain ⟨o1, o2⟩ := (low_one_iff (S := (b : Int)) b0).mpr rfl
      rw [(low_int 1).1, (low_int 1).2, ← o1] at ex
      have ex' : H12 x = some (.ins C dx (shF (lowT (b : Int) (b : Int)) (lowB (b : Int) (b : Int)))) := by rw [ex, o2, o1]
      refine .inl ⟨x, dx, _, rfl, ex', .inr ⟨y, dy, _, rfl, ey12⟩, x, dx, .ref y, _, _, _, _, rfl, ex', .inr ⟨y, dy, rfl, ey12⟩, lx, ly, fun u du H13 s13 eu => ?_⟩
      obtain ⟨d1, d2⟩ := low_diff (S := (b : Int)) (S' := (t : Int)) b0
      rw [d1, d2, show ((b : Int) - (t : Int)) = ((b - t : Nat) : Int) by omega] at eu
      have s1213 := s12.trans s13
      have eR13 := s1213 _ _ eR11
      refine ⟨_, rfl, _, rfl, R, _, _, ot, rfl, rfl, eR13, ixN_ok (by rw [List.length_map, List.length_set, List.length_replicate]; omega), ?_⟩
      have eR14 : (upd H13 R (.lst ((((List.replicate n z).set one_ y).map V.ref).set ot (.ref u)))) R = some (.lst ((((List.replicate n z).set one_ y).set ot u).map V.ref)) := by rw [upd_same, List.map_set (l := (List.replicate n z).set one_ y)]
      have ins14 : ∀ {c dc : Addr} {fs : List (Str × V)}, H13 c = some (.ins C dc fs) → (upd H13 R (.lst ((((List.replicate n z).set one_ y).map V.ref).set ot (.ref u)))) c = some (.ins C dc fs) := fun e => by rw [upd_ne (fun q => by rw [q, eR13] at e; cases e)]; exact e
      have ez14 := ins14 (s1213 _ _ ez11)
      have ey14 := ins14 (s1213 _ _ ey11)
      have eu14 := ins14 eu
      have eD14 : (upd H13 R (.lst ((((List.replicate n z).set one_ y).map V.ref).set ot (.ref u)))) D = some (.lst (rfs rs)) := by rw [upd_ne (Ne.symm RD)]; exact s1213 _ _ eD11
      have sh14 : ∀ r ∈ rs, RowSh C (upd H13 R (.lst ((((List.replicate n z).set one_ y).map V.ref).set ot (.ref u)))) n r := fun r mr => ((sh11 r mr).same s1213).lstU eR13
      have k14 : Keep a H (upd H13 R (.lst ((((List.replicate n z).set one_ y).map V.ref).set ot (.ref u)))) := (k11.trans (Keep.of s1213)).but hR
      have p14 : PoolAt (upd H13 R (.lst ((((List.replicate n z).set one_ y).map V.ref).set ot (.ref u)))) a := (p11.same s1213).other (Ne.symm Ra)
      generalize (upd H13 R (.lst ((((List.replicate n z).set one_ y).map V.ref).set ot (.ref u)))) = H14 at eR14 ez14 ey14 eu14 eD14 sh14 k14 p14 ⊢
      refine ⟨_, rfl, R, _, rfl, .inl ⟨SqL.of eR14, fun W nW => ?_⟩⟩
      have s15 := Same.put (o := .tup ((((List.replicate n z).set one_ y).set ot u).map V.ref)) nW
      have eW : (upd H14 W (.tup ((((List.replicate n z).set one_ y).set ot u).map V.ref))) W = some (.tup ((((List.replicate n z).set one_ y).set ot u).map V.ref)) := upd_same
      have row := row_two (C := C) (T := W) (by omega : one_ < n) on oo t0 tb bb eW (s15 _ _ ez14) (s15 _ _ ey14) (s15 _ _ eu14)
      have eD15 := s15 _ _ eD14
      refine ⟨_, rfl, _, rfl, D, _, _, at_, rfl, rfl, eD15, ixN_ok (by rw [rfs_len]; omega), ?_⟩
      refine ⟨_, rfl, k D (rs.set at_ (W, twoW n one_ ot t (b - t))) _ ((k14.trans (Keep.of s15)).but hD) ((p14.same s15).other (Ne.symm Da)) (by rw [upd_same]; show _ = some (HO.lst ((rs.set at_ _).map _)); rw [List.map_set]) (fun r mr => ?_) (by rw [List.length_set]; exact lr)⟩
      rcases List.mem_or_eq_of_mem_set mr with mr | rfl
      · exact ((sh14 r mr).same s15).lstU eD15
      · exact row.lstU eD15
end
end KI
set_option Elab.async false
set_option linter.all false
set_option maxRecDepth 100000
set_option maxHeartbeats 1000000
namespace KI
open PySem L2 SX Tx
/-! ### one text, one chain -/
/-- a list cut at the first sign c -/
theorem cut_at {c : Nat} : ∀ {p q r t : List Nat}, c ∉ p → c ∉ q → p ++ c :: r = q ++ c :: t → p = q ∧ r = t
  | [], [], r, t, _, _, e => by
    injection e with _ e
    exact ⟨rfl, e⟩
  | [], y :: q, r, t, _, h, e => by
    injection e with e _
    exact absurd (e ▸ List.mem_cons_self) h
  | x :: p, [], r, t, h, _, e => by
    injection e with e _
    exact absurd (e ▸ List.mem_cons_self) h
  | x :: p, y :: q, r, t, h1, h2, e => by
    injection e with e1 e2
    obtain ⟨a, b⟩ := cut_at (fun m => h1 (List.mem_cons_of_mem _ m)) (fun m => h2 (List.mem_cons_of_mem _ m)) e2
    exact ⟨by rw [e1, a], b⟩
theorem close_inj : ∀ {ps qs : List (List Nat)}, (∀ p ∈ ps, 10 ∉ p) → (∀ q ∈ qs, 10 ∉ q) → closeL ps = closeL qs → ps = qs
  | [], [], _, _, _ => rfl
  | [], q :: qs, _, _, e => by
    have e : ([] : List Nat) = (q ++ [10]) ++ closeL qs := e
    have := congrArg List.length e
    simp at this
  | p :: ps, [], _, _, e => by
    have e : (p ++ [10]) ++ closeL ps = ([] : List Nat) := e
    have := congrArg List.length e
    simp at this
  | p :: ps, q :: qs, h1, h2, e => by
    have e : (p ++ [10]) ++ closeL ps = (q ++ [10]) ++ closeL qs := e
    rw [List.append_assoc, List.append_assoc] at e
    obtain ⟨a, b⟩ := cut_at (h1 p List.mem_cons_self) (h2 q List.mem_cons_self) e
    rw [a, close_inj (fun x m => h1 x (List.mem_cons_of_mem _ m)) (fun x m => h2 x (List.mem_cons_of_mem _ m)) b]
theorem join_inj : ∀ {ps qs : List (List Nat)}, ps ≠ [] → qs ≠ [] → (∀ p ∈ ps, 32 ∉ p) → (∀ q ∈ qs, 32 ∉ q) → TL.joinL [32] ps = TL.joinL [32] qs → ps = qs
  | [], _, h, _, _, _, _ => absurd rfl h
  | _ :: _, [], _, h, _, _, _ => absurd rfl h
  | [p], [q], _, _, _, _, e => by
    have e : p = q := e
    rw [e]
  | [p], q :: q2 :: qs, _, _, h1, _, e => by
    have e : p = q ++ 32 :: TL.joinL [32] (q2 :: qs) := e
    exact absurd (by rw [e]; simp) (h1 p List.mem_cons_self)
  | p :: p2 :: ps, [q], _, _, _, h2, e => by
    have e : p ++ 32 :: TL.joinL [32] (p2 :: ps) = q := e
    exact absurd (by rw [← e]; simp) (h2 q List.mem_cons_self)
  | p :: p2 :: ps, q :: q2 :: qs, _, _, h1, h2, e => by
    have e : p ++ 32 :: TL.joinL [32] (p2 :: ps) = q ++ 32 :: TL.joinL [32] (q2 :: qs) := e
    obtain ⟨a, b⟩ := cut_at (h1 p List.mem_cons_self) (h2 q List.mem_cons_self) e
    rw [a, join_inj (fun h => by cases h) (fun h => by cases h) (fun x m => h1 x (List.mem_cons_of_mem _ m)) (fun x m => h2 x (List.mem_cons_of_mem _ m)) b]
theorem dg_inj : ∀ {m n : Nat}, dg m = dg n → m = n := by
  intro m
  induction m using Nat.strongRecOn with
  | ind m ih =>
    intro n e
    rcases Nat.lt_or_ge m 10 with hm | hm <;> rcases Nat.lt_or_ge n 10 with hn | hn
    · rw [dg_small hm, dg_small hn] at e
      injection e with e _
      omega
    · rw [dg_small hm, dg_big hn] at e
      have := congrArg List.length e
      have h0 := dg_ne (n / 10)
      cases h : dg (n / 10) with
      | nil => exact absurd h h0
      | cons a l => rw [h] at this; simp at this
    · rw [dg_big hm, dg_small hn] at e
      have := congrArg List.length e
      have h0 := dg_ne (m / 10)
      cases h : dg (m / 10) with
      | nil => exact absurd h h0
      | cons a l => rw [h] at this; simp at this
    · rw [dg_big hm, dg_big hn] at e
      obtain ⟨e1, e2⟩ := List.append_inj' e rfl
      have := ih (m / 10) (by omega) e1
      injection e2 with e2 _
      omega
theorem shL_inj {t n t' n' : Nat} (e : shL t n = shL t' n') : t = t' ∧ n = n' := by
  unfold shL at e
  split at e <;> split at e
  · rename_i h1 h2
    exact ⟨dg_inj e, by rw [h1, h2]⟩
  · exact absurd (by rw [e]; simp) (slash_free t)
  · exact absurd (by rw [← e]; simp) (slash_free t')
  · obtain ⟨a, b⟩ := cut_at (slash_free t) (slash_free t') e
    exact ⟨dg_inj a, dg_inj b⟩
theorem words_low {n n' : Nat} {ws vs : List Nat} (h : Tpg n ws) (h' : Tpg n' vs) (e : wordsL ws = wordsL vs) : lowR ws = lowR vs := by
  refine List.ext_getElem? fun i => ?_
  have ei : (wordsL ws)[i]? = (wordsL vs)[i]? := by rw [e]
  unfold wordsL at ei
  unfold lowR
  rw [List.getElem?_map, List.getElem?_map] at ei ⊢
  cases e1 : ws[i]? with
  | none =>
    cases e2 : vs[i]? with
    | none => rfl
    | some y => rw [e1, e2] at ei; cases ei
  | some x =>
    cases e2 : vs[i]? with
    | none => rw [e1, e2] at ei; cases ei
    | some y =>
      rw [e1, e2] at ei
      obtain ⟨a, b⟩ := shL_inj (Option.some.inj ei)
      obtain ⟨x1, x2⟩ := low_nat (w := x) h.2.1
      obtain ⟨y1, y2⟩ := low_nat (w := y) h'.2.1
      show some (lowT (x : Int) (ws.sum : Int), lowB (x : Int) (ws.sum : Int)) = some (lowT (y : Int) (vs.sum : Int), lowB (y : Int) (vs.sum : Int))
      rw [x1, x2, y1, y2, a, b]
theorem low_words {ws vs : List Nat} (e : lowR ws = lowR vs) : wordsL ws = wordsL vs := by
  have f : ∀ ws : List Nat, wordsL ws = (lowR ws).map fun p => shL p.1.toNat p.2.toNat := fun ws => by
    unfold wordsL lowR
    rw [List.map_map]
    rfl
  rw [f, f, e]
theorem line_inj {n n' : Nat} {x y : Str} {ws vs : List Nat} (hx : Nam x) (hy : Nam y) (h : Tpg n ws) (h' : Tpg n' vs) (n1 : 1 ≤ n) (n1' : 1 ≤ n') (e : lineL x ws = lineL y vs) : x = y ∧ lowR ws = lowR vs := by
  have no : ∀ {x : Str}, Nam x → 58 ∉ x.cps.toList := fun hx m => by have := hx.2.2 58 m; omega
  obtain ⟨a, b⟩ := cut_at (no hx) (no hy) e
  have ex : x = y := by rw [← S_tl x, ← S_tl y, a]
  injection b with _ b
  have ne : ∀ {n : Nat} {ws : List Nat}, Tpg n ws → 1 ≤ n → wordsL ws ≠ [] := fun h n1 z => by
    have := congrArg List.length z
    unfold wordsL at this
    rw [List.length_map, h.1] at this
    simp at this
    omega
  have fr : ∀ (ws : List Nat), ∀ p ∈ wordsL ws, 32 ∉ p := fun ws p m => by
    obtain ⟨w, _, rfl⟩ := List.mem_map.mp m
    exact blank_free _ _
  exact ⟨ex, words_low h h' (join_inj (ne h n1) (ne h' n1') (fr ws) (fr vs) b)⟩
end KI
set_option Elab.async false
set_option linter.all false
set_option maxRecDepth 100000
set_option maxHeartbeats 1000000
namespace KI
open PySem L2 SX Tx
theorem S_inj {a b : List Nat} (e : S a = S b) : a = b := by
  have := congrArg (fun z : Str => z.cps.toList) e
  exact this
theorem lines_free {n : Nat} {ls : List Str} {rws : List (List Nat)} (hl : Lbs n ls) : ∀ p ∈ linesL ls rws, 10 ∉ p := fun p m h => by
  obtain ⟨x, ws, mx, _, rfl⟩ := linesL_mem m
  exact line_nl (hl.2 x mx) h
/-- a text with one line changed -/
theorem text_eq {n : Nat} {ls ls' : List Str} {rws rws' : List (List Nat)} (n1 : 1 ≤ n) (hl : Lbs n ls) (hl' : Lbs n ls') (lr : rws.length = n) (lr' : rws'.length = n) (h : ∀ ws ∈ rws, Tpg n ws) (h' : ∀ ws ∈ rws', Tpg n ws) : S (textL ls rws) = S (textL ls' rws') ↔ ls = ls' ∧ lowRs rws = lowRs rws' := by
  constructor
  · intro e
    have e := close_inj (lines_free hl) (lines_free hl') (S_inj e)
    have at_ : ∀ i, i < n → ls[i]? = ls'[i]? ∧ (lowRs rws)[i]? = (lowRs rws')[i]? := fun i hi => by
      have ei : (linesL ls rws)[i]? = (linesL ls' rws')[i]? := by rw [e]
      unfold linesL at ei
      rw [List.getElem?_zipWith, List.getElem?_zipWith] at ei
      have a1 : ls[i]? = some (ls[i]'(by have := hl.1; omega)) := List.getElem?_eq_getElem _
      have a2 : ls'[i]? = some (ls'[i]'(by have := hl'.1; omega)) := List.getElem?_eq_getElem _
      have a3 : rws[i]? = some (rws[i]'(by omega)) := List.getElem?_eq_getElem _
      have a4 : rws'[i]? = some (rws'[i]'(by omega)) := List.getElem?_eq_getElem _
      rw [a1, a2, a3, a4] at ei
      obtain ⟨u1, u2⟩ := line_inj (hl.2 _ (List.mem_of_getElem? a1)) (hl'.2 _ (List.mem_of_getElem? a2)) (h _ (List.mem_of_getElem? a3)) (h' _ (List.mem_of_getElem? a4)) n1 n1 (Option.some.inj ei)
      refine ⟨by rw [a1, a2, u1], ?_⟩
      unfold lowRs
      rw [List.getElem?_map, List.getElem?_map, a3, a4]
      exact congrArg some u2
    constructor
    · refine List.ext_getElem? fun i => ?_
      rcases Nat.lt_or_ge i n with hi | hi
      · exact (at_ i hi).1
      · rw [List.getElem?_eq_none (by have := hl.1; omega), List.getElem?_eq_none (by have := hl'.1; omega)]
    · refine List.ext_getElem? fun i => ?_
      rcases Nat.lt_or_ge i n with hi | hi
      · exact (at_ i hi).2
      · rw [List.getElem?_eq_none (by unfold lowRs; rw [List.length_map]; omega), List.getElem?_eq_none (by unfold lowRs; rw [List.length_map]; omega)]
  · rintro ⟨rfl, e⟩
    have w : rws.map wordsL = rws'.map wordsL := by
      refine List.ext_getElem? fun i => ?_
      have ei : (lowRs rws)[i]? = (lowRs rws')[i]? := by rw [e]
      unfold lowRs at ei
      rw [List.getElem?_map, List.getElem?_map] at ei ⊢
      cases e1 : rws[i]? with
      | none =>
        cases e2 : rws'[i]? with
        | none => rfl
        | some y => rw [e1, e2] at ei; cases ei
      | some x =>
        cases e2 : rws'[i]? with
        | none => rw [e1, e2] at ei; cases ei
        | some y =>
          rw [e1, e2] at ei
          exact congrArg some (low_words (Option.some.inj ei))
    have f : ∀ rws : List (List Nat), linesL ls rws = List.zipWith (fun x q => x.cps.toList ++ (58 :: 32 :: TL.joinL [32] q)) ls (rws.map wordsL) := fun rws => by
      rw [List.zipWith_map_right]
      rfl
    unfold textL
    rw [f, f, w]
theorem set_ne_of {α : Type} {l : List α} {i : Nat} {x : α} (hi : i < l.length) (h : x ∉ l) : l.set i x ≠ l := fun e => h (by
  have := List.mem_set (l := l) (i := i) hi x
  rwa [e] at this)
theorem lowRs_set {rws : List (List Nat)} {i : Nat} {ws vs : List Nat} (e : rws[i]? = some vs) : lowRs (rws.set i ws) = lowRs rws ↔ lowR ws = lowR vs := by
  have hi := (List.getElem?_eq_some_iff.mp e).1
  unfold lowRs
  rw [List.map_set]
  constructor
  · intro q
    have q2 : ((rws.map lowR).set i (lowR ws))[i]? = (rws.map lowR)[i]? := by rw [q]
    rw [List.getElem?_set_self (by rw [List.length_map]; exact hi), List.getElem?_map, e] at q2
    exact Option.some.inj q2
  · intro q
    refine List.ext_getElem? fun j => ?_
    by_cases c : i = j
    · subst c
      rw [List.getElem?_set_self (by rw [List.length_map]; exact hi), List.getElem?_map, e, q]
      rfl
    · rw [List.getElem?_set_ne c]
end KI
set_option Elab.async false
set_option linter.all false
set_option maxRecDepth 100000
set_option maxHeartbeats 1000000
namespace KI
open PySem L2 SX Tx
/-! ### the law -/
def spLaw (K : PySem.W.Frag) : Sp := fun vs H Q _ => ∃ (a : Addr) (ns : List Int), vs = [.ref a] ∧ SqL K H a (ns.map V.int) ∧ ns.length ≤ 63 ∧ ∀ H', Q (.bl true) H'
structure LawT (P : Program) (w : World) (K : PySem.W.Frag) (mg : Str → Option Value) (base : Heap) (C CC B : Addr) : Prop where
  T : Bm mg
  t : ChT K mg CC
  m : MkC P w K mg base C CC
  wr : WrT P w K mg base C CC
  wl : WlT P w K mg base C CC
  eq : EqT P w K mg base C
  ce : EqCT P w K mg base C CC
  pool : Cal P w K mg base 1 "_law_pool" ["_law_script"] (spPool K)
  draw : Cal P w K mg base 1 "_law_draw" ["_law_pool_here", "_law_many"] spDraw
  size : Cal P w K mg base 2 "_law_size" ["_law_pool_here", "_law_most"] spSize
  name : Cal P w K mg base 2 "_law_name" ["_law_pool_here", "_law_taken"] spName
  tops : Cal P w K mg base 2 "_law_tops" ["_law_pool_here", "_law_size_here"] spTops
  spread : Cal P w K mg base 6 "_law_spread" ["_law_tops_here"] (spSpreadL C)
  rows : Cal P w K mg base 10 "_law_long_rows" ["_law_pool_here", "_law_size_here"] (spLongRows C)
  labels : Cal P w K mg base 3 "_law_labels" ["_law_pool_here", "_law_size_here"] spLabels
  written : Cal P w K mg base 6 "written" ["chain"] (spWritten C CC)
  text : Cal P w K mg base 2 "_law_text" ["_law_rows_here", "_law_labels_here"] (spText C)
  long : Cal P w K mg base 1 "_law_too_long" ["_law_rows_here"] (spTooLong C)
  read : Cal P w K mg base 15 "_law_read" ["_law_text_here"] (spReadL C CC)
  same : Cal P w K mg base 1 "_law_same" ["_law_one", "_law_other"] spSameI
  isch : Cal P w K mg base 6 "_law_is_chain" ["_law_chain", "_law_rows_here", "_law_labels_here"] (spIsChain C CC)
section
variable {P : Program} {w : World} {K : PySem.W.Frag} {mg : Str → Option Value} {base : Heap} {C CC B : Addr}
abbrev s_law : Stmt := top 62
abbrev nLw : List Str := ["_law_script", "_law_pool_here", "_law_size_here", "_law_rows_here", "_law_labels_here", "_law_chain", "_law_text_here", "_law_long_here", "_law_told", "_law_at", "_law_other", "_law_row", "_law_moved"]
theorem sc_law : FnScope nLw ["_law_script"] (defScope s_law) := ⟨rfl, rfl, rfl, by decide +kernel, rfl, by decide +kernel, by decide +kernel⟩
abbrev XLw (P : Program) (w : World) (K : PySem.W.Frag) (mg : Str → Option Value) (base : Heap) (f : Addr) (cdv : Value) (A : Around) (outer : List Env) (s : Shared) (H : Hp) (E : XK) : Cx :=
  (cxOf CX0 P w K mg base nLw "law" (defScope s_law) f cdv A outer s H E).nox
theorem segLw13 {fa : Addr} {cdv : Value} {A : Around} {outer : List Env} {s : Shared} {H : Hp} {E : XK} {Q : VK} (L : LawT P w K mg base C CC B) (hr : Room 16 (XLw P w K mg base fa cdv A outer s H E).A) (k : ∀ H', Q (.bl true) H') :
    ∃ u, PSs (XLw P w K mg base fa cdv A outer s H E) ((defBody s_law).drop 13) u ∧ ∀ (v0 v4 v7 v8 v10 : Option V) (p o l : Addr) (n st : Nat) (rs : List (Addr × List Nat)) (ls : List Str) (G : Hp), 1 ≤ n → n ≤ 8 → st < n → PoolAt G p → IsCh C CC G o n (rs.map (·.2)) ls → G l = some (.lst (rfs rs)) → (∀ r ∈ rs, RowSh C G n r) → rs.length = n →
      u { nx := fun _ H' => Q .non H', rt := Q } [v0, some (.ref p), some (.int (n : Int)), some (.ref l), v4, some (.ref o), some (.str (S (textL ls (rs.map (·.2))))), v7, v8, some (.int (st : Int)), v10, none, none] G := by
  obtain ⟨e1, ed1, O, Ge, be⟩ := L.eq.ex
  obtain ⟨g, gd, M, Gw, bw⟩ := L.wr.ex
  refine ⟨_, (pss_cons (ps_set (i := 11) sc_law.nd rfl (Or.inl rfl) (pe_cal L.spread (hr.mono (by decide)) rfl (pa_cons (pe_cal L.tops (hr.mono (by decide)) rfl (pa_cons (pv 1) (pa_cons (pv 2) pa_nil))) pa_nil)))
    (pss_cons (ps_set (i := 12) sc_law.nd rfl (Or.inl rfl) (pe_meth (pl := _) (pv 5) L.t.it.cl M Gw (hr.mono (by decide)) bw .nil pass0 (pa_cons (pv 9) (pa_cons (pv 11) pa_nil))))
    (pss_one (ps_ret (pe_and (pe_cmpR op_eq (pe_cmpR op_eq (pe_cal L.written (hr.mono (by decide)) rfl (pa_cons (pv 12) pa_nil)) (pv 6) (nomark _)) (pe_cmpR (op_eqTup (by exact hr.units0) (op_ownB (R := EqS K C) is_eq Ge O be pass0 (hr.mono (show 4 ≤ 16 by decide)).in1)) (pv 11) (pe_ix (show IxR _ (rIxL K) from ix_list) (pv 3) (pv 9) (fun _ _ => rfl)) (nomark _)) (nomark _)) (pe_one (pe_cmpR op_eq (pe_cal L.written (hr.mono (by decide)) rfl (pa_cons (pv 5) pa_nil)) (pv 6) (nomark _)))))))), ?_⟩
  intro v0 v4 v7 v8 v10 p o l n st rs ls G n1 n8 hs hp ch el rw_ lr
  have hl : Lbs n ls := by obtain ⟨_, _, _, _, _, _, _, _, _, _, h7⟩ := ch; exact h7
  have tg : ∀ ws ∈ rs.map (·.2), Tpg n ws := fun ws m => by
    obtain ⟨r, mr, rfl⟩ := List.mem_map.mp m
    obtain ⟨_, _, _, g3, _⟩ := rw_ r mr
    exact g3
  refine ⟨_, rfl, _, rfl, p, n, rfl, hp, n1, n8, fun t1 ws1 H1 k1 p1 et1 tp1 => ?_⟩
  have ch1 := ch.keep k1 hp
  have el1 := k1 _ _ el (hp.neR el)
  have rw1 : ∀ r ∈ rs, RowSh C H1 n r := fun r mr => (rw_ r mr).keep k1 hp
  refine ⟨t1, n, ws1, rfl, n8, ⟨et1, tp1⟩, fun b H2 s2 sh => ?_⟩
  have ch2 := ch1.same s2
  obtain ⟨dx, T0, lb, rs2, h1, h2, h3, h4, h5, h6, h7⟩ := id ch2
  refine ⟨_, rfl, o, dx, _, rfl, h1, chF_none _ _ _ (by decide +kernel) (by decide +kernel) (by decide +kernel), _, rfl, _, rfl, o, b, n, _, ls, st, ws1, rfl, n8, ch2, hs, sh.inn, fun x H3 s3 ch3 => ?_⟩
  have s23 := s2.trans s3
  refine ⟨_, rfl, x, n, _, ls, rfl, n8, ch3, fun H4 s4 => ?_⟩
  refine ⟨_, rfl, rfl, ?_⟩
  have s24 := s23.trans s4
  have gr : rs[st]? = some (rs[st]'(by omega)) := List.getElem?_eq_getElem (by omega)
  have mr := List.mem_of_getElem? gr
  generalize (rs[st]'(by omega)) = r at gr mr
  refine ⟨_, rfl, _, rfl, _, rfl, l, _, (st : Int), .ref r.1, rfl, rfl, SqL.of (s24 _ _ el1), atI_nat (by rw [rfs, List.getElem?_map, gr]; rfl), ?_⟩
  obtain ⟨a, b', cs, ds, e, ea, eb, q1, q2, q3, q4, _⟩ := (rows_eq (K := K) (sh.same (s3.trans s4)) ((rw1 r mr).same s24)).2
  refine ⟨a, b', cs, ds, e, ea, eb, q1, q2, q3, ?_⟩
  rw [V.bl.inj q4]
  have key : decide (V.str (S (textL ls ((rs.map (·.2)).set st ws1))) = V.str (S (textL ls (rs.map (·.2))))) = decide (lowR ws1 = lowR r.2) := by
    rw [decide_eq_decide, V.str.injEq, text_eq n1 hl hl (by rw [List.length_set, List.length_map]; exact lr) (by rw [List.length_map]; exact lr) (fun ws m => ?_) tg, lowRs_set (vs := r.2) (by rw [List.getElem?_map, gr]; rfl)]
    · exact ⟨fun h => h.2, fun h => ⟨rfl, h⟩⟩
    · rcases List.mem_or_eq_of_mem_set m with m | rfl
      · exact tg ws m
      · exact tp1.g
  refine ⟨rfl, _, rfl, iteTe (decide_eq_true (by rw [key])) ?_⟩
  refine ⟨_, rfl, o, n, _, ls, rfl, n8, (ch2.same s3).same s4, fun H5 s5 => ?_⟩
  refine ⟨_, rfl, rfl, ?_⟩
  rw [decide_eq_true rfl]
  exact k _
theorem same_ch (rws : List (List Nat)) (ls : List Str) : sameCh rws rws ls ls = true := by
  unfold sameCh
  rw [decide_eq_true rfl, decide_eq_true rfl]
  rfl
theorem own_ch {K : PySem.W.Frag} {C CC : Addr} {H : Hp} {o o' : Addr} {n : Nat} {rws : List (List Nat)} {ls : List Str} {Q : V → Hp → Prop} (op : CmpOp) (n8 : n ≤ 8) (h : IsCh C CC H o n rws ls) (h' : IsCh C CC H o' n rws ls) (q : Q (.bl (OC.turn op true)) H) : rOwnB K CC (EqC C CC) op (.ref o) (.ref o') H Q := by
  obtain ⟨dx, T0, lb, rs, h1, _⟩ := id h
  obtain ⟨dy, T1, lb1, rs1, g1, _⟩ := id h'
  exact ⟨true, .inl ⟨o, dx, _, rfl, h1, ⟨o', n, n, rws, rws, ls, ls, rfl, n8, n8, h, h', fun _ => ⟨rfl, rfl⟩, (same_ch rws ls).symm⟩, .inr ⟨o', dy, _, rfl, g1⟩⟩, q⟩
theorem segLw10 {fa : Addr} {cdv : Value} {A : Around} {outer : List Env} {s : Shared} {H : Hp} {E : XK} {Q : VK} (L : LawT P w K mg base C CC B) (hr : Room 16 (XLw P w K mg base fa cdv A outer s H E).A) (k : ∀ H', Q (.bl true) H') :
    ∃ u, PSs (XLw P w K mg base fa cdv A outer s H E) ((defBody s_law).drop 10) u ∧ ∀ (v0 v7 v8 : Option V) (p o l lb : Addr) (n : Nat) (rs : List (Addr × List Nat)) (ls : List Str) (G : Hp), 1 ≤ n → n ≤ 8 → PoolAt G p → IsCh C CC G o n (rs.map (·.2)) ls → G l = some (.lst (rfs rs)) → G lb = some (.tup (sV ls)) → (∀ r ∈ rs, RowSh C G n r) → rs.length = n → (∀ r ∈ rs, rowOk r.2 = true) →
      u { nx := fun _ H' => Q .non H', rt := Q } [v0, some (.ref p), some (.int (n : Int)), some (.ref l), some (.ref lb), some (.ref o), some (.str (S (textL ls (rs.map (·.2))))), v7, v8, none, none, none, none] G := by
  obtain ⟨u, hu, qu⟩ := segLw13 (fa := fa) (cdv := cdv) (A := A) (outer := outer) (s := s) (H := H) (E := E) L hr k
  obtain ⟨e1, ed1, O, Ge, be⟩ := L.ce.ex
  obtain ⟨g, gd, M, Gw, bw⟩ := L.wl.ex
  refine ⟨_, (pss_cons (ps_set (i := 9) sc_law.nd rfl (Or.inl rfl) (pe_cal L.draw (hr.mono (by decide)) rfl (pa_cons (pv 1) (pa_cons (pv 2) pa_nil))))
    (pss_cons (ps_set (i := 10) sc_law.nd rfl (Or.inl rfl) (pe_meth (pl := _) (pv 5) L.t.it.cl M Gw (hr.mono (by decide)) bw .nil pass0 (pa_cons (pv 9) (pa_cons (pe_cal L.name (hr.mono (by decide)) rfl (pa_cons (pv 1) (pa_cons (pe_callTy call_list_of (by rfl) L.T.n_list (by decide +kernel) (pa_cons (pv 4) pa_nil)) pa_nil))) pa_nil))))
    (pss_cons (ps_if (PW.pt (pw_or (pt_cmpR op_eq (pe_cal L.written (hr.mono (by decide)) rfl (pa_cons (pv 10) pa_nil)) (pv 6) (nomark _)) (pw_or1 (pt_cmpR (op_neTpl (by exact hr.units0) (OpR.or op_eq (op_ownB (R := EqC C CC) is_eq Ge O be pass0 (hr.mono (show 8 ≤ 16 by decide)).in1))) (pe_cal L.read (hr.mono (by decide)) rfl (pa_cons (pe_cal L.written (hr.mono (by decide)) rfl (pa_cons (pv 10) pa_nil)) pa_nil)) (pe_tup (pa_cons pe_str (pa_cons (pv 10) pa_nil))) (nomark _)))))
      (pss_one (ps_ret pe_bl))
      pss_nil) hu))), ?_⟩
  intro v0 v7 v8 p o l lb n rs ls G n1 n8 hp ch el elb rw_ lr ok
  have hl : Lbs n ls := by obtain ⟨_, _, _, _, _, _, _, _, _, _, h7⟩ := ch; exact h7
  have tg : ∀ ws ∈ rs.map (·.2), Tpg n ws := fun ws m => by
    obtain ⟨r, mr, rfl⟩ := List.mem_map.mp m
    obtain ⟨_, _, _, g3, _⟩ := rw_ r mr
    exact g3
  refine ⟨_, rfl, _, rfl, p, _, rfl, hp, by omega, log_small (b := 4) (by show n < _; omega) (by decide) (by decide), fun r od r0 r1 ho => ?_⟩
  obtain ⟨p1, k1⟩ := drawn hp (Keep.refl p G) ho
  have ch1 := ch.keep k1 hp
  have el1 := k1 _ _ el (hp.neR el)
  have elb1 := k1 _ _ elb (hp.ne elb)
  have rw1 : ∀ r ∈ rs, RowSh C (upd G p od) n r := fun r mr => (rw_ r mr).keep k1 hp
  generalize (upd G p od) = H1 at p1 k1 ch1 el1 elb1 rw1 ⊢
  obtain ⟨st, rfl⟩ := nat_of r0
  have hs : st < n := by omega
  obtain ⟨dx, T0, lb0, rs2, h1, _⟩ := id ch1
  refine ⟨_, rfl, o, dx, _, rfl, h1, chF_none _ _ _ (by decide +kernel) (by decide +kernel) (by decide +kernel), _, rfl, _, rfl, _, rfl, lb, _, rfl, .inr (SqT.of elb1), fun tk ntk => ?_⟩
  have s2 := Same.put (o := .lst (sV ls)) ntk
  have etk : (upd H1 tk (.lst (sV ls))) tk = some (.lst (sV ls)) := upd_same
  have p2 := p1.same s2
  have ch2 := ch1.same s2
  have el2 := s2 _ _ el1
  have rw2 : ∀ r ∈ rs, RowSh C (upd H1 tk (.lst (sV ls))) n r := fun r mr => (rw1 r mr).same s2
  have tkp := new_ne p1 ntk
  have tkl : l ≠ tk := fun e => by rw [e, ntk] at el1; cases el1
  generalize (upd H1 tk (.lst (sV ls))) = H2 at s2 etk p2 ch2 el2 rw2 ⊢
  refine ⟨p, tk, ls, rfl, p2, tkp, etk, by rw [hl.1]; exact n8, fun x H3 nx nw k3 p3 e3 => ?_⟩
  have kp : ∀ {c : Addr} {u : HO}, H1 c = some u → c ≠ p → H3 c = some u := fun {c u} e ne => k3 _ _ (s2 _ _ e) ne (fun q => by rw [q, ntk] at e; cases e)
  have ch3 := ch1.keep (p := p) (fun c u e ne => kp e ne) p1
  have el3 := kp el1 (p1.neR el1)
  have rw3 : ∀ r ∈ rs, RowSh C H3 n r := fun r mr => (rw1 r mr).keep (p := p) (fun c u e ne => kp e ne) p1
  refine ⟨o, n, _, ls, st, x, rfl, n8, ch3, hs, nx, fun o2 H4 s4 ch4 => ?_⟩
  have hl' : Lbs n (ls.set st x) := by obtain ⟨_, _, _, _, _, _, _, _, _, _, h7⟩ := ch4; exact h7
  refine ⟨_, rfl, o2, n, _, _, rfl, n8, ch4, fun H5 s5 => ?_⟩
  have ne : ¬ V.str (S (textL (ls.set st x) (rs.map (·.2)))) = V.str (S (textL ls (rs.map (·.2)))) := fun e => by
    rw [V.str.injEq, text_eq n1 hl' hl (by rw [List.length_map]; exact lr) (by rw [List.length_map]; exact lr) tg tg] at e
    exact set_ne_of (by rw [hl.1]; exact hs) nw e.1
  refine ⟨_, rfl, rfl, _, rfl, iteFe (decide_eq_false ne) ?_⟩
  have ch5 := ch4.same s5
  refine ⟨_, rfl, o2, n, _, _, rfl, n8, ch5, fun H6 s6 => ?_⟩
  have ch6 := ch5.same s6
  have lrm : (rs.map (·.2)).length = n := by rw [List.length_map]; exact lr
  refine ⟨n, rs.map (·.2), ls.set st x, rfl, n1, n8, hl', lrm, tg, .inl ⟨fun ws m => ?_, fun x2 t H7 s7 ch7 et => ?_⟩⟩
  · obtain ⟨r, mr, rfl⟩ := List.mem_map.mp m
    exact ok r mr
  have s57 := s5.trans (s6.trans s7)
  refine ⟨_, rfl, by show 2 ≤ sizeLine; decide, fun t2 nt2 => ?_⟩
  have s8 := Same.put (o := .tup [.str "told", .ref o2]) nt2
  have et8 := s8 _ _ et
  have et2 : (upd H7 t2 (.tup [.str "told", .ref o2])) t2 = some (.tup [.str "told", .ref o2]) := upd_same
  have ch8 := ch7.same s8
  have ch8' := (ch6.same s7).same s8
  have s18 := (s4.trans s57).trans s8
  have p8 := (p3.same s4).same (s57.trans s8)
  generalize (upd H7 t2 (.tup [.str "told", .ref o2])) = H8 at s8 et8 et2 ch8 ch8' s18 p8 ⊢
  refine ⟨t, t2, _, _, fun _ => true, rfl, rfl, SqT.of et8, SqT.of et2, ⟨?_, ?_, fun i c d hc hd => ⟨fun _ => rfl, ?_⟩⟩, ?_⟩
  · intro z m
    rcases List.mem_cons.mp m with rfl | m
    · trivial
    · rw [List.mem_singleton.mp m]; trivial
  · intro z m
    rcases List.mem_cons.mp m with rfl | m
    · trivial
    · rw [List.mem_singleton.mp m]; trivial
  · match i with
    | 0 =>
      cases hc
      cases hd
      exact .inl ⟨rfl, congrArg V.bl (decide_eq_true rfl), rfl⟩
    | 1 =>
      cases hc
      cases hd
      exact .inr (own_ch .Eq n8 ch8 ch8' ⟨rfl, rfl⟩)
    | i + 2 => simp at hc
  · rw [List.all_eq_true.mpr fun _ _ => rfl]
    refine ⟨_, rfl, iteF ?_⟩
    exact qu v0 _ v7 v8 _ p o l n st rs ls H8 n1 n8 hs p8 (ch3.same s18) (s18 _ _ el3) (fun r mr => (rw3 r mr).same s18) lr
end
end KI
set_option Elab.async false
set_option linter.all false
set_option maxRecDepth 100000
set_option maxHeartbeats 1000000
namespace KI
open PySem L2 SX Tx
/-- all rows have short shares, or there is a first that has not -/
theorem first_bad (rs : List (Addr × List Nat)) : (∀ r ∈ rs, rowOk r.2 = true) ∨ ∃ i : Nat, i < rs.length ∧ (∀ (j : Nat) (r : Addr × List Nat), j < i → rs[j]? = some r → rowOk r.2 = true) ∧ (∀ r : Addr × List Nat, rs[i]? = some r → rowOk r.2 = false) := by
  induction rs with
  | nil => exact .inl fun _ m => by cases m
  | cons a rs ih =>
    cases ha : rowOk a.2 with
    | false => exact .inr ⟨0, by simp, fun j r h => absurd h (by omega), fun r h => by cases h; exact ha⟩
    | true =>
      rcases ih with h | ⟨i, h1, h2, h3⟩
      · refine .inl fun r m => ?_
        rcases List.mem_cons.mp m with rfl | m
        · exact ha
        · exact h r m
      · refine .inr ⟨i + 1, by simpa using h1, fun j r hj e => ?_, fun r e => h3 r (by simpa using e)⟩
        cases j with
        | zero => cases e; exact ha
        | succ j => exact h2 j r (by omega) (by simpa using e)
section
variable {P : Program} {w : World} {K : PySem.W.Frag} {mg : Str → Option Value} {base : Heap} {C CC B : Addr}
/-- what is told of the text -/
theorem segLw8 {fa : Addr} {cdv : Value} {A : Around} {outer : List Env} {s : Shared} {H : Hp} {E : XK} {Q : VK} (L : LawT P w K mg base C CC B) (hr : Room 16 (XLw P w K mg base fa cdv A outer s H E).A) (k : ∀ H', Q (.bl true) H') :
    ∃ u, PSs (XLw P w K mg base fa cdv A outer s H E) ((defBody s_law).drop 8) u ∧ ∀ (v0 : Option V) (p o l lb t : Addr) (n : Nat) (rs : List (Addr × List Nat)) (ls : List Str) (lg : Int) (z : V) (y : Str) (G : Hp), 1 ≤ n → n ≤ 8 → PoolAt G p → IsCh C CC G o n (rs.map (·.2)) ls → G l = some (.lst (rfs rs)) → G lb = some (.tup (sV ls)) → (∀ r ∈ rs, RowSh C G n r) → rs.length = n →
      G t = some (.tup [.str y, z]) → ((∃ x : Addr, (∀ r ∈ rs, rowOk r.2 = true) ∧ lg = 0 ∧ y = "told" ∧ z = .ref x ∧ IsCh C CC G x n (rs.map (·.2)) ls) ∨ (0 < lg ∧ y = "bad" ∧ z = .int lg)) →
      u { nx := fun _ H' => Q .non H', rt := Q } [v0, some (.ref p), some (.int (n : Int)), some (.ref l), some (.ref lb), some (.ref o), some (.str (S (textL ls (rs.map (·.2))))), some (.int lg), some (.ref t), none, none, none, none] G := by
  obtain ⟨u, hu, qu⟩ := segLw10 (fa := fa) (cdv := cdv) (A := A) (outer := outer) (s := s) (H := H) (E := E) L hr k
  obtain ⟨e1, ed1, O, Ge, be⟩ := L.ce.ex
  refine ⟨_, (pss_cons (ps_if (pt_cmpR op_gt (pv 7) pe_int (nomark _))
      (pss_one (ps_ret (pe_and (pe_cmpR op_eq (pe_ix (show IxR _ (rIxT K) from ix_tup) (pv 8) pe_int (fun _ _ => rfl)) pe_str (nomark _)) (pe_one (pe_cal L.same (hr.mono (by decide)) rfl (pa_cons (pe_ix (show IxR _ (rIxT K) from ix_tup) (pv 8) pe_int (fun _ _ => rfl)) (pa_cons (pv 7) pa_nil)))))))
      pss_nil)
    (pss_cons (ps_if (PW.pt (pw_or (pt_cmpR op_ne (pe_ix (show IxR _ (rIxT K) from ix_tup) (pv 8) pe_int (fun _ _ => rfl)) pe_str (nomark _)) (pw_or (pt_not (pt_val (pe_cal L.isch (hr.mono (by decide)) rfl (pa_cons (pe_ix (show IxR _ (rIxT K) from ix_tup) (pv 8) pe_int (fun _ _ => rfl)) (pa_cons (pv 3) (pa_cons (pv 4) pa_nil)))))) (pw_or1 (pt_cmpR (op_ownB (R := EqC C CC) is_ne Ge O be pass0 (hr.mono (by decide))) (pe_ix (show IxR _ (rIxT K) from ix_tup) (pv 8) pe_int (fun _ _ => rfl)) (pv 5) (nomark _))))))
      (pss_one (ps_ret pe_bl))
      pss_nil) hu)), ?_⟩
  intro v0 p o l lb t n rs ls lg z y G n1 n8 hp ch el elb rw_ lr et h
  have a0 : atI [V.str y, z] 0 = some (V.str y) := atI_nat (j := 0) rfl
  have a1 : atI [V.str y, z] 1 = some z := atI_nat (j := 1) rfl
  refine ⟨_, rfl, _, _, rfl, rfl, _, rfl, ?_⟩
  rcases h with ⟨x, ok, rfl, rfl, rfl, cx⟩ | ⟨lp, rfl, rfl⟩
  · refine iteFe (by decide) ?_
    refine ⟨_, rfl, t, _, _, _, rfl, rfl, SqT.of et, a0, rfl, _, rfl, iteFe (by rw [decide_eq_true rfl]; rfl) ?_⟩
    refine ⟨_, rfl, t, _, _, _, rfl, rfl, SqT.of et, a1, _, rfl, _, rfl, x, l, lb, n, rs, ls, rfl, n8, cx, el, elb, rw_, fun H1 s1 => ?_⟩
    refine ⟨_, rfl, iteF ?_⟩
    refine ⟨_, rfl, t, _, _, _, rfl, rfl, SqT.of (s1 _ _ et), a1, _, rfl, own_ch .NotEq n8 (cx.same s1) (ch.same s1) ⟨_, rfl, iteF ?_⟩⟩
    exact qu v0 _ _ p o l lb n rs ls H1 n1 n8 (hp.same s1) (ch.same s1) (s1 _ _ el) (s1 _ _ elb) (fun r mr => (rw_ r mr).same s1) lr ok
  · refine iteTe (decide_eq_true lp) ?_
    refine ⟨_, rfl, t, _, _, _, rfl, rfl, SqT.of et, a0, rfl, _, rfl, iteTe (decide_eq_true rfl) ?_⟩
    refine ⟨_, rfl, t, _, _, _, rfl, rfl, SqT.of et, a1, _, rfl, lg, lg, rfl, ?_⟩
    rw [decide_eq_true rfl]
    exact k _
theorem segLw3 {fa : Addr} {cdv : Value} {A : Around} {outer : List Env} {s : Shared} {H : Hp} {E : XK} {Q : VK} (L : LawT P w K mg base C CC B) (hr : Room 16 (XLw P w K mg base fa cdv A outer s H E).A) (k : ∀ H', Q (.bl true) H') :
    ∃ u, PSs (XLw P w K mg base fa cdv A outer s H E) ((defBody s_law).drop 2) u ∧ ∀ (v0 : Option V) (p : Addr) (n : Nat) (G : Hp), 1 ≤ n → n ≤ 8 → PoolAt G p →
      u { nx := fun _ H' => Q .non H', rt := Q } [v0, some (.ref p), some (.int (n : Int)), none, none, none, none, none, none, none, none, none, none] G := by
  obtain ⟨u, hu, qu⟩ := segLw8 (fa := fa) (cdv := cdv) (A := A) (outer := outer) (s := s) (H := H) (E := E) L hr k
  refine ⟨_, (pss_cons (ps_set (i := 3) sc_law.nd rfl (Or.inl rfl) (pe_cal L.rows (hr.mono (by decide)) rfl (pa_cons (pv 1) (pa_cons (pv 2) pa_nil))))
    (pss_cons (ps_set (i := 4) sc_law.nd rfl (Or.inl rfl) (pe_cal L.labels (hr.mono (by decide)) rfl (pa_cons (pv 1) (pa_cons (pv 2) pa_nil))))
    (pss_cons (ps_set (i := 5) sc_law.nd rfl (Or.inl rfl) (pe_chn L.m (hr.mono (by decide)) rfl (pa_cons (pe_callTy call_tuple_of (by rfl) L.T.n_tuple (by decide +kernel) (pa_cons (pv 3) pa_nil)) (pa_cons (pv 4) pa_nil))))
    (pss_cons (ps_set (i := 6) sc_law.nd rfl (Or.inl rfl) (pe_cal L.written (hr.mono (by decide)) rfl (pa_cons (pv 5) pa_nil)))
    (pss_cons (ps_if (PW.pt (pw_or (pt_not (pt_val (pe_callB call_isi (by rfl) L.T.b.n_isinstance (by decide +kernel) (pa_cons (pv 6) (pa_cons (pe_bltn (v := .ty "str") rfl L.T.b.n_str (by decide +kernel) rfl) pa_nil))))) (pw_or1 (pt_cmpR op_ne (pv 6) (pe_cal L.text (hr.mono (by decide)) rfl (pa_cons (pv 3) (pa_cons (pv 4) pa_nil))) (nomark _)))))
      (pss_one (ps_ret pe_bl))
      pss_nil)
    (pss_cons (ps_par (i := 7) (j := 8) (by rfl) sc_law.nd rfl rfl (by decide) rfl rfl (pa_cons (pe_cal L.long (hr.mono (by decide)) rfl (pa_cons (pv 3) pa_nil)) (pa_cons (pe_cal L.read (hr.mono (by decide)) rfl (pa_cons (pv 6) pa_nil)) pa_nil)) (by rfl)) hu)))))), ?_⟩
  intro v0 p n G n1 n8 hp
  refine ⟨_, rfl, _, rfl, p, n, rfl, hp, n1, n8, fun l rs H1 k1 p1 el1 sh1 lr => ?_⟩
  refine ⟨_, rfl, _, rfl, p, n, rfl, p1, n1, n8, fun lb ls H2 k2 p2 elb2 hl => ?_⟩
  have el2 := k2 _ _ el1 (p1.neR el1)
  have sh2 : ∀ r ∈ rs, RowSh C H2 n r := fun r mr => (sh1 r mr).keep k2 p1
  refine ⟨_, rfl, l, _, rfl, .inl ⟨SqL.of el2, fun t nt => ?_⟩⟩
  have s3 := Same.put (o := .tup (rfs rs)) nt
  have et3 : (upd H2 t (.tup (rfs rs))) t = some (.tup (rfs rs)) := upd_same
  have el3 := s3 _ _ el2
  have elb3 := s3 _ _ elb2
  have p3 := p2.same s3
  have sh3 : ∀ r ∈ rs, RowSh C (upd H2 t (.tup (rfs rs))) n r := fun r mr => (sh2 r mr).same s3
  show tCons (tVar 4) tNil _ (upd H2 t (.tup (rfs rs))) _
  generalize (upd H2 t (.tup (rfs rs))) = H3 at et3 el3 elb3 p3 sh3 ⊢
  refine ⟨_, rfl, fun o dx ho hd ne => chn_go ho hd ne n1 n8 et3 lr (fun r mr => (sh3 r mr).inn) elb3 hl fun H4 s4 ch4 => ⟨rfl, ?_⟩⟩
  have el4 := s4 _ _ el3
  have elb4 := s4 _ _ elb3
  have p4 := p3.same s4
  have sh4 : ∀ r ∈ rs, RowSh C H4 n r := fun r mr => (sh3 r mr).same s4
  have tg : ∀ ws ∈ rs.map (·.2), Tpg n ws := fun ws m => by
    obtain ⟨r, mr, rfl⟩ := List.mem_map.mp m
    obtain ⟨_, _, _, g3, _⟩ := sh4 r mr
    exact g3
  have lrm : (rs.map (·.2)).length = n := by rw [List.length_map]; exact lr
  refine ⟨_, rfl, o, n, _, ls, rfl, n8, ch4, fun H5 s5 => ?_⟩
  refine ⟨_, rfl, .str (S (textL ls (rs.map (·.2)))), .ty "str", _, _, true, rfl, .ty _, .base (.str _), kit_ty (r := true) (by decide +kernel), _, rfl, iteF ?_⟩
  have s45 := s4.trans s5
  refine ⟨_, rfl, _, rfl, _, rfl, l, lb, n, rs, ls, rfl, n8, lr, hl.1, s5 _ _ el4, s5 _ _ elb4, fun r mr => (sh4 r mr).same s5, hl.2, fun H6 s6 => ?_⟩
  refine ⟨rfl, _, rfl, iteFe (by rw [decide_eq_true rfl]; rfl) ?_⟩
  have s46 := s5.trans s6
  have el6 := s46 _ _ el4
  have elb6 := s46 _ _ elb4
  have p6 := p4.same s46
  have ch6 := ch4.same s46
  have sh6 : ∀ r ∈ rs, RowSh C H6 n r := fun r mr => (sh4 r mr).same s46
  refine ⟨_, rfl, l, n, rs, rfl, n8, by omega, el6, sh6, ?_⟩
  rcases first_bad rs with ok | ⟨i, hi, ok, bad⟩
  · refine .inl ⟨ok, ?_⟩
    refine ⟨_, rfl, n, rs.map (·.2), ls, rfl, n1, n8, hl, lrm, tg, .inl ⟨fun ws m => ?_, fun x r H7 s7 cx er => ?_⟩⟩
    · obtain ⟨r, mr, rfl⟩ := List.mem_map.mp m
      exact ok r mr
    · exact ⟨_, _, rfl, qu v0 p o l lb r n rs ls 0 (.ref x) "told" H7 n1 n8 (p6.same s7) (ch6.same s7) (s7 _ _ el6) (s7 _ _ elb6) (fun r mr => (sh6 r mr).same s7) lr er (.inl ⟨x, ok, rfl, rfl, rfl, cx⟩)⟩
  · refine .inr ⟨i, hi, ok, bad, ?_⟩
    refine ⟨_, rfl, n, rs.map (·.2), ls, rfl, n1, n8, hl, lrm, tg, .inr ⟨i, by omega, fun j ws hj e => ?_, fun ws e => ?_, fun r H7 s7 er => ?_⟩⟩
    · rw [List.getElem?_map] at e
      cases e2 : rs[j]? with
      | none => rw [e2] at e; cases e
      | some r => rw [e2] at e; cases e; exact ok j r hj e2
    · rw [List.getElem?_map] at e
      cases e2 : rs[i]? with
      | none => rw [e2] at e; cases e
      | some r => rw [e2] at e; cases e; exact bad r e2
    · exact ⟨_, _, rfl, qu v0 p o l lb r n rs ls _ _ "bad" H7 n1 n8 (p6.same s7) (ch6.same s7) (s7 _ _ el6) (s7 _ _ elb6) (fun r mr => (sh6 r mr).same s7) lr er (.inr ⟨by omega, rfl, rfl⟩)⟩
theorem ok_law {f : Addr} {fd : FuncData} (F : Fun K "law" "law" s_law f fd) (L : LawT P w K mg base C CC B) : FnOk P w K mg base CX0 17 f fd ["_law_script"] (spLaw K) := by
  refine F.ok sc_law (fun vs H Q E h => ?_) (fun cdv A outer s H vs Q E hr h => ?_)
  · obtain ⟨a, ns, rfl, _⟩ := h
    rfl
  · obtain ⟨a, ns, rfl, ha, hl, k⟩ := h
    obtain ⟨u, hu, qu⟩ := segLw3 (fa := f) (cdv := cdv) (A := A) (outer := outer) (s := s) (H := H) (E := E) L hr k
    refine ⟨_, (pss_cons (ps_set (i := 1) sc_law.nd rfl (Or.inl rfl) (pe_cal L.pool (hr.mono (by decide)) rfl (pa_cons (pv 0) pa_nil)))
      (pss_cons (ps_set (i := 2) sc_law.nd rfl (Or.inl rfl) (pe_ifExp (pt_cmpR op_eq (pe_cal L.draw (hr.mono (by decide)) rfl (pa_cons (pv 1) (pa_cons pe_int pa_nil))) pe_int (nomark _)) pe_int (pe_cal L.size (hr.mono (by decide)) rfl (pa_cons (pv 1) (pa_cons pe_int pa_nil))))) hu)), ?_⟩
    refine ⟨_, rfl, a, ns, rfl, ha, hl, fun p H1 s1 np hp => ?_⟩
    refine ⟨_, rfl, p, 8, rfl, hp, by decide, by decide, fun y o y0 y1 ho => ?_⟩
    obtain ⟨p2, k2⟩ := drawn hp (Keep.refl p H1) ho
    generalize (upd H1 p o) = H2 at p2 k2 ⊢
    refine ⟨rfl, _, rfl, ite2 (fun _ => ?_) (fun _ => ?_)⟩
    · exact qu _ p 8 H2 (by decide) (by decide) p2
    · exact ⟨_, rfl, p, rfl, p2, fun n H3 n1 n8 k3 p3 => qu _ p n H3 n1 n8 p3⟩
end
end KI
set_option Elab.async false
set_option linter.all false
set_option maxRecDepth 100000
set_option maxHeartbeats 4000000
/-! what the end of a proof reads off the top: of no row -/
namespace Hx
open PySem PySem.Spec PyProof.Rows L2
def sltB : List (Option Value) → Bool
  | [_, _, _, _, some (.builtin n), _] => decide (n = "ValueError.__new__")
  | _ => false
theorem sltB_ok {l : List (Option Value)} (h : sltB l = true) : ∃ k0 k1 k2 k3 k5, l = [k0, k1, k2, k3, some (.builtin "ValueError.__new__"), k5] := by
  unfold sltB at h
  split at h
  · rename_i k0 k1 k2 k3 n k5
    exact ⟨k0, k1, k2, k3, k5, by rw [of_decide_eq_true h]⟩
  · cases h
def mroB (C : Addr) : List Value → Bool
  | .ref a :: bm => decide (a = C) && PySem.HandSPX.refsVE bm
  | _ => false
theorem mroB_ok {C : Addr} {l : List Value} (h : mroB C l = true) : ∃ bm, l = .ref C :: bm ∧ PySem.HandSPX.refsVE bm = true := by
  unfold mroB at h
  split at h
  · rename_i a bm
    obtain ⟨b1, b2⟩ := He.ba h
    exact ⟨bm, by rw [of_decide_eq_true b1], b2⟩
  · cases h
def exoB (C : Addr) : Option Obj → Bool
  | some ⟨.type t, _, .cls cd, sl⟩ => decide (t = "type") && (sltB sl.toList && (mroB C cd.mro && (cd.hasDict && !cd.hasDel)))
  | _ => false
theorem exoB_ok {C : Addr} {o : Option Obj} (h : exoB C o = true) : ∃ nm q N bs bm sn sub ab col dd k0 k1 k2 k3 k5, o = some (excClassObj nm q C N bs bm true sn sub ab col dd k0 k1 k2 k3 k5 "ValueError.__new__") ∧ PySem.HandSPX.refsVE bm = true := by
  unfold exoB at h
  split at h
  · rename_i t dd cd sl
    obtain ⟨a1, h⟩ := He.ba h
    obtain ⟨a2, h⟩ := He.ba h
    obtain ⟨a3, h⟩ := He.ba h
    obtain ⟨a4, a5⟩ := He.ba h
    obtain ⟨k0, k1, k2, k3, k5, e1⟩ := sltB_ok a2
    obtain ⟨bm, e2, e3⟩ := mroB_ok a3
    obtain ⟨nm, bs, mro, ns, qn, hd, sn, sub, ab, col, del⟩ := cd
    obtain ⟨sl⟩ := sl
    have e4 : t = "type" := of_decide_eq_true a1
    have e5 : hd = true := a4
    have e6 : del = false := by
      cases del with
      | false => rfl
      | true => cases (show (!true) = true from a5)
    have e1 : sl = _ := e1
    have e2 : mro = _ := e2
    subst e1 e2 e4 e5 e6
    exact ⟨_, _, _, _, _, _, _, _, _, _, _, _, _, _, _, rfl, e3⟩
  · cases h
/-- a class over ValueError's, with an __init__ of its own -/
def oexB (K : PySem.W.Frag) (C : Addr) : Bool := exoB C (K.lookup C) && (decide (PySem.W.findIn K (.ref C) "__setattr__" = some (some (.builtin "object.__setattr__"))) && (decide (PySem.W.subIn K (.ref C) (.type "BaseException") = some true) && (decide (PySem.W.typeIn K (.ref C) = some (.type "type")) && PySem.W.keepIn K (.ref C))))
theorem oexB_ok {K : PySem.W.Frag} {C : Addr} (h : oexB K C = true) : OexC K C := by
  obtain ⟨h0, h⟩ := He.ba h
  obtain ⟨h1, h⟩ := He.ba h
  obtain ⟨h2, h⟩ := He.ba h
  obtain ⟨h3, h4⟩ := He.ba h
  exact ⟨exoB_ok h0, of_decide_eq_true h1, of_decide_eq_true h2, of_decide_eq_true h3, h4⟩
/-- a class's def, found by the class -/
def fcB (K : PySem.W.Frag) (c mc : Value) (m : Str) (g : Value) : Bool := match PySem.W.findCls K c mc m with
  | some (.val v) => decide (v = g)
  | _ => false
theorem fcB_ok {K : PySem.W.Frag} {c mc : Value} {m : Str} {g : Value} (h : fcB K c mc m g = true) : PySem.W.findCls K c mc m = some (.val g) := by
  unfold fcB at h
  split at h
  · rename_i v e
    rw [e, of_decide_eq_true h]
  · cases h
theorem fun_of {K : PySem.W.Frag} {x qual : Str} {st : Stmt} {f : Addr} {fd : FuncData} (F : FunD K x qual (defArgs st) (defBody st) (defScope st) [] [] f fd) : Fun K x qual st f fd := by
  obtain ⟨⟨oc, od, dV, kV, doc, pm, an, cdv, ct, osl, e, lk, hc, hD, hK⟩, kp⟩ := F
  rcases hD with ⟨_, rfl⟩ | ⟨ne, _⟩
  · exact ⟨⟨oc, od, kV, doc, pm, an, cdv, ct, osl, e, lk, hc⟩, kp⟩
  · exact absurd rfl ne
theorem some_of {α : Type} {o : Option α} (h : o.isSome = true) : ∃ r, o = some r := Option.isSome_iff_exists.mp h
/-! ### the Hook: what the top's names and the statics reach -/
def asH (g : Addr → Option Obj) : Nat → List Addr
  | 0 => [mainGlobals, cStatics]
  | n + 1 => He.growD g (asH g n)
abbrev AlH : Type := He.AlD × Bool
def lookH (fn : List He.DefD) (ex : PySem.W.Frag → Bool) (K : PySem.W.Frag) : AlH := (He.obsD [] fn K, ex K)
def obsH (n : Nat) (fn : List He.DefD) (ex : PySem.W.Frag → Bool) (g : Addr → Option Obj) : AlH := lookH fn ex (He.frG g (asH g n))
def SaysH (fn : List He.DefD) (ex : PySem.W.Frag → Bool) (K : PySem.W.Frag) : Prop := He.SaysD [] fn K ∧ ex K = true
def hookH (n : Nat) (fn : List He.DefD) (ex : PySem.W.Frag → Bool) : PySem.W.Hook where
  α := AlH
  obs := fun s => obsH n fn ex s.heap.get?
  val := fun _ => (He.valD fn, true)
  says := fun _ h => ∃ K : PySem.W.Frag, K.In h ∧ SaysH fn ex K
  of := fun _ _ e => ⟨_, He.frG_in, congrArg (fun z : AlH => z.1) e, congrArg (fun z : AlH => z.2) e⟩
  keeps := fun _ _ _ ⟨K, hK, c⟩ k => ⟨K, PySem.W.Frag.In.keeps hK k, c⟩
theorem obsH_eq {n : Nat} {fn : List He.DefD} {ex : PySem.W.Frag → Bool} {g : Addr → Option Obj} {s : Shared} (h : ∀ a, g a = s.heap.get? a) : obsH n fn ex g = (hookH n fn ex).obs s := by
  have e : g = s.heap.get? := funext h
  rw [e] <;> rfl
end Hx
set_option Elab.async false
set_option linter.all false
set_option maxRecDepth 100000
set_option maxHeartbeats 8000000
namespace KI
open PySem L2
theorem all_mk {P : Program} {w : World} {K : PySem.W.Frag} {mg : Str → Option Value} {base : Heap} {c_BadShare c_BadText c_Chain c_NoState c_Share c_WalkError f_law f_Chain___init__ f_is_spread f_is_tuple_of f_is_from_zero f_is_share f_is_whole f_share_of f_Share___init__ f_BadShare___init__ f_WalkError___init__ f_Share_less f_total f_Share___add__ f_Share___radd__ f_Share___eq__ f_is_tuple_between f_is_name_row f_is_name f_shares_of f_Chain_with_row f_check_state f_is_index f_is_between f_NoState___init__ f_Chain_with_label f_Chain___eq__ f__law_pool f__law_draw f__law_size f__law_name f__law_tops f__law_spread f__law_long_rows f_Share___sub__ f_Share___rsub__ f_Share___neg__ f__law_rows f__law_rows_alike f__law_pick f__law_moved_bit f__law_rows_turning f__law_rows_parted f__law_long f_Share___mul__ f_Share___rmul__ f__law_labels f_written f_Share___str__ f_digits f_Chain_row f_Chain_label f_closed_rows f__law_text f__law_write f__law_too_long f__law_read f_read f_BadText___init__ f_text_rows f_told_row f_told_share f_is_number_word f__law_same f__law_is_chain : Addr} {fd_law fd_Chain___init__ fd_is_spread fd_is_tuple_of fd_is_from_zero fd_is_share fd_is_whole fd_share_of fd_Share___init__ fd_BadShare___init__ fd_WalkError___init__ fd_Share_less fd_total fd_Share___add__ fd_Share___radd__ fd_Share___eq__ fd_is_tuple_between fd_is_name_row fd_is_name fd_shares_of fd_Chain_with_row fd_check_state fd_is_index fd_is_between fd_NoState___init__ fd_Chain_with_label fd_Chain___eq__ fd__law_pool fd__law_draw fd__law_size fd__law_name fd__law_tops fd__law_spread fd__law_long_rows fd_Share___sub__ fd_Share___rsub__ fd_Share___neg__ fd__law_rows fd__law_rows_alike fd__law_pick fd__law_moved_bit fd__law_rows_turning fd__law_rows_parted fd__law_long fd_Share___mul__ fd_Share___rmul__ fd__law_labels fd_written fd_Share___str__ fd_digits fd_Chain_row fd_Chain_label fd_closed_rows fd__law_text fd__law_write fd__law_too_long fd__law_read fd_read fd_BadText___init__ fd_text_rows fd_told_row fd_told_share fd_is_number_word fd__law_same fd__law_is_chain : FuncData}
    (D_law : FunD K "law" "law" (defArgs s_law) (defBody s_law) (defScope s_law) [] [] f_law fd_law)
    (D_Chain___init__ : FunD K "__init__" "Chain.__init__" (defArgs s_CI) (defBody s_CI) (defScope s_CI) [] [] f_Chain___init__ fd_Chain___init__)
    (D_is_spread : FunD K "is_spread" "is_spread" (defArgs s_spread) (defBody s_spread) (defScope s_spread) [] [] f_is_spread fd_is_spread)
    (D_is_tuple_of : FunD K "is_tuple_of" "is_tuple_of" (defArgs s_tupOf) (defBody s_tupOf) (defScope s_tupOf) [] [] f_is_tuple_of fd_is_tuple_of)
    (D_is_from_zero : FunD K "is_from_zero" "is_from_zero" (defArgs s_from0) (defBody s_from0) (defScope s_from0) [] [] f_is_from_zero fd_is_from_zero)
    (D_is_share : FunD K "is_share" "is_share" (defArgs s_is_share) (defBody s_is_share) (defScope s_is_share) [] [] f_is_share fd_is_share)
    (D_is_whole : FunD K "is_whole" "is_whole" (defArgs s_is_whole) (defBody s_is_whole) (defScope s_is_whole) [] [] f_is_whole fd_is_whole)
    (D_share_of : FunD K "share_of" "share_of" (defArgs s_share_of) (defBody s_share_of) (defScope s_share_of) [] [] f_share_of fd_share_of)
    (D_Share___init__ : FunD K "__init__" "Share.__init__" (defArgs s_SI) (defBody s_SI) (defScope s_SI) [.int 1] [] f_Share___init__ fd_Share___init__)
    (D_BadShare___init__ : FunD K "__init__" "BadShare.__init__" (defArgs s_BS) (defBody s_BS) (defScope s_BS) [] [] f_BadShare___init__ fd_BadShare___init__)
    (D_WalkError___init__ : FunD K "__init__" "WalkError.__init__" (defArgs s_WE) (defBody s_WE) (defScope s_WE) [.str "the package was asked for what it cannot do"] [] f_WalkError___init__ fd_WalkError___init__)
    (D_Share_less : FunD K "less" "Share.less" (defArgs s_sless) (defBody s_sless) (defScope s_sless) [] [] f_Share_less fd_Share_less)
    (D_total : FunD K "total" "total" (defArgs s_total) (defBody s_total) (defScope s_total) [] [] f_total fd_total)
    (D_Share___add__ : FunD K "__add__" "Share.__add__" (defArgs s_add) (defBody s_add) (defScope s_add) [] [] f_Share___add__ fd_Share___add__)
    (D_Share___radd__ : FunD K "__radd__" "Share.__radd__" (defArgs s_radd) (defBody s_radd) (defScope s_radd) [] [] f_Share___radd__ fd_Share___radd__)
    (D_Share___eq__ : FunD K "__eq__" "Share.__eq__" (defArgs s_eq) (defBody s_eq) (defScope s_eq) [] [] f_Share___eq__ fd_Share___eq__)
    (D_is_tuple_between : FunD K "is_tuple_between" "is_tuple_between" (defArgs s_tupBet) (defBody s_tupBet) (defScope s_tupBet) [] [] f_is_tuple_between fd_is_tuple_between)
    (D_is_name_row : FunD K "is_name_row" "is_name_row" (defArgs s_nameRow) (defBody s_nameRow) (defScope s_nameRow) [] [] f_is_name_row fd_is_name_row)
    (D_is_name : FunD K "is_name" "is_name" (defArgs s_is_name) (defBody s_is_name) (defScope s_is_name) [] [] f_is_name fd_is_name)
    (D_shares_of : FunD K "shares_of" "shares_of" (defArgs s_shares_of) (defBody s_shares_of) (defScope s_shares_of) [] [] f_shares_of fd_shares_of)
    (D_Chain_with_row : FunD K "with_row" "Chain.with_row" (defArgs s_withrow) (defBody s_withrow) (defScope s_withrow) [] [] f_Chain_with_row fd_Chain_with_row)
    (D_check_state : FunD K "check_state" "check_state" (defArgs s_check) (defBody s_check) (defScope s_check) [] [] f_check_state fd_check_state)
    (D_is_index : FunD K "is_index" "is_index" (defArgs s_is_index) (defBody s_is_index) (defScope s_is_index) [] [] f_is_index fd_is_index)
    (D_is_between : FunD K "is_between" "is_between" (defArgs s_is_between) (defBody s_is_between) (defScope s_is_between) [] [] f_is_between fd_is_between)
    (D_NoState___init__ : FunD K "__init__" "NoState.__init__" (defArgs s_NS) (defBody s_NS) (defScope s_NS) [] [] f_NoState___init__ fd_NoState___init__)
    (D_Chain_with_label : FunD K "with_label" "Chain.with_label" (defArgs s_withlab) (defBody s_withlab) (defScope s_withlab) [] [] f_Chain_with_label fd_Chain_with_label)
    (D_Chain___eq__ : FunD K "__eq__" "Chain.__eq__" (defArgs s_ceq) (defBody s_ceq) (defScope s_ceq) [] [] f_Chain___eq__ fd_Chain___eq__)
    (D__law_pool : FunD K "_law_pool" "_law_pool" (defArgs s_pool) (defBody s_pool) (defScope s_pool) [] [] f__law_pool fd__law_pool)
    (D__law_draw : FunD K "_law_draw" "_law_draw" (defArgs s_draw) (defBody s_draw) (defScope s_draw) [] [] f__law_draw fd__law_draw)
    (D__law_size : FunD K "_law_size" "_law_size" (defArgs s_size) (defBody s_size) (defScope s_size) [] [] f__law_size fd__law_size)
    (D__law_name : FunD K "_law_name" "_law_name" (defArgs s_name) (defBody s_name) (defScope s_name) [] [] f__law_name fd__law_name)
    (D__law_tops : FunD K "_law_tops" "_law_tops" (defArgs s_tops) (defBody s_tops) (defScope s_tops) [] [] f__law_tops fd__law_tops)
    (D__law_spread : FunD K "_law_spread" "_law_spread" (defArgs s_spreadL) (defBody s_spreadL) (defScope s_spreadL) [] [] f__law_spread fd__law_spread)
    (D__law_long_rows : FunD K "_law_long_rows" "_law_long_rows" (defArgs s_lrows) (defBody s_lrows) (defScope s_lrows) [] [] f__law_long_rows fd__law_long_rows)
    (D_Share___sub__ : FunD K "__sub__" "Share.__sub__" (defArgs s_sub) (defBody s_sub) (defScope s_sub) [] [] f_Share___sub__ fd_Share___sub__)
    (D_Share___rsub__ : FunD K "__rsub__" "Share.__rsub__" (defArgs s_rsub) (defBody s_rsub) (defScope s_rsub) [] [] f_Share___rsub__ fd_Share___rsub__)
    (D_Share___neg__ : FunD K "__neg__" "Share.__neg__" (defArgs s_neg) (defBody s_neg) (defScope s_neg) [] [] f_Share___neg__ fd_Share___neg__)
    (D__law_rows : FunD K "_law_rows" "_law_rows" (defArgs s_rows) (defBody s_rows) (defScope s_rows) [] [] f__law_rows fd__law_rows)
    (D__law_rows_alike : FunD K "_law_rows_alike" "_law_rows_alike" (defArgs s_alike) (defBody s_alike) (defScope s_alike) [] [] f__law_rows_alike fd__law_rows_alike)
    (D__law_pick : FunD K "_law_pick" "_law_pick" (defArgs s_pick) (defBody s_pick) (defScope s_pick) [] [] f__law_pick fd__law_pick)
    (D__law_moved_bit : FunD K "_law_moved_bit" "_law_moved_bit" (defArgs s_moved) (defBody s_moved) (defScope s_moved) [] [] f__law_moved_bit fd__law_moved_bit)
    (D__law_rows_turning : FunD K "_law_rows_turning" "_law_rows_turning" (defArgs s_turning) (defBody s_turning) (defScope s_turning) [] [] f__law_rows_turning fd__law_rows_turning)
    (D__law_rows_parted : FunD K "_law_rows_parted" "_law_rows_parted" (defArgs s_parted) (defBody s_parted) (defScope s_parted) [] [] f__law_rows_parted fd__law_rows_parted)
    (D__law_long : FunD K "_law_long" "_law_long" (defArgs s_lng) (defBody s_lng) (defScope s_lng) [] [] f__law_long fd__law_long)
    (D_Share___mul__ : FunD K "__mul__" "Share.__mul__" (defArgs s_mul) (defBody s_mul) (defScope s_mul) [] [] f_Share___mul__ fd_Share___mul__)
    (D_Share___rmul__ : FunD K "__rmul__" "Share.__rmul__" (defArgs s_rmul) (defBody s_rmul) (defScope s_rmul) [] [] f_Share___rmul__ fd_Share___rmul__)
    (D__law_labels : FunD K "_law_labels" "_law_labels" (defArgs s_labels) (defBody s_labels) (defScope s_labels) [] [] f__law_labels fd__law_labels)
    (D_written : FunD K "written" "written" (defArgs s_written) (defBody s_written) (defScope s_written) [] [] f_written fd_written)
    (D_Share___str__ : FunD K "__str__" "Share.__str__" (defArgs s_str) (defBody s_str) (defScope s_str) [] [] f_Share___str__ fd_Share___str__)
    (D_digits : FunD K "digits" "digits" (defArgs s_digits) (defBody s_digits) (defScope s_digits) [] [] f_digits fd_digits)
    (D_Chain_row : FunD K "row" "Chain.row" (defArgs s_chrow) (defBody s_chrow) (defScope s_chrow) [] [] f_Chain_row fd_Chain_row)
    (D_Chain_label : FunD K "label" "Chain.label" (defArgs s_chlabel) (defBody s_chlabel) (defScope s_chlabel) [] [] f_Chain_label fd_Chain_label)
    (D_closed_rows : FunD K "closed_rows" "closed_rows" (defArgs s_closed) (defBody s_closed) (defScope s_closed) [] [] f_closed_rows fd_closed_rows)
    (D__law_text : FunD K "_law_text" "_law_text" (defArgs s_text) (defBody s_text) (defScope s_text) [] [] f__law_text fd__law_text)
    (D__law_write : FunD K "_law_write" "_law_write" (defArgs s_write) (defBody s_write) (defScope s_write) [] [] f__law_write fd__law_write)
    (D__law_too_long : FunD K "_law_too_long" "_law_too_long" (defArgs s_long) (defBody s_long) (defScope s_long) [] [] f__law_too_long fd__law_too_long)
    (D__law_read : FunD K "_law_read" "_law_read" (defArgs s_lread) (defBody s_lread) (defScope s_lread) [] [] f__law_read fd__law_read)
    (D_read : FunD K "read" "read" (defArgs s_read) (defBody s_read) (defScope s_read) [] [] f_read fd_read)
    (D_BadText___init__ : FunD K "__init__" "BadText.__init__" (defArgs s_BT) (defBody s_BT) (defScope s_BT) [] [] f_BadText___init__ fd_BadText___init__)
    (D_text_rows : FunD K "text_rows" "text_rows" (defArgs s_trows) (defBody s_trows) (defScope s_trows) [] [] f_text_rows fd_text_rows)
    (D_told_row : FunD K "told_row" "told_row" (defArgs s_trow) (defBody s_trow) (defScope s_trow) [] [] f_told_row fd_told_row)
    (D_told_share : FunD K "told_share" "told_share" (defArgs s_told) (defBody s_told) (defScope s_told) [] [] f_told_share fd_told_share)
    (D_is_number_word : FunD K "is_number_word" "is_number_word" (defArgs s_numw) (defBody s_numw) (defScope s_numw) [] [] f_is_number_word fd_is_number_word)
    (D__law_same : FunD K "_law_same" "_law_same" (defArgs s_same) (defBody s_same) (defScope s_same) [] [] f__law_same fd__law_same)
    (D__law_is_chain : FunD K "_law_is_chain" "_law_is_chain" (defArgs s_ischain) (defBody s_ischain) (defScope s_ischain) [] [] f__law_is_chain fd__law_is_chain)
    (q0 : mg "isinstance" = none)
    (q1 : mg "int" = none)
    (q2 : mg "bool" = none)
    (q3 : mg "abs" = none)
    (q4 : mg "len" = none)
    (q5 : mg "str" = none)
    (q6 : mg "divmod" = none)
    (q7 : mg "ValueError" = none)
    (q8 : mg "list" = none)
    (q9 : mg "tuple" = none)
    (q10 : mg "range" = none)
    (q11 : mg "sum" = none)
    (q12 : mg "min" = none)
    (q13 : mg "max" = none)
    (q14 : mg "all" = none)
    (q15 : PySem.W.plainGet K c_Chain Str.empty = true)
    (q16 : PySem.W.hasDictIn K c_Chain = true)
    (q17 : PySem.W.plainOver K c_Chain = true)
    (q18 : PySem.W.findIn K (.ref c_Chain) "__setattr__" = some (some (.builtin "object.__setattr__")))
    (q19 : PySem.W.findIn K (.ref c_Chain) "__class__" = some (some (.builtin "object.__class__")))
    (q20 : PySem.W.specialIn K (.builtin "object.__class__") "__get__" = some (some (.builtin "getset_descriptor.__get__")))
    (q21 : PySem.W.takesIn K (.builtin "object.__class__") = some true)
    (q22 : PySem.W.mroIn K c_Chain (.type "object") = some true)
    (q23 : PySem.W.kitOne K (.ref c_Chain) (.type "int") = some false)
    (q24 : PySem.W.kitOne K (.ref c_Chain) (.type "bool") = some false)
    (q25 : PySem.W.kitOne K (.ref c_Chain) (.ref c_Chain) = some true)
    (q26 : PySem.W.kitOne K (.type "int") (.ref c_Chain) = some false)
    (q27 : PySem.W.kitOne K (.type "bool") (.ref c_Chain) = some false)
    (q28 : PySem.W.kitOne K (.type "NoneType") (.ref c_Chain) = some false)
    (q29 : PySem.W.kitOne K (.type "str") (.ref c_Chain) = some false)
    (q30 : PySem.W.kitOne K (.type "list") (.ref c_Chain) = some false)
    (q31 : PySem.W.kitOne K (.type "tuple") (.ref c_Chain) = some false)
    (q32 : PySem.W.kitOne K (.type "dict") (.ref c_Chain) = some false)
    (q33 : NoAttr K c_Chain "size")
    (q34 : NoAttr K c_Chain "_rows")
    (q35 : NoAttr K c_Chain "_labels")
    (q36 : mg "Chain" = some (.ref c_Chain))
    (q37 : ∃ t, mg "MOST_STATES" = some (.int 8 t))
    (q38 : PySem.W.makesIn K c_Chain = true)
    (q39 : PySem.W.findIn K (.ref c_Chain) "__init__" = some (some (.ref f_Chain___init__)))
    (q40 : PySem.W.isFn K (.ref f_Chain___init__) = true)
    (q41 : PySem.W.keepIn K (.ref c_Chain) = true)
    (q42 : PySem.W.plainGet K c_Share Str.empty = true)
    (q43 : PySem.W.hasDictIn K c_Share = true)
    (q44 : PySem.W.plainOver K c_Share = true)
    (q45 : PySem.W.findIn K (.ref c_Share) "__setattr__" = some (some (.builtin "object.__setattr__")))
    (q46 : PySem.W.findIn K (.ref c_Share) "__class__" = some (some (.builtin "object.__class__")))
    (q47 : PySem.W.mroIn K c_Share (.type "object") = some true)
    (q48 : PySem.W.kitOne K (.ref c_Share) (.type "int") = some false)
    (q49 : PySem.W.kitOne K (.ref c_Share) (.type "bool") = some false)
    (q50 : PySem.W.kitOne K (.ref c_Share) (.ref c_Share) = some true)
    (q51 : PySem.W.kitOne K (.type "int") (.ref c_Share) = some false)
    (q52 : PySem.W.kitOne K (.type "bool") (.ref c_Share) = some false)
    (q53 : PySem.W.kitOne K (.type "NoneType") (.ref c_Share) = some false)
    (q54 : PySem.W.kitOne K (.type "str") (.ref c_Share) = some false)
    (q55 : PySem.W.kitOne K (.type "list") (.ref c_Share) = some false)
    (q56 : PySem.W.kitOne K (.type "tuple") (.ref c_Share) = some false)
    (q57 : PySem.W.kitOne K (.type "dict") (.ref c_Share) = some false)
    (q58 : NoAttr K c_Share "top")
    (q59 : NoAttr K c_Share "bottom")
    (q60 : mg "gcd" = some (.builtin "math.gcd"))
    (q61 : mg "Share" = some (.ref c_Share))
    (q62 : PySem.W.kitOne K (.ref c_Share) (.type "tuple") = some false)
    (q63 : mg "is_tuple_of" = some (.ref f_is_tuple_of))
    (q64 : PySem.W.keepIn K (.ref f_is_tuple_of) = true)
    (q65 : mg "is_whole" = some (.ref f_is_whole))
    (q66 : PySem.W.keepIn K (.ref f_is_whole) = true)
    (q67 : mg "is_share" = some (.ref f_is_share))
    (q68 : PySem.W.keepIn K (.ref f_is_share) = true)
    (q69 : PySem.W.makesIn K c_Share = true)
    (q70 : PySem.W.findIn K (.ref c_Share) "__init__" = some (some (.ref f_Share___init__)))
    (q71 : PySem.W.isFn K (.ref f_Share___init__) = true)
    (q72 : PySem.W.keepIn K (.ref c_Share) = true)
    (q73 : mg "BadShare" = some (.ref c_BadShare))
    (q74 : PySem.W.findIn K (.ref c_BadShare) "__init__" = some (some (.ref f_BadShare___init__)))
    (q75 : PySem.W.typeIn K (.ref f_BadShare___init__) = some (.type "function"))
    (q76 : mg "WalkError" = some (.ref c_WalkError))
    (q77 : PySem.W.readsIn K c_WalkError (.type "type") = true)
    (q78 : PySem.W.specialIn K (.ref c_WalkError) "__getattribute__" = some (some (.builtin "type.__getattribute__")))
    (q79 : PySem.W.findCls K (.ref c_WalkError) (.type "type") "__init__" = some (.val (.ref f_WalkError___init__)))
    (q80 : PySem.W.keepIn K (.ref f_WalkError___init__) = true)
    (q81 : PySem.W.findCls K (.type "ValueError") (.type "type") "__init__" = some (.val (.builtin "ValueError.__init__")))
    (q82 : OexC K c_BadShare)
    (q83 : PySem.W.findIn K (.ref c_BadShare) "top" = some none)
    (q84 : PySem.W.findIn K (.ref c_BadShare) "bottom" = some none)
    (q85 : mg "share_of" = some (.ref f_share_of))
    (q86 : PySem.W.keepIn K (.ref f_share_of) = true)
    (q87 : PySem.W.findIn K (.ref c_Share) "less" = some (some (.ref f_Share_less)))
    (q88 : PySem.W.isFn K (.ref f_Share_less) = true)
    (q89 : PySem.W.keepIn K (.ref f_Share_less) = true)
    (q90 : mg "is_from_zero" = some (.ref f_is_from_zero))
    (q91 : PySem.W.keepIn K (.ref f_is_from_zero) = true)
    (q92 : PySem.W.subIn K (.ref c_Share) (.type "str") = some false)
    (q93 : PySem.W.subIn K (.ref c_Share) (.type "bytes") = some false)
    (q94 : PySem.W.subIn K (.ref c_Share) (.type "bytearray") = some false)
    (q95 : PySem.W.selfFirst K c_Share = true)
    (q96 : PySem.W.findIn K (.ref c_Share) (PySem.dunder "add") = some (some (.ref f_Share___add__)))
    (q97 : PySem.W.isFn K (.ref f_Share___add__) = true)
    (q98 : PySem.W.findIn K (.ref c_Share) (dunderR "add") = some (some (.ref f_Share___radd__)))
    (q99 : PySem.W.isFn K (.ref f_Share___radd__) = true)
    (q100 : ∃ ro, PySem.W.findIn K (.type "int") (dunderR "add") = some ro)
    (q101 : PySem.W.subIn K (.type "int") (.ref c_Share) = some false)
    (q102 : PySem.W.subIn K (.ref c_Share) (.type "int") = some false)
    (q103 : mg "total" = some (.ref f_total))
    (q104 : PySem.W.keepIn K (.ref f_total) = true)
    (q105 : PySem.W.findIn K (.ref c_Share) "__eq__" = some (some (.ref f_Share___eq__)))
    (q106 : PySem.W.findIn K (.ref c_Share) "__ne__" = some (some (.builtin "object.__ne__")))
    (q107 : PySem.W.isFn K (.ref f_Share___eq__) = true)
    (q108 : PySem.W.subIn K (.ref c_Share) (.type "bool") = some false)
    (q109 : PySem.W.subIn K (.ref c_Share) (.type "NoneType") = some false)
    (q110 : PySem.W.subIn K (.ref c_Share) (.type "list") = some false)
    (q111 : PySem.W.subIn K (.ref c_Share) (.type "tuple") = some false)
    (q112 : PySem.W.subIn K (.ref c_Share) (.type "dict") = some false)
    (q113 : mg "is_spread" = some (.ref f_is_spread))
    (q114 : PySem.W.keepIn K (.ref f_is_spread) = true)
    (q115 : mg "is_tuple_between" = some (.ref f_is_tuple_between))
    (q116 : PySem.W.keepIn K (.ref f_is_tuple_between) = true)
    (q117 : ∃ t, mg "LETTERS" = some (.str abc t))
    (q118 : mg "is_name" = some (.ref f_is_name))
    (q119 : PySem.W.keepIn K (.ref f_is_name) = true)
    (q120 : mg "is_name_row" = some (.ref f_is_name_row))
    (q121 : PySem.W.keepIn K (.ref f_is_name_row) = true)
    (q122 : mg "shares_of" = some (.ref f_shares_of))
    (q123 : PySem.W.keepIn K (.ref f_shares_of) = true)
    (q124 : PySem.W.findIn K (.ref c_Chain) "with_row" = some (some (.ref f_Chain_with_row)))
    (q125 : PySem.W.isFn K (.ref f_Chain_with_row) = true)
    (q126 : PySem.W.keepIn K (.ref f_Chain_with_row) = true)
    (q127 : mg "is_between" = some (.ref f_is_between))
    (q128 : PySem.W.keepIn K (.ref f_is_between) = true)
    (q129 : mg "is_index" = some (.ref f_is_index))
    (q130 : PySem.W.keepIn K (.ref f_is_index) = true)
    (q131 : mg "NoState" = some (.ref c_NoState))
    (q132 : PySem.W.findIn K (.ref c_NoState) "__init__" = some (some (.ref f_NoState___init__)))
    (q133 : PySem.W.typeIn K (.ref f_NoState___init__) = some (.type "function"))
    (q134 : OexC K c_NoState)
    (q135 : PySem.W.findIn K (.ref c_NoState) "state" = some none)
    (q136 : mg "check_state" = some (.ref f_check_state))
    (q137 : PySem.W.keepIn K (.ref f_check_state) = true)
    (q138 : PySem.W.findIn K (.ref c_Chain) "with_label" = some (some (.ref f_Chain_with_label)))
    (q139 : PySem.W.isFn K (.ref f_Chain_with_label) = true)
    (q140 : PySem.W.keepIn K (.ref f_Chain_with_label) = true)
    (q141 : PySem.W.findIn K (.ref c_Chain) "__eq__" = some (some (.ref f_Chain___eq__)))
    (q142 : PySem.W.findIn K (.ref c_Chain) "__ne__" = some (some (.builtin "object.__ne__")))
    (q143 : PySem.W.isFn K (.ref f_Chain___eq__) = true)
    (q144 : PySem.W.subIn K (.ref c_Chain) (.type "int") = some false)
    (q145 : PySem.W.subIn K (.ref c_Chain) (.type "bool") = some false)
    (q146 : PySem.W.subIn K (.ref c_Chain) (.type "NoneType") = some false)
    (q147 : PySem.W.subIn K (.ref c_Chain) (.type "str") = some false)
    (q148 : PySem.W.subIn K (.ref c_Chain) (.type "list") = some false)
    (q149 : PySem.W.subIn K (.ref c_Chain) (.type "tuple") = some false)
    (q150 : PySem.W.subIn K (.ref c_Chain) (.type "dict") = some false)
    (q151 : mg "_law_pool" = some (.ref f__law_pool))
    (q152 : PySem.W.keepIn K (.ref f__law_pool) = true)
    (q153 : mg "_law_draw" = some (.ref f__law_draw))
    (q154 : PySem.W.keepIn K (.ref f__law_draw) = true)
    (q155 : mg "_law_size" = some (.ref f__law_size))
    (q156 : PySem.W.keepIn K (.ref f__law_size) = true)
    (q157 : mg "_law_name" = some (.ref f__law_name))
    (q158 : PySem.W.keepIn K (.ref f__law_name) = true)
    (q159 : mg "_law_tops" = some (.ref f__law_tops))
    (q160 : PySem.W.keepIn K (.ref f__law_tops) = true)
    (q161 : mg "_law_spread" = some (.ref f__law_spread))
    (q162 : PySem.W.keepIn K (.ref f__law_spread) = true)
    (q163 : PySem.W.findIn K (.ref c_Share) (PySem.dunder "sub") = some (some (.ref f_Share___sub__)))
    (q164 : PySem.W.isFn K (.ref f_Share___sub__) = true)
    (q165 : PySem.W.findIn K (.ref c_Share) (dunderR "sub") = some (some (.ref f_Share___rsub__)))
    (q166 : PySem.W.isFn K (.ref f_Share___rsub__) = true)
    (q167 : ∃ ro, PySem.W.findIn K (.type "int") (dunderR "sub") = some ro)
    (q168 : PySem.W.findIn K (.ref c_Share) "__neg__" = some (some (.ref f_Share___neg__)))
    (q169 : PySem.W.isFn K (.ref f_Share___neg__) = true)
    (q170 : mg "_law_pick" = some (.ref f__law_pick))
    (q171 : PySem.W.keepIn K (.ref f__law_pick) = true)
    (q172 : mg "_law_moved_bit" = some (.ref f__law_moved_bit))
    (q173 : PySem.W.keepIn K (.ref f__law_moved_bit) = true)
    (q174 : mg "_law_rows_alike" = some (.ref f__law_rows_alike))
    (q175 : PySem.W.keepIn K (.ref f__law_rows_alike) = true)
    (q176 : mg "_law_rows_turning" = some (.ref f__law_rows_turning))
    (q177 : PySem.W.keepIn K (.ref f__law_rows_turning) = true)
    (q178 : mg "_law_rows_parted" = some (.ref f__law_rows_parted))
    (q179 : PySem.W.keepIn K (.ref f__law_rows_parted) = true)
    (q180 : mg "_law_rows" = some (.ref f__law_rows))
    (q181 : PySem.W.keepIn K (.ref f__law_rows) = true)
    (q182 : PySem.W.findIn K (.ref c_Share) (PySem.dunder "mul") = some (some (.ref f_Share___mul__)))
    (q183 : PySem.W.isFn K (.ref f_Share___mul__) = true)
    (q184 : PySem.W.findIn K (.ref c_Share) (dunderR "mul") = some (some (.ref f_Share___rmul__)))
    (q185 : PySem.W.isFn K (.ref f_Share___rmul__) = true)
    (q186 : ∃ ro, PySem.W.findIn K (.type "int") (dunderR "mul") = some ro)
    (q187 : mg "_law_long" = some (.ref f__law_long))
    (q188 : PySem.W.keepIn K (.ref f__law_long) = true)
    (q189 : mg "_law_long_rows" = some (.ref f__law_long_rows))
    (q190 : PySem.W.keepIn K (.ref f__law_long_rows) = true)
    (q191 : mg "_law_labels" = some (.ref f__law_labels))
    (q192 : PySem.W.keepIn K (.ref f__law_labels) = true)
    (q193 : PySem.W.findIn K (.ref c_Share) "__str__" = some (some (.ref f_Share___str__)))
    (q194 : PySem.W.isFn K (.ref f_Share___str__) = true)
    (q195 : ∃ t, mg "BLOCK" = some (.int (10 ^ 64) t))
    (q196 : mg "digits" = some (.ref f_digits))
    (q197 : PySem.W.keepIn K (.ref f_digits) = true)
    (q198 : PySem.W.findIn K (.ref c_Chain) "row" = some (some (.ref f_Chain_row)))
    (q199 : PySem.W.isFn K (.ref f_Chain_row) = true)
    (q200 : PySem.W.keepIn K (.ref f_Chain_row) = true)
    (q201 : PySem.W.findIn K (.ref c_Chain) "label" = some (some (.ref f_Chain_label)))
    (q202 : PySem.W.isFn K (.ref f_Chain_label) = true)
    (q203 : PySem.W.keepIn K (.ref f_Chain_label) = true)
    (q204 : mg "closed_rows" = some (.ref f_closed_rows))
    (q205 : PySem.W.keepIn K (.ref f_closed_rows) = true)
    (q206 : mg "written" = some (.ref f_written))
    (q207 : PySem.W.keepIn K (.ref f_written) = true)
    (q208 : mg "_law_write" = some (.ref f__law_write))
    (q209 : PySem.W.keepIn K (.ref f__law_write) = true)
    (q210 : mg "_law_text" = some (.ref f__law_text))
    (q211 : PySem.W.keepIn K (.ref f__law_text) = true)
    (q212 : mg "_law_too_long" = some (.ref f__law_too_long))
    (q213 : PySem.W.keepIn K (.ref f__law_too_long) = true)
    (q214 : mg "BadText" = some (.ref c_BadText))
    (q215 : PySem.W.findIn K (.ref c_BadText) "__getattribute__" = some (some (.builtin "BaseException.__getattribute__")))
    (q216 : PySem.W.findIn K (.ref c_BadText) "__getattr__" = some none)
    (q217 : PySem.W.subIn K (.ref c_BadText) (.type "BaseException") = some true)
    (q218 : PySem.W.hasDictIn K c_BadText = true)
    (q219 : PySem.W.exmOne K (.ref c_BadText) (.ref c_BadText) = some true)
    (q220 : PySem.W.findIn K (.ref c_BadText) "line" = some none)
    (q221 : mg "enumerate" = none)
    (q222 : OexC K c_BadText)
    (q223 : PySem.W.findIn K (.ref c_BadText) "__init__" = some (some (.ref f_BadText___init__)))
    (q224 : PySem.W.typeIn K (.ref f_BadText___init__) = some (.type "function"))
    (q225 : mg "text_rows" = some (.ref f_text_rows))
    (q226 : PySem.W.keepIn K (.ref f_text_rows) = true)
    (q227 : ∃ t, mg "MOST_DIGITS" = some (.int 100 t))
    (q228 : ∃ t, mg "DIGITS" = some (.str d09 t))
    (q229 : mg "is_number_word" = some (.ref f_is_number_word))
    (q230 : PySem.W.keepIn K (.ref f_is_number_word) = true)
    (q231 : mg "told_share" = some (.ref f_told_share))
    (q232 : PySem.W.keepIn K (.ref f_told_share) = true)
    (q233 : mg "told_row" = some (.ref f_told_row))
    (q234 : PySem.W.keepIn K (.ref f_told_row) = true)
    (q235 : mg "read" = some (.ref f_read))
    (q236 : PySem.W.keepIn K (.ref f_read) = true)
    (q237 : mg "_law_read" = some (.ref f__law_read))
    (q238 : PySem.W.keepIn K (.ref f__law_read) = true)
    (q239 : mg "_law_same" = some (.ref f__law_same))
    (q240 : PySem.W.keepIn K (.ref f__law_same) = true)
    (q241 : mg "_law_is_chain" = some (.ref f__law_is_chain))
    (q242 : PySem.W.keepIn K (.ref f__law_is_chain) = true)
    (q243 : mg "law" = some (.ref f_law)) :
    FnOk P w K mg base CX0 17 f_law fd_law ["_law_script"] (spLaw K) := by
  have F_law := Hx.fun_of D_law
  have F_Chain___init__ := Hx.fun_of D_Chain___init__
  have b_Chain___init__ := F_Chain___init__.binds (ps := ["self", "rows", "labels"]) fun _ _ _ _ _ _ us hl => match us, hl with | [_, _, _], _ => rfl
  have F_is_spread := Hx.fun_of D_is_spread
  have b_is_spread := F_is_spread.binds (ps := ["many", "thing"]) fun _ _ _ _ _ _ us hl => match us, hl with | [_, _], _ => rfl
  have F_is_tuple_of := Hx.fun_of D_is_tuple_of
  have b_is_tuple_of := F_is_tuple_of.binds (ps := ["many", "thing"]) fun _ _ _ _ _ _ us hl => match us, hl with | [_, _], _ => rfl
  have F_is_from_zero := Hx.fun_of D_is_from_zero
  have b_is_from_zero := F_is_from_zero.binds (ps := ["thing"]) fun _ _ _ _ _ _ us hl => match us, hl with | [_], _ => rfl
  have F_is_share := Hx.fun_of D_is_share
  have b_is_share := F_is_share.binds (ps := ["thing"]) fun _ _ _ _ _ _ us hl => match us, hl with | [_], _ => rfl
  have F_is_whole := Hx.fun_of D_is_whole
  have b_is_whole := F_is_whole.binds (ps := ["thing"]) fun _ _ _ _ _ _ us hl => match us, hl with | [_], _ => rfl
  have F_share_of := Hx.fun_of D_share_of
  have b_share_of := F_share_of.binds (ps := ["thing"]) fun _ _ _ _ _ _ us hl => match us, hl with | [_], _ => rfl
  have F_Share___init__ := D_Share___init__
  obtain ⟨e2_Share___init__, w2_Share___init__, b2_Share___init__⟩ := F_Share___init__.binds1 (ps := ["self", "top", "bottom"]) 3 1 (by simp) rfl fun _ _ _ _ _ _ _ us its hu hi => match us, its, hu, hi with | [_, _, _], [_], _, _ => ⟨_, rfl, rfl⟩
  cases w2_Share___init__
  obtain ⟨ds_Share___init__, v1_Share___init__, b1_Share___init__⟩ := F_Share___init__.binds1 (ps := ["self", "top", "bottom"]) 2 0 (by simp) rfl fun _ _ _ _ _ _ _ us its hu hi => match us, its, hu, hi with | [_, _], [_], _, _ => ⟨_, rfl, rfl⟩
  have F_BadShare___init__ := Hx.fun_of D_BadShare___init__
  have b_BadShare___init__ := F_BadShare___init__.binds (ps := ["self", "top", "bottom"]) fun _ _ _ _ _ _ us hl => match us, hl with | [_, _, _], _ => rfl
  have F_WalkError___init__ := D_WalkError___init__
  obtain ⟨e2_WalkError___init__, w2_WalkError___init__, b2_WalkError___init__⟩ := F_WalkError___init__.binds1 (ps := ["self", "words"]) 2 1 (by simp) rfl fun _ _ _ _ _ _ _ us its hu hi => match us, its, hu, hi with | [_, _], [_], _, _ => ⟨_, rfl, rfl⟩
  cases w2_WalkError___init__
  obtain ⟨ds_WalkError___init__, v1_WalkError___init__, b1_WalkError___init__⟩ := F_WalkError___init__.binds1 (ps := ["self", "words"]) 1 0 (by simp) rfl fun _ _ _ _ _ _ _ us its hu hi => match us, its, hu, hi with | [_], [_], _, _ => ⟨_, rfl, rfl⟩
  have F_Share_less := Hx.fun_of D_Share_less
  have b_Share_less := F_Share_less.binds (ps := ["self", "other"]) fun _ _ _ _ _ _ us hl => match us, hl with | [_, _], _ => rfl
  have F_total := Hx.fun_of D_total
  have b_total := F_total.binds (ps := ["row"]) fun _ _ _ _ _ _ us hl => match us, hl with | [_], _ => rfl
  have F_Share___add__ := Hx.fun_of D_Share___add__
  have b_Share___add__ := F_Share___add__.binds (ps := ["self", "other"]) fun _ _ _ _ _ _ us hl => match us, hl with | [_, _], _ => rfl
  have F_Share___radd__ := Hx.fun_of D_Share___radd__
  have b_Share___radd__ := F_Share___radd__.binds (ps := ["self", "other"]) fun _ _ _ _ _ _ us hl => match us, hl with | [_, _], _ => rfl
  have F_Share___eq__ := Hx.fun_of D_Share___eq__
  have b_Share___eq__ := F_Share___eq__.binds (ps := ["self", "other"]) fun _ _ _ _ _ _ us hl => match us, hl with | [_, _], _ => rfl
  have F_is_tuple_between := Hx.fun_of D_is_tuple_between
  have b_is_tuple_between := F_is_tuple_between.binds (ps := ["least", "most", "thing"]) fun _ _ _ _ _ _ us hl => match us, hl with | [_, _, _], _ => rfl
  have F_is_name_row := Hx.fun_of D_is_name_row
  have b_is_name_row := F_is_name_row.binds (ps := ["many", "thing"]) fun _ _ _ _ _ _ us hl => match us, hl with | [_, _], _ => rfl
  have F_is_name := Hx.fun_of D_is_name
  have b_is_name := F_is_name.binds (ps := ["thing"]) fun _ _ _ _ _ _ us hl => match us, hl with | [_], _ => rfl
  have F_shares_of := Hx.fun_of D_shares_of
  have b_shares_of := F_shares_of.binds (ps := ["row"]) fun _ _ _ _ _ _ us hl => match us, hl with | [_], _ => rfl
  have F_Chain_with_row := Hx.fun_of D_Chain_with_row
  have b_Chain_with_row := F_Chain_with_row.binds (ps := ["self", "state", "spread"]) fun _ _ _ _ _ _ us hl => match us, hl with | [_, _, _], _ => rfl
  have F_check_state := Hx.fun_of D_check_state
  have b_check_state := F_check_state.binds (ps := ["size", "state"]) fun _ _ _ _ _ _ us hl => match us, hl with | [_, _], _ => rfl
  have F_is_index := Hx.fun_of D_is_index
  have b_is_index := F_is_index.binds (ps := ["many", "thing"]) fun _ _ _ _ _ _ us hl => match us, hl with | [_, _], _ => rfl
  have F_is_between := Hx.fun_of D_is_between
  have b_is_between := F_is_between.binds (ps := ["least", "most", "thing"]) fun _ _ _ _ _ _ us hl => match us, hl with | [_, _, _], _ => rfl
  have F_NoState___init__ := Hx.fun_of D_NoState___init__
  have b_NoState___init__ := F_NoState___init__.binds (ps := ["self", "state"]) fun _ _ _ _ _ _ us hl => match us, hl with | [_, _], _ => rfl
  have F_Chain_with_label := Hx.fun_of D_Chain_with_label
  have b_Chain_with_label := F_Chain_with_label.binds (ps := ["self", "state", "name"]) fun _ _ _ _ _ _ us hl => match us, hl with | [_, _, _], _ => rfl
  have F_Chain___eq__ := Hx.fun_of D_Chain___eq__
  have b_Chain___eq__ := F_Chain___eq__.binds (ps := ["self", "other"]) fun _ _ _ _ _ _ us hl => match us, hl with | [_, _], _ => rfl
  have F__law_pool := Hx.fun_of D__law_pool
  have b__law_pool := F__law_pool.binds (ps := ["_law_script"]) fun _ _ _ _ _ _ us hl => match us, hl with | [_], _ => rfl
  have F__law_draw := Hx.fun_of D__law_draw
  have b__law_draw := F__law_draw.binds (ps := ["_law_pool_here", "_law_many"]) fun _ _ _ _ _ _ us hl => match us, hl with | [_, _], _ => rfl
  have F__law_size := Hx.fun_of D__law_size
  have b__law_size := F__law_size.binds (ps := ["_law_pool_here", "_law_most"]) fun _ _ _ _ _ _ us hl => match us, hl with | [_, _], _ => rfl
  have F__law_name := Hx.fun_of D__law_name
  have b__law_name := F__law_name.binds (ps := ["_law_pool_here", "_law_taken"]) fun _ _ _ _ _ _ us hl => match us, hl with | [_, _], _ => rfl
  have F__law_tops := Hx.fun_of D__law_tops
  have b__law_tops := F__law_tops.binds (ps := ["_law_pool_here", "_law_size_here"]) fun _ _ _ _ _ _ us hl => match us, hl with | [_, _], _ => rfl
  have F__law_spread := Hx.fun_of D__law_spread
  have b__law_spread := F__law_spread.binds (ps := ["_law_tops_here"]) fun _ _ _ _ _ _ us hl => match us, hl with | [_], _ => rfl
  have F__law_long_rows := Hx.fun_of D__law_long_rows
  have b__law_long_rows := F__law_long_rows.binds (ps := ["_law_pool_here", "_law_size_here"]) fun _ _ _ _ _ _ us hl => match us, hl with | [_, _], _ => rfl
  have F_Share___sub__ := Hx.fun_of D_Share___sub__
  have b_Share___sub__ := F_Share___sub__.binds (ps := ["self", "other"]) fun _ _ _ _ _ _ us hl => match us, hl with | [_, _], _ => rfl
  have F_Share___rsub__ := Hx.fun_of D_Share___rsub__
  have b_Share___rsub__ := F_Share___rsub__.binds (ps := ["self", "other"]) fun _ _ _ _ _ _ us hl => match us, hl with | [_, _], _ => rfl
  have F_Share___neg__ := Hx.fun_of D_Share___neg__
  have b_Share___neg__ := F_Share___neg__.binds (ps := ["self"]) fun _ _ _ _ _ _ us hl => match us, hl with | [_], _ => rfl
  have F__law_rows := Hx.fun_of D__law_rows
  have b__law_rows := F__law_rows.binds (ps := ["_law_pool_here", "_law_size_here"]) fun _ _ _ _ _ _ us hl => match us, hl with | [_, _], _ => rfl
  have F__law_rows_alike := Hx.fun_of D__law_rows_alike
  have b__law_rows_alike := F__law_rows_alike.binds (ps := ["_law_pool_here", "_law_size_here"]) fun _ _ _ _ _ _ us hl => match us, hl with | [_, _], _ => rfl
  have F__law_pick := Hx.fun_of D__law_pick
  have b__law_pick := F__law_pick.binds (ps := ["_law_pool_here", "_law_things"]) fun _ _ _ _ _ _ us hl => match us, hl with | [_, _], _ => rfl
  have F__law_moved_bit := Hx.fun_of D__law_moved_bit
  have b__law_moved_bit := F__law_moved_bit.binds (ps := ["_law_pool_here", "_law_tops_here"]) fun _ _ _ _ _ _ us hl => match us, hl with | [_, _], _ => rfl
  have F__law_rows_turning := Hx.fun_of D__law_rows_turning
  have b__law_rows_turning := F__law_rows_turning.binds (ps := ["_law_pool_here", "_law_size_here"]) fun _ _ _ _ _ _ us hl => match us, hl with | [_, _], _ => rfl
  have F__law_rows_parted := Hx.fun_of D__law_rows_parted
  have b__law_rows_parted := F__law_rows_parted.binds (ps := ["_law_pool_here", "_law_size_here"]) fun _ _ _ _ _ _ us hl => match us, hl with | [_, _], _ => rfl
  have F__law_long := Hx.fun_of D__law_long
  have b__law_long := F__law_long.binds (ps := ["_law_pool_here"]) fun _ _ _ _ _ _ us hl => match us, hl with | [_], _ => rfl
  have F_Share___mul__ := Hx.fun_of D_Share___mul__
  have b_Share___mul__ := F_Share___mul__.binds (ps := ["self", "other"]) fun _ _ _ _ _ _ us hl => match us, hl with | [_, _], _ => rfl
  have F_Share___rmul__ := Hx.fun_of D_Share___rmul__
  have b_Share___rmul__ := F_Share___rmul__.binds (ps := ["self", "other"]) fun _ _ _ _ _ _ us hl => match us, hl with | [_, _], _ => rfl
  have F__law_labels := Hx.fun_of D__law_labels
  have b__law_labels := F__law_labels.binds (ps := ["_law_pool_here", "_law_size_here"]) fun _ _ _ _ _ _ us hl => match us, hl with | [_, _], _ => rfl
  have F_written := Hx.fun_of D_written
  have b_written := F_written.binds (ps := ["chain"]) fun _ _ _ _ _ _ us hl => match us, hl with | [_], _ => rfl
  have F_Share___str__ := Hx.fun_of D_Share___str__
  have b_Share___str__ := F_Share___str__.binds (ps := ["self"]) fun _ _ _ _ _ _ us hl => match us, hl with | [_], _ => rfl
  have F_digits := Hx.fun_of D_digits
  have b_digits := F_digits.binds (ps := ["number"]) fun _ _ _ _ _ _ us hl => match us, hl with | [_], _ => rfl
  have F_Chain_row := Hx.fun_of D_Chain_row
  have b_Chain_row := F_Chain_row.binds (ps := ["self", "state"]) fun _ _ _ _ _ _ us hl => match us, hl with | [_, _], _ => rfl
  have F_Chain_label := Hx.fun_of D_Chain_label
  have b_Chain_label := F_Chain_label.binds (ps := ["self", "state"]) fun _ _ _ _ _ _ us hl => match us, hl with | [_, _], _ => rfl
  have F_closed_rows := Hx.fun_of D_closed_rows
  have b_closed_rows := F_closed_rows.binds (ps := ["rows"]) fun _ _ _ _ _ _ us hl => match us, hl with | [_], _ => rfl
  have F__law_text := Hx.fun_of D__law_text
  have b__law_text := F__law_text.binds (ps := ["_law_rows_here", "_law_labels_here"]) fun _ _ _ _ _ _ us hl => match us, hl with | [_, _], _ => rfl
  have F__law_write := Hx.fun_of D__law_write
  have b__law_write := F__law_write.binds (ps := ["_law_share"]) fun _ _ _ _ _ _ us hl => match us, hl with | [_], _ => rfl
  have F__law_too_long := Hx.fun_of D__law_too_long
  have b__law_too_long := F__law_too_long.binds (ps := ["_law_rows_here"]) fun _ _ _ _ _ _ us hl => match us, hl with | [_], _ => rfl
  have F__law_read := Hx.fun_of D__law_read
  have b__law_read := F__law_read.binds (ps := ["_law_text_here"]) fun _ _ _ _ _ _ us hl => match us, hl with | [_], _ => rfl
  have F_read := Hx.fun_of D_read
  have b_read := F_read.binds (ps := ["text"]) fun _ _ _ _ _ _ us hl => match us, hl with | [_], _ => rfl
  have F_BadText___init__ := Hx.fun_of D_BadText___init__
  have b_BadText___init__ := F_BadText___init__.binds (ps := ["self", "line"]) fun _ _ _ _ _ _ us hl => match us, hl with | [_, _], _ => rfl
  have F_text_rows := Hx.fun_of D_text_rows
  have b_text_rows := F_text_rows.binds (ps := ["text"]) fun _ _ _ _ _ _ us hl => match us, hl with | [_], _ => rfl
  have F_told_row := Hx.fun_of D_told_row
  have b_told_row := F_told_row.binds (ps := ["row"]) fun _ _ _ _ _ _ us hl => match us, hl with | [_], _ => rfl
  have F_told_share := Hx.fun_of D_told_share
  have b_told_share := F_told_share.binds (ps := ["word"]) fun _ _ _ _ _ _ us hl => match us, hl with | [_], _ => rfl
  have F_is_number_word := Hx.fun_of D_is_number_word
  have b_is_number_word := F_is_number_word.binds (ps := ["word"]) fun _ _ _ _ _ _ us hl => match us, hl with | [_], _ => rfl
  have F__law_same := Hx.fun_of D__law_same
  have b__law_same := F__law_same.binds (ps := ["_law_one", "_law_other"]) fun _ _ _ _ _ _ us hl => match us, hl with | [_, _], _ => rfl
  have F__law_is_chain := Hx.fun_of D__law_is_chain
  have b__law_is_chain := F__law_is_chain.binds (ps := ["_law_chain", "_law_rows_here", "_law_labels_here"]) fun _ _ _ _ _ _ us hl => match us, hl with | [_, _, _], _ => rfl
  have x0 : Bn mg := { n_isinstance := q0, n_int := q1, n_bool := q2, n_abs := q3, n_len := q4, n_str := q5, n_divmod := q6, n_ValueError := q7 }
  have x1 : Bm mg := { b := x0, n_list := q8, n_tuple := q9, n_range := q10, n_sum := q11, n_min := q12, n_max := q13, n_all := q14 }
  have x2 : Cls K c_Chain := { pg := q15, hd := q16, po := q17, sa := q18 }
  have x3 : InsT K c_Chain := { cl := x2, ha := q19, hn := q20, htk := q21, hm := q22, kint := q23, kbool := q24, kself := q25, oint := q26, obool := q27, onon := q28, ostr := q29, olst := q30, otup := q31, odct := q32 }
  have x4 : ChT K mg c_Chain := { it := x3, nS := q33, nR := q34, nL := q35, gC := q36, gM := q37 }
  have x5 : Mk K c_Chain f_Chain___init__ := { makes := q38, init := q39, fn := q40, kp := q41 }
  have x6 : Cls K c_Share := { pg := q42, hd := q43, po := q44, sa := q45 }
  have x7 : InsT K c_Share := { cl := x6, ha := q46, hn := q20, htk := q21, hm := q47, kint := q48, kbool := q49, kself := q50, oint := q51, obool := q52, onon := q53, ostr := q54, olst := q55, otup := q56, odct := q57 }
  have x8 : ShT K mg c_Share := { bn := x0, it := x7, nT := q58, nB := q59, g_gcd := q60, g_Share := q61 }
  have x9 : FnOk P w K mg base CX0 1 f_is_tuple_of fd_is_tuple_of ["many", "thing"] (spTupOf K c_Share) := (ok_tupOf F_is_tuple_of x8 q9 q62)
  have x10 : Cal P w K mg base 1 "is_tuple_of" ["many", "thing"] (spTupOf K c_Share) := ⟨_, _, q63, q64, x9, b_is_tuple_of⟩
  have x11 : FnOk P w K mg base CX0 1 f_is_whole fd_is_whole ["thing"] (spWhole K c_Share) := (ok_is_whole F_is_whole x0 x7)
  have x12 : Cal P w K mg base 1 "is_whole" ["thing"] (spWhole K c_Share) := ⟨_, _, q65, q66, x11, b_is_whole⟩
  have x13 : FnOk P w K mg base CX0 2 f_is_share fd_is_share ["thing"] (spIsShare K c_Share) := (ok_is_share F_is_share x8 x12)
  have x14 : Cal P w K mg base 2 "is_share" ["thing"] (spIsShare K c_Share) := ⟨_, _, q67, q68, x13, b_is_share⟩
  have x15 : Mk K c_Share f_Share___init__ := { makes := q69, init := q70, fn := q71, kp := q72 }
  have x16 : ClsFn K c_WalkError (.type "type") "__init__" f_WalkError___init__ := { rd := q77, ga := q78, at_ := q79, kp := q80 }
  have x17 : FnOk P w K mg base CX0 1 f_WalkError___init__ fd_WalkError___init__ ["self", "words"] (spWE K) := (ok_WE F_WalkError___init__ x0 q81)
  have x18 : FnOk P w K mg base CX0 2 f_BadShare___init__ fd_BadShare___init__ ["self", "top", "bottom"] (spBS K c_BadShare) := (ok_BS F_BadShare___init__ q76 x16 x17 b2_WalkError___init__)
  have x19 : ∃ (fI : Addr) (fd : FuncData), PySem.W.findIn K (.ref c_BadShare) "__init__" = some (some (.ref fI)) ∧ PySem.W.typeIn K (.ref fI) = some (.type "function") ∧ FnOk P w K mg base CX0 2 fI fd ["self", "top", "bottom"] (spBS K c_BadShare) ∧ Binds K fd ["self", "top", "bottom"] [] := ⟨_, _, q74, q75, x18, b_BadShare___init__⟩
  have x20 : BsT P w K mg base c_BadShare := { O := q82, nt := q83, nb := q84, gB := q73, made := x19 }
  have x21 : FnOk P w K mg base (L2.CX P w) 4 f_Share___init__ fd_Share___init__ ["self", "top", "bottom"] (spSI K c_Share c_BadShare) := (ok_SI F_Share___init__ x8 x20 x12)
  have x22 : ∃ (f : Addr) (fd : FuncData) (ds : List Value), Mk K c_Share f ∧ FnOk P w K mg base (L2.CX P w) 4 f fd ["self", "top", "bottom"] (spSI K c_Share c_BadShare) ∧ Binds K fd ["self", "top", "bottom"] [] ∧ Vals [.int 1] ds ∧ Binds K fd ["self", "top", "bottom"] ds := ⟨_, _, _, x15, x21, b2_Share___init__, v1_Share___init__, b1_Share___init__⟩
  have x23 : MkT P w K mg base c_Share c_BadShare := { ex := x22, gS := q61 }
  have x24 : FnOk P w K mg base CX0 6 f_share_of fd_share_of ["thing"] (spShareOf c_Share) := (ok_share_of F_share_of x8 x23)
  have x25 : Cal P w K mg base 6 "share_of" ["thing"] (spShareOf c_Share) := ⟨_, _, q85, q86, x24, b_share_of⟩
  have x26 : Meth K c_Share "less" f_Share_less := { at_ := q87, fn := q88, kp := q89 }
  have x27 : FnOk P w K mg base CX0 7 f_Share_less fd_Share_less ["self", "other"] (spLess c_Share) := (ok_sless F_Share_less x8 x25)
  have x28 : ∃ (f : Addr) (fd : FuncData), Meth K c_Share "less" f ∧ FnOk P w K mg base CX0 7 f fd ["self", "other"] (spLess c_Share) ∧ Binds K fd ["self", "other"] [] := ⟨_, _, x26, x27, b_Share_less⟩
  have x29 : LsT P w K mg base c_Share := { ex := x28 }
  have x30 : FnOk P w K mg base CX0 8 f_is_from_zero fd_is_from_zero ["thing"] (spFrom0 K c_Share) := (ok_from0 F_is_from_zero x8 x14 x25 x29)
  have x31 : Cal P w K mg base 8 "is_from_zero" ["thing"] (spFrom0 K c_Share) := ⟨_, _, q90, q91, x30, b_is_from_zero⟩
  have x32 : NoTxt K c_Share := { str := q92, byt := q93, bar := q94 }
  have x33 : ArL K c_Share .Add "+" "add" f_Share___add__ := { hi := rfl, hc := q95, hs := q96, hf := q97 }
  have x34 : ArR K c_Share "add" f_Share___radd__ := { hr := q98, hg := q99, ho := q100, hn := PySem.F.fills_int_add, up := q101, dn := q102, dec := ⟨_, PySem.F.slot_int_add, OA.dec_add⟩ }
  have x35 : FnOk P w K mg base CX0 7 f_Share___add__ fd_Share___add__ ["self", "other"] (spAdd c_Share) := (ok_add F_Share___add__ x8 x23 x14 x25)
  have x36 : ∃ (f g : Addr) (fd : FuncData), ArL K c_Share .Add "+" "add" f ∧ ArR K c_Share "add" g ∧ FnOk P w K mg base CX0 7 f fd ["self", "other"] (spAdd c_Share) ∧ Binds K fd ["self", "other"] [] := ⟨_, _, _, x33, x34, x35, b_Share___add__⟩
  have x37 : ArTL P w K mg base c_Share .Add "+" "add" 7 (spAdd c_Share) := { ex := x36 }
  have x38 : FnOk P w K mg base CX0 8 f_Share___radd__ fd_Share___radd__ ["self", "other"] (spRadd c_Share) := (ok_radd F_Share___radd__ x12 x37)
  have x39 : ∃ (f g : Addr) (fd gd : FuncData), ArL K c_Share .Add "+" "add" f ∧ ArR K c_Share "add" g ∧ FnOk P w K mg base CX0 7 f fd ["self", "other"] (spAdd c_Share) ∧ Binds K fd ["self", "other"] [] ∧ FnOk P w K mg base CX0 8 g gd ["self", "other"] (spRadd c_Share) ∧ Binds K gd ["self", "other"] [] := ⟨_, _, _, _, x33, x34, x35, b_Share___add__, x38, b_Share___radd__⟩
  have x40 : ArT P w K mg base c_Share .Add "+" "add" 7 8 (spAdd c_Share) (spRadd c_Share) := { ex := x39 }
  have x41 : FnOk P w K mg base CX0 10 f_total fd_total ["row"] (spTotal K c_Share) := (ok_total F_total x23 x32 q11 x40)
  have x42 : Cal P w K mg base 10 "total" ["row"] (spTotal K c_Share) := ⟨_, _, q103, q104, x41, b_total⟩
  have x43 : OC.OwnQ K c_Share f_Share___eq__ := { eq := q105, ne := q106, ob := q47, fn := q107 }
  have x44 : OwnT K c_Share f_Share___eq__ := { q := x43, sint := q102, sbool := q108, snon := q109, sstr := q92, slst := q110, stup := q111, sdct := q112 }
  have x45 : FnOk P w K mg base CX0 2 f_Share___eq__ fd_Share___eq__ ["self", "other"] (spOwn (EqS K c_Share)) := (ok_eq F_Share___eq__ x8 x12)
  have x46 : ∃ (f : Addr) (fd : FuncData), OwnT K c_Share f ∧ FnOk P w K mg base CX0 2 f fd ["self", "other"] (spOwn (EqS K c_Share)) ∧ Binds K fd ["self", "other"] [] := ⟨_, _, x44, x45, b_Share___eq__⟩
  have x47 : EqT P w K mg base c_Share := { ex := x46 }
  have x48 : FnOk P w K mg base CX0 11 f_is_spread fd_is_spread ["many", "thing"] (spSpread K c_Share) := (ok_spread F_is_spread q14 x10 x31 x42 x47)
  have x49 : Cal P w K mg base 11 "is_spread" ["many", "thing"] (spSpread K c_Share) := ⟨_, _, q113, q114, x48, b_is_spread⟩
  have x50 : FnOk P w K mg base CX0 1 f_is_tuple_between fd_is_tuple_between ["least", "most", "thing"] spTupBet := (ok_tupBet F_is_tuple_between x1)
  have x51 : Cal P w K mg base 1 "is_tuple_between" ["least", "most", "thing"] spTupBet := ⟨_, _, q115, q116, x50, b_is_tuple_between⟩
  have x52 : FnOk P w K mg base CX0 1 f_is_name fd_is_name ["thing"] spIsName := (ok_is_name F_is_name x1 q117)
  have x53 : Cal P w K mg base 1 "is_name" ["thing"] spIsName := ⟨_, _, q118, q119, x52, b_is_name⟩
  have x54 : FnOk P w K mg base CX0 2 f_is_name_row fd_is_name_row ["many", "thing"] spNameRow := (ok_nameRow F_is_name_row x1 x10 x53)
  have x55 : Cal P w K mg base 2 "is_name_row" ["many", "thing"] spNameRow := ⟨_, _, q120, q121, x54, b_is_name_row⟩
  have x56 : FnOk P w K mg base CX0 7 f_shares_of fd_shares_of ["row"] (spSharesOf c_Share) := (ok_shares_of F_shares_of x1 x25)
  have x57 : Cal P w K mg base 7 "shares_of" ["row"] (spSharesOf c_Share) := ⟨_, _, q122, q123, x56, b_shares_of⟩
  have x58 : FnOk P w K mg base CX0 12 f_Chain___init__ fd_Chain___init__ ["self", "rows", "labels"] (spCI c_Share c_Chain) := (ok_CI F_Chain___init__ x1 x4 x49 x51 x55 x57)
  have x59 : ∃ (f : Addr) (fd : FuncData), Mk K c_Chain f ∧ FnOk P w K mg base CX0 12 f fd ["self", "rows", "labels"] (spCI c_Share c_Chain) ∧ Binds K fd ["self", "rows", "labels"] [] := ⟨_, _, x5, x58, b_Chain___init__⟩
  have x60 : MkC P w K mg base c_Share c_Chain := { ex := x59, gC := q36 }
  have x61 : Meth K c_Chain "with_row" f_Chain_with_row := { at_ := q124, fn := q125, kp := q126 }
  have x62 : FnOk P w K mg base CX0 1 f_is_whole fd_is_whole ["thing"] (spWhole2 K c_Share c_Chain) := (ok_is_whole2 F_is_whole x0 x7 x3)
  have x63 : Cal P w K mg base 1 "is_whole" ["thing"] (spWhole2 K c_Share c_Chain) := ⟨_, _, q65, q66, x62, b_is_whole⟩
  have x64 : FnOk P w K mg base CX0 2 f_is_between fd_is_between ["least", "most", "thing"] (spBetween K c_Share c_Chain) := (ok_is_between F_is_between x63)
  have x65 : Cal P w K mg base 2 "is_between" ["least", "most", "thing"] (spBetween K c_Share c_Chain) := ⟨_, _, q127, q128, x64, b_is_between⟩
  have x66 : FnOk P w K mg base CX0 3 f_is_index fd_is_index ["many", "thing"] (spIndex K c_Share c_Chain) := (ok_is_index F_is_index x65)
  have x67 : Cal P w K mg base 3 "is_index" ["many", "thing"] (spIndex K c_Share c_Chain) := ⟨_, _, q129, q130, x66, b_is_index⟩
  have x68 : FnOk P w K mg base CX0 2 f_NoState___init__ fd_NoState___init__ ["self", "state"] (spNS K c_NoState) := (ok_NS F_NoState___init__ q76 x16 x17 b2_WalkError___init__)
  have x69 : ∃ (fI : Addr) (fd : FuncData), PySem.W.findIn K (.ref c_NoState) "__init__" = some (some (.ref fI)) ∧ PySem.W.typeIn K (.ref fI) = some (.type "function") ∧ FnOk P w K mg base CX0 2 fI fd ["self", "state"] (spNS K c_NoState) ∧ Binds K fd ["self", "state"] [] := ⟨_, _, q132, q133, x68, b_NoState___init__⟩
  have x70 : NsT P w K mg base c_NoState := { O := q134, nf := q135, gB := q131, made := x69 }
  have x71 : FnOk P w K mg base (L2.CX P w) 4 f_check_state fd_check_state ["size", "state"] (spCheck K c_Share c_Chain c_NoState) := (ok_check F_check_state x67 x70)
  have x72 : CalX P w K mg base 4 "check_state" ["size", "state"] (spCheck K c_Share c_Chain c_NoState) := ⟨_, _, q136, q137, x71, b_check_state⟩
  have x73 : FnOk P w K mg base CX0 14 f_Chain_with_row fd_Chain_with_row ["self", "state", "spread"] (spWithRow c_Share c_Chain) := (ok_withrow F_Chain_with_row x4 x60 x72)
  have x74 : ∃ (f : Addr) (fd : FuncData), Meth K c_Chain "with_row" f ∧ FnOk P w K mg base CX0 14 f fd ["self", "state", "spread"] (spWithRow c_Share c_Chain) ∧ Binds K fd ["self", "state", "spread"] [] := ⟨_, _, x61, x73, b_Chain_with_row⟩
  have x75 : WrT P w K mg base c_Share c_Chain := { ex := x74 }
  have x76 : Meth K c_Chain "with_label" f_Chain_with_label := { at_ := q138, fn := q139, kp := q140 }
  have x77 : FnOk P w K mg base CX0 14 f_Chain_with_label fd_Chain_with_label ["self", "state", "name"] (spWithLabel c_Share c_Chain) := (ok_withlab F_Chain_with_label x4 x60 x72)
  have x78 : ∃ (f : Addr) (fd : FuncData), Meth K c_Chain "with_label" f ∧ FnOk P w K mg base CX0 14 f fd ["self", "state", "name"] (spWithLabel c_Share c_Chain) ∧ Binds K fd ["self", "state", "name"] [] := ⟨_, _, x76, x77, b_Chain_with_label⟩
  have x79 : WlT P w K mg base c_Share c_Chain := { ex := x78 }
  have x80 : OC.OwnQ K c_Chain f_Chain___eq__ := { eq := q141, ne := q142, ob := q22, fn := q143 }
  have x81 : OwnT K c_Chain f_Chain___eq__ := { q := x80, sint := q144, sbool := q145, snon := q146, sstr := q147, slst := q148, stup := q149, sdct := q150 }
  have x82 : FnOk P w K mg base CX0 6 f_Chain___eq__ fd_Chain___eq__ ["self", "other"] (spOwn (EqC c_Share c_Chain)) := (ok_ceq F_Chain___eq__ x1 x4 x47)
  have x83 : ∃ (f : Addr) (fd : FuncData), OwnT K c_Chain f ∧ FnOk P w K mg base CX0 6 f fd ["self", "other"] (spOwn (EqC c_Share c_Chain)) ∧ Binds K fd ["self", "other"] [] := ⟨_, _, x81, x82, b_Chain___eq__⟩
  have x84 : EqCT P w K mg base c_Share c_Chain := { ex := x83 }
  have x85 : FnOk P w K mg base CX0 1 f__law_pool fd__law_pool ["_law_script"] (spPool K) := (ok_pool F__law_pool x0)
  have x86 : Cal P w K mg base 1 "_law_pool" ["_law_script"] (spPool K) := ⟨_, _, q151, q152, x85, b__law_pool⟩
  have x87 : FnOk P w K mg base CX0 1 f__law_draw fd__law_draw ["_law_pool_here", "_law_many"] spDraw := (ok_draw F__law_draw x0)
  have x88 : Cal P w K mg base 1 "_law_draw" ["_law_pool_here", "_law_many"] spDraw := ⟨_, _, q153, q154, x87, b__law_draw⟩
  have x89 : FnOk P w K mg base CX0 2 f__law_size fd__law_size ["_law_pool_here", "_law_most"] spSize := (ok_size F__law_size x1 x88)
  have x90 : Cal P w K mg base 2 "_law_size" ["_law_pool_here", "_law_most"] spSize := ⟨_, _, q155, q156, x89, b__law_size⟩
  have x91 : FnOk P w K mg base CX0 2 f__law_name fd__law_name ["_law_pool_here", "_law_taken"] spName := (ok_name F__law_name x1 x88)
  have x92 : Cal P w K mg base 2 "_law_name" ["_law_pool_here", "_law_taken"] spName := ⟨_, _, q157, q158, x91, b__law_name⟩
  have x93 : FnOk P w K mg base CX0 2 f__law_tops fd__law_tops ["_law_pool_here", "_law_size_here"] spTops := (ok_tops F__law_tops x1 x88)
  have x94 : Cal P w K mg base 2 "_law_tops" ["_law_pool_here", "_law_size_here"] spTops := ⟨_, _, q159, q160, x93, b__law_tops⟩
  have x95 : FnOk P w K mg base CX0 6 f__law_spread fd__law_spread ["_law_tops_here"] (spSpreadL c_Share) := (ok_spreadL F__law_spread x1 x23)
  have x96 : Cal P w K mg base 6 "_law_spread" ["_law_tops_here"] (spSpreadL c_Share) := ⟨_, _, q161, q162, x95, b__law_spread⟩
  have x97 : ArL K c_Share .Sub "-" "sub" f_Share___sub__ := { hi := rfl, hc := q95, hs := q163, hf := q164 }
  have x98 : ArR K c_Share "sub" f_Share___rsub__ := { hr := q165, hg := q166, ho := q167, hn := PySem.F.fills_int_sub, up := q101, dn := q102, dec := ⟨_, PySem.F.slot_int_sub, OA.dec_sub⟩ }
  have x99 : FnOk P w K mg base CX0 6 f_Share___neg__ fd_Share___neg__ ["self"] (spNeg c_Share) := (ok_neg F_Share___neg__ x8 x23)
  have x100 : ∃ (f : Addr) (fd : FuncData), PySem.W.findIn K (.ref c_Share) "__neg__" = some (some (.ref f)) ∧ PySem.W.isFn K (.ref f) = true ∧ FnOk P w K mg base CX0 6 f fd ["self"] (spNeg c_Share) ∧ Binds K fd ["self"] [] := ⟨_, _, q168, q169, x99, b_Share___neg__⟩
  have x101 : NegT P w K mg base c_Share 6 (spNeg c_Share) := { ex := x100 }
  have x102 : FnOk P w K mg base CX0 8 f_Share___sub__ fd_Share___sub__ ["self", "other"] (spSub c_Share) := (ok_sub F_Share___sub__ x14 x37 x101)
  have x103 : FnOk P w K mg base CX0 8 f_Share___rsub__ fd_Share___rsub__ ["self", "other"] (spRsub c_Share) := (ok_rsub F_Share___rsub__ x12 x37 x101)
  have x104 : ∃ (f g : Addr) (fd gd : FuncData), ArL K c_Share .Sub "-" "sub" f ∧ ArR K c_Share "sub" g ∧ FnOk P w K mg base CX0 8 f fd ["self", "other"] (spSub c_Share) ∧ Binds K fd ["self", "other"] [] ∧ FnOk P w K mg base CX0 8 g gd ["self", "other"] (spRsub c_Share) ∧ Binds K gd ["self", "other"] [] := ⟨_, _, _, _, x97, x98, x102, b_Share___sub__, x103, b_Share___rsub__⟩
  have x105 : ArT P w K mg base c_Share .Sub "-" "sub" 8 8 (spSub c_Share) (spRsub c_Share) := { ex := x104 }
  have x106 : FnOk P w K mg base CX0 2 f__law_pick fd__law_pick ["_law_pool_here", "_law_things"] spPickQ := (ok_pickQ F__law_pick x0 x88)
  have x107 : Cal P w K mg base 2 "_law_pick" ["_law_pool_here", "_law_things"] spPickQ := ⟨_, _, q170, q171, x106, b__law_pick⟩
  have x108 : FnOk P w K mg base CX0 2 f__law_moved_bit fd__law_moved_bit ["_law_pool_here", "_law_tops_here"] spMoved := (ok_moved F__law_moved_bit x1 x88)
  have x109 : Cal P w K mg base 2 "_law_moved_bit" ["_law_pool_here", "_law_tops_here"] spMoved := ⟨_, _, q172, q173, x108, b__law_moved_bit⟩
  have x110 : FnOk P w K mg base CX0 3 f__law_rows_alike fd__law_rows_alike ["_law_pool_here", "_law_size_here"] spRowsG := (ok_alike F__law_rows_alike x1 x88 x107 x94 x109)
  have x111 : Cal P w K mg base 3 "_law_rows_alike" ["_law_pool_here", "_law_size_here"] spRowsG := ⟨_, _, q174, q175, x110, b__law_rows_alike⟩
  have x112 : FnOk P w K mg base CX0 3 f__law_rows_turning fd__law_rows_turning ["_law_pool_here", "_law_size_here"] spRowsG := (ok_turning F__law_rows_turning x1 x88)
  have x113 : Cal P w K mg base 3 "_law_rows_turning" ["_law_pool_here", "_law_size_here"] spRowsG := ⟨_, _, q176, q177, x112, b__law_rows_turning⟩
  have x114 : FnOk P w K mg base CX0 3 f__law_rows_parted fd__law_rows_parted ["_law_pool_here", "_law_size_here"] spRowsG := (ok_parted F__law_rows_parted x1 x88 x94)
  have x115 : Cal P w K mg base 3 "_law_rows_parted" ["_law_pool_here", "_law_size_here"] spRowsG := ⟨_, _, q178, q179, x114, b__law_rows_parted⟩
  have x116 : FnOk P w K mg base CX0 4 f__law_rows fd__law_rows ["_law_pool_here", "_law_size_here"] spRowsG := (ok_rows F__law_rows x1 x88 x94 x111 x113 x115)
  have x117 : Cal P w K mg base 4 "_law_rows" ["_law_pool_here", "_law_size_here"] spRowsG := ⟨_, _, q180, q181, x116, b__law_rows⟩
  have x118 : ArL K c_Share .Mult "*" "mul" f_Share___mul__ := { hi := rfl, hc := q95, hs := q182, hf := q183 }
  have x119 : ArR K c_Share "mul" f_Share___rmul__ := { hr := q184, hg := q185, ho := q186, hn := PySem.F.fills_int_mul, up := q101, dn := q102, dec := ⟨_, PySem.F.slot_int_mul, OA.dec_mul⟩ }
  have x120 : FnOk P w K mg base CX0 7 f_Share___mul__ fd_Share___mul__ ["self", "other"] (spMul c_Share) := (ok_mul F_Share___mul__ x8 x23 x14 x25)
  have x121 : ∃ (f g : Addr) (fd : FuncData), ArL K c_Share .Mult "*" "mul" f ∧ ArR K c_Share "mul" g ∧ FnOk P w K mg base CX0 7 f fd ["self", "other"] (spMul c_Share) ∧ Binds K fd ["self", "other"] [] := ⟨_, _, _, x118, x119, x120, b_Share___mul__⟩
  have x122 : ArTL P w K mg base c_Share .Mult "*" "mul" 7 (spMul c_Share) := { ex := x121 }
  have x123 : FnOk P w K mg base CX0 8 f__law_long fd__law_long ["_law_pool_here"] (spLong c_Share) := (ok_lng F__law_long x1 x23 x122 x88)
  have x124 : Cal P w K mg base 8 "_law_long" ["_law_pool_here"] (spLong c_Share) := ⟨_, _, q187, q188, x123, b__law_long⟩
  have x125 : FnOk P w K mg base CX0 10 f__law_long_rows fd__law_long_rows ["_law_pool_here", "_law_size_here"] (spLongRows c_Share) := (ok_lrows F__law_long_rows x1 x23 x105 x88 x117 x96 x124)
  have x126 : Cal P w K mg base 10 "_law_long_rows" ["_law_pool_here", "_law_size_here"] (spLongRows c_Share) := ⟨_, _, q189, q190, x125, b__law_long_rows⟩
  have x127 : FnOk P w K mg base CX0 3 f__law_labels fd__law_labels ["_law_pool_here", "_law_size_here"] spLabels := (ok_labels F__law_labels x1 x88 x92)
  have x128 : Cal P w K mg base 3 "_law_labels" ["_law_pool_here", "_law_size_here"] spLabels := ⟨_, _, q191, q192, x127, b__law_labels⟩
  obtain ⟨tk_BLOCK, y_BLOCK⟩ := q195
  have x130 : FnOk P w K mg base CX0 1 f_digits fd_digits ["number"] spDigL := (ok_digits F_digits x1 y_BLOCK)
  have x131 : Cal P w K mg base 1 "digits" ["number"] spDigL := ⟨_, _, q196, q197, x130, b_digits⟩
  have x132 : FnOk P w K mg base CX0 2 f_Share___str__ fd_Share___str__ ["self"] (spStrL c_Share) := (ok_str F_Share___str__ x8 x131)
  have x133 : ∃ (f : Addr) (fd : FuncData), PySem.W.findIn K (.ref c_Share) "__str__" = some (some (.ref f)) ∧ PySem.W.isFn K (.ref f) = true ∧ FnOk P w K mg base CX0 2 f fd ["self"] (spStrL c_Share) ∧ Binds K fd ["self"] [] := ⟨_, _, q193, q194, x132, b_Share___str__⟩
  have x134 : StrT P w K mg base c_Share := { ex := x133 }
  have x135 : Meth K c_Chain "row" f_Chain_row := { at_ := q198, fn := q199, kp := q200 }
  have x136 : FnOk P w K mg base CX0 5 f_Chain_row fd_Chain_row ["self", "state"] (spChRow c_Share c_Chain) := (ok_chrow F_Chain_row x4 x72)
  have x137 : ∃ (f : Addr) (fd : FuncData), Meth K c_Chain "row" f ∧ FnOk P w K mg base CX0 5 f fd ["self", "state"] (spChRow c_Share c_Chain) ∧ Binds K fd ["self", "state"] [] := ⟨_, _, x135, x136, b_Chain_row⟩
  have x138 : RowT P w K mg base c_Share c_Chain := { ex := x137 }
  have x139 : Meth K c_Chain "label" f_Chain_label := { at_ := q201, fn := q202, kp := q203 }
  have x140 : FnOk P w K mg base CX0 5 f_Chain_label fd_Chain_label ["self", "state"] (spChLabel c_Share c_Chain) := (ok_chlabel F_Chain_label x4 x72)
  have x141 : ∃ (f : Addr) (fd : FuncData), Meth K c_Chain "label" f ∧ FnOk P w K mg base CX0 5 f fd ["self", "state"] (spChLabel c_Share c_Chain) ∧ Binds K fd ["self", "state"] [] := ⟨_, _, x139, x140, b_Chain_label⟩
  have x142 : LabT P w K mg base c_Share c_Chain := { ex := x141 }
  have x143 : FnOk P w K mg base CX0 1 f_closed_rows fd_closed_rows ["rows"] spClosed := (ok_closed F_closed_rows x1)
  have x144 : Cal P w K mg base 1 "closed_rows" ["rows"] spClosed := ⟨_, _, q204, q205, x143, b_closed_rows⟩
  have x145 : FnOk P w K mg base CX0 6 f_written fd_written ["chain"] (spWritten c_Share c_Chain) := (ok_written F_written x1 x4 x134 x138 x142 x144)
  have x146 : Cal P w K mg base 6 "written" ["chain"] (spWritten c_Share c_Chain) := ⟨_, _, q206, q207, x145, b_written⟩
  have x147 : FnOk P w K mg base CX0 1 f__law_write fd__law_write ["_law_share"] (spWrite c_Share) := (ok_write F__law_write x8)
  have x148 : Cal P w K mg base 1 "_law_write" ["_law_share"] (spWrite c_Share) := ⟨_, _, q208, q209, x147, b__law_write⟩
  have x149 : FnOk P w K mg base CX0 2 f__law_text fd__law_text ["_law_rows_here", "_law_labels_here"] (spText c_Share) := (ok_text F__law_text x1 x148)
  have x150 : Cal P w K mg base 2 "_law_text" ["_law_rows_here", "_law_labels_here"] (spText c_Share) := ⟨_, _, q210, q211, x149, b__law_text⟩
  have x151 : FnOk P w K mg base CX0 1 f__law_too_long fd__law_too_long ["_law_rows_here"] (spTooLong c_Share) := (ok_long F__law_too_long x1 x8)
  have x152 : Cal P w K mg base 1 "_law_too_long" ["_law_rows_here"] (spTooLong c_Share) := ⟨_, _, q212, q213, x151, b__law_too_long⟩
  have x153 : XfC K c_BadText := { ga := q215, gg := q216, exC := q217, hdC := q218 }
  have x154 : BtC K mg c_BadText := { xf := x153, xm := q219, ns := q220, gB := q214 }
  have x155 : FnOk P w K mg base CX0 2 f_BadText___init__ fd_BadText___init__ ["self", "line"] (spBT K c_BadText) := (ok_BT F_BadText___init__ q76 x16 x17 b2_WalkError___init__)
  have x156 : ∃ (fI : Addr) (fd : FuncData), PySem.W.findIn K (.ref c_BadText) "__init__" = some (some (.ref fI)) ∧ PySem.W.typeIn K (.ref fI) = some (.type "function") ∧ FnOk P w K mg base CX0 2 fI fd ["self", "line"] (spBT K c_BadText) ∧ Binds K fd ["self", "line"] [] := ⟨_, _, q223, q224, x155, b_BadText___init__⟩
  have x157 : BtxT P w K mg base c_BadText := { O := q222, nf := q220, gB := q214, made := x156 }
  have x158 : FnOk P w K mg base CX0 1 f_text_rows fd_text_rows ["text"] spTextRows := (ok_trows F_text_rows x1)
  have x159 : Cal P w K mg base 1 "text_rows" ["text"] spTextRows := ⟨_, _, q225, q226, x158, b_text_rows⟩
  have x160 : DgG mg := { gM := q227, gD := q228 }
  have x161 : FnOk P w K mg base CX0 1 f_is_number_word fd_is_number_word ["word"] spNumWord := (ok_numw F_is_number_word x1 x160)
  have x162 : Cal P w K mg base 1 "is_number_word" ["word"] spNumWord := ⟨_, _, q229, q230, x161, b_is_number_word⟩
  have x163 : FnOk P w K mg base CX0 6 f_told_share fd_told_share ["word"] (spTold c_Share) := (ok_told F_told_share x1 x23 x134 x162)
  have x164 : Cal P w K mg base 6 "told_share" ["word"] (spTold c_Share) := ⟨_, _, q231, q232, x163, b_told_share⟩
  have x165 : FnOk P w K mg base CX0 12 f_told_row fd_told_row ["row"] (spToldRow c_Share) := (ok_trow F_told_row x1 x4 x53 x164 x49)
  have x166 : Cal P w K mg base 12 "told_row" ["row"] (spToldRow c_Share) := ⟨_, _, q233, q234, x165, b_told_row⟩
  have x167 : FnOk P w K mg base (L2.CX P w) 14 f_read fd_read ["text"] (spRead c_Share c_Chain c_BadText) := (ok_read F_read x1 q221 x60 x157 x159 x166)
  have x168 : CalX P w K mg base 14 "read" ["text"] (spRead c_Share c_Chain c_BadText) := ⟨_, _, q235, q236, x167, b_read⟩
  have x169 : FnOk P w K mg base CX0 15 f__law_read fd__law_read ["_law_text_here"] (spReadL c_Share c_Chain) := (ok_lread F__law_read x154 x168)
  have x170 : Cal P w K mg base 15 "_law_read" ["_law_text_here"] (spReadL c_Share c_Chain) := ⟨_, _, q237, q238, x169, b__law_read⟩
  have x171 : FnOk P w K mg base CX0 1 f__law_same fd__law_same ["_law_one", "_law_other"] spSameI := (ok_same F__law_same x0)
  have x172 : Cal P w K mg base 1 "_law_same" ["_law_one", "_law_other"] spSameI := ⟨_, _, q239, q240, x171, b__law_same⟩
  have x173 : FnOk P w K mg base CX0 6 f__law_is_chain fd__law_is_chain ["_law_chain", "_law_rows_here", "_law_labels_here"] (spIsChain c_Share c_Chain) := (ok_ischain F__law_is_chain x1 x8 x4 x138 x142 x47)
  have x174 : Cal P w K mg base 6 "_law_is_chain" ["_law_chain", "_law_rows_here", "_law_labels_here"] (spIsChain c_Share c_Chain) := ⟨_, _, q241, q242, x173, b__law_is_chain⟩
  have x175 : LawT P w K mg base c_Share c_Chain c_BadText := { T := x1, t := x4, m := x60, wr := x75, wl := x79, eq := x47, ce := x84, pool := x86, draw := x88, size := x90, name := x92, tops := x94, spread := x96, rows := x126, labels := x128, written := x146, text := x150, long := x152, read := x170, same := x172, isch := x174 }
  exact ok_law F_law x175
end KI
set_option Elab.async false
set_option linter.all false
set_option maxRecDepth 100000
set_option maxHeartbeats 0
namespace KI
open PySem PySem.W PySem.Calls PyProof.Rows L2
def hd0 : He.DefD := ⟨("law", none), "law", "law", defArgs s_law, defBody s_law, defScope s_law, [], []⟩
def hd1 : He.DefD := ⟨("Chain", some "__init__"), "__init__", "Chain.__init__", defArgs s_CI, defBody s_CI, defScope s_CI, [], []⟩
def hd2 : He.DefD := ⟨("is_spread", none), "is_spread", "is_spread", defArgs s_spread, defBody s_spread, defScope s_spread, [], []⟩
def hd3 : He.DefD := ⟨("is_tuple_of", none), "is_tuple_of", "is_tuple_of", defArgs s_tupOf, defBody s_tupOf, defScope s_tupOf, [], []⟩
def hd4 : He.DefD := ⟨("is_from_zero", none), "is_from_zero", "is_from_zero", defArgs s_from0, defBody s_from0, defScope s_from0, [], []⟩
def hd5 : He.DefD := ⟨("is_share", none), "is_share", "is_share", defArgs s_is_share, defBody s_is_share, defScope s_is_share, [], []⟩
def hd6 : He.DefD := ⟨("is_whole", none), "is_whole", "is_whole", defArgs s_is_whole, defBody s_is_whole, defScope s_is_whole, [], []⟩
def hd7 : He.DefD := ⟨("share_of", none), "share_of", "share_of", defArgs s_share_of, defBody s_share_of, defScope s_share_of, [], []⟩
def hd8 : He.DefD := ⟨("Share", some "__init__"), "__init__", "Share.__init__", defArgs s_SI, defBody s_SI, defScope s_SI, [.int 1], []⟩
def hd9 : He.DefD := ⟨("BadShare", some "__init__"), "__init__", "BadShare.__init__", defArgs s_BS, defBody s_BS, defScope s_BS, [], []⟩
def hd10 : He.DefD := ⟨("WalkError", some "__init__"), "__init__", "WalkError.__init__", defArgs s_WE, defBody s_WE, defScope s_WE, [.str "the package was asked for what it cannot do"], []⟩
def hd11 : He.DefD := ⟨("Share", some "less"), "less", "Share.less", defArgs s_sless, defBody s_sless, defScope s_sless, [], []⟩
def hd12 : He.DefD := ⟨("total", none), "total", "total", defArgs s_total, defBody s_total, defScope s_total, [], []⟩
def hd13 : He.DefD := ⟨("Share", some "__add__"), "__add__", "Share.__add__", defArgs s_add, defBody s_add, defScope s_add, [], []⟩
def hd14 : He.DefD := ⟨("Share", some "__radd__"), "__radd__", "Share.__radd__", defArgs s_radd, defBody s_radd, defScope s_radd, [], []⟩
def hd15 : He.DefD := ⟨("Share", some "__eq__"), "__eq__", "Share.__eq__", defArgs s_eq, defBody s_eq, defScope s_eq, [], []⟩
def hd16 : He.DefD := ⟨("is_tuple_between", none), "is_tuple_between", "is_tuple_between", defArgs s_tupBet, defBody s_tupBet, defScope s_tupBet, [], []⟩
def hd17 : He.DefD := ⟨("is_name_row", none), "is_name_row", "is_name_row", defArgs s_nameRow, defBody s_nameRow, defScope s_nameRow, [], []⟩
def hd18 : He.DefD := ⟨("is_name", none), "is_name", "is_name", defArgs s_is_name, defBody s_is_name, defScope s_is_name, [], []⟩
def hd19 : He.DefD := ⟨("shares_of", none), "shares_of", "shares_of", defArgs s_shares_of, defBody s_shares_of, defScope s_shares_of, [], []⟩
def hd20 : He.DefD := ⟨("Chain", some "with_row"), "with_row", "Chain.with_row", defArgs s_withrow, defBody s_withrow, defScope s_withrow, [], []⟩
def hd21 : He.DefD := ⟨("check_state", none), "check_state", "check_state", defArgs s_check, defBody s_check, defScope s_check, [], []⟩
def hd22 : He.DefD := ⟨("is_index", none), "is_index", "is_index", defArgs s_is_index, defBody s_is_index, defScope s_is_index, [], []⟩
def hd23 : He.DefD := ⟨("is_between", none), "is_between", "is_between", defArgs s_is_between, defBody s_is_between, defScope s_is_between, [], []⟩
def hd24 : He.DefD := ⟨("NoState", some "__init__"), "__init__", "NoState.__init__", defArgs s_NS, defBody s_NS, defScope s_NS, [], []⟩
def hd25 : He.DefD := ⟨("Chain", some "with_label"), "with_label", "Chain.with_label", defArgs s_withlab, defBody s_withlab, defScope s_withlab, [], []⟩
def hd26 : He.DefD := ⟨("Chain", some "__eq__"), "__eq__", "Chain.__eq__", defArgs s_ceq, defBody s_ceq, defScope s_ceq, [], []⟩
def hd27 : He.DefD := ⟨("_law_pool", none), "_law_pool", "_law_pool", defArgs s_pool, defBody s_pool, defScope s_pool, [], []⟩
def hd28 : He.DefD := ⟨("_law_draw", none), "_law_draw", "_law_draw", defArgs s_draw, defBody s_draw, defScope s_draw, [], []⟩
def hd29 : He.DefD := ⟨("_law_size", none), "_law_size", "_law_size", defArgs s_size, defBody s_size, defScope s_size, [], []⟩
def hd30 : He.DefD := ⟨("_law_name", none), "_law_name", "_law_name", defArgs s_name, defBody s_name, defScope s_name, [], []⟩
def hd31 : He.DefD := ⟨("_law_tops", none), "_law_tops", "_law_tops", defArgs s_tops, defBody s_tops, defScope s_tops, [], []⟩
def hd32 : He.DefD := ⟨("_law_spread", none), "_law_spread", "_law_spread", defArgs s_spreadL, defBody s_spreadL, defScope s_spreadL, [], []⟩
def hd33 : He.DefD := ⟨("_law_long_rows", none), "_law_long_rows", "_law_long_rows", defArgs s_lrows, defBody s_lrows, defScope s_lrows, [], []⟩
def hd34 : He.DefD := ⟨("Share", some "__sub__"), "__sub__", "Share.__sub__", defArgs s_sub, defBody s_sub, defScope s_sub, [], []⟩
def hd35 : He.DefD := ⟨("Share", some "__rsub__"), "__rsub__", "Share.__rsub__", defArgs s_rsub, defBody s_rsub, defScope s_rsub, [], []⟩
def hd36 : He.DefD := ⟨("Share", some "__neg__"), "__neg__", "Share.__neg__", defArgs s_neg, defBody s_neg, defScope s_neg, [], []⟩
def hd37 : He.DefD := ⟨("_law_rows", none), "_law_rows", "_law_rows", defArgs s_rows, defBody s_rows, defScope s_rows, [], []⟩
def hd38 : He.DefD := ⟨("_law_rows_alike", none), "_law_rows_alike", "_law_rows_alike", defArgs s_alike, defBody s_alike, defScope s_alike, [], []⟩
def hd39 : He.DefD := ⟨("_law_pick", none), "_law_pick", "_law_pick", defArgs s_pick, defBody s_pick, defScope s_pick, [], []⟩
def hd40 : He.DefD := ⟨("_law_moved_bit", none), "_law_moved_bit", "_law_moved_bit", defArgs s_moved, defBody s_moved, defScope s_moved, [], []⟩
def hd41 : He.DefD := ⟨("_law_rows_turning", none), "_law_rows_turning", "_law_rows_turning", defArgs s_turning, defBody s_turning, defScope s_turning, [], []⟩
def hd42 : He.DefD := ⟨("_law_rows_parted", none), "_law_rows_parted", "_law_rows_parted", defArgs s_parted, defBody s_parted, defScope s_parted, [], []⟩
def hd43 : He.DefD := ⟨("_law_long", none), "_law_long", "_law_long", defArgs s_lng, defBody s_lng, defScope s_lng, [], []⟩
def hd44 : He.DefD := ⟨("Share", some "__mul__"), "__mul__", "Share.__mul__", defArgs s_mul, defBody s_mul, defScope s_mul, [], []⟩
def hd45 : He.DefD := ⟨("Share", some "__rmul__"), "__rmul__", "Share.__rmul__", defArgs s_rmul, defBody s_rmul, defScope s_rmul, [], []⟩
def hd46 : He.DefD := ⟨("_law_labels", none), "_law_labels", "_law_labels", defArgs s_labels, defBody s_labels, defScope s_labels, [], []⟩
def hd47 : He.DefD := ⟨("written", none), "written", "written", defArgs s_written, defBody s_written, defScope s_written, [], []⟩
def hd48 : He.DefD := ⟨("Share", some "__str__"), "__str__", "Share.__str__", defArgs s_str, defBody s_str, defScope s_str, [], []⟩
def hd49 : He.DefD := ⟨("digits", none), "digits", "digits", defArgs s_digits, defBody s_digits, defScope s_digits, [], []⟩
def hd50 : He.DefD := ⟨("Chain", some "row"), "row", "Chain.row", defArgs s_chrow, defBody s_chrow, defScope s_chrow, [], []⟩
def hd51 : He.DefD := ⟨("Chain", some "label"), "label", "Chain.label", defArgs s_chlabel, defBody s_chlabel, defScope s_chlabel, [], []⟩
def hd52 : He.DefD := ⟨("closed_rows", none), "closed_rows", "closed_rows", defArgs s_closed, defBody s_closed, defScope s_closed, [], []⟩
def hd53 : He.DefD := ⟨("_law_text", none), "_law_text", "_law_text", defArgs s_text, defBody s_text, defScope s_text, [], []⟩
def hd54 : He.DefD := ⟨("_law_write", none), "_law_write", "_law_write", defArgs s_write, defBody s_write, defScope s_write, [], []⟩
def hd55 : He.DefD := ⟨("_law_too_long", none), "_law_too_long", "_law_too_long", defArgs s_long, defBody s_long, defScope s_long, [], []⟩
def hd56 : He.DefD := ⟨("_law_read", none), "_law_read", "_law_read", defArgs s_lread, defBody s_lread, defScope s_lread, [], []⟩
def hd57 : He.DefD := ⟨("read", none), "read", "read", defArgs s_read, defBody s_read, defScope s_read, [], []⟩
def hd58 : He.DefD := ⟨("BadText", some "__init__"), "__init__", "BadText.__init__", defArgs s_BT, defBody s_BT, defScope s_BT, [], []⟩
def hd59 : He.DefD := ⟨("text_rows", none), "text_rows", "text_rows", defArgs s_trows, defBody s_trows, defScope s_trows, [], []⟩
def hd60 : He.DefD := ⟨("told_row", none), "told_row", "told_row", defArgs s_trow, defBody s_trow, defScope s_trow, [], []⟩
def hd61 : He.DefD := ⟨("told_share", none), "told_share", "told_share", defArgs s_told, defBody s_told, defScope s_told, [], []⟩
def hd62 : He.DefD := ⟨("is_number_word", none), "is_number_word", "is_number_word", defArgs s_numw, defBody s_numw, defScope s_numw, [], []⟩
def hd63 : He.DefD := ⟨("_law_same", none), "_law_same", "_law_same", defArgs s_same, defBody s_same, defScope s_same, [], []⟩
def hd64 : He.DefD := ⟨("_law_is_chain", none), "_law_is_chain", "_law_is_chain", defArgs s_ischain, defBody s_ischain, defScope s_ischain, [], []⟩
def hfn0 : List He.DefD := [hd0, hd1, hd2, hd3, hd4, hd5, hd6, hd7, hd8, hd9, hd10, hd11, hd12, hd13, hd14, hd15, hd16, hd17, hd18, hd19, hd20, hd21, hd22, hd23, hd24, hd25, hd26, hd27, hd28, hd29]
def hfn1 : List He.DefD := [hd30, hd31, hd32, hd33, hd34, hd35, hd36, hd37, hd38, hd39, hd40, hd41, hd42, hd43, hd44, hd45, hd46, hd47, hd48, hd49, hd50, hd51, hd52, hd53, hd54, hd55, hd56, hd57, hd58, hd59]
def hfn2 : List He.DefD := [hd60, hd61, hd62, hd63, hd64]
def hfn : List He.DefD := hfn0 ++ hfn1 ++ hfn2
abbrev hg0 (K : PySem.W.Frag) : Prop := ((He.Fa.free "isinstance").ok K = true) ∧ ((He.Fa.free "int").ok K = true) ∧ ((He.Fa.free "bool").ok K = true) ∧ ((He.Fa.free "abs").ok K = true) ∧ ((He.Fa.free "len").ok K = true) ∧ ((He.Fa.free "str").ok K = true) ∧ ((He.Fa.free "divmod").ok K = true) ∧ ((He.Fa.free "ValueError").ok K = true) ∧ ((He.Fa.free "list").ok K = true) ∧ ((He.Fa.free "tuple").ok K = true) ∧ ((He.Fa.free "range").ok K = true) ∧ ((He.Fa.free "sum").ok K = true) ∧ ((He.Fa.free "min").ok K = true) ∧ ((He.Fa.free "max").ok K = true) ∧ ((He.Fa.free "all").ok K = true) ∧ (PySem.W.plainGet K (He.ga K "Chain") Str.empty = true)
abbrev hg1 (K : PySem.W.Frag) : Prop := (PySem.W.hasDictIn K (He.ga K "Chain") = true) ∧ (PySem.W.plainOver K (He.ga K "Chain") = true) ∧ (PySem.W.findIn K (.ref (He.ga K "Chain")) "__setattr__" = some (some (.builtin "object.__setattr__"))) ∧ (PySem.W.findIn K (.ref (He.ga K "Chain")) "__class__" = some (some (.builtin "object.__class__"))) ∧ (PySem.W.specialIn K (.builtin "object.__class__") "__get__" = some (some (.builtin "getset_descriptor.__get__"))) ∧ (PySem.W.takesIn K (.builtin "object.__class__") = some true) ∧ (PySem.W.mroIn K (He.ga K "Chain") (.type "object") = some true) ∧ (PySem.W.kitOne K (.ref (He.ga K "Chain")) (.type "int") = some false) ∧ (PySem.W.kitOne K (.ref (He.ga K "Chain")) (.type "bool") = some false) ∧ (PySem.W.kitOne K (.ref (He.ga K "Chain")) (.ref (He.ga K "Chain")) = some true) ∧ (PySem.W.kitOne K (.type "int") (.ref (He.ga K "Chain")) = some false) ∧ (PySem.W.kitOne K (.type "bool") (.ref (He.ga K "Chain")) = some false) ∧ (PySem.W.kitOne K (.type "NoneType") (.ref (He.ga K "Chain")) = some false) ∧ (PySem.W.kitOne K (.type "str") (.ref (He.ga K "Chain")) = some false) ∧ (PySem.W.kitOne K (.type "list") (.ref (He.ga K "Chain")) = some false) ∧ (PySem.W.kitOne K (.type "tuple") (.ref (He.ga K "Chain")) = some false)
abbrev hg2 (K : PySem.W.Frag) : Prop := (PySem.W.kitOne K (.type "dict") (.ref (He.ga K "Chain")) = some false) ∧ (PySem.W.findIn K (.ref (He.ga K "Chain")) "size" = some none) ∧ (PySem.W.findIn K (.ref (He.ga K "Chain")) "_rows" = some none) ∧ (PySem.W.findIn K (.ref (He.ga K "Chain")) "_labels" = some none) ∧ ((He.Fa.glo "Chain").ok K = true) ∧ ((He.Fa.int "MOST_STATES" 8).ok K = true) ∧ (PySem.W.makesIn K (He.ga K "Chain") = true) ∧ (PySem.W.findIn K (.ref (He.ga K "Chain")) "__init__" = some (some (.ref (He.ma K (He.ga K "Chain") "__init__")))) ∧ (PySem.W.isFn K (.ref (He.ma K (He.ga K "Chain") "__init__")) = true) ∧ (PySem.W.keepIn K (.ref (He.ga K "Chain")) = true) ∧ (PySem.W.plainGet K (He.ga K "Share") Str.empty = true) ∧ (PySem.W.hasDictIn K (He.ga K "Share") = true) ∧ (PySem.W.plainOver K (He.ga K "Share") = true) ∧ (PySem.W.findIn K (.ref (He.ga K "Share")) "__setattr__" = some (some (.builtin "object.__setattr__"))) ∧ (PySem.W.findIn K (.ref (He.ga K "Share")) "__class__" = some (some (.builtin "object.__class__"))) ∧ (PySem.W.mroIn K (He.ga K "Share") (.type "object") = some true)
abbrev hg3 (K : PySem.W.Frag) : Prop := (PySem.W.kitOne K (.ref (He.ga K "Share")) (.type "int") = some false) ∧ (PySem.W.kitOne K (.ref (He.ga K "Share")) (.type "bool") = some false) ∧ (PySem.W.kitOne K (.ref (He.ga K "Share")) (.ref (He.ga K "Share")) = some true) ∧ (PySem.W.kitOne K (.type "int") (.ref (He.ga K "Share")) = some false) ∧ (PySem.W.kitOne K (.type "bool") (.ref (He.ga K "Share")) = some false) ∧ (PySem.W.kitOne K (.type "NoneType") (.ref (He.ga K "Share")) = some false) ∧ (PySem.W.kitOne K (.type "str") (.ref (He.ga K "Share")) = some false) ∧ (PySem.W.kitOne K (.type "list") (.ref (He.ga K "Share")) = some false) ∧ (PySem.W.kitOne K (.type "tuple") (.ref (He.ga K "Share")) = some false) ∧ (PySem.W.kitOne K (.type "dict") (.ref (He.ga K "Share")) = some false) ∧ (PySem.W.findIn K (.ref (He.ga K "Share")) "top" = some none) ∧ (PySem.W.findIn K (.ref (He.ga K "Share")) "bottom" = some none) ∧ (PySem.W.nsIn K mainGlobals "gcd" = some (some (.builtin "math.gcd"))) ∧ ((He.Fa.glo "Share").ok K = true) ∧ (PySem.W.kitOne K (.ref (He.ga K "Share")) (.type "tuple") = some false) ∧ ((He.Fa.glo "is_tuple_of").ok K = true)
abbrev hg4 (K : PySem.W.Frag) : Prop := (PySem.W.keepIn K (.ref (He.ga K "is_tuple_of")) = true) ∧ ((He.Fa.glo "is_whole").ok K = true) ∧ (PySem.W.keepIn K (.ref (He.ga K "is_whole")) = true) ∧ ((He.Fa.glo "is_share").ok K = true) ∧ (PySem.W.keepIn K (.ref (He.ga K "is_share")) = true) ∧ (PySem.W.makesIn K (He.ga K "Share") = true) ∧ (PySem.W.findIn K (.ref (He.ga K "Share")) "__init__" = some (some (.ref (He.ma K (He.ga K "Share") "__init__")))) ∧ (PySem.W.isFn K (.ref (He.ma K (He.ga K "Share") "__init__")) = true) ∧ (PySem.W.keepIn K (.ref (He.ga K "Share")) = true) ∧ ((He.Fa.glo "BadShare").ok K = true) ∧ (PySem.W.findIn K (.ref (He.ga K "BadShare")) "__init__" = some (some (.ref (He.ma K (He.ga K "BadShare") "__init__")))) ∧ (PySem.W.typeIn K (.ref (He.ma K (He.ga K "BadShare") "__init__")) = some (.type "function")) ∧ ((He.Fa.glo "WalkError").ok K = true) ∧ (PySem.W.readsIn K (He.ga K "WalkError") (.type "type") = true) ∧ (PySem.W.specialIn K (.ref (He.ga K "WalkError")) "__getattribute__" = some (some (.builtin "type.__getattribute__"))) ∧ (Hx.fcB K (.ref (He.ga K "WalkError")) (.type "type") "__init__" (.ref (He.ma K (He.ga K "WalkError") "__init__")) = true)
abbrev hg5 (K : PySem.W.Frag) : Prop := (PySem.W.keepIn K (.ref (He.ma K (He.ga K "WalkError") "__init__")) = true) ∧ (Hx.fcB K (.type "ValueError") (.type "type") "__init__" (.builtin "ValueError.__init__") = true) ∧ (Hx.oexB K (He.ga K "BadShare") = true) ∧ (PySem.W.findIn K (.ref (He.ga K "BadShare")) "top" = some none) ∧ (PySem.W.findIn K (.ref (He.ga K "BadShare")) "bottom" = some none) ∧ ((He.Fa.glo "share_of").ok K = true) ∧ (PySem.W.keepIn K (.ref (He.ga K "share_of")) = true) ∧ (PySem.W.findIn K (.ref (He.ga K "Share")) "less" = some (some (.ref (He.ma K (He.ga K "Share") "less")))) ∧ (PySem.W.isFn K (.ref (He.ma K (He.ga K "Share") "less")) = true) ∧ (PySem.W.keepIn K (.ref (He.ma K (He.ga K "Share") "less")) = true) ∧ ((He.Fa.glo "is_from_zero").ok K = true) ∧ (PySem.W.keepIn K (.ref (He.ga K "is_from_zero")) = true) ∧ (PySem.W.subIn K (.ref (He.ga K "Share")) (.type "str") = some false) ∧ (PySem.W.subIn K (.ref (He.ga K "Share")) (.type "bytes") = some false) ∧ (PySem.W.subIn K (.ref (He.ga K "Share")) (.type "bytearray") = some false) ∧ (PySem.W.selfFirst K (He.ga K "Share") = true)
abbrev hg6 (K : PySem.W.Frag) : Prop := (PySem.W.findIn K (.ref (He.ga K "Share")) (PySem.dunder "add") = some (some (.ref (He.ma K (He.ga K "Share") "__add__")))) ∧ (PySem.W.isFn K (.ref (He.ma K (He.ga K "Share") "__add__")) = true) ∧ (PySem.W.findIn K (.ref (He.ga K "Share")) (dunderR "add") = some (some (.ref (He.ma K (He.ga K "Share") "__radd__")))) ∧ (PySem.W.isFn K (.ref (He.ma K (He.ga K "Share") "__radd__")) = true) ∧ ((PySem.W.findIn K (.type "int") (dunderR "add")).isSome = true) ∧ (PySem.W.subIn K (.type "int") (.ref (He.ga K "Share")) = some false) ∧ (PySem.W.subIn K (.ref (He.ga K "Share")) (.type "int") = some false) ∧ ((He.Fa.glo "total").ok K = true) ∧ (PySem.W.keepIn K (.ref (He.ga K "total")) = true) ∧ (PySem.W.findIn K (.ref (He.ga K "Share")) "__eq__" = some (some (.ref (He.ma K (He.ga K "Share") "__eq__")))) ∧ (PySem.W.findIn K (.ref (He.ga K "Share")) "__ne__" = some (some (.builtin "object.__ne__"))) ∧ (PySem.W.isFn K (.ref (He.ma K (He.ga K "Share") "__eq__")) = true) ∧ (PySem.W.subIn K (.ref (He.ga K "Share")) (.type "bool") = some false) ∧ (PySem.W.subIn K (.ref (He.ga K "Share")) (.type "NoneType") = some false) ∧ (PySem.W.subIn K (.ref (He.ga K "Share")) (.type "list") = some false) ∧ (PySem.W.subIn K (.ref (He.ga K "Share")) (.type "tuple") = some false)
abbrev hg7 (K : PySem.W.Frag) : Prop := (PySem.W.subIn K (.ref (He.ga K "Share")) (.type "dict") = some false) ∧ ((He.Fa.glo "is_spread").ok K = true) ∧ (PySem.W.keepIn K (.ref (He.ga K "is_spread")) = true) ∧ ((He.Fa.glo "is_tuple_between").ok K = true) ∧ (PySem.W.keepIn K (.ref (He.ga K "is_tuple_between")) = true) ∧ ((He.Fa.str "LETTERS" abc).ok K = true) ∧ ((He.Fa.glo "is_name").ok K = true) ∧ (PySem.W.keepIn K (.ref (He.ga K "is_name")) = true) ∧ ((He.Fa.glo "is_name_row").ok K = true) ∧ (PySem.W.keepIn K (.ref (He.ga K "is_name_row")) = true) ∧ ((He.Fa.glo "shares_of").ok K = true) ∧ (PySem.W.keepIn K (.ref (He.ga K "shares_of")) = true) ∧ (PySem.W.findIn K (.ref (He.ga K "Chain")) "with_row" = some (some (.ref (He.ma K (He.ga K "Chain") "with_row")))) ∧ (PySem.W.isFn K (.ref (He.ma K (He.ga K "Chain") "with_row")) = true) ∧ (PySem.W.keepIn K (.ref (He.ma K (He.ga K "Chain") "with_row")) = true) ∧ ((He.Fa.glo "is_between").ok K = true)
abbrev hg8 (K : PySem.W.Frag) : Prop := (PySem.W.keepIn K (.ref (He.ga K "is_between")) = true) ∧ ((He.Fa.glo "is_index").ok K = true) ∧ (PySem.W.keepIn K (.ref (He.ga K "is_index")) = true) ∧ ((He.Fa.glo "NoState").ok K = true) ∧ (PySem.W.findIn K (.ref (He.ga K "NoState")) "__init__" = some (some (.ref (He.ma K (He.ga K "NoState") "__init__")))) ∧ (PySem.W.typeIn K (.ref (He.ma K (He.ga K "NoState") "__init__")) = some (.type "function")) ∧ (Hx.oexB K (He.ga K "NoState") = true) ∧ (PySem.W.findIn K (.ref (He.ga K "NoState")) "state" = some none) ∧ ((He.Fa.glo "check_state").ok K = true) ∧ (PySem.W.keepIn K (.ref (He.ga K "check_state")) = true) ∧ (PySem.W.findIn K (.ref (He.ga K "Chain")) "with_label" = some (some (.ref (He.ma K (He.ga K "Chain") "with_label")))) ∧ (PySem.W.isFn K (.ref (He.ma K (He.ga K "Chain") "with_label")) = true) ∧ (PySem.W.keepIn K (.ref (He.ma K (He.ga K "Chain") "with_label")) = true) ∧ (PySem.W.findIn K (.ref (He.ga K "Chain")) "__eq__" = some (some (.ref (He.ma K (He.ga K "Chain") "__eq__")))) ∧ (PySem.W.findIn K (.ref (He.ga K "Chain")) "__ne__" = some (some (.builtin "object.__ne__"))) ∧ (PySem.W.isFn K (.ref (He.ma K (He.ga K "Chain") "__eq__")) = true)
abbrev hg9 (K : PySem.W.Frag) : Prop := (PySem.W.subIn K (.ref (He.ga K "Chain")) (.type "int") = some false) ∧ (PySem.W.subIn K (.ref (He.ga K "Chain")) (.type "bool") = some false) ∧ (PySem.W.subIn K (.ref (He.ga K "Chain")) (.type "NoneType") = some false) ∧ (PySem.W.subIn K (.ref (He.ga K "Chain")) (.type "str") = some false) ∧ (PySem.W.subIn K (.ref (He.ga K "Chain")) (.type "list") = some false) ∧ (PySem.W.subIn K (.ref (He.ga K "Chain")) (.type "tuple") = some false) ∧ (PySem.W.subIn K (.ref (He.ga K "Chain")) (.type "dict") = some false) ∧ ((He.Fa.glo "_law_pool").ok K = true) ∧ (PySem.W.keepIn K (.ref (He.ga K "_law_pool")) = true) ∧ ((He.Fa.glo "_law_draw").ok K = true) ∧ (PySem.W.keepIn K (.ref (He.ga K "_law_draw")) = true) ∧ ((He.Fa.glo "_law_size").ok K = true) ∧ (PySem.W.keepIn K (.ref (He.ga K "_law_size")) = true) ∧ ((He.Fa.glo "_law_name").ok K = true) ∧ (PySem.W.keepIn K (.ref (He.ga K "_law_name")) = true) ∧ ((He.Fa.glo "_law_tops").ok K = true)
abbrev hg10 (K : PySem.W.Frag) : Prop := (PySem.W.keepIn K (.ref (He.ga K "_law_tops")) = true) ∧ ((He.Fa.glo "_law_spread").ok K = true) ∧ (PySem.W.keepIn K (.ref (He.ga K "_law_spread")) = true) ∧ (PySem.W.findIn K (.ref (He.ga K "Share")) (PySem.dunder "sub") = some (some (.ref (He.ma K (He.ga K "Share") "__sub__")))) ∧ (PySem.W.isFn K (.ref (He.ma K (He.ga K "Share") "__sub__")) = true) ∧ (PySem.W.findIn K (.ref (He.ga K "Share")) (dunderR "sub") = some (some (.ref (He.ma K (He.ga K "Share") "__rsub__")))) ∧ (PySem.W.isFn K (.ref (He.ma K (He.ga K "Share") "__rsub__")) = true) ∧ ((PySem.W.findIn K (.type "int") (dunderR "sub")).isSome = true) ∧ (PySem.W.findIn K (.ref (He.ga K "Share")) "__neg__" = some (some (.ref (He.ma K (He.ga K "Share") "__neg__")))) ∧ (PySem.W.isFn K (.ref (He.ma K (He.ga K "Share") "__neg__")) = true) ∧ ((He.Fa.glo "_law_pick").ok K = true) ∧ (PySem.W.keepIn K (.ref (He.ga K "_law_pick")) = true) ∧ ((He.Fa.glo "_law_moved_bit").ok K = true) ∧ (PySem.W.keepIn K (.ref (He.ga K "_law_moved_bit")) = true) ∧ ((He.Fa.glo "_law_rows_alike").ok K = true) ∧ (PySem.W.keepIn K (.ref (He.ga K "_law_rows_alike")) = true)
abbrev hg11 (K : PySem.W.Frag) : Prop := ((He.Fa.glo "_law_rows_turning").ok K = true) ∧ (PySem.W.keepIn K (.ref (He.ga K "_law_rows_turning")) = true) ∧ ((He.Fa.glo "_law_rows_parted").ok K = true) ∧ (PySem.W.keepIn K (.ref (He.ga K "_law_rows_parted")) = true) ∧ ((He.Fa.glo "_law_rows").ok K = true) ∧ (PySem.W.keepIn K (.ref (He.ga K "_law_rows")) = true) ∧ (PySem.W.findIn K (.ref (He.ga K "Share")) (PySem.dunder "mul") = some (some (.ref (He.ma K (He.ga K "Share") "__mul__")))) ∧ (PySem.W.isFn K (.ref (He.ma K (He.ga K "Share") "__mul__")) = true) ∧ (PySem.W.findIn K (.ref (He.ga K "Share")) (dunderR "mul") = some (some (.ref (He.ma K (He.ga K "Share") "__rmul__")))) ∧ (PySem.W.isFn K (.ref (He.ma K (He.ga K "Share") "__rmul__")) = true) ∧ ((PySem.W.findIn K (.type "int") (dunderR "mul")).isSome = true) ∧ ((He.Fa.glo "_law_long").ok K = true) ∧ (PySem.W.keepIn K (.ref (He.ga K "_law_long")) = true) ∧ ((He.Fa.glo "_law_long_rows").ok K = true) ∧ (PySem.W.keepIn K (.ref (He.ga K "_law_long_rows")) = true) ∧ ((He.Fa.glo "_law_labels").ok K = true)
abbrev hg12 (K : PySem.W.Frag) : Prop := (PySem.W.keepIn K (.ref (He.ga K "_law_labels")) = true) ∧ (PySem.W.findIn K (.ref (He.ga K "Share")) "__str__" = some (some (.ref (He.ma K (He.ga K "Share") "__str__")))) ∧ (PySem.W.isFn K (.ref (He.ma K (He.ga K "Share") "__str__")) = true) ∧ ((He.Fa.int "BLOCK" (10 ^ 64)).ok K = true) ∧ ((He.Fa.glo "digits").ok K = true) ∧ (PySem.W.keepIn K (.ref (He.ga K "digits")) = true) ∧ (PySem.W.findIn K (.ref (He.ga K "Chain")) "row" = some (some (.ref (He.ma K (He.ga K "Chain") "row")))) ∧ (PySem.W.isFn K (.ref (He.ma K (He.ga K "Chain") "row")) = true) ∧ (PySem.W.keepIn K (.ref (He.ma K (He.ga K "Chain") "row")) = true) ∧ (PySem.W.findIn K (.ref (He.ga K "Chain")) "label" = some (some (.ref (He.ma K (He.ga K "Chain") "label")))) ∧ (PySem.W.isFn K (.ref (He.ma K (He.ga K "Chain") "label")) = true) ∧ (PySem.W.keepIn K (.ref (He.ma K (He.ga K "Chain") "label")) = true) ∧ ((He.Fa.glo "closed_rows").ok K = true) ∧ (PySem.W.keepIn K (.ref (He.ga K "closed_rows")) = true) ∧ ((He.Fa.glo "written").ok K = true) ∧ (PySem.W.keepIn K (.ref (He.ga K "written")) = true)
abbrev hg13 (K : PySem.W.Frag) : Prop := ((He.Fa.glo "_law_write").ok K = true) ∧ (PySem.W.keepIn K (.ref (He.ga K "_law_write")) = true) ∧ ((He.Fa.glo "_law_text").ok K = true) ∧ (PySem.W.keepIn K (.ref (He.ga K "_law_text")) = true) ∧ ((He.Fa.glo "_law_too_long").ok K = true) ∧ (PySem.W.keepIn K (.ref (He.ga K "_law_too_long")) = true) ∧ ((He.Fa.glo "BadText").ok K = true) ∧ (PySem.W.findIn K (.ref (He.ga K "BadText")) "__getattribute__" = some (some (.builtin "BaseException.__getattribute__"))) ∧ (PySem.W.findIn K (.ref (He.ga K "BadText")) "__getattr__" = some none) ∧ (PySem.W.subIn K (.ref (He.ga K "BadText")) (.type "BaseException") = some true) ∧ (PySem.W.hasDictIn K (He.ga K "BadText") = true) ∧ (PySem.W.exmOne K (.ref (He.ga K "BadText")) (.ref (He.ga K "BadText")) = some true) ∧ (PySem.W.findIn K (.ref (He.ga K "BadText")) "line" = some none) ∧ ((He.Fa.free "enumerate").ok K = true) ∧ (Hx.oexB K (He.ga K "BadText") = true) ∧ (PySem.W.findIn K (.ref (He.ga K "BadText")) "__init__" = some (some (.ref (He.ma K (He.ga K "BadText") "__init__"))))
abbrev hg14 (K : PySem.W.Frag) : Prop := (PySem.W.typeIn K (.ref (He.ma K (He.ga K "BadText") "__init__")) = some (.type "function")) ∧ ((He.Fa.glo "text_rows").ok K = true) ∧ (PySem.W.keepIn K (.ref (He.ga K "text_rows")) = true) ∧ ((He.Fa.int "MOST_DIGITS" 100).ok K = true) ∧ ((He.Fa.str "DIGITS" d09).ok K = true) ∧ ((He.Fa.glo "is_number_word").ok K = true) ∧ (PySem.W.keepIn K (.ref (He.ga K "is_number_word")) = true) ∧ ((He.Fa.glo "told_share").ok K = true) ∧ (PySem.W.keepIn K (.ref (He.ga K "told_share")) = true) ∧ ((He.Fa.glo "told_row").ok K = true) ∧ (PySem.W.keepIn K (.ref (He.ga K "told_row")) = true) ∧ ((He.Fa.glo "read").ok K = true) ∧ (PySem.W.keepIn K (.ref (He.ga K "read")) = true) ∧ ((He.Fa.glo "_law_read").ok K = true) ∧ (PySem.W.keepIn K (.ref (He.ga K "_law_read")) = true) ∧ ((He.Fa.glo "_law_same").ok K = true)
abbrev hg15 (K : PySem.W.Frag) : Prop := (PySem.W.keepIn K (.ref (He.ga K "_law_same")) = true) ∧ ((He.Fa.glo "_law_is_chain").ok K = true) ∧ (PySem.W.keepIn K (.ref (He.ga K "_law_is_chain")) = true) ∧ ((He.Fa.glo "law").ok K = true)
def hex (K : PySem.W.Frag) : Bool := decide (hg0 K) && (decide (hg1 K) && (decide (hg2 K) && (decide (hg3 K) && (decide (hg4 K) && (decide (hg5 K) && (decide (hg6 K) && (decide (hg7 K) && (decide (hg8 K) && (decide (hg9 K) && (decide (hg10 K) && (decide (hg11 K) && (decide (hg12 K) && (decide (hg13 K) && (decide (hg14 K) && (decide (hg15 K))))))))))))))))
def hnm0 : List PySem.Str := ["WalkError", "BadShare", "BadChain", "NoState", "BadText", "LETTERS", "is_whole", "is_between", "is_index", "check_state", "is_name", "is_tuple_of", "is_tuple_between", "is_name_row", "BLOCK", "digits", "Share", "is_share", "share_of", "shares_of", "total", "is_from_zero", "is_spread", "MOST_STATES", "Chain", "DIGITS", "MOST_DIGITS", "closed_rows", "written", "text_rows"]
def hnm1 : List PySem.Str := ["read", "told_row", "told_share", "is_number_word", "_law_pool", "_law_draw", "_law_pick", "_law_name", "_law_tops", "_law_spread", "_law_moved_bit", "_law_rows_alike", "_law_rows_turning", "_law_rows_parted", "_law_rows", "_law_labels", "_law_size", "_law_same", "_law_long", "_law_long_rows", "_law_write", "_law_read", "_law_text", "_law_too_long", "_law_is_chain"]
def hnames : List PySem.Str := hnm0 ++ hnm1
abbrev hR : OpenRow := OpenLaw.row PySem.Challenge.rw_bothwalks_k85_texts_of_chains
abbrev hq : Program := view hR.prog [0, 62]
abbrev hk : Hook := Hx.hookH 4 hfn hex
def hob (s : SharedT) : Hx.AlH := Hx.obsH 4 hfn hex (HandSHeadRun.getT s)
theorem hob_eq (s : SharedT) : hob s = hk.obs s.abs := Hx.obsH_eq (HandSHeadRun.getT_eq s)
theorem run (w : World) : HandSHeadRun.RunEqI hR hq hk hob 30000 hnames w := by
  unfold HandSHeadRun.RunEqI
  kernel_rfl
theorem facts {P : Program} {w : World} {K : PySem.W.Frag} {h : Heap} {mg : Str → Option Value} {f : Addr} (X : K.In h) (G : h.Ns mainGlobals mg) (hfa : mg ("law" : Str) = some (.ref f)) (c : Hx.SaysH hfn hex K) :
    ∃ fd : FuncData, (∀ (s : Shared) (v : Value), BindsTo s fd ⟨[v], []⟩ [("_law_script", v)]) ∧ ∀ base : Heap, FnOk P w K mg base CX0 17 f fd ["_law_script"] (spLaw K) := by
  obtain ⟨fd_law, D_law⟩ := c.1.def_ 0 (d := hd0) rfl
  obtain ⟨fd_Chain___init__, D_Chain___init__⟩ := c.1.def_ 1 (d := hd1) rfl
  obtain ⟨fd_is_spread, D_is_spread⟩ := c.1.def_ 2 (d := hd2) rfl
  obtain ⟨fd_is_tuple_of, D_is_tuple_of⟩ := c.1.def_ 3 (d := hd3) rfl
  obtain ⟨fd_is_from_zero, D_is_from_zero⟩ := c.1.def_ 4 (d := hd4) rfl
  obtain ⟨fd_is_share, D_is_share⟩ := c.1.def_ 5 (d := hd5) rfl
  obtain ⟨fd_is_whole, D_is_whole⟩ := c.1.def_ 6 (d := hd6) rfl
  obtain ⟨fd_share_of, D_share_of⟩ := c.1.def_ 7 (d := hd7) rfl
  obtain ⟨fd_Share___init__, D_Share___init__⟩ := c.1.def_ 8 (d := hd8) rfl
  obtain ⟨fd_BadShare___init__, D_BadShare___init__⟩ := c.1.def_ 9 (d := hd9) rfl
  obtain ⟨fd_WalkError___init__, D_WalkError___init__⟩ := c.1.def_ 10 (d := hd10) rfl
  obtain ⟨fd_Share_less, D_Share_less⟩ := c.1.def_ 11 (d := hd11) rfl
  obtain ⟨fd_total, D_total⟩ := c.1.def_ 12 (d := hd12) rfl
  obtain ⟨fd_Share___add__, D_Share___add__⟩ := c.1.def_ 13 (d := hd13) rfl
  obtain ⟨fd_Share___radd__, D_Share___radd__⟩ := c.1.def_ 14 (d := hd14) rfl
  obtain ⟨fd_Share___eq__, D_Share___eq__⟩ := c.1.def_ 15 (d := hd15) rfl
  obtain ⟨fd_is_tuple_between, D_is_tuple_between⟩ := c.1.def_ 16 (d := hd16) rfl
  obtain ⟨fd_is_name_row, D_is_name_row⟩ := c.1.def_ 17 (d := hd17) rfl
  obtain ⟨fd_is_name, D_is_name⟩ := c.1.def_ 18 (d := hd18) rfl
  obtain ⟨fd_shares_of, D_shares_of⟩ := c.1.def_ 19 (d := hd19) rfl
  obtain ⟨fd_Chain_with_row, D_Chain_with_row⟩ := c.1.def_ 20 (d := hd20) rfl
  obtain ⟨fd_check_state, D_check_state⟩ := c.1.def_ 21 (d := hd21) rfl
  obtain ⟨fd_is_index, D_is_index⟩ := c.1.def_ 22 (d := hd22) rfl
  obtain ⟨fd_is_between, D_is_between⟩ := c.1.def_ 23 (d := hd23) rfl
  obtain ⟨fd_NoState___init__, D_NoState___init__⟩ := c.1.def_ 24 (d := hd24) rfl
  obtain ⟨fd_Chain_with_label, D_Chain_with_label⟩ := c.1.def_ 25 (d := hd25) rfl
  obtain ⟨fd_Chain___eq__, D_Chain___eq__⟩ := c.1.def_ 26 (d := hd26) rfl
  obtain ⟨fd__law_pool, D__law_pool⟩ := c.1.def_ 27 (d := hd27) rfl
  obtain ⟨fd__law_draw, D__law_draw⟩ := c.1.def_ 28 (d := hd28) rfl
  obtain ⟨fd__law_size, D__law_size⟩ := c.1.def_ 29 (d := hd29) rfl
  obtain ⟨fd__law_name, D__law_name⟩ := c.1.def_ 30 (d := hd30) rfl
  obtain ⟨fd__law_tops, D__law_tops⟩ := c.1.def_ 31 (d := hd31) rfl
  obtain ⟨fd__law_spread, D__law_spread⟩ := c.1.def_ 32 (d := hd32) rfl
  obtain ⟨fd__law_long_rows, D__law_long_rows⟩ := c.1.def_ 33 (d := hd33) rfl
  obtain ⟨fd_Share___sub__, D_Share___sub__⟩ := c.1.def_ 34 (d := hd34) rfl
  obtain ⟨fd_Share___rsub__, D_Share___rsub__⟩ := c.1.def_ 35 (d := hd35) rfl
  obtain ⟨fd_Share___neg__, D_Share___neg__⟩ := c.1.def_ 36 (d := hd36) rfl
  obtain ⟨fd__law_rows, D__law_rows⟩ := c.1.def_ 37 (d := hd37) rfl
  obtain ⟨fd__law_rows_alike, D__law_rows_alike⟩ := c.1.def_ 38 (d := hd38) rfl
  obtain ⟨fd__law_pick, D__law_pick⟩ := c.1.def_ 39 (d := hd39) rfl
  obtain ⟨fd__law_moved_bit, D__law_moved_bit⟩ := c.1.def_ 40 (d := hd40) rfl
  obtain ⟨fd__law_rows_turning, D__law_rows_turning⟩ := c.1.def_ 41 (d := hd41) rfl
  obtain ⟨fd__law_rows_parted, D__law_rows_parted⟩ := c.1.def_ 42 (d := hd42) rfl
  obtain ⟨fd__law_long, D__law_long⟩ := c.1.def_ 43 (d := hd43) rfl
  obtain ⟨fd_Share___mul__, D_Share___mul__⟩ := c.1.def_ 44 (d := hd44) rfl
  obtain ⟨fd_Share___rmul__, D_Share___rmul__⟩ := c.1.def_ 45 (d := hd45) rfl
  obtain ⟨fd__law_labels, D__law_labels⟩ := c.1.def_ 46 (d := hd46) rfl
  obtain ⟨fd_written, D_written⟩ := c.1.def_ 47 (d := hd47) rfl
  obtain ⟨fd_Share___str__, D_Share___str__⟩ := c.1.def_ 48 (d := hd48) rfl
  obtain ⟨fd_digits, D_digits⟩ := c.1.def_ 49 (d := hd49) rfl
  obtain ⟨fd_Chain_row, D_Chain_row⟩ := c.1.def_ 50 (d := hd50) rfl
  obtain ⟨fd_Chain_label, D_Chain_label⟩ := c.1.def_ 51 (d := hd51) rfl
  obtain ⟨fd_closed_rows, D_closed_rows⟩ := c.1.def_ 52 (d := hd52) rfl
  obtain ⟨fd__law_text, D__law_text⟩ := c.1.def_ 53 (d := hd53) rfl
  obtain ⟨fd__law_write, D__law_write⟩ := c.1.def_ 54 (d := hd54) rfl
  obtain ⟨fd__law_too_long, D__law_too_long⟩ := c.1.def_ 55 (d := hd55) rfl
  obtain ⟨fd__law_read, D__law_read⟩ := c.1.def_ 56 (d := hd56) rfl
  obtain ⟨fd_read, D_read⟩ := c.1.def_ 57 (d := hd57) rfl
  obtain ⟨fd_BadText___init__, D_BadText___init__⟩ := c.1.def_ 58 (d := hd58) rfl
  obtain ⟨fd_text_rows, D_text_rows⟩ := c.1.def_ 59 (d := hd59) rfl
  obtain ⟨fd_told_row, D_told_row⟩ := c.1.def_ 60 (d := hd60) rfl
  obtain ⟨fd_told_share, D_told_share⟩ := c.1.def_ 61 (d := hd61) rfl
  obtain ⟨fd_is_number_word, D_is_number_word⟩ := c.1.def_ 62 (d := hd62) rfl
  obtain ⟨fd__law_same, D__law_same⟩ := c.1.def_ 63 (d := hd63) rfl
  obtain ⟨fd__law_is_chain, D__law_is_chain⟩ := c.1.def_ 64 (d := hd64) rfl
  have k0 : hex K = true := c.2
  unfold hex at k0
  obtain ⟨g0, k1⟩ := He.ba k0
  obtain ⟨pq0, pq1, pq2, pq3, pq4, pq5, pq6, pq7, pq8, pq9, pq10, pq11, pq12, pq13, pq14, pq15⟩ := (of_decide_eq_true g0 : hg0 K)
  obtain ⟨g1, k2⟩ := He.ba k1
  obtain ⟨pq16, pq17, pq18, pq19, pq20, pq21, pq22, pq23, pq24, pq25, pq26, pq27, pq28, pq29, pq30, pq31⟩ := (of_decide_eq_true g1 : hg1 K)
  obtain ⟨g2, k3⟩ := He.ba k2
  obtain ⟨pq32, pq33, pq34, pq35, pq36, pq37, pq38, pq39, pq40, pq41, pq42, pq43, pq44, pq45, pq46, pq47⟩ := (of_decide_eq_true g2 : hg2 K)
  obtain ⟨g3, k4⟩ := He.ba k3
  obtain ⟨pq48, pq49, pq50, pq51, pq52, pq53, pq54, pq55, pq56, pq57, pq58, pq59, pq60, pq61, pq62, pq63⟩ := (of_decide_eq_true g3 : hg3 K)
  obtain ⟨g4, k5⟩ := He.ba k4
  obtain ⟨pq64, pq65, pq66, pq67, pq68, pq69, pq70, pq71, pq72, pq73, pq74, pq75, pq76, pq77, pq78, pq79⟩ := (of_decide_eq_true g4 : hg4 K)
  obtain ⟨g5, k6⟩ := He.ba k5
  obtain ⟨pq80, pq81, pq82, pq83, pq84, pq85, pq86, pq87, pq88, pq89, pq90, pq91, pq92, pq93, pq94, pq95⟩ := (of_decide_eq_true g5 : hg5 K)
  obtain ⟨g6, k7⟩ := He.ba k6
  obtain ⟨pq96, pq97, pq98, pq99, pq100, pq101, pq102, pq103, pq104, pq105, pq106, pq107, pq108, pq109, pq110, pq111⟩ := (of_decide_eq_true g6 : hg6 K)
  obtain ⟨g7, k8⟩ := He.ba k7
  obtain ⟨pq112, pq113, pq114, pq115, pq116, pq117, pq118, pq119, pq120, pq121, pq122, pq123, pq124, pq125, pq126, pq127⟩ := (of_decide_eq_true g7 : hg7 K)
  obtain ⟨g8, k9⟩ := He.ba k8
  obtain ⟨pq128, pq129, pq130, pq131, pq132, pq133, pq134, pq135, pq136, pq137, pq138, pq139, pq140, pq141, pq142, pq143⟩ := (of_decide_eq_true g8 : hg8 K)
  obtain ⟨g9, k10⟩ := He.ba k9
  obtain ⟨pq144, pq145, pq146, pq147, pq148, pq149, pq150, pq151, pq152, pq153, pq154, pq155, pq156, pq157, pq158, pq159⟩ := (of_decide_eq_true g9 : hg9 K)
  obtain ⟨g10, k11⟩ := He.ba k10
  obtain ⟨pq160, pq161, pq162, pq163, pq164, pq165, pq166, pq167, pq168, pq169, pq170, pq171, pq172, pq173, pq174, pq175⟩ := (of_decide_eq_true g10 : hg10 K)
  obtain ⟨g11, k12⟩ := He.ba k11
  obtain ⟨pq176, pq177, pq178, pq179, pq180, pq181, pq182, pq183, pq184, pq185, pq186, pq187, pq188, pq189, pq190, pq191⟩ := (of_decide_eq_true g11 : hg11 K)
  obtain ⟨g12, k13⟩ := He.ba k12
  obtain ⟨pq192, pq193, pq194, pq195, pq196, pq197, pq198, pq199, pq200, pq201, pq202, pq203, pq204, pq205, pq206, pq207⟩ := (of_decide_eq_true g12 : hg12 K)
  obtain ⟨g13, k14⟩ := He.ba k13
  obtain ⟨pq208, pq209, pq210, pq211, pq212, pq213, pq214, pq215, pq216, pq217, pq218, pq219, pq220, pq221, pq222, pq223⟩ := (of_decide_eq_true g13 : hg13 K)
  obtain ⟨g14, k15⟩ := He.ba k14
  obtain ⟨pq224, pq225, pq226, pq227, pq228, pq229, pq230, pq231, pq232, pq233, pq234, pq235, pq236, pq237, pq238, pq239⟩ := (of_decide_eq_true g14 : hg14 K)
  have g15 := k15
  obtain ⟨pq240, pq241, pq242, pq243⟩ := (of_decide_eq_true g15 : hg15 K)
  have el : He.ga K "law" = f := by
    have e := hfa.symm.trans (He.glo_ok X G (x := "law") pq243)
    injection e with e
    injection e with e
    exact e.symm
  subst el
  have ab := D_law.bindsA (ps := ["_law_script"]) fun _ _ _ _ _ _ us hl => match us, hl with | [_], _ => rfl
  exact ⟨fd_law, fun s v => ab s [v] rfl, fun base => all_mk D_law D_Chain___init__ D_is_spread D_is_tuple_of D_is_from_zero D_is_share D_is_whole D_share_of D_Share___init__ D_BadShare___init__ D_WalkError___init__ D_Share_less D_total D_Share___add__ D_Share___radd__ D_Share___eq__ D_is_tuple_between D_is_name_row D_is_name D_shares_of D_Chain_with_row D_check_state D_is_index D_is_between D_NoState___init__ D_Chain_with_label D_Chain___eq__ D__law_pool D__law_draw D__law_size D__law_name D__law_tops D__law_spread D__law_long_rows D_Share___sub__ D_Share___rsub__ D_Share___neg__ D__law_rows D__law_rows_alike D__law_pick D__law_moved_bit D__law_rows_turning D__law_rows_parted D__law_long D_Share___mul__ D_Share___rmul__ D__law_labels D_written D_Share___str__ D_digits D_Chain_row D_Chain_label D_closed_rows D__law_text D__law_write D__law_too_long D__law_read D_read D_BadText___init__ D_text_rows D_told_row D_told_share D_is_number_word D__law_same D__law_is_chain (He.free_ok X G pq0) (He.free_ok X G pq1) (He.free_ok X G pq2) (He.free_ok X G pq3) (He.free_ok X G pq4) (He.free_ok X G pq5) (He.free_ok X G pq6) (He.free_ok X G pq7) (He.free_ok X G pq8) (He.free_ok X G pq9) (He.free_ok X G pq10) (He.free_ok X G pq11) (He.free_ok X G pq12) (He.free_ok X G pq13) (He.free_ok X G pq14) (pq15) (pq16) (pq17) (pq18) (pq19) (pq20) (pq21) (pq22) (pq23) (pq24) (pq25) (pq26) (pq27) (pq28) (pq29) (pq30) (pq31) (pq32) (pq33) (pq34) (pq35) (He.glo_ok X G pq36) (He.int_ok X G pq37) (pq38) (pq39) (pq40) (pq41) (pq42) (pq43) (pq44) (pq45) (pq46) (pq47) (pq48) (pq49) (pq50) (pq51) (pq52) (pq53) (pq54) (pq55) (pq56) (pq57) (pq58) (pq59) (PySem.W.mg_of X G pq60) (He.glo_ok X G pq61) (pq62) (He.glo_ok X G pq63) (pq64) (He.glo_ok X G pq65) (pq66) (He.glo_ok X G pq67) (pq68) (pq69) (pq70) (pq71) (pq72) (He.glo_ok X G pq73) (pq74) (pq75) (He.glo_ok X G pq76) (pq77) (pq78) (Hx.fcB_ok pq79) (pq80) (Hx.fcB_ok pq81) (Hx.oexB_ok pq82) (pq83) (pq84) (He.glo_ok X G pq85) (pq86) (pq87) (pq88) (pq89) (He.glo_ok X G pq90) (pq91) (pq92) (pq93) (pq94) (pq95) (pq96) (pq97) (pq98) (pq99) (Hx.some_of pq100) (pq101) (pq102) (He.glo_ok X G pq103) (pq104) (pq105) (pq106) (pq107) (pq108) (pq109) (pq110) (pq111) (pq112) (He.glo_ok X G pq113) (pq114) (He.glo_ok X G pq115) (pq116) (He.str_ok X G pq117) (He.glo_ok X G pq118) (pq119) (He.glo_ok X G pq120) (pq121) (He.glo_ok X G pq122) (pq123) (pq124) (pq125) (pq126) (He.glo_ok X G pq127) (pq128) (He.glo_ok X G pq129) (pq130) (He.glo_ok X G pq131) (pq132) (pq133) (Hx.oexB_ok pq134) (pq135) (He.glo_ok X G pq136) (pq137) (pq138) (pq139) (pq140) (pq141) (pq142) (pq143) (pq144) (pq145) (pq146) (pq147) (pq148) (pq149) (pq150) (He.glo_ok X G pq151) (pq152) (He.glo_ok X G pq153) (pq154) (He.glo_ok X G pq155) (pq156) (He.glo_ok X G pq157) (pq158) (He.glo_ok X G pq159) (pq160) (He.glo_ok X G pq161) (pq162) (pq163) (pq164) (pq165) (pq166) (Hx.some_of pq167) (pq168) (pq169) (He.glo_ok X G pq170) (pq171) (He.glo_ok X G pq172) (pq173) (He.glo_ok X G pq174) (pq175) (He.glo_ok X G pq176) (pq177) (He.glo_ok X G pq178) (pq179) (He.glo_ok X G pq180) (pq181) (pq182) (pq183) (pq184) (pq185) (Hx.some_of pq186) (He.glo_ok X G pq187) (pq188) (He.glo_ok X G pq189) (pq190) (He.glo_ok X G pq191) (pq192) (pq193) (pq194) (He.int_ok X G pq195) (He.glo_ok X G pq196) (pq197) (pq198) (pq199) (pq200) (pq201) (pq202) (pq203) (He.glo_ok X G pq204) (pq205) (He.glo_ok X G pq206) (pq207) (He.glo_ok X G pq208) (pq209) (He.glo_ok X G pq210) (pq211) (He.glo_ok X G pq212) (pq213) (He.glo_ok X G pq214) (pq215) (pq216) (pq217) (pq218) (pq219) (pq220) (He.free_ok X G pq221) (Hx.oexB_ok pq222) (pq223) (pq224) (He.glo_ok X G pq225) (pq226) (He.int_ok X G pq227) (He.str_ok X G pq228) (He.glo_ok X G pq229) (pq230) (He.glo_ok X G pq231) (pq232) (He.glo_ok X G pq233) (pq234) (He.glo_ok X G pq235) (pq236) (He.glo_ok X G pq237) (pq238) (He.glo_ok X G pq239) (pq240) (He.glo_ok X G pq241) (pq242) (He.glo_ok X G pq243)⟩
end KI
open PySem PySem.W PySem.Calls PyProof.Rows
theorem PySem.Challenge.cw_bothwalks_k85_texts_of_chains_holds : PySem.Challenge.rw_bothwalks_k85_texts_of_chains.Holds := by
  w_on; o_law
  refine HandSHeadRun.head_imp (r := OpenLaw.row PySem.Challenge.rw_bothwalks_k85_texts_of_chains) (q := KI.hq) (H := KI.hk) (ob := KI.hob) (M := 30000) (loose := KI.hnames) (d := HandSHeadRun.topDef (OpenLaw.row PySem.Challenge.rw_bothwalks_k85_texts_of_chains).prog 62) (kwd := []) KI.hob_eq KI.run
    (by kernel_rfl) (by kernel_rfl) (by kernel_rfl) (by rfl) (by first | assumption | decide +kernel) (by decide +kernel) ⟨rfl, rfl, rfl, rfl, rfl, by decide +kernel⟩ ?hw ?hc
  case hw => w_witness2
  case hc =>
    refine L2.walk_ofE (l := PySem.Challenge.rw_bothwalks_k85_texts_of_chains) (n := 63) (k := 17) (x := "_law_script") (CX := L2.CX0) rfl (by decide) (by kernel_rfl) ⟨rfl, by decide, by decide⟩ ?F (fun _ _ _ _ z => z)
    intro w mg fa h Y G hmg0
    obtain ⟨K, KX, c⟩ := Y
    have hmg : mg ("law" : PySem.Str) = some (.ref fa) := by
      have e : (HandSHeadRun.topDef (OpenLaw.row PySem.Challenge.rw_bothwalks_k85_texts_of_chains).prog 62).name = ("law" : PySem.Str) := by kernel_rfl
      rw [← e]
      exact hmg0
    obtain ⟨fd, hb, hF⟩ := KI.facts (P := (PySem.Challenge.rw_bothwalks_k85_texts_of_chains).prog) (w := w) KX G hmg c
    exact ⟨K, fd, KI.spLaw K, KX, hb, fun H a ns hl _ hS => ⟨a, ns, rfl, hS, hl, fun _ => rfl⟩, fun base _ _ => hF base⟩

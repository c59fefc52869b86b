import PyProof.Rows.All
import Wide.All
import OpenK.AllK
import Wide.FinOn
import PyProof.EqAt
import PyProof.EqKinds
import PyProof.NeKinds
import PyProof.TupleCall
import HandS.OwnEq
import HandS.IsInst
import HandS.ForMost
import HandS.ForExc
import HandS.ExcInit
import HandS.ExcField
import HandS.ExcIs
import HandS.Gcd
import HandS.FStr
import HandS.Wide
import HandS.WideBits
import HandS.Star
import HandS.EndBits
import HandS.ClsMeth
import PySem.Challenge.RW_bothwalks_k86_whole_texts_that_are_none
import HandS.Defaults
import KE.KOpsOwn
import PyProof.SumAny
import HandS.SortKw
import HandS.Comp
import HandS.DictComp
import HandS.Deep
import KE.KDictDisplayH
import HandS.TupMul
import KE.DataMinMax
import HandS.Conv
import HandS.TupAny
import HandS.Iter
import PyProof.FactsAll.list_3
import HandS.Text
import HandS.WordsExc
import KE.GoesMore
import PyProof.EnumMake
import HandS.Walk
import HandS.StrMore
import HandS.Codes
import KE.KIntText
import HandS.Style
import HandS.Flow
import HandS.TryOnly
import HandS.Words
import KE.KUnpackStar
import HandS.Replace
import PyProof.StrBlock2
import HandS.ReplaceLit
import KE.DataEq
import HandS.Head3
import HandS.HeadHook4
import HandS.HeadEnd
set_option Elab.async false
set_option linter.all false
set_option maxRecDepth 100000
set_option maxHeartbeats 4000000
/-! == and != where one side is an instance of an own class with an own __eq__ -/
namespace OC
open PySem PySem.SeqAt PySem.W
open AutoSeq1 (wpAny_loadPart')
open MeetsSeq MeetsSeq2 MeetsSeq3 SeqRoads2
def Is2 (op : CmpOp) : Prop := op = .Eq ∨ op = .NotEq
section
variable {prog : Program} {w : World} {A : Around} {E : Value → Shared → Prop} {s : Shared} {K : Frag} {x C f : Addr} {ox : Obj} {od : Option Obj}
/-- the built-in's own comparison hands back NotImplemented: nothing is known of it, nothing has changed -/
def Decl (prog : Program) (w : World) (A : Around) (s : Shared) (op : CmpOp) (a b : Value) : Prop :=
  ∀ (Q : Option Value → Shared → Prop) (E : Value → Shared → Prop), Q none s → wpAny (model prog w) A (tryCompare a (cmpInfo op).2.1 b) Q E s
theorem int_ref_eq (b : Int) (u : Tok) {o : Obj} (hd : o.data = .plain) (l : Addr) :
    Meets (Builtin.«int.__eq__» ⟨[.int b u, .ref l], []⟩) (fun _ R s => s.heap.get? l = some o ∧ R (.ok (.ret .notImplemented)) s) :=
  .of_wp fun prog w A R s h => by obtain ⟨cls, dd, data, sl⟩ := o; obtain ⟨hp, g, d, tk, os⟩ := s; obtain ⟨hl, h⟩ := h; simp only at hd; subst hd; wp_walk using wpAny_loadPart' hl, wpAny_load hl; exact ⟨_, rfl, h⟩
theorem int_ref_ne (b : Int) (u : Tok) {o : Obj} (hd : o.data = .plain) (l : Addr) :
    Meets (Builtin.«int.__ne__» ⟨[.int b u, .ref l], []⟩) (fun _ R s => s.heap.get? l = some o ∧ R (.ok (.ret .notImplemented)) s) :=
  .of_wp fun prog w A R s h => by obtain ⟨cls, dd, data, sl⟩ := o; obtain ⟨hp, g, d, tk, os⟩ := s; obtain ⟨hl, h⟩ := h; simp only at hd; subst hd; wp_walk using wpAny_loadPart' hl, wpAny_load hl; exact ⟨_, rfl, h⟩
theorem bool_ref_eq (b : Bool) {o : Obj} (hd : o.data = .plain) (l : Addr) :
    Meets (Builtin.«int.__eq__» ⟨[.bool b, .ref l], []⟩) (fun _ R s => s.heap.get? l = some o ∧ R (.ok (.ret .notImplemented)) s) :=
  .of_wp fun prog w A R s h => by obtain ⟨cls, dd, data, sl⟩ := o; obtain ⟨hp, g, d, tk, os⟩ := s; obtain ⟨hl, h⟩ := h; simp only at hd; subst hd; wp_walk using wpAny_loadPart' hl, wpAny_load hl; exact ⟨_, rfl, h⟩
theorem bool_ref_ne (b : Bool) {o : Obj} (hd : o.data = .plain) (l : Addr) :
    Meets (Builtin.«int.__ne__» ⟨[.bool b, .ref l], []⟩) (fun _ R s => s.heap.get? l = some o ∧ R (.ok (.ret .notImplemented)) s) :=
  .of_wp fun prog w A R s h => by obtain ⟨cls, dd, data, sl⟩ := o; obtain ⟨hp, g, d, tk, os⟩ := s; obtain ⟨hl, h⟩ := h; simp only at hd; subst hd; wp_walk using wpAny_loadPart' hl, wpAny_load hl; exact ⟨_, rfl, h⟩
theorem str_ref_eq (b : Str) (u : Tok) {o : Obj} (hd : o.data = .plain) (l : Addr) :
    Meets (Builtin.«str.__eq__» ⟨[.str b u, .ref l], []⟩) (fun _ R s => s.heap.get? l = some o ∧ R (.ok (.ret .notImplemented)) s) :=
  .of_wp fun prog w A R s h => by obtain ⟨cls, dd, data, sl⟩ := o; obtain ⟨hp, g, d, tk, os⟩ := s; obtain ⟨hl, h⟩ := h; simp only at hd; subst hd; wp_walk using wpAny_loadPart' hl, wpAny_load hl; exact ⟨_, rfl, h⟩
theorem str_ref_ne (b : Str) (u : Tok) {o : Obj} (hd : o.data = .plain) (l : Addr) :
    Meets (Builtin.«str.__ne__» ⟨[.str b u, .ref l], []⟩) (fun _ R s => s.heap.get? l = some o ∧ R (.ok (.ret .notImplemented)) s) :=
  .of_wp fun prog w A R s h => by obtain ⟨cls, dd, data, sl⟩ := o; obtain ⟨hp, g, d, tk, os⟩ := s; obtain ⟨hl, h⟩ := h; simp only at hd; subst hd; wp_walk using wpAny_loadPart' hl, wpAny_load hl; exact ⟨_, rfl, h⟩
theorem decl_int {op : CmpOp} (ho : Is2 op) (b : Int) (u : Tok) (hx : s.heap.get? x = some ox) (hd : ox.data = .plain) : Decl prog w A s op (.int b u) (.ref x) := fun Q E hq => by
  rcases ho with rfl | rfl
  · exact wpAny_tryCompare_declines (typeIs_int s b u) F.slot_int_eq (call_meets F.slot_int_eq (typeIs_int s b u) F.entry_int_eq (F.args_int_eq_2 _ _) (int_ref_eq b u hd x) ⟨hx, rfl, hq⟩)
  · exact wpAny_tryCompare_declines (typeIs_int s b u) F.slot_int_ne (call_meets F.slot_int_ne (typeIs_int s b u) F.entry_int_ne (F.args_int_ne_2 _ _) (int_ref_ne b u hd x) ⟨hx, rfl, hq⟩)
theorem decl_bool {op : CmpOp} (ho : Is2 op) (b : Bool) (hx : s.heap.get? x = some ox) (hd : ox.data = .plain) : Decl prog w A s op (.bool b) (.ref x) := fun Q E hq => by
  rcases ho with rfl | rfl
  · exact wpAny_tryCompare_declines (T := "bool") rfl F.slot_bool_eq (call_meets F.slot_bool_eq rfl F.entry_int_eq (F.args_int_eq_2 _ _) (bool_ref_eq b hd x) ⟨hx, rfl, hq⟩)
  · exact wpAny_tryCompare_declines (T := "bool") rfl F.slot_bool_ne (call_meets F.slot_bool_ne rfl F.entry_int_ne (F.args_int_ne_2 _ _) (bool_ref_ne b hd x) ⟨hx, rfl, hq⟩)
theorem decl_str {op : CmpOp} (ho : Is2 op) (b : Str) (u : Tok) (hx : s.heap.get? x = some ox) (hd : ox.data = .plain) : Decl prog w A s op (.str b u) (.ref x) := fun Q E hq => by
  rcases ho with rfl | rfl
  · exact wpAny_tryCompare_declines (typeIs_str s b u) F.slot_str_eq (call_meets F.slot_str_eq (typeIs_str s b u) F.entry_str_eq (F.args_str_eq_2 _ _) (str_ref_eq b u hd x) ⟨hx, rfl, hq⟩)
  · exact wpAny_tryCompare_declines (typeIs_str s b u) F.slot_str_ne (call_meets F.slot_str_ne (typeIs_str s b u) F.entry_str_ne (F.args_str_ne_2 _ _) (str_ref_ne b u hd x) ⟨hx, rfl, hq⟩)
theorem decl_none {op : CmpOp} (ho : Is2 op) : Decl prog w A s op .none (.ref x) := fun Q E hq => by
  rcases ho with rfl | rfl
  · exact wpAny_tryCompare_declines (T := "NoneType") rfl F.slot_NoneType_eq (call_gives F.slot_NoneType_eq rfl F.entry_NoneType_eq (F.args_NoneType_eq_2 _ _) (NoneType___eq___none_ref_0 x) ⟨rfl, hq⟩)
  · exact wpAny_tryCompare_declines (T := "NoneType") rfl F.slot_NoneType_ne (call_gives F.slot_NoneType_ne rfl F.entry_NoneType_ne (F.args_NoneType_ne_2 _ _) (NoneType___ne___none_ref_0 x) ⟨rfl, hq⟩)
end
end OC
set_option Elab.async false
set_option linter.all false
set_option maxRecDepth 100000
set_option maxHeartbeats 4000000
namespace OC
open PySem PySem.SeqAt PySem.W
open AutoSeq1 (wpAny_loadPart')
open MeetsSeq MeetsSeq2 MeetsSeq3 SeqRoads2
section
variable {prog : Program} {w : World} {A : Around} {E : Value → Shared → Prop} {s : Shared} {K : Frag} {x C f : Addr} {ox : Obj} {od : Option Obj}
theorem not_inst {M : Model} {h : Heap} {T : String} (X : K.In h) (I : InstAt h x ox C od) (hn : subIn K (.ref C) (.type T) = some false) : Looks M h (isInstance (.ref x) (.type T)) false :=
  I.type.andThen (looks_subIn X hn)
theorem tup_ref_eq (l : Addr) (items : Array Value) (n : Nat) (dd : Option Addr) (sl : Array (Option Value)) (x : Addr) :
    Meets (Builtin.«tuple.__eq__» ⟨[.ref l, .ref x], []⟩) (fun _ R s => (∀ M : Model, Looks M s.heap (isInstance (.ref x) (.type "tuple")) false) ∧ s.heap.get? l = some { cls := .type "tuple", dict := dd, data := .seq items n, slots := sl } ∧ R (.ok (.ret .notImplemented)) s) :=
  .of_wp fun prog w A R s h => by
    obtain ⟨hp, g, d, tk, os⟩ := s; obtain ⟨L0, hl, h⟩ := h
    have L := L0 (model prog w)
    unfold Builtin.«tuple.__eq__»
    repeat (first | with_reducible refine L.at ?_ | (refine wpAny_bind (m := isInstance (.ref x) (.type "tuple")) (L.at ?_)) | wp_step)
    exact ⟨_, rfl, h⟩
theorem tup_ref_ne (l : Addr) (items : Array Value) (n : Nat) (dd : Option Addr) (sl : Array (Option Value)) (x : Addr) :
    Meets (Builtin.«tuple.__ne__» ⟨[.ref l, .ref x], []⟩) (fun _ R s => (∀ M : Model, Looks M s.heap (isInstance (.ref x) (.type "tuple")) false) ∧ s.heap.get? l = some { cls := .type "tuple", dict := dd, data := .seq items n, slots := sl } ∧ R (.ok (.ret .notImplemented)) s) :=
  .of_wp fun prog w A R s h => by
    obtain ⟨hp, g, d, tk, os⟩ := s; obtain ⟨L0, hl, h⟩ := h
    have L := L0 (model prog w)
    unfold Builtin.«tuple.__ne__»
    repeat (first | with_reducible refine L.at ?_ | (refine wpAny_bind (m := isInstance (.ref x) (.type "tuple")) (L.at ?_)) | wp_step)
    exact ⟨_, rfl, h⟩
theorem list_ref_eq (l : Addr) (items : Array Value) (n : Nat) (dd : Option Addr) (sl : Array (Option Value)) (x : Addr) :
    Meets (Builtin.«list.__eq__» ⟨[.ref l, .ref x], []⟩) (fun _ R s => (∀ M : Model, Looks M s.heap (isInstance (.ref x) (.type "list")) false) ∧ s.heap.get? l = some { cls := .type "list", dict := dd, data := .seq items n, slots := sl } ∧ R (.ok (.ret .notImplemented)) s) :=
  .of_wp fun prog w A R s h => by
    obtain ⟨hp, g, d, tk, os⟩ := s; obtain ⟨L0, hl, h⟩ := h
    have L := L0 (model prog w)
    unfold Builtin.«list.__eq__»
    repeat (first | with_reducible refine L.at ?_ | (refine wpAny_bind (m := isInstance (.ref x) (.type "list")) (L.at ?_)) | wp_step)
    exact ⟨_, rfl, h⟩
theorem list_ref_ne (l : Addr) (items : Array Value) (n : Nat) (dd : Option Addr) (sl : Array (Option Value)) (x : Addr) :
    Meets (Builtin.«list.__ne__» ⟨[.ref l, .ref x], []⟩) (fun _ R s => (∀ M : Model, Looks M s.heap (isInstance (.ref x) (.type "list")) false) ∧ s.heap.get? l = some { cls := .type "list", dict := dd, data := .seq items n, slots := sl } ∧ R (.ok (.ret .notImplemented)) s) :=
  .of_wp fun prog w A R s h => by
    obtain ⟨hp, g, d, tk, os⟩ := s; obtain ⟨L0, hl, h⟩ := h
    have L := L0 (model prog w)
    unfold Builtin.«list.__ne__»
    repeat (first | with_reducible refine L.at ?_ | (refine wpAny_bind (m := isInstance (.ref x) (.type "list")) (L.at ?_)) | wp_step)
    exact ⟨_, rfl, h⟩
theorem dict_ref_eq (l : Addr) (x : Addr) {o : Obj} (ho : o.ExactDict) :
    Meets (Builtin.«dict.__eq__» ⟨[.ref l, .ref x], []⟩) (fun _ R s => (∀ M : Model, Looks M s.heap (isInstance (.ref x) (.type "dict")) false) ∧ s.heap.get? l = some o ∧ R (.ok (.ret .notImplemented)) s) :=
  .of_wp fun prog w A R s h => by
    obtain ⟨hp, g, d, tk, os⟩ := s; obtain ⟨L0, hl, h⟩ := h
    have L := L0 (model prog w)
    show wpAny _ _ (Builtin.Dict.dictSlotArgs "__eq__" ⟨[.ref l, .ref x], []⟩ >>= _) _ _ _
    repeat (first | with_reducible refine L.at ?_ | (refine wpAny_bind (m := isInstance (.ref x) (.type "dict")) (L.at ?_)) | wp_step)
    exact ⟨_, rfl, h⟩
theorem dict_ref_ne (l : Addr) (x : Addr) {o : Obj} (ho : o.ExactDict) :
    Meets (Builtin.«dict.__ne__» ⟨[.ref l, .ref x], []⟩) (fun _ R s => (∀ M : Model, Looks M s.heap (isInstance (.ref x) (.type "dict")) false) ∧ s.heap.get? l = some o ∧ R (.ok (.ret .notImplemented)) s) :=
  .of_wp fun prog w A R s h => by
    obtain ⟨hp, g, d, tk, os⟩ := s; obtain ⟨L0, hl, h⟩ := h
    have L := L0 (model prog w)
    show wpAny _ _ (Builtin.Dict.dictSlotArgs "__ne__" ⟨[.ref l, .ref x], []⟩ >>= _) _ _ _
    repeat (first | with_reducible refine L.at ?_ | (refine wpAny_bind (m := isInstance (.ref x) (.type "dict")) (L.at ?_)) | wp_step)
    exact ⟨_, rfl, h⟩
end
end OC
set_option Elab.async false
set_option linter.all false
set_option maxRecDepth 100000
set_option maxHeartbeats 4000000
namespace OC
open PySem PySem.SeqAt PySem.W Builtin
open AutoSeq1 (wpAny_loadPart')
open MeetsSeq MeetsSeq2 MeetsSeq3 SeqRoads2
section
variable {prog : Program} {w : World} {A : Around} {E : Value → Shared → Prop} {s : Shared} {K : Frag} {x C f : Addr} {ox : Obj} {od : Option Obj} {y : Value}
/-- what the own __eq__ hands back, turned for != -/
def turn (op : CmpOp) (b : Bool) : Bool := match op with | .Eq => b | _ => !b
/-- the class: its own __eq__ at f, its __ne__ is object's -/
structure OwnQ (K : Frag) (C f : Addr) : Prop where
  eq : findIn K (.ref C) "__eq__" = some (some (.ref f))
  ne : findIn K (.ref C) "__ne__" = some (some (.builtin "object.__ne__"))
  ob : mroIn K C (.type "object") = some true
  fn : isFn K (.ref f) = true
theorem ifBound_objNe {M : Model} {args : List Value} {Q : Option Value → Shared → Prop} (X : K.In s.heap) (I : InstAt s.heap x ox C od) (hs : findIn K (.ref C) "__ne__" = some (some (.builtin "object.__ne__")))
    (h : wpAny M A (call (.builtin "object.__ne__") (.ref x :: args)) (fun v => Q (some v)) E s) : wpAny M A (callSpecialIfBound? (.ref x) "__ne__" args) Q E s := by
  simp only [callSpecialIfBound?, bindSpecialIfBound?]
  refine wpAny_holding (wpAny_bind (wpAny_bind (wpAny_bind (I.type.here ((looks_findIn X hs).here ?_)))))
  refine wpAny_bind (wpAny_askSetting (wpAny_ite ?_))
  have fin : wpAny M A (call (.builtin "object.__ne__") ([.ref x] ++ args) >>= fun v => pure (some v)) Q E s := wpAny_bind (wpAny_mono h (fun v s' h' => wpAny_pure h') fun _ _ h' => h')
  split
  · exact wpAny_bind (wpAny_of_eq (F.cmp_object.ne.bind _) (wpAny_pure (by exact fin)))
  · exact wpAny_tryCatch (wpAny_bind (wpAny_of_eq (F.cmp_object.ne.bind _) (wpAny_pure (by exact fin))))
theorem ne_entry {Q : Fin → Shared → Prop} (hu : A.units < cLine) (X : K.In s.heap) (I : InstAt s.heap x ox C od) (O : OwnQ K C f)
    (h : wpAny (model prog w) A (call (.ref f) [.ref x, y]) (fun v s' => ∃ b, v = .bool b ∧ Q (.done (.ret (.bool (!b)))) s') E s) :
    wpAny (model prog w) A (Builtin.«object.__ne__» ⟨[.ref x, y], []⟩) Q E s := by
  obtain ⟨hp, g, d, t, os⟩ := s
  unfold Builtin.«object.__ne__»
  repeat (first
    | with_reducible refine wpAny_cRoomFor hu ?_
    | (refine wpAny_bind (m := callSpecialIfBound? (.ref x) (Str.ofString "__eq__") [y])
        (ifBound_K X I O.eq O.fn (wpAny_mono h (fun r s' hr => by
          obtain ⟨b, rfl, hq⟩ := hr
          repeat (first | exact hq | exact wpAny_pure hq | exact wpAny_truthy_bool hq | (refine wpAny_bind (m := truthy (.bool _)) (wpAny_truthy_bool ?_)) | wp_step)) fun _ _ e => e)))
    | wp_step)
theorem own_try {op : CmpOp} {Q : Value → Shared → Prop} (ho : Is2 op) (hu : A.units + 1 < cLine) (X : K.In s.heap) (I : InstAt s.heap x ox C od) (O : OwnQ K C f)
    (h : ∀ A' : Around, A' = A ∨ A' = A.in1 → wpAny (model prog w) A' (call (.ref f) [.ref x, y]) (fun v s' => ∃ b, v = .bool b ∧ Q (.bool (turn op b)) s') E s) :
    wpAny (model prog w) A (tryCompare (.ref x) (cmpInfo op).2.1 y) (fun r s' => ∃ v, r = some v ∧ Q v s') E s := by
  rcases ho with rfl | rfl
  · unfold tryCompare
    refine wpAny_bind (m := callSpecialIfBound? (.ref x) "__eq__" [y]) (ifBound_K X I O.eq O.fn (wpAny_mono (h A (.inl rfl)) (fun v s' hv => ?_) fun _ _ e => e))
    obtain ⟨b, rfl, hq⟩ := hv
    exact wpAny_pure ⟨_, rfl, hq⟩
  · unfold tryCompare
    refine wpAny_bind (m := callSpecialIfBound? (.ref x) "__ne__" [y]) (ifBound_objNe X I O.ne ?_)
    refine wpAny_call (codeAny_call_builtin F.cmp_object.ne.plain F.cmpEntry_ne (check_slot F.cmpKind_ne F.cmpSplit_ne (I.type.andThen (looks_mroIn X O.ob)) (F.cmpArgs_ne _ _) ?_))
    refine ne_entry (A := A.in1) hu X I O (wpAny_mono (h A.in1 (.inr rfl)) (fun v s' hv => ?_) fun _ _ e => e)
    obtain ⟨b, rfl, hq⟩ := hv
    first
      | exact ⟨b, rfl, wpAny_pure ⟨_, rfl, hq⟩⟩
      | exact ⟨b, rfl, wpAny_pure (wpAny_pure ⟨_, rfl, hq⟩)⟩
      | exact ⟨b, rfl, ⟨_, rfl, hq⟩⟩
theorem compareOp2 {op : CmpOp} (ho : Is2 op) (a b : Value) : compareOp op a b = richCompare op a b := by rcases ho with rfl | rfl <;> rfl
/-- the instance on the left -/
theorem rc_left {op : CmpOp} {tb : Value} {Q : Value → Shared → Prop} (ho : Is2 op) (hu : A.units + 1 < cLine) (X : K.In s.heap) (I : InstAt s.heap x ox C od) (O : OwnQ K C f) (hb : Looks (model prog w) s.heap (typeOf y) tb) (hn : notFirst K C tb = true)
    (h : ∀ A' : Around, A' = A ∨ A' = A.in1 → wpAny (model prog w) A' (call (.ref f) [.ref x, y]) (fun v s' => ∃ b, v = .bool b ∧ Q (.bool (turn op b)) s') E s) :
    wpAny (model prog w) A (richCompare op (.ref x) y) Q E s := by
  have one := own_try ho hu X I O h
  unfold richCompare
  simp only [oneThing_ref]
  refine wpAny_holding (wpAny_bind (wpAny_cRoomFor (Nat.lt_of_succ_lt hu) ?_))
  refine wpAny_bind (I.type.here (wpAny_bind (hb.here ?_)))
  split
  · rename_i q
    have e : subIn K tb (.ref C) = some false := by
      rcases Bool.or_eq_true_iff.mp hn with e | e
      · rw [beq_iff_eq.mp e] at q; simp at q
      · exact beq_iff_eq.mp e
    refine wpAny_bind ((looks_subIn X e).here ?_)
    simp only [Bool.false_eq_true, if_false]
    refine wpAny_bind (wpAny_mono one (fun r s' z => ?_) fun _ _ e => e)
    obtain ⟨v, rfl, hq⟩ := z
    exact wpAny_pure hq
  · refine wpAny_bind (wpAny_pure ?_)
    simp only [Bool.false_eq_true, if_false]
    refine wpAny_bind (wpAny_mono one (fun r s' z => ?_) fun _ _ e => e)
    obtain ⟨v, rfl, hq⟩ := z
    exact wpAny_pure hq
/-- the instance on the right, a value of a built-in type on the left -/
theorem rc_right {op : CmpOp} {T : String} {a : Value} {Q : Value → Shared → Prop} (ho : Is2 op) (hu : A.units + 1 < cLine) (X : K.In s.heap) (I : InstAt s.heap x ox C od) (O : OwnQ K C f) (ha : s.TypeIs a T) (hn : subIn K (.ref C) (.type T) = some false)
    (hne : (oneThing? op a (.ref x)) = none)
    (hd : Decl prog w A s op a (.ref x))
    (h : ∀ A' : Around, A' = A ∨ A' = A.in1 → wpAny (model prog w) A' (call (.ref f) [.ref x, a]) (fun v s' => ∃ b, v = .bool b ∧ Q (.bool (turn op b)) s') E s) :
    wpAny (model prog w) A (richCompare op a (.ref x)) Q E s := by
  have one := own_try ho hu X I O h
  have e2 : (cmpInfo op).2.2 = (cmpInfo op).2.1 := by rcases ho with rfl | rfl <;> rfl
  unfold richCompare
  simp only [hne]
  refine wpAny_holding (wpAny_bind (wpAny_cRoomFor (Nat.lt_of_succ_lt hu) ?_))
  refine wpAny_bind (wpAny_typeOf ha (wpAny_bind (I.type.here ?_)))
  have ne : (Value.type T != Value.ref C) = true := by simp
  simp only [ne, if_true]
  refine wpAny_bind ((looks_subIn X hn).here ?_)
  simp only [Bool.false_eq_true, if_false]
  refine wpAny_bind (m := tryCompare a (cmpInfo op).2.1 (.ref x)) (hd _ _ ?_)
  simp only [Bool.not_false, if_true]
  rw [e2]
  refine wpAny_bind (m := tryCompare (.ref x) (cmpInfo op).2.1 a) (wpAny_mono one (fun r s' z => ?_) fun _ _ e => e)
  obtain ⟨v, rfl, hq⟩ := z
  exact wpAny_pure hq
end
end OC
set_option Elab.async false
set_option linter.all false
set_option maxRecDepth 100000
set_option maxHeartbeats 4000000
namespace L2
open PySem PySem.Spec PyProof.Rows
/-- a foreign thing: its built-in type, its kind told by the heap -/
inductive Fo (K : PySem.W.Frag) (H : Hp) : V → String → Prop where
  | non : Fo K H .non "NoneType"
  | bl (b : Bool) : Fo K H (.bl b) "bool"
  | int (i : Int) : Fo K H (.int i) "int"
  | str (x : Str) : Fo K H (.str x) "str"
  | lst {a : Addr} {xs : List V} (e : H a = some (.lst xs)) : Fo K H (.ref a) "list"
  | tup {a : Addr} {xs : List V} (e : H a = some (.tup xs)) : Fo K H (.ref a) "tuple"
  | dK {a : Addr} {kvs : List (Key × V)} (e : H a = some (.dK kvs)) : Fo K H (.ref a) "dict"
theorem Fo.ty {K : PySem.W.Frag} {H : Hp} {x : V} {T : String} (h : Fo K H x T) : TyX K H x (.type T) := by
  cases h with
  | non => exact .base .non
  | bl b => exact .base (.bl b)
  | int i => exact .base (.int i)
  | str x => exact .base (.str x)
  | lst e => exact .base (.lst e)
  | tup e => exact .base (.tup e)
  | dK e => exact .base (.dK e)
/-- the class at C as far as == and != ask -/
structure OwnT (K : PySem.W.Frag) (C f : Addr) : Prop where
  q : OC.OwnQ K C f
  sint : PySem.W.subIn K (.ref C) (.type "int") = some false
  sbool : PySem.W.subIn K (.ref C) (.type "bool") = some false
  snon : PySem.W.subIn K (.ref C) (.type "NoneType") = some false
  sstr : PySem.W.subIn K (.ref C) (.type "str") = some false
  slst : PySem.W.subIn K (.ref C) (.type "list") = some false
  stup : PySem.W.subIn K (.ref C) (.type "tuple") = some false
  sdct : PySem.W.subIn K (.ref C) (.type "dict") = some false
theorem not_first {K : PySem.W.Frag} {C : Addr} {T : String} {l : List Value} (h : fastBuiltinMro T = some l) (hl : l.all (fun v => match v with | .type _ => true | _ => false) = true) : PySem.W.notFirst K C (.type T) = true := by
  unfold PySem.W.notFirst
  have e : PySem.W.subIn K (.type T) (.ref C) = some false := by
    show (fastBuiltinMro T).map (·.contains (.ref C)) = some false
    rw [h]
    show some (l.contains (.ref C)) = some false
    congr 1
    induction l with
    | nil => rfl
    | cons a r ih =>
      rw [List.all_cons, Bool.and_eq_true] at hl
      rw [List.contains_cons]
      have : (Value.ref C == a) = false := by
        cases a <;> first | rfl | (simp at hl)
        
      rw [this, Bool.false_or]
      clear h
      exact (by
        revert hl
        intro hl
        clear ih this
        have hl2 := hl.2
        clear hl
        induction r with
        | nil => rfl
        | cons b r ih2 =>
          rw [List.all_cons, Bool.and_eq_true] at hl2
          rw [List.contains_cons]
          have : (Value.ref C == b) = false := by
            cases b <;> first | rfl | (simp at hl2)
          rw [this, Bool.false_or]
          exact ih2 hl2.2)
  rw [e]
  simp
theorem Fo.nf {K : PySem.W.Frag} {H : Hp} {x : V} {T : String} {C : Addr} (h : Fo K H x T) : PySem.W.notFirst K C (.type T) = true := by
  cases h with
  | non => exact not_first (l := [.type "NoneType", .type "object"]) (by decide +kernel) (by decide +kernel)
  | bl b => exact not_first (l := [.type "bool", .type "int", .type "object"]) (by decide +kernel) (by decide +kernel)
  | int i => exact not_first (l := [.type "int", .type "object"]) (by decide +kernel) (by decide +kernel)
  | str x => exact not_first (l := [.type "str", .type "object"]) (by decide +kernel) (by decide +kernel)
  | lst e => exact not_first (l := [.type "list", .type "object"]) (by decide +kernel) (by decide +kernel)
  | tup e => exact not_first (l := [.type "tuple", .type "object"]) (by decide +kernel) (by decide +kernel)
  | dK e => exact not_first (l := [.type "dict", .type "object"]) (by decide +kernel) (by decide +kernel)
theorem Fo.sub {K : PySem.W.Frag} {H : Hp} {x : V} {T : String} {C f : Addr} (h : Fo K H x T) (O : OwnT K C f) : PySem.W.subIn K (.ref C) (.type T) = some false := by
  cases h with
  | non => exact O.snon
  | bl b => exact O.sbool
  | int i => exact O.sint
  | str x => exact O.sstr
  | lst e => exact O.slst
  | tup e => exact O.stup
  | dK e => exact O.sdct
section
variable {X : Cx} {pins : List (Addr × Obj)} {σ : St} {H : Hp} {s : Shared}
theorem Fo.typ {x : V} {u : Value} {T : String} (h : Fo X.K H x T) (I : Inv X pins σ H s) (r : RelV x u) : s.TypeIs u T := by
  cases h with
  | non => cases (show u = Value.none from r); rfl
  | bl b => cases (show u = Value.bool b from r); rfl
  | int i => obtain ⟨t, q⟩ := (show ∃ t, u = Value.int i t from r); cases q; rfl
  | str x => obtain ⟨t, q⟩ := (show ∃ t, u = Value.str x t from r); cases q; rfl
  | @lst a xs e =>
    cases (show u = Value.ref a from r)
    obtain ⟨_, _, n, _, h1⟩ := (show ObjOk X.prog X.w H s.heap a (.lst xs) from I.hok a _ e)
    exact ⟨_, h1, rfl⟩
  | @tup a xs e =>
    cases (show u = Value.ref a from r)
    obtain ⟨_, _, _, o, h1, h2, _⟩ := (show ObjOk X.prog X.w H s.heap a (.tup xs) from I.hok a _ e)
    exact ⟨o, h1, h2⟩
  | @dK a kvs e =>
    cases (show u = Value.ref a from r)
    obtain ⟨_, _, vs, _, o, es, ep, h1, h2, _⟩ := (show ObjOk X.prog X.w H s.heap a (.dK kvs) from I.hok a _ e)
    exact ⟨o, h1, h2.1⟩
theorem Fo.looks {x : V} {u : Value} {T : String} (h : Fo X.K H x T) (I : Inv X pins σ H s) (r : RelV x u) : PySem.W.Looks (model X.prog X.w) s.heap (typeOf u) (.type T) := by
  cases h with
  | non => cases (show u = Value.none from r); exact .of_pure rfl
  | bl b => cases (show u = Value.bool b from r); exact .of_pure rfl
  | int i => obtain ⟨t, q⟩ := (show ∃ t, u = Value.int i t from r); cases q; exact .of_pure rfl
  | str x => obtain ⟨t, q⟩ := (show ∃ t, u = Value.str x t from r); cases q; exact .of_pure rfl
  | @lst a xs e =>
    cases (show u = Value.ref a from r)
    obtain ⟨_, _, n, _, h1⟩ := (show ObjOk X.prog X.w H s.heap a (.lst xs) from I.hok a _ e)
    exact (PySem.W.Looks.ld h1).andThen .now
  | @tup a xs e =>
    cases (show u = Value.ref a from r)
    obtain ⟨_, _, _, o, h1, h2, _⟩ := (show ObjOk X.prog X.w H s.heap a (.tup xs) from I.hok a _ e)
    rw [← h2]
    exact (PySem.W.Looks.ld h1).andThen .now
  | @dK a kvs e =>
    cases (show u = Value.ref a from r)
    obtain ⟨_, _, vs, _, o, es, ep, h1, h2, _⟩ := (show ObjOk X.prog X.w H s.heap a (.dK kvs) from I.hok a _ e)
    rw [← h2.1]
    exact (PySem.W.Looks.ld h1).andThen .now
theorem Fo.one {x : V} {u : Value} {T : String} {op : CmpOp} {c : Addr} (h : Fo X.K H x T) (r : RelV x u) : oneThing? op u (.ref c) = none := by
  cases h with
  | non => cases (show u = Value.none from r); rfl
  | bl b => cases (show u = Value.bool b from r); rfl
  | int i => obtain ⟨t, q⟩ := (show ∃ t, u = Value.int i t from r); cases q; rfl
  | str x => obtain ⟨t, q⟩ := (show ∃ t, u = Value.str x t from r); cases q; rfl
  | @lst a xs e => cases (show u = Value.ref a from r); rfl
  | @tup a xs e => cases (show u = Value.ref a from r); rfl
  | @dK a kvs e => cases (show u = Value.ref a from r); rfl
theorem Fo.decl {A : Around} {x : V} {u : Value} {T : String} {op : CmpOp} {c C f : Addr} {ox : Obj} {od : Option Obj} (ho : OC.Is2 op) (h : Fo X.K H x T) (O : OwnT X.K C f) (I : Inv X pins σ H s) (r : RelV x u) (J : PySem.W.InstAt s.heap c ox C od) (hd : ox.data = .plain) :
    OC.Decl X.prog X.w A s op u (.ref c) := by
  cases h with
  | non => cases (show u = Value.none from r); exact OC.decl_none ho
  | bl b => cases (show u = Value.bool b from r); exact OC.decl_bool ho b J.at_ hd
  | int i => obtain ⟨t, q⟩ := (show ∃ t, u = Value.int i t from r); cases q; exact OC.decl_int ho i t J.at_ hd
  | str x => obtain ⟨t, q⟩ := (show ∃ t, u = Value.str x t from r); cases q; exact OC.decl_str ho x t J.at_ hd
  | @lst a xs e =>
    cases (show u = Value.ref a from r)
    obtain ⟨_, its, n, _, h1⟩ := (show ObjOk X.prog X.w H s.heap a (.lst xs) from I.hok a _ e)
    intro Q E hq
    rcases ho with rfl | rfl
    · exact wpAny_tryCompare_declines ⟨_, h1, rfl⟩ F.slot_list_eq (call_meets F.slot_list_eq ⟨_, h1, rfl⟩ F.entry_list_eq (F.args_list_eq_2 _ _) (OC.list_ref_eq a _ n _ _ c) ⟨fun M => OC.not_inst I.kIn J O.slst, h1, rfl, hq⟩)
    · exact wpAny_tryCompare_declines ⟨_, h1, rfl⟩ F.slot_list_ne (call_meets F.slot_list_ne ⟨_, h1, rfl⟩ F.entry_list_ne (F.args_list_ne_2 _ _) (OC.list_ref_ne a _ n _ _ c) ⟨fun M => OC.not_inst I.kIn J O.slst, h1, rfl, hq⟩)
  | @tup a xs e =>
    cases (show u = Value.ref a from r)
    obtain ⟨_, its, _, o, h1, h2, n, h3⟩ := (show ObjOk X.prog X.w H s.heap a (.tup xs) from I.hok a _ e)
    obtain ⟨oc, odd, dt, sl⟩ := o
    simp only at h2 h3
    subst h2 h3
    intro Q E hq
    rcases ho with rfl | rfl
    · exact wpAny_tryCompare_declines ⟨_, h1, rfl⟩ F.slot_tuple_eq (call_meets F.slot_tuple_eq ⟨_, h1, rfl⟩ F.entry_tuple_eq (F.args_tuple_eq_2 _ _) (OC.tup_ref_eq a _ n _ _ c) ⟨fun M => OC.not_inst I.kIn J O.stup, h1, rfl, hq⟩)
    · exact wpAny_tryCompare_declines ⟨_, h1, rfl⟩ F.slot_tuple_ne (call_meets F.slot_tuple_ne ⟨_, h1, rfl⟩ F.entry_tuple_ne (F.args_tuple_ne_2 _ _) (OC.tup_ref_ne a _ n _ _ c) ⟨fun M => OC.not_inst I.kIn J O.stup, h1, rfl, hq⟩)
  | @dK a kvs e =>
    cases (show u = Value.ref a from r)
    obtain ⟨_, _, vs, _, o, es, ep, h1, h2, _⟩ := (show ObjOk X.prog X.w H s.heap a (.dK kvs) from I.hok a _ e)
    intro Q E hq
    rcases ho with rfl | rfl
    · exact wpAny_tryCompare_declines ⟨_, h1, h2.1⟩ F.slot_dict_eq (call_meets F.slot_dict_eq ⟨_, h1, h2.1⟩ F.entry_dict_eq (F.args_dict_eq_2 _ _) (OC.dict_ref_eq a c h2) ⟨fun M => OC.not_inst I.kIn J O.sdct, h1, rfl, hq⟩)
    · exact wpAny_tryCompare_declines ⟨_, h1, h2.1⟩ F.slot_dict_ne (call_meets F.slot_dict_ne ⟨_, h1, h2.1⟩ F.entry_dict_ne (F.args_dict_ne_2 _ _) (OC.dict_ref_ne a c h2) ⟨fun M => OC.not_inst I.kIn J O.sdct, h1, rfl, hq⟩)
/-- what the own == promises: R tells its answer; nothing changes -/
def spOwn (R : Addr → V → Bool → Hp → Prop) : Sp := fun vs H Q _ => ∃ (a : Addr) (y : V) (b : Bool), vs = [.ref a, y] ∧ R a y b H ∧ Q (.bl b) H
/-- x == y, x != y, one of both an instance of the class at C -/
def rOwnB (K : PySem.W.Frag) (C : Addr) (R : Addr → V → Bool → Hp → Prop) (op : CmpOp) : R2 := fun x y H Q => ∃ b : Bool,
  ((∃ a dx fs, x = .ref a ∧ H a = some (.ins C dx fs) ∧ R a y b H ∧ ((∃ T, Fo K H y T) ∨ ∃ c dy gs, y = .ref c ∧ H c = some (.ins C dy gs))) ∨
    (∃ c dy gs T, y = .ref c ∧ H c = some (.ins C dy gs) ∧ Fo K H x T ∧ R c x b H)) ∧ Q (.bl (OC.turn op b)) H
theorem op_ownB {CX : CXT} {C f : Addr} {fd : FuncData} {ps : List Str} {n : Nat} {R : Addr → V → Bool → Hp → Prop} {E : XK} {op : CmpOp} (ho : OC.Is2 op) (F : FnOk X.prog X.w X.K X.mg X.base CX n f fd ps (spOwn R))
    (O : OwnT X.K C f) (hb : Binds X.K fd ps []) (hx : Passes CX X E) (hr : Room (n + 1) X.A) : OpR X (compareOp op) (rOwnB X.K C R op) := by
  intro pins s σ H x y v u Q I rx ry hq
  obtain ⟨b, hc, q⟩ := hq
  rw [OC.compareOp2 ho]
  have hu : X.A.units + 1 < cLine := hu_of hr
  -- the call of __eq__
  have run : ∀ (a : Addr) (y : V) (u : Value) (A' : Around), RelV y u → R a y b H → (A' = X.A ∨ A' = X.A.in1) →
      wpAny (model X.prog X.w) A' (call (.ref f) [.ref a, u]) (fun v s' => ∃ b, v = .bool b ∧ EP X pins σ Q (.bool (OC.turn op b)) s') X.xe s := by
    intro a y u A' ry hR hA
    have sb : Room n A' ∧ A'.frames = X.A.frames := by
      rcases hA with rfl | rfl
      · exact ⟨hr.mono (Nat.le_succ n), rfl⟩
      · exact ⟨hr.in1, rfl⟩
    have hsp : spOwn R [.ref a, y] H (fun v H' => v = .bl b ∧ H' = H) E := ⟨a, y, b, rfl, hR, rfl, rfl⟩
    have e0 : Env0 X.prog X.w X.K X.mg X.base A' X.stack s H := by
      have e := I.env0
      exact ⟨by rw [sb.2]; exact e.frames, e.mod, e.bs, e.bsz, e.funs, e.frf, e.hok, e.bare⟩
    have hl := F.len _ _ _ _ hsp
    have r2 : Vals [V.ref a, y] [Value.ref a, u] := .cons rfl (.cons ry .nil)
    refine wpAny_call (codeAny_mono (F.run A' X.stack s H ⟨[.ref a, u], []⟩ [.ref a, u] [.ref a, y] _ E sb.1 e0 (by
      have := hb s [.ref a, u] I.kIn (by simpa using hl)
      simpa using this) r2 hsp) fun r s' hq => ?_)
    cases r with
    | error e => exact hx pins σ H s e s' I hq
    | ok fl =>
      cases fl with
      | ret w =>
        obtain ⟨z, H', I', rz, ez, ex⟩ := I.after hq
        subst ez ex
        cases rz
        exact ⟨b, rfl, .bl (OC.turn op b), H', I', rfl, q⟩
      | next => exact False.elim hq
      | brk => exact False.elim hq
      | cont => exact False.elim hq
  rcases hc with ⟨a, dx, fs, rfl, ha, hR, hy⟩ | ⟨c, dy, gs, T, rfl, hc, hT, hR⟩
  · cases rx
    obtain ⟨mA, J, _⟩ := ins_get I.hok ha
    obtain ⟨od, J, _⟩ := J.look
    rcases hy with ⟨T, hT⟩ | ⟨c, dy, gs, rfl, hc⟩
    · exact OC.rc_left ho hu I.kIn J O.q (hT.looks I ry) hT.nf fun A' hA => run a y u A' ry hR hA
    · cases ry
      obtain ⟨mB, J', _⟩ := ins_get I.hok hc
      obtain ⟨od', J', _⟩ := J'.look
      exact OC.rc_left ho hu I.kIn J O.q J'.type (by simp [PySem.W.notFirst]) fun A' hA => run a (.ref c) _ A' rfl hR hA
  · cases ry
    obtain ⟨mA, J, _⟩ := ins_get I.hok hc
    obtain ⟨od, J, _⟩ := J.look
    exact OC.rc_right ho hu I.kIn J O.q (hT.typ I rx) (hT.sub O) (hT.one rx) (hT.decl ho O I rx J rfl) fun A' hA => run c x v A' rx hR hA
end
end L2
set_option Elab.async false
set_option linter.all false
set_option maxRecDepth 100000
set_option maxHeartbeats 4000000
namespace KJ
open PySem L2
def top (i : Nat) : Stmt := PySem.Challenge.pw_bothwalks_k86_whole_texts_that_are_none.main.body.getD i (.Pass ⟨0, 0, 0, 0⟩)
/-- a def of the text that stands, is kept and keeps its promise; nothing leaves it -/
structure Cal (P : Program) (w : World) (K : PySem.W.Frag) (mg : Str → Option Value) (base : Heap) (k : Nat) (x : Str) (ps : List Str) (sp : Sp) : Prop where
  ex : ∃ (f : Addr) (fd : FuncData), mg x = some (.ref f) ∧ PySem.W.keepIn K (.ref f) = true ∧ FnOk P w K mg base CX0 k f fd ps sp ∧ Binds K fd ps []
section
variable {X : Cx} {k : Nat} {ps : List Str} {sp : Sp} {x : Str} {p pos : Pos} {e : Expr} {es : List Expr} {t : TA}
theorem pe_cal (c : Cal X.prog X.w X.K X.mg X.base k x ps sp) (hr : Room k X.A) (hg : Gl X x) (ha : PA X (e :: es) t) (hdb : (x == ("__debug__" : Str)) = false := by decide)
    (he : starEach (e :: es) X.env = (false, eval e X.env) :: starEach es X.env := by rfl) (hpl : (backTo pos (starEach es X.env)).any (·.1) = false := by rfl) :
    PE X (.Call (.Name x p) (e :: es) [] pos) (tCall sp [] E0 t) := by
  obtain ⟨f, fd, hm, hk, F, hb⟩ := c.ex
  exact pe_call F hr hg hm hk hb .nil pass0 ha hdb he hpl
end
/-- a thing: a foreign one, or an instance of the class at C -/
inductive Thing (K : PySem.W.Frag) (C : Addr) (H : Hp) : V → Prop where
  | fo {x : V} {T : String} (h : Fo K H x T) : Thing K C H x
  | ins {a dx : Addr} {fs : List (Str × V)} (e : H a = some (.ins C dx fs)) : Thing K C H (.ref a)
def isI : V → Bool
  | .int _ => true
  | _ => false
/-- what isinstance asks of the class at C -/
structure InsT (K : PySem.W.Frag) (C : Addr) : Prop where
  cl : Cls K C
  ha : PySem.W.findIn K (.ref C) "__class__" = some (some (.builtin "object.__class__"))
  hn : PySem.W.specialIn K (.builtin "object.__class__") "__get__" = some (some (.builtin "getset_descriptor.__get__"))
  htk : PySem.W.takesIn K (.builtin "object.__class__") = some true
  hm : PySem.W.mroIn K C (.type "object") = some true
  kint : PySem.W.kitOne K (.ref C) (.type "int") = some false
  kbool : PySem.W.kitOne K (.ref C) (.type "bool") = some false
  kself : PySem.W.kitOne K (.ref C) (.ref C) = some true
  oint : PySem.W.kitOne K (.type "int") (.ref C) = some false
  obool : PySem.W.kitOne K (.type "bool") (.ref C) = some false
  onon : PySem.W.kitOne K (.type "NoneType") (.ref C) = some false
  ostr : PySem.W.kitOne K (.type "str") (.ref C) = some false
  olst : PySem.W.kitOne K (.type "list") (.ref C) = some false
  otup : PySem.W.kitOne K (.type "tuple") (.ref C) = some false
  odct : PySem.W.kitOne K (.type "dict") (.ref C) = some false
theorem InsT.ty {K : PySem.W.Frag} {C : Addr} {H : Hp} {a dx : Addr} {fs : List (Str × V)} (I : InsT K C) (e : H a = some (.ins C dx fs)) : TyX K H (.ref a) (.ref C) :=
  .base (.ins e I.cl I.ha I.hn I.htk I.hm)
theorem InsT.fo {K : PySem.W.Frag} {C : Addr} {H : Hp} {x : V} {T : String} (I : InsT K C) (h : Fo K H x T) : PySem.W.kitOne K (.type T) (.ref C) = some false := by
  cases h with
  | non => exact I.onon
  | bl b => exact I.obool
  | int i => exact I.oint
  | str x => exact I.ostr
  | lst e => exact I.olst
  | tup e => exact I.otup
  | dK e => exact I.odct
/-- isinstance(x, int) of a thing -/
def isIB : V → Bool
  | .int _ => true
  | .bl _ => true
  | _ => false
def isB : V → Bool
  | .bl _ => true
  | _ => false
theorem Thing.isInt {K : PySem.W.Frag} {C : Addr} {H : Hp} {x : V} (I : InsT K C) (h : Thing K C H x) : ∃ t, TyX K H x t ∧ PySem.W.kitOne K t (.type "int") = some (isIB x) ∧ PySem.W.kitOne K t (.type "bool") = some (isB x) := by
  cases h with
  | ins e => exact ⟨_, I.ty e, I.kint, I.kbool⟩
  | fo h =>
    refine ⟨_, h.ty, ?_⟩
    cases h with
    | non => exact ⟨by exact kit_ty (r := false) (by decide +kernel), by exact kit_ty (r := false) (by decide +kernel)⟩
    | bl b => exact ⟨by exact kit_ty (r := true) (by decide +kernel), by exact kit_ty (r := true) (by decide +kernel)⟩
    | int i => exact ⟨by exact kit_ty (r := true) (by decide +kernel), by exact kit_ty (r := false) (by decide +kernel)⟩
    | str x => exact ⟨by exact kit_ty (r := false) (by decide +kernel), by exact kit_ty (r := false) (by decide +kernel)⟩
    | lst e => exact ⟨by exact kit_ty (r := false) (by decide +kernel), by exact kit_ty (r := false) (by decide +kernel)⟩
    | tup e => exact ⟨by exact kit_ty (r := false) (by decide +kernel), by exact kit_ty (r := false) (by decide +kernel)⟩
    | dK e => exact ⟨by exact kit_ty (r := false) (by decide +kernel), by exact kit_ty (r := false) (by decide +kernel)⟩
/-- is_whole(x) -/
def spWhole (K : PySem.W.Frag) (C : Addr) : Sp := fun vs H Q _ => ∃ x, vs = [x] ∧ Thing K C H x ∧ Q (.bl (isI x)) H
/-- the built-in names that stand as they are -/
structure Bn (mg : Str → Option Value) : Prop where
  n_isinstance : mg "isinstance" = none
  n_int : mg "int" = none
  n_bool : mg "bool" = none
  n_abs : mg "abs" = none
  n_len : mg "len" = none
  n_str : mg "str" = none
  n_divmod : mg "divmod" = none
  n_ValueError : mg "ValueError" = none
section
variable {P : Program} {w : World} {K : PySem.W.Frag} {mg : Str → Option Value} {base : Heap} {C : Addr}
abbrev s_is_whole : Stmt := top 10
theorem sc_is_whole : FnScope ["thing"] ["thing"] (defScope s_is_whole) := ⟨rfl, rfl, rfl, by decide +kernel, rfl, by decide +kernel, by decide +kernel⟩
theorem ok_is_whole {f : Addr} {fd : FuncData} (F : Fun K "is_whole" "is_whole" s_is_whole f fd) (T : Bn mg) (I : InsT K C) : FnOk P w K mg base CX0 1 f fd ["thing"] (spWhole K C) := by
  refine F.ok sc_is_whole (fun vs H Q E h => ?_) (fun cdv A outer s H vs Q E hr h => ?_)
  · obtain ⟨x, rfl, _⟩ := h
    rfl
  · obtain ⟨x, rfl, h, k⟩ := h
    refine ⟨_, (pss_one (ps_ret (pe_and (pe_callB call_isi (by rfl) T.n_isinstance (by decide +kernel) (pa_cons (pv 0) (pa_cons (pe_bltn (v := .ty "int") rfl T.n_int (by decide +kernel) rfl) pa_nil))) (pe_one (pe_not (pe_callB call_isi (by rfl) T.n_isinstance (by decide +kernel) (pa_cons (pv 0) (pa_cons (pe_bltn (v := .ty "bool") rfl T.n_bool (by decide +kernel) rfl) pa_nil)))))))), ?_⟩
    obtain ⟨t, ty, k1, k2⟩ := h.isInt I
    refine ⟨_, rfl, x, .ty "int", t, _, _, rfl, .ty _, ty, k1, _, rfl, ?_⟩
    cases e : isIB x with
    | true =>
      refine iteT ⟨_, rfl, x, .ty "bool", t, _, _, rfl, .ty _, ty, k2, _, rfl, ?_⟩
      have : (!isB x) = isI x := by cases x <;> first | rfl | (simp [isIB] at e)
      rw [this]
      exact k
    | false =>
      refine iteF ?_
      have : isI x = false := by cases x <;> first | rfl | (simp [isIB] at e)
      rw [this] at k
      exact k
end
end KJ
set_option Elab.async false
set_option linter.all false
set_option maxRecDepth 100000
set_option maxHeartbeats 4000000
namespace L2
open PySem PySem.Spec PyProof.Rows
/-- C.m(e, ..), C a class of the text by its global name, m a plain def of it, read off the class -/
structure ClsFn (K : PySem.W.Frag) (C : Addr) (mc : Value) (m : Str) (g : Addr) : Prop where
  rd : PySem.W.readsIn K C mc = true
  ga : PySem.W.specialIn K (.ref C) "__getattribute__" = some (some (.builtin "type.__getattribute__"))
  at_ : PySem.W.findCls K (.ref C) mc m = some (.val (.ref g))
  kp : PySem.W.keepIn K (.ref g) = true
theorem pe_clsfn {X : Cx} {CX : CXT} {k : Nat} {C g : Addr} {mc : Value} {fd : FuncData} {ps : List Str} {sp : Sp} {E : XK} {x m : Str} {p1 p2 pos : Pos} {e : Expr} {es : List Expr} {t : TA} {pl : Sem Bool}
    (c : ClsFn X.K C mc m g) (F : FnOk X.prog X.w X.K X.mg X.base CX k g fd ps sp) (hr : Room k X.A) (hg : Gl X x) (hm : X.mg x = some (.ref C)) (hb : Binds X.K fd ps []) (hx : Passes CX X E) (ha : PA X (e :: es) t) (hdb : (x == ("__debug__" : Str)) = false := by decide)
    (hc : eval (.Call (.Attribute (.Name x p1) m p2) (e :: es) [] pos) X.env = (do
      let ov ← eval (.Name x p1) X.env
      standAt p2.atName
      let (f, first) ← holding [ov] (getMethod ov m pl)
      callWith pos f first (backTo pos (starEach (e :: es) X.env)) (backToKw pos (keywordEach [] X.env))) := by rfl)
    (he : starEach (e :: es) X.env = (false, eval e X.env) :: starEach es X.env := by rfl) (hpl : (backTo pos (starEach es X.env)).any (·.1) = false := by rfl) :
    PE X (.Call (.Attribute (.Name x p1) m p2) (e :: es) [] pos) (tCall sp [] E t) := by
  refine ⟨fun pins s σ H Q I h => ?_⟩
  refine PySem.W.methodCall_KW (ld_glob I hg hm ?_ hdb) hc
  refine PySem.W.method_cls I.kIn c.ga (PySem.W.cls_value I.kIn c.rd c.at_ rfl ?_)
  have J := I.tok (s.toks + 1)
  show wpAny _ _ (callWith pos (Value.ref g) [] (backTo pos (starEach (e :: es) X.env)) []) _ _ _
  refine PySem.W.callWith_K (h₀ := X.base) J.ok.mod.kin c.kp (thn (ha.run pos pins _ σ H _ J h) fun us s1 ⟨vs, H1, I1, r, q⟩ => ⟨I1.kIn, ?_⟩) he hpl
  exact run_fn F hr hb .nil hx I1 r q
end L2
namespace KJ
open PySem L2
section
variable {P : Program} {w : World} {K : PySem.W.Frag} {mg : Str → Option Value} {base : Heap}
/-- WalkError.__init__, of an exception that is being made -/
def spWE (K : PySem.W.Frag) : Sp := fun vs H Q _ => ∃ (a C : Addr) (y : V), vs = [.ref a, y] ∧ OexC K C ∧ H a = some (exo a C none) ∧ Q .non H
abbrev s_WE : Stmt := inClass (top 3) 0
theorem sc_WE : FnScope ["self", "words"] ["self", "words"] (defScope s_WE) := ⟨rfl, rfl, rfl, by decide +kernel, rfl, by decide +kernel, by decide +kernel⟩
theorem ok_WE {f : Addr} {fd : FuncData} {dvs : List V} (F : FunD K "__init__" "WalkError.__init__" (defArgs s_WE) (defBody s_WE) (defScope s_WE) dvs [] f fd) (T : Bn mg) (vV : PySem.W.findCls K (.type "ValueError") (.type "type") "__init__" = some (.val (.builtin "ValueError.__init__"))) :
    FnOk P w K mg base CX0 1 f fd ["self", "words"] (spWE K) := by
  refine F.ok sc_WE (fun vs H Q E h => ?_) (fun cdv A outer s H vs Q E hr h => ?_)
  · obtain ⟨a, C, y, rfl, _⟩ := h
    rfl
  · obtain ⟨a, C, y, rfl, O, ha, k⟩ := h
    refine ⟨_, pss_one (ps_expr (pe_veinit rfl T.n_ValueError vV (pa_cons (pv 0) (pa_cons (pv 1) pa_nil)))), ?_⟩
    exact ⟨_, rfl, _, rfl, a, C, [y], rfl, by show 1 ≤ 1000; decide, O, ha, k⟩
/-- BadShare.__init__: the two things are kept -/
def spBS (K : PySem.W.Frag) (B : Addr) : Sp := fun vs H Q _ => ∃ (a : Addr) (y z : V), vs = [.ref a, y, z] ∧ OexC K B ∧ PySem.W.findIn K (.ref B) "top" = some none ∧ PySem.W.findIn K (.ref B) "bottom" = some none ∧ H a = some (exo a B none) ∧
  ∀ dx, H dx = none → dx ≠ a → Q .non (upd (upd (upd H dx (exd dx [("top", y)])) a (exo a B (some dx))) dx (exd dx [("bottom", z), ("top", y)]))
abbrev s_BS : Stmt := inClass (top 4) 0
theorem sc_BS : FnScope ["self", "top", "bottom"] ["self", "top", "bottom"] (defScope s_BS) := ⟨rfl, rfl, rfl, by decide +kernel, rfl, by decide +kernel, by decide +kernel⟩
theorem ok_BS {f g W B : Addr} {mc : Value} {fd fdW : FuncData} (F : Fun K "__init__" "BadShare.__init__" s_BS f fd) (gW : mg "WalkError" = some (.ref W)) (c : ClsFn K W mc "__init__" g) (FW : FnOk P w K mg base CX0 1 g fdW ["self", "words"] (spWE K)) (bW : Binds K fdW ["self", "words"] []) :
    FnOk P w K mg base CX0 2 f fd ["self", "top", "bottom"] (spBS K B) := by
  refine F.ok sc_BS (fun vs H Q E h => ?_) (fun cdv A outer s H vs Q E hr h => ?_)
  · obtain ⟨a, y, z, rfl, _⟩ := h
    rfl
  · obtain ⟨a, y, z, rfl, O, nt, nb, ha, k⟩ := h
    refine ⟨_, pss_cons (ps_expr (pe_clsfn c FW hr rfl gW bW pass0 (pa_cons (pv 0) (pa_cons pe_str pa_nil))))
      (pss_cons (ps_ost (pv 0) (pv 1)) (pss_one (ps_ost (pv 0) (pv 2)))), ?_⟩
    refine ⟨_, rfl, a, B, _, rfl, O, ha, ?_⟩
    refine ⟨_, rfl, _, rfl, a, B, rfl, O, nt, .inl ⟨ha, fun dx hd ne => ?_⟩⟩
    refine ⟨_, rfl, _, rfl, a, B, rfl, O, nb, .inr ⟨dx, [("top", y)], upd_same, ?_, by show 1 ≤ 900; decide, ?_⟩⟩
    · rw [upd_ne ne, upd_same]
    · exact k dx hd ne
end
end KJ
set_option Elab.async false
set_option linter.all false
set_option maxRecDepth 100000
set_option maxHeartbeats 4000000
namespace L2
open PySem PySem.Spec PyProof.Rows
/-- // by any divisor but 0 below 2 ^ 9000 -/
def CDivG (_ j : Int) : Prop := j ≠ 0 ∧ j.natAbs.log2 < 9000
theorem op_fdivG {X : Cx} : OpR X (binaryOp .FloorDiv) (rI CDivG fun i j => .int (i.fdiv j)) := opI fun _ _ _ _ _ _ _ hc q => floordiv_int hc.1 q (.inl (PyProof.noPylong_of_log2 hc.2))
end L2
namespace KJ
open PySem L2
/-! ### a share's numbers -/
theorem kTB : ¬ (("top" : Str) = "bottom") := by decide +kernel
def shF (t n : Int) : List (Str × V) := putF "bottom" (.int n) (putF "top" (.int t) [])
theorem shF_top (t n : Int) : (shF t n).lookup ("top" : Str) = some (.int t) := by
  unfold shF
  rw [lookup_putF, if_neg kTB, lookup_putF, if_pos rfl]
theorem shF_bottom (t n : Int) : (shF t n).lookup ("bottom" : Str) = some (.int n) := by
  unfold shF
  rw [lookup_putF, if_pos rfl]
/-- the divisor: the greatest common one, with the bottom's sign -/
def sg (a b : Int) : Int := if 0 < b then ((Nat.gcd a.natAbs b.natAbs : Nat) : Int) else -((Nat.gcd a.natAbs b.natAbs : Nat) : Int)
def lowT (a b : Int) : Int := a.fdiv (sg a b)
def lowB (a b : Int) : Int := b.fdiv (sg a b)
theorem sg_abs (a b : Int) : (sg a b).natAbs = Nat.gcd a.natAbs b.natAbs := by
  unfold sg
  split
  · exact Int.natAbs_natCast _
  · rw [Int.natAbs_neg]
    exact Int.natAbs_natCast _
theorem gcd_pos {a b : Int} (hb : b ≠ 0) : 0 < Nat.gcd a.natAbs b.natAbs := Nat.gcd_pos_of_pos_right _ (Int.natAbs_pos.mpr hb)
theorem gcd_le {a b : Int} (hb : b ≠ 0) : Nat.gcd a.natAbs b.natAbs ≤ b.natAbs := Nat.gcd_le_right _ (Int.natAbs_pos.mpr hb)
theorem sg_ne {a b : Int} (hb : b ≠ 0) : sg a b ≠ 0 := fun z => by
  have h := sg_abs a b
  rw [z] at h
  have := gcd_pos (a := a) hb
  have h0 : (0 : Int).natAbs = 0 := rfl
  omega
theorem log2_mono {m n : Nat} (h : m ≤ n) : m.log2 ≤ n.log2 := by
  by_cases hm : m = 0
  · subst hm
    exact Nat.zero_le _
  · have hn : n ≠ 0 := by omega
    exact (Nat.le_log2 hn).mpr (Nat.le_trans (Nat.log2_self_le hm) h)
theorem sg_div {a b : Int} (hb : b ≠ 0) (hl : b.natAbs.log2 < 9000) (i : Int) : CDivG i (sg a b) :=
  ⟨sg_ne hb, by rw [sg_abs]; exact Nat.lt_of_le_of_lt (log2_mono (gcd_le hb)) hl⟩
/-! ### Share.__init__ -/
def bad (p q : V) : Prop := isI p = false ∨ isI q = false ∨ q = .int 0
def xF (p q : V) : List (Str × V) := [("bottom", q), ("top", p)]
def spSI (K : PySem.W.Frag) (C B : Addr) : Sp := fun vs H Q E => ∃ (x dx : Addr) (p q : V), vs = [.ref x, p, q] ∧ H x = some (.ins C dx []) ∧ Thing K C H p ∧ Thing K C H q ∧
  ((∃ a b : Int, p = .int a ∧ q = .int b ∧ b ≠ 0 ∧ b.natAbs.log2 < 9000 ∧ Q .non (upd H x (.ins C dx (shF (lowT a b) (lowB a b))))) ∨
    (bad p q ∧ ∀ (d : Addr) (H' : Hp), H d = none → Same H H' → H' d = some (.xd (xF p q)) → E (.ref B) (some d) H'))
/-- what the walk asks of the class Share -/
structure ShT (K : PySem.W.Frag) (mg : Str → Option Value) (C : Addr) : Prop where
  bn : Bn mg
  it : InsT K C
  nT : NoAttr K C "top"
  nB : NoAttr K C "bottom"
  g_gcd : mg "gcd" = some (.builtin "math.gcd")
  g_Share : mg "Share" = some (.ref C)
/-- .. of the class BadShare -/
structure BsT (P : Program) (w : World) (K : PySem.W.Frag) (mg : Str → Option Value) (base : Heap) (B : Addr) : Prop where
  O : OexC K B
  nt : PySem.W.findIn K (.ref B) "top" = some none
  nb : PySem.W.findIn K (.ref B) "bottom" = some none
  gB : mg "BadShare" = some (.ref B)
  made : ∃ (fI : Addr) (fd : FuncData), PySem.W.findIn K (.ref B) "__init__" = some (some (.ref fI)) ∧ PySem.W.typeIn K (.ref fI) = some (.type "function") ∧ FnOk P w K mg base CX0 2 fI fd ["self", "top", "bottom"] (spBS K B) ∧ Binds K fd ["self", "top", "bottom"] []
section
variable {P : Program} {w : World} {K : PySem.W.Frag} {mg : Str → Option Value} {base : Heap} {C B : Addr}
theorem iteB {c : Bool} {A B : Prop} (h1 : c = true → A) (h2 : c = false → B) : if c = true then A else B := by
  cases c
  · rw [if_neg (by decide)]
    exact h2 rfl
  · rw [if_pos rfl]
    exact h1 rfl
/-- the exception's dict behind the call of its class -/
theorem bs_end {H : Hp} {a dx : Addr} {p q : V} {B : Addr} (ha : H a = none) (hd : (upd H a (exo a B none)) dx = none) (ne : dx ≠ a) :
    Same H (upd (L2.del (upd (upd (upd (upd H a (exo a B none)) dx (exd dx [("top", p)])) a (exo a B (some dx))) dx (exd dx (xF p q))) a) dx (.xd (xF p q))) := fun b o h => by
  have nb : b ≠ a := ne_of_none h ha
  have nd : b ≠ dx := fun z => by rw [upd_ne ne] at hd; rw [z, hd] at h; cases h
  rw [upd_ne nd, del_ne nb, upd_ne nd, upd_ne nb, upd_ne nd, upd_ne nb]
  exact h
theorem isI_int {p : V} (h : isI p = true) : ∃ a, p = .int a := by cases p <;> first | exact ⟨_, rfl⟩ | cases h
abbrev s_SI : Stmt := inClass (top 21) 0
theorem sc_SI : FnScope ["self", "top", "bottom", "common"] ["self", "top", "bottom"] (defScope s_SI) := ⟨rfl, rfl, rfl, by decide +kernel, rfl, by decide +kernel, by decide +kernel⟩
theorem ok_SI {f : Addr} {fd : FuncData} {dvs : List V} (F : FunD K "__init__" "Share.__init__" (defArgs s_SI) (defBody s_SI) (defScope s_SI) dvs [] f fd) (T : ShT K mg C) (Bt : BsT P w K mg base B) (c_is_whole : Cal P w K mg base 1 "is_whole" ["thing"] (spWhole K C)) :
    FnOk P w K mg base (L2.CX P w) 4 f fd ["self", "top", "bottom"] (spSI K C B) := by
  obtain ⟨fI, fdI, iC, tI, FI, bI⟩ := Bt.made
  refine F.ok sc_SI (fun vs H Q E h => ?_) (fun cdv A outer s H vs Q E hr h => ?_)
  · obtain ⟨x, dx, p, q, rfl, _⟩ := h
    rfl
  · obtain ⟨x, dx, p, q, rfl, hx, hp, hq, k⟩ := h
    refine ⟨_, (pss_cons (ps_if (PW.pt (pw_or (pt_not (pt_val (pe_cal c_is_whole (hr.mono (by decide)) rfl (pa_cons (pv 1) pa_nil)))) (pw_or (pt_not (pt_val (pe_cal c_is_whole (hr.mono (by decide)) rfl (pa_cons (pv 2) pa_nil)))) (pw_or1 (pt_cmpR op_eq (pv 2) pe_int (nomark _))))))
        (pss_one (ps_raise (W := fun cls d _ H => E cls d H) rfl (takes_of rfl rfl rfl rfl) (pmk_oex Bt.O iC tI FI hr bI .nil pass0 rfl Bt.gB (pa_cons (pv 1) (pa_cons (pv 2) pa_nil)))))
        pss_nil)
      (pss_cons (ps_set (i := 3) sc_SI.nd rfl (Or.inl rfl) (pe_ifExp (pt_cmpR op_gt (pv 2) pe_int (nomark _)) (pe_callBfun cr_gcd rfl T.g_gcd (pa_cons (pv 1) (pa_cons (pv 2) pa_nil))) (pe_un un_neg (pe_callBfun cr_gcd rfl T.g_gcd (pa_cons (pv 1) (pa_cons (pv 2) pa_nil))))))
      (pss_cons (ps_fld (pv 0) (pe_op op_fdivG (pv 1) (pv 3)) rfl)
      (pss_one (ps_fld (pv 0) (pe_op op_fdivG (pv 2) (pv 3)) rfl))))), ?_⟩
    -- BadShare(top, bottom)
    have raise : bad p q → ∀ (σ : St), σ[1]? = some (some p) → σ[2]? = some (some q) →
        tMkO B (spBS K B) [] (tCons (tVar 1) (tCons (tVar 2) tNil)) σ H (fun cls d H' => E cls d H') := by
      intro hb σ h1 h2
      rcases k with ⟨a, b, rfl, rfl, nz, _⟩ | ⟨_, k⟩
      · rcases hb with z | z | z
        · cases z
        · cases z
        · exact absurd (V.int.inj z) nz
      · refine ⟨p, h1, q, h2, by show 2 ≤ 1000; decide, fun a ha => ?_⟩
        refine ⟨a, p, q, rfl, Bt.O, Bt.nt, Bt.nb, upd_same, fun d hd ne => ⟨rfl, d, xF p q, ?_, upd_same, ?_, ?_⟩⟩
        · rw [upd_ne ne.symm, upd_same]
        · rw [upd_ne ne] at hd
          exact hd
        · refine k d _ ?_ (bs_end ha hd ne) upd_same
          rw [upd_ne ne] at hd
          exact hd
    refine ⟨_, rfl, p, rfl, hp, _, rfl, iteB (fun z => ?_) (fun z => ?_)⟩
    · refine iteT (raise (.inl ?_) _ rfl rfl)
      simpa using z
    · refine ⟨_, rfl, q, rfl, hq, _, rfl, iteB (fun z2 => ?_) (fun z2 => ?_)⟩
      · refine iteT (raise (.inr (.inl ?_)) _ rfl rfl)
        simpa using z2
      · obtain ⟨a, rfl⟩ := isI_int (p := p) (by simpa using z)
        obtain ⟨b, rfl⟩ := isI_int (p := q) (by simpa using z2)
        refine ⟨_, rfl, rfl, _, rfl, ?_⟩
        refine ite2 (fun e => ?_) (fun e => ?_)
        · have e' : V.int b = V.int 0 := of_decide_eq_true e
          exact raise (.inr (.inr e')) _ rfl rfl
        · have nz : b ≠ 0 := fun z => e (by rw [z]; exact decide_eq_true rfl)
          rcases k with ⟨a', b', ea, eb, _, hl, k⟩ | ⟨hb, _⟩
          · cases ea
            cases eb
            -- common
            refine ⟨_, rfl, _, _, rfl, rfl, _, rfl, ?_⟩
            have rest : ∀ c : Int, c = sg a b → (tSeq (sFld K (tVar 0) (tOp (rI CDivG fun i j => .int (i.fdiv j)) (tVar 1) (tVar 3)) "top") (sFld K (tVar 0) (tOp (rI CDivG fun i j => .int (i.fdiv j)) (tVar 2) (tVar 3)) "bottom"))
                { nx := fun _ H' => Q .non H', rt := Q } [some (.ref x), some (.int a), some (.int b), some (.int c)] H := by
              rintro c rfl
              refine ⟨_, rfl, _, rfl, a, sg a b, rfl, rfl, sg_div nz hl a, ?_⟩
              refine ⟨_, rfl, x, C, dx, [], rfl, hx, T.it.cl, T.nT, by show 0 < 1000; decide, ?_⟩
              refine ⟨_, rfl, _, rfl, b, sg a b, rfl, rfl, sg_div nz hl b, ?_⟩
              refine ⟨_, rfl, x, C, dx, _, rfl, upd_same, T.it.cl, T.nB, by show 1 < 1000; decide, ?_⟩
              rw [upd_upd]
              exact k
            refine ite2 (fun e2 => ?_) (fun e2 => ?_)
            · refine ⟨_, rfl, _, rfl, a, b, rfl, ?_⟩
              refine rest _ ?_
              unfold sg
              rw [if_pos (of_decide_eq_true e2)]
            · refine ⟨_, rfl, _, rfl, a, b, rfl, _, rfl, ?_⟩
              refine rest _ ?_
              unfold sg
              rw [if_neg (fun z => e2 (decide_eq_true z))]
          · rcases hb with z | z | z
            · cases z
            · cases z
            · exact absurd (V.int.inj z) nz
end
end KJ
set_option Elab.async false
set_option linter.all false
set_option maxRecDepth 100000
set_option maxHeartbeats 4000000
namespace KJ
open PySem L2
/-- == of a share at a and y -/
def EqS (K : PySem.W.Frag) (C : Addr) (a : Addr) (y : V) (b : Bool) (H : Hp) : Prop := ∃ (dx : Addr) (t n : Int), H a = some (.ins C dx (shF t n)) ∧
  ((∃ (c dy : Addr) (t' n' : Int), y = .ref c ∧ H c = some (.ins C dy (shF t' n')) ∧ b = (decide (V.int t = V.int t') && decide (V.int n = V.int n'))) ∨
    (∃ T, Fo K H y T) ∧ b = (isI y && (decide (V.int n = V.int 1) && decide (V.int t = y))))
section
variable {P : Program} {w : World} {K : PySem.W.Frag} {mg : Str → Option Value} {base : Heap} {C B : Addr}
abbrev s_eq : Stmt := inClass (top 21) 8
theorem sc_eq : FnScope ["self", "other"] ["self", "other"] (defScope s_eq) := ⟨rfl, rfl, rfl, by decide +kernel, rfl, by decide +kernel, by decide +kernel⟩
theorem ok_eq {f : Addr} {fd : FuncData} (F : Fun K "__eq__" "Share.__eq__" s_eq f fd) (T : ShT K mg C) (c_is_whole : Cal P w K mg base 1 "is_whole" ["thing"] (spWhole K C)) :
    FnOk P w K mg base CX0 2 f fd ["self", "other"] (spOwn (EqS K C)) := by
  refine F.ok sc_eq (fun vs H Q E h => ?_) (fun cdv A outer s H vs Q E hr h => ?_)
  · obtain ⟨a, y, b, rfl, _⟩ := h
    rfl
  · obtain ⟨a, y, b, rfl, ⟨dx, t, n, ha, hy⟩, k⟩ := h
    refine ⟨_, (pss_cons (ps_if (pt_val (pe_callB call_isi (by rfl) T.bn.n_isinstance (by decide +kernel) (pa_cons (pv 1) (pa_cons (pe_glob (v := .ref C) rfl T.g_Share rfl) pa_nil))))
        (pss_one (ps_ret (pe_and (pe_cmpR op_eq (pe_fld (pv 0) rfl) (pe_fld (pv 1) rfl) (nomark _)) (pe_one (pe_cmpR op_eq (pe_fld (pv 0) rfl) (pe_fld (pv 1) rfl) (nomark _))))))
        pss_nil)
      (pss_one (ps_ret (pe_and (pe_cal c_is_whole (hr.mono (by decide)) rfl (pa_cons (pv 1) pa_nil)) (pe_and (pe_cmpR op_eq (pe_fld (pv 0) rfl) pe_int (nomark _)) (pe_one (pe_cmpR op_eq (pe_fld (pv 0) rfl) (pv 1) (nomark _)))))))), ?_⟩
    rcases hy with ⟨c, dy, t', n', rfl, hc, rfl⟩ | ⟨⟨T', hT⟩, rfl⟩
    · refine ⟨_, rfl, .ref c, .ref C, _, _, true, rfl, .own C, T.it.ty hc, T.it.kself, _, rfl, iteT ?_⟩
      refine ⟨_, rfl, a, C, dx, _, _, rfl, ha, T.it.cl, T.nT, shF_top _ _, _, rfl, c, C, dy, _, _, rfl, hc, T.it.cl, T.nT, shF_top _ _, rfl, _, rfl, iteB (fun z => ?_) (fun z => ?_)⟩
      · refine ⟨_, rfl, a, C, dx, _, _, rfl, ha, T.it.cl, T.nB, shF_bottom _ _, _, rfl, c, C, dy, _, _, rfl, hc, T.it.cl, T.nB, shF_bottom _ _, rfl, ?_⟩
        rw [z, Bool.true_and] at k
        exact k
      · rw [z, Bool.false_and] at k
        exact k
    · refine ⟨_, rfl, y, .ref C, _, _, false, rfl, .own C, hT.ty, T.it.fo hT, _, rfl, iteF ?_⟩
      refine ⟨_, rfl, y, rfl, .fo hT, _, rfl, iteB (fun z => ?_) (fun z => ?_)⟩
      · rw [z, Bool.true_and] at k
        obtain ⟨i, rfl⟩ := isI_int z
        refine ⟨_, rfl, a, C, dx, _, _, rfl, ha, T.it.cl, T.nB, shF_bottom _ _, rfl, _, rfl, iteB (fun z => ?_) (fun z => ?_)⟩
        · refine ⟨_, rfl, a, C, dx, _, _, rfl, ha, T.it.cl, T.nT, shF_top _ _, _, rfl, rfl, ?_⟩
          rw [z, Bool.true_and] at k
          exact k
        · rw [z, Bool.false_and] at k
          exact k
      · rw [z, Bool.false_and] at k
        exact k
end
end KJ
set_option Elab.async false
set_option linter.all false
set_option maxRecDepth 100000
set_option maxHeartbeats 4000000
namespace KJ
open PySem L2
/-! ### the pool of the draws -/
/-- its list: a number below 2 ^ 64, and what is left of the greatest cell -/
def PoolL (o : HO) : Prop := ∃ n g : Int, o = .lst [.int n, .int g] ∧ 0 ≤ n ∧ n < 2 ^ 64 ∧ 0 ≤ g
def PoolAt (H : Hp) (a : Addr) : Prop := ∃ o, H a = some o ∧ PoolL o
theorem PoolAt.put {H : Hp} {a : Addr} {o : HO} (h : PoolL o) : PoolAt (upd H a o) a := ⟨o, upd_same, h⟩
/-- all that was tracked, but the pool, stands -/
def Keep (a : Addr) (H H' : Hp) : Prop := ∀ b o, H b = some o → b ≠ a → H' b = some o
theorem Keep.refl (a : Addr) (H : Hp) : Keep a H H := fun _ _ h _ => h
theorem Keep.trans {a : Addr} {H H1 H2 : Hp} (x : Keep a H H1) (y : Keep a H1 H2) : Keep a H H2 := fun b o h n => y b o (x b o h n) n
theorem Keep.put {a : Addr} {H : Hp} (o : HO) : Keep a H (upd H a o) := fun b u h n => by rw [upd_ne n]; exact h
theorem Keep.of {a : Addr} {H H' : Hp} (s : Same H H') : Keep a H H' := fun b o h _ => s b o h
theorem Same.put {H : Hp} {p : Addr} {o : HO} (h : H p = none) : Same H (upd H p o) := fun b u e => by rw [upd_ne (ne_of_none e h)]; exact e
theorem PoolAt.new {H : Hp} {a p : Addr} {o : HO} (h : PoolAt H a) (hp : H p = none) : PoolAt (upd H p o) a := by
  obtain ⟨u, e, q⟩ := h
  exact ⟨u, by rw [upd_ne (ne_of_none e hp)]; exact e, q⟩
theorem PoolAt.same {H H' : Hp} {a : Addr} (h : PoolAt H a) (s : Same H H') : PoolAt H' a := by
  obtain ⟨u, e, q⟩ := h
  exact ⟨u, s _ _ e, q⟩
theorem PoolAt.ne {H : Hp} {a b : Addr} {xs : List V} (h : PoolAt H a) (e : H b = some (.tup xs)) : b ≠ a := fun z => by
  obtain ⟨u, e2, n, g, q, _⟩ := h
  rw [z, e2, q] at e
  cases e
theorem PoolAt.nei {H : Hp} {a b C dx : Addr} {fs : List (Str × V)} (h : PoolAt H a) (e : H b = some (.ins C dx fs)) : b ≠ a := fun z => by
  obtain ⟨u, e2, n, g, q, _⟩ := h
  rw [z, e2, q] at e
  cases e
theorem SqT.put {K : PySem.W.Frag} {H : Hp} {a t : Addr} {xs : List V} {o : HO} (h : PoolAt H a) (s : SqT K H t xs) : SqT K (upd H a o) t xs := by
  obtain ⟨u, e2, n, g, q, _⟩ := h
  rcases s with (s | ⟨ob, s⟩) | s
  · refine .inl (.inl ?_)
    rw [upd_ne (fun z => by rw [z, e2, q] at s; cases s)]
    exact s
  · refine .inl (.inr ⟨ob, ?_⟩)
    rw [upd_ne (fun z => by rw [z, e2, q] at s; cases s)]
    exact s
  · exact .inr s
/-- the next number of the pool -/
def nextN (n : Int) : Int := ((n + 7919) * 6364136223846793005 + 1442695040888963407).fmod ((2 : Int) ^ (64 : Int).toNat)
theorem nextN_ok (n : Int) : 0 ≤ nextN n ∧ nextN n < 2 ^ 64 := by
  have e2 : ((2 : Int) ^ (64 : Int).toNat) = 18446744073709551616 := by decide +kernel
  unfold nextN
  rw [e2, Int.fmod_eq_emod_of_nonneg _ (by decide)]
  exact ⟨Int.emod_nonneg _ (by decide), Int.emod_lt_of_pos _ (by decide)⟩
def spDraw : Sp := fun vs H Q _ => ∃ (a : Addr) (m : Int), vs = [.ref a, .int m] ∧ PoolAt H a ∧ 0 < m ∧ m.natAbs.log2 < 9000 ∧ ∀ (r : Int) (o : HO), 0 ≤ r → r < m → PoolL o → Q (.int r) (upd H a o)
theorem log_small {m : Int} {b : Nat} (h : m.natAbs < 2 ^ b) (h0 : 0 < b) (hb : b ≤ 9000) : m.natAbs.log2 < 9000 := Nat.lt_of_lt_of_le (PySem.Flt.log2_lt_of h0 h) hb
theorem at0 {x y : V} : atI [x, y] 0 = some x := by
  have h : ([x, y] : List V)[0]? = some x := rfl
  exact atI_nat h
theorem at1 {x y : V} : atI [x, y] 1 = some y := by
  have h : ([x, y] : List V)[1]? = some y := rfl
  exact atI_nat h
section
variable {P : Program} {w : World} {K : PySem.W.Frag} {mg : Str → Option Value} {base : Heap} {C B : Addr}
abbrev s_draw : Stmt := top 41
theorem sc_draw : FnScope ["_law_pool_here", "_law_many", "_law_digit"] ["_law_pool_here", "_law_many"] (defScope s_draw) := ⟨rfl, rfl, rfl, by decide +kernel, rfl, by decide +kernel, by decide +kernel⟩
theorem ok_draw {f : Addr} {fd : FuncData} (F : Fun K "_law_draw" "_law_draw" s_draw f fd) (T : Bn mg) : FnOk P w K mg base CX0 1 f fd ["_law_pool_here", "_law_many"] spDraw := by
  refine F.ok sc_draw (fun vs H Q E h => ?_) (fun cdv A outer s H vs Q E hr h => ?_)
  · obtain ⟨a, m, rfl, _⟩ := h
    rfl
  · obtain ⟨a, m, rfl, ⟨_, ha, n, g, rfl, n0, n1, g0⟩, m0, ml, k⟩ := h
    have ia : ∀ {H' : Hp} {n g : Int}, H' a = some (.lst [.int n, .int g]) → SqL K H' a [.int n, .int g] := fun h => SqL.of h
    refine ⟨_, (pss_cons (ps_if (pt_cmpR op_ge (pe_ix ix_list (pv 0) pe_int (fun _ _ => rfl)) (pe_op op_pow pe_int pe_int) (nomark _))
        (pss_cons (ps_set (i := 2) sc_draw.nd rfl (Or.inl rfl) (pe_op op_modN (pe_callTy call_int1 (by rfl) T.n_int (by decide +kernel) (pa_cons (pe_ix ix_list (pv 0) pe_int (fun _ _ => rfl)) pa_nil)) (pv 1)))
          (pss_cons (ps_asg (pe_op op_fdivW (pe_ix ix_list (pv 0) pe_int (fun _ _ => rfl)) (pv 1)) (pg_sub (pv 0) pe_int set_list))
          (pss_one (ps_ret (pv 2)))))
        pss_nil)
      (pss_cons (ps_asg (pe_op op_modN (pe_callTy call_int1 (by rfl) T.n_int (by decide +kernel) (pa_cons (pe_op op_add (pe_op op_mul (pe_callTy call_int1 (by rfl) T.n_int (by decide +kernel) (pa_cons (pe_op op_add (pe_ix ix_list (pv 0) pe_int (fun _ _ => rfl)) pe_int) pa_nil)) pe_int) pe_int) pa_nil)) (pe_op op_pow pe_int pe_int)) (pg_sub (pv 0) pe_int set_list))
      (pss_one (ps_ret (pe_op op_modN (pe_callTy call_int1 (by rfl) T.n_int (by decide +kernel) (pa_cons (pe_op op_fdivW (pe_ix ix_list (pv 0) pe_int (fun _ _ => rfl)) pe_int) pa_nil)) (pv 1)))))), ?_⟩
    refine ⟨_, rfl, a, _, 1, _, rfl, rfl, ia ha, at1, 10, 9, rfl, rfl, ⟨by decide, by decide, by decide⟩, g, _, rfl, rfl, _, rfl, ite2 (fun e => ?_) (fun e => ?_)⟩
    · refine ⟨_, rfl, a, _, 1, _, rfl, rfl, ia ha, at1, .inl ⟨g, rfl, _, rfl, g, m, rfl, rfl, by omega, ?_⟩⟩
      refine ⟨_, rfl, a, _, 1, _, rfl, rfl, ia ha, at1, _, rfl, g, m, rfl, rfl, ⟨m0, ml⟩, ?_⟩
      refine ⟨_, rfl, a, _, 1, 1, rfl, rfl, ha, rfl, _, rfl, ?_⟩
      have e1 : g.fmod m = g % m := Int.fmod_eq_emod_of_nonneg g (by omega)
      show Q (.int (g.fmod m)) (upd H a (.lst [.int n, .int (g / m)]))
      rw [e1]
      exact k _ _ (Int.emod_nonneg g (by omega)) (Int.emod_lt_of_pos g m0) ⟨n, g / m, rfl, n0, n1, Int.ediv_nonneg g0 (by omega)⟩
    · refine ⟨_, rfl, a, _, 0, _, rfl, rfl, ia ha, at0, n, 7919, rfl, rfl, .inl ⟨n + 7919, rfl, _, _, rfl, rfl, .inr ⟨by decide, by decide⟩, _, _, rfl, rfl, .inl ⟨_, rfl, ?_⟩⟩⟩
      refine ⟨2, 64, rfl, rfl, ⟨by decide, by decide, by decide⟩, _, _, rfl, rfl, (by show ((2 : Int) ^ (64 : Int).toNat) ≠ 0; decide +kernel), ?_⟩
      refine ⟨_, rfl, a, _, 0, 0, rfl, rfl, ha, rfl, ?_⟩
      obtain ⟨z0, z1⟩ := nextN_ok n
      refine ⟨_, rfl, a, _, 0, _, rfl, rfl, ia (n := nextN n) (g := g) upd_same, at0, nextN n, 65536, rfl, rfl, ⟨by decide, by decide⟩, .inl ⟨_, rfl, _, rfl, _, m, rfl, rfl, by omega, ?_⟩⟩
      have e1 : (nextN n / 65536).fmod m = (nextN n / 65536) % m := Int.fmod_eq_emod_of_nonneg _ (by omega)
      show Q (.int ((nextN n / 65536).fmod m)) (upd H a (.lst [.int (nextN n), .int g]))
      rw [e1]
      exact k _ _ (Int.emod_nonneg _ (by omega)) (Int.emod_lt_of_pos _ m0) ⟨nextN n, g, rfl, z0, z1, g0⟩
abbrev s_pick : Stmt := top 42
theorem sc_pick : FnScope ["_law_pool_here", "_law_things"] ["_law_pool_here", "_law_things"] (defScope s_pick) := ⟨rfl, rfl, rfl, by decide +kernel, rfl, by decide +kernel, by decide +kernel⟩
end
end KJ
set_option Elab.async false
set_option linter.all false
set_option maxRecDepth 100000
set_option maxHeartbeats 4000000
namespace KJ
open PySem L2
theorem take_more {α : Type} : ∀ {l : List α} {i : Nat} {x : α}, l[i]? = some x → l.take (i + 1) = l.take i ++ [x]
  | [], i, x, h => by simp at h
  | a :: l, 0, x, h => by
    have e : a = x := Option.some.inj h
    subst e
    rfl
  | a :: l, i + 1, x, h => by
    have ih := take_more (l := l) (i := i) (x := x) h
    show a :: l.take (i + 1) = a :: l.take i ++ [x]
    rw [ih]
    rfl
theorem at_map {ms : List Int} {i : Nat} {x : V} (h : (ms.map V.int)[i]? = some x) : ∃ z, ms[i]? = some z ∧ x = .int z := by
  rw [List.getElem?_map] at h
  cases e : ms[i]? with
  | none => rw [e] at h; cases h
  | some z => rw [e] at h; exact ⟨z, rfl, (Option.some.inj h).symm⟩
theorem cut_map (ns : List Int) (lo hi : Option Int) : ∃ ms : List Int, cutV (ns.map V.int) lo hi = ms.map V.int ∧ ms.length ≤ ns.length := by
  refine ⟨(ns.drop (HT.sIx (ns.map V.int).length 0 lo)).take (HT.sIx (ns.map V.int).length (ns.map V.int).length hi - HT.sIx (ns.map V.int).length 0 lo), ?_, ?_⟩
  · unfold cutV
    rw [List.map_take, List.map_drop]
  · rw [List.length_take, List.length_drop]
    omega
theorem yes_of {σ : St} {H : Hp} {A B : Hp → Prop} (h : A H) : tYes σ H (fun b H3 => if b = true then A H3 else B H3) := by
  show (if true = true then A H else B H)
  rw [if_pos rfl]
  exact h
def spPool (K : PySem.W.Frag) : Sp := fun vs H Q _ => ∃ (a : Addr) (ns : List Int), vs = [.ref a] ∧ SqL K H a (ns.map V.int) ∧ ns.length ≤ 63 ∧ ∀ (p : Addr) (H' : Hp), Same H H' → H p = none → PoolAt H' p → Q (.ref p) H'
theorem sml {n : Nat} (h : n ≤ 1000) : n < sizeLine := small1000 h
section
variable {P : Program} {w : World} {K : PySem.W.Frag} {mg : Str → Option Value} {base : Heap} {C B : Addr}
abbrev s_pool : Stmt := top 40
theorem sc_pool : FnScope ["_law_script", "_law_cells", "_law_number", "_law_cell", "_law_great"] ["_law_script"] (defScope s_pool) := ⟨rfl, rfl, rfl, by decide +kernel, rfl, by decide +kernel, by decide +kernel⟩
theorem ok_pool {f : Addr} {fd : FuncData} (F : Fun K "_law_pool" "_law_pool" s_pool f fd) (T : Bn mg) : FnOk P w K mg base CX0 1 f fd ["_law_script"] (spPool K) := by
  refine F.ok sc_pool (fun vs H Q E h => ?_) (fun cdv A outer s H vs Q E hr h => ?_)
  · obtain ⟨a, ns, rfl, _⟩ := h
    rfl
  · obtain ⟨a, ns, rfl, ha, hl, k⟩ := h
    refine ⟨_, (pss_cons (ps_set (i := 1) sc_pool.nd rfl (Or.inl rfl) (pe_op op_cat (pe_lc (own := [("_law_cell", 3)]) rfl sc_pool.nd (pi_list (pe_slice sl_list (pv 0) po_none (po_some pe_int))) (blkOk_by (N := ["_law_script", "_law_cells", "_law_number", "_law_cell", "_law_great"]) (sc := defScope s_pool) (by decide +kernel)) (fun _ _ _ _ _ => (pg_name (i := 3) sc_pool.nd rfl (Or.inl rfl))) (fun _ _ _ _ _ => pts_nil) (fun _ _ _ _ _ => (pe_callTy call_int1 (by rfl) T.n_int (by decide +kernel) (pa_cons (pv 3) pa_nil)))) (pe_lst (pa_cons (pe_callB call_len_seq (by rfl) T.n_len PySem.boot_len (pa_cons (pe_slice sl_list (pv 0) po_none (po_some pe_int)) pa_nil)) pa_nil))))
      (pss_cons (ps_set (i := 2) sc_pool.nd rfl (Or.inl rfl) pe_int)
      (pss_cons (ps_for PassesOwn.never rfl (pi_list (pv 1)) (pg_name (i := 3) sc_pool.nd rfl (Or.inl rfl))
        (pss_one (ps_set (i := 2) sc_pool.nd rfl (Or.inl rfl) (pe_op op_modN (pe_callTy call_int1 (by rfl) T.n_int (by decide +kernel) (pa_cons (pe_op op_add (pe_op op_add (pe_op op_mul (pv 2) pe_int) (pv 3)) pe_int) pa_nil)) (pe_op op_sub (pe_op op_pow pe_int pe_int) pe_int)))))
      (pss_cons (ps_setLc (i := 4) (own := [("_law_cell", 3)]) rfl sc_pool.nd rfl rfl (sw_true rfl rfl rfl (by decide +kernel)) (pi_list (pv 1)) (blkOk_by (N := ["_law_script", "_law_cells", "_law_number", "_law_cell", "_law_great"]) (sc := defScope s_pool) (by decide +kernel)) (fun _ _ _ _ _ => (pg_name (i := 3) sc_pool.nd rfl (Or.inl rfl))) (fun _ _ _ _ _ => (pts_one (pt_cmpR op_ge (pe_callB call_abs (by rfl) T.n_abs (by decide +kernel) (pa_cons (pv 3) pa_nil)) (pe_op op_pow pe_int pe_int) (nomark _)))) (fun _ _ _ _ _ => (pe_callB call_abs (by rfl) T.n_abs (by decide +kernel) (pa_cons (pv 3) pa_nil))))
      (pss_one (ps_ret (pe_lst (pa_cons (pv 2) (pa_cons (pe_ix ix_list (pe_op op_cat (pv 4) (pe_lst (pa_cons pe_int pa_nil))) pe_int (fun _ _ => rfl)) pa_nil))))))))), ?_⟩
    obtain ⟨ms, hms, hml⟩ := cut_map ns none (some 60)
    -- the cells
    refine ⟨_, rfl, _, rfl, a, _, rfl, ha, fun p1 np1 => ?_⟩
    rw [hms]
    refine ⟨p1, rfl, ⟨_, SqL.of upd_same⟩, fun D nD => ?_⟩
    refine lc_list (K := K) (a := p1) (xs := ms.map V.int) (fun i H' => H' = upd (upd H p1 (.lst (ms.map V.int))) D (.lst ((ms.take i).map V.int))) rfl (fun i H' hi e => ?_) ?_ ?_
    · rw [e]
      have ne : p1 ≠ D := fun z => by rw [← z, upd_same] at nD; cases nD
      exact SqL.of (by rw [upd_ne ne, upd_same])
    · rintro i x H' hi rfl
      obtain ⟨z, hz, rfl⟩ := at_map hi
      refine ⟨rfl, yes_of ?_⟩
      refine ⟨_, rfl, .inl ⟨z, rfl, _, upd_same, ?_, ?_⟩⟩
      · rw [List.length_map, List.length_take]
        exact sml (by omega)
      · rw [upd_upd, take_more hz, List.map_append]
        rfl
    · rintro H' rfl
      rw [List.length_map, List.take_length]
      have s1 : Same H (upd (upd H p1 (.lst (ms.map V.int))) D (.lst (ms.map V.int))) := (Same.put np1).trans (Same.put nD)
      have eD : (upd (upd H p1 (.lst (ms.map V.int))) D (.lst (ms.map V.int))) D = some (.lst (ms.map V.int)) := upd_same
      generalize (upd (upd H p1 (.lst (ms.map V.int))) D (.lst (ms.map V.int))) = H1 at s1 eD ⊢
      refine ⟨_, rfl, _, rfl, a, _, rfl, s1.seq ha, fun p2 np2 => ?_⟩
      rw [hms]
      refine ⟨p2, _, rfl, .inl (SqL.of upd_same), by show 1 ≤ sizeLine; decide, fun p3 np3 => ?_⟩
      rw [List.length_map]
      have s2 : Same H1 (upd (upd H1 p2 (.lst (ms.map V.int))) p3 (.lst [V.int (ms.length : Int)])) := (Same.put np2).trans (Same.put np3)
      refine ⟨D, p3, ms.map V.int, [V.int (ms.length : Int)], rfl, rfl, s2 _ _ eD, upd_same, ?_, fun p4 np4 => ?_⟩
      · rw [List.length_map]
        exact Nat.le_of_lt (sml (by show ms.length + 1 ≤ 1000; omega))
      have s3 : Same H (upd (upd (upd H1 p2 (.lst (ms.map V.int))) p3 (.lst [V.int (ms.length : Int)])) p4 (.lst ((ms ++ [(ms.length : Int)]).map V.int))) := (s1.trans s2).trans (Same.put np4)
      have e4 : (ms.map V.int ++ [V.int (ms.length : Int)]) = (ms ++ [(ms.length : Int)]).map V.int := by rw [List.map_append]; rfl
      rw [e4]
      have eC : (upd (upd (upd H1 p2 (.lst (ms.map V.int))) p3 (.lst [V.int (ms.length : Int)])) p4 (.lst ((ms ++ [(ms.length : Int)]).map V.int))) p4 = some (.lst ((ms ++ [(ms.length : Int)]).map V.int)) := upd_same
      have hcl : (ms ++ [(ms.length : Int)]).length ≤ 64 := by
        rw [List.length_append]
        show ms.length + 1 ≤ 64
        omega
      generalize (upd (upd (upd H1 p2 (.lst (ms.map V.int))) p3 (.lst [V.int (ms.length : Int)])) p4 (.lst ((ms ++ [(ms.length : Int)]).map V.int))) = H4 at s3 eC ⊢
      generalize ms ++ [(ms.length : Int)] = cs at eC hcl ⊢
      -- the number
      refine ⟨_, rfl, p4, rfl, ⟨_, SqL.of eC⟩, for_list (K := K) (a := p4) (xs := cs.map V.int) (fun i σ H' => H' = H4 ∧ ∃ (n : Int) (v : Option V), 0 ≤ n ∧ n < 2 ^ 64 ∧ σ = [some (.ref a), some (.ref p4), some (.int n), v, none]) ⟨rfl, 7, none, by decide, by decide, rfl⟩ (fun i σ H' _ h => by rw [h.1]; exact SqL.of eC) ?_ ?_⟩
      · rintro i x σ H' hi ⟨rfl, n, v, n0, n1, rfl⟩
        obtain ⟨z, hz, rfl⟩ := at_map hi
        refine ⟨_, rfl, _, _, rfl, rfl, .inr ⟨by decide, by decide⟩, _, rfl, _, _, rfl, rfl, _, _, rfl, rfl, .inl ⟨_, rfl, 2, 61, rfl, rfl, ⟨by decide, by decide, by decide⟩, _, _, rfl, rfl, _, _, rfl, rfl, ?_, rfl, ?_⟩⟩
        · show ((2 : Int) ^ (61 : Int).toNat - 1) ≠ 0
          decide +kernel
        · have e : ((2 : Int) ^ (61 : Int).toNat - 1) = 2305843009213693951 := by decide +kernel
          refine ⟨(n * 48271 + z + 11).fmod ((2 : Int) ^ (61 : Int).toNat - 1), some (.int z), ?_, ?_, rfl⟩
          · rw [e, Int.fmod_eq_emod_of_nonneg _ (by decide)]
            exact Int.emod_nonneg _ (by decide)
          · rw [e, Int.fmod_eq_emod_of_nonneg _ (by decide)]
            exact Int.lt_trans (Int.emod_lt_of_pos _ (by decide)) (by decide)
      · rintro σ H4 ⟨rfl, n, v, n0, n1, rfl⟩
        -- the great cells
        refine ⟨_, rfl, p4, rfl, ⟨_, SqL.of eC⟩, fun G nG => ?_⟩
        refine lc_list (K := K) (a := p4) (xs := cs.map V.int) (fun i H' => ∃ gs : List Int, H' = upd H4 G (.lst (gs.map V.int)) ∧ gs.length ≤ i ∧ ∀ g ∈ gs, 0 ≤ g) ⟨[], rfl, Nat.le_refl _, fun _ h => by cases h⟩ (fun i H' hi h => ?_) ?_ ?_
        · obtain ⟨gs, e, _⟩ := h
          rw [e]
          exact SqL.of (by rw [upd_ne (ne_of_none eC nG)]; exact eC)
        · rintro i x H' hi ⟨gs, rfl, gl, g0⟩
          obtain ⟨z, hz, rfl⟩ := at_map hi
          have hi2 : i < cs.length := (List.getElem?_eq_some_iff.mp hz).1
          refine ⟨rfl, _, rfl, z, rfl, 10, 18, rfl, rfl, ⟨by decide, by decide, by decide⟩, _, _, rfl, rfl, _, rfl, iteB (fun _ => ?_) (fun _ => ?_)⟩
          · refine ⟨_, rfl, z, rfl, _, upd_same, ?_, gs ++ [if z < 0 then -z else z], ?_, ?_, ?_⟩
            · rw [List.length_map]
              exact sml (by omega)
            · rw [upd_upd, List.map_append]
              rfl
            · rw [List.length_append]
              show gs.length + 1 ≤ i + 1
              omega
            · intro g hg
              rcases List.mem_append.mp hg with h | h
              · exact g0 g h
              · have e := List.mem_singleton.mp h
                rw [e]
                split <;> omega
          · exact ⟨gs, rfl, Nat.le_succ_of_le gl, g0⟩
        · rintro H' ⟨gs, rfl, gl, g0⟩
          rw [List.length_map] at gl
          have s4 : Same H (upd H4 G (.lst (gs.map V.int))) := s3.trans (Same.put nG)
          have eG : (upd H4 G (.lst (gs.map V.int))) G = some (.lst (gs.map V.int)) := upd_same
          generalize (upd H4 G (.lst (gs.map V.int))) = H5 at s4 eG ⊢
          refine ⟨_, rfl, _, rfl, by show 1 ≤ sizeLine; decide, fun p5 np5 => ?_⟩
          refine ⟨G, p5, gs.map V.int, [.int 0], rfl, rfl, Same.put np5 _ _ eG, upd_same, ?_, fun p6 np6 => ?_⟩
          · rw [List.length_map]
            exact Nat.le_of_lt (sml (by show gs.length + 1 ≤ 1000; omega))
          have hd : ∃ g : Int, (gs.map V.int ++ [V.int 0])[0]? = some (V.int g) ∧ 0 ≤ g := by
            cases gs with
            | nil => exact ⟨0, rfl, Int.le_refl _⟩
            | cons g r => exact ⟨g, rfl, g0 g (List.mem_cons_self ..)⟩
          obtain ⟨g, hg, gg⟩ := hd
          refine ⟨p6, _, 0, .int g, rfl, rfl, SqL.of upd_same, atI_nat hg, by show 2 ≤ sizeLine; decide, fun p7 np7 => ?_⟩
          have s5 := ((s4.trans (Same.put np5)).trans (Same.put np6)).trans (Same.put (o := .lst [.int n, .int g]) np7)
          exact k p7 _ s5 (((s4.trans (Same.put np5)).trans (Same.put np6)).free np7) ⟨_, upd_same, n, g, rfl, n0, n1, gg⟩
end
end KJ
set_option Elab.async false
set_option linter.all false
set_option maxRecDepth 100000
set_option maxHeartbeats 4000000
/-! + - * with an instance of an own class: its own methods, on the left and on the right -/
namespace OA
open PySem PySem.SeqAt PySem.W Builtin PySem.Calls PyProof.Rows
section
variable {prog : Program} {w : World} {A : Around} {E : Value → Shared → Prop} {s : Shared} {K : Frag} {x C f g : Addr} {ox : Obj} {od : Option Obj} {nm sym : String}
/-- both of one class: the left one's method -/
theorem bin_twins {op : Operator} {b : Value} {Q : Value → Shared → Prop} (hi : op.info = (sym, nm)) (X : K.In s.heap) (I : InstAt s.heap x ox C od) (hc : selfFirst K C = true) (hs : findIn K (.ref C) (PySem.dunder nm) = some (some (.ref f))) (hf : isFn K (.ref f) = true)
    (hb : Looks (model prog w) s.heap (typeOf b) (.ref C)) (h : wpAny (model prog w) A (call (.ref f) [.ref x, b]) (PySem.W.CmpBack Q) E s) : wpAny (model prog w) A (binaryOp op (.ref x) b) Q E s := by
  obtain ⟨cd, rest, hcd, hm⟩ := ksp_first hc
  have one := ksp_try X I hs hf h
  obtain ⟨hp, gs, dd, tk, os⟩ := s
  have T1 : Looks (model prog w) hp (typeOf (.ref x)) (.ref C) := I.type
  have T2 : Looks (model prog w) hp (fillsNumberSlot (.ref C) nm) true := fills_K X hcd hm hs
  simp only [binaryOp, hi]
  refine wpAny_holding (wpAny_bind ?_)
  unfold binaryOp1
  refine wpAny_bind (T1.at (wpAny_bind (hb.at (wpAny_bind (T2.at ?_)))))
  have self : (Value.ref C == Value.ref C) = true := beq_iff_eq.mpr rfl
  simp only [self, if_true]
  ksp_lk
  refine wpAny_mono one (fun r s' hr => ?_) fun _ _ e => e
  obtain ⟨v, rfl, hq⟩ := hr
  ksp_lk
  exact hq
/-- an int on the right of an instance: the instance's method -/
theorem bin_left_int {op : Operator} {i : Int} {ti : Tok} {ro : Option Value} {Q : Value → Shared → Prop} (hi : op.info = (sym, nm)) (X : K.In s.heap) (I : InstAt s.heap x ox C od) (hc : selfFirst K C = true) (hs : findIn K (.ref C) (PySem.dunder nm) = some (some (.ref f))) (hf : isFn K (.ref f) = true)
    (hr : findIn K (.ref C) (dunderR nm) = some (some (.ref g))) (ho : findIn K (.type "int") (dunderR nm) = some ro) (hn : fillsNumberSlot (.type "int") nm = pure true) (hsub : subIn K (.type "int") (.ref C) = some false)
    (h : wpAny (model prog w) A (call (.ref f) [.ref x, .int i ti]) (PySem.W.CmpBack Q) E s) : wpAny (model prog w) A (binaryOp op (.ref x) (.int i ti)) Q E s := by
  obtain ⟨cd, rest, hcd, hm⟩ := ksp_first hc
  have one := ksp_try X I hs hf h
  obtain ⟨hp, gs, dd, tk, os⟩ := s
  have T1 : Looks (model prog w) hp (typeOf (.ref x)) (.ref C) := I.type
  have T2 : Looks (model prog w) hp (fillsNumberSlot (.ref C) nm) true := fills_K X hcd hm hs
  have T3 : Looks (model prog w) hp (typeOf (.int i ti)) (.type "int") := Looks.of_pure rfl
  have T4 : Looks (model prog w) hp (fillsNumberSlot (.type "int") nm) true := Looks.of_pure hn
  have T5 : Looks (model prog w) hp (isSubtype (.type "int") (.ref C)) false := looks_subIn X hsub
  have T6 : Looks (model prog w) hp (numberSlotInPython (.ref C) nm) true := ksp_inPy X hs hr (.inr ⟨_, rfl⟩)
  have T7 : Looks (model prog w) hp (numberSlotInPython (.type "int") nm) false := Looks.of_pure rfl
  have T8 : Looks (model prog w) hp (typeLookup (.type "int") (dunderR nm)) ro := looks_findIn X ho
  have other : (Value.ref C == Value.type "int") = false := Bool.eq_false_iff.mpr fun q => by cases beq_iff_eq.mp q
  simp only [binaryOp, hi]
  refine wpAny_holding (wpAny_bind ?_)
  unfold binaryOp1
  refine wpAny_bind (T1.at (wpAny_bind (T3.at (wpAny_bind (T2.at ?_)))))
  simp only [other, Bool.false_eq_true, if_false]
  ksp_lk
  refine wpAny_mono one (fun r s' hr => ?_) fun _ _ e => e
  obtain ⟨v, rfl, hq⟩ := hr
  ksp_lk
  exact hq
/-- an int on the left: its own method declines, then the instance's reflected one -/
theorem bin_right_int {op : Operator} {i : Int} {ti : Tok} {id : String} {Q : Value → Shared → Prop} (hi : op.info = (sym, nm)) (X : K.In s.heap) (I : InstAt s.heap x ox C od) (hc : selfFirst K C = true) (hs : findIn K (.ref C) (PySem.dunder nm) = some (some (.ref f)))
    (hr : findIn K (.ref C) (dunderR nm) = some (some (.ref g))) (hg : isFn K (.ref g) = true) (hn : fillsNumberSlot (.type "int") nm = pure true) (hsub : subIn K (.ref C) (.type "int") = some false) (sl : Slot "int" (PySem.dunder nm) id)
    (hd : ∀ (Q' : Value → Shared → Prop) (E' : Value → Shared → Prop), Q' .notImplemented s → wpAny (model prog w) A (call (.builtin id) [.int i ti, .ref x]) Q' E' s)
    (h : wpAny (model prog w) A (call (.ref g) [.ref x, .int i ti]) (PySem.W.CmpBack Q) E s) : wpAny (model prog w) A (binaryOp op (.int i ti) (.ref x)) Q E s := by
  obtain ⟨cd, rest, hcd, hm⟩ := ksp_first hc
  have two := ksp_try X I hr hg h
  have one : ∀ (Q' : Option Value → Shared → Prop) (E' : Value → Shared → Prop), Q' none s → wpAny (model prog w) A (tryMethod (.int i ti) (PySem.dunder nm) (.ref x)) Q' E' s := fun Q' E' q => wpAny_tryMethod_declines (typeIs_int s i ti) sl (hd _ _ ⟨rfl, q⟩)
  obtain ⟨hp, gs, dd, tk, os⟩ := s
  have T1 : Looks (model prog w) hp (typeOf (.ref x)) (.ref C) := I.type
  have T2 : Looks (model prog w) hp (fillsNumberSlot (.ref C) nm) true := fills_K X hcd hm hs
  have T3 : Looks (model prog w) hp (typeOf (.int i ti)) (.type "int") := Looks.of_pure rfl
  have T4 : Looks (model prog w) hp (fillsNumberSlot (.type "int") nm) true := Looks.of_pure hn
  have T5 : Looks (model prog w) hp (isSubtype (.ref C) (.type "int")) false := looks_subIn X hsub
  have T7 : Looks (model prog w) hp (numberSlotInPython (.type "int") nm) false := Looks.of_pure rfl
  have other : (Value.type "int" == Value.ref C) = false := Bool.eq_false_iff.mpr fun q => by cases beq_iff_eq.mp q
  simp only [binaryOp, hi]
  refine wpAny_holding (wpAny_bind ?_)
  unfold binaryOp1
  refine wpAny_bind (T3.at (wpAny_bind (T1.at (wpAny_bind (T4.at ?_)))))
  simp only [other, Bool.false_eq_true, if_false]
  ksp_lk
  refine one _ _ ?_
  ksp_lk
  refine wpAny_mono two (fun r s' hr => ?_) fun _ _ e => e
  obtain ⟨v, rfl, hq⟩ := hr
  ksp_lk
  exact hq
end
end OA
set_option Elab.async false
set_option linter.all false
set_option maxRecDepth 100000
set_option maxHeartbeats 4000000
namespace OA
open PySem PySem.SeqAt PySem.W Builtin
open AutoSeq1 (wpAny_loadPart')
open MeetsSeq MeetsSeq2 MeetsSeq3 SeqRoads2
section
variable {prog : Program} {w : World} {A : Around} {E : Value → Shared → Prop} {s : Shared} {x : Addr} {ox : Obj}
/-- the int's own method hands back NotImplemented at an instance -/
def Declines (id : String) : Prop := ∀ (prog : Program) (w : World) (A : Around) (s : Shared) (i : Int) (ti : Tok) (x : Addr) (ox : Obj), s.heap.get? x = some ox → ox.data = .plain → ∀ (Q E : Value → Shared → Prop), Q .notImplemented s → wpAny (model prog w) A (call (.builtin id) [.int i ti, .ref x]) Q E s
theorem at_add (b : Int) (u : Tok) {o : Obj} (hd : o.data = .plain) (l : Addr) : Meets (Builtin.«int.__add__» ⟨[.int b u, .ref l], []⟩) (fun _ R s => s.heap.get? l = some o ∧ R (.ok (.ret .notImplemented)) s) :=
  .of_wp fun prog w A R s h => by obtain ⟨cls, dd, data, sl⟩ := o; obtain ⟨hp, g, d, tk, os⟩ := s; obtain ⟨hl, h⟩ := h; simp only at hd; subst hd; wp_walk using wpAny_loadPart' hl, wpAny_load hl; exact ⟨_, rfl, h⟩
theorem dec_add : Declines "int.__add__" := fun prog w A s i ti x ox hx hd Q E q => call_meets F.slot_int_add (typeIs_int s i ti) F.entry_int_add (F.args_int_add_2 _ _) (at_add i ti hd x) ⟨hx, q⟩
end
end OA
set_option Elab.async false
set_option linter.all false
set_option maxRecDepth 100000
set_option maxHeartbeats 4000000
namespace L2
open PySem PySem.Spec PyProof.Rows
/-- the class's own method for op, at f -/
structure ArL (K : PySem.W.Frag) (C : Addr) (op : Operator) (sym nm : String) (f : Addr) : Prop where
  hi : op.info = (sym, nm)
  hc : PySem.W.selfFirst K C = true
  hs : PySem.W.findIn K (.ref C) (PySem.dunder nm) = some (some (.ref f))
  hf : PySem.W.isFn K (.ref f) = true
/-- its reflected one, at g, and what int says of the op -/
structure ArR (K : PySem.W.Frag) (C : Addr) (nm : String) (g : Addr) : Prop where
  hr : PySem.W.findIn K (.ref C) (dunderR nm) = some (some (.ref g))
  hg : PySem.W.isFn K (.ref g) = true
  ho : ∃ ro, PySem.W.findIn K (.type "int") (dunderR nm) = some ro
  hn : fillsNumberSlot (.type "int") nm = pure true
  up : PySem.W.subIn K (.type "int") (.ref C) = some false
  dn : PySem.W.subIn K (.ref C) (.type "int") = some false
  dec : ∃ id, Slot "int" (PySem.dunder nm) id ∧ OA.Declines id
theorem back_of {z : V} {u : Value} {Q : Value → Shared → Prop} {s : Shared} (r : RelV z u) (q : Q u s) : PySem.W.CmpBack Q u s := by
  cases z with
  | non => cases (show u = Value.none from r); exact q
  | bl b => cases (show u = Value.bool b from r); exact q
  | int i => obtain ⟨t, e⟩ := (show ∃ t, u = Value.int i t from r); cases e; exact q
  | str x => obtain ⟨t, e⟩ := (show ∃ t, u = Value.str x t from r); cases e; exact q
  | byt b => obtain ⟨t, e⟩ := (show ∃ t, u = Value.bytes b t from r); cases e; exact q
  | flt b => obtain ⟨t, e⟩ := (show ∃ t, u = Value.float b t from r); cases e; exact q
  | ref a => cases (show u = Value.ref a from r); exact q
  | ty n => cases (show u = Value.type n from r); exact q
/-- x op y: one of both at least an instance of the class at C, the other one too, or an int -/
def rAr (C : Addr) (spF spG : Sp) : R2 := fun x y H Q =>
  (∃ a dx fs, x = .ref a ∧ H a = some (.ins C dx fs) ∧ ((∃ i, y = .int i) ∨ ∃ c dy gs, y = .ref c ∧ H c = some (.ins C dy gs)) ∧ spF [x, y] H Q E0) ∨
    (∃ i c dy gs, x = .int i ∧ y = .ref c ∧ H c = some (.ins C dy gs) ∧ spG [y, x] H Q E0)
section
variable {X : Cx} {C f g : Addr} {sym nm : String} {fd gd : FuncData} {ps qs : List Str} {n n' : Nat} {spF spG : Sp} {op : Operator}
/-- a def of the text is called by an operator -/
theorem run_two {E : Value → Shared → Prop} {pins : List (Addr × Obj)} {s : Shared} {σ : St} {H : Hp} {x y : V} {v u : Value} {Q : VK} (F : FnOk X.prog X.w X.K X.mg X.base CX0 n f fd ps spF) (hb : Binds X.K fd ps []) (hr : Room n X.A) (I : Inv X pins σ H s) (rx : RelV x v) (ry : RelV y u) (hsp : spF [x, y] H Q E0) :
    wpAny (model X.prog X.w) X.A (call (.ref f) [v, u]) (PySem.W.CmpBack (EP X pins σ Q)) E s := by
  have hl := F.len _ _ _ _ hsp
  have r2 : Vals [x, y] [v, u] := .cons rx (.cons ry .nil)
  refine wpAny_call (codeAny_mono (F.run X.A X.stack s H ⟨[v, u], []⟩ [v, u] [x, y] _ E0 hr I.env0 (by
    have := hb s [v, u] I.kIn (by simpa using hl)
    simpa using this) r2 hsp) fun r s' hq => ?_)
  cases r with
  | error e => exact hq.elim
  | ok fl =>
    cases fl with
    | ret w =>
      obtain ⟨z, H', I', rz, q⟩ := I.after hq
      exact back_of rz ⟨z, H', I', rz, q⟩
    | next => exact False.elim hq
    | brk => exact False.elim hq
    | cont => exact False.elim hq
/-- an operator that lets nothing out -/
def OpN (X : Cx) (f : Value → Value → Sem Value) (r : R2) : Prop := ∀ (E : Value → Shared → Prop) (pins : List (Addr × Obj)) (s : Shared) (σ : St) (H : Hp) (x y : V) (v u : Value) (Q : VK), Inv X pins σ H s → RelV x v → RelV y u → r x y H Q → wpAny (model X.prog X.w) X.A (f v u) (EP X pins σ Q) E s
theorem OpN.toR {f : Value → Value → Sem Value} {r : R2} (h : OpN X f r) : OpR X f r := fun pins s σ H x y v u Q I rx ry q => h _ pins s σ H x y v u Q I rx ry q
theorem op_ar (L : ArL X.K C op sym nm f) (R : ArR X.K C nm g) (F : FnOk X.prog X.w X.K X.mg X.base CX0 n f fd ps spF) (hb : Binds X.K fd ps []) (hr : Room n X.A)
    (G : FnOk X.prog X.w X.K X.mg X.base CX0 n' g gd qs spG) (hbG : Binds X.K gd qs []) (hrG : Room n' X.A) : OpN X (binaryOp op) (rAr C spF spG) := by
  intro E pins s σ H x y v u Q I rx ry hq
  rcases hq with ⟨a, dx, fs, rfl, ha, hy, hsp⟩ | ⟨i, c, dy, gs, rfl, rfl, hc, hsp⟩
  · cases (show v = Value.ref a from rx)
    obtain ⟨mA, J, _⟩ := ins_get I.hok ha
    obtain ⟨od, J, _⟩ := J.look
    have go := run_two (E := E) F hb hr I rx ry hsp
    rcases hy with ⟨i, rfl⟩ | ⟨c, dy, gs, rfl, hc⟩
    · obtain ⟨ti, e⟩ := (show ∃ t, u = Value.int i t from ry)
      subst e
      obtain ⟨ro, ho⟩ := R.ho
      exact OA.bin_left_int L.hi I.kIn J L.hc L.hs L.hf R.hr ho R.hn R.up go
    · cases (show u = Value.ref c from ry)
      obtain ⟨mB, J', _⟩ := ins_get I.hok hc
      obtain ⟨od', J', _⟩ := J'.look
      exact OA.bin_twins L.hi I.kIn J L.hc L.hs L.hf J'.type go
  · cases (show u = Value.ref c from ry)
    obtain ⟨ti, e⟩ := (show ∃ t, v = Value.int i t from rx)
    subst e
    obtain ⟨mA, J, _⟩ := ins_get I.hok hc
    obtain ⟨od, J, _⟩ := J.look
    obtain ⟨id, sl, dec⟩ := R.dec
    exact OA.bin_right_int L.hi I.kIn J L.hc L.hs R.hr R.hg R.hn R.dn sl (fun Q' E' q => dec _ _ _ _ _ _ _ _ J.at_ rfl Q' E' q) (run_two G hbG hrG I ry rx hsp)
end
end L2
set_option Elab.async false
set_option linter.all false
set_option maxRecDepth 100000
set_option maxHeartbeats 4000000
/-! sum(row, start=share): a row of numbers of which some are instances of an own class -/
namespace L2
open PySem PySem.Spec PyProof.Rows
def Cx.inn (X : Cx) : Cx := { X with A := X.A.in1 }
section
variable {X : Cx} {pins : List (Addr × Obj)} {σ : St} {H : Hp} {s : Shared}
theorem Inv.inn (I : Inv X pins σ H s) : Inv X.inn pins σ H s :=
  ⟨⟨I.ok.mod, I.ok.kind, I.ok.glob, I.ok.blt, I.ok.above, I.ok.inj, I.ok.has, I.ok.cab, I.ok.hd, I.ok.frames, I.ok.stk, I.ok.exf, I.ok.bs, I.ok.bsz, I.ok.noex, I.ok.exfs, I.ok.funs, I.ok.frf⟩, I.os, I.bare, I.base, I.loc, I.cell, I.free, I.freeC, I.pin, I.hok, I.len⟩
theorem Inv.outn (I : Inv X.inn pins σ H s) (ok : X.Ok) : Inv X pins σ H s := ⟨ok, I.os, I.bare, I.base, I.loc, I.cell, I.free, I.freeC, I.pin, I.hok, I.len⟩
/-- the state of the sum: a list of the one total -/
def sumSt (v : Value) (c : Nat) : Obj := { cls := .type "list", dict := none, data := .seq #[v] c, slots := #[] }
theorem sum_turns {rA : R2} {l it S : Addr} {xs : List V} {Q : VK} (hc : X.calm = true) (op : OpN X.inn (binaryOp .Add) rA) (Pv : Nat → V → Hp → Prop) (own : ∀ i acc H, Pv i acc H → ∃ a, acc = .ref a) (row : ∀ i acc H, i ≤ xs.length → Pv i acc H → SqT X.K H l xs)
    (step : ∀ i acc x H, xs[i]? = some x → Pv i acc H → rA acc x H (Pv (i + 1))) (fin : ∀ acc H, Pv xs.length acc H → Q acc H) (ne : it ≠ S) :
    ∀ (k i : Nat) (acc : V) (v : Value) (c : Nat) (H : Hp) (s : Shared), xs.length - i = k → i ≤ xs.length → Inv X pins σ H s → RelV acc v → Pv i acc H → s.heap.IsTupleIter it l i → s.heap.get? S = some (sumSt v c) → FpOk X pins H it → FpOk X pins H S →
      codeAny (model X.prog X.w) X.A (.builtin "sum.loop" ⟨[.ref it, .ref S, rawInt 2, rawInt 0], []⟩) (fun r s' => match r with | .ok (.ret v) => EP X pins σ Q v s' | .ok _ => False | .error e => X.xe e s') s := by
  intro k
  induction k with
  | zero =>
    intro i acc v c H s hk hi I rv pv st hS fi fS
    have e : i = xs.length := by omega
    subst e
    obtain ⟨a, rfl⟩ := own _ _ _ pv
    obtain rfl : v = Value.ref a := rv
    obtain ⟨its, ri, pl, hz⟩ := I.tuple (row _ _ _ hi pv)
    have hl := ri.length
    obtain ⟨f0, f1, f2, f3, f4, f5⟩ := fi
    refine codeAny_builtin F.entry_sum_loop ?_
    rw [Around.under_plainId F.plain_sum_loop _]
    show wpAny _ X.A.in1 (seqItems? (.ref S) >>= _) _ _ s
    refine wpAny_bind (wpAny_seqItems hS rfl ?_)
    show wpAny _ X.A.in1 (tryCatch (pyNext (.ref it)) _ >>= _) _ _ s
    refine wpAny_bind (wpAny_tryCatch (wpAny_pyNext_tuple_end (I.ok.hd hc) st (show s.heap.IsTuple l its.toArray from pl) (by simp; omega) fun h' eb => ?_))
    exact wpAny_pure ⟨.ref a, H, I.turned (t' := s.toks) (fun b o hb e => eb b o hb e) f0 f1 f3 f4 f5, rfl, fin _ _ pv⟩
  | succ k ih =>
    intro i acc v c H s hk hi I rv pv st hS fi fS
    have hlt : i < xs.length := by omega
    obtain ⟨a, rfl⟩ := own _ _ _ pv
    obtain rfl : v = Value.ref a := rv
    have hx : xs[i]? = some xs[i] := by simp [hlt]
    obtain ⟨its, ri, pl, hz⟩ := I.tuple (row _ _ _ hi pv)
    obtain ⟨u, hu, ru⟩ := ri.get hx
    have go := step i (.ref a) xs[i] H hx pv
    generalize xs[i] = x at go ru
    obtain ⟨f0, f1, f2, f3, f4, f5⟩ := id fi
    obtain ⟨g0, g1, g2, g3, g4, g5⟩ := id fS
    refine codeAny_builtin F.entry_sum_loop ?_
    rw [Around.under_plainId F.plain_sum_loop _]
    show wpAny _ X.A.in1 (seqItems? (.ref S) >>= _) _ _ s
    refine wpAny_bind (wpAny_seqItems hS rfl ?_)
    show wpAny _ X.A.in1 (tryCatch (pyNext (.ref it)) _ >>= _) _ _ s
    refine wpAny_bind (wpAny_tryCatch (wpAny_pyNext_tuple_item st (show s.heap.IsTuple l its.toArray from pl) (x := u) (by simpa using hu) fun h' st' sb => ?_))
    have I1 : Inv X pins σ H { s with heap := h' } := I.turned (t' := s.toks) (fun b o hb e => (sb.2 b hb).trans e) f0 f1 f3 f4 f5
    have hS1 : h'.get? S = some (sumSt (.ref a) c) := (sb.2 S (Ne.symm ne)).trans hS
    obtain ⟨oi, ei, ci, di⟩ := id st'
    have I2 : Inv X (pins ++ [(it, oi), (S, sumSt (.ref a) c)]) σ H { s with heap := h' } := I1.pins_of fun p hp => by
      rcases List.mem_append.mp hp with hp | hp
      · exact I1.pin p (List.mem_append_right _ hp)
      · rcases List.mem_cons.mp hp with rfl | hp
        · exact ⟨ei, f0, f1, f2, fun v z => by rw [di] at z; cases z⟩
        · rw [List.mem_singleton.mp hp]
          exact ⟨hS1, g0, g1, g2, fun v z => by cases z⟩
    show wpAny _ X.A.in1 ((holding [u] (binaryOp .Add (.ref a) u)).attempt >>= _) _ _ _
    refine wpAny_bind (wpAny_attempt (wpAny_holding (wpAny_mono (op (fun _ _ => False) _ _ σ H (.ref a) x (.ref a) u _ I2.inn rfl ru go) (fun w s2 q => ?_) (fun e s2 z => z.elim))))
    obtain ⟨z, H2, I3, rz, pv2⟩ := q
    have I4 : Inv X (pins ++ [(it, oi), (S, sumSt (.ref a) c)]) σ H2 s2 := I3.outn I.ok
    obtain ⟨ki, ni, _⟩ := I4.pin (it, oi) (List.mem_append_right _ (List.mem_append_right _ List.mem_cons_self))
    obtain ⟨kS, nS, _⟩ := I4.pin (S, sumSt (.ref a) c) (List.mem_append_right _ (List.mem_append_right _ (List.mem_cons_of_mem _ List.mem_cons_self)))
    obtain ⟨a2, rfl⟩ := own _ _ _ pv2
    obtain rfl : w = Value.ref a2 := rz
    have I5 : Inv X pins σ H2 s2 := I4.unpinned
    show wpAny _ X.A.in1 (updateSeq S (fun _ => #[Value.ref a2]) >>= _) _ _ _
    refine wpAny_bind (wpAny_updateSeq kS rfl ?_)
    have hS₂ := Heap.get?_update_self (Obj.mapSeq fun _ => #[Value.ref a2]) kS rfl
    refine wpAny_bind (wpAny_letGo ?_)
    refine wpAny_bind (wpAny_updateSeq hS₂ rfl ?_)
    have hS3 := Heap.get?_update_self (Obj.mapSeq fun _ => #[Value.ref a2]) hS₂ rfl
    have oth : ∀ (b : Addr) (o : Obj), b ≠ S → s2.heap.get? b = some o → ((s2.heap.update S (Obj.mapSeq fun _ => #[Value.ref a2])).update S (Obj.mapSeq fun _ => #[Value.ref a2])).get? b = some o := fun b o hb e =>
      (Heap.get?_update_other _ _ (Ne.symm hb)).trans ((Heap.get?_update_other _ _ (Ne.symm hb)).trans e)
    have I6 : Inv X pins σ H2 { s2 with heap := (s2.heap.update S (Obj.mapSeq fun _ => #[Value.ref a2])).update S (Obj.mapSeq fun _ => #[Value.ref a2]) } := I5.turned (t' := s2.toks) oth nS g1 g3 g4 g5
    refine wpAny_pure ⟨plainId_quiet F.plain_sum_loop _, ih (i + 1) (.ref a2) (.ref a2) c H2 _ (by omega) hlt I6 rfl pv2 ⟨oi, oth it oi ne ki, by obtain ⟨o', e', c', d'⟩ := st'; rw [ei] at e'; cases e'; exact ⟨c', d'⟩⟩ hS3 ⟨ni, f1, f2, f3, f4, f5⟩ ⟨nS, g1, g2, g3, g4, g5⟩⟩
/-- a class that is no text -/
structure NoTxt (K : PySem.W.Frag) (C : Addr) : Prop where
  str : PySem.W.subIn K (.ref C) (.type "str") = some false
  byt : PySem.W.subIn K (.ref C) (.type "bytes") = some false
  bar : PySem.W.subIn K (.ref C) (.type "bytearray") = some false
/-- sum(row, start=an instance): Pv tells the total behind i items -/
def rSumO (K : PySem.W.Frag) (rA : R2) : List V → List V → Hp → VK → Prop := fun xs zs H Q => ∃ (l a C dx : Addr) (fs : List (Str × V)) (row : List V), xs = [.ref l] ∧ zs = [.ref a] ∧ H a = some (.ins C dx fs) ∧ NoTxt K C ∧
  ∃ Pv : Nat → V → Hp → Prop, Pv 0 (.ref a) H ∧ (∀ i acc H', Pv i acc H' → ∃ b, acc = .ref b) ∧ (∀ i acc H', i ≤ row.length → Pv i acc H' → SqT K H' l row) ∧ (∀ i acc x H', row[i]? = some x → Pv i acc H' → rA acc x H' (Pv (i + 1))) ∧ ∀ acc H', Pv row.length acc H' → Q acc H'
theorem argsOk_sum (a b : Value) : argsOk "sum" ⟨[a], [(Str.ofString "start", b)]⟩ := by
  unfold argsOk
  kernel_rfl
theorem cr_sumO {rA : R2} (hc : X.calm = true) (op : OpN X.inn (binaryOp .Add) rA) : CallRK X (.builtin "sum") [Str.ofString "start"] (rSumO X.K rA) := by
  intro pins s σ H xs zs us ws Q I r rz h
  obtain ⟨l, a, C, dx, fs, row, rfl, rfl, ha, nt, Pv, p0, own, kept, step, fin⟩ := h
  obtain rfl := Vals.ref1 r
  obtain rfl := Vals.ref1 rz
  obtain ⟨its, ri, pl, hz⟩ := I.tuple (kept 0 _ _ (Nat.zero_le _) p0)
  obtain ⟨mA, J, _⟩ := ins_get I.hok ha
  obtain ⟨od, J, _⟩ := J.look
  have n1 : ∀ M : Model, PySem.W.Looks M s.heap (isInstance (.ref a) (.type "str")) false := fun M => OC.not_inst I.kIn J nt.str
  have n2 : ∀ M : Model, PySem.W.Looks M s.heap (isInstance (.ref a) (.type "bytes")) false := fun M => OC.not_inst I.kIn J nt.byt
  have n3 : ∀ M : Model, PySem.W.Looks M s.heap (isInstance (.ref a) (.type "bytearray")) false := fun M => OC.not_inst I.kIn J nt.bar
  refine wpAny_call (codeAny_call_builtin F.plain_sum F.entry_sum ?_)
  have body : wpAny (model X.prog X.w) X.A.in1 (Builtin.«sum» ⟨[.ref l], [(Str.ofString "start", .ref a)]⟩) (fun fin s' => match fin with
      | .done f => (match (Except.ok f : Result) with | .ok (.ret v) => EP X pins σ Q v s' | .ok _ => False | .error e => X.xe e s')
      | .again c' => c'.quiet = true ∧ codeAny (model X.prog X.w) X.A c' (fun r s' => match r with | .ok (.ret v) => EP X pins σ Q v s' | .ok _ => False | .error e => X.xe e s') s') X.xe s := by
    unfold Builtin.«sum»
    simp only [List.length_cons, List.length_nil]
    rw [if_neg (by decide)]
    refine wpAny_bind (wpAny_of_eq (show Builtin.Builtins.bindParams "sum" ["start"] 0 ⟨[], [(Str.ofString "start", .ref a)]⟩ = pure [some (.ref a)] from rfl) ?_)
    refine wpAny_bind (wpAny_pyIter_tuple (show s.heap.IsTuple l its.toArray from pl) ?_)
    have up : ∀ b o, s.heap.get? b = some o → (s.heap.push { cls := .type "tuple_iterator", data := .fields #[.ref l, .int 0 0] }).get? b = some o := fun b o e => Heap.get?_push_of_some _ e
    refine wpAny_bind (wpAny_pure ?_)
    simp only [List.forIn_cons, List.forIn_nil]
    refine wpAny_bind (wpAny_bind (wpAny_bind (n1 _ _ _ _ _ up ?_)))
    simp only [Bool.false_eq_true, if_false]
    refine wpAny_pure (wpAny_bind (wpAny_bind (n2 _ _ _ _ _ up ?_)))
    simp only [Bool.false_eq_true, if_false]
    refine wpAny_pure (wpAny_bind (wpAny_bind (n3 _ _ _ _ _ up ?_)))
    simp only [Bool.false_eq_true, if_false]
    refine wpAny_pure (wpAny_pure ?_)
    refine wpAny_bind (wpAny_newObj_type ?_)
    have I1 : Inv X pins σ H { s with heap := s.heap.push { cls := .type "tuple_iterator", data := .fields #[.ref l, .int 0 0] } } := I.kept (t' := s.toks) up
    have sz1 : (s.heap.push { cls := .type "tuple_iterator", data := .fields #[.ref l, .int 0 0] }).objs.size = s.heap.objs.size + 1 := Heap.size_push ..
    have up2 : ∀ b o, (s.heap.push { cls := .type "tuple_iterator", data := .fields #[.ref l, .int 0 0] }).get? b = some o → ((s.heap.push { cls := .type "tuple_iterator", data := .fields #[.ref l, .int 0 0] }).push { cls := .type "list", dict := none, data := .seq #[.ref a] 0 }).get? b = some o := fun b o e => Heap.get?_push_of_some _ e
    have I2 := I1.kept (t' := s.toks) up2
    have le1 : s.heap.objs.size ≤ (s.heap.push { cls := .type "tuple_iterator", data := .fields #[.ref l, .int 0 0] }).objs.size := by rw [sz1]; exact Nat.le_succ _
    exact wpAny_pure ⟨plainId_quiet F.plain_sum_loop _, sum_turns hc op Pv own kept step fin (by show s.heap.objs.size ≠ _; rw [sz1]; exact Nat.ne_of_lt (Nat.lt_succ_self _)) row.length 0 (.ref a) (.ref a) 0 H _ rfl (Nat.zero_le _) I2 rfl p0
      ⟨_, up2 _ _ (Heap.get?_push_size _ rfl), rfl, rfl⟩ (Heap.get?_push_size _ rfl) (I.fpOk (Nat.le_refl _) (I.hok.fresh (Nat.le_refl _))) (I.fpOk le1 (I.hok.fresh le1))⟩
  simp only [checkBuiltinCall, F.kind_sum]
  cases hsig : Manifest.signature? "sum" with
  | none => exact wpAny_pure body
  | some sig =>
    have ha' : Bind.checkArgs "sum" sig ⟨[.ref l], [(Str.ofString "start", .ref a)]⟩ = pure () := by simpa only [argsOk, hsig] using argsOk_sum (.ref l) (.ref a)
    simp only [List.zip_cons_cons, List.zip_nil_right, ha']
    exact wpAny_pure body
end
end L2
set_option Elab.async false
set_option linter.all false
set_option maxRecDepth 100000
set_option maxHeartbeats 4000000
namespace KJ
open PySem L2
/-- how == of the two is told: one of both a share -/
def Cmp (K : PySem.W.Frag) (C : Addr) (H : Hp) (x y : V) (b : Bool) : Prop :=
  (∃ a dx fs, x = .ref a ∧ H a = some (.ins C dx fs) ∧ EqS K C a y b H ∧ ((∃ T, Fo K H y T) ∨ ∃ c dy gs, y = .ref c ∧ H c = some (.ins C dy gs))) ∨
    (∃ c dy gs T, y = .ref c ∧ H c = some (.ins C dy gs) ∧ Fo K H x T ∧ EqS K C c x b H)
theorem sh2 (x y : Int) : SeqAt.shaped (.tuple [.int x, .int y]) = true := rfl
theorem i2 {x y z : V} {xs : List V} : atI (x :: y :: z :: xs) 2 = some z := by
  have h : (x :: y :: z :: xs)[2]? = some z := rfl
  exact atI_nat h
/-- __eq__ of the class -/
structure EqT (P : Program) (w : World) (K : PySem.W.Frag) (mg : Str → Option Value) (base : Heap) (C : Addr) : Prop where
  ex : ∃ (f : Addr) (fd : FuncData), OwnT K C f ∧ FnOk P w K mg base CX0 2 f fd ["self", "other"] (spOwn (EqS K C)) ∧ Binds K fd ["self", "other"] []
/-- x == y: by a share, or of plain data -/
theorem EqT.op {X : Cx} {C : Addr} {op : CmpOp} (ho : OC.Is2 op) (c : EqT X.prog X.w X.K X.mg X.base C) (hr : Room 3 X.A) : ∃ r : R2, OpR X (compareOp op) r ∧ ∀ x y b H Q, Cmp X.K C H x y b → Q (.bl (OC.turn op b)) H → r x y H Q := by
  obtain ⟨f, fd, O, F, hb⟩ := c.ex
  exact ⟨_, op_ownB ho F O hb pass0 hr, fun x y b H Q h q => ⟨b, h, q⟩⟩
theorem is_eq : OC.Is2 .Eq := .inl rfl
theorem is_ne : OC.Is2 .NotEq := .inr rfl
theorem passX {X : Cx} : Passes (L2.CX X.prog X.w) X E0 := fun _ _ _ _ _ _ _ ⟨_, _, _, _, _, _, _, _, _, _, _, _, h⟩ => h.elim
/-- Share(p, q) and Share(p) -/
structure MkT (P : Program) (w : World) (K : PySem.W.Frag) (mg : Str → Option Value) (base : Heap) (C B : Addr) : Prop where
  ex : ∃ (f : Addr) (fd : FuncData) (ds : List Value), Mk K C f ∧ FnOk P w K mg base (L2.CX P w) 4 f fd ["self", "top", "bottom"] (spSI K C B) ∧ Binds K fd ["self", "top", "bottom"] [] ∧ Vals [.int 1] ds ∧ Binds K fd ["self", "top", "bottom"] ds
  gS : mg "Share" = some (.ref C)
section
variable {X : Cx} {C B : Addr} {p pos : Pos} {e : Expr} {es : List Expr} {t : TA}
theorem pe_share2 (m : MkT X.prog X.w X.K X.mg X.base C B) (hr : Room 5 X.A) (hg : Gl X "Share") (ha : PA X (e :: es) t)
    (he : starEach (e :: es) X.env = (false, eval e X.env) :: starEach es X.env := by rfl) (hpl : (backTo pos (starEach es X.env)).any (·.1) = false := by rfl) :
    PE X (.Call (.Name "Share" p) (e :: es) [] pos) (tMake C (spSI X.K C B) [] E0 t) := by
  obtain ⟨f, fd, ds, M, F, b0, v1, b1⟩ := m.ex
  exact pe_make M F hr hg m.gS b0 .nil passX ha (by decide) he hpl
theorem pe_share1 (m : MkT X.prog X.w X.K X.mg X.base C B) (hr : Room 5 X.A) (hg : Gl X "Share") (ha : PA X (e :: es) t)
    (he : starEach (e :: es) X.env = (false, eval e X.env) :: starEach es X.env := by rfl) (hpl : (backTo pos (starEach es X.env)).any (·.1) = false := by rfl) :
    PE X (.Call (.Name "Share" p) (e :: es) [] pos) (tMake C (spSI X.K C B) [.int 1] E0 t) := by
  obtain ⟨f, fd, ds, M, F, b0, v1, b1⟩ := m.ex
  exact pe_make M F hr hg m.gS b1 v1 passX ha (by decide) he hpl
end
/-- a share is made -/
theorem mk_ok {K : PySem.W.Frag} {C B : Addr} {a b : Int} {H : Hp} {Q : VK} {E : XK} (nz : b ≠ 0) (hl : b.natAbs.log2 < 9000)
    (k : ∀ (x dx : Addr) (H' : Hp), Same H H' → H' x = some (.ins C dx (shF (lowT a b) (lowB a b))) → Q (.ref x) H') :
    ∀ x dx, H x = none → H dx = none → dx ≠ x → spSI K C B [.ref x, .int a, .int b] (upd (upd H dx (.own x)) x (.ins C dx [])) (fun v H2 => v = .non ∧ Q (.ref x) H2) E :=
  fun x dx hx hd ne => ⟨x, dx, .int a, .int b, rfl, upd_same, .fo (.int a), .fo (.int b), .inl ⟨a, b, rfl, rfl, nz, hl, rfl, k x dx _ (by
    rw [upd_upd]
    exact (Same.put hd).trans (Same.put (by rw [upd_ne ne.symm]; exact hx))) upd_same⟩⟩
theorem mk_same {C : Addr} {H : Hp} {x dx : Addr} {o : HO} (hx : H x = none) (hd : H dx = none) (ne : dx ≠ x) : Same H (upd (upd (upd H dx (.own x)) x (.ins C dx [])) x o) := by
  rw [upd_upd]
  exact (Same.put hd).trans (Same.put (by rw [upd_ne ne.symm]; exact hx))
/-! ### lowest terms, once more -/
theorem sg_dvdT (a b : Int) : sg a b ∣ a := by
  have h : ((Nat.gcd a.natAbs b.natAbs : Nat) : Int) ∣ a := Int.ofNat_dvd_left.mpr (Nat.gcd_dvd_left _ _)
  unfold sg
  split
  · exact h
  · exact Int.neg_dvd.mpr h
theorem sg_dvdB (a b : Int) : sg a b ∣ b := by
  have h : ((Nat.gcd a.natAbs b.natAbs : Nat) : Int) ∣ b := Int.ofNat_dvd_left.mpr (Nat.gcd_dvd_right _ _)
  unfold sg
  split
  · exact h
  · exact Int.neg_dvd.mpr h
theorem low_mulT (a b : Int) : lowT a b * sg a b = a := by
  unfold lowT
  exact Int.fdiv_mul_cancel (sg_dvdT a b)
theorem low_mulB (a b : Int) : lowB a b * sg a b = b := by
  unfold lowB
  exact Int.fdiv_mul_cancel (sg_dvdB a b)
theorem abs_le {x g y : Int} (h : x * g = y) (hg : g ≠ 0) : x.natAbs ≤ y.natAbs := by
  rw [← h, Int.natAbs_mul]
  exact Nat.le_mul_of_pos_right _ (Int.natAbs_pos.mpr hg)
theorem lowT_le {a b : Int} (hb : b ≠ 0) : (lowT a b).natAbs ≤ a.natAbs := abs_le (low_mulT a b) (sg_ne hb)
theorem lowB_le {a b : Int} (hb : b ≠ 0) : (lowB a b).natAbs ≤ b.natAbs := abs_le (low_mulB a b) (sg_ne hb)
theorem lowB_pos {a b : Int} (hb : b ≠ 0) : 0 < lowB a b := by
  have e := low_mulB a b
  by_cases h : 0 < b
  · have hs : 0 < sg a b := by
      unfold sg
      rw [if_pos h]
      exact Int.ofNat_lt.mpr (gcd_pos hb)
    by_cases z : 0 < lowB a b
    · exact z
    · have : lowB a b * sg a b ≤ 0 := Int.mul_nonpos_of_nonpos_of_nonneg (by omega) (by omega)
      omega
  · have hs : sg a b < 0 := by
      unfold sg
      rw [if_neg h]
      have := Int.ofNat_lt.mpr (gcd_pos (a := a) hb)
      omega
    by_cases z : 0 < lowB a b
    · exact z
    · have : 0 ≤ lowB a b * sg a b := Int.mul_nonneg_of_nonpos_of_nonpos (by omega) (by omega)
      omega
theorem low_gcd {a b : Int} (hb : b ≠ 0) : Nat.gcd (lowT a b).natAbs (lowB a b).natAbs = 1 := by
  have e1 : (lowT a b).natAbs * Nat.gcd a.natAbs b.natAbs = a.natAbs := by
    rw [← sg_abs, ← Int.natAbs_mul, low_mulT]
  have e2 : (lowB a b).natAbs * Nat.gcd a.natAbs b.natAbs = b.natAbs := by
    rw [← sg_abs, ← Int.natAbs_mul, low_mulB]
  have h : Nat.gcd ((lowT a b).natAbs * Nat.gcd a.natAbs b.natAbs) ((lowB a b).natAbs * Nat.gcd a.natAbs b.natAbs) = Nat.gcd (lowT a b).natAbs (lowB a b).natAbs * Nat.gcd a.natAbs b.natAbs := Nat.gcd_mul_right _ _ _
  rw [e1, e2] at h
  have hp := gcd_pos (a := a) hb
  exact Nat.eq_of_mul_eq_mul_right hp (by rw [← h, Nat.one_mul])
theorem sg_one {x y : Int} (hy : 0 < y) (h : Nat.gcd x.natAbs y.natAbs = 1) : sg x y = 1 := by
  unfold sg
  rw [if_pos hy, h]
  rfl
theorem low_one {x y : Int} (hy : 0 < y) (h : Nat.gcd x.natAbs y.natAbs = 1) : lowT x y = x ∧ lowB x y = y := by
  unfold lowT lowB
  rw [sg_one hy h]
  exact ⟨Int.fdiv_one x, Int.fdiv_one y⟩
theorem low_int (i : Int) : lowT i 1 = i ∧ lowB i 1 = 1 := low_one (by decide) (by show Nat.gcd i.natAbs 1 = 1; exact Nat.gcd_one_right _)
/-! ### how shares and things compare -/
theorem cmp_fo {K : PySem.W.Frag} {C a dx : Addr} {t n : Int} {H : Hp} {y : V} {T : String} (e : H a = some (.ins C dx (shF t n))) (h : Fo K H y T) {b : Bool} (hb : b = (isI y && (decide (V.int n = V.int 1) && decide (V.int t = y)))) : Cmp K C H (.ref a) y b ∧ Cmp K C H y (.ref a) b :=
  have eq : EqS K C a y b H := ⟨dx, t, n, e, .inr ⟨⟨T, h⟩, hb⟩⟩
  ⟨.inl ⟨a, dx, _, rfl, e, eq, .inl ⟨T, h⟩⟩, .inr ⟨a, dx, _, T, rfl, e, h, eq⟩⟩
theorem cmp_sh {K : PySem.W.Frag} {C a dx c dy : Addr} {t n t' n' : Int} {H : Hp} (e : H a = some (.ins C dx (shF t n))) (e' : H c = some (.ins C dy (shF t' n'))) : Cmp K C H (.ref a) (.ref c) (decide (V.int t = V.int t') && decide (V.int n = V.int n')) :=
  .inl ⟨a, dx, _, rfl, e, ⟨dx, t, n, e, .inl ⟨c, dy, t', n', rfl, e', rfl⟩⟩, .inr ⟨c, dy, _, rfl, e'⟩⟩
theorem cmp_sh2 {K : PySem.W.Frag} {C a dx c dy : Addr} {t n t' n' : Int} {H : Hp} (e : H a = some (.ins C dx (shF t n))) (e' : H c = some (.ins C dy (shF t' n'))) {b : Bool} (hb : b = (decide (V.int t = V.int t') && decide (V.int n = V.int n'))) :
    Cmp K C H (.ref a) (.ref c) b ∧ Cmp K C H (.ref c) (.ref a) b := by
  subst hb
  refine ⟨cmp_sh e e', ?_⟩
  have h := cmp_sh (K := K) e' e
  have z : (decide (V.int t' = V.int t) && decide (V.int n' = V.int n)) = (decide (V.int t = V.int t') && decide (V.int n = V.int n')) := by
    rw [decide_eq_decide.mpr (⟨Eq.symm, Eq.symm⟩ : V.int t' = V.int t ↔ V.int t = V.int t'), decide_eq_decide.mpr (⟨Eq.symm, Eq.symm⟩ : V.int n' = V.int n ↔ V.int n = V.int n')]
  rw [z] at h
  exact h
theorem si_ok {K : PySem.W.Frag} {C B : Addr} {a b : Int} {H : Hp} {x dx : Addr} {Q : VK} {E : XK} (hx : H x = none) (hd : H dx = none) (ne : dx ≠ x) (nz : b ≠ 0) (hl : b.natAbs.log2 < 9000)
    (k : ∀ H', Same H H' → H' x = some (.ins C dx (shF (lowT a b) (lowB a b))) → Q .non H') : spSI K C B [.ref x, .int a, .int b] (upd (upd H dx (.own x)) x (.ins C dx [])) Q E :=
  ⟨x, dx, .int a, .int b, rfl, upd_same, .fo (.int a), .fo (.int b), .inl ⟨a, b, rfl, rfl, nz, hl, k _ (mk_same hx hd ne) upd_same⟩⟩
theorem fo_same {K : PySem.W.Frag} {H H' : Hp} {x : V} {T : String} (h : Fo K H x T) (s : Same H H') : Fo K H' x T := by
  cases h with
  | non => exact .non
  | bl b => exact .bl b
  | int i => exact .int i
  | str x => exact .str x
  | lst e => exact .lst (s _ _ e)
  | tup e => exact .tup (s _ _ e)
  | dK e => exact .dK (s _ _ e)
end KJ
set_option Elab.async false
set_option linter.all false
set_option maxRecDepth 100000
set_option maxHeartbeats 4000000
namespace L2
open PySem PySem.Spec PyProof.Rows
def rArL (C : Addr) (spF : Sp) : R2 := fun x y H Q => ∃ a dx fs, x = .ref a ∧ H a = some (.ins C dx fs) ∧ ((∃ i, y = .int i) ∨ ∃ c dy gs, y = .ref c ∧ H c = some (.ins C dy gs)) ∧ spF [x, y] H Q E0
section
variable {X : Cx} {C f g : Addr} {sym nm : String} {fd : FuncData} {ps : List Str} {n : Nat} {spF : Sp} {op : Operator}
/-- the same with the instance on the left -/
theorem op_arL (L : ArL X.K C op sym nm f) (R : ArR X.K C nm g) (F : FnOk X.prog X.w X.K X.mg X.base CX0 n f fd ps spF) (hb : Binds X.K fd ps []) (hr : Room n X.A) : OpN X (binaryOp op) (rArL C spF) := by
  intro E pins s σ H x y v u Q I rx ry ⟨a, dx, fs, ex, ha, hy, hsp⟩
  subst ex
  cases (show v = Value.ref a from rx)
  obtain ⟨mA, J, _⟩ := ins_get I.hok ha
  obtain ⟨od, J, _⟩ := J.look
  have go := run_two (E := E) F hb hr I rx ry hsp
  rcases hy with ⟨i, rfl⟩ | ⟨c, dy, gs, rfl, hc⟩
  · obtain ⟨ti, e⟩ := (show ∃ t, u = Value.int i t from ry)
    subst e
    obtain ⟨ro, ho⟩ := R.ho
    exact OA.bin_left_int L.hi I.kIn J L.hc L.hs L.hf R.hr ho R.hn R.up go
  · cases (show u = Value.ref c from ry)
    obtain ⟨mB, J', _⟩ := ins_get I.hok hc
    obtain ⟨od', J', _⟩ := J'.look
    exact OA.bin_twins L.hi I.kIn J L.hc L.hs L.hf J'.type go
end
end L2
set_option Elab.async false
set_option linter.all false
set_option maxRecDepth 100000
set_option maxHeartbeats 4000000
namespace KJ
open PySem L2
/-- a number: an integer, or a share with these fields -/
def Nm (C : Addr) (H : Hp) (v : V) (t n : Int) : Prop := (v = .int t ∧ n = 1) ∨ ∃ a dx, v = .ref a ∧ H a = some (.ins C dx (shF t n))
/-- lowest terms, of a moderate size -/
structure Low (t n : Int) : Prop where
  pos : 0 < n
  gcd : Nat.gcd t.natAbs n.natAbs = 1
  tb : t.natAbs < 2 ^ 4000
  nb : n.natAbs < 2 ^ 4000
theorem Nm.same {C : Addr} {H H' : Hp} {v : V} {t n : Int} (h : Nm C H v t n) (s : Same H H') : Nm C H' v t n := by
  rcases h with h | ⟨a, dx, e, h⟩
  · exact .inl h
  · exact .inr ⟨a, dx, e, s _ _ h⟩
theorem mul_lt {a b : Int} {i j : Nat} (h : a.natAbs < 2 ^ i) (h' : b.natAbs < 2 ^ j) : (a * b).natAbs < 2 ^ (i + j) := by
  rw [Int.natAbs_mul, Nat.pow_add]
  exact Nat.mul_lt_mul'' h h'
theorem log_of {a : Int} {i : Nat} (h : a.natAbs < 2 ^ i) (h0 : 0 < i) (hi : i ≤ 9000) : a.natAbs.log2 < 9000 := Nat.lt_of_lt_of_le (PySem.Flt.log2_lt_of h0 h) hi
section
variable {P : Program} {w : World} {K : PySem.W.Frag} {mg : Str → Option Value} {base : Heap} {C B : Addr}
/-- is_share(thing) -/
def spIsShare (K : PySem.W.Frag) (C : Addr) : Sp := fun vs H Q _ => ∃ x, vs = [x] ∧ ((∃ t n, Nm C H x t n ∧ Q (.bl true) H) ∨ ∃ T, Fo K H x T ∧ isI x = false ∧ Q (.bl false) H)
abbrev s_is_share : Stmt := top 22
theorem sc_is_share : FnScope ["thing"] ["thing"] (defScope s_is_share) := ⟨rfl, rfl, rfl, by decide +kernel, rfl, by decide +kernel, by decide +kernel⟩
theorem ok_is_share {f : Addr} {fd : FuncData} (F : Fun K "is_share" "is_share" s_is_share f fd) (T : ShT K mg C) (c_is_whole : Cal P w K mg base 1 "is_whole" ["thing"] (spWhole K C)) : FnOk P w K mg base CX0 2 f fd ["thing"] (spIsShare K C) := by
  refine F.ok sc_is_share (fun vs H Q E h => ?_) (fun cdv A outer s H vs Q E hr h => ?_)
  · obtain ⟨x, rfl, _⟩ := h
    rfl
  · obtain ⟨x, rfl, h⟩ := h
    refine ⟨_, (pss_one (ps_ret (pe_or (pe_callB call_isi (by rfl) T.bn.n_isinstance (by decide +kernel) (pa_cons (pv 0) (pa_cons (pe_glob (v := .ref C) rfl T.g_Share rfl) pa_nil))) (pe_one (pe_cal c_is_whole (hr.mono (by decide)) rfl (pa_cons (pv 0) pa_nil)))))), ?_⟩
    rcases h with ⟨t, n, ⟨rfl, rfl⟩ | ⟨a, dx, rfl, e⟩, k⟩ | ⟨T', fo, ix, k⟩
    · refine ⟨_, rfl, .int t, .ref C, _, _, false, rfl, .own C, (Fo.int t).ty, T.it.fo (H := H) (.int t), _, rfl, iteF ?_⟩
      exact ⟨_, rfl, .int t, rfl, .fo (.int t), k⟩
    · exact ⟨_, rfl, .ref a, .ref C, _, _, true, rfl, .own C, T.it.ty e, T.it.kself, _, rfl, iteT k⟩
    · refine ⟨_, rfl, x, .ref C, _, _, false, rfl, .own C, fo.ty, T.it.fo fo, _, rfl, iteF ?_⟩
      refine ⟨_, rfl, x, rfl, .fo fo, ?_⟩
      rw [ix]
      exact k
/-- share_of(number) -/
def spShareOf (C : Addr) : Sp := fun vs H Q _ => ∃ x t n, vs = [x] ∧ Nm C H x t n ∧ ∀ (a dx : Addr) (H' : Hp), Same H H' → H' a = some (.ins C dx (shF t n)) → Q (.ref a) H'
abbrev s_share_of : Stmt := top 23
theorem sc_share_of : FnScope ["thing"] ["thing"] (defScope s_share_of) := ⟨rfl, rfl, rfl, by decide +kernel, rfl, by decide +kernel, by decide +kernel⟩
theorem ok_share_of {f : Addr} {fd : FuncData} (F : Fun K "share_of" "share_of" s_share_of f fd) (T : ShT K mg C) (m : MkT P w K mg base C B) : FnOk P w K mg base CX0 6 f fd ["thing"] (spShareOf C) := by
  refine F.ok sc_share_of (fun vs H Q E h => ?_) (fun cdv A outer s H vs Q E hr h => ?_)
  · obtain ⟨x, t, n, rfl, _⟩ := h
    rfl
  · obtain ⟨x, t, n, rfl, h, k⟩ := h
    refine ⟨_, (pss_cons (ps_if (pt_val (pe_callB call_isi (by rfl) T.bn.n_isinstance (by decide +kernel) (pa_cons (pv 0) (pa_cons (pe_glob (v := .ref C) rfl T.g_Share rfl) pa_nil))))
        (pss_one (ps_ret (pv 0)))
        pss_nil)
      (pss_one (ps_ret (pe_share1 m hr rfl (pa_cons (pv 0) pa_nil))))), ?_⟩
    rcases h with ⟨rfl, rfl⟩ | ⟨a, dx, rfl, e⟩
    · refine ⟨_, rfl, .int t, .ref C, _, _, false, rfl, .own C, (Fo.int t).ty, T.it.fo (H := H) (.int t), _, rfl, iteF ?_⟩
      refine ⟨_, rfl, fun z dz hz hd ne => si_ok hz hd ne (a := t) (b := 1) (by decide) (by decide +kernel) fun H' s e => ⟨rfl, ?_⟩⟩
      rw [(low_int t).1, (low_int t).2] at e
      exact k z dz _ s e
    · exact ⟨_, rfl, .ref a, .ref C, _, _, true, rfl, .own C, T.it.ty e, T.it.kself, _, rfl, iteT ⟨_, rfl, k a dx H (Same.refl H) e⟩⟩
/-- share.less(number) -/
def spLess (C : Addr) : Sp := fun vs H Q _ => ∃ (a dx : Addr) (y : V) (t n t' n' : Int), vs = [.ref a, y] ∧ H a = some (.ins C dx (shF t n)) ∧ Nm C H y t' n' ∧ Low t n ∧ Low t' n' ∧ ∀ H', Same H H' → Q (.bl (decide (t * n' < t' * n))) H'
abbrev s_sless : Stmt := inClass (top 21) 12
theorem sc_sless : FnScope ["self", "other", "beside"] ["self", "other"] (defScope s_sless) := ⟨rfl, rfl, rfl, by decide +kernel, rfl, by decide +kernel, by decide +kernel⟩
theorem ok_sless {f : Addr} {fd : FuncData} (F : Fun K "less" "Share.less" s_sless f fd) (T : ShT K mg C) (c_of : Cal P w K mg base 6 "share_of" ["thing"] (spShareOf C)) : FnOk P w K mg base CX0 7 f fd ["self", "other"] (spLess C) := by
  refine F.ok sc_sless (fun vs H Q E h => ?_) (fun cdv A outer s H vs Q E hr h => ?_)
  · obtain ⟨a, dx, y, t, n, t', n', rfl, _⟩ := h
    rfl
  · obtain ⟨a, dx, y, t, n, t', n', rfl, ha, hy, l1, l2, k⟩ := h
    refine ⟨_, (pss_cons (ps_set (i := 2) sc_sless.nd rfl (Or.inl rfl) (pe_cal c_of hr rfl (pa_cons (pv 1) pa_nil)))
      (pss_one (ps_ret (pe_cmpR op_lt (pe_op op_mulW (pe_fld (pv 0) rfl) (pe_fld (pv 2) rfl)) (pe_op op_mulW (pe_fld (pv 2) rfl) (pe_fld (pv 0) rfl)) (nomark _))))), ?_⟩
    refine ⟨_, rfl, y, t', n', rfl, hy, fun b db H1 s1 e1 => ?_⟩
    have ha1 := s1 _ _ ha
    refine ⟨_, rfl, a, C, dx, _, _, rfl, ha1, T.it.cl, T.nT, shF_top _ _, _, rfl, b, C, db, _, _, rfl, e1, T.it.cl, T.nB, shF_bottom _ _, t, n', rfl, rfl, wide_mul l1.tb l2.nb (by decide) (by decide) (by decide), ?_⟩
    refine ⟨_, rfl, b, C, db, _, _, rfl, e1, T.it.cl, T.nT, shF_top _ _, _, rfl, a, C, dx, _, _, rfl, ha1, T.it.cl, T.nB, shF_bottom _ _, t', n, rfl, rfl, wide_mul l2.tb l1.nb (by decide) (by decide) (by decide), ?_⟩
    exact ⟨_, _, rfl, rfl, k _ s1⟩
end
end KJ
set_option Elab.async false
set_option linter.all false
set_option maxRecDepth 100000
set_option maxHeartbeats 4000000
namespace KJ
open PySem L2
theorem Low.one {i : Int} (h : i.natAbs < 2 ^ 4000) : Low i 1 := ⟨by decide, by show Nat.gcd i.natAbs 1 = 1; exact Nat.gcd_one_right _, h, by decide +kernel⟩
/-- the methods for + and - are where they should be -/
structure ArT (P : Program) (w : World) (K : PySem.W.Frag) (mg : Str → Option Value) (base : Heap) (C : Addr) (op : Operator) (sym nm : String) (k k' : Nat) (sp spR : Sp) : Prop where
  ex : ∃ (f g : Addr) (fd gd : FuncData), ArL K C op sym nm f ∧ ArR K C nm g ∧ FnOk P w K mg base CX0 k f fd ["self", "other"] sp ∧ Binds K fd ["self", "other"] [] ∧ FnOk P w K mg base CX0 k' g gd ["self", "other"] spR ∧ Binds K gd ["self", "other"] []
/-- the left method alone -/
structure ArTL (P : Program) (w : World) (K : PySem.W.Frag) (mg : Str → Option Value) (base : Heap) (C : Addr) (op : Operator) (sym nm : String) (k : Nat) (sp : Sp) : Prop where
  ex : ∃ (f g : Addr) (fd : FuncData), ArL K C op sym nm f ∧ ArR K C nm g ∧ FnOk P w K mg base CX0 k f fd ["self", "other"] sp ∧ Binds K fd ["self", "other"] []
theorem ArTL.op {X : Cx} {C : Addr} {op : Operator} {sym nm : String} {k : Nat} {sp : Sp} (c : ArTL X.prog X.w X.K X.mg X.base C op sym nm k sp) (hr : Room k X.A) : OpN X (binaryOp op) (rArL C sp) := by
  obtain ⟨f, g, fd, L, R, F, b⟩ := c.ex
  exact op_arL L R F b hr
theorem ArT.op {X : Cx} {C : Addr} {op : Operator} {sym nm : String} {k k' : Nat} {sp spR : Sp} (c : ArT X.prog X.w X.K X.mg X.base C op sym nm k k' sp spR) (hr : Room k X.A) (hr' : Room k' X.A) : OpN X (binaryOp op) (rAr C sp spR) := by
  obtain ⟨f, g, fd, gd, L, R, F, b, G, b'⟩ := c.ex
  exact op_ar L R F b hr G b' hr'
theorem other_of {C : Addr} {H : Hp} {y : V} {t n : Int} (h : Nm C H y t n) : (∃ i, y = .int i) ∨ ∃ c dy gs, y = .ref c ∧ H c = some (.ins C dy gs) := by
  rcases h with ⟨rfl, _⟩ | ⟨a, dx, rfl, e⟩
  · exact .inl ⟨t, rfl⟩
  · exact .inr ⟨a, dx, _, rfl, e⟩
/-- a new share with the lowest terms of a over b -/
def NewSh (C : Addr) (H : Hp) (Q : VK) (a b : Int) : Prop := ∀ (z dz : Addr) (H' : Hp), Same H H' → H' z = some (.ins C dz (shF (lowT a b) (lowB a b))) → Q (.ref z) H'
def spAdd (C : Addr) : Sp := fun vs H Q _ => ∃ (a dx : Addr) (y : V) (t n t' n' : Int), vs = [.ref a, y] ∧ H a = some (.ins C dx (shF t n)) ∧ Nm C H y t' n' ∧ Low t n ∧ Low t' n' ∧ NewSh C H Q (t * n' + t' * n) (n * n')
def spRadd (C : Addr) : Sp := fun vs H Q _ => ∃ (a dx : Addr) (i t n : Int), vs = [.ref a, .int i] ∧ H a = some (.ins C dx (shF t n)) ∧ Low t n ∧ Low i 1 ∧ NewSh C H Q (t * 1 + i * n) (n * 1)
section
variable {P : Program} {w : World} {K : PySem.W.Frag} {mg : Str → Option Value} {base : Heap} {C B : Addr}
abbrev s_add : Stmt := inClass (top 21) 1
theorem sc_add : FnScope ["self", "other", "beside"] ["self", "other"] (defScope s_add) := ⟨rfl, rfl, rfl, by decide +kernel, rfl, by decide +kernel, by decide +kernel⟩
theorem ok_add {f : Addr} {fd : FuncData} (F : Fun K "__add__" "Share.__add__" s_add f fd) (T : ShT K mg C) (m : MkT P w K mg base C B) (c_is : Cal P w K mg base 2 "is_share" ["thing"] (spIsShare K C)) (c_of : Cal P w K mg base 6 "share_of" ["thing"] (spShareOf C)) :
    FnOk P w K mg base CX0 7 f fd ["self", "other"] (spAdd C) := by
  refine F.ok sc_add (fun vs H Q E h => ?_) (fun cdv A outer s H vs Q E hr h => ?_)
  · obtain ⟨a, dx, y, t, n, t', n', rfl, _⟩ := h
    rfl
  · obtain ⟨a, dx, y, t, n, t', n', rfl, ha, hy, l1, l2, k⟩ := h
    refine ⟨_, (pss_cons (ps_if (pt_not (pt_val (pe_cal c_is (hr.mono (by decide)) rfl (pa_cons (pv 1) pa_nil))))
        pss_never
        pss_nil)
      (pss_cons (ps_set (i := 2) sc_add.nd rfl (Or.inl rfl) (pe_cal c_of hr rfl (pa_cons (pv 1) pa_nil)))
      (pss_one (ps_ret (pe_share2 m (hr.mono (by decide)) rfl (pa_cons (pe_op op_add (pe_op op_mulW (pe_fld (pv 0) rfl) (pe_fld (pv 2) rfl)) (pe_op op_mulW (pe_fld (pv 2) rfl) (pe_fld (pv 0) rfl))) (pa_cons (pe_op op_mulW (pe_fld (pv 0) rfl) (pe_fld (pv 2) rfl)) pa_nil))))))), ?_⟩
    refine ⟨_, rfl, y, rfl, .inl ⟨t', n', hy, _, rfl, iteF ?_⟩⟩
    refine ⟨_, rfl, y, t', n', rfl, hy, fun b db H1 s1 e1 => ?_⟩
    have ha1 := s1 _ _ ha
    refine ⟨_, rfl, a, C, dx, _, _, rfl, ha1, T.it.cl, T.nT, shF_top _ _, _, rfl, b, C, db, _, _, rfl, e1, T.it.cl, T.nB, shF_bottom _ _, t, n', rfl, rfl, wide_mul l1.tb l2.nb (by decide) (by decide) (by decide), ?_⟩
    refine ⟨_, rfl, b, C, db, _, _, rfl, e1, T.it.cl, T.nT, shF_top _ _, _, rfl, a, C, dx, _, _, rfl, ha1, T.it.cl, T.nB, shF_bottom _ _, t', n, rfl, rfl, wide_mul l2.tb l1.nb (by decide) (by decide) (by decide), ?_⟩
    refine ⟨_, _, rfl, rfl, _, rfl, a, C, dx, _, _, rfl, ha1, T.it.cl, T.nB, shF_bottom _ _, _, rfl, b, C, db, _, _, rfl, e1, T.it.cl, T.nB, shF_bottom _ _, n, n', rfl, rfl, wide_mul l1.nb l2.nb (by decide) (by decide) (by decide), ?_⟩
    have p1 := l1.pos
    have p2 := l2.pos
    have pp : 0 < n * n' := Int.mul_pos p1 p2
    refine fun z dz hz hd ne => si_ok hz hd ne (a := t * n' + t' * n) (b := n * n') (by omega) (log_of (mul_lt l1.nb l2.nb) (by decide) (by decide)) fun H' s e => ⟨rfl, ?_⟩
    exact k z dz H' (s1.trans s) e
abbrev s_radd : Stmt := inClass (top 21) 2
theorem sc_radd : FnScope ["self", "other"] ["self", "other"] (defScope s_radd) := ⟨rfl, rfl, rfl, by decide +kernel, rfl, by decide +kernel, by decide +kernel⟩
theorem ok_radd {f : Addr} {fd : FuncData} (F : Fun K "__radd__" "Share.__radd__" s_radd f fd) (c_is_whole : Cal P w K mg base 1 "is_whole" ["thing"] (spWhole K C)) (ad : ArTL P w K mg base C .Add "+" "add" 7 (spAdd C)) :
    FnOk P w K mg base CX0 8 f fd ["self", "other"] (spRadd C) := by
  refine F.ok sc_radd (fun vs H Q E h => ?_) (fun cdv A outer s H vs Q E hr h => ?_)
  · obtain ⟨a, dx, i, t, n, rfl, _⟩ := h
    rfl
  · obtain ⟨a, dx, i, t, n, rfl, ha, l1, l2, k⟩ := h
    have o := (ArTL.op (X := (cxOf CX0 P w K mg base ["self", "other"] "Share.__radd__" (defScope s_radd) f cdv A outer s H E).nox) ad hr).toR
    refine ⟨_, (pss_cons (ps_if (pt_not (pt_val (pe_cal c_is_whole (hr.mono (by decide)) rfl (pa_cons (pv 1) pa_nil))))
        pss_never
        pss_nil)
      (pss_one (ps_ret (pe_op o (pv 0) (pv 1))))), ?_⟩
    refine ⟨_, rfl, .int i, rfl, .fo (.int i), _, rfl, iteF ?_⟩
    exact ⟨_, rfl, _, rfl, a, dx, _, rfl, ha, .inl ⟨i, rfl⟩, a, dx, .int i, t, n, i, 1, rfl, ha, .inl ⟨rfl, rfl⟩, l1, l2, k⟩
end
end KJ
set_option Elab.async false
set_option linter.all false
set_option maxRecDepth 100000
set_option maxHeartbeats 4000000
namespace KJ
open PySem L2
theorem low_cross (S D : Int) : lowT S D * D = S * lowB S D := by
  have h1 := low_mulT S D
  have h2 := low_mulB S D
  calc lowT S D * D = lowT S D * (lowB S D * sg S D) := by rw [h2]
    _ = (lowT S D * sg S D) * lowB S D := by rw [Int.mul_comm (lowB S D), Int.mul_assoc]
    _ = S * lowB S D := by rw [h1]
/-- lowest terms are told by the ratio -/
theorem low_unique {p q p' q' : Int} (hq : 0 < q) (hq' : 0 < q') (g : Nat.gcd p.natAbs q.natAbs = 1) (g' : Nat.gcd p'.natAbs q'.natAbs = 1) (e : p * q' = p' * q) : p = p' ∧ q = q' := by
  have ea : p.natAbs * q'.natAbs = p'.natAbs * q.natAbs := by rw [← Int.natAbs_mul, ← Int.natAbs_mul, e]
  have d1 : q.natAbs ∣ q'.natAbs := by
    have c : Nat.Coprime q.natAbs p.natAbs := by
      show Nat.gcd q.natAbs p.natAbs = 1
      rw [Nat.gcd_comm]
      exact g
    exact c.dvd_of_dvd_mul_left ⟨p'.natAbs, by rw [ea, Nat.mul_comm]⟩
  have d2 : q'.natAbs ∣ q.natAbs := by
    have c : Nat.Coprime q'.natAbs p'.natAbs := by
      show Nat.gcd q'.natAbs p'.natAbs = 1
      rw [Nat.gcd_comm]
      exact g'
    exact c.dvd_of_dvd_mul_left ⟨p.natAbs, by rw [← ea, Nat.mul_comm]⟩
  have eq : q = q' := by
    have := Nat.dvd_antisymm d1 d2
    omega
  subst eq
  exact ⟨Int.eq_of_mul_eq_mul_right (by omega) e, rfl⟩
theorem low_ratio {a b c d : Int} (hb : b ≠ 0) (hd : d ≠ 0) (e : a * d = c * b) : lowT a b = lowT c d ∧ lowB a b = lowB c d := by
  refine low_unique (lowB_pos hb) (lowB_pos hd) (low_gcd hb) (low_gcd hd) ?_
  have h1 := low_cross a b
  have h2 := low_cross c d
  have key : (lowT a b * lowB c d) * (b * d) = (lowT c d * lowB a b) * (b * d) := by
    calc (lowT a b * lowB c d) * (b * d) = (lowT a b * b) * (d * lowB c d) := by ac_rfl
      _ = (a * lowB a b) * (d * lowB c d) := by rw [h1]
      _ = (a * d) * (lowB a b * lowB c d) := by ac_rfl
      _ = (c * b) * (lowB a b * lowB c d) := by rw [e]
      _ = (c * lowB c d) * (lowB a b * b) := by ac_rfl
      _ = (lowT c d * d) * (lowB a b * b) := by rw [← h2]
      _ = (lowT c d * lowB a b) * (b * d) := by ac_rfl
  exact Int.eq_of_mul_eq_mul_right (Int.mul_ne_zero hb hd) key
/-- v is the number S over D -/
def Num (C : Addr) (H : Hp) (v : V) (S D : Int) : Prop := Nm C H v (lowT S D) (lowB S D)
theorem Num.same {C : Addr} {H H' : Hp} {v : V} {S D : Int} (h : Num C H v S D) (s : Same H H') : Num C H' v S D := Nm.same h s
theorem low_of {S D : Int} (hD : 0 < D) (hS : S.natAbs < 2 ^ 4000) (hDb : D.natAbs < 2 ^ 4000) : Low (lowT S D) (lowB S D) :=
  ⟨lowB_pos (by omega), low_gcd (by omega), Nat.lt_of_le_of_lt (lowT_le (by omega)) hS, Nat.lt_of_le_of_lt (lowB_le (by omega)) hDb⟩
theorem low_sum {S S' D : Int} (hD : 0 < D) : lowT (lowT S D * lowB S' D + lowT S' D * lowB S D) (lowB S D * lowB S' D) = lowT (S + S') D ∧ lowB (lowT S D * lowB S' D + lowT S' D * lowB S D) (lowB S D * lowB S' D) = lowB (S + S') D := by
  have p1 := lowB_pos (a := S) (b := D) (by omega)
  have p2 := lowB_pos (a := S') (b := D) (by omega)
  refine low_ratio (Int.mul_ne_zero (by omega) (by omega)) (by omega) ?_
  have h1 := low_cross S D
  have h2 := low_cross S' D
  rw [Int.add_mul, Int.add_mul]
  congr 1
  · calc lowT S D * lowB S' D * D = (lowT S D * D) * lowB S' D := by ac_rfl
      _ = S * (lowB S D * lowB S' D) := by rw [h1]; ac_rfl
  · calc lowT S' D * lowB S D * D = (lowT S' D * D) * lowB S D := by ac_rfl
      _ = S' * (lowB S D * lowB S' D) := by rw [h2]; ac_rfl
theorem low_lt {S S' D : Int} (hD : 0 < D) : (lowT S D * lowB S' D < lowT S' D * lowB S D) ↔ S < S' := by
  have p1 := lowB_pos (a := S) (b := D) (by omega)
  have p2 := lowB_pos (a := S') (b := D) (by omega)
  have h1 := low_cross S D
  have h2 := low_cross S' D
  have e1 : (lowT S D * lowB S' D) * D = S * (lowB S D * lowB S' D) := by
    calc lowT S D * lowB S' D * D = (lowT S D * D) * lowB S' D := by ac_rfl
      _ = S * (lowB S D * lowB S' D) := by rw [h1]; ac_rfl
  have e2 : (lowT S' D * lowB S D) * D = S' * (lowB S D * lowB S' D) := by
    calc lowT S' D * lowB S D * D = (lowT S' D * D) * lowB S D := by ac_rfl
      _ = S' * (lowB S D * lowB S' D) := by rw [h2]; ac_rfl
  have pp : 0 < lowB S D * lowB S' D := Int.mul_pos p1 p2
  constructor
  · intro h
    have := Int.mul_lt_mul_of_pos_right h hD
    rw [e1, e2] at this
    exact Int.lt_of_mul_lt_mul_right this (Int.le_of_lt pp)
  · intro h
    have := Int.mul_lt_mul_of_pos_right h pp
    rw [← e1, ← e2] at this
    exact Int.lt_of_mul_lt_mul_right this (Int.le_of_lt hD)
theorem low_whole {i D : Int} (hD : 0 < D) : lowT (i * D) D = i ∧ lowB (i * D) D = 1 := by
  have h := low_ratio (a := i * D) (b := D) (c := i) (d := 1) (by omega) (by decide) (by rw [Int.mul_one])
  rw [h.1, h.2]
  exact low_int i
theorem Num.int {C : Addr} {H : Hp} {D : Int} (hD : 0 < D) (i : Int) : Num C H (.int i) (i * D) D := by
  unfold Num
  rw [(low_whole hD).1, (low_whole hD).2]
  exact .inl ⟨rfl, rfl⟩
theorem low_one_iff {S D : Int} (hD : 0 < D) : (lowT S D = 1 ∧ lowB S D = 1) ↔ S = D := by
  have h := low_cross S D
  constructor
  · rintro ⟨h1, h2⟩
    rw [h1, h2] at h
    omega
  · rintro rfl
    have := low_whole (i := 1) hD
    rw [Int.one_mul] at this
    exact this
end KJ
set_option Elab.async false
set_option linter.all false
set_option maxRecDepth 100000
set_option maxHeartbeats 4000000
namespace KJ
open PySem L2
theorem sum_bound {B : Nat} : ∀ (l : List Int), (∀ S ∈ l, S.natAbs ≤ B) → l.sum.natAbs ≤ l.length * B
  | [], _ => by simp
  | a :: r, h => by
    have h1 := sum_bound r fun S hS => h S (List.mem_cons_of_mem _ hS)
    have h2 := h a List.mem_cons_self
    rw [List.sum_cons, List.length_cons, Nat.succ_mul]
    have := Int.natAbs_add_le a r.sum
    omega
theorem sum_small {l : List Int} (hl : l.length ≤ 1000) (h : ∀ S ∈ l, S.natAbs < 2 ^ 3000) : l.sum.natAbs < 2 ^ 4000 := by
  have h1 := sum_bound (B := 2 ^ 3000) l fun S hS => Nat.le_of_lt (h S hS)
  have h2 : l.length * 2 ^ 3000 ≤ 1000 * 2 ^ 3000 := Nat.mul_le_mul_right _ hl
  exact Nat.lt_of_le_of_lt (Nat.le_trans h1 h2) (by decide +kernel)
theorem mem_of_at {α : Type} {l : List α} {i : Nat} {x : α} (h : l[i]? = some x) : x ∈ l := List.mem_of_getElem? h
/-- numbers over D -/
def Nums (C : Addr) (D : Int) (H : Hp) (xs : List V) (Ss : List Int) : Prop := xs.length = Ss.length ∧ ∀ (i : Nat) (x : V), xs[i]? = some x → ∃ S : Int, Ss[i]? = some S ∧ Num C H x S D
theorem Nums.same {C : Addr} {D : Int} {H H' : Hp} {xs : List V} {Ss : List Int} (h : Nums C D H xs Ss) (s : Same H H') : Nums C D H' xs Ss := ⟨h.1, fun i x e => let ⟨S, e2, n⟩ := h.2 i x e; ⟨S, e2, n.same s⟩⟩
theorem SqT.same {K : PySem.W.Frag} {H H' : Hp} {a : Addr} {xs : List V} (h : SqT K H a xs) (e : Same H H') : SqT K H' a xs := by
  rcases h with (h | ⟨o, h⟩) | h
  · exact .inl (.inl (e _ _ h))
  · exact .inl (.inr ⟨o, e _ _ h⟩)
  · exact .inr h
abbrev AddT (P : Program) (w : World) (K : PySem.W.Frag) (mg : Str → Option Value) (base : Heap) (C : Addr) : Prop := ArT P w K mg base C .Add "+" "add" 7 8 (spAdd C) (spRadd C)
/-- total(row) -/
def spTotal (K : PySem.W.Frag) (C : Addr) : Sp := fun vs H Q _ => ∃ (l : Addr) (xs : List V) (Ss : List Int) (D : Int), vs = [.ref l] ∧ SqT K H l xs ∧ Nums C D H xs Ss ∧ 0 < D ∧ D.natAbs < 2 ^ 4000 ∧ Ss.length ≤ 1000 ∧ (∀ S ∈ Ss, S.natAbs < 2 ^ 3000) ∧
  ∀ (a dx : Addr) (H' : Hp), Same H H' → H' a = some (.ins C dx (shF (lowT Ss.sum D) (lowB Ss.sum D))) → Q (.ref a) H'
section
variable {P : Program} {w : World} {K : PySem.W.Frag} {mg : Str → Option Value} {base : Heap} {C B : Addr}
abbrev s_total : Stmt := top 25
theorem sc_total : FnScope ["row"] ["row"] (defScope s_total) := ⟨rfl, rfl, rfl, by decide +kernel, rfl, by decide +kernel, by decide +kernel⟩
theorem ok_total {f : Addr} {fd : FuncData} (F : Fun K "total" "total" s_total f fd) (m : MkT P w K mg base C B) (nt : NoTxt K C) (n_sum : mg "sum" = none) (ad : AddT P w K mg base C) : FnOk P w K mg base CX0 10 f fd ["row"] (spTotal K C) := by
  refine F.ok sc_total (fun vs H Q E h => ?_) (fun cdv A outer s H vs Q E hr h => ?_)
  · obtain ⟨l, xs, Ss, D, rfl, _⟩ := h
    rfl
  · obtain ⟨l, xs, Ss, D, rfl, hl, hn, hD, hDb, hlen, hS, k⟩ := h
    have o := ArT.op (X := (cxOf CX0 P w K mg base ["row"] "total" (defScope s_total) f cdv A outer s H E).nox.inn) ad (hr.in1.mono (by decide)) (hr.in1.mono (by decide))
    refine ⟨_, pss_one (ps_ret (pe_callBK (cr_sumO rfl o) rfl n_sum PyProof.Rows.boot_sum (pa_cons (pv 0) pa_nil) (pk_cons (pe_share1 m (hr.mono (by decide)) rfl (pa_cons pe_int pa_nil)) pk_nil))), ?_⟩
    refine ⟨_, rfl, fun z dz hz hd ne => si_ok hz hd ne (a := 0) (b := 1) (by decide) (by decide +kernel) fun H1 s1 e1 => ⟨rfl, ?_⟩⟩
    have e0 : shF (lowT 0 1) (lowB 0 1) = shF (lowT (Ss.take 0).sum D) (lowB (Ss.take 0).sum D) := by
      have h1 := low_whole (i := 0) hD
      have h2 := low_int 0
      rw [Int.zero_mul] at h1
      rw [h2.1, h2.2, List.take_zero, List.sum_nil, h1.1, h1.2]
    rw [e0] at e1
    refine ⟨l, z, C, dz, _, xs, rfl, rfl, e1, nt, fun i acc H' => Same H1 H' ∧ ∃ a dx, acc = .ref a ∧ H' a = some (.ins C dx (shF (lowT (Ss.take i).sum D) (lowB (Ss.take i).sum D))),
      ⟨Same.refl _, z, dz, rfl, e1⟩, fun i acc H' ⟨_, a, _, e, _⟩ => ⟨a, e⟩, fun i acc H' _ ⟨s2, _⟩ => SqT.same hl (s1.trans s2), ?_, ?_⟩
    · rintro i acc x H' hx ⟨s2, a, dx, rfl, ea⟩
      obtain ⟨S, hSi, nx⟩ := (hn.same (s1.trans s2)).2 i x hx
      have hi : i < Ss.length := (List.getElem?_eq_some_iff.mp hSi).1
      have b1 : (Ss.take i).sum.natAbs < 2 ^ 4000 := sum_small (by rw [List.length_take]; omega) fun S hm => hS S (List.mem_of_mem_take hm)
      have b2 : S.natAbs < 2 ^ 4000 := Nat.lt_trans (hS S (mem_of_at hSi)) (by decide +kernel)
      refine .inl ⟨a, dx, _, rfl, ea, other_of nx, a, dx, x, _, _, _, _, rfl, ea, nx, low_of hD b1 hDb, low_of hD b2 hDb, fun z2 dz2 H2 s3 e3 => ?_⟩
      rw [(low_sum hD).1, (low_sum hD).2] at e3
      refine ⟨s2.trans s3, z2, dz2, rfl, ?_⟩
      rw [take_more hSi, List.sum_append, List.sum_cons, List.sum_nil, Int.add_zero]
      exact e3
    · rintro acc H' ⟨s2, a, dx, rfl, ea⟩
      rw [hn.1, List.take_length] at ea
      exact k a dx H' (s1.trans s2) ea
/-- is_from_zero(thing) -/
def spFrom0 (K : PySem.W.Frag) (C : Addr) : Sp := fun vs H Q _ => ∃ x, vs = [x] ∧ ((∃ S D, Num C H x S D ∧ 0 < D ∧ S.natAbs < 2 ^ 4000 ∧ D.natAbs < 2 ^ 4000 ∧ ∀ H', Same H H' → Q (.bl (decide (0 ≤ S))) H') ∨ ∃ T, Fo K H x T ∧ isI x = false ∧ ∀ H', Same H H' → Q (.bl false) H')
/-- the method less -/
structure LsT (P : Program) (w : World) (K : PySem.W.Frag) (mg : Str → Option Value) (base : Heap) (C : Addr) : Prop where
  ex : ∃ (f : Addr) (fd : FuncData), Meth K C "less" f ∧ FnOk P w K mg base CX0 7 f fd ["self", "other"] (spLess C) ∧ Binds K fd ["self", "other"] []
theorem less_none (t n : Int) : (shF t n).lookup ("less" : Str) = none := by
  unfold shF
  rw [lookup_putF, if_neg (by decide +kernel), lookup_putF, if_neg (by decide +kernel)]
  rfl
abbrev s_from0 : Stmt := top 26
theorem sc_from0 : FnScope ["thing"] ["thing"] (defScope s_from0) := ⟨rfl, rfl, rfl, by decide +kernel, rfl, by decide +kernel, by decide +kernel⟩
theorem ok_from0 {f : Addr} {fd : FuncData} (F : Fun K "is_from_zero" "is_from_zero" s_from0 f fd) (T : ShT K mg C) (c_is : Cal P w K mg base 2 "is_share" ["thing"] (spIsShare K C)) (c_of : Cal P w K mg base 6 "share_of" ["thing"] (spShareOf C)) (ls : LsT P w K mg base C) :
    FnOk P w K mg base CX0 8 f fd ["thing"] (spFrom0 K C) := by
  obtain ⟨g, gd, M, G, bG⟩ := ls.ex
  refine F.ok sc_from0 (fun vs H Q E h => ?_) (fun cdv A outer s H vs Q E hr h => ?_)
  · obtain ⟨x, rfl, _⟩ := h
    rfl
  · obtain ⟨x, rfl, h⟩ := h
    refine ⟨_, (pss_one (ps_ret (pe_and (pe_cal c_is (hr.mono (by decide)) rfl (pa_cons (pv 0) pa_nil)) (pe_one (pe_not (pe_meth (pl := _) (pe_cal c_of (hr.mono (by decide)) rfl (pa_cons (pv 0) pa_nil)) T.it.cl M G hr bG .nil pass0 (pa_cons pe_int pa_nil))))))), ?_⟩
    rcases h with ⟨S, D, hx, hD, hS, hDb, k⟩ | ⟨T', fo, ix, k⟩
    · refine ⟨_, rfl, x, rfl, .inl ⟨_, _, hx, _, rfl, iteT ?_⟩⟩
      refine ⟨_, rfl, x, _, _, rfl, hx, fun a dx H1 s1 e1 => ⟨a, dx, _, rfl, e1, less_none _ _, a, dx, .int 0, _, _, 0, 1, rfl, e1, .inl ⟨rfl, rfl⟩, low_of hD hS hDb, Low.one (by decide +kernel), fun H2 s2 => ⟨_, rfl, ?_⟩⟩⟩
      have h := low_lt (S := S) (S' := 0 * D) hD
      rw [(low_whole hD).1, (low_whole hD).2, Int.zero_mul] at h
      have e : (!decide (lowT S D * 1 < 0 * lowB S D)) = decide (0 ≤ S) := by
        rw [Bool.eq_iff_iff]
        simp only [Bool.not_eq_true', decide_eq_false_iff_not, decide_eq_true_eq]
        rw [Int.zero_mul, h]
        omega
      rw [e]
      exact k H2 (s1.trans s2)
    · exact ⟨_, rfl, x, rfl, .inr ⟨T', fo, ix, _, rfl, iteF (k H (Same.refl H))⟩⟩
end
end KJ
set_option Elab.async false
set_option linter.all false
set_option maxRecDepth 100000
set_option maxHeartbeats 4000000
namespace KJ
open PySem L2
/-- a thing that is no tuple -/
inductive NotTup (K : PySem.W.Frag) (C : Addr) (H : Hp) : V → Prop where
  | fo {x : V} {T : String} (h : Fo K H x T) (ne : T ≠ "tuple") : NotTup K C H x
  | ins {a dx : Addr} {fs : List (Str × V)} (e : H a = some (.ins C dx fs)) : NotTup K C H (.ref a)
theorem NotTup.kit {K : PySem.W.Frag} {C : Addr} {H : Hp} {x : V} (I : InsT K C) (tu : PySem.W.kitOne K (.ref C) (.type "tuple") = some false) (h : NotTup K C H x) : ∃ t, TyX K H x t ∧ PySem.W.kitOne K t (.type "tuple") = some false := by
  cases h with
  | ins e => exact ⟨_, I.ty e, tu⟩
  | fo h ne =>
    refine ⟨_, h.ty, ?_⟩
    cases h with
    | non => exact kit_ty (r := false) (by decide +kernel)
    | bl b => exact kit_ty (r := false) (by decide +kernel)
    | int i => exact kit_ty (r := false) (by decide +kernel)
    | str x => exact kit_ty (r := false) (by decide +kernel)
    | lst e => exact kit_ty (r := false) (by decide +kernel)
    | tup e => exact absurd rfl ne
    | dK e => exact kit_ty (r := false) (by decide +kernel)
/-- an item: a number over D, or a thing that is none -/
def Item (K : PySem.W.Frag) (C : Addr) (D : Int) (H : Hp) (x : V) : Option Int → Prop
  | some S => Num C H x S D ∧ S.natAbs < 2 ^ 3000
  | none => ∃ T, Fo K H x T ∧ isI x = false
theorem Item.same {K : PySem.W.Frag} {C : Addr} {D : Int} {H H' : Hp} {x : V} {o : Option Int} (h : Item K C D H x o) (s : Same H H') : Item K C D H' x o := by
  cases o with
  | some S => exact ⟨h.1.same s, h.2⟩
  | none =>
    obtain ⟨T, fo, ix⟩ := h
    exact ⟨T, fo_same fo s, ix⟩
def Items (K : PySem.W.Frag) (C : Addr) (D : Int) (H : Hp) (xs : List V) (os : List (Option Int)) : Prop := xs.length = os.length ∧ ∀ (i : Nat) (x : V), xs[i]? = some x → ∃ o : Option Int, os[i]? = some o ∧ Item K C D H x o
theorem Items.same {K : PySem.W.Frag} {C : Addr} {D : Int} {H H' : Hp} {xs : List V} {os : List (Option Int)} (h : Items K C D H xs os) (s : Same H H') : Items K C D H' xs os := ⟨h.1, fun i x e => let ⟨o, e2, n⟩ := h.2 i x e; ⟨o, e2, n.same s⟩⟩
def from0 : Option Int → Bool
  | some S => decide (0 ≤ S)
  | none => false
/-- a spread over D -/
def sprB (D : Int) (os : List (Option Int)) : Bool := (os.map from0).all id && decide ((os.map (·.getD 0)).sum = D)
theorem Items.nums {K : PySem.W.Frag} {C : Addr} {D : Int} {H : Hp} {xs : List V} {os : List (Option Int)} (h : Items K C D H xs os) (a : (os.map from0).all id = true) : Nums C D H xs (os.map (·.getD 0)) ∧ ∀ S ∈ os.map (·.getD 0), S.natAbs < 2 ^ 3000 := by
  have each : ∀ o ∈ os, ∃ S, o = some S := fun o ho => by
    have := List.all_eq_true.mp a (from0 o) (List.mem_map_of_mem ho)
    cases o with
    | some S => exact ⟨S, rfl⟩
    | none => cases this
  have bound : ∀ (i : Nat) (o : Option Int), os[i]? = some o → ∃ x, xs[i]? = some x := fun i o e => by
    have hi := (List.getElem?_eq_some_iff.mp e).1
    rw [← h.1] at hi
    exact ⟨xs[i], List.getElem?_eq_getElem hi⟩
  refine ⟨⟨by rw [List.length_map]; exact h.1, fun i x e => ?_⟩, fun S hS => ?_⟩
  · obtain ⟨o, e2, n⟩ := h.2 i x e
    obtain ⟨S, rfl⟩ := each o (mem_of_at e2)
    exact ⟨S, by rw [List.getElem?_map, e2]; rfl, n.1⟩
  · obtain ⟨o, ho, rfl⟩ := List.mem_map.mp hS
    obtain ⟨S, rfl⟩ := each o ho
    obtain ⟨i, hi⟩ := List.getElem?_of_mem ho
    obtain ⟨x, hx⟩ := bound i _ hi
    obtain ⟨o2, e2, n⟩ := h.2 i x hx
    rw [hi] at e2
    cases e2
    exact n.2
def spTupOf (K : PySem.W.Frag) (C : Addr) : Sp := fun vs H Q _ => ∃ (many : Int) (x : V), vs = [.int many, x] ∧ ((∃ t xs, x = .ref t ∧ H t = some (.tup xs) ∧ Q (.bl (decide (V.int (xs.length : Int) = V.int many))) H) ∨ (NotTup K C H x ∧ Q (.bl false) H))
def spSpread (K : PySem.W.Frag) (C : Addr) : Sp := fun vs H Q _ => ∃ (many : Int) (x : V), vs = [.int many, x] ∧ ((∃ t xs os D, x = .ref t ∧ H t = some (.tup xs) ∧ Items K C D H xs os ∧ 0 < D ∧ D.natAbs < 2 ^ 4000 ∧ os.length ≤ 1000 ∧
  ∀ H', Same H H' → Q (.bl (decide (V.int (xs.length : Int) = V.int many) && sprB D os)) H') ∨ (NotTup K C H x ∧ ∀ H', Same H H' → Q (.bl false) H'))
section
variable {P : Program} {w : World} {K : PySem.W.Frag} {mg : Str → Option Value} {base : Heap} {C B : Addr}
abbrev s_tupOf : Stmt := top 15
theorem sc_tupOf : FnScope ["many", "thing"] ["many", "thing"] (defScope s_tupOf) := ⟨rfl, rfl, rfl, by decide +kernel, rfl, by decide +kernel, by decide +kernel⟩
theorem ok_tupOf {f : Addr} {fd : FuncData} (F : Fun K "is_tuple_of" "is_tuple_of" s_tupOf f fd) (T : ShT K mg C) (n_tuple : mg "tuple" = none) (tu : PySem.W.kitOne K (.ref C) (.type "tuple") = some false) : FnOk P w K mg base CX0 1 f fd ["many", "thing"] (spTupOf K C) := by
  refine F.ok sc_tupOf (fun vs H Q E h => ?_) (fun cdv A outer s H vs Q E hr h => ?_)
  · obtain ⟨many, x, rfl, _⟩ := h
    rfl
  · obtain ⟨many, x, rfl, h⟩ := h
    refine ⟨_, (pss_one (ps_ret (pe_and (pe_callB call_isi (by rfl) T.bn.n_isinstance (by decide +kernel) (pa_cons (pv 1) (pa_cons (pe_bltn (v := .ty "tuple") rfl n_tuple (by decide +kernel) rfl) pa_nil))) (pe_one (pe_cmpR op_eq (pe_callB call_len_seq (by rfl) T.bn.n_len PySem.boot_len (pa_cons (pv 1) pa_nil)) (pv 0) (nomark _)))))), ?_⟩
    rcases h with ⟨t, xs, rfl, e, k⟩ | ⟨nt, k⟩
    · refine ⟨_, rfl, .ref t, .ty "tuple", _, _, true, rfl, .ty _, (Fo.tup e).ty, kit_ty (r := true) (by decide +kernel), _, rfl, iteT ?_⟩
      exact ⟨_, rfl, t, xs, rfl, .inr (.inl (.inl e)), _, rfl, rfl, k⟩
    · obtain ⟨ty, h1, h2⟩ := nt.kit T.it tu
      exact ⟨_, rfl, x, .ty "tuple", ty, _, false, rfl, .ty _, h1, h2, _, rfl, iteF k⟩
abbrev s_spread : Stmt := top 27
theorem sc_spread : FnScope ["many", "thing", "part"] ["many", "thing"] (defScope s_spread) := ⟨rfl, rfl, rfl, by decide +kernel, rfl, by decide +kernel, by decide +kernel⟩
theorem ok_spread {f : Addr} {fd : FuncData} (F : Fun K "is_spread" "is_spread" s_spread f fd) (n_all : mg "all" = none) (c_tup : Cal P w K mg base 1 "is_tuple_of" ["many", "thing"] (spTupOf K C)) (c_f0 : Cal P w K mg base 8 "is_from_zero" ["thing"] (spFrom0 K C)) (c_total : Cal P w K mg base 10 "total" ["row"] (spTotal K C)) (c_eq : EqT P w K mg base C) :
    FnOk P w K mg base CX0 11 f fd ["many", "thing"] (spSpread K C) := by
  refine F.ok sc_spread (fun vs H Q E h => ?_) (fun cdv A outer s H vs Q E hr h => ?_)
  · obtain ⟨many, x, rfl, _⟩ := h
    rfl
  · obtain ⟨many, x, rfl, h⟩ := h
    obtain ⟨r1, o1, q1⟩ := EqT.op (X := (cxOf CX0 P w K mg base ["many", "thing", "part"] "is_spread" (defScope s_spread) f cdv A outer s H E).nox) is_eq c_eq (hr.mono (by decide))
    refine ⟨_, (pss_cons (ps_if (PW.pt (pw_or (pt_not (pt_val (pe_cal c_tup (hr.mono (by decide)) rfl (pa_cons (pv 0) (pa_cons (pv 1) pa_nil))))) (pw_or1 (pt_not (pt_val (pe_callB (cr_all rfl) (by rfl) n_all PyProof.Rows.boot_all (pa_cons (pe_lc (own := [("part", 2)]) rfl sc_spread.nd (pi_tup (pv 1)) (blkOk_by (N := ["many", "thing", "part"]) (sc := defScope s_spread) (by decide +kernel)) (fun _ _ _ _ _ => (pg_name (i := 2) sc_spread.nd rfl (Or.inl rfl))) (fun _ _ _ _ _ => pts_nil) (fun _ _ _ _ _ => (pe_cal c_f0 (hr.mono (by decide)) rfl (pa_cons (pv 2) pa_nil)))) pa_nil)))))))
        (pss_one (ps_ret pe_bl))
        pss_nil)
      (pss_one (ps_ret (pe_cmpR o1 (pe_cal c_total (hr.mono (by decide)) rfl (pa_cons (pv 1) pa_nil)) pe_int (nomark _))))), ?_⟩
    rcases h with ⟨t, xs, os, D, rfl, e, it, hD, hDb, hlen, k⟩ | ⟨nt, k⟩
    · refine ⟨_, rfl, _, rfl, many, .ref t, rfl, .inl ⟨t, xs, rfl, e, _, rfl, ?_⟩⟩
      cases hb : decide (V.int (xs.length : Int) = V.int many) with
      | false =>
        refine iteT ?_
        have k2 := k H (Same.refl H)
        rw [hb, Bool.false_and] at k2
        exact k2
      | true =>
        refine iteF ⟨_, rfl, t, rfl, ⟨_, SqT.of e⟩, fun L nL => ?_⟩
        refine lc_tup (K := K) (a := t) (xs := xs) (fun i H' => Same H H' ∧ H' L = some (.lst ((os.take i).map fun o => V.bl (from0 o)))) ⟨Same.put nL, upd_same⟩ (fun i H' _ p => SqT.of (p.1 _ _ e)) ?_ ?_
        · rintro i x H' hx ⟨s1, eL⟩
          obtain ⟨o, ho, io⟩ := (it.same s1).2 i x hx
          have hi : i < os.length := (List.getElem?_eq_some_iff.mp ho).1
          refine ⟨rfl, yes_of ?_⟩
          have fin : ∀ H2, Same H' H2 → ∃ acc, H2 L = some (.lst acc) ∧ acc.length < sizeLine ∧ Same H (upd H2 L (.lst (acc ++ [V.bl (from0 o)]))) ∧ (upd H2 L (.lst (acc ++ [V.bl (from0 o)]))) L = some (.lst ((os.take (i + 1)).map fun o => V.bl (from0 o))) := fun H2 s2 => by
            refine ⟨_, s2 _ _ eL, ?_, ?_, ?_⟩
            · rw [List.length_map, List.length_take]
              exact small1000 (by omega)
            · refine fun b u hu => ?_
              rw [upd_ne (ne_of_none hu nL)]
              exact s2 _ _ (s1 _ _ hu)
            · rw [upd_same, take_more ho, List.map_append]
              rfl
          refine ⟨_, rfl, x, rfl, ?_⟩
          cases o with
          | some S => exact .inl ⟨S, D, io.1, hD, Nat.lt_trans io.2 (by decide +kernel), hDb, fin⟩
          | none =>
            obtain ⟨T', fo, ix⟩ := io
            exact .inr ⟨T', fo, ix, fin⟩
        · rintro H1 ⟨s1, eL⟩
          rw [it.1, List.take_length] at eL
          refine ⟨L, os.map from0, rfl, SqL.of (by rw [List.map_map]; exact eL), _, rfl, ?_⟩
          cases ha : (os.map from0).all id with
          | false =>
            refine iteT ?_
            have k2 := k H1 s1
            unfold sprB at k2
            rw [hb, ha, Bool.false_and, Bool.and_false] at k2
            exact k2
          | true =>
            refine iteF ?_
            obtain ⟨nums, small⟩ := (it.same s1).nums ha
            refine ⟨_, rfl, t, xs, os.map (·.getD 0), D, rfl, SqT.of (s1 _ _ e), nums, hD, hDb, by rw [List.length_map]; exact hlen, small, fun a dx H2 s2 e2 => ?_⟩
            obtain ⟨c1, c2⟩ := cmp_fo (K := K) (C := C) (y := .int 1) (b := sprB D os) e2 (.int 1) (by
              unfold sprB
              rw [ha, Bool.true_and, Bool.eq_iff_iff]
              have h := low_one_iff (S := (os.map (·.getD 0)).sum) hD
              simp only [isI, Bool.true_and, Bool.and_eq_true, decide_eq_true_eq, V.int.injEq]
              rw [← h]
              exact And.comm)
            have k2 := k H2 (s1.trans s2)
            rw [hb, Bool.true_and] at k2
            exact q1 _ _ _ _ _ c1 k2
    · refine ⟨_, rfl, _, rfl, many, x, rfl, .inr ⟨nt, _, rfl, iteT (k H (Same.refl H))⟩⟩
end
end KJ
set_option Elab.async false
set_option linter.all false
set_option maxRecDepth 100000
set_option maxHeartbeats 4000000
/-! a dict comprehension whose keys are tuples; x in a tuple of data; a block that is never reached -/
namespace L2
open PySem PySem.Spec PyProof.Rows
end L2
set_option Elab.async false
set_option linter.all false
set_option maxRecDepth 100000
set_option maxHeartbeats 4000000
/-! a sequence that may be a list or a tuple, gone through -/
namespace L2
open PySem PySem.Spec PyProof.Rows
def Sq (H : Hp) (a : Addr) (xs : List V) : Prop := H a = some (.lst xs) ∨ H a = some (.tup xs)
theorem Sq.same {H H' : Hp} {a : Addr} {xs : List V} (h : Sq H a xs) (s : ∀ o, H a = some o → H' a = some o) : Sq H' a xs := h.elim (fun e => .inl (s _ e)) fun e => .inr (s _ e)
end L2
set_option Elab.async false
set_option linter.all false
set_option maxRecDepth 100000
set_option maxHeartbeats 4000000
/-! sum(t), t a tuple of ints; t * k, k from 1 on -/
namespace L2
open PySem PySem.Spec PyProof.Rows
theorem preSum_take (ns : List Int) : ∀ n, preSum (fun j => ns.getD j 0) n = (ns.take n).sum
  | 0 => by simp [preSum]
  | n + 1 => by
    rw [preSum, preSum_take ns n]
    rcases Nat.lt_or_ge n ns.length with h | h
    · rw [List.take_succ_eq_append_getElem h, List.sum_append, List.sum_cons, List.sum_nil, Int.add_zero]
      simp [h]
    · rw [List.take_of_length_le h, List.take_of_length_le (by omega)]
      simp [List.getD, List.getElem?_eq_none h]
theorem intsAre_at {its : List Value} {ns : List Int} (h : IntsAre its ns) : ∀ (i : Nat) (v : Value), its[i]? = some v → ∃ t, v = .int (ns.getD i 0) t := by
  induction h with
  | nil => intro i v e; simp at e
  | cons n t h ih =>
    intro i v e
    cases i with
    | zero =>
      have e2 : Value.int n t = v := Option.some.inj e
      exact ⟨t, e2.symm⟩
    | succ i => exact ih i v e
section
variable {prog : Program} {w : World} {A : Around} {E : Value → Shared → Prop} {s : Shared} {l : Addr} {its : List Value} {ns : List Int} {Q : Value → Shared → Prop}
theorem sum_rawT (hh : A.in1.handled = none) (hl : s.heap.IsTuple l its.toArray) (hi : IntsAre its ns)
    (h : ∀ h' tk t', (∀ b o, s.heap.get? b = some o → h'.get? b = some o) → Q (.int ns.sum t') { s with heap := h', toks := tk }) : wpAny (model prog w) A (call (.builtin "sum") [.ref l]) Q E s := by
  refine call_sum_walkAnyS (PySem.W.iter_tupleW (A := A.in1) hh hl fun s₂ e W st fp _ _ => ⟨_, _, _, _, _, _, _, fun j => ns.getD j 0, rfl, W, st, fp, fun i v hv => ?_, fun s' t' hm => ?_⟩)
  · exact intsAre_at hi i v (by simpa using hv)
  · obtain ⟨h', tk, rfl, old⟩ := PySem.W.moved_old e rfl hm
    have hlen : its.toArray.size = ns.length := by rw [List.size_toArray]; exact hi.length
    rw [preSum_take, hlen, List.take_length]
    exact h h' tk t' old
end
section
variable {X : Cx}
def rSumT (K : PySem.W.Frag) : List V → Hp → VK → Prop := fun vs H Q => ∃ (a : Addr) (ns : List Int), vs = [V.ref a] ∧ SqT K H a (ns.map V.int) ∧ Q (.int ns.sum) H
theorem cr_sumT (hc : X.calm = true) : CallR X (.builtin "sum") (rSumT X.K) := by
  intro pins s σ H vs us Q I r h
  obtain ⟨a, ns, rfl, hs, q⟩ := h
  obtain ⟨its, rv, hl, _⟩ := I.tuple hs
  rw [Vals.ref1 r]
  exact sum_rawT (I.ok.hd hc) hl rv.ints fun h' tk t' hk => ⟨.int _, H, I.kept hk, ⟨_, rfl⟩, q⟩
end
end L2
set_option Elab.async false
set_option linter.all false
set_option maxRecDepth 100000
set_option maxHeartbeats 4000000
/-! t * k, t a tuple that is not empty, k from 1 on: for k = 1 it is t itself -/
namespace L2
open PySem PySem.Spec PyProof.Rows
theorem tuple_mul1 (l : Addr) (items : Array Value) (n : Nat) (dd : Option Addr) (sl : Array (Option Value)) (u : Tok) :
    Meets (Builtin.«tuple.__mul__» ⟨[.ref l, .int 1 u], []⟩) (fun _ R s => s.heap.get? l = some { cls := .type "tuple", dict := dd, data := .seq items n, slots := sl } ∧ R (.ok (.ret (Value.ref l))) s) :=
  .of_wp fun prog w A R s h => by
    obtain ⟨hp, g, d, tk, os⟩ := s
    obtain ⟨hl, h⟩ := h
    have f1 := AutoSeq1.idx_int
    have c1 : (items.isEmpty || (1 : Int) == 1) = true := by rw [show ((1 : Int) == 1) = true from rfl, Bool.or_true]
    wp_walk using wpAny_loadPart' hl
    repeat (first
      | (refine wpAny_ite_false (decide_eq_false (by decide)) ?_; wp_walk using wpAny_loadPart' hl)
      | (refine wpAny_ite_true (decide_eq_true (by rw [c1])) ?_; wp_walk using wpAny_loadPart' hl))
    exact ⟨_, rfl, h⟩
def rRepT1 (K : PySem.W.Frag) : R2 := fun x y H Q => ∃ l xs, x = .ref l ∧ y = .int 1 ∧ SqT K H l xs ∧ Q (.ref l) H
section
variable {X : Cx}
theorem op_repT1 : OpR X (binaryOp .Mult) (rRepT1 X.K) := by
  intro pins s σ H x y v u Q I rx ry h
  obtain ⟨l, xs, rfl, rfl, hT, q⟩ := h
  cases rx
  obtain ⟨t, rfl⟩ := ry
  obtain ⟨its, r, ⟨⟨cls, dd, data, sl⟩, ho, hc, n, hd⟩, hs⟩ := I.tuple hT
  simp only at hc hd
  subst hc hd
  refine wpAny_binaryOp_repeat_ref (T := "tuple") (U := "int") (by decide) ⟨_, ho, rfl⟩ (fun s' => typeIs_int s' 1 t) noFill_tuple_mul F.fills_int_mul F.slot_int_rmul repeat_tuple F.slot_int_index.lookup
    (call_meets F.slot_int_rmul (typeIs_int s 1 t) F.entry_int_rmul (F.args_int_rmul_2 _ _) (int_rmul_tuple 1 t l its.toArray n dd sl)
      ⟨ho, rfl, ⟨_, ho, rfl⟩, call_meets F.slot_tuple_mul ⟨_, ho, rfl⟩ F.entry_tuple_mul (F.args_tuple_mul_2 _ _) (tuple_mul1 l its.toArray n dd sl t) ⟨ho, ?_⟩⟩)
  exact ⟨.ref l, H, I, rfl, q⟩
end
end L2
set_option Elab.async false
set_option linter.all false
set_option maxRecDepth 100000
set_option maxHeartbeats 4000000
namespace L2
open PySem PySem.Spec PyProof.Rows
section
variable {X : Cx}
theorem op_orR {f : Value → Value → Sem Value} {r1 r2 : R2} (h1 : OpR X f r1) (h2 : OpR X f r2) : OpR X f (fun x y H Q => r1 x y H Q ∨ r2 x y H Q) :=
  fun ps s σ H x y v u Q I rx ry h => h.elim (h1 ps s σ H x y v u Q I rx ry) (h2 ps s σ H x y v u Q I rx ry)
end
end L2
namespace KJ
open PySem L2
/-! ### what all of the texts want -/
theorem iteTe {c : Bool} {A D : Prop} (e : c = true) (h : A) : if c = true then A else D := by
  rw [if_pos e]
  exact h
abbrev rfs {α : Type} (ts : List (Addr × α)) : List V := ts.map fun t => V.ref t.1
theorem rfs_snoc {α : Type} {ts : List (Addr × α)} {t : Addr × α} : rfs (ts ++ [t]) = rfs ts ++ [V.ref t.1] := by rw [rfs, List.map_append]; rfl
theorem rfs_len {α : Type} {ts : List (Addr × α)} : (rfs ts).length = ts.length := List.length_map _
theorem rfs_at {α : Type} {ts : List (Addr × α)} {i : Nat} {x : V} (h : (rfs ts)[i]? = some x) : ∃ t, ts[i]? = some t ∧ t ∈ ts ∧ x = .ref t.1 := by
  rw [rfs, List.getElem?_map] at h
  cases e : ts[i]? with
  | none => rw [e] at h; cases h
  | some t => rw [e] at h; exact ⟨t, rfl, List.mem_of_getElem? e, (Option.some.inj h).symm⟩
theorem Same.but {H H' : Hp} {D : Addr} {o : HO} (h : ∀ b u, H b = some u → H' b = some u) (n : H D = none) : ∀ b u, H b = some u → (upd H' D o) b = some u := fun b u e => by
  rw [upd_ne (ne_of_none e n)]
  exact h b u e
/-- the same, beside the pool -/
theorem Keep.but {a D : Addr} {H H' : Hp} {o : HO} (h : Keep a H H') (n : H D = none) : Keep a H (upd H' D o) := fun b u e ne => by
  rw [upd_ne (ne_of_none e n)]
  exact h b u e ne
theorem new_ne {H : Hp} {a t : Addr} (h : PoolAt H a) (n : H t = none) : t ≠ a := fun z => by
  obtain ⟨o, e, _⟩ := h
  rw [z, e] at n
  cases n
theorem PoolAt.other {H : Hp} {a D : Addr} {u : HO} (h : PoolAt H a) (ne : a ≠ D) : PoolAt (upd H D u) a := by
  obtain ⟨o, e, q⟩ := h
  exact ⟨o, by rw [upd_ne ne]; exact e, q⟩
theorem PoolAt.neR {α : Type} {H : Hp} {a b : Addr} {ts : List (Addr × α)} (h : PoolAt H a) (e : H b = some (.lst (rfs ts))) : b ≠ a := fun z => by
  obtain ⟨u, e2, n, g, q, _⟩ := h
  rw [z, e2, q] at e
  cases ts with
  | nil => cases e
  | cons t ts => cases e
theorem pool_ne {H : Hp} {a b : Addr} {o : HO} (h : PoolAt H a) (e : H b = some o) (no : ∀ xs, o ≠ .lst xs) : b ≠ a := fun z => by
  obtain ⟨u, e2, n, g, q, _⟩ := h
  rw [z, e2, q] at e
  exact no _ (Option.some.inj e).symm
abbrev cV (l : List Nat) : List V := l.map fun k : Nat => V.int (k : Int)
theorem cV_at {l : List Nat} {i : Nat} {x : Nat} (h : l[i]? = some x) : (cV l)[i]? = some (V.int (x : Int)) := by rw [List.getElem?_map, h]; rfl
theorem cV_of {l : List Nat} {i : Nat} {x : V} (h : (cV l)[i]? = some x) : ∃ k, l[i]? = some k ∧ x = V.int (k : Int) := by
  rw [List.getElem?_map] at h
  cases e : l[i]? with
  | none => rw [e] at h; cases h
  | some k => rw [e] at h; exact ⟨k, rfl, (Option.some.inj h).symm⟩
theorem cV_set (l : List Nat) (i x : Nat) : (cV l).set i (V.int (x : Int)) = cV (l.set i x) := by
  rw [cV, cV, List.map_set]
theorem cV_ints (l : List Nat) : cV l = (l.map fun k : Nat => (k : Int)).map V.int := by rw [List.map_map]; rfl
theorem sum_ints : ∀ l : List Nat, (l.map fun k : Nat => (k : Int)).sum = ((l.sum : Nat) : Int)
  | [] => rfl
  | a :: l => by
    rw [List.map_cons, List.sum_cons, List.sum_cons, sum_ints l]
    omega
theorem small_len {n : Nat} (h : n ≤ 1000) : n < sizeLine := small1000 h
theorem nsm {n : Nat} (h : n ≤ 1000) : ((n : Int)).natAbs.log2 < 9000 := log_small (b := 10) (by show ((n : Int)).natAbs < 2 ^ 10; omega) (by decide) (by decide)
theorem nat_of {r : Int} (h : 0 ≤ r) : ∃ j : Nat, r = (j : Int) := ⟨r.toNat, by omega⟩
/-- a draw, at what stands -/
theorem drawn {a : Addr} {H0 H : Hp} {o : HO} (hp : PoolAt H a) (k : Keep a H0 H) (ho : PoolL o) : PoolAt (upd H a o) a ∧ Keep a H0 (upd H a o) := ⟨.put ho, k.trans (Keep.put o)⟩
/-- one of the things -/
def spPickQ : Sp := fun vs H Q _ => ∃ (a l : Addr) (xs : List V), vs = [.ref a, .ref l] ∧ PoolAt H a ∧ Sq H l xs ∧ l ≠ a ∧ 0 < xs.length ∧ xs.length ≤ 200 ∧ ∀ (x : V) (o : HO), x ∈ xs → PoolL o → Q x (upd H a o)
section
variable {P : Program} {w : World} {K : PySem.W.Frag} {mg : Str → Option Value} {base : Heap} {C : Addr}
theorem ok_pickQ {f : Addr} {fd : FuncData} (F : Fun K "_law_pick" "_law_pick" s_pick f fd) (T : Bn mg) (c_draw : Cal P w K mg base 1 "_law_draw" ["_law_pool_here", "_law_many"] spDraw) : FnOk P w K mg base CX0 2 f fd ["_law_pool_here", "_law_things"] spPickQ := by
  refine F.ok sc_pick (fun vs H Q E h => ?_) (fun cdv A outer s H vs Q E hr h => ?_)
  · obtain ⟨a, l, xs, rfl, _⟩ := h
    rfl
  · obtain ⟨a, l, xs, rfl, hp, hl, ne, h0, h1, k⟩ := h
    refine ⟨_, (pss_one (ps_ret (pe_ix (show IxR _ (rIx K) from ix_seq) (pv 1) (pe_cal c_draw (hr.mono (by decide)) rfl (pa_cons (pv 0) (pa_cons (pe_callB call_len_seq (by rfl) T.n_len PySem.boot_len (pa_cons (pv 1) pa_nil)) pa_nil))) (fun _ _ => rfl)))), ?_⟩
    refine ⟨_, rfl, _, rfl, _, rfl, l, xs, rfl, hl.elim (fun e => .inl (SqL.of e)) (fun e => .inr (SqT.of e)), a, _, rfl, hp, by omega, nsm (by omega), fun r o r0 r1 ho => ?_⟩
    obtain ⟨j, rfl⟩ := nat_of r0
    have hj : j < xs.length := by omega
    have gj : xs[j]? = some xs[j] := List.getElem?_eq_getElem hj
    have hl2 : Sq (upd H a o) l xs := hl.elim (fun e => .inl (by rw [upd_ne ne]; exact e)) fun e => .inr (by rw [upd_ne ne]; exact e)
    rcases hl2 with e | e
    · exact .inl ⟨l, _, _, _, rfl, rfl, SqL.of e, atI_nat gj, k _ o (List.mem_of_getElem? gj) ho⟩
    · exact .inr (.inl ⟨l, _, _, _, rfl, rfl, SqT.of e, atI_nat gj, k _ o (List.mem_of_getElem? gj) ho⟩)
end
/-! ### rows, as lists of tops -/
def Tps (n : Nat) (ws : List Nat) : Prop := ws.length = n ∧ 0 < ws.sum ∧ ∀ w ∈ ws, w < 2 ^ 40
def TpsAt (n : Nat) (H : Hp) (r : Addr × List Nat) : Prop := H r.1 = some (.tup (cV r.2)) ∧ Tps n r.2
def Rws (n : Nat) (H : Hp) (rs : List (Addr × List Nat)) : Prop := ∀ r ∈ rs, TpsAt n H r
theorem Rws.same {n : Nat} {H H' : Hp} {rs : List (Addr × List Nat)} (h : Rws n H rs) (s : Same H H') : Rws n H' rs := fun r m => ⟨s _ _ (h r m).1, (h r m).2⟩
theorem Rws.keep {n : Nat} {a : Addr} {H H' : Hp} {rs : List (Addr × List Nat)} (h : Rws n H rs) (k : Keep a H H') (hp : PoolAt H a) : Rws n H' rs := fun r m => ⟨k _ _ (h r m).1 (hp.ne (h r m).1), (h r m).2⟩
theorem Rws.lstU {n : Nat} {H : Hp} {D : Addr} {ys : List V} {rs : List (Addr × List Nat)} {o : HO} (h : Rws n H rs) (e : H D = some (.lst ys)) : Rws n (upd H D o) rs := fun r m => by
  have q := (h r m).1
  exact ⟨by rw [upd_ne (fun z => by rw [z, e] at q; cases q)]; exact q, (h r m).2⟩
theorem Rws.snoc {n : Nat} {H : Hp} {rs : List (Addr × List Nat)} {r : Addr × List Nat} (h : Rws n H rs) (e : TpsAt n H r) : Rws n H (rs ++ [r]) := fun u m => by
  rcases List.mem_append.mp m with m | m
  · exact h u m
  · rw [List.mem_singleton.mp m]; exact e
theorem Rws.nil {n : Nat} {H : Hp} : Rws n H [] := fun _ m => by cases m
/-- a tuple of tops -/
def spTops : Sp := fun vs H Q _ => ∃ (a : Addr) (n : Nat), vs = [.ref a, .int (n : Int)] ∧ PoolAt H a ∧ 1 ≤ n ∧ n ≤ 8 ∧ ∀ (t : Addr) (ws : List Nat) (H' : Hp), Keep a H H' → PoolAt H' a → H' t = some (.tup (cV ws)) → Tps n ws → Q (.ref t) H'
/-- a list of them -/
def spRowsG : Sp := fun vs H Q _ => ∃ (a : Addr) (n : Nat), vs = [.ref a, .int (n : Int)] ∧ PoolAt H a ∧ 1 ≤ n ∧ n ≤ 8 ∧
  ∀ (l : Addr) (rs : List (Addr × List Nat)) (H' : Hp), Keep a H H' → PoolAt H' a → H' l = some (.lst (rfs rs)) → Rws n H' rs → rs.length = n → Q (.ref l) H'
theorem sum_pos_of {ws : List Nat} {i x : Nat} (h : ws[i]? = some x) (p : 0 < x) : 0 < ws.sum := by
  have h1 : x ∈ ws := List.mem_of_getElem? h
  induction ws generalizing i with
  | nil => cases h1
  | cons y ws ih =>
    rw [List.sum_cons]
    rcases List.mem_cons.mp h1 with rfl | h1
    · omega
    · obtain ⟨j, hj⟩ := List.mem_iff_getElem?.mp h1
      have := ih hj h1
      omega
theorem ex_pos {ws : List Nat} (h : 0 < ws.sum) : ∃ (i : Nat) (x : Nat), ws[i]? = some x ∧ 0 < x := by
  induction ws with
  | nil => simp at h
  | cons y ws ih =>
    by_cases hy : 0 < y
    · exact ⟨0, y, rfl, hy⟩
    · rw [List.sum_cons] at h
      obtain ⟨i, x, hx, p⟩ := ih (by omega)
      exact ⟨i + 1, x, hx, p⟩
end KJ
set_option Elab.async false
set_option linter.all false
set_option maxRecDepth 100000
set_option maxHeartbeats 4000000
namespace KJ
open PySem L2
/-- more built-in names that stand as they are -/
structure Bm (mg : Str → Option Value) : Prop where
  b : Bn mg
  n_list : mg "list" = none
  n_tuple : mg "tuple" = none
  n_range : mg "range" = none
  n_sum : mg "sum" = none
  n_min : mg "min" = none
  n_max : mg "max" = none
  n_all : mg "all" = none
theorem cV_snoc (ws : List Nat) (x : Nat) : cV ws ++ [V.int (x : Int)] = cV (ws ++ [x]) := by rw [cV, cV, List.map_append]; rfl
section
variable {P : Program} {w : World} {K : PySem.W.Frag} {mg : Str → Option Value} {base : Heap} {C : Addr}
abbrev s_tops : Stmt := top 44
abbrev nTo : List Str := ["_law_pool_here", "_law_size_here", "_law_tops_here", "_law_k", "_law_top"]
theorem sc_tops : FnScope nTo ["_law_pool_here", "_law_size_here"] (defScope s_tops) := ⟨rfl, rfl, rfl, by decide +kernel, rfl, by decide +kernel, by decide +kernel⟩
abbrev XT (P : Program) (w : World) (K : PySem.W.Frag) (mg : Str → Option Value) (base : Heap) (f : Addr) (cdv : Value) (A : Around) (outer : List Env) (s : Shared) (H : Hp) (E : XK) : Cx :=
  (cxOf CX0 P w K mg base nTo "_law_tops" (defScope s_tops) f cdv A outer s H E).nox
/-- perhaps greater ones; told as a tuple -/
theorem segT2 {f : Addr} {cdv : Value} {A : Around} {outer : List Env} {s : Shared} {H : Hp} {E : XK} {Q : VK} (T : Bm mg) (c_draw : Cal P w K mg base 1 "_law_draw" ["_law_pool_here", "_law_many"] spDraw) (hr : Room 1 (XT P w K mg base f cdv A outer s H E).A) :
    ∃ u, PSs (XT P w K mg base f cdv A outer s H E) ((defBody s_tops).drop 2) u ∧ ∀ (a l : Addr) (n : Nat) (ws : List Nat) (G : Hp), PoolAt G a → l ≠ a → G l = some (.lst (cV ws)) → ws.length = n → n ≤ 8 → 0 < ws.sum → (∀ x ∈ ws, x ≤ 3) →
      (∀ (t : Addr) (ws : List Nat) (H' : Hp), Keep a G H' → PoolAt H' a → H' t = some (.tup (cV ws)) → Tps n ws → Q (.ref t) H') →
      u { nx := fun _ H' => Q .non H', rt := Q } [some (.ref a), some (.int (n : Int)), some (.ref l), none, none] G := by
  refine ⟨_, (pss_cons (ps_if (pt_cmpR op_eq (pe_cal c_draw (hr.mono (by decide)) rfl (pa_cons (pv 0) (pa_cons pe_int pa_nil))) pe_int (nomark _))
      (pss_one (ps_setLc (i := 2) (own := [("_law_top", 4)]) rfl sc_tops.nd rfl rfl (sw_true rfl rfl rfl (by decide +kernel)) (pi_list (pv 2)) (blkOk_by (N := nTo) (sc := defScope s_tops) (by decide +kernel)) (fun _ _ _ _ _ => (pg_name (i := 4) sc_tops.nd rfl (Or.inl rfl))) (fun _ _ _ _ _ => pts_nil) (fun _ _ _ _ _ => (pe_op op_mul (pv 4) (pe_op op_add (pe_op op_pow pe_int pe_int) (pe_cal c_draw (hr.mono (by decide)) rfl (pa_cons (pv 0) (pa_cons (pe_op op_pow pe_int pe_int) pa_nil))))))))
      pss_nil)
    (pss_one (ps_ret (pe_callTy call_tuple_of (by rfl) T.n_tuple (by decide +kernel) (pa_cons (pv 2) pa_nil))))), ?_⟩
  intro a l n ws G hp la el len n8 pos small k
  have fin : ∀ (l : Addr) (ws : List Nat) (G2 : Hp) (c : Addr), Keep a G G2 → PoolAt G2 a → G2 c = none → Tps n ws → Q (.ref c) (upd G2 c (.tup (cV ws))) := fun l ws G2 c kG hpG nc tp =>
    k c ws _ (kG.trans (Keep.of (Same.put nc))) (hpG.same (Same.put nc)) upd_same tp
  refine ⟨_, rfl, a, 40, rfl, hp, by decide, by decide, fun y o y0 y1 ho => ?_⟩
  obtain ⟨p1, k1⟩ := drawn hp (Keep.refl a G) ho
  have el1 := k1 _ _ el la
  generalize (upd G a o) = G1 at p1 k1 el1 ⊢
  refine ⟨rfl, _, rfl, ite2 (fun _ => ?_) (fun _ => ?_)⟩
  · refine ⟨_, rfl, l, rfl, ⟨_, SqL.of el1⟩, fun D nD => ?_⟩
    have Da := new_ne p1 nD
    refine lc_list (K := K) (a := l) (xs := cV ws) (fun i H' => Keep a G1 H' ∧ PoolAt H' a ∧ ∃ us : List Nat, H' D = some (.lst (cV us)) ∧ us.length = i ∧ (∀ x ∈ us, x < 2 ^ 40) ∧ ∀ (j : Nat) (x : Nat), ws[j]? = some x → j < i → 0 < x → ∃ z, us[j]? = some z ∧ 0 < z) ⟨Keep.of (Same.put nD), p1.new nD, [], upd_same, rfl, fun _ m => (by cases m), fun _ _ _ h => absurd h (Nat.not_lt_zero _)⟩ (fun i H' _ h => SqL.of (h.1 _ _ el1 la)) ?_ ?_
    · rintro i x' H' hx' ⟨k2, p2, us, eD, lu, su, pu⟩
      obtain ⟨x, hx, rfl⟩ := cV_of hx'
      have sx := small x (List.mem_of_getElem? hx)
      have il := (List.getElem?_eq_some_iff.mp hx).1
      refine ⟨rfl, yes_of ?_⟩
      refine ⟨_, rfl, 10, 7, rfl, rfl, ⟨by decide, by decide, by decide⟩, _, rfl, 10, 7, rfl, rfl, ⟨by decide, by decide, by decide⟩, a, _, rfl, p2, by decide +kernel, by decide +kernel, fun r o2 r0 r1 ho2 => ?_⟩
      obtain ⟨p3, k3⟩ := drawn p2 k2 ho2
      have eD3 : (upd H' a o2) D = some (.lst (cV us)) := by rw [upd_ne Da]; exact eD
      generalize (upd H' a o2) = H3 at p3 k3 eD3 ⊢
      obtain ⟨r, rfl⟩ := nat_of r0
      have e7 : ((10 : Int) ^ (7 : Int).toNat) = 10000000 := by decide +kernel
      rw [e7] at r1
      refine ⟨(10 : Int) ^ (7 : Int).toNat, (r : Int), rfl, rfl, (x : Int), _, rfl, rfl, .inl ⟨by omega, by omega⟩, ?_⟩
      have e : ((x : Int) * ((10 : Int) ^ (7 : Int).toNat + (r : Int))) = ((x * (10000000 + r) : Nat) : Int) := by rw [e7, Int.natCast_mul, Int.natCast_add]; rfl
      refine ⟨_, eD3, by rw [List.length_map]; exact small_len (by omega), k3.but nD, p3.other (Ne.symm Da), us ++ [x * (10000000 + r)], ?_, ?_, ?_, ?_⟩
      · rw [upd_same]
        show some (HO.lst (cV us ++ [V.int ((x : Int) * ((10 : Int) ^ (7 : Int).toNat + (r : Int)))])) = _
        rw [e, cV_snoc]
      · rw [List.length_append, lu]
        rfl
      · intro z hz
        rcases List.mem_append.mp hz with hz | hz
        · exact su z hz
        · rw [List.mem_singleton.mp hz]
          have : x * (10000000 + r) ≤ 3 * 20000000 := Nat.mul_le_mul sx (by omega)
          omega
      · intro j y hy hj py
        rcases Nat.lt_or_ge j i with h | h
        · obtain ⟨z, hz, pz⟩ := pu j y hy h py
          exact ⟨z, by rw [List.getElem?_append_left (by omega)]; exact hz, pz⟩
        · have : j = i := by omega
          subst this
          rw [hx] at hy
          cases hy
          exact ⟨x * (10000000 + r), by rw [List.getElem?_append_right (by omega), lu, Nat.sub_self]; rfl, Nat.mul_pos py (by omega)⟩
    · rintro H' ⟨k2, p2, us, eD, lu, su, pu⟩
      rw [List.length_map] at lu pu
      obtain ⟨j, y, hy, py⟩ := ex_pos pos
      obtain ⟨z, hz, pz⟩ := pu j y hy (List.getElem?_eq_some_iff.mp hy).1 py
      refine ⟨_, rfl, D, _, rfl, .inl ⟨SqL.of eD, fun c nc => ?_⟩⟩
      exact fin D us H' c (k1.trans k2) p2 nc ⟨by omega, sum_pos_of hz pz, su⟩
  · refine ⟨_, rfl, l, _, rfl, .inl ⟨SqL.of el1, fun c nc => ?_⟩⟩
    exact fin l ws G1 c k1 p1 nc ⟨len, pos, fun x m => Nat.lt_of_le_of_lt (small x m) (by decide)⟩
theorem ok_tops {f : Addr} {fd : FuncData} (F : Fun K "_law_tops" "_law_tops" s_tops f fd) (T : Bm mg) (c_draw : Cal P w K mg base 1 "_law_draw" ["_law_pool_here", "_law_many"] spDraw) : FnOk P w K mg base CX0 2 f fd ["_law_pool_here", "_law_size_here"] spTops := by
  refine F.ok sc_tops (fun vs H Q E h => ?_) (fun cdv A outer s H vs Q E hr h => ?_)
  · obtain ⟨a, n, rfl, _⟩ := h
    rfl
  · obtain ⟨a, n, rfl, hp, n1, n8, k⟩ := h
    obtain ⟨u, hu, qu⟩ := segT2 (f := f) (cdv := cdv) (A := A) (outer := outer) (s := s) (H := H) (E := E) (Q := Q) T c_draw (hr.mono (by decide))
    refine ⟨_, (pss_cons (ps_setLc (i := 2) (own := [("_law_k", 3)]) rfl sc_tops.nd rfl rfl (sw_true rfl rfl rfl (by decide +kernel)) (pi_range1 (by rfl) T.n_range (pa_cons (pv 1) pa_nil)) (blkOk_by (N := nTo) (sc := defScope s_tops) (by decide +kernel)) (fun _ _ _ _ _ => (pg_name (i := 3) sc_tops.nd rfl (Or.inl rfl))) (fun _ _ _ _ _ => pts_nil) (fun _ _ _ _ _ => (pe_ix (show IxR _ (rIxT K) from ix_tup) (pe_tup (pa_cons pe_int (pa_cons pe_int (pa_cons pe_int (pa_cons pe_int (pa_cons pe_int (pa_cons pe_int (pa_cons pe_int pa_nil)))))))) (pe_cal c_draw (hr.mono (by decide)) rfl (pa_cons (pv 0) (pa_cons pe_int pa_nil))) (fun _ _ => rfl))))
      (pss_cons (ps_if (pt_cmpR op_eq (pe_callB (cr_sum rfl) (by rfl) T.n_sum PyProof.Rows.boot_sum (pa_cons (pv 2) pa_nil)) pe_int (nomark _))
        (pss_one (ps_asg pe_int (pg_sub (pv 2) (pe_cal c_draw (hr.mono (by decide)) rfl (pa_cons (pv 0) (pa_cons (pv 1) pa_nil))) set_list)))
        pss_nil) hu)), ?_⟩
    refine ⟨_, rfl, _, rfl, by omega, by omega, fun D nD => ?_⟩
    rw [Int.toNat_natCast]
    have Da := new_ne hp nD
    refine lc_range (fun i H' => Keep a H H' ∧ PoolAt H' a ∧ ∃ ws : List Nat, H' D = some (.lst (cV ws)) ∧ ws.length = i ∧ ∀ x ∈ ws, x ≤ 3) ⟨Keep.of (Same.put nD), hp.new nD, [], upd_same, rfl, fun _ m => (by cases m)⟩ ?_ ?_
    · rintro i H' hi ⟨k1, p1, ws, eD, lw, sw⟩
      refine ⟨rfl, yes_of ?_⟩
      refine ⟨by show 7 ≤ sizeLine; decide, fun t nt => ?_⟩
      have s2 := Same.put (o := .tup (cV [0, 0, 0, 1, 1, 2, 3])) nt
      have e2 : (upd H' t (.tup (cV [0, 0, 0, 1, 1, 2, 3]))) t = some (.tup (cV [0, 0, 0, 1, 1, 2, 3])) := upd_same
      have p2 := p1.same s2
      have k2 := k1.trans (Keep.of s2)
      have eD2 := s2 _ _ eD
      show tCall spDraw [] E0 _ _ (upd H' t (.tup (cV [0, 0, 0, 1, 1, 2, 3]))) _
      generalize (upd H' t (.tup (cV [0, 0, 0, 1, 1, 2, 3]))) = H2 at e2 p2 k2 eD2 ⊢
      refine ⟨_, rfl, a, 7, rfl, p2, by decide, by decide, fun r o r0 r1 ho => ?_⟩
      obtain ⟨p3, k3⟩ := drawn p2 k2 ho
      have eD3 : (upd H2 a o) D = some (.lst (cV ws)) := by rw [upd_ne Da]; exact eD2
      have e3 : (upd H2 a o) t = some (.tup (cV [0, 0, 0, 1, 1, 2, 3])) := by rw [upd_ne (p2.ne e2)]; exact e2
      generalize (upd H2 a o) = H3 at p3 k3 eD3 e3 ⊢
      obtain ⟨j, rfl⟩ := nat_of r0
      have hj : j < [0, 0, 0, 1, 1, 2, 3].length := by show j < 7; omega
      have gj : ([0, 0, 0, 1, 1, 2, 3] : List Nat)[j]? = some [0, 0, 0, 1, 1, 2, 3][j] := List.getElem?_eq_getElem hj
      have gx : [0, 0, 0, 1, 1, 2, 3][j] ≤ 3 := (by decide : ∀ x ∈ ([0, 0, 0, 1, 1, 2, 3] : List Nat), x ≤ 3) _ (List.mem_of_getElem? gj)
      generalize [0, 0, 0, 1, 1, 2, 3][j] = x at gj gx
      refine ⟨t, _, _, _, rfl, rfl, SqT.of e3, atI_nat (cV_at gj), ?_⟩
      refine ⟨_, eD3, by rw [List.length_map]; exact small_len (by omega), k3.but nD, p3.other (Ne.symm Da), ws ++ [x], ?_, ?_, ?_⟩
      · rw [upd_same, cV_snoc]
      · rw [List.length_append, lw]
        rfl
      · intro z hz
        rcases List.mem_append.mp hz with hz | hz
        · exact sw z hz
        · rw [List.mem_singleton.mp hz]
          exact gx
    · rintro H1 ⟨k1, p1, ws, eD, lw, sw⟩
      have eI := eD
      rw [cV_ints] at eI
      refine ⟨_, rfl, D, _, rfl, SqL.of eI, rfl, _, rfl, ite2 (fun z => ?_) (fun z => ?_)⟩
      · refine ⟨_, rfl, _, rfl, _, rfl, a, (n : Int), rfl, p1, by omega, nsm (by omega), fun r o r0 r1 ho => ?_⟩
        obtain ⟨p2, k2⟩ := drawn p1 k1 ho
        have eD2 : (upd H1 a o) D = some (.lst (cV ws)) := by rw [upd_ne Da]; exact eD
        generalize (upd H1 a o) = H2 at p2 k2 eD2 ⊢
        obtain ⟨j, rfl⟩ := nat_of r0
        refine ⟨D, _, _, j, rfl, rfl, eD2, ?_, ?_⟩
        · unfold ixN
          rw [if_pos (by omega), if_pos (by rw [List.length_map]; omega), Int.toNat_natCast]
        · have e1 : (cV ws).set j (V.int 1) = cV (ws.set j 1) := cV_set ws j 1
          rw [e1]
          have hs : (ws.set j 1)[j]? = some 1 := by rw [List.getElem?_set_self (by omega)]
          refine qu a D n (ws.set j 1) _ (p2.other (Ne.symm Da)) Da upd_same (by rw [List.length_set]; exact lw) n8 (sum_pos_of hs (by decide)) (fun x m => ?_) fun t us H' kk pp ee tt => k t us H' ((k2.but nD).trans kk) pp ee tt
          rcases List.mem_or_eq_of_mem_set m with m | rfl
          · exact sw x m
          · decide
      · have pos : 0 < ws.sum := by
          rw [sum_ints] at z
          rcases Nat.eq_zero_or_pos ws.sum with h | h
          · rw [h] at z
            exact absurd rfl z
          · exact h
        exact qu a D n ws H1 p1 Da eD lw n8 pos sw fun t us H' kk pp ee tt => k t us H' (k1.trans kk) pp ee tt
end
end KJ
set_option Elab.async false
set_option linter.all false
set_option maxRecDepth 100000
set_option maxHeartbeats 4000000
namespace KJ
open PySem L2
theorem le_sum {ws : List Nat} {x : Nat} (h : x ∈ ws) : x ≤ ws.sum := by
  induction ws with
  | nil => cases h
  | cons y ws ih =>
    rw [List.sum_cons]
    rcases List.mem_cons.mp h with rfl | h
    · omega
    · have := ih h
      omega
theorem ixN_ok {n j : Nat} (h : j < n) : ixN n (j : Int) = some j := by
  unfold ixN
  rw [if_pos (by omega), if_pos (by omega), Int.toNat_natCast]
theorem cV_len {ws : List Nat} : (cV ws).length = ws.length := List.length_map _
/-- _law_moved_bit(pool, tops) -/
def spMoved : Sp := fun vs H Q _ => ∃ (a t : Addr) (n : Nat) (ws : List Nat), vs = [.ref a, .ref t] ∧ PoolAt H a ∧ H t = some (.tup (cV ws)) ∧ Tps n ws ∧ 1 ≤ n ∧ n ≤ 8 ∧ ∀ (t : Addr) (ws : List Nat) (H' : Hp), Keep a H H' → PoolAt H' a → H' t = some (.tup (cV ws)) → Tps n ws → Q (.ref t) H'
section
variable {P : Program} {w : World} {K : PySem.W.Frag} {mg : Str → Option Value} {base : Heap} {C : Addr}
abbrev s_moved : Stmt := top 46
abbrev nMb : List Str := ["_law_pool_here", "_law_tops_here", "_law_found", "_law_at", "_law_to", "_law_top", "_law_k"]
theorem sc_moved : FnScope nMb ["_law_pool_here", "_law_tops_here"] (defScope s_moved) := ⟨rfl, rfl, rfl, by decide +kernel, rfl, by decide +kernel, by decide +kernel⟩
theorem ok_moved {f : Addr} {fd : FuncData} (F : Fun K "_law_moved_bit" "_law_moved_bit" s_moved f fd) (T : Bm mg) (c_draw : Cal P w K mg base 1 "_law_draw" ["_law_pool_here", "_law_many"] spDraw) : FnOk P w K mg base CX0 2 f fd ["_law_pool_here", "_law_tops_here"] spMoved := by
  refine F.ok sc_moved (fun vs H Q E h => ?_) (fun cdv A outer s H vs Q E hr h => ?_)
  · obtain ⟨a, t, n, ws, rfl, _⟩ := h
    rfl
  · obtain ⟨a, t, n, ws, rfl, hp, et, ⟨lw, pos, sm⟩, n1, n8, k⟩ := h
    refine ⟨_, (pss_cons (ps_if (pt_cmpR op_gt (pe_callB (cr_sumT rfl) (by rfl) T.n_sum PyProof.Rows.boot_sum (pa_cons (pv 1) pa_nil)) (pe_op op_pow pe_int pe_int) (nomark _))
        (pss_one (ps_ret (pe_callTy call_tuple_of (by rfl) T.n_tuple (by decide +kernel) (pa_cons (pv 1) pa_nil))))
        pss_nil)
      (pss_cons (ps_set (i := 2) sc_moved.nd rfl (Or.inr rfl) (pe_lc (own := [("_law_top", 5)]) rfl sc_moved.nd (pi_tup (pv 1)) (blkOk_by (N := nMb) (sc := defScope s_moved) (by decide +kernel)) (fun _ _ _ _ _ => (pg_name (i := 5) sc_moved.nd rfl (Or.inl rfl))) (fun _ _ _ _ _ => pts_nil) (fun _ _ _ _ _ => (pe_op op_mul pe_int (pv 5)))))
      (pss_cons (ps_set (i := 3) sc_moved.nd rfl (Or.inl rfl) (pe_ix ix_list (pe_lc (own := [("_law_k", 6)]) rfl sc_moved.nd (pi_range1 (by rfl) T.n_range (pa_cons (pe_callB call_len_seq (by rfl) T.b.n_len PySem.boot_len (pa_cons (pv 2) pa_nil)) pa_nil)) (blkOk_by (N := nMb) (sc := defScope s_moved) (by decide +kernel)) (fun _ _ _ _ _ => (pg_name (i := 6) sc_moved.nd rfl (Or.inl rfl))) (fun _ _ _ _ _ => (pts_one (pt_cmpR op_gt (pe_ix (show IxR _ (rIxL K) from ix_list) (pv 2) (pv 6) (fun _ _ => rfl)) pe_int (nomark _)))) (fun _ _ _ _ _ => (pv 6))) pe_int (fun _ _ => rfl)))
      (pss_cons (ps_asg (pe_op op_sub (pe_ix ix_list (pv 2) (pv 3) (fun _ _ => rfl)) pe_int) (pg_sub (pv 2) (pv 3) set_list))
      (pss_cons (ps_set (i := 4) sc_moved.nd rfl (Or.inl rfl) (pe_cal c_draw (hr.mono (by decide)) rfl (pa_cons (pv 0) (pa_cons (pe_callB call_len_seq (by rfl) T.b.n_len PySem.boot_len (pa_cons (pv 2) pa_nil)) pa_nil))))
      (pss_cons (ps_asg (pe_op op_add (pe_ix ix_list (pv 2) (pv 4) (fun _ _ => rfl)) pe_int) (pg_sub (pv 2) (pv 4) set_list))
      (pss_one (ps_ret (pe_callTy call_tuple_of (by rfl) T.n_tuple (by decide +kernel) (pa_cons (pv 2) pa_nil)))))))))), ?_⟩
    have eI := et
    rw [cV_ints] at eI
    refine ⟨_, rfl, t, _, rfl, SqT.of eI, 10, 10, rfl, rfl, ⟨by decide, by decide, by decide⟩, _, _, rfl, rfl, _, rfl, iteB (fun z => ?_) (fun z => ?_)⟩
    · exact ⟨_, rfl, t, _, rfl, .inr ⟨SqT.of et, k t ws H (Keep.refl a H) hp et ⟨lw, pos, sm⟩⟩⟩
    have big : ws.sum ≤ 10000000000 := by
      have e10 : ((10 : Int) ^ (10 : Int).toNat) = 10000000000 := by decide +kernel
      have z := of_decide_eq_false z
      rw [sum_ints, e10] at z
      omega
    have b6 : ∀ x ∈ ws, x ≤ 10000000000 := fun x m => Nat.le_trans (le_sum m) big
    refine ⟨_, rfl, t, rfl, ⟨_, SqT.of et⟩, fun D nD => ?_⟩
    have Da := new_ne hp nD
    refine lc_tup (K := K) (a := t) (xs := cV ws) (fun i H' => Same H H' ∧ H' D = some (.lst (cV ((ws.take i).map (6 * ·))))) ⟨Same.put nD, upd_same⟩ (fun i H' _ h => SqT.of (h.1 _ _ et)) ?_ ?_
    · rintro i x' H' hx' ⟨s1, eD⟩
      obtain ⟨x, hx, rfl⟩ := cV_of hx'
      have il := (List.getElem?_eq_some_iff.mp hx).1
      refine ⟨rfl, yes_of ?_⟩
      refine ⟨_, rfl, 6, (x : Int), rfl, rfl, .inl ⟨by decide, by decide⟩, ?_⟩
      refine ⟨_, eD, by rw [cV_len, List.length_map, List.length_take]; exact small_len (by omega), Same.but (fun b u e => s1 _ _ e) nD, ?_⟩
      rw [upd_same, take_more hx, List.map_append]
      show some (HO.lst (cV _ ++ [V.int (6 * (x : Int))])) = _
      rw [show (6 * (x : Int)) = ((6 * x : Nat) : Int) by rw [Int.natCast_mul]; rfl, cV_snoc]
      rfl
    rintro H1 ⟨s1, eD⟩
    rw [cV_len, List.take_length] at eD
    have p1 := hp.same s1
    generalize hfs : ws.map (6 * ·) = fs at eD
    have lf : fs.length = n := by rw [← hfs, List.length_map, lw]
    have bf : ∀ x ∈ fs, x ≤ 60000000000 := by
      intro x m
      rw [← hfs] at m
      obtain ⟨y, my, rfl⟩ := List.mem_map.mp m
      have := b6 y my
      show 6 * y ≤ _
      omega
    have posf : 0 < fs.sum := by
      obtain ⟨i, x, hx, px⟩ := ex_pos pos
      refine sum_pos_of (i := i) (x := 6 * x) ?_ (by omega)
      rw [← hfs, List.getElem?_map, hx]
      rfl
    -- the first above 0
    refine ⟨_, rfl, D, _, rfl, .inl (SqL.of eD), ?_⟩
    rw [cV_len, lf]
    refine ⟨_, rfl, by omega, by omega, fun G nG => ?_⟩
    rw [Int.toNat_natCast]
    refine lc_range (fun i H' => Same H1 H' ∧ H' G = some (.lst (cV ((List.range i).filter fun j => decide (0 < fs.getD j 0))))) ⟨Same.put nG, upd_same⟩ ?_ ?_
    · rintro i H' hi ⟨s2, eG⟩
      rw [Int.zero_add]
      have gi : fs[i]? = some fs[i] := List.getElem?_eq_getElem (by omega)
      have gd : fs.getD i 0 = fs[i] := by rw [List.getD, gi]; rfl
      refine ⟨rfl, ?_⟩
      refine ⟨_, rfl, _, rfl, D, _, _, _, rfl, rfl, SqL.of (s2 _ _ eD), atI_nat (cV_at gi), _, _, rfl, rfl, _, rfl, iteB (fun z => ?_) (fun z => ?_)⟩
      · have z : 0 < fs[i] := by
          have := of_decide_eq_true z
          omega
        refine ⟨_, rfl, _, eG, ?_, Same.but (fun b u e => s2 _ _ e) nG, ?_⟩
        · rw [cV_len]
          have := List.length_filter_le (fun j => decide (0 < fs.getD j 0)) (List.range i)
          rw [List.length_range] at this
          exact small_len (by omega)
        · rw [upd_same, cV_snoc, List.range_succ, List.filter_append, List.filter_cons, gd, decide_eq_true z]
          rfl
      · have z : ¬ 0 < fs[i] := by
          have := of_decide_eq_false z
          omega
        refine ⟨s2, ?_⟩
        rw [List.range_succ, List.filter_append, List.filter_cons, gd, decide_eq_false z]
        simpa using eG
    rintro H2 ⟨s2, eG⟩
    obtain ⟨i, x, hx, px⟩ := ex_pos posf
    have iw : i ∈ (List.range n).filter fun j => decide (0 < fs.getD j 0) := by
      refine List.mem_filter.mpr ⟨List.mem_range.mpr ?_, ?_⟩
      · have := (List.getElem?_eq_some_iff.mp hx).1
        omega
      · rw [List.getD, hx]
        exact decide_eq_true px
    generalize hL : ((List.range n).filter fun j => decide (0 < fs.getD j 0)) = L at iw eG
    obtain ⟨j, rest, rfl⟩ : ∃ j rest, L = j :: rest := by
      cases L with
      | nil => cases iw
      | cons j rest => exact ⟨j, rest, rfl⟩
    obtain ⟨j1, j2⟩ := List.mem_filter.mp (show j ∈ ((List.range n).filter fun j => decide (0 < fs.getD j 0)) by rw [hL]; exact List.mem_cons_self)
    have j1 := List.mem_range.mp j1
    have j2 := of_decide_eq_true j2
    have gj : fs[j]? = some fs[j] := List.getElem?_eq_getElem (by omega)
    have gd : fs.getD j 0 = fs[j] := by rw [List.getD, gj]; rfl
    rw [gd] at j2
    refine ⟨_, _, 0, _, rfl, rfl, SqL.of eG, atI_nat (j := 0) rfl, ?_⟩
    have eD2 := s2 _ _ eD
    have p2 := p1.same s2
    refine ⟨_, rfl, _, rfl, D, _, _, _, rfl, rfl, SqL.of eD2, atI_nat (cV_at gj), _, _, rfl, rfl, _, rfl, _, rfl, D, _, _, j, rfl, rfl, eD2, ixN_ok (by rw [cV_len]; omega), ?_⟩
    have e1 : (cV fs).set j (V.int ((fs[j] : Int) - 1)) = cV (fs.set j (fs[j] - 1)) := by
      rw [show ((fs[j] : Int) - 1) = ((fs[j] - 1 : Nat) : Int) by omega]
      exact cV_set fs j _
    have k3 : Keep a H (upd H2 D (.lst ((cV fs).set j (V.int ((fs[j] : Int) - 1))))) := (Keep.of (s1.trans s2)).but nD
    have p3 : PoolAt (upd H2 D (.lst ((cV fs).set j (V.int ((fs[j] : Int) - 1))))) a := p2.other (Ne.symm Da)
    have e3 : (upd H2 D (.lst ((cV fs).set j (V.int ((fs[j] : Int) - 1))))) D = some (.lst (cV (fs.set j (fs[j] - 1)))) := by rw [upd_same, e1]
    generalize (upd H2 D (.lst ((cV fs).set j (V.int ((fs[j] : Int) - 1))))) = H3 at k3 p3 e3 ⊢
    have lg : (fs.set j (fs[j] - 1)).length = n := by rw [List.length_set, lf]
    have bg : ∀ x ∈ fs.set j (fs[j] - 1), x ≤ 60000000000 := fun x m => by
      rcases List.mem_or_eq_of_mem_set m with m | rfl
      · exact bf x m
      · have := bf fs[j] (List.mem_of_getElem? gj)
        omega
    obtain ⟨gs, e3, lg, bg⟩ : ∃ gs : List Nat, H3 D = some (.lst (cV gs)) ∧ gs.length = n ∧ ∀ x ∈ gs, x ≤ 60000000000 := ⟨_, e3, lg, bg⟩
    clear e1 hL iw eG s2 p2 eD2 hfs s1 p1 eD
    refine ⟨_, rfl, _, rfl, D, _, rfl, .inl (SqL.of e3), a, _, rfl, p3, by rw [cV_len]; omega, by rw [cV_len]; exact nsm (by omega), fun r o r0 r1 ho => ?_⟩
    obtain ⟨p4, k4⟩ := drawn p3 k3 ho
    have e4 : (upd H3 a o) D = some (.lst (cV gs)) := by rw [upd_ne Da]; exact e3
    generalize (upd H3 a o) = H4 at p4 k4 e4 ⊢
    obtain ⟨q, rfl⟩ := nat_of r0
    rw [cV_len] at r1
    have gq : gs[q]? = some gs[q] := List.getElem?_eq_getElem (by omega)
    refine ⟨_, rfl, _, rfl, D, _, _, _, rfl, rfl, SqL.of e4, atI_nat (cV_at gq), _, _, rfl, rfl, _, rfl, _, rfl, D, _, _, q, rfl, rfl, e4, ixN_ok (by rw [cV_len]; omega), ?_⟩
    have e5 : (cV gs).set q (V.int ((gs[q] : Int) + 1)) = cV (gs.set q (gs[q] + 1)) := cV_set gs q (gs[q] + 1)
    refine ⟨_, rfl, D, cV (gs.set q (gs[q] + 1)), rfl, .inl ⟨SqL.of (by rw [upd_same]; exact congrArg (fun l => some (HO.lst l)) e5), fun c nc => ?_⟩⟩
    refine k c (gs.set q (gs[q] + 1)) _ ((k4.but nD).trans (Keep.of (Same.put nc))) ((p4.other (Ne.symm Da)).same (Same.put nc)) upd_same ⟨by rw [List.length_set, lg], sum_pos_of (i := q) (x := gs[q] + 1) (by rw [List.getElem?_set_self (by omega)]) (by omega), fun x m => ?_⟩
    rcases List.mem_or_eq_of_mem_set m with m | rfl
    · exact Nat.lt_of_le_of_lt (bg x m) (by decide)
    · have := bg gs[q] (List.mem_of_getElem? gq)
      exact Nat.lt_of_le_of_lt (show gs[q] + 1 ≤ 60000000001 by omega) (by decide)
end
end KJ
set_option Elab.async false
set_option linter.all false
set_option maxRecDepth 100000
set_option maxHeartbeats 4000000
namespace KJ
open PySem L2
/-- a list of rows under way -/
structure RowsSt (n : Nat) (a : Addr) (H0 : Hp) (l : Addr) (H : Hp) (rs : List (Addr × List Nat)) : Prop where
  kp : Keep a H0 H
  pl : PoolAt H a
  el : H l = some (.lst (rfs rs))
  rw_ : Rws n H rs
  n0 : H0 l = none
/-- what a step that keeps all but the pool leaves of it -/
theorem RowsSt.step {n : Nat} {a : Addr} {H0 H H' : Hp} {l : Addr} {rs : List (Addr × List Nat)} (h : RowsSt n a H0 l H rs) (k : Keep a H H') (p : PoolAt H' a) : RowsSt n a H0 l H' rs :=
  ⟨h.kp.trans k, p, k _ _ h.el (h.pl.neR h.el), h.rw_.keep k h.pl, h.n0⟩
theorem RowsSt.draw {n : Nat} {a : Addr} {H0 H : Hp} {l : Addr} {rs : List (Addr × List Nat)} {o : HO} (h : RowsSt n a H0 l H rs) (ho : PoolL o) : RowsSt n a H0 l (upd H a o) rs := h.step (Keep.put o) (.put ho)
theorem RowsSt.same {n : Nat} {a : Addr} {H0 H H' : Hp} {l : Addr} {rs : List (Addr × List Nat)} (h : RowsSt n a H0 l H rs) (s : Same H H') : RowsSt n a H0 l H' rs := h.step (Keep.of s) (h.pl.same s)
/-- one more row -/
theorem RowsSt.push {n : Nat} {a : Addr} {H0 H : Hp} {l : Addr} {rs : List (Addr × List Nat)} {r : Addr × List Nat} (h : RowsSt n a H0 l H rs) (e : TpsAt n H r) : RowsSt n a H0 l (upd H l (.lst (rfs rs ++ [V.ref r.1]))) (rs ++ [r]) :=
  ⟨h.kp.but h.n0, h.pl.other (Ne.symm (h.pl.neR h.el)), by rw [upd_same, rfs_snoc], (h.rw_.snoc e).lstU h.el, h.n0⟩
theorem RowsSt.new {n : Nat} {a l : Addr} {H : Hp} (hp : PoolAt H a) (nl : H l = none) : RowsSt n a H l (upd H l (.lst [])) [] := ⟨Keep.of (Same.put nl), hp.new nl, upd_same, Rws.nil, nl⟩
section
variable {P : Program} {w : World} {K : PySem.W.Frag} {mg : Str → Option Value} {base : Heap} {C : Addr}
abbrev s_alike : Stmt := top 47
abbrev nAl : List Str := ["_law_pool_here", "_law_size_here", "_law_rows_here", "_law_k", "_law_way"]
theorem sc_alike : FnScope nAl ["_law_pool_here", "_law_size_here"] (defScope s_alike) := ⟨rfl, rfl, rfl, by decide +kernel, rfl, by decide +kernel, by decide +kernel⟩
theorem ok_alike {f : Addr} {fd : FuncData} (F : Fun K "_law_rows_alike" "_law_rows_alike" s_alike f fd) (T : Bm mg) (c_draw : Cal P w K mg base 1 "_law_draw" ["_law_pool_here", "_law_many"] spDraw) (c_pick : Cal P w K mg base 2 "_law_pick" ["_law_pool_here", "_law_things"] spPickQ)
    (c_tops : Cal P w K mg base 2 "_law_tops" ["_law_pool_here", "_law_size_here"] spTops) (c_moved : Cal P w K mg base 2 "_law_moved_bit" ["_law_pool_here", "_law_tops_here"] spMoved) : FnOk P w K mg base CX0 3 f fd ["_law_pool_here", "_law_size_here"] spRowsG := by
  refine F.ok sc_alike (fun vs H Q E h => ?_) (fun cdv A outer s H vs Q E hr h => ?_)
  · obtain ⟨a, n, rfl, _⟩ := h
    rfl
  · obtain ⟨a, n, rfl, hp, n1, n8, k⟩ := h
    refine ⟨_, (pss_cons (ps_set (i := 2) sc_alike.nd rfl (Or.inl rfl) (pe_lst (pa_cons (pe_cal c_tops (hr.mono (by decide)) rfl (pa_cons (pv 0) (pa_cons (pv 1) pa_nil))) pa_nil)))
      (pss_cons (ps_for PassesOwn.never rfl (pi_range2 (by rfl) T.n_range (pa_cons pe_int (pa_cons (pv 1) pa_nil))) (pg_name (i := 3) sc_alike.nd rfl (Or.inl rfl))
        (pss_cons (ps_set (i := 4) sc_alike.nd rfl (Or.inl rfl) (pe_cal c_draw (hr.mono (by decide)) rfl (pa_cons (pv 0) (pa_cons pe_int pa_nil))))
          (pss_one (ps_if (pt_cmpR op_eq (pv 4) pe_int (nomark _))
            (pss_one (ps_expr (pe_bm PySem.F.plainAttrs_list PySem.F.slot_list_append PySem.F.type_list_append mt_append (pv 2) (pa_cons (pe_cal c_tops (hr.mono (by decide)) rfl (pa_cons (pv 0) (pa_cons (pv 1) pa_nil))) pa_nil))))
            (pss_one (ps_if (pt_cmpR op_eq (pv 4) pe_int (nomark _))
              (pss_one (ps_expr (pe_bm PySem.F.plainAttrs_list PySem.F.slot_list_append PySem.F.type_list_append mt_append (pv 2) (pa_cons (pe_cal c_moved (hr.mono (by decide)) rfl (pa_cons (pv 0) (pa_cons (pe_cal c_pick (hr.mono (by decide)) rfl (pa_cons (pv 0) (pa_cons (pv 2) pa_nil))) pa_nil))) pa_nil))))
              (pss_one (ps_expr (pe_bm PySem.F.plainAttrs_list PySem.F.slot_list_append PySem.F.type_list_append mt_append (pv 2) (pa_cons (pe_cal c_pick (hr.mono (by decide)) rfl (pa_cons (pv 0) (pa_cons (pv 2) pa_nil))) pa_nil))))))))))
      (pss_one (ps_ret (pv 2))))), ?_⟩
    refine ⟨_, rfl, _, rfl, a, n, rfl, hp, n1, n8, fun t ws H1 k1 p1 et tp => ⟨by show 1 ≤ sizeLine; decide, fun l nl => ?_⟩⟩
    have st0 : RowsSt n a H1 l (upd H1 l (.lst (rfs [(t, ws)]))) [(t, ws)] := ⟨Keep.of (Same.put nl), p1.new nl, upd_same, fun r m => by
      rw [List.mem_singleton.mp m]
      exact ⟨Same.put nl _ _ et, tp⟩, nl⟩
    refine ⟨_, rfl, 1, (n : Int), rfl, ⟨by decide, by decide, by omega, by omega⟩, ?_⟩
    have en : ((n : Int) - 1).toNat = n - 1 := by omega
    rw [en]
    refine for_range (fun i σ H' => ∃ v3 v4 rs, σ = [some (.ref a), some (.int (n : Int)), some (.ref l), v3, v4] ∧ RowsSt n a H1 l H' rs ∧ rs.length = i + 1) ⟨none, none, _, rfl, st0, rfl⟩ ?_ ?_
    · rintro i σ H2 hi ⟨v3, v4, rs, rfl, st, lr⟩
      refine ⟨_, rfl, a, 4, rfl, st.pl, by decide, by decide, fun y o y0 y1 ho => ?_⟩
      have st := st.draw ho
      generalize (upd H2 a o) = H3 at st ⊢
      have app : ∀ (r : Addr × List Nat) (H4 : Hp) (D : Ends) (σ : St), RowsSt n a H1 l H4 rs → TpsAt n H4 r → (RowsSt n a H1 l (upd H4 l (.lst (rfs rs ++ [V.ref r.1]))) (rs ++ [r]) → D.nx σ (upd H4 l (.lst (rfs rs ++ [V.ref r.1])))) →
          ∃ a_1 y xs, (V.ref l = V.ref a_1) ∧ [V.ref r.1] = [y] ∧ H4 a_1 = some (.lst xs) ∧ xs.length < sizeLine ∧ D.nx σ (upd H4 a_1 (.lst (xs ++ [y]))) :=
        fun r H4 D σ st4 tr kk => ⟨l, _, _, rfl, rfl, st4.el, by rw [rfs_len]; exact small_len (by omega), kk (st4.push tr)⟩
      refine ⟨_, rfl, rfl, _, rfl, ite2 (fun _ => ?_) (fun _ => ?_)⟩
      · refine ⟨_, rfl, .inl ⟨rfl, _, SqL.of st.el⟩, _, rfl, _, rfl, a, n, rfl, st.pl, n1, n8, fun t2 w2 H4 k4 p4 e4 tp4 => ?_⟩
        have st4 := st.step k4 p4
        exact ⟨l, _, _, rfl, rfl, st4.el, by rw [rfs_len]; exact small_len (by omega), _, _, _, rfl, st4.push (r := (t2, w2)) ⟨e4, tp4⟩, by rw [List.length_append, lr]; rfl⟩
      · have pk : ∀ {Q2 : VK}, (∀ (r : Addr × List Nat) (o : HO), r ∈ rs → PoolL o → Q2 (.ref r.1) (upd H3 a o)) → spPickQ [.ref a, .ref l] H3 Q2 E0 := fun q =>
          ⟨a, l, rfs rs, rfl, st.pl, .inl st.el, st.pl.neR st.el, by rw [rfs_len]; omega, by rw [rfs_len]; omega, fun x o2 hx ho2 => by
            obtain ⟨r, hr2, rfl⟩ := List.mem_map.mp hx
            exact q r o2 hr2 ho2⟩
        refine ⟨_, rfl, rfl, _, rfl, ite2 (fun _ => ?_) (fun _ => ?_)⟩
        · refine ⟨_, rfl, .inl ⟨rfl, _, SqL.of st.el⟩, _, rfl, _, rfl, _, rfl, pk fun r o2 mr ho2 => ?_⟩
          have st2 := st.draw ho2
          have tr := st2.rw_ r mr
          refine ⟨a, r.1, n, r.2, rfl, st2.pl, tr.1, tr.2, n1, n8, fun t2 w2 H4 k4 p4 e4 tp4 => ?_⟩
          have st4 := st2.step k4 p4
          exact ⟨l, _, _, rfl, rfl, st4.el, by rw [rfs_len]; exact small_len (by omega), _, _, _, rfl, st4.push (r := (t2, w2)) ⟨e4, tp4⟩, by rw [List.length_append, lr]; rfl⟩
        · refine ⟨_, rfl, .inl ⟨rfl, _, SqL.of st.el⟩, _, rfl, _, rfl, pk fun r o2 mr ho2 => ?_⟩
          have st2 := st.draw ho2
          have tr := st2.rw_ r mr
          exact ⟨l, _, _, rfl, rfl, st2.el, by rw [rfs_len]; exact small_len (by omega), _, _, _, rfl, st2.push (r := r) tr, by rw [List.length_append, lr]; rfl⟩
    · rintro σ H2 ⟨v3, v4, rs, rfl, st, lr⟩
      exact ⟨_, rfl, k l rs H2 (k1.trans st.kp) st.pl st.el st.rw_ (by omega)⟩
end
end KJ
set_option Elab.async false
set_option linter.all false
set_option maxRecDepth 100000
set_option maxHeartbeats 4000000
namespace KJ
open PySem L2
def hitW (n g : Nat) : List Nat := (List.range n).map fun j => if j = g then 1 else 0
theorem hit_tps {n g : Nat} (h : g < n) : Tps n (hitW n g) := by
  refine ⟨by rw [hitW, List.length_map, List.length_range], ?_, fun w m => ?_⟩
  · refine sum_pos_of (i := g) (x := 1) ?_ (by decide)
    rw [hitW, List.getElem?_map, List.getElem?_range h]
    simp
  · obtain ⟨j, _, rfl⟩ := List.mem_map.mp m
    split <;> decide
theorem hit_succ (i g : Nat) : cV (hitW i g) ++ [V.int (if i = g then 1 else 0)] = cV (hitW (i + 1) g) := by
  rw [show hitW (i + 1) g = hitW i g ++ [if i = g then 1 else 0] by rw [hitW, hitW, List.range_succ, List.map_append]; rfl, ← cV_snoc]
  split <;> rfl
theorem fmod_nat (x n : Nat) : ((x : Int)).fmod (n : Int) = ((x % n : Nat) : Int) := by
  rw [Int.fmod_eq_emod_of_nonneg _ (by omega)]
  omega
theorem eq_nat (i g : Nat) : decide (V.int (i : Int) = V.int (g : Int)) = decide (i = g) := by
  rw [decide_eq_decide, V.int.injEq]
  omega
section
variable {P : Program} {w : World} {K : PySem.W.Frag} {mg : Str → Option Value} {base : Heap} {C : Addr}
abbrev s_turning : Stmt := top 48
abbrev nTu : List Str := ["_law_pool_here", "_law_size_here", "_law_step", "_law_rows_here", "_law_k", "_law_goal", "_law_j"]
theorem sc_turning : FnScope nTu ["_law_pool_here", "_law_size_here"] (defScope s_turning) := ⟨rfl, rfl, rfl, by decide +kernel, rfl, by decide +kernel, by decide +kernel⟩
def loopTu : List Stmt := match (defBody s_turning).getD 2 (.Pass ⟨0, 0, 0, 0⟩) with
  | .For _ _ b _ _ => b
  | _ => []
abbrev XTu (P : Program) (w : World) (K : PySem.W.Frag) (mg : Str → Option Value) (base : Heap) (f : Addr) (cdv : Value) (A : Around) (outer : List Env) (s : Shared) (H : Hp) (E : XK) : Cx :=
  (cxOf CX0 P w K mg base nTu "_law_rows_turning" (defScope s_turning) f cdv A outer s H E).nox
theorem segTu2 {f : Addr} {cdv : Value} {A : Around} {outer : List Env} {s : Shared} {H : Hp} {E : XK} (T : Bm mg) :
    ∃ u, PSs (XTu P w K mg base f cdv A outer s H E) (loopTu.drop 2) u ∧ ∀ (a l : Addr) (n g : Nat) (rs : List (Addr × List Nat)) (v2 v4 v6 : Option V) (x5 : V) (D : Ends) (H1 G : Hp), x5 = .int (g : Int) → n ≤ 8 → g < n → RowsSt n a H1 l G rs → rs.length ≤ 8 →
      (∀ (v6 : Option V) (r : Addr × List Nat) (H' : Hp), RowsSt n a H1 l H' (rs ++ [r]) → D.nx [some (.ref a), some (.int (n : Int)), v2, some (.ref l), v4, some x5, v6] H') → u D [some (.ref a), some (.int (n : Int)), v2, some (.ref l), v4, some x5, v6] G := by
  refine ⟨_, (pss_one (ps_expr (pe_bm PySem.F.plainAttrs_list PySem.F.slot_list_append PySem.F.type_list_append mt_append (pv 3) (pa_cons (pe_callTy call_tuple_of (by rfl) T.n_tuple (by decide +kernel) (pa_cons (pe_lc (own := [("_law_j", 6)]) rfl sc_turning.nd (pi_range1 (by rfl) T.n_range (pa_cons (pv 1) pa_nil)) (blkOk_by (N := nTu) (sc := defScope s_turning) (by decide +kernel)) (fun _ _ _ _ _ => (pg_name (i := 6) sc_turning.nd rfl (Or.inl rfl))) (fun _ _ _ _ _ => pts_nil) (fun _ _ _ _ _ => (pe_callTy call_int1 (by rfl) T.b.n_int (by decide +kernel) (pa_cons (pe_cmpR op_eq (pv 6) (pv 5) (nomark _)) pa_nil)))) pa_nil)) pa_nil)))), ?_⟩
  intro a l n g rs v2 v4 v6 x5 D H1 G e5 n8 hg st lr k
  subst e5
  refine ⟨_, rfl, .inl ⟨rfl, _, SqL.of st.el⟩, _, rfl, _, rfl, by omega, by omega, fun B nB => ?_⟩
  rw [Int.toNat_natCast]
  refine lc_range (fun i H' => Same G H' ∧ H' B = some (.lst (cV (hitW i g)))) ⟨Same.put nB, upd_same⟩ ?_ ?_
  · rintro i H' hi ⟨s1, eB⟩
    rw [Int.zero_add]
    refine ⟨rfl, yes_of ?_⟩
    refine ⟨_, rfl, _, rfl, rfl, .inr ⟨_, rfl, _, eB, by rw [cV_len, hitW, List.length_map, List.length_range]; exact small_len (by omega), Same.but (fun b u e => s1 _ _ e) nB, ?_⟩⟩
    rw [upd_same, eq_nat, ← hit_succ]
    by_cases e : i = g
    · rw [decide_eq_true e, if_pos e]; rfl
    · rw [decide_eq_false e, if_neg e]; rfl
  · rintro H2 ⟨s1, eB⟩
    refine ⟨B, _, rfl, .inl ⟨SqL.of eB, fun t nt => ?_⟩⟩
    have st2 := (st.same s1).same (Same.put (o := .tup (cV (hitW n g))) nt)
    exact ⟨l, _, _, rfl, rfl, st2.el, by rw [rfs_len]; exact small_len (by omega), k _ (t, hitW n g) _ (st2.push (r := (t, hitW n g)) ⟨upd_same, hit_tps hg⟩)⟩
theorem ok_turning {f : Addr} {fd : FuncData} (F : Fun K "_law_rows_turning" "_law_rows_turning" s_turning f fd) (T : Bm mg) (c_draw : Cal P w K mg base 1 "_law_draw" ["_law_pool_here", "_law_many"] spDraw) : FnOk P w K mg base CX0 3 f fd ["_law_pool_here", "_law_size_here"] spRowsG := by
  refine F.ok sc_turning (fun vs H Q E h => ?_) (fun cdv A outer s H vs Q E hr h => ?_)
  · obtain ⟨a, n, rfl, _⟩ := h
    rfl
  · obtain ⟨a, n, rfl, hp, n1, n8, k⟩ := h
    obtain ⟨u, hu, qu⟩ := segTu2 (P := P) (w := w) (K := K) (mg := mg) (base := base) (f := f) (cdv := cdv) (A := A) (outer := outer) (s := s) (H := H) (E := E) T
    refine ⟨_, (pss_cons (ps_set (i := 2) sc_turning.nd rfl (Or.inl rfl) (pe_cal c_draw (hr.mono (by decide)) rfl (pa_cons (pv 0) (pa_cons (pv 1) pa_nil))))
      (pss_cons (ps_set (i := 3) sc_turning.nd rfl (Or.inl rfl) (pe_lst pa_nil))
      (pss_cons (ps_for PassesOwn.never rfl (pi_range1 (by rfl) T.n_range (pa_cons (pv 1) pa_nil)) (pg_name (i := 4) sc_turning.nd rfl (Or.inl rfl))
        (pss_cons (ps_set (i := 5) sc_turning.nd rfl (Or.inr rfl) (pe_op op_modN (pe_callTy call_int1 (by rfl) T.b.n_int (by decide +kernel) (pa_cons (pe_op op_add (pv 4) (pv 2)) pa_nil)) (pv 1)))
          (pss_cons (ps_if (pt_cmpR op_eq (pe_cal c_draw (hr.mono (by decide)) rfl (pa_cons (pv 0) (pa_cons pe_int pa_nil))) pe_int (nomark _))
            (pss_one (ps_set (i := 5) sc_turning.nd rfl (Or.inr rfl) (pe_cal c_draw (hr.mono (by decide)) rfl (pa_cons (pv 0) (pa_cons (pv 1) pa_nil)))))
            pss_nil) hu)))
      (pss_one (ps_ret (pv 3)))))), ?_⟩
    refine ⟨_, rfl, _, rfl, a, (n : Int), rfl, hp, by omega, nsm (by omega), fun sp o s0 s1 ho => ?_⟩
    have p1 : PoolAt (upd H a o) a := .put ho
    have k1 := Keep.put (a := a) (H := H) o
    generalize (upd H a o) = H1 at p1 k1 ⊢
    obtain ⟨sp, rfl⟩ := nat_of s0
    refine ⟨by show 0 ≤ sizeLine; decide, fun l nl => ?_⟩
    have st0 := RowsSt.new (n := n) p1 nl
    refine ⟨_, rfl, _, rfl, by omega, by omega, ?_⟩
    rw [Int.toNat_natCast]
    refine for_range (fun i σ H' => ∃ v4 v5 v6 rs, σ = [some (.ref a), some (.int (n : Int)), some (.int (sp : Int)), some (.ref l), v4, v5, v6] ∧ RowsSt n a H1 l H' rs ∧ rs.length = i) ⟨none, none, none, [], rfl, st0, rfl⟩ ?_ ?_
    · rintro i σ H2 hi ⟨v4, v5, v6, rs, rfl, st, lr⟩
      rw [Int.zero_add]
      refine ⟨_, rfl, _, rfl, _, _, rfl, rfl, .inl ⟨_, rfl, _, rfl, _, _, rfl, rfl, by omega, ?_⟩⟩
      have em : (((i : Int) + (sp : Int)).fmod (n : Int)) = (((i + sp) % n : Nat) : Int) := by rw [← Int.natCast_add, fmod_nat]
      refine ⟨_, rfl, a, 4, rfl, st.pl, by decide, by decide, fun y o y0 y1 ho => ?_⟩
      have st2 := st.draw ho
      have lt : (i + sp) % n < n := Nat.mod_lt _ (by omega)
      refine ⟨rfl, _, rfl, ite2 (fun _ => ?_) (fun _ => ?_)⟩
      · refine ⟨_, rfl, _, rfl, a, (n : Int), rfl, st2.pl, by omega, nsm (by omega), fun g o2 g0 g1 ho2 => ?_⟩
        have st3 := st2.draw ho2
        obtain ⟨g, rfl⟩ := nat_of g0
        exact qu a l n g rs _ _ _ _ _ H1 _ rfl n8 (by omega) st3 (by omega) fun v6 r H' st' => ⟨_, _, v6, _, rfl, st', by rw [List.length_append, lr]; rfl⟩
      · exact qu a l n ((i + sp) % n) rs _ _ _ _ _ H1 _ (congrArg V.int em) n8 lt st2 (by omega) fun v6 r H' st' => ⟨_, _, v6, _, rfl, st', by rw [List.length_append, lr]; rfl⟩
    · rintro σ H2 ⟨v4, v5, v6, rs, rfl, st, lr⟩
      exact ⟨_, rfl, k l rs H2 (k1.trans st.kp) st.pl st.el st.rw_ lr⟩
end
end KJ
set_option Elab.async false
set_option linter.all false
set_option maxRecDepth 100000
set_option maxHeartbeats 4000000
namespace KJ
open PySem L2
theorem iteA {c : Bool} {A B : Prop} (h1 : A) (h2 : B) : if c = true then A else B := iteB (fun _ => h1) fun _ => h2
/-- made positive by one item -/
def mend (ws : List Nat) (k : Nat) : List Nat := if ws.sum = 0 then ws.set k 1 else ws
theorem mend_tps {n k : Nat} {ws : List Nat} (lw : ws.length = n) (hk : k < n) (b : ∀ w ∈ ws, w < 2 ^ 40) : Tps n (mend ws k) := by
  unfold mend
  split
  · refine ⟨by rw [List.length_set, lw], sum_pos_of (i := k) (x := 1) (by rw [List.getElem?_set_self (by omega)]) (by decide), fun w m => ?_⟩
    rcases List.mem_or_eq_of_mem_set m with m | rfl
    · exact b w m
    · decide
  · exact ⟨lw, by omega, b⟩
section
variable {P : Program} {w : World} {K : PySem.W.Frag} {mg : Str → Option Value} {base : Heap} {C : Addr}
abbrev s_parted : Stmt := top 49
abbrev nPa : List Str := ["_law_pool_here", "_law_size_here", "_law_cut", "_law_rows_here", "_law_k", "_law_tops_here", "_law_j"]
theorem sc_parted : FnScope nPa ["_law_pool_here", "_law_size_here"] (defScope s_parted) := ⟨rfl, rfl, rfl, by decide +kernel, rfl, by decide +kernel, by decide +kernel⟩
def loopPa : List Stmt := match (defBody s_parted).getD 2 (.Pass ⟨0, 0, 0, 0⟩) with
  | .For _ _ b _ _ => b
  | _ => []
abbrev XPa (P : Program) (w : World) (K : PySem.W.Frag) (mg : Str → Option Value) (base : Heap) (f : Addr) (cdv : Value) (A : Around) (outer : List Env) (s : Shared) (H : Hp) (E : XK) : Cx :=
  (cxOf CX0 P w K mg base nPa "_law_rows_parted" (defScope s_parted) f cdv A outer s H E).nox
theorem segPa2 {f : Addr} {cdv : Value} {A : Around} {outer : List Env} {s : Shared} {H : Hp} {E : XK} (T : Bm mg) :
    ∃ u, PSs (XPa P w K mg base f cdv A outer s H E) (loopPa.drop 2) u ∧ ∀ (a l B : Addr) (n i : Nat) (rs : List (Addr × List Nat)) (ws : List Nat) (v2 v6 : Option V) (D : Ends) (H1 G : Hp), n ≤ 8 → i < n → RowsSt n a H1 l G rs → rs.length ≤ 8 → G B = some (.lst (cV ws)) → H1 B = none → B ≠ a → B ≠ l → ws.length = n → (∀ w ∈ ws, w < 2 ^ 40) →
      (∀ (r : Addr × List Nat) (H' : Hp), RowsSt n a H1 l H' (rs ++ [r]) → D.nx [some (.ref a), some (.int (n : Int)), v2, some (.ref l), some (.int (i : Int)), some (.ref B), v6] H') → u D [some (.ref a), some (.int (n : Int)), v2, some (.ref l), some (.int (i : Int)), some (.ref B), v6] G := by
  refine ⟨_, (pss_cons (ps_if (pt_cmpR op_eq (pe_callB (cr_sum rfl) (by rfl) T.n_sum PyProof.Rows.boot_sum (pa_cons (pv 5) pa_nil)) pe_int (nomark _))
      (pss_one (ps_asg pe_int (pg_sub (pv 5) (pv 4) set_list)))
      pss_nil)
    (pss_one (ps_expr (pe_bm PySem.F.plainAttrs_list PySem.F.slot_list_append PySem.F.type_list_append mt_append (pv 3) (pa_cons (pe_callTy call_tuple_of (by rfl) T.n_tuple (by decide +kernel) (pa_cons (pv 5) pa_nil)) pa_nil))))), ?_⟩
  intro a l B n i rs ws v2 v6 D H1 G n8 hi st lr eB nB Ba Bl lw bw k
  have eI := eB
  rw [cV_ints] at eI
  have tp := mend_tps lw hi bw
  have fin : ∀ (G2 : Hp) (us : List Nat) (t : Addr), RowsSt n a H1 l G2 rs → G2 t = none → Tps n us → rAppend (.ref l) [.ref t] (upd G2 t (.tup (cV us))) fun _ H' => D.nx [some (.ref a), some (.int (n : Int)), v2, some (.ref l), some (.int (i : Int)), some (.ref B), v6] H' := by
    intro G2 us t st2 nt tp
    have st3 := st2.same (Same.put (o := .tup (cV us)) nt)
    exact ⟨l, _, _, rfl, rfl, st3.el, by rw [rfs_len]; exact small_len (by omega), k (t, us) _ (st3.push (r := (t, us)) ⟨upd_same, tp⟩)⟩
  refine ⟨_, rfl, B, _, rfl, SqL.of eI, rfl, _, rfl, ite2 (fun z => ?_) (fun z => ?_)⟩
  · have z0 : ws.sum = 0 := by
      have z := of_decide_eq_true z
      rw [sum_ints, V.int.injEq] at z
      omega
    unfold mend at tp
    rw [if_pos z0] at tp
    refine ⟨_, rfl, _, rfl, B, _, _, i, rfl, rfl, eB, ixN_ok (by rw [cV_len]; omega), ?_⟩
    have e1 : (cV ws).set i (V.int 1) = cV (ws.set i 1) := cV_set ws i 1
    rw [e1]
    have st2 : RowsSt n a H1 l (upd G B (.lst (cV (ws.set i 1)))) rs := ⟨st.kp.but nB, st.pl.other (Ne.symm Ba), by rw [upd_ne (Ne.symm Bl)]; exact st.el, st.rw_.lstU eB, st.n0⟩
    refine ⟨_, rfl, .inl ⟨rfl, _, SqL.of st2.el⟩, _, rfl, B, _, rfl, .inl ⟨SqL.of upd_same, fun t nt => ?_⟩⟩
    exact fin _ _ t st2 nt tp
  · have z0 : ¬ ws.sum = 0 := by
      intro h
      refine z (decide_eq_true ?_)
      rw [sum_ints, h]
      rfl
    unfold mend at tp
    rw [if_neg z0] at tp
    refine ⟨_, rfl, .inl ⟨rfl, _, SqL.of st.el⟩, _, rfl, B, _, rfl, .inl ⟨SqL.of eB, fun t nt => ?_⟩⟩
    exact fin _ _ t st nt tp
def ifT : Stmt → List Stmt
  | .If _ b _ _ => b
  | _ => []
def thenPa : List Stmt := ifT (loopPa.getD 1 (.Pass ⟨0, 0, 0, 0⟩))
theorem segPaT {f : Addr} {cdv : Value} {A : Around} {outer : List Env} {s : Shared} {H : Hp} {E : XK} (T : Bm mg) :
    ∃ u, PSs (XPa P w K mg base f cdv A outer s H E) thenPa u ∧ ∀ (a l B : Addr) (n i : Nat) (ws : List Nat) (c : Int) (v6 : Option V) (D : Ends) (G : Hp), n ≤ 8 → i < n → G B = some (.lst (cV ws)) → ws.length = n → (∀ w ∈ ws, w < 2 ^ 40) →
      (∀ (B2 : Addr) (us : List Nat) (H' : Hp), Same G H' → G B2 = none → H' B2 = some (.lst (cV us)) → us.length = n → (∀ w ∈ us, w < 2 ^ 40) → D.nx [some (.ref a), some (.int (n : Int)), some (.int c), some (.ref l), some (.int (i : Int)), some (.ref B2), v6] H') → u D [some (.ref a), some (.int (n : Int)), some (.int c), some (.ref l), some (.int (i : Int)), some (.ref B), v6] G := by
  refine ⟨_, (pss_one (ps_set (i := 5) sc_parted.nd rfl (Or.inr rfl) (pe_lc (own := [("_law_j", 6)]) rfl sc_parted.nd (pi_range1 (by rfl) T.n_range (pa_cons (pv 1) pa_nil)) (blkOk_by (N := nPa) (sc := defScope s_parted) (by decide +kernel)) (fun _ _ _ _ _ => (pg_name (i := 6) sc_parted.nd rfl (Or.inl rfl))) (fun _ _ _ _ _ => pts_nil) (fun _ _ _ _ _ => (pe_op op_mul (pe_ix (show IxR _ (rIxL K) from ix_list) (pv 5) (pv 6) (fun _ _ => rfl)) (pe_callTy call_int1 (by rfl) T.b.n_int (by decide +kernel) (pa_cons (pe_cmpR op_eq (pe_cmpR op_lt (pv 6) (pv 2) (nomark _)) (pe_cmpR op_lt (pv 4) (pv 2) (nomark _)) (nomark _)) pa_nil))))))), ?_⟩
  intro a l B n i ws c v6 D G n8 hi eB lw bw k
  refine ⟨_, rfl, _, rfl, by omega, by omega, fun B2 nB2 => ?_⟩
  rw [Int.toNat_natCast]
  refine lc_range (fun j H' => Same G H' ∧ ∃ us : List Nat, H' B2 = some (.lst (cV us)) ∧ us.length = j ∧ ∀ w ∈ us, w < 2 ^ 40) ⟨Same.put nB2, [], upd_same, rfl, fun _ m => (by cases m)⟩ ?_ ?_
  · rintro j H' hj ⟨s1, us, e2, lu, bu⟩
    rw [Int.zero_add]
    have gj : ws[j]? = some ws[j] := List.getElem?_eq_getElem (by omega)
    have bj := bw ws[j] (List.mem_of_getElem? gj)
    generalize ws[j] = x at gj bj
    refine ⟨rfl, yes_of ?_⟩
    refine ⟨_, rfl, _, rfl, B, _, _, _, rfl, rfl, SqL.of (s1 _ _ eB), atI_nat (cV_at gj), ?_⟩
    refine ⟨_, rfl, _, rfl, _, _, rfl, rfl, _, rfl, _, rfl, _, _, rfl, rfl, rfl, .inr ⟨_, rfl, (x : Int), _, rfl, rfl, .inl ⟨by omega, by omega⟩, ?_⟩⟩
    have e : ∀ b : Bool, ((x : Int) * (if b = true then 1 else 0)) = (((if b = true then x else 0) : Nat) : Int) := by
      intro b
      cases b
      · rw [if_neg (by decide), if_neg (by decide), Int.mul_zero]; rfl
      · rw [if_pos rfl, if_pos rfl, Int.mul_one]
    have fin : ∀ b : Bool, ∃ acc, H' B2 = some (.lst acc) ∧ acc.length < sizeLine ∧ Same G (upd H' B2 (.lst (acc ++ [V.int ((x : Int) * (if b = true then 1 else 0))]))) ∧ ∃ us : List Nat, (upd H' B2 (.lst (acc ++ [V.int ((x : Int) * (if b = true then 1 else 0))]))) B2 = some (.lst (cV us)) ∧ us.length = j + 1 ∧ ∀ w ∈ us, w < 2 ^ 40 := by
      intro b
      refine ⟨_, e2, by rw [cV_len]; exact small_len (by omega), Same.but (fun b u e => s1 _ _ e) nB2, us ++ [if b = true then x else 0], ?_, ?_, fun w m => ?_⟩
      · rw [upd_same, e, cV_snoc]
      · rw [List.length_append, lu]; rfl
      · rcases List.mem_append.mp m with m | m
        · exact bu w m
        · rw [List.mem_singleton.mp m]
          split
          · exact bj
          · decide
    exact fin _
  · rintro H' ⟨s1, us, e2, lu, bu⟩
    exact k B2 us H' s1 nB2 e2 lu bu
theorem ok_parted {f : Addr} {fd : FuncData} (F : Fun K "_law_rows_parted" "_law_rows_parted" s_parted f fd) (T : Bm mg) (c_draw : Cal P w K mg base 1 "_law_draw" ["_law_pool_here", "_law_many"] spDraw) (c_tops : Cal P w K mg base 2 "_law_tops" ["_law_pool_here", "_law_size_here"] spTops) : FnOk P w K mg base CX0 3 f fd ["_law_pool_here", "_law_size_here"] spRowsG := by
  refine F.ok sc_parted (fun vs H Q E h => ?_) (fun cdv A outer s H vs Q E hr h => ?_)
  · obtain ⟨a, n, rfl, _⟩ := h
    rfl
  · obtain ⟨a, n, rfl, hp, n1, n8, k⟩ := h
    obtain ⟨u, hu, qu⟩ := segPa2 (P := P) (w := w) (K := K) (mg := mg) (base := base) (f := f) (cdv := cdv) (A := A) (outer := outer) (s := s) (H := H) (E := E) T
    obtain ⟨uT, huT, quT⟩ := segPaT (P := P) (w := w) (K := K) (mg := mg) (base := base) (f := f) (cdv := cdv) (A := A) (outer := outer) (s := s) (H := H) (E := E) T
    refine ⟨_, (pss_cons (ps_set (i := 2) sc_parted.nd rfl (Or.inr rfl) (pe_op op_add pe_int (pe_cal c_draw (hr.mono (by decide)) rfl (pa_cons (pv 0) (pa_cons (pe_callB (call_max2 rfl) (by rfl) T.n_max (by decide +kernel) (pa_cons pe_int (pa_cons (pe_op op_sub (pv 1) pe_int) pa_nil))) pa_nil)))))
      (pss_cons (ps_set (i := 3) sc_parted.nd rfl (Or.inl rfl) (pe_lst pa_nil))
      (pss_cons (ps_for PassesOwn.never rfl (pi_range1 (by rfl) T.n_range (pa_cons (pv 1) pa_nil)) (pg_name (i := 4) sc_parted.nd rfl (Or.inr rfl))
        (pss_cons (ps_set (i := 5) sc_parted.nd rfl (Or.inr rfl) (pe_callTy call_list_of (by rfl) T.n_list (by decide +kernel) (pa_cons (pe_cal c_tops (hr.mono (by decide)) rfl (pa_cons (pv 0) (pa_cons (pv 1) pa_nil))) pa_nil)))
          (pss_cons (ps_if (PW.pt (pw_or (pt_cmpR op_gt (pe_cal c_draw (hr.mono (by decide)) rfl (pa_cons (pv 0) (pa_cons pe_int pa_nil))) pe_int (nomark _)) (pw_or1 (pt_cmpR op_in_seq (pv 4) (pe_tup (pa_cons pe_int (pa_cons (pe_op op_sub (pv 1) pe_int) pa_nil))) (by rfl)))))
            huT
            pss_nil) hu)))
      (pss_one (ps_ret (pv 3)))))), ?_⟩
    refine ⟨_, rfl, _, rfl, _, _, rfl, rfl, 1, (n : Int) - 1, rfl, a, _, rfl, hp, by split <;> omega, by split <;> exact log_small (b := 10) (by omega) (by decide) (by decide), fun c o c0 c1 ho => ?_⟩
    have p1 : PoolAt (upd H a o) a := .put ho
    have k1 := Keep.put (a := a) (H := H) o
    generalize (upd H a o) = H1 at p1 k1 ⊢
    refine ⟨_, _, rfl, rfl, by show 0 ≤ sizeLine; decide, fun l nl => ?_⟩
    have st0 := RowsSt.new (n := n) p1 nl
    refine ⟨_, rfl, _, rfl, by omega, by omega, ?_⟩
    rw [Int.toNat_natCast]
    refine for_range (fun i σ H' => ∃ v4 v5 v6 rs, σ = [some (.ref a), some (.int (n : Int)), some (.int (1 + c)), some (.ref l), v4, v5, v6] ∧ RowsSt n a H1 l H' rs ∧ rs.length = i) ⟨none, none, none, [], rfl, st0, rfl⟩ ?_ ?_
    · rintro i σ H2 hi ⟨v4, v5, v6, rs, rfl, st, lr⟩
      rw [Int.zero_add]
      refine ⟨_, rfl, _, rfl, a, n, rfl, st.pl, n1, n8, fun t ws H3 k3 p3 et tp => ?_⟩
      have st3 := st.step k3 p3
      refine ⟨t, _, rfl, .inr (SqT.of et), fun B nB => ?_⟩
      have sB := Same.put (o := .lst (cV ws)) nB
      have eB : (upd H3 B (.lst (cV ws))) B = some (.lst (cV ws)) := upd_same
      have Ba := new_ne p3 nB
      have Bl : B ≠ l := fun z => by rw [z, st3.el] at nB; cases nB
      have nB1 : H1 B = none := by
        cases e : H1 B with
        | none => rfl
        | some o => rw [st3.kp B o e Ba] at nB; cases nB
      have st4 := st3.same sB
      generalize (upd H3 B (.lst (cV ws))) = H4 at eB st4 ⊢
      clear sB nB st3 et k3 p3 st
      refine ⟨_, rfl, a, 3, rfl, st4.pl, by decide, by decide, fun y o2 y0 y1 ho2 => ?_⟩
      have st5 := st4.draw ho2
      have eB5 : (upd H4 a o2) B = some (.lst (cV ws)) := by rw [upd_ne Ba]; exact eB
      generalize (upd H4 a o2) = H5 at st5 eB5 ⊢
      have nb : ∀ (H6 : Hp) (B2 : Addr), Same H5 H6 → H6 B2 = none → H1 B2 = none ∧ B2 ≠ a ∧ B2 ≠ l := by
        intro H6 B2 s6 nB2
        have st6 := st5.same s6
        have B2a := new_ne st6.pl nB2
        refine ⟨?_, B2a, fun z => by rw [z, st6.el] at nB2; cases nB2⟩
        cases e : H1 B2 with
        | none => rfl
        | some o => rw [st6.kp B2 o e B2a] at nB2; cases nB2
      refine ⟨_, _, rfl, rfl, _, rfl, iteB (fun _ => ?_) (fun _ => ?_)⟩
      · refine quT a l B n i ws _ v6 _ H5 n8 hi eB5 tp.1 tp.2.2 fun B2 us H7 s7 nB2 e7 lu bu => ?_
        obtain ⟨q1, q2, q3⟩ := nb H5 B2 (Same.refl H5) nB2
        exact qu a l B2 n i rs us _ v6 _ H1 H7 n8 hi (st5.same s7) (by omega) e7 q1 q2 q3 lu bu fun r H' st' => ⟨_, _, v6, _, rfl, st', by rw [List.length_append, lr]; rfl⟩
      · refine ⟨_, rfl, _, rfl, _, _, rfl, rfl, by show 2 ≤ sizeLine; decide, fun c2 nc2 => ?_⟩
        have s6 := Same.put (o := .tup [.int 0, .int ((n : Int) - 1)]) nc2
        refine ⟨c2, _, rfl, .inr (SqT.of upd_same), rfl, rfl, _, rfl, iteB (fun _ => ?_) (fun _ => ?_)⟩
        · refine quT a l B n i ws _ v6 _ _ n8 hi (s6 _ _ eB5) tp.1 tp.2.2 fun B2 us H7 s7 nB2 e7 lu bu => ?_
          obtain ⟨q1, q2, q3⟩ := nb _ B2 s6 nB2
          exact qu a l B2 n i rs us _ v6 _ H1 H7 n8 hi ((st5.same s6).same s7) (by omega) e7 q1 q2 q3 lu bu fun r H' st' => ⟨_, _, v6, _, rfl, st', by rw [List.length_append, lr]; rfl⟩
        · exact qu a l B n i rs ws _ v6 _ H1 _ n8 hi (st5.same s6) (by omega) (s6 _ _ eB5) nB1 Ba Bl tp.1 tp.2.2 fun r H' st' => ⟨_, _, v6, _, rfl, st', by rw [List.length_append, lr]; rfl⟩
    · rintro σ H2 ⟨v4, v5, v6, rs, rfl, st, lr⟩
      exact ⟨_, rfl, k l rs H2 (k1.trans st.kp) st.pl st.el st.rw_ lr⟩
end
end KJ
set_option Elab.async false
set_option linter.all false
set_option maxRecDepth 100000
set_option maxHeartbeats 4000000
namespace KJ
open PySem L2
def PosW (ws : List Nat) : Prop := ∃ (j y : Nat), ws[j]? = some y ∧ 0 < y
theorem PosW.sum {ws : List Nat} (h : PosW ws) : 0 < ws.sum := by
  obtain ⟨j, y, hy, py⟩ := h
  exact sum_pos_of hy py
end KJ
set_option Elab.async false
set_option linter.all false
set_option maxRecDepth 100000
set_option maxHeartbeats 4000000
namespace KJ
open PySem L2
/-- _law_size(pool, 5) -/
def spSize : Sp := fun vs H Q _ => ∃ (a : Addr), vs = [.ref a, .int 5] ∧ PoolAt H a ∧ ∀ (n : Nat) (H' : Hp), 1 ≤ n → n ≤ 8 → Keep a H H' → PoolAt H' a → Q (.int (n : Int)) H'
section
variable {P : Program} {w : World} {K : PySem.W.Frag} {mg : Str → Option Value} {base : Heap} {C : Addr}
abbrev s_size : Stmt := top 52
theorem sc_size : FnScope ["_law_pool_here", "_law_most"] ["_law_pool_here", "_law_most"] (defScope s_size) := ⟨rfl, rfl, rfl, by decide +kernel, rfl, by decide +kernel, by decide +kernel⟩
theorem ok_size {f : Addr} {fd : FuncData} (F : Fun K "_law_size" "_law_size" s_size f fd) (T : Bm mg) (c_draw : Cal P w K mg base 1 "_law_draw" ["_law_pool_here", "_law_many"] spDraw) : FnOk P w K mg base CX0 2 f fd ["_law_pool_here", "_law_most"] spSize := by
  refine F.ok sc_size (fun vs H Q E h => ?_) (fun cdv A outer s H vs Q E hr h => ?_)
  · obtain ⟨a, rfl, _⟩ := h
    rfl
  · obtain ⟨a, rfl, hp, k⟩ := h
    refine ⟨_, (pss_cons (ps_if (pt_cmpR op_eq (pe_cal c_draw (hr.mono (by decide)) rfl (pa_cons (pv 0) (pa_cons pe_int pa_nil))) pe_int (nomark _))
        (pss_one (ps_ret pe_int))
        pss_nil)
      (pss_one (ps_ret (pe_callB (call_min2 rfl) (by rfl) T.n_min (by decide +kernel) (pa_cons (pv 1) (pa_cons (pe_ix ix_tup (pe_tup (pa_cons pe_int (pa_cons pe_int (pa_cons pe_int (pa_cons pe_int (pa_cons pe_int (pa_cons pe_int (pa_cons pe_int (pa_cons pe_int (pa_cons pe_int (pa_cons pe_int pa_nil))))))))))) (pe_cal c_draw (hr.mono (by decide)) rfl (pa_cons (pv 0) (pa_cons pe_int pa_nil))) (fun _ _ => rfl)) pa_nil)))))), ?_⟩
    refine ⟨_, rfl, a, 30, rfl, hp, by decide, by decide, fun y o y0 y1 ho => ?_⟩
    obtain ⟨p1, k1⟩ := drawn hp (Keep.refl a H) ho
    generalize (upd H a o) = H1 at p1 k1 ⊢
    refine ⟨rfl, _, rfl, iteA (k 1 H1 (by decide) (by decide) k1 p1) ?_⟩
    refine ⟨_, rfl, by show 10 ≤ sizeLine; decide, fun t nt => ?_⟩
    have s2 := Same.put (o := .tup (cV [2, 2, 3, 3, 3, 3, 4, 4, 4, 5])) nt
    have e2 : (upd H1 t (.tup (cV [2, 2, 3, 3, 3, 3, 4, 4, 4, 5]))) t = some (.tup (cV [2, 2, 3, 3, 3, 3, 4, 4, 4, 5])) := upd_same
    have p2 := p1.same s2
    have k2 := k1.trans (Keep.of s2)
    show tCall spDraw [] E0 _ _ (upd H1 t (.tup (cV [2, 2, 3, 3, 3, 3, 4, 4, 4, 5]))) _
    generalize (upd H1 t (.tup (cV [2, 2, 3, 3, 3, 3, 4, 4, 4, 5]))) = H2 at e2 p2 k2 ⊢
    refine ⟨_, rfl, a, 10, rfl, p2, by decide, by decide, fun r o r0 r1 ho => ?_⟩
    obtain ⟨p3, k3⟩ := drawn p2 k2 ho
    have e3 : (upd H2 a o) t = some (.tup (cV [2, 2, 3, 3, 3, 3, 4, 4, 4, 5])) := by rw [upd_ne (p2.ne e2)]; exact e2
    generalize (upd H2 a o) = H3 at p3 k3 e3 ⊢
    obtain ⟨j, rfl⟩ := nat_of r0
    have hj : j < [2, 2, 3, 3, 3, 3, 4, 4, 4, 5].length := by show j < 10; omega
    have gj : ([2, 2, 3, 3, 3, 3, 4, 4, 4, 5] : List Nat)[j]? = some [2, 2, 3, 3, 3, 3, 4, 4, 4, 5][j] := List.getElem?_eq_getElem hj
    have gx : 1 ≤ [2, 2, 3, 3, 3, 3, 4, 4, 4, 5][j] ∧ [2, 2, 3, 3, 3, 3, 4, 4, 4, 5][j] ≤ 5 := (by decide : ∀ x ∈ ([2, 2, 3, 3, 3, 3, 4, 4, 4, 5] : List Nat), 1 ≤ x ∧ x ≤ 5) _ (List.mem_of_getElem? gj)
    generalize [2, 2, 3, 3, 3, 3, 4, 4, 4, 5][j] = x at gj gx
    refine ⟨t, _, _, _, rfl, rfl, SqT.of e3, atI_nat (cV_at gj), 5, (x : Int), rfl, ?_⟩
    have e : (if (x : Int) < 5 then (x : Int) else 5) = (x : Int) := by split <;> omega
    have := k x H3 gx.1 (by omega) k3 p3
    rw [← e] at this
    exact this
abbrev s_rows : Stmt := top 50
abbrev nRo : List Str := ["_law_pool_here", "_law_size_here", "_law_way", "_law_k"]
theorem sc_rows : FnScope nRo ["_law_pool_here", "_law_size_here"] (defScope s_rows) := ⟨rfl, rfl, rfl, by decide +kernel, rfl, by decide +kernel, by decide +kernel⟩
theorem ok_rows {f : Addr} {fd : FuncData} (F : Fun K "_law_rows" "_law_rows" s_rows f fd) (T : Bm mg) (c_draw : Cal P w K mg base 1 "_law_draw" ["_law_pool_here", "_law_many"] spDraw) (c_tops : Cal P w K mg base 2 "_law_tops" ["_law_pool_here", "_law_size_here"] spTops)
    (c_alike : Cal P w K mg base 3 "_law_rows_alike" ["_law_pool_here", "_law_size_here"] spRowsG) (c_turning : Cal P w K mg base 3 "_law_rows_turning" ["_law_pool_here", "_law_size_here"] spRowsG) (c_parted : Cal P w K mg base 3 "_law_rows_parted" ["_law_pool_here", "_law_size_here"] spRowsG) : FnOk P w K mg base CX0 4 f fd ["_law_pool_here", "_law_size_here"] spRowsG := by
  refine F.ok sc_rows (fun vs H Q E h => ?_) (fun cdv A outer s H vs Q E hr h => ?_)
  · obtain ⟨a, n, rfl, _⟩ := h
    rfl
  · obtain ⟨a, n, rfl, hp, n1, n8, k⟩ := h
    refine ⟨_, (pss_cons (ps_set (i := 2) sc_rows.nd rfl (Or.inl rfl) (pe_cal c_draw (hr.mono (by decide)) rfl (pa_cons (pv 0) (pa_cons pe_int pa_nil))))
      (pss_cons (ps_if (pt_cmpR op_lt (pv 2) pe_int (nomark _))
        (pss_one (ps_ret (pe_cal c_alike (hr.mono (by decide)) rfl (pa_cons (pv 0) (pa_cons (pv 1) pa_nil)))))
        pss_nil)
      (pss_cons (ps_if (pt_cmpR op_eq (pv 2) pe_int (nomark _))
        (pss_one (ps_ret (pe_cal c_turning (hr.mono (by decide)) rfl (pa_cons (pv 0) (pa_cons (pv 1) pa_nil)))))
        pss_nil)
      (pss_cons (ps_if (pt_cmpR op_lt (pv 2) pe_int (nomark _))
        (pss_one (ps_ret (pe_cal c_parted (hr.mono (by decide)) rfl (pa_cons (pv 0) (pa_cons (pv 1) pa_nil)))))
        pss_nil)
      (pss_one (ps_ret (pe_lc (own := [("_law_k", 3)]) rfl sc_rows.nd (pi_range1 (by rfl) T.n_range (pa_cons (pv 1) pa_nil)) (blkOk_by (N := nRo) (sc := defScope s_rows) (by decide +kernel)) (fun _ _ _ _ _ => (pg_name (i := 3) sc_rows.nd rfl (Or.inl rfl))) (fun _ _ _ _ _ => pts_nil) (fun _ _ _ _ _ => (pe_cal c_tops (hr.mono (by decide)) rfl (pa_cons (pv 0) (pa_cons (pv 1) pa_nil))))))))))), ?_⟩
    refine ⟨_, rfl, a, 8, rfl, hp, by decide, by decide, fun y o y0 y1 ho => ?_⟩
    obtain ⟨p1, k1⟩ := drawn hp (Keep.refl a H) ho
    generalize (upd H a o) = H1 at p1 k1 ⊢
    have sub : spRowsG [.ref a, .int (n : Int)] H1 Q E0 := ⟨a, n, rfl, p1, n1, n8, fun l rs H' k2 p2 el rw_ len => k l rs H' (k1.trans k2) p2 el rw_ len⟩
    refine ⟨_, rfl, _, _, rfl, rfl, _, rfl, iteA ⟨_, rfl, _, rfl, sub⟩ ?_⟩
    refine ⟨_, rfl, rfl, _, rfl, iteA ⟨_, rfl, _, rfl, sub⟩ ?_⟩
    refine ⟨_, rfl, _, _, rfl, rfl, _, rfl, iteA ⟨_, rfl, _, rfl, sub⟩ ?_⟩
    refine ⟨_, rfl, _, rfl, by omega, by omega, fun l nl => ?_⟩
    rw [Int.toNat_natCast]
    refine lc_range (fun i H' => ∃ rs, RowsSt n a H1 l H' rs ∧ rs.length = i) ⟨[], RowsSt.new p1 nl, rfl⟩ ?_ ?_
    · rintro i H' hi ⟨rs, st, lr⟩
      refine ⟨rfl, yes_of ?_⟩
      refine ⟨_, rfl, _, rfl, a, n, rfl, st.pl, n1, n8, fun t ws H2 k2 p2 et tp => ?_⟩
      have st2 := st.step k2 p2
      exact ⟨_, st2.el, by rw [rfs_len]; exact small_len (by omega), rs ++ [(t, ws)], st2.push (r := (t, ws)) ⟨et, tp⟩, by rw [List.length_append, lr]; rfl⟩
    · rintro H' ⟨rs, st, lr⟩
      exact k l rs H' (k1.trans st.kp) st.pl st.el st.rw_ lr
end
end KJ
set_option Elab.async false
set_option linter.all false
set_option maxRecDepth 100000
set_option maxHeartbeats 4000000
set_option Elab.async false
set_option linter.all false
set_option maxRecDepth 100000
set_option maxHeartbeats 4000000
namespace KJ
open PySem L2 TL
/-! ### names -/
def Nam (x : Str) : Prop := 1 ≤ x.cps.toList.length ∧ x.cps.toList.length ≤ 8 ∧ ∀ c ∈ x.cps.toList, 97 ≤ c ∧ c ≤ 122
def abc : Str := "abcdefghijklmnopqrstuvwxyz"
theorem abc_tl : abc.cps.toList = (List.range 26).map (97 + ·) := by decide +kernel
theorem abc_at {k : Nat} (h : k < 26) : abc.cps.toList[k]? = some (97 + k) := by
  rw [abc_tl, List.getElem?_map, List.getElem?_range h]
  rfl
theorem abc_mem {c : Nat} (h : 97 ≤ c ∧ c ≤ 122) : c ∈ abc.cps.toList := by
  rw [abc_tl]
  exact List.mem_map.mpr ⟨c - 97, List.mem_range.mpr (by omega), by omega⟩
abbrev one (c : Nat) : Str := ⟨#[c]⟩
theorem join_one : ∀ cs : List Nat, joinL [] (cs.map fun c => [c]) = cs
  | [] => rfl
  | [_] => rfl
  | a :: b :: r => by
    show [a] ++ ([] ++ joinL [] ((b :: r).map fun c => [c])) = a :: b :: r
    rw [join_one (b :: r)]
    rfl
theorem join_tl (cs : List Nat) : (Txt.join "" (cs.map one)).cps.toList = cs := by
  have h := tl_join "" (cs.map one)
  rw [← join_eq] at h
  have e : (cs.map one).map tl = cs.map fun c => [c] := by rw [List.map_map]; rfl
  have e0 : tl ("" : Str) = [] := by decide +kernel
  rw [e, e0, join_one] at h
  exact h
/-- one of many unlike ones is not in a short list -/
theorem pigeon {α : Type} {f : Nat → α} (inj : ∀ i j, f i = f j → i = j) : ∀ (l : List α) (S : List Nat), S.Nodup → l.length < S.length → ∃ k ∈ S, f k ∉ l
  | [], S, _, h => by
    cases S with
    | nil => cases h
    | cons k r => exact ⟨k, List.mem_cons_self, by intro m; cases m⟩
  | a :: r, S, nd, h => by
    by_cases e : ∃ k ∈ S, f k = a
    · obtain ⟨k0, m0, e0⟩ := e
      have len : r.length < (S.erase k0).length := by
        rw [List.length_erase_of_mem m0]
        have : (a :: r).length = r.length + 1 := rfl
        omega
      obtain ⟨k, m, nk⟩ := pigeon inj r (S.erase k0) (nd.erase k0) len
      have mk := (List.Nodup.mem_erase_iff nd).mp m
      refine ⟨k, mk.2, fun q => ?_⟩
      rcases List.mem_cons.mp q with q | q
      · exact mk.1 (inj k k0 (by rw [q, e0]))
      · exact nk q
    · obtain ⟨k, m, nk⟩ := pigeon inj r S nd (by have : (a :: r).length = r.length + 1 := rfl; omega)
      refine ⟨k, m, fun q => ?_⟩
      rcases List.mem_cons.mp q with q | q
      · exact e ⟨k, m, q⟩
      · exact nk q
/-- a spare name -/
def spare (k : Nat) : Str := ("zzzzz" : Str) ++ one (97 + k / 26) ++ one (97 + k % 26)
theorem spare_tl (k : Nat) : (spare k).cps.toList = [122, 122, 122, 122, 122, 97 + k / 26, 97 + k % 26] := by
  show tl (("zzzzz" : Str) ++ one (97 + k / 26) ++ one (97 + k % 26)) = _
  rw [tl_append, tl_append]
  have e : tl ("zzzzz" : Str) = [122, 122, 122, 122, 122] := by decide +kernel
  rw [e]
  rfl
theorem spare_inj (i j : Nat) (h : spare i = spare j) : i = j := by
  have e := congrArg (fun x : Str => x.cps.toList) h
  simp only [spare_tl, List.cons.injEq, and_true, true_and] at e
  omega
theorem spare_nam {k : Nat} (h : k < 676) : Nam (spare k) := by
  unfold Nam
  rw [spare_tl]
  refine ⟨by show 1 ≤ 7; decide, by show 7 ≤ 8; decide, fun c m => ?_⟩
  simp only [List.mem_cons, List.not_mem_nil, or_false] at m
  omega
/-- all but the pool and the list of names so far -/
def Keep2 (a tk : Addr) (H H' : Hp) : Prop := ∀ b o, H b = some o → b ≠ a → b ≠ tk → H' b = some o
abbrev sV (ws : List Str) : List V := ws.map V.str
theorem sV_len {ws : List Str} : (sV ws).length = ws.length := List.length_map _
theorem sV_snoc (ws : List Str) (x : Str) : sV ws ++ [V.str x] = sV (ws ++ [x]) := by rw [sV, sV, List.map_append]; rfl
theorem sV_flat (ws : List Str) : (sV ws).all flatV = true := List.all_eq_true.mpr fun x m => by
  obtain ⟨k, _, rfl⟩ := List.mem_map.mp m
  rfl
theorem inV_mem {x : Str} {ws : List Str} : inV (.str x) (sV ws) = decide (x ∈ ws) := by
  rw [Bool.eq_iff_iff, decide_eq_true_eq]
  unfold inV
  rw [List.any_eq_true]
  constructor
  · rintro ⟨v, m, e⟩
    obtain ⟨y, my, rfl⟩ := List.mem_map.mp m
    have e : (y == x) = true := e
    rw [← beq_iff_eq.mp e]
    exact my
  · intro m
    exact ⟨.str x, List.mem_map.mpr ⟨x, m, rfl⟩, by show (x == x) = true; exact beq_self_eq_true x⟩
def spIsName : Sp := fun vs H Q _ => ∃ x : Str, vs = [.str x] ∧ Nam x ∧ ∀ H', Same H H' → Q (.bl true) H'
/-- _law_name(pool, taken) -/
def spName : Sp := fun vs H Q _ => ∃ (a tk : Addr) (ws : List Str), vs = [.ref a, .ref tk] ∧ PoolAt H a ∧ tk ≠ a ∧ H tk = some (.lst (sV ws)) ∧ ws.length ≤ 8 ∧
  ∀ (x : Str) (H' : Hp), Nam x → x ∉ ws → Keep2 a tk H H' → PoolAt H' a → H' tk = some (.lst (sV (ws ++ [x]))) → Q (.str x) H'
section
variable {P : Program} {w : World} {K : PySem.W.Frag} {mg : Str → Option Value} {base : Heap} {C : Addr}
abbrev s_is_name : Stmt := top 14
theorem sc_is_name : FnScope ["thing", "letter"] ["thing"] (defScope s_is_name) := ⟨rfl, rfl, rfl, by decide +kernel, rfl, by decide +kernel, by decide +kernel⟩
theorem ok_is_name {f : Addr} {fd : FuncData} (F : Fun K "is_name" "is_name" s_is_name f fd) (T : Bm mg) (gL : ∃ t, mg "LETTERS" = some (.str abc t)) : FnOk P w K mg base CX0 1 f fd ["thing"] spIsName := by
  obtain ⟨tL, gL⟩ := gL
  refine F.ok sc_is_name (fun vs H Q E h => ?_) (fun cdv A outer s H vs Q E hr h => ?_)
  · obtain ⟨x, rfl, _⟩ := h
    rfl
  · obtain ⟨x, rfl, ⟨h1, h2, h3⟩, k⟩ := h
    refine ⟨_, (pss_cons (ps_if (PW.pt (pw_or (pt_not (pt_val (pe_callB call_isi (by rfl) T.b.n_isinstance (by decide +kernel) (pa_cons (pv 0) (pa_cons (pe_bltn (v := .ty "str") rfl T.b.n_str (by decide +kernel) rfl) pa_nil))))) (pw_or1 (pt_not (pt_chain op_le op_le pe_int (pe_callB call_len_str (by rfl) T.b.n_len PySem.boot_len (pa_cons (pv 0) pa_nil)) pe_int)))))
        (pss_one (ps_ret pe_bl))
        pss_nil)
      (pss_one (ps_ret (pe_callB (cr_all rfl) (by rfl) T.n_all PyProof.Rows.boot_all (pa_cons (pe_lc (own := [("letter", 1)]) rfl sc_is_name.nd (pi_str (pv 0)) (blkOk_by (N := ["thing", "letter"]) (sc := defScope s_is_name) (by decide +kernel)) (fun _ _ _ _ _ => (pg_name (i := 1) sc_is_name.nd rfl (Or.inl rfl))) (fun _ _ _ _ _ => pts_nil) (fun _ _ _ _ _ => (pe_cmpR op_in_sign (pv 1) (pe_glob (v := .str abc) rfl gL ⟨_, rfl⟩) (by rfl)))) pa_nil))))), ?_⟩
    have hl : x.length = x.cps.toList.length := (Array.length_toList).symm
    refine ⟨_, rfl, .str x, .ty "str", _, _, true, rfl, .ty _, .base (.str x), kit_ty (r := true) (by decide +kernel), _, rfl, iteF ?_⟩
    refine ⟨_, rfl, x, rfl, Nat.le_of_lt (small_len (by omega)), 1, (x.length : Int), rfl, rfl, _, rfl, iteTe (decide_eq_true (by omega)) ?_⟩
    refine ⟨(x.length : Int), 8, rfl, rfl, true, congrArg V.bl (decide_eq_true (by omega)), iteF ?_⟩
    refine ⟨_, rfl, x, rfl, fun D nD => ?_⟩
    let Pv : Nat → Hp → Prop := fun i H' => Same H H' ∧ H' D = some (.lst ((List.replicate i true).map V.bl))
    refine ⟨fun i m H' => m + i = x.cps.size ∧ Pv i H', ⟨x.cps.size, rfl, Same.put nD, upd_same⟩, fun i m H1 ⟨em, p⟩ => ?_⟩
    have hs : x.cps.size = x.cps.toList.length := (Array.length_toList).symm
    cases m with
    | zero =>
      refine .inl ⟨show x.cps.size ≤ i by omega, D, _, rfl, SqL.of p.2, ?_⟩
      have e : (List.replicate i true).all id = true := List.all_eq_true.mpr fun b m => List.eq_of_mem_replicate m
      rw [e]
      exact k H1 p.1
    | succ m =>
      refine .inr ⟨show i < x.cps.size by omega, Pv (i + 1), fun H' p' => ⟨m, Nat.lt_succ_self m, by omega, p'⟩, fun v H' y => ?_⟩
      obtain ⟨e, c, hc, rfl⟩ := y
      subst e
      have mc : c ∈ x.cps.toList := by
        have := Array.mem_of_getElem? hc
        exact Array.mem_toList_iff.mpr this
      refine ⟨rfl, yes_of ?_⟩
      refine ⟨_, rfl, c, abc, rfl, rfl, ?_⟩
      rw [decide_eq_true (abc_mem (h3 c mc))]
      refine ⟨_, p.2, by rw [List.length_map, List.length_replicate]; exact small_len (by omega), Same.but (fun b u e => p.1 _ _ e) nD, ?_⟩
      rw [upd_same, List.replicate_succ', List.map_append]
      rfl
end
end KJ
set_option Elab.async false
set_option linter.all false
set_option maxRecDepth 100000
set_option maxHeartbeats 4000000
namespace KJ
open PySem L2 TL
theorem lenZ : ("zzzzz" : Str).length = 5 := by decide +kernel
theorem lenZ1 (c : Nat) : (("zzzzz" : Str) ++ one c).length = 6 := by
  show (("zzzzz" : Str) ++ one c).cps.size = 6
  rw [show (("zzzzz" : Str) ++ one c).cps.size = (tl (("zzzzz" : Str) ++ one c)).length from (Array.length_toList).symm, tl_append, List.length_append]
  have : (tl ("zzzzz" : Str)).length = 5 := by decide +kernel
  rw [this]
  rfl
theorem Keep2.of {a tk : Addr} {H H' : Hp} (k : Keep a H H') : Keep2 a tk H H' := fun b o h n _ => k b o h n
theorem Keep2.put {a tk : Addr} {H H' : Hp} {o : HO} (k : Keep2 a tk H H') : Keep2 a tk H (upd H' tk o) := fun b u h n n2 => by rw [upd_ne n2]; exact k b u h n n2
section
variable {P : Program} {w : World} {K : PySem.W.Frag} {mg : Str → Option Value} {base : Heap} {C : Addr}
abbrev s_name : Stmt := top 43
abbrev nNa : List Str := ["_law_pool_here", "_law_taken", "_law_letters", "_law_size_here", "_law_word_here", "_law_k", "_law_x"]
theorem sc_name : FnScope nNa ["_law_pool_here", "_law_taken"] (defScope s_name) := ⟨rfl, rfl, rfl, by decide +kernel, rfl, by decide +kernel, by decide +kernel⟩
abbrev XNa (P : Program) (w : World) (K : PySem.W.Frag) (mg : Str → Option Value) (base : Heap) (f : Addr) (cdv : Value) (A : Around) (outer : List Env) (s : Shared) (H : Hp) (E : XK) : Cx :=
  (cxOf CX0 P w K mg base nNa "_law_name" (defScope s_name) f cdv A outer s H E).nox
/-- a word that is taken gives way to a spare one -/
theorem segNa3 {f : Addr} {cdv : Value} {A : Around} {outer : List Env} {s : Shared} {H : Hp} {E : XK} {Q : VK} (T : Bm mg) :
    ∃ u, PSs (XNa P w K mg base f cdv A outer s H E) ((defBody s_name).drop 3) u ∧ ∀ (a tk : Addr) (ws : List Str) (v3 : Option V) (x : Str) (G : Hp), PoolAt G a → tk ≠ a → G tk = some (.lst (sV ws)) → ws.length ≤ 8 → Nam x →
      (∀ (x : Str) (H' : Hp), Nam x → x ∉ ws → Keep2 a tk G H' → PoolAt H' a → H' tk = some (.lst (sV (ws ++ [x]))) → Q (.str x) H') →
      u { nx := fun _ H' => Q .non H', rt := Q } [some (.ref a), some (.ref tk), some (.str abc), v3, some (.str x), none, none] G := by
  refine ⟨_, (pss_cons (ps_if (pt_cmpR op_in_seq (pv 4) (pv 1) (by rfl))
      (pss_one (ps_set (i := 4) sc_name.nd rfl (Or.inl rfl) (pe_ix ix_list (pe_lc (own := [("_law_x", 6)]) rfl sc_name.nd (pi_list (pe_lc (own := [("_law_k", 5)]) rfl sc_name.nd (pi_range1 (by rfl) T.n_range (pa_cons pe_int pa_nil)) (blkOk_by (N := nNa) (sc := defScope s_name) (by decide +kernel)) (fun _ _ _ _ _ => (pg_name (i := 5) sc_name.nd rfl (Or.inl rfl))) (fun _ _ _ _ _ => pts_nil) (fun _ _ _ _ _ => (pe_op op_add_str (pe_op op_add_str pe_str (pe_ix (show IxR _ rIxS from ix_str) (pv 2) (pe_op op_fdivW (pv 5) pe_int) (fun _ _ => rfl))) (pe_ix (show IxR _ rIxS from ix_str) (pv 2) (pe_op op_modN (pe_callTy call_int1 (by rfl) T.b.n_int (by decide +kernel) (pa_cons (pv 5) pa_nil)) pe_int) (fun _ _ => rfl)))))) (blkOk_by (N := nNa) (sc := defScope s_name) (by decide +kernel)) (fun _ _ _ _ _ => (pg_name (i := 6) sc_name.nd rfl (Or.inl rfl))) (fun _ _ _ _ _ => (pts_one (pt_cmpR (show OpR _ _ (rIn K true) from op_notIn_seq) (pv 6) (pv 1) (by rfl)))) (fun _ _ _ _ _ => (pv 6))) pe_int (fun _ _ => rfl))))
      pss_nil)
    (pss_cons (ps_expr (pe_bm PySem.F.plainAttrs_list PySem.F.slot_list_append PySem.F.type_list_append mt_append (pv 1) (pa_cons (pv 4) pa_nil)))
    (pss_one (ps_ret (pv 4))))), ?_⟩
  intro a tk ws v3 x G hp ta et lw nx k
  have fin : ∀ (y : Str) (G2 : Hp), Nam y → y ∉ ws → Same G G2 → ∃ l xs z, V.ref tk = .ref l ∧ [V.str y] = [z] ∧ G2 l = some (.lst xs) ∧ xs.length < sizeLine ∧ Q (.str y) (upd G2 l (.lst (xs ++ [z]))) := by
    intro y G2 ny yw s2
    refine ⟨tk, _, _, rfl, rfl, s2 _ _ et, by rw [sV_len]; exact small_len (by omega), k y _ ny yw ((Keep2.of (Keep.of s2)).put) ((hp.same s2).other (Ne.symm ta)) (by rw [upd_same, sV_snoc])⟩
  refine ⟨_, rfl, _, rfl, tk, _, rfl, .inl (SqL.of et), rfl, sV_flat ws, _, rfl, iteB (fun _ => ?_) (fun zx => ?_)⟩
  · refine ⟨676, rfl, by decide, by decide, fun B nB => ?_⟩
    refine lc_range (n := 676) (fun i H' => Same G H' ∧ H' B = some (.lst (sV ((List.range i).map spare)))) ⟨Same.put nB, upd_same⟩ ?_ ?_
    · rintro i H' hi ⟨s1, eB⟩
      rw [Int.zero_add]
      refine ⟨rfl, yes_of ?_⟩
      have d26 : ((i : Int) / 26) = ((i / 26 : Nat) : Int) := by omega
      have m26 : ((i : Int)).fmod 26 = ((i % 26 : Nat) : Int) := fmod_nat i 26
      refine ⟨_, rfl, _, rfl, (i : Int), 26, rfl, rfl, ⟨by decide, by decide⟩, abc, ((i / 26 : Nat) : Int), 97 + i / 26, rfl, congrArg V.int d26, Nat.le_of_lt (small_len (by decide +kernel)), atI_nat (abc_at (by omega)), _, _, rfl, rfl, Nat.le_of_lt (small_len (by rw [lenZ]; show 5 + 1 ≤ 1000; decide)), ?_⟩
      refine ⟨_, rfl, _, rfl, .inl ⟨_, rfl, (i : Int), 26, rfl, rfl, (by show (26 : Int) ≠ 0; decide), abc, ((i % 26 : Nat) : Int), 97 + i % 26, rfl, congrArg V.int m26, Nat.le_of_lt (small_len (by decide +kernel)), atI_nat (abc_at (by omega)), _, _, rfl, rfl, Nat.le_of_lt (small_len (by rw [lenZ1]; show 6 + 1 ≤ 1000; decide)), ?_⟩⟩
      refine ⟨_, eB, by rw [sV_len, List.length_map, List.length_range]; exact small_len (by omega), Same.but (fun b u e => s1 _ _ e) nB, ?_⟩
      rw [upd_same, List.range_succ, List.map_append]
      show some (HO.lst (sV _ ++ [V.str (spare i)])) = _
      rw [sV_snoc]
      rfl
    · rintro H1 ⟨s1, eB⟩
      generalize hC : (List.range 676).map spare = cands at eB
      have len : cands.length = 676 := by rw [← hC, List.length_map, List.length_range]
      refine ⟨B, rfl, ⟨_, SqL.of eB⟩, fun L nL => ?_⟩
      refine lc_list (K := K) (a := B) (xs := sV cands) (fun i H' => Same H1 H' ∧ H' L = some (.lst (sV ((cands.take i).filter fun y => !decide (y ∈ ws))))) ⟨Same.put nL, upd_same⟩ (fun i H' _ h => SqL.of (h.1 _ _ eB)) ?_ ?_
      · rintro i v H' hv ⟨s2, eL⟩
        obtain ⟨y, hy, rfl⟩ : ∃ y, cands[i]? = some y ∧ v = .str y := by
          rw [sV, List.getElem?_map] at hv
          cases e : cands[i]? with
          | none => rw [e] at hv; cases hv
          | some y => rw [e] at hv; exact ⟨y, rfl, (Option.some.inj hv).symm⟩
        have il := (List.getElem?_eq_some_iff.mp hy).1
        refine ⟨rfl, ?_⟩
        refine ⟨_, rfl, _, rfl, tk, _, rfl, .inl (SqL.of (s2 _ _ (s1 _ _ et))), rfl, sV_flat ws, ?_⟩
        rw [if_pos rfl, inV_mem]
        refine ⟨_, rfl, iteB (fun z => ?_) (fun z => ?_)⟩
        · refine ⟨_, rfl, _, eL, ?_, Same.but (fun b u e => s2 _ _ e) nL, ?_⟩
          · rw [sV_len]
            have := List.length_filter_le (fun y => !decide (y ∈ ws)) (cands.take i)
            rw [List.length_take] at this
            exact small_len (by omega)
          · rw [upd_same, take_more hy, List.filter_append, List.filter_cons, z, sV_snoc]
            rfl
        · refine ⟨s2, ?_⟩
          rw [take_more hy, List.filter_append, List.filter_cons, z]
          simpa using eL
      · rintro H2 ⟨s2, eL⟩
        rw [sV_len, List.take_length] at eL
        obtain ⟨q, mq, nq⟩ := pigeon spare_inj ws (List.range 676) List.nodup_range (by rw [List.length_range]; omega)
        have mem : spare q ∈ cands.filter fun y => !decide (y ∈ ws) := List.mem_filter.mpr ⟨by rw [← hC]; exact List.mem_map_of_mem mq, by rw [decide_eq_false nq]; rfl⟩
        have all : ∀ y ∈ cands.filter (fun y => !decide (y ∈ ws)), Nam y ∧ y ∉ ws := fun y m => by
          refine ⟨?_, fun h => by have := (List.mem_filter.mp m).2; rw [decide_eq_true h] at this; cases this⟩
          have := (List.mem_filter.mp m).1
          rw [← hC] at this
          obtain ⟨j, mj, rfl⟩ := List.mem_map.mp this
          exact spare_nam (List.mem_range.mp mj)
        generalize (cands.filter fun y => !decide (y ∈ ws)) = F2 at eL mem all
        obtain ⟨y, r, rfl⟩ : ∃ y r, F2 = y :: r := by
          cases F2 with
          | nil => cases mem
          | cons y r => exact ⟨y, r, rfl⟩
        refine ⟨L, _, 0, _, rfl, rfl, SqL.of eL, atI_nat (j := 0) rfl, ?_⟩
        refine ⟨_, rfl, .inl ⟨rfl, _, SqL.of (s2 _ _ (s1 _ _ et))⟩, _, rfl, ?_⟩
        obtain ⟨l, xs, z, h1, h2, h3, h4, h5⟩ := fin y H2 (all y List.mem_cons_self).1 (all y List.mem_cons_self).2 (s1.trans s2)
        exact ⟨l, xs, z, h1, h2, h3, h4, _, rfl, h5⟩
  · refine ⟨_, rfl, .inl ⟨rfl, _, SqL.of et⟩, _, rfl, ?_⟩
    obtain ⟨l, xs, z, h1, h2, h3, h4, h5⟩ := fin x G nx (by rw [inV_mem] at zx; exact of_decide_eq_false zx) (Same.refl G)
    exact ⟨l, xs, z, h1, h2, h3, h4, _, rfl, h5⟩
theorem ok_name {f : Addr} {fd : FuncData} (F : Fun K "_law_name" "_law_name" s_name f fd) (T : Bm mg) (c_draw : Cal P w K mg base 1 "_law_draw" ["_law_pool_here", "_law_many"] spDraw) : FnOk P w K mg base CX0 2 f fd ["_law_pool_here", "_law_taken"] spName := by
  refine F.ok sc_name (fun vs H Q E h => ?_) (fun cdv A outer s H vs Q E hr h => ?_)
  · obtain ⟨a, tk, ws, rfl, _⟩ := h
    rfl
  · obtain ⟨a, tk, ws, rfl, hp, ta, et, lw, k⟩ := h
    obtain ⟨u, hu, qu⟩ := segNa3 (P := P) (w := w) (K := K) (mg := mg) (base := base) (f := f) (cdv := cdv) (A := A) (outer := outer) (s := s) (H := H) (E := E) (Q := Q) T
    refine ⟨_, (pss_cons (ps_set (i := 2) sc_name.nd rfl (Or.inr rfl) pe_str)
      (pss_cons (ps_set (i := 3) sc_name.nd rfl (Or.inl rfl) (pe_ix ix_tup (pe_tup (pa_cons pe_int (pa_cons pe_int (pa_cons pe_int (pa_cons pe_int (pa_cons pe_int pa_nil)))))) (pe_cal c_draw (hr.mono (by decide)) rfl (pa_cons (pv 0) (pa_cons pe_int pa_nil))) (fun _ _ => rfl)))
      (pss_cons (ps_set (i := 4) sc_name.nd rfl (Or.inl rfl) (pe_join pe_str (pe_lc (own := [("_law_k", 5)]) rfl sc_name.nd (pi_range1 (by rfl) T.n_range (pa_cons (pv 3) pa_nil)) (blkOk_by (N := nNa) (sc := defScope s_name) (by decide +kernel)) (fun _ _ _ _ _ => (pg_name (i := 5) sc_name.nd rfl (Or.inl rfl))) (fun _ _ _ _ _ => pts_nil) (fun _ _ _ _ _ => (pe_ix (show IxR _ rIxS from ix_str) (pv 2) (pe_cal c_draw (hr.mono (by decide)) rfl (pa_cons (pv 0) (pa_cons pe_int pa_nil))) (fun _ _ => rfl)))))) hu))), ?_⟩
    refine ⟨by show 5 ≤ sizeLine; decide, fun t nt => ?_⟩
    have s1 := Same.put (o := .tup (cV [1, 1, 2, 3, 8])) nt
    have e1 : (upd H t (.tup (cV [1, 1, 2, 3, 8]))) t = some (.tup (cV [1, 1, 2, 3, 8])) := upd_same
    have p1 := hp.same s1
    have k1 : Keep a H (upd H t (.tup (cV [1, 1, 2, 3, 8]))) := Keep.of s1
    show tCall spDraw [] E0 _ _ (upd H t (.tup (cV [1, 1, 2, 3, 8]))) _
    generalize (upd H t (.tup (cV [1, 1, 2, 3, 8]))) = H1 at e1 p1 k1 ⊢
    refine ⟨_, rfl, a, 5, rfl, p1, by decide, by decide, fun r o r0 r1 ho => ?_⟩
    obtain ⟨p2, k2⟩ := drawn p1 k1 ho
    have e2 : (upd H1 a o) t = some (.tup (cV [1, 1, 2, 3, 8])) := by rw [upd_ne (p1.ne e1)]; exact e1
    generalize (upd H1 a o) = H2 at p2 k2 e2 ⊢
    obtain ⟨j, rfl⟩ := nat_of r0
    have hj : j < [1, 1, 2, 3, 8].length := by show j < 5; omega
    have gj : ([1, 1, 2, 3, 8] : List Nat)[j]? = some [1, 1, 2, 3, 8][j] := List.getElem?_eq_getElem hj
    have gx : 1 ≤ [1, 1, 2, 3, 8][j] ∧ [1, 1, 2, 3, 8][j] ≤ 8 := (by decide : ∀ x ∈ ([1, 1, 2, 3, 8] : List Nat), 1 ≤ x ∧ x ≤ 8) _ (List.mem_of_getElem? gj)
    generalize [1, 1, 2, 3, 8][j] = n at gj gx
    refine ⟨t, _, _, _, rfl, rfl, SqT.of e2, atI_nat (cV_at gj), ?_⟩
    refine ⟨⟨_, rfl⟩, _, rfl, _, rfl, by omega, by omega, fun D nD => ?_⟩
    rw [Int.toNat_natCast]
    have Da := new_ne p2 nD
    refine lc_range (fun i H' => Keep a H2 H' ∧ PoolAt H' a ∧ ∃ cs : List Nat, H' D = some (.lst (sV (cs.map one))) ∧ cs.length = i ∧ ∀ c ∈ cs, 97 ≤ c ∧ c ≤ 122) ⟨Keep.of (Same.put nD), p2.new nD, [], upd_same, rfl, fun _ m => (by cases m)⟩ ?_ ?_
    · rintro i H' hi ⟨k3, p3, cs, eD, lc, bc⟩
      refine ⟨rfl, yes_of ?_⟩
      refine ⟨_, rfl, _, rfl, a, 26, rfl, p3, by decide, by decide, fun r o2 r0 r1 ho2 => ?_⟩
      obtain ⟨p4, k4⟩ := drawn p3 k3 ho2
      have eD4 : (upd H' a o2) D = some (.lst (sV (cs.map one))) := by rw [upd_ne Da]; exact eD
      generalize (upd H' a o2) = H4 at p4 k4 eD4 ⊢
      obtain ⟨r, rfl⟩ := nat_of r0
      refine ⟨abc, (r : Int), 97 + r, rfl, rfl, Nat.le_of_lt (small_len (by decide +kernel)), atI_nat (abc_at (by omega)), ?_⟩
      refine ⟨_, eD4, by rw [sV_len, List.length_map]; exact small_len (by omega), k4.but nD, p4.other (Ne.symm Da), cs ++ [97 + r], ?_, by rw [List.length_append, lc]; rfl, fun c m => ?_⟩
      · rw [upd_same, sV_snoc, List.map_append]
        rfl
      · rcases List.mem_append.mp m with m | m
        · exact bc c m
        · rw [List.mem_singleton.mp m]
          omega
    · rintro H3 ⟨k3, p3, cs, eD, lc, bc⟩
      have kk := k2.trans k3
      have jt := join_tl cs
      refine ⟨"", D, cs.map one, rfl, rfl, .inl (SqL.of eD), ?_, ?_⟩
      · have : ∀ l : List Nat, ((l.map one).map (·.length)).sum = l.length := fun l => by
          induction l with
          | nil => rfl
          | cons c l ih =>
            rw [List.map_cons, List.map_cons, List.sum_cons, ih, List.length_cons]
            show 1 + l.length = _
            omega
        rw [this, List.length_map]
        have e0 : ("" : Str).length = 0 := by decide +kernel
        rw [e0]
        omega
      · exact qu a tk ws _ _ H3 p3 ta (kk _ _ et ta) lw ⟨by rw [jt]; omega, by rw [jt]; omega, fun c m => by rw [jt] at m; exact bc c m⟩ fun x H' nx nw k5 p5 e5 => k x H' nx nw (fun b o e n1 n2 => k5 b o (kk b o e n1) n1 n2) p5 e5
end
end KJ
set_option Elab.async false
set_option linter.all false
set_option maxRecDepth 100000
set_option maxHeartbeats 4000000
namespace KJ
open PySem L2 TL
theorem sV_at {ws : List Str} {i : Nat} {x : Str} (h : ws[i]? = some x) : (sV ws)[i]? = some (V.str x) := by rw [List.getElem?_map, h]; rfl
/-- labels: a tuple of names -/
def Lbs (n : Nat) (ls : List Str) : Prop := ls.length = n ∧ ∀ x ∈ ls, Nam x
def spLabels : Sp := fun vs H Q _ => ∃ (a : Addr) (n : Nat), vs = [.ref a, .int (n : Int)] ∧ PoolAt H a ∧ 1 ≤ n ∧ n ≤ 8 ∧ ∀ (t : Addr) (ls : List Str) (H' : Hp), Keep a H H' → PoolAt H' a → H' t = some (.tup (sV ls)) → Lbs n ls → Q (.ref t) H'
section
variable {P : Program} {w : World} {K : PySem.W.Frag} {mg : Str → Option Value} {base : Heap} {C : Addr}
abbrev s_labels : Stmt := top 51
abbrev nLb : List Str := ["_law_pool_here", "_law_size_here", "_law_taken", "_law_words", "_law_way", "_law_odd", "_law_k"]
theorem sc_labels : FnScope nLb ["_law_pool_here", "_law_size_here"] (defScope s_labels) := ⟨rfl, rfl, rfl, by decide +kernel, rfl, by decide +kernel, by decide +kernel⟩
theorem ok_labels {f : Addr} {fd : FuncData} (F : Fun K "_law_labels" "_law_labels" s_labels f fd) (T : Bm mg) (c_draw : Cal P w K mg base 1 "_law_draw" ["_law_pool_here", "_law_many"] spDraw) (c_name : Cal P w K mg base 2 "_law_name" ["_law_pool_here", "_law_taken"] spName) : FnOk P w K mg base CX0 3 f fd ["_law_pool_here", "_law_size_here"] spLabels := by
  refine F.ok sc_labels (fun vs H Q E h => ?_) (fun cdv A outer s H vs Q E hr h => ?_)
  · obtain ⟨a, n, rfl, _⟩ := h
    rfl
  · obtain ⟨a, n, rfl, hp, n1, n8, k⟩ := h
    refine ⟨_, (pss_cons (ps_set (i := 2) sc_labels.nd rfl (Or.inr rfl) (pe_lst pa_nil))
      (pss_cons (ps_set (i := 3) sc_labels.nd rfl (Or.inr rfl) (pe_lc (own := [("_law_k", 6)]) rfl sc_labels.nd (pi_range1 (by rfl) T.n_range (pa_cons (pv 1) pa_nil)) (blkOk_by (N := nLb) (sc := defScope s_labels) (by decide +kernel)) (fun _ _ _ _ _ => (pg_name (i := 6) sc_labels.nd rfl (Or.inl rfl))) (fun _ _ _ _ _ => pts_nil) (fun _ _ _ _ _ => (pe_cal c_name (hr.mono (by decide)) rfl (pa_cons (pv 0) (pa_cons (pv 2) pa_nil))))))
      (pss_cons (ps_set (i := 4) sc_labels.nd rfl (Or.inl rfl) (pe_cal c_draw (hr.mono (by decide)) rfl (pa_cons (pv 0) (pa_cons pe_int pa_nil))))
      (pss_cons (ps_if (pt_cmpR op_eq (pv 4) pe_int (nomark _))
        (pss_one (ps_ret (pe_callTy call_tuple_of (by rfl) T.n_tuple (by decide +kernel) (pa_cons (pv 3) pa_nil))))
        pss_nil)
      (pss_cons (ps_if (pt_cmpR op_lt (pv 4) pe_int (nomark _))
        (pss_one (ps_ret (pe_op (op_orR op_repT op_repT1) (pe_tup (pa_cons (pe_ix ix_list (pv 3) pe_int (fun _ _ => rfl)) pa_nil)) (pv 1))))
        pss_nil)
      (pss_cons (ps_if (pt_cmpR op_lt (pv 4) pe_int (nomark _))
        (pss_cons (ps_set (i := 5) sc_labels.nd rfl (Or.inr rfl) (pe_cal c_draw (hr.mono (by decide)) rfl (pa_cons (pv 0) (pa_cons (pv 1) pa_nil))))
          (pss_one (ps_ret (pe_callTy call_tuple_of (by rfl) T.n_tuple (by decide +kernel) (pa_cons (pe_lc (own := [("_law_k", 6)]) rfl sc_labels.nd (pi_range1 (by rfl) T.n_range (pa_cons (pv 1) pa_nil)) (blkOk_by (N := nLb) (sc := defScope s_labels) (by decide +kernel)) (fun _ _ _ _ _ => (pg_name (i := 6) sc_labels.nd rfl (Or.inl rfl))) (fun _ _ _ _ _ => pts_nil) (fun _ _ _ _ _ => (pe_ix (show IxR _ (rIxL K) from ix_list) (pv 3) (pe_op op_mul (pe_callTy call_int1 (by rfl) T.b.n_int (by decide +kernel) (pa_cons (pe_cmpR op_eq (pv 6) (pv 5) (nomark _)) pa_nil)) (pe_callTy call_int1 (by rfl) T.b.n_int (by decide +kernel) (pa_cons (pe_cmpR op_gt (pv 1) pe_int (nomark _)) pa_nil))) (fun _ _ => rfl)))) pa_nil)))))
        pss_nil)
      (pss_one (ps_ret (pe_callTy call_tuple_of (by rfl) T.n_tuple (by decide +kernel) (pa_cons (pe_lc (own := [("_law_k", 6)]) rfl sc_labels.nd (pi_range1 (by rfl) T.n_range (pa_cons (pv 1) pa_nil)) (blkOk_by (N := nLb) (sc := defScope s_labels) (by decide +kernel)) (fun _ _ _ _ _ => (pg_name (i := 6) sc_labels.nd rfl (Or.inl rfl))) (fun _ _ _ _ _ => pts_nil) (fun _ _ _ _ _ => (pe_ix (show IxR _ (rIxL K) from ix_list) (pv 3) (pe_cal c_draw (hr.mono (by decide)) rfl (pa_cons (pv 0) (pa_cons (pe_callB (call_min2 rfl) (by rfl) T.n_min (by decide +kernel) (pa_cons pe_int (pa_cons (pv 1) pa_nil))) pa_nil))) (fun _ _ => rfl)))) pa_nil)))))))))), ?_⟩
    refine ⟨by show 0 ≤ sizeLine; decide, fun tk ntk => ?_⟩
    have ta := new_ne hp ntk
    have p1 := hp.new (o := .lst []) ntk
    have k1 : Keep a H (upd H tk (.lst [])) := Keep.of (Same.put ntk)
    have et : (upd H tk (.lst [])) tk = some (.lst (sV [])) := upd_same
    generalize (upd H tk (.lst [])) = H1 at p1 k1 et ⊢
    refine ⟨_, rfl, _, rfl, by omega, by omega, fun D nD => ?_⟩
    rw [Int.toNat_natCast]
    have Da := new_ne p1 nD
    have Dt : tk ≠ D := fun z => by rw [z, nD] at et; cases et
    have nDH : H D = none := by
      cases e : H D with
      | none => rfl
      | some o => rw [k1 D o e Da] at nD; cases nD
    refine lc_range (fun i H' => Keep a H H' ∧ PoolAt H' a ∧ ∃ ws : List Str, H' D = some (.lst (sV ws)) ∧ H' tk = some (.lst (sV ws)) ∧ ws.length = i ∧ ∀ x ∈ ws, Nam x) ⟨k1.trans (Keep.of (Same.put nD)), p1.new nD, [], upd_same, by rw [upd_ne Dt]; exact et, rfl, fun _ m => (by cases m)⟩ ?_ ?_
    · rintro i H' hi ⟨k2, p2, ws, eD, e2, lw, nw⟩
      refine ⟨rfl, yes_of ?_⟩
      refine ⟨_, rfl, _, rfl, a, tk, ws, rfl, p2, ta, e2, by omega, fun x H3 nx _ k3 p3 e3 => ?_⟩
      have eD3 : H3 D = some (.lst (sV ws)) := k3 _ _ eD Da (Ne.symm Dt)
      have k4 : Keep a H H3 := fun b o e ne => k3 b o (k2 b o e ne) ne (ne_of_none e ntk)
      refine ⟨_, eD3, by rw [sV_len]; exact small_len (by omega), k4.but nDH, p3.other (Ne.symm Da), ws ++ [x], by rw [upd_same, sV_snoc], by rw [upd_ne Dt]; exact e3, by rw [List.length_append, lw]; rfl, fun y m => ?_⟩
      rcases List.mem_append.mp m with m | m
      · exact nw y m
      · rw [List.mem_singleton.mp m]; exact nx
    rintro H2 ⟨k2, p2, ws, eD, _, lw, nw⟩
    refine ⟨_, rfl, a, 8, rfl, p2, by decide, by decide, fun y o y0 y1 ho => ?_⟩
    obtain ⟨p3, k3⟩ := drawn p2 k2 ho
    have eD3 : (upd H2 a o) D = some (.lst (sV ws)) := by rw [upd_ne Da]; exact eD
    generalize (upd H2 a o) = H3 at p3 k3 eD3 ⊢
    have fin : ∀ (t : Addr) (ls : List Str) (G : Hp), Keep a H G → PoolAt G a → G t = none → Lbs n ls → Q (.ref t) (upd G t (.tup (sV ls))) := fun t ls G kG pG nt lb => k t ls _ (kG.trans (Keep.of (Same.put nt))) (pG.same (Same.put nt)) upd_same lb
    have w0 : ws[0]? = some ws[0] := List.getElem?_eq_getElem (by omega)
    have n0 := nw ws[0] (List.mem_of_getElem? w0)
    refine ⟨_, rfl, rfl, _, rfl, iteA ⟨_, rfl, D, _, rfl, .inl ⟨SqL.of eD3, fun t nt => fin t ws H3 k3 p3 nt ⟨lw, nw⟩⟩⟩ ?_⟩
    refine ⟨_, rfl, _, _, rfl, rfl, _, rfl, iteA ?_ ?_⟩
    · refine ⟨_, rfl, D, _, 0, _, rfl, rfl, SqL.of eD3, atI_nat (j := 0) (sV_at w0), by show 1 ≤ sizeLine; decide, fun c nc => ?_⟩
      have s4 := Same.put (o := .tup [V.str ws[0]]) nc
      have e4 : (upd H3 c (.tup [V.str ws[0]])) c = some (.tup [V.str ws[0]]) := upd_same
      have p4 := p3.same s4
      have k4 := k3.trans (Keep.of s4)
      generalize (upd H3 c (.tup [V.str ws[0]])) = H4 at e4 p4 k4 ⊢
      refine ⟨_, rfl, ?_⟩
      by_cases e : n = 1
      · subst e
        exact .inr ⟨c, _, rfl, rfl, SqT.of e4, k c [ws[0]] H4 k4 p4 e4 ⟨rfl, fun x m => by rw [List.mem_singleton.mp m]; exact n0⟩⟩
      · refine .inl ⟨c, (n : Int), _, rfl, rfl, SqT.of e4, by simp, by omega, by omega, by show 1 ≤ 1000; decide, fun t nt => ?_⟩
        have er : (List.replicate (n : Int).toNat [V.str ws[0]]).flatten = sV (List.replicate n ws[0]) := by
          rw [Int.toNat_natCast, sV, List.map_replicate]
          exact List.flatten_replicate_singleton
        rw [er]
        exact fin t _ H4 k4 p4 nt ⟨List.length_replicate, fun x m => by rw [List.eq_of_mem_replicate m]; exact n0⟩
    refine ⟨_, rfl, _, _, rfl, rfl, _, rfl, iteA ?_ ?_⟩
    · refine ⟨_, rfl, _, rfl, a, (n : Int), rfl, p3, by omega, nsm (by omega), fun q o2 q0 q1 ho2 => ?_⟩
      obtain ⟨p4, k4⟩ := drawn p3 k3 ho2
      have eD4 : (upd H3 a o2) D = some (.lst (sV ws)) := by rw [upd_ne Da]; exact eD3
      generalize (upd H3 a o2) = H4 at p4 k4 eD4 ⊢
      refine ⟨_, rfl, _, rfl, by omega, by omega, fun L nL => ?_⟩
      rw [Int.toNat_natCast]
      refine lc_range (fun i H' => Same H4 H' ∧ ∃ ls : List Str, H' L = some (.lst (sV ls)) ∧ ls.length = i ∧ ∀ x ∈ ls, Nam x) ⟨Same.put nL, [], upd_same, rfl, fun _ m => (by cases m)⟩ ?_ ?_
      · rintro i H' hi ⟨s1, ls, eL, ll, nl⟩
        refine ⟨rfl, yes_of ?_⟩
        obtain ⟨b, hb⟩ : ∃ b : Bool, b = decide (V.int (0 + (i : Int)) = V.int q) := ⟨_, rfl⟩
        refine ⟨_, rfl, _, rfl, _, rfl, rfl, .inr ⟨_, rfl, _, rfl, _, _, rfl, rfl, .inr ⟨_, rfl, _, _, rfl, rfl, .inl ⟨by split <;> decide, by split <;> decide⟩, ?_⟩⟩⟩
        have idx : ∃ j : Nat, ((if decide (V.int (0 + (i : Int)) = V.int q) = true then (1 : Int) else 0) * (if decide ((n : Int) > 1) = true then (1 : Int) else 0)) = (j : Int) ∧ j < n := by
          by_cases h1 : decide (V.int (0 + (i : Int)) = V.int q) = true
          · by_cases h2 : decide ((n : Int) > 1) = true
            · rw [if_pos h1, if_pos h2]
              exact ⟨1, rfl, by have := of_decide_eq_true h2; omega⟩
            · rw [if_pos h1, if_neg h2]
              exact ⟨0, rfl, by omega⟩
          · rw [if_neg h1, Int.zero_mul]
            exact ⟨0, rfl, by omega⟩
        obtain ⟨j, ej, hj⟩ := idx
        have gj : ws[j]? = some ws[j] := List.getElem?_eq_getElem (by omega)
        refine ⟨D, _, (j : Int), _, rfl, congrArg V.int ej, SqL.of (s1 _ _ eD4), atI_nat (sV_at gj), ?_⟩
        refine ⟨_, eL, by rw [sV_len]; exact small_len (by omega), Same.but (fun b u e => s1 _ _ e) nL, ls ++ [ws[j]], by rw [upd_same, sV_snoc], by rw [List.length_append, ll]; rfl, fun y m => ?_⟩
        rcases List.mem_append.mp m with m | m
        · exact nl y m
        · rw [List.mem_singleton.mp m]; exact nw _ (List.mem_of_getElem? gj)
      · rintro H5 ⟨s1, ls, eL, ll, nl⟩
        exact ⟨L, _, rfl, .inl ⟨SqL.of eL, fun t nt => fin t ls H5 (k4.trans (Keep.of s1)) (p4.same s1) nt ⟨ll, nl⟩⟩⟩
    · refine ⟨_, rfl, _, rfl, by omega, by omega, fun L nL => ?_⟩
      rw [Int.toNat_natCast]
      have La := new_ne p3 nL
      refine lc_range (fun i H' => Keep a H3 H' ∧ PoolAt H' a ∧ ∃ ls : List Str, H' L = some (.lst (sV ls)) ∧ ls.length = i ∧ ∀ x ∈ ls, Nam x) ⟨Keep.of (Same.put nL), p3.new nL, [], upd_same, rfl, fun _ m => (by cases m)⟩ ?_ ?_
      · rintro i H' hi ⟨k4, p4, ls, eL, ll, nl⟩
        refine ⟨rfl, yes_of ?_⟩
        refine ⟨_, rfl, _, rfl, _, rfl, 2, (n : Int), rfl, a, _, rfl, p4, by split <;> omega, by split <;> exact log_small (b := 10) (by omega) (by decide) (by decide), fun q o2 q0 q1 ho2 => ?_⟩
        obtain ⟨p5, k5⟩ := drawn p4 k4 ho2
        have eL5 : (upd H' a o2) L = some (.lst (sV ls)) := by rw [upd_ne La]; exact eL
        generalize (upd H' a o2) = H5 at p5 k5 eL5 ⊢
        obtain ⟨j, rfl⟩ := nat_of q0
        have hj : j < n := by
          split at q1 <;> omega
        have gj : ws[j]? = some ws[j] := List.getElem?_eq_getElem (by omega)
        refine ⟨D, _, (j : Int), _, rfl, rfl, SqL.of (k5 _ _ eD3 Da), atI_nat (sV_at gj), ?_⟩
        refine ⟨_, eL5, by rw [sV_len]; exact small_len (by omega), k5.but nL, p5.other (Ne.symm La), ls ++ [ws[j]], by rw [upd_same, sV_snoc], by rw [List.length_append, ll]; rfl, fun y m => ?_⟩
        rcases List.mem_append.mp m with m | m
        · exact nl y m
        · rw [List.mem_singleton.mp m]; exact nw _ (List.mem_of_getElem? gj)
      · rintro H5 ⟨k4, p4, ls, eL, ll, nl⟩
        exact ⟨L, _, rfl, .inl ⟨SqL.of eL, fun t nt => fin t ls H5 (k3.trans k4) p4 nt ⟨ll, nl⟩⟩⟩
end
end KJ
set_option Elab.async false
set_option linter.all false
set_option maxRecDepth 100000
set_option maxHeartbeats 4000000
/-! raise C(), C an own exception whose __init__ takes nothing and keeps nothing -/
namespace L2
open PySem PySem.Spec PyProof.Rows
end L2
set_option Elab.async false
set_option linter.all false
set_option maxRecDepth 100000
set_option maxHeartbeats 4000000
namespace KJ
open PySem L2
/-! ### things, a chain among them -/
inductive Th2 (K : PySem.W.Frag) (C CC : Addr) (H : Hp) : V → Prop
  | th {x : V} (h : Thing K C H x) : Th2 K C CC H x
  | ch {a dx : Addr} {fs : List (Str × V)} (e : H a = some (.ins CC dx fs)) : Th2 K C CC H (.ref a)
theorem Thing.same {K : PySem.W.Frag} {C : Addr} {H H' : Hp} {x : V} (h : Thing K C H x) (s : Same H H') : Thing K C H' x := by
  cases h with
  | fo h => exact .fo (fo_same h s)
  | ins e => exact .ins (s _ _ e)
theorem Th2.same {K : PySem.W.Frag} {C CC : Addr} {H H' : Hp} {x : V} (h : Th2 K C CC H x) (s : Same H H') : Th2 K C CC H' x := by
  cases h with
  | th h => exact .th (h.same s)
  | ch e => exact .ch (s _ _ e)
theorem Th2.isInt {K : PySem.W.Frag} {C CC : Addr} {H : Hp} {x : V} (I : InsT K C) (J : InsT K CC) (h : Th2 K C CC H x) : ∃ t, TyX K H x t ∧ PySem.W.kitOne K t (.type "int") = some (isIB x) ∧ PySem.W.kitOne K t (.type "bool") = some (isB x) := by
  cases h with
  | th h => exact h.isInt I
  | ch e => exact ⟨_, J.ty e, J.kint, J.kbool⟩
theorem isI_IB (x : V) : (isIB x && !isB x) = isI x := by cases x <;> rfl
def btw (a b : Int) : V → Bool
  | .int i => decide (a ≤ i) && decide (i ≤ b)
  | _ => false
theorem btw_no {a b : Int} {x : V} (h : isI x = false) : btw a b x = false := by
  cases x <;> first | rfl | cases h
theorem int_btw {n s : Nat} (h : s < n) : btw 0 ((n : Int) - 1) (.int (s : Int)) = true := by
  show (decide (0 ≤ (s : Int)) && decide ((s : Int) ≤ (n : Int) - 1)) = true
  rw [Bool.and_eq_true, decide_eq_true_eq, decide_eq_true_eq]
  omega
def spWhole2 (K : PySem.W.Frag) (C CC : Addr) : Sp := fun vs H Q _ => ∃ x, vs = [x] ∧ Th2 K C CC H x ∧ Q (.bl (isI x)) H
def spBetween (K : PySem.W.Frag) (C CC : Addr) : Sp := fun vs H Q _ => ∃ (a b : Int) (x : V), vs = [.int a, .int b, x] ∧ Th2 K C CC H x ∧ Q (.bl (btw a b x)) H
def spIndex (K : PySem.W.Frag) (C CC : Addr) : Sp := fun vs H Q _ => ∃ (n : Int) (x : V), vs = [.int n, x] ∧ Th2 K C CC H x ∧ Q (.bl (btw 0 (n - 1) x)) H
/-- NoState.__init__ -/
def spNS (K : PySem.W.Frag) (B : Addr) : Sp := fun vs H Q _ => ∃ (a : Addr) (y : V), vs = [.ref a, y] ∧ OexC K B ∧ PySem.W.findIn K (.ref B) "state" = some none ∧ H a = some (exo a B none) ∧
  ∀ dx, H dx = none → dx ≠ a → Q .non (upd (upd H dx (exd dx [("state", y)])) a (exo a B (some dx)))
structure NsT (P : Program) (w : World) (K : PySem.W.Frag) (mg : Str → Option Value) (base : Heap) (B : Addr) : Prop where
  O : OexC K B
  nf : PySem.W.findIn K (.ref B) "state" = some none
  gB : mg "NoState" = some (.ref B)
  made : ∃ (fI : Addr) (fd : FuncData), PySem.W.findIn K (.ref B) "__init__" = some (some (.ref fI)) ∧ PySem.W.typeIn K (.ref fI) = some (.type "function") ∧ FnOk P w K mg base CX0 2 fI fd ["self", "state"] (spNS K B) ∧ Binds K fd ["self", "state"] []
theorem ns_end {H : Hp} {a dx : Addr} {p : V} {B : Addr} (ha : H a = none) (hd : (upd H a (exo a B none)) dx = none) (ne : dx ≠ a) :
    Same H (upd (L2.del (upd (upd (upd H a (exo a B none)) dx (exd dx [("state", p)])) a (exo a B (some dx))) a) dx (.xd [("state", p)])) := fun b o h => by
  have nb : b ≠ a := ne_of_none h ha
  have nd : b ≠ dx := fun z => by rw [upd_ne ne] at hd; rw [z, hd] at h; cases h
  rw [upd_ne nd, del_ne nb, upd_ne nb, upd_ne nd, upd_ne nb]
  exact h
/-- check_state(size, x) -/
def spCheck (K : PySem.W.Frag) (C CC B : Addr) : Sp := fun vs H Q E => ∃ (n : Int) (x : V), vs = [.int n, x] ∧ Th2 K C CC H x ∧ ((btw 0 (n - 1) x = true ∧ Q .non H) ∨ (btw 0 (n - 1) x = false ∧ ∀ (d : Addr) (H' : Hp), Same H H' → H' d = some (.xd [("state", x)]) → E (.ref B) (some d) H'))
/-- a def that may raise -/
structure CalX (P : Program) (w : World) (K : PySem.W.Frag) (mg : Str → Option Value) (base : Heap) (k : Nat) (x : Str) (ps : List Str) (sp : Sp) : Prop where
  ex : ∃ (f : Addr) (fd : FuncData), mg x = some (.ref f) ∧ PySem.W.keepIn K (.ref f) = true ∧ FnOk P w K mg base (L2.CX P w) k f fd ps sp ∧ Binds K fd ps []
section
variable {X : Cx} {k : Nat} {ps : List Str} {sp : Sp} {x : Str} {p pos : Pos} {e : Expr} {es : List Expr} {t : TA}
theorem pe_calx (c : CalX X.prog X.w X.K X.mg X.base k x ps sp) (hr : Room k X.A) (hg : Gl X x) (ha : PA X (e :: es) t) (hdb : (x == ("__debug__" : Str)) = false := by decide)
    (he : starEach (e :: es) X.env = (false, eval e X.env) :: starEach es X.env := by rfl) (hpl : (backTo pos (starEach es X.env)).any (·.1) = false := by rfl) :
    PE X (.Call (.Name x p) (e :: es) [] pos) (tCall sp [] E0 t) := by
  obtain ⟨f, fd, hm, hk, F, hb⟩ := c.ex
  exact pe_call F hr hg hm hk hb .nil passX ha hdb he hpl
end
section
variable {P : Program} {w : World} {K : PySem.W.Frag} {mg : Str → Option Value} {base : Heap} {C CC B : Addr}
theorem ok_is_whole2 {f : Addr} {fd : FuncData} (F : Fun K "is_whole" "is_whole" s_is_whole f fd) (T : Bn mg) (I : InsT K C) (J : InsT K CC) : FnOk P w K mg base CX0 1 f fd ["thing"] (spWhole2 K C CC) := by
  refine F.ok sc_is_whole (fun vs H Q E h => ?_) (fun cdv A outer s H vs Q E hr h => ?_)
  · obtain ⟨x, rfl, _⟩ := h
    rfl
  · obtain ⟨x, rfl, h, k⟩ := h
    refine ⟨_, (pss_one (ps_ret (pe_and (pe_callB call_isi (by rfl) T.n_isinstance (by decide +kernel) (pa_cons (pv 0) (pa_cons (pe_bltn (v := .ty "int") rfl T.n_int (by decide +kernel) rfl) pa_nil))) (pe_one (pe_not (pe_callB call_isi (by rfl) T.n_isinstance (by decide +kernel) (pa_cons (pv 0) (pa_cons (pe_bltn (v := .ty "bool") rfl T.n_bool (by decide +kernel) rfl) pa_nil)))))))), ?_⟩
    obtain ⟨t, ty, k1, k2⟩ := h.isInt I J
    have e := isI_IB x
    refine ⟨_, rfl, x, .ty "int", t, _, _, rfl, .ty _, ty, k1, _, rfl, iteB (fun z => ?_) (fun z => ?_)⟩
    · refine ⟨_, rfl, x, .ty "bool", t, _, _, rfl, .ty _, ty, k2, _, rfl, ?_⟩
      rw [z, Bool.true_and] at e
      rw [e]
      exact k
    · rw [z, Bool.false_and] at e
      rw [← e] at k
      exact k
abbrev s_is_between : Stmt := top 11
theorem sc_is_between : FnScope ["least", "most", "thing"] ["least", "most", "thing"] (defScope s_is_between) := ⟨rfl, rfl, rfl, by decide +kernel, rfl, by decide +kernel, by decide +kernel⟩
theorem ok_is_between {f : Addr} {fd : FuncData} (F : Fun K "is_between" "is_between" s_is_between f fd) (c_is_whole : Cal P w K mg base 1 "is_whole" ["thing"] (spWhole2 K C CC)) : FnOk P w K mg base CX0 2 f fd ["least", "most", "thing"] (spBetween K C CC) := by
  refine F.ok sc_is_between (fun vs H Q E h => ?_) (fun cdv A outer s H vs Q E hr h => ?_)
  · obtain ⟨a, b, x, rfl, _⟩ := h
    rfl
  · obtain ⟨a, b, x, rfl, h, k⟩ := h
    refine ⟨_, (pss_one (ps_ret (pe_and (pe_cal c_is_whole (hr.mono (by decide)) rfl (pa_cons (pv 2) pa_nil)) (pe_one (pe_chain op_le op_le (pv 0) (pv 2) (pv 1)))))), ?_⟩
    refine ⟨_, rfl, x, rfl, h, _, rfl, iteB (fun z => ?_) (fun z => ?_)⟩
    · obtain ⟨i, rfl⟩ := isI_int z
      refine ⟨_, rfl, _, rfl, a, i, rfl, rfl, _, rfl, iteB (fun z2 => ?_) (fun z2 => ?_)⟩
      · refine ⟨_, rfl, i, b, rfl, rfl, ?_⟩
        show Q (.bl (decide (i ≤ b))) H
        have k : Q (.bl (decide (a ≤ i) && decide (i ≤ b))) H := k
        rw [z2, Bool.true_and] at k
        exact k
      · have k : Q (.bl (decide (a ≤ i) && decide (i ≤ b))) H := k
        rw [z2, Bool.false_and] at k
        exact k
    · rw [btw_no z] at k
      exact k
abbrev s_is_index : Stmt := top 12
theorem sc_is_index : FnScope ["many", "thing"] ["many", "thing"] (defScope s_is_index) := ⟨rfl, rfl, rfl, by decide +kernel, rfl, by decide +kernel, by decide +kernel⟩
theorem ok_is_index {f : Addr} {fd : FuncData} (F : Fun K "is_index" "is_index" s_is_index f fd) (c_is_between : Cal P w K mg base 2 "is_between" ["least", "most", "thing"] (spBetween K C CC)) : FnOk P w K mg base CX0 3 f fd ["many", "thing"] (spIndex K C CC) := by
  refine F.ok sc_is_index (fun vs H Q E h => ?_) (fun cdv A outer s H vs Q E hr h => ?_)
  · obtain ⟨n, x, rfl, _⟩ := h
    rfl
  · obtain ⟨n, x, rfl, h, k⟩ := h
    refine ⟨_, (pss_one (ps_ret (pe_cal c_is_between (hr.mono (by decide)) rfl (pa_cons pe_int (pa_cons (pe_op op_sub (pv 0) pe_int) (pa_cons (pv 1) pa_nil)))))), ?_⟩
    exact ⟨_, rfl, _, _, rfl, rfl, _, rfl, 0, n - 1, x, rfl, h, k⟩
abbrev s_NS : Stmt := inClass (top 6) 0
theorem sc_NS : FnScope ["self", "state"] ["self", "state"] (defScope s_NS) := ⟨rfl, rfl, rfl, by decide +kernel, rfl, by decide +kernel, by decide +kernel⟩
theorem ok_NS {f g W B : Addr} {mc : Value} {fd fdW : FuncData} (F : Fun K "__init__" "NoState.__init__" s_NS f fd) (gW : mg "WalkError" = some (.ref W)) (c : ClsFn K W mc "__init__" g) (FW : FnOk P w K mg base CX0 1 g fdW ["self", "words"] (spWE K)) (bW : Binds K fdW ["self", "words"] []) :
    FnOk P w K mg base CX0 2 f fd ["self", "state"] (spNS K B) := by
  refine F.ok sc_NS (fun vs H Q E h => ?_) (fun cdv A outer s H vs Q E hr h => ?_)
  · obtain ⟨a, y, rfl, _⟩ := h
    rfl
  · obtain ⟨a, y, rfl, O, nt, ha, k⟩ := h
    refine ⟨_, pss_cons (ps_expr (pe_clsfn c FW hr rfl gW bW pass0 (pa_cons (pv 0) (pa_cons pe_str pa_nil)))) (pss_one (ps_ost (pv 0) (pv 1))), ?_⟩
    exact ⟨_, rfl, a, B, _, rfl, O, ha, _, rfl, _, rfl, a, B, rfl, O, nt, .inl ⟨ha, fun dx hd ne => k dx hd ne⟩⟩
/-- the reading of raise NoState(x) -/
theorem ns_raise {p : V} {H : Hp} {E : XK} (T : NsT P w K mg base B) (k : ∀ (d : Addr) (H' : Hp), Same H H' → H' d = some (.xd [("state", p)]) → E (.ref B) (some d) H') {t : TA} {σ : St} (ht : ∀ Q : List V → Hp → Prop, Q [p] H → t σ H Q) :
    tMkO B (spNS K B) [] t σ H (fun cls d H' => E cls d H') := by
  refine ht _ ⟨by show 1 ≤ 1000; decide, fun a ha => ⟨a, p, rfl, T.O, T.nf, upd_same, fun d hd ne => ⟨rfl, d, [("state", p)], upd_same, ?_, ?_, ?_⟩⟩⟩
  · rw [upd_ne ne, upd_same]
  · rw [upd_ne ne] at hd
    exact hd
  · exact k d _ (ns_end ha hd ne) upd_same
abbrev s_check : Stmt := top 13
theorem sc_check : FnScope ["size", "state"] ["size", "state"] (defScope s_check) := ⟨rfl, rfl, rfl, by decide +kernel, rfl, by decide +kernel, by decide +kernel⟩
theorem ok_check {f : Addr} {fd : FuncData} (F : Fun K "check_state" "check_state" s_check f fd) (c_ix : Cal P w K mg base 3 "is_index" ["many", "thing"] (spIndex K C CC)) (N : NsT P w K mg base B) : FnOk P w K mg base (L2.CX P w) 4 f fd ["size", "state"] (spCheck K C CC B) := by
  obtain ⟨fS, fdS, iS, tS, FS, bS⟩ := id N.made
  refine F.okX sc_check (fun vs H Q E h => ?_) (fun cdv A outer s H vs Q E hr h => ?_)
  · obtain ⟨n, x, rfl, _⟩ := h
    rfl
  · obtain ⟨n, x, rfl, h, k⟩ := h
    refine ⟨_, (pss_one (ps_if (pt_not (pt_val (pe_cal c_ix hr rfl (pa_cons (pv 0) (pa_cons (pv 1) pa_nil)))))
        (pss_one (ps_raise (W := fun cls d _ H => E cls d H) rfl (takes_of rfl rfl rfl rfl) (pmk_oex N.O iS tS FS (hr.mono (by decide)) bS .nil pass0 rfl N.gB (pa_cons (pv 1) pa_nil))))
        pss_nil)), ?_⟩
    refine ⟨_, rfl, _, rfl, n, x, rfl, h, _, rfl, ?_⟩
    rcases k with ⟨e, k⟩ | ⟨e, k⟩
    · rw [e]
      exact iteF k
    · rw [e]
      exact iteT (ns_raise N k fun Q q => ⟨x, rfl, q⟩)
end
end KJ
set_option Elab.async false
set_option linter.all false
set_option maxRecDepth 100000
set_option maxHeartbeats 4000000
namespace KJ
open PySem L2
abbrev iW (ws : List Nat) : List Int := ws.map fun k : Nat => (k : Int)
/-- weights of a row, long numbers among them -/
def Tpg (n : Nat) (ws : List Nat) : Prop := ws.length = n ∧ 0 < ws.sum ∧ ∀ w ∈ ws, w < 2 ^ 2700
theorem Tps.g {n : Nat} {ws : List Nat} (h : Tps n ws) : Tpg n ws := ⟨h.1, h.2.1, fun w m => Nat.lt_trans (h.2.2 w m) (by decide +kernel)⟩
/-- a row of numbers over their sum -/
def RowIn (C : Addr) (H : Hp) (n : Nat) (r : Addr × List Nat) : Prop := ∃ xs, H r.1 = some (.tup xs) ∧ Nums C (r.2.sum : Int) H xs (iW r.2) ∧ Tpg n r.2
/-- a row of shares -/
def RowSh (C : Addr) (H : Hp) (n : Nat) (r : Addr × List Nat) : Prop := ∃ as : List Addr, H r.1 = some (.tup (as.map V.ref)) ∧ as.length = n ∧ Tpg n r.2 ∧
  ∀ (i : Nat) (a : Addr), as[i]? = some a → ∃ (dx : Addr) (w : Nat), r.2[i]? = some w ∧ H a = some (.ins C dx (shF (lowT (w : Int) (r.2.sum : Int)) (lowB (w : Int) (r.2.sum : Int))))
theorem RowIn.same {C : Addr} {H H' : Hp} {n : Nat} {r : Addr × List Nat} (h : RowIn C H n r) (s : Same H H') : RowIn C H' n r := by
  obtain ⟨xs, h1, h2, h3⟩ := h
  exact ⟨xs, s _ _ h1, h2.same s, h3⟩
theorem RowSh.same {C : Addr} {H H' : Hp} {n : Nat} {r : Addr × List Nat} (h : RowSh C H n r) (s : Same H H') : RowSh C H' n r := by
  obtain ⟨as, h1, h2, h3, h4⟩ := h
  exact ⟨as, s _ _ h1, h2, h3, fun i a e => let ⟨dx, w, q1, q2⟩ := h4 i a e; ⟨dx, w, q1, s _ _ q2⟩⟩
theorem refs_at {as : List Addr} {i : Nat} {x : V} (h : (as.map V.ref)[i]? = some x) : ∃ a, as[i]? = some a ∧ x = .ref a := by
  rw [List.getElem?_map] at h
  cases e : as[i]? with
  | none => rw [e] at h; cases h
  | some a => rw [e] at h; exact ⟨a, rfl, (Option.some.inj h).symm⟩
theorem RowSh.inn {C : Addr} {H : Hp} {n : Nat} {r : Addr × List Nat} (h : RowSh C H n r) : RowIn C H n r := by
  obtain ⟨as, h1, h2, h3, h4⟩ := h
  refine ⟨_, h1, ⟨by rw [List.length_map, List.length_map, h2, h3.1], fun i x e => ?_⟩, h3⟩
  obtain ⟨a, ha, rfl⟩ := refs_at e
  obtain ⟨dx, w, q1, q2⟩ := h4 i a ha
  exact ⟨(w : Int), by rw [List.getElem?_map, q1]; rfl, .inr ⟨a, dx, rfl, q2⟩⟩
theorem RowSh.keep {C p : Addr} {H H' : Hp} {n : Nat} {r : Addr × List Nat} (h : RowSh C H n r) (k : Keep p H H') (hp : PoolAt H p) : RowSh C H' n r := by
  obtain ⟨as, h1, h2, h3, h4⟩ := h
  exact ⟨as, k _ _ h1 (hp.ne h1), h2, h3, fun i a e => let ⟨dx, w, q1, q2⟩ := h4 i a e; ⟨dx, w, q1, k _ _ q2 (hp.nei q2)⟩⟩
theorem sum_le {b : Nat} : ∀ l : List Nat, (∀ w ∈ l, w ≤ b) → l.sum ≤ l.length * b
  | [], _ => by simp
  | x :: l, h => by
    have := sum_le l fun w m => h w (List.mem_cons_of_mem _ m)
    have := h x List.mem_cons_self
    rw [List.sum_cons, List.length_cons, Nat.succ_mul]
    omega
theorem tpg_sum {n : Nat} {ws : List Nat} (h : Tpg n ws) (n8 : n ≤ 8) : ws.sum ≤ 8 * 2 ^ 2700 := by
  have := sum_le ws fun w m => Nat.le_of_lt (h.2.2 w m)
  rw [h.1] at this
  exact Nat.le_trans this (Nat.mul_le_mul_right _ n8)
theorem tps_low {n : Nat} {ws : List Nat} (h : Tpg n ws) (n8 : n ≤ 8) : 0 < (ws.sum : Int) ∧ ((ws.sum : Int)).natAbs < 2 ^ 4000 ∧ ∀ w ∈ ws, ((w : Int)).natAbs < 2 ^ 3000 := by
  have s1 := tpg_sum h n8
  refine ⟨by have := h.2.1; omega, ?_, fun w m => ?_⟩
  · rw [Int.natAbs_natCast]
    exact Nat.lt_of_le_of_lt s1 (by decide +kernel)
  · rw [Int.natAbs_natCast]
    exact Nat.lt_trans (h.2.2 w m) (by decide +kernel)
def spSharesOf (C : Addr) : Sp := fun vs H Q _ => ∃ (b : Addr) (n : Nat) (ws : List Nat), vs = [.ref b] ∧ n ≤ 8 ∧ RowIn C H n (b, ws) ∧ ∀ (t : Addr) (H' : Hp), Same H H' → RowSh C H' n (t, ws) → Q (.ref t) H'
section
variable {P : Program} {w : World} {K : PySem.W.Frag} {mg : Str → Option Value} {base : Heap} {C CC B : Addr}
abbrev s_shares_of : Stmt := top 24
theorem sc_shares_of : FnScope ["row", "part"] ["row"] (defScope s_shares_of) := ⟨rfl, rfl, rfl, by decide +kernel, rfl, by decide +kernel, by decide +kernel⟩
theorem ok_shares_of {f : Addr} {fd : FuncData} (F : Fun K "shares_of" "shares_of" s_shares_of f fd) (T : Bm mg) (c_of : Cal P w K mg base 6 "share_of" ["thing"] (spShareOf C)) : FnOk P w K mg base CX0 7 f fd ["row"] (spSharesOf C) := by
  refine F.ok sc_shares_of (fun vs H Q E h => ?_) (fun cdv A outer s H vs Q E hr h => ?_)
  · obtain ⟨b, n, ws, rfl, _⟩ := h
    rfl
  · obtain ⟨b, n, ws, rfl, n8, ⟨xs, eb, nu, tp⟩, k⟩ := h
    refine ⟨_, (pss_one (ps_ret (pe_callTy call_tuple_of (by rfl) T.n_tuple (by decide +kernel) (pa_cons (pe_lc (own := [("part", 1)]) rfl sc_shares_of.nd (pi_tup (pv 0)) (blkOk_by (N := ["row", "part"]) (sc := defScope s_shares_of) (by decide +kernel)) (fun _ _ _ _ _ => (pg_name (i := 1) sc_shares_of.nd rfl (Or.inl rfl))) (fun _ _ _ _ _ => pts_nil) (fun _ _ _ _ _ => (pe_cal c_of (hr.mono (by decide)) rfl (pa_cons (pv 1) pa_nil)))) pa_nil)))), ?_⟩
    have eb : H b = some (.tup xs) := eb
    have lx : xs.length = n := by rw [nu.1, List.length_map, tp.1]
    refine ⟨_, rfl, b, rfl, ⟨_, SqT.of eb⟩, fun D nD => ?_⟩
    refine lc_tup (K := K) (a := b) (xs := xs) (fun i H' => Same H H' ∧ ∃ as : List Addr, H' D = some (.lst (as.map V.ref)) ∧ as.length = i ∧
      ∀ (j : Nat) (a : Addr), as[j]? = some a → ∃ (dx : Addr) (w : Nat), ws[j]? = some w ∧ H' a = some (.ins C dx (shF (lowT (w : Int) (ws.sum : Int)) (lowB (w : Int) (ws.sum : Int))))) ⟨Same.put nD, [], upd_same, rfl, fun j a e => by simp at e⟩ (fun i H' _ h => SqT.of (h.1 _ _ eb)) ?_ ?_
    · rintro i x H' hx ⟨s1, as, eD, la, fa⟩
      obtain ⟨S, hS, nx⟩ := (nu.same s1).2 i x hx
      obtain ⟨w, hw, rfl⟩ : ∃ w, ws[i]? = some w ∧ S = (w : Int) := by
        have hS : (ws.map fun k : Nat => (k : Int))[i]? = some S := hS
        rw [List.getElem?_map] at hS
        cases e : ws[i]? with
        | none => rw [e] at hS; cases hS
        | some w => rw [e] at hS; exact ⟨w, rfl, (Option.some.inj hS).symm⟩
      have il := (List.getElem?_eq_some_iff.mp hx).1
      refine ⟨rfl, yes_of ?_⟩
      refine ⟨_, rfl, x, _, _, rfl, nx, fun a dx H2 s2 ea => ?_⟩
      have aD : ∀ {c dy : Addr} {fs : List (Str × V)}, H2 c = some (.ins C dy fs) → c ≠ D := fun e z => by
        rw [z, s2 _ _ eD] at e
        cases e
      refine ⟨_, s2 _ _ eD, by rw [List.length_map]; exact small_len (by omega), Same.but (fun b u e => s2 _ _ (s1 _ _ e)) nD, as ++ [a], by rw [upd_same, List.map_append]; rfl, by rw [List.length_append, la]; rfl, fun j c hc => ?_⟩
      rcases Nat.lt_or_ge j as.length with h | h
      · rw [List.getElem?_append_left h] at hc
        obtain ⟨dy, v, q1, q2⟩ := fa j c hc
        exact ⟨dy, v, q1, by rw [upd_ne (aD (s2 _ _ q2))]; exact s2 _ _ q2⟩
      · rw [List.getElem?_append_right h] at hc
        have hz : j - as.length = 0 := by
          have := (List.getElem?_eq_some_iff.mp hc).1
          simpa using this
        rw [hz] at hc
        have e : a = c := by simpa using hc
        have ej : j = i := by omega
        rw [← e, ej]
        exact ⟨dx, w, hw, by rw [upd_ne (aD ea)]; exact ea⟩
    · rintro H1 ⟨s1, as, eD, la, fa⟩
      refine ⟨D, _, rfl, .inl ⟨SqL.of eD, fun t nt => ?_⟩⟩
      have st := Same.put (o := .tup (as.map V.ref)) nt
      exact k t _ (s1.trans st) ⟨as, upd_same, by omega, tp, fun j c hc => let ⟨dx, w, q1, q2⟩ := fa j c hc; ⟨dx, w, q1, st _ _ q2⟩⟩
end
/-! ### chains -/
theorem nSR : ¬ (("size" : Str) = "_rows") := by decide +kernel
theorem nSL : ¬ (("size" : Str) = "_labels") := by decide +kernel
theorem nRL : ¬ (("_rows" : Str) = "_labels") := by decide +kernel
def chF (n : Nat) (T lb : Addr) : List (Str × V) := putF "_labels" (.ref lb) (putF "_rows" (.ref T) (putF "size" (.int (n : Int)) []))
theorem chF_size (n : Nat) (T lb : Addr) : (chF n T lb).lookup ("size" : Str) = some (.int (n : Int)) := by
  unfold chF
  rw [lookup_putF, if_neg nSL, lookup_putF, if_neg nSR, lookup_putF, if_pos rfl]
theorem chF_rows (n : Nat) (T lb : Addr) : (chF n T lb).lookup ("_rows" : Str) = some (.ref T) := by
  unfold chF
  rw [lookup_putF, if_neg nRL, lookup_putF, if_pos rfl]
theorem chF_labels (n : Nat) (T lb : Addr) : (chF n T lb).lookup ("_labels" : Str) = some (.ref lb) := by
  unfold chF
  rw [lookup_putF, if_pos rfl]
theorem chF_none (n : Nat) (T lb : Addr) {m : Str} (h1 : ¬ m = "_labels") (h2 : ¬ m = "_rows") (h3 : ¬ m = "size") : (chF n T lb).lookup m = none := by
  unfold chF
  rw [lookup_putF, if_neg h1, lookup_putF, if_neg h2, lookup_putF, if_neg h3]
  rfl
/-- a chain of these rows and labels -/
def IsCh (C CC : Addr) (H : Hp) (o : Addr) (n : Nat) (rws : List (List Nat)) (ls : List Str) : Prop := ∃ (dx T lb : Addr) (rs : List (Addr × List Nat)), H o = some (.ins CC dx (chF n T lb)) ∧ H T = some (.tup (rfs rs)) ∧ rs.length = n ∧ (∀ r ∈ rs, RowSh C H n r) ∧ rs.map (·.2) = rws ∧ H lb = some (.tup (sV ls)) ∧ Lbs n ls
theorem IsCh.same {C CC : Addr} {H H' : Hp} {o : Addr} {n : Nat} {rws : List (List Nat)} {ls : List Str} (h : IsCh C CC H o n rws ls) (s : Same H H') : IsCh C CC H' o n rws ls := by
  obtain ⟨dx, T, lb, rs, h1, h2, h3, h4, h5, h6, h7⟩ := h
  exact ⟨dx, T, lb, rs, s _ _ h1, s _ _ h2, h3, fun r m => (h4 r m).same s, h5, s _ _ h6, h7⟩
theorem IsCh.keep {C CC p : Addr} {H H' : Hp} {o : Addr} {n : Nat} {rws : List (List Nat)} {ls : List Str} (h : IsCh C CC H o n rws ls) (k : Keep p H H') (hp : PoolAt H p) : IsCh C CC H' o n rws ls := by
  obtain ⟨dx, T, lb, rs, h1, h2, h3, h4, h5, h6, h7⟩ := h
  exact ⟨dx, T, lb, rs, k _ _ h1 (hp.nei h1), k _ _ h2 (hp.ne h2), h3, fun r m => (h4 r m).keep k hp, h5, k _ _ h6 (hp.ne h6), h7⟩
structure ChT (K : PySem.W.Frag) (mg : Str → Option Value) (CC : Addr) : Prop where
  it : InsT K CC
  nS : NoAttr K CC "size"
  nR : NoAttr K CC "_rows"
  nL : NoAttr K CC "_labels"
  gC : mg "Chain" = some (.ref CC)
  gM : ∃ t, mg "MOST_STATES" = some (.int 8 t)
/-- Chain.__init__(rows, labels) -/
def spCI (C CC : Addr) : Sp := fun vs H Q _ => ∃ (x dx T lb : Addr) (n : Nat) (rs : List (Addr × List Nat)) (ls : List Str), vs = [.ref x, .ref T, .ref lb] ∧ H x = some (.ins CC dx []) ∧ 1 ≤ n ∧ n ≤ 8 ∧ H T = some (.tup (rfs rs)) ∧ rs.length = n ∧ (∀ r ∈ rs, RowIn C H n r) ∧ H lb = some (.tup (sV ls)) ∧ Lbs n ls ∧
  ∀ (T2 : Addr) (rs2 : List (Addr × List Nat)) (H2 : Hp), Same H H2 → H2 T2 = some (.tup (rfs rs2)) → rs2.length = n → (∀ r ∈ rs2, RowSh C H2 n r) → rs2.map (·.2) = rs.map (·.2) → Q .non (upd H2 x (.ins CC dx (chF n T2 lb)))
end KJ
set_option Elab.async false
set_option linter.all false
set_option maxRecDepth 100000
set_option maxHeartbeats 4000000
namespace KJ
open PySem L2
theorem all_true (n : Nat) : (List.replicate n true).all id = true := List.all_eq_true.mpr fun b m => List.eq_of_mem_replicate m
theorem refs_rep {i : Nat} : (List.replicate i true).map V.bl ++ [V.bl true] = (List.replicate (i + 1) true).map V.bl := by
  rw [List.replicate_succ', List.map_append]
  rfl
theorem spr_ok {ws : List Nat} : sprB (ws.sum : Int) (ws.map fun k : Nat => some (k : Int)) = true := by
  unfold sprB
  rw [Bool.and_eq_true]
  refine ⟨List.all_eq_true.mpr fun b m => ?_, decide_eq_true ?_⟩
  · rw [List.map_map] at m
    obtain ⟨k, _, rfl⟩ := List.mem_map.mp m
    show decide ((0 : Int) ≤ (k : Int)) = true
    exact decide_eq_true (by omega)
  · rw [List.map_map]
    exact sum_ints ws
theorem items_of {K : PySem.W.Frag} {C : Addr} {H : Hp} {n : Nat} {ws : List Nat} {xs : List V} (h : Nums C (ws.sum : Int) H xs (iW ws)) (t : Tpg n ws) : Items K C (ws.sum : Int) H xs (ws.map fun k : Nat => some (k : Int)) := by
  refine ⟨by rw [h.1, List.length_map, List.length_map], fun i x e => ?_⟩
  obtain ⟨S, hS, nx⟩ := h.2 i x e
  have hS : (ws.map fun k : Nat => (k : Int))[i]? = some S := hS
  rw [List.getElem?_map] at hS
  cases q : ws[i]? with
  | none => rw [q] at hS; cases hS
  | some w =>
    rw [q] at hS
    cases Option.some.inj hS
    refine ⟨some (w : Int), by rw [List.getElem?_map, q]; rfl, nx, ?_⟩
    rw [Int.natAbs_natCast]
    exact Nat.lt_trans (t.2.2 w (List.mem_of_getElem? q)) (by decide +kernel)
theorem shF_top' (t n : Int) : (shF t n).lookup ("top" : Str) = some (.int t) := by
  unfold shF
  rw [lookup_putF, if_neg (by decide +kernel), lookup_putF, if_pos rfl]
theorem RowIn.upx {C CC x dx : Addr} {H : Hp} {fs : List (Str × V)} {n : Nat} {r : Addr × List Nat} {o : HO} (h : RowIn C H n r) (ex : H x = some (.ins CC dx fs)) (nf : fs.lookup ("top" : Str) = none) : RowIn C (upd H x o) n r := by
  obtain ⟨xs, h1, h2, h3⟩ := h
  refine ⟨xs, by rw [upd_ne (fun z => by rw [z, ex] at h1; cases h1)]; exact h1, ⟨h2.1, fun i v e => ?_⟩, h3⟩
  obtain ⟨S, e2, nx⟩ := h2.2 i v e
  refine ⟨S, e2, ?_⟩
  rcases nx with nx | ⟨a, dy, e3, nx⟩
  · exact .inl nx
  · refine .inr ⟨a, dy, e3, ?_⟩
    rw [upd_ne (fun z => ?_)]
    · exact nx
    · rw [z, ex] at nx
      have e4 := HO.ins.inj (Option.some.inj nx)
      rw [e4.2.2, shF_top'] at nf
      cases nf
theorem RowSh.upx {C CC x dx : Addr} {H : Hp} {fs : List (Str × V)} {n : Nat} {r : Addr × List Nat} {o : HO} (h : RowSh C H n r) (ex : H x = some (.ins CC dx fs)) (nf : fs.lookup ("top" : Str) = none) : RowSh C (upd H x o) n r := by
  obtain ⟨as, h1, h2, h3, h4⟩ := h
  refine ⟨as, by rw [upd_ne (fun z => by rw [z, ex] at h1; cases h1)]; exact h1, h2, h3, fun i a e => ?_⟩
  obtain ⟨dy, w, q1, q2⟩ := h4 i a e
  refine ⟨dy, w, q1, ?_⟩
  rw [upd_ne (fun z => ?_)]
  · exact q2
  · rw [z, ex] at q2
    have e4 := HO.ins.inj (Option.some.inj q2)
    rw [e4.2.2, shF_top'] at nf
    cases nf
section
variable {P : Program} {w : World} {K : PySem.W.Frag} {mg : Str → Option Value} {base : Heap} {C CC B : Addr}
abbrev s_CI : Stmt := inClass (top 30) 0
abbrev nCI : List Str := ["self", "rows", "labels", "row", "label"]
theorem sc_CI : FnScope nCI ["self", "rows", "labels"] (defScope s_CI) := ⟨rfl, rfl, rfl, by decide +kernel, rfl, by decide +kernel, by decide +kernel⟩
abbrev XCI (P : Program) (w : World) (K : PySem.W.Frag) (mg : Str → Option Value) (base : Heap) (f : Addr) (cdv : Value) (A : Around) (outer : List Env) (s : Shared) (H : Hp) (E : XK) : Cx :=
  (cxOf CX0 P w K mg base nCI "Chain.__init__" (defScope s_CI) f cdv A outer s H E).nox
/-- the fields -/
theorem segCI3 {f : Addr} {cdv : Value} {A : Around} {outer : List Env} {s : Shared} {H : Hp} {E : XK} {Q : VK} (T : Bm mg) (t : ChT K mg CC) (c_sh : Cal P w K mg base 7 "shares_of" ["row"] (spSharesOf C)) (hr : Room 7 (XCI P w K mg base f cdv A outer s H E).A) :
    ∃ u, PSs (XCI P w K mg base f cdv A outer s H E) ((defBody s_CI).drop 2) u ∧ ∀ (x dx T0 lb : Addr) (n : Nat) (rs : List (Addr × List Nat)) (G : Hp), G x = some (.ins CC dx []) → n ≤ 8 → G T0 = some (.tup (rfs rs)) → rs.length = n → (∀ r ∈ rs, RowIn C G n r) →
      (∀ (T2 : Addr) (rs2 : List (Addr × List Nat)) (H2 : Hp), Same G H2 → H2 T2 = some (.tup (rfs rs2)) → rs2.length = n → (∀ r ∈ rs2, RowSh C H2 n r) → rs2.map (·.2) = rs.map (·.2) → Q .non (upd H2 x (.ins CC dx (chF n T2 lb)))) →
      u { nx := fun _ H' => Q .non H', rt := Q } [some (.ref x), some (.ref T0), some (.ref lb), none, none] G := by
  refine ⟨_, (pss_cons (ps_fld (pv 0) (pe_callB call_len_seq (by rfl) T.b.n_len PySem.boot_len (pa_cons (pv 1) pa_nil)) rfl)
    (pss_cons (ps_fld (pv 0) (pe_callTy call_tuple_of (by rfl) T.n_tuple (by decide +kernel) (pa_cons (pe_lc (own := [("row", 3)]) rfl sc_CI.nd (pi_tup (pv 1)) (blkOk_by (N := nCI) (sc := defScope s_CI) (by decide +kernel)) (fun _ _ _ _ _ => (pg_name (i := 3) sc_CI.nd rfl (Or.inl rfl))) (fun _ _ _ _ _ => pts_nil) (fun _ _ _ _ _ => (pe_cal c_sh (hr.mono (by decide)) rfl (pa_cons (pv 3) pa_nil)))) pa_nil)) rfl)
    (pss_one (ps_fld (pv 0) (pv 2) rfl)))), ?_⟩
  intro x dx T0 lb n rs G ex n8 eT lr rw_ k
  refine ⟨_, rfl, T0, _, rfl, .inr (SqT.of eT), ?_⟩
  rw [rfs_len, lr]
  refine ⟨_, rfl, x, CC, dx, [], rfl, ex, t.it.cl, t.nS, by show 0 < 1000; decide, ?_⟩
  have eT1 : (upd G x (.ins CC dx (putF "size" (.int (n : Int)) []))) T0 = some (.tup (rfs rs)) := by rw [upd_ne (fun z => by rw [z, ex] at eT; cases eT)]; exact eT
  have rw1 : ∀ r ∈ rs, RowIn C (upd G x (.ins CC dx (putF "size" (.int (n : Int)) []))) n r := fun r m => (rw_ r m).upx ex rfl
  have ex1 : (upd G x (.ins CC dx (putF "size" (.int (n : Int)) []))) x = some (.ins CC dx (putF "size" (.int (n : Int)) [])) := upd_same
  refine ⟨_, rfl, T0, rfl, ⟨_, SqT.of eT1⟩, fun D nD => ?_⟩
  have nDG : G D = none := by
    by_cases e : D = x
    · rw [e, ex1] at nD; cases nD
    · rw [upd_ne e] at nD; exact nD
  have xD : x ≠ D := fun z => by rw [z, nDG] at ex; cases ex
  refine lc_tup (K := K) (a := T0) (xs := rfs rs) (fun i H' => Same (upd G x (.ins CC dx (putF "size" (.int (n : Int)) []))) H' ∧ ∃ r2 : List (Addr × List Nat), H' D = some (.lst (rfs r2)) ∧ r2.length = i ∧ (∀ r ∈ r2, RowSh C H' n r) ∧ r2.map (·.2) = (rs.take i).map (·.2)) ⟨Same.put nD, [], upd_same, rfl, fun _ m => (by cases m), rfl⟩ (fun i H' _ h => SqT.of (h.1 _ _ eT1)) ?_ ?_
  · rintro i y H' hy ⟨s1, r2, eD, l2, h2, q2⟩
    obtain ⟨r, hr2, mr, rfl⟩ := rfs_at hy
    have il := (List.getElem?_eq_some_iff.mp hr2).1
    refine ⟨rfl, yes_of ?_⟩
    refine ⟨_, rfl, r.1, n, r.2, rfl, n8, (rw1 r mr).same s1, fun t2 H3 s3 sh => ?_⟩
    have up : ∀ (q : Addr × List Nat), RowSh C H3 n q → RowSh C (upd H3 D (.lst (rfs r2 ++ [V.ref t2]))) n q := by
      rintro q ⟨as, h1, h2', h3, h4⟩
      have e3 := s3 _ _ eD
      exact ⟨as, by rw [upd_ne (fun z => by rw [z, e3] at h1; cases h1)]; exact h1, h2', h3, fun j c hc => let ⟨dy, v, q1, q2⟩ := h4 j c hc; ⟨dy, v, q1, by rw [upd_ne (fun z => by rw [z, e3] at q2; cases q2)]; exact q2⟩⟩
    refine ⟨_, s3 _ _ eD, by rw [rfs_len]; exact small_len (by omega), Same.but (fun b u e => s3 _ _ (s1 _ _ e)) nD, r2 ++ [(t2, r.2)], by rw [upd_same, rfs_snoc], by rw [List.length_append, l2]; rfl, fun q m => ?_, ?_⟩
    · rcases List.mem_append.mp m with m | m
      · exact up q ((h2 q m).same s3)
      · rw [List.mem_singleton.mp m]; exact up _ sh
    · rw [List.map_append, q2, take_more hr2, List.map_append]
      rfl
  · rintro H2 ⟨s2, r2, eD, l2, h2, q2⟩
    rw [rfs_len] at l2 q2
    rw [List.take_length] at q2
    refine ⟨D, _, rfl, .inl ⟨SqL.of eD, fun T2 nT2 => ?_⟩⟩
    have sT := Same.put (o := .tup (rfs r2)) nT2
    have eT2 : (upd H2 T2 (.tup (rfs r2))) T2 = some (.tup (rfs r2)) := upd_same
    have ex2 := sT _ _ (s2 _ _ ex1)
    have xT2 : T2 ≠ x := fun z => by rw [z, s2 _ _ ex1] at nT2; cases nT2
    refine ⟨_, rfl, x, CC, dx, _, rfl, ex2, t.it.cl, t.nR, by show 1 < 1000; decide, ?_⟩
    refine ⟨_, rfl, _, rfl, x, CC, dx, _, rfl, upd_same, t.it.cl, t.nL, by show 2 < 1000; decide, ?_⟩
    rw [upd_upd]
    -- the heap without the fields: as it stood before
    have sG : Same G (upd (upd H2 T2 (.tup (rfs r2))) x (.ins CC dx [])) := fun b u e => by
      by_cases q : b = x
      · subst q
        rw [upd_same]
        rw [ex] at e
        exact e
      · rw [upd_ne q]
        exact sT _ _ (s2 _ _ (by rw [upd_ne q]; exact e))
    have kk := k T2 r2 _ sG (by rw [upd_ne xT2]; exact eT2) (by omega) (fun r m => ((h2 r m).same sT).upx ex2 rfl) q2
    rw [upd_upd] at kk
    exact kk
/-- is_tuple_between(least, most, thing), of a tuple that is so -/
def spTupBet : Sp := fun vs H Q _ => ∃ (l m : Int) (t : Addr) (xs : List V), vs = [.int l, .int m, .ref t] ∧ H t = some (.tup xs) ∧ l ≤ (xs.length : Int) ∧ (xs.length : Int) ≤ m ∧ Q (.bl true) H
/-- is_name_row(many, thing), of a tuple of so many names -/
def spNameRow : Sp := fun vs H Q _ => ∃ (lb : Addr) (ls : List Str) (n : Nat), vs = [.int (n : Int), .ref lb] ∧ H lb = some (.tup (sV ls)) ∧ Lbs n ls ∧ ls.length ≤ 8 ∧ ∀ H', Same H H' → Q (.bl true) H'
abbrev s_tupBet : Stmt := top 16
theorem sc_tupBet : FnScope ["least", "most", "thing"] ["least", "most", "thing"] (defScope s_tupBet) := ⟨rfl, rfl, rfl, by decide +kernel, rfl, by decide +kernel, by decide +kernel⟩
theorem ok_tupBet {f : Addr} {fd : FuncData} (F : Fun K "is_tuple_between" "is_tuple_between" s_tupBet f fd) (T : Bm mg) : FnOk P w K mg base CX0 1 f fd ["least", "most", "thing"] spTupBet := by
  refine F.ok sc_tupBet (fun vs H Q E h => ?_) (fun cdv A outer s H vs Q E hr h => ?_)
  · obtain ⟨l, m, t, xs, rfl, _⟩ := h
    rfl
  · obtain ⟨l, m, t, xs, rfl, e, h1, h2, k⟩ := h
    refine ⟨_, (pss_one (ps_ret (pe_and (pe_callB call_isi (by rfl) T.b.n_isinstance (by decide +kernel) (pa_cons (pv 2) (pa_cons (pe_bltn (v := .ty "tuple") rfl T.n_tuple (by decide +kernel) rfl) pa_nil))) (pe_one (pe_chain op_le op_le (pv 0) (pe_callB call_len_seq (by rfl) T.b.n_len PySem.boot_len (pa_cons (pv 2) pa_nil)) (pv 1)))))), ?_⟩
    refine ⟨_, rfl, .ref t, .ty "tuple", _, _, true, rfl, .ty _, .base (.tup e), kit_ty (r := true) (by decide +kernel), _, rfl, iteT ?_⟩
    refine ⟨_, rfl, _, rfl, t, xs, rfl, .inr (SqT.of e), l, _, rfl, rfl, ?_⟩
    refine ⟨true, congrArg V.bl (decide_eq_true h1), iteT ⟨_, rfl, (xs.length : Int), m, rfl, rfl, ?_⟩⟩
    show Q (.bl (decide ((xs.length : Int) ≤ m))) H
    rw [decide_eq_true h2]
    exact k
abbrev s_nameRow : Stmt := top 17
theorem sc_nameRow : FnScope ["many", "thing", "part"] ["many", "thing"] (defScope s_nameRow) := ⟨rfl, rfl, rfl, by decide +kernel, rfl, by decide +kernel, by decide +kernel⟩
theorem ok_nameRow {f : Addr} {fd : FuncData} (F : Fun K "is_name_row" "is_name_row" s_nameRow f fd) (T : Bm mg) (c_tup : Cal P w K mg base 1 "is_tuple_of" ["many", "thing"] (spTupOf K C)) (c_name : Cal P w K mg base 1 "is_name" ["thing"] spIsName) : FnOk P w K mg base CX0 2 f fd ["many", "thing"] spNameRow := by
  refine F.ok sc_nameRow (fun vs H Q E h => ?_) (fun cdv A outer s H vs Q E hr h => ?_)
  · obtain ⟨lb, ls, n, rfl, _⟩ := h
    rfl
  · obtain ⟨lb, ls, n, rfl, el1, ⟨ll, nl⟩, l8, k⟩ := h
    refine ⟨_, (pss_one (ps_ret (pe_and (pe_cal c_tup (hr.mono (by decide)) rfl (pa_cons (pv 0) (pa_cons (pv 1) pa_nil))) (pe_one (pe_callB (cr_all rfl) (by rfl) T.n_all PyProof.Rows.boot_all (pa_cons (pe_lc (own := [("part", 2)]) rfl sc_nameRow.nd (pi_tup (pv 1)) (blkOk_by (N := ["many", "thing", "part"]) (sc := defScope s_nameRow) (by decide +kernel)) (fun _ _ _ _ _ => (pg_name (i := 2) sc_nameRow.nd rfl (Or.inl rfl))) (fun _ _ _ _ _ => pts_nil) (fun _ _ _ _ _ => (pe_cal c_name (hr.mono (by decide)) rfl (pa_cons (pv 2) pa_nil)))) pa_nil)))))), ?_⟩
    refine ⟨_, rfl, _, rfl, _, .ref lb, rfl, .inl ⟨lb, _, rfl, el1, true, congrArg V.bl (decide_eq_true (by rw [sV_len, ll])), iteT ?_⟩⟩
    refine ⟨_, rfl, lb, rfl, ⟨_, SqT.of el1⟩, fun G nG => ?_⟩
    refine lc_tup (K := K) (a := lb) (xs := sV ls) (fun i H' => Same H H' ∧ H' G = some (.lst ((List.replicate i true).map V.bl))) ⟨Same.put nG, upd_same⟩ (fun i H' _ h => SqT.of (h.1 _ _ el1)) ?_ ?_
    · rintro i y H' hy ⟨s2, eG⟩
      obtain ⟨z, hz, rfl⟩ : ∃ z, ls[i]? = some z ∧ y = .str z := by
        rw [sV, List.getElem?_map] at hy
        cases e : ls[i]? with
        | none => rw [e] at hy; cases hy
        | some z => rw [e] at hy; exact ⟨z, rfl, (Option.some.inj hy).symm⟩
      have il := (List.getElem?_eq_some_iff.mp hz).1
      refine ⟨rfl, yes_of ?_⟩
      refine ⟨_, rfl, z, rfl, nl z (List.mem_of_getElem? hz), fun H3 s3 => ?_⟩
      refine ⟨_, s3 _ _ eG, by rw [List.length_map, List.length_replicate]; exact small_len (by omega), Same.but (fun b u e => s3 _ _ (s2 _ _ e)) nG, ?_⟩
      rw [upd_same, refs_rep]
    rintro H2 ⟨s2, eG⟩
    refine ⟨G, _, rfl, SqL.of eG, ?_⟩
    rw [all_true]
    exact k H2 s2
theorem ok_CI {f : Addr} {fd : FuncData} (F : Fun K "__init__" "Chain.__init__" s_CI f fd) (T : Bm mg) (t : ChT K mg CC) (c_spread : Cal P w K mg base 11 "is_spread" ["many", "thing"] (spSpread K C)) (c_bet : Cal P w K mg base 1 "is_tuple_between" ["least", "most", "thing"] spTupBet) (c_nr : Cal P w K mg base 2 "is_name_row" ["many", "thing"] spNameRow) (c_sh : Cal P w K mg base 7 "shares_of" ["row"] (spSharesOf C)) : FnOk P w K mg base CX0 12 f fd ["self", "rows", "labels"] (spCI C CC) := by
  obtain ⟨tM, gM⟩ := t.gM
  refine F.ok sc_CI (fun vs H Q E h => ?_) (fun cdv A outer s H vs Q E hr h => ?_)
  · obtain ⟨x, dx, T0, lb, n, rs, ls, rfl, _⟩ := h
    rfl
  · obtain ⟨x, dx, T0, lb, n, rs, ls, rfl, ex, n1, n8, eT, lr, rw_, el, ⟨ll, nl⟩, k⟩ := h
    obtain ⟨u, hu, qu⟩ := segCI3 (P := P) (w := w) (K := K) (mg := mg) (base := base) (C := C) (f := f) (cdv := cdv) (A := A) (outer := outer) (s := s) (H := H) (E := E) (Q := Q) T t c_sh (hr.mono (by decide))
    refine ⟨_, (pss_cons (ps_if (PW.pt (pw_or (pt_not (pt_val (pe_cal c_bet (hr.mono (by decide)) rfl (pa_cons pe_int (pa_cons (pe_glob (v := .int 8) rfl gM ⟨_, rfl⟩) (pa_cons (pv 1) pa_nil)))))) (pw_or1 (pt_not (pt_val (pe_callB (cr_all rfl) (by rfl) T.n_all PyProof.Rows.boot_all (pa_cons (pe_lc (own := [("row", 3)]) rfl sc_CI.nd (pi_tup (pv 1)) (blkOk_by (N := nCI) (sc := defScope s_CI) (by decide +kernel)) (fun _ _ _ _ _ => (pg_name (i := 3) sc_CI.nd rfl (Or.inl rfl))) (fun _ _ _ _ _ => pts_nil) (fun _ _ _ _ _ => (pe_cal c_spread (hr.mono (by decide)) rfl (pa_cons (pe_callB (show CallR _ _ (fun xs H Q => ∃ p ys, xs = [.ref p] ∧ (SqL K H p ys ∨ SqT K H p ys) ∧ Q (.int ys.length) H) from call_len_seq) (by rfl) T.b.n_len PySem.boot_len (pa_cons (pv 1) pa_nil)) (pa_cons (pv 3) pa_nil))))) pa_nil)))))))
        pss_never
        pss_nil)
      (pss_cons (ps_if (pt_not (pt_val (pe_cal c_nr (hr.mono (by decide)) rfl (pa_cons (pe_callB call_len_seq (by rfl) T.b.n_len PySem.boot_len (pa_cons (pv 1) pa_nil)) (pa_cons (pv 2) pa_nil)))))
        pss_never
        pss_nil) hu)), ?_⟩
    refine ⟨_, rfl, 1, 8, T0, _, rfl, eT, by rw [rfs_len]; omega, by rw [rfs_len]; omega, true, rfl, iteF ?_⟩
    -- the rows are spreads
    refine ⟨_, rfl, T0, rfl, ⟨_, SqT.of eT⟩, fun D nD => ?_⟩
    refine lc_tup (K := K) (a := T0) (xs := rfs rs) (fun i H' => Same H H' ∧ H' D = some (.lst ((List.replicate i true).map V.bl))) ⟨Same.put nD, upd_same⟩ (fun i H' _ h => SqT.of (h.1 _ _ eT)) ?_ ?_
    · rintro i y H' hy ⟨s1, eD⟩
      obtain ⟨r, hr2, mr, rfl⟩ := rfs_at hy
      have il := (List.getElem?_eq_some_iff.mp hr2).1
      obtain ⟨xs, h1, h2, h3⟩ := (rw_ r mr).same s1
      obtain ⟨b1, b2, b3⟩ := tps_low h3 n8
      refine ⟨rfl, yes_of ?_⟩
      refine ⟨_, rfl, T0, _, rfl, .inr (SqT.of (s1 _ _ eT)), _, rfl, _, .ref r.1, rfl, .inl ⟨r.1, xs, _, (r.2.sum : Int), rfl, h1, items_of h2 h3, b1, b2, by rw [List.length_map]; have := h3.1; omega, fun H3 s3 => ?_⟩⟩
      have e : (decide (V.int (xs.length : Int) = V.int ((rfs rs).length : Int)) && sprB (r.2.sum : Int) (r.2.map fun k : Nat => some (k : Int))) = true := by
        rw [spr_ok, Bool.and_true]
        refine decide_eq_true ?_
        rw [rfs_len, h2.1, List.length_map, h3.1, lr]
      rw [e]
      refine ⟨_, s3 _ _ eD, by rw [List.length_map, List.length_replicate]; exact small_len (by omega), Same.but (fun b u e => s3 _ _ (s1 _ _ e)) nD, ?_⟩
      rw [upd_same, refs_rep]
    rintro H1 ⟨s1, eD⟩
    refine ⟨D, _, rfl, SqL.of eD, true, congrArg V.bl (all_true _), iteF ?_⟩
    -- the labels are names
    have el1 := s1 _ _ el
    refine ⟨_, rfl, T0, _, rfl, .inr (SqT.of (s1 _ _ eT)), _, rfl, lb, ls, n, by rw [rfs_len, lr]; rfl, el1, ⟨ll, nl⟩, by omega, fun H2 s2 => ⟨true, rfl, iteF ?_⟩⟩
    have s12 := s1.trans s2
    exact qu x dx T0 lb n rs H2 (s12 _ _ ex) n8 (s12 _ _ eT) lr (fun r m => (rw_ r m).same s12) fun T2 rs2 H3 s3 e2 l2 h2 q2 => k T2 rs2 H3 (s12.trans s3) e2 l2 h2 q2
end
end KJ
set_option Elab.async false
set_option linter.all false
set_option maxRecDepth 100000
set_option maxHeartbeats 4000000
/-! enumerate(t), t a tuple -/
namespace PySem
open AutoSeq1 (wpAny_loadPart')
end PySem
namespace L2
open PySem PySem.Spec PyProof.Rows
end L2
set_option Elab.async false
set_option linter.all false
set_option maxRecDepth 100000
set_option maxHeartbeats 4000000
namespace L2
open PySem PySem.Spec PyProof.Rows
end L2
namespace KJ
open PySem L2
/-- Chain(rows, labels) -/
structure MkC (P : Program) (w : World) (K : PySem.W.Frag) (mg : Str → Option Value) (base : Heap) (C CC : Addr) : Prop where
  ex : ∃ (f : Addr) (fd : FuncData), Mk K CC f ∧ FnOk P w K mg base CX0 12 f fd ["self", "rows", "labels"] (spCI C CC) ∧ Binds K fd ["self", "rows", "labels"] []
  gC : mg "Chain" = some (.ref CC)
section
variable {X : Cx} {C CC : Addr} {p pos : Pos} {e : Expr} {es : List Expr} {t : TA}
theorem pe_chn (m : MkC X.prog X.w X.K X.mg X.base C CC) (hr : Room 13 X.A) (hg : Gl X "Chain") (ha : PA X (e :: es) t)
    (he : starEach (e :: es) X.env = (false, eval e X.env) :: starEach es X.env := by rfl) (hpl : (backTo pos (starEach es X.env)).any (·.1) = false := by rfl) :
    PE X (.Call (.Name "Chain" p) (e :: es) [] pos) (tMake CC (spCI C CC) [] E0 t) := by
  obtain ⟨f, fd, M, F, b0⟩ := m.ex
  exact pe_make M F hr hg m.gC b0 .nil pass0 ha (by decide) he hpl
end
/-- a chain is made -/
theorem chn_go {C CC : Addr} {n : Nat} {T lb : Addr} {rs : List (Addr × List Nat)} {ls : List Str} {H : Hp} {Qv : VK} {E : XK} {x dx : Addr} (hx : H x = none) (hd : H dx = none) (ne : dx ≠ x) (n1 : 1 ≤ n) (n8 : n ≤ 8) (eT : H T = some (.tup (rfs rs))) (lr : rs.length = n) (rw_ : ∀ r ∈ rs, RowIn C H n r) (el : H lb = some (.tup (sV ls))) (hl : Lbs n ls)
    (k : ∀ (H' : Hp), Same H H' → IsCh C CC H' x n (rs.map (·.2)) ls → Qv .non H') : spCI C CC [.ref x, .ref T, .ref lb] (upd (upd H dx (.own x)) x (.ins CC dx [])) Qv E := by
  have s1 : Same H (upd (upd H dx (.own x)) x (.ins CC dx [])) := (Same.put hd).trans (Same.put (by rw [upd_ne ne.symm]; exact hx))
  refine ⟨x, dx, T, lb, n, rs, ls, rfl, upd_same, n1, n8, s1 _ _ eT, lr, fun r m => (rw_ r m).same s1, s1 _ _ el, hl, fun T2 rs2 H2 s2 e2 l2 h2 q2 => ?_⟩
  have ex := s2 _ _ (show (upd (upd H dx (.own x)) x (.ins CC dx [])) x = some (.ins CC dx []) from upd_same)
  refine k _ (fun b u e => ?_) ⟨dx, T2, lb, rs2, upd_same, ?_, l2, fun r m => (h2 r m).upx ex rfl, q2, ?_, hl⟩
  · rw [upd_ne (ne_of_none e hx)]
    exact s2 _ _ (s1 _ _ e)
  · rw [upd_ne (fun z => by rw [z, ex] at e2; cases e2)]
    exact e2
  · have := s2 _ _ (s1 _ _ el)
    rw [upd_ne (fun z => by rw [z, ex] at this; cases this)]
    exact this
/-- chain.row(s) -/
def spChRow (C CC : Addr) : Sp := fun vs H Q _ => ∃ (o : Addr) (n : Nat) (rws : List (List Nat)) (ls : List Str) (s : Nat), vs = [.ref o, .int (s : Int)] ∧ IsCh C CC H o n rws ls ∧ s < n ∧
  ∀ (b : Addr) (ws : List Nat), rws[s]? = some ws → RowSh C H n (b, ws) → Q (.ref b) H
structure RowT (P : Program) (w : World) (K : PySem.W.Frag) (mg : Str → Option Value) (base : Heap) (C CC : Addr) : Prop where
  ex : ∃ (f : Addr) (fd : FuncData), Meth K CC "row" f ∧ FnOk P w K mg base CX0 5 f fd ["self", "state"] (spChRow C CC) ∧ Binds K fd ["self", "state"] []
abbrev kyI (t : Nat) : Key := Sum.inl (t : Int)
theorem iteFe {c : Bool} {A D : Prop} (e : c = false) (h : D) : if c = true then A else D := by
  rw [e]
  exact h
/-- a dict whose keys are these places, ascending -/
def KeysAt (H : Hp) (d : Addr) (ts : List Nat) : Prop := ∃ kvs : List (Key × V), H d = some (.dK kvs) ∧ kvs.map (·.1) = ts.map kyI
theorem KeysAt.same {H H' : Hp} {d : Addr} {ts : List Nat} (h : KeysAt H d ts) (s : Same H H') : KeysAt H' d ts := by
  obtain ⟨kvs, h1, h2⟩ := h
  exact ⟨kvs, s _ _ h1, h2⟩
section
variable {P : Program} {w : World} {K : PySem.W.Frag} {mg : Str → Option Value} {base : Heap} {C CC B : Addr}
abbrev s_chrow : Stmt := inClass (top 30) 1
theorem sc_chrow : FnScope ["self", "state"] ["self", "state"] (defScope s_chrow) := ⟨rfl, rfl, rfl, by decide +kernel, rfl, by decide +kernel, by decide +kernel⟩
theorem ok_chrow {f : Addr} {fd : FuncData} (F : Fun K "row" "Chain.row" s_chrow f fd) (t : ChT K mg CC) (c : CalX P w K mg base 4 "check_state" ["size", "state"] (spCheck K C CC B)) : FnOk P w K mg base CX0 5 f fd ["self", "state"] (spChRow C CC) := by
  refine F.ok sc_chrow (fun vs H Q E h => ?_) (fun cdv A outer s H vs Q E hr h => ?_)
  · obtain ⟨o, n, rws, ls, st, rfl, _⟩ := h
    rfl
  · obtain ⟨o, n, rws, ls, st, rfl, ⟨dx, T, lb, rs, h1, h2, h3, h4, h5, h6, h7⟩, hs, k⟩ := h
    refine ⟨_, (pss_cons (ps_expr (pe_calx c (hr.mono (by decide)) rfl (pa_cons (pe_fld (pv 0) rfl) (pa_cons (pv 1) pa_nil))))
      (pss_one (ps_ret (pe_ix ix_tup (pe_fld (pv 0) rfl) (pv 1) (fun _ _ => rfl))))), ?_⟩
    have gs : rs[st]? = some rs[st] := List.getElem?_eq_getElem (by omega)
    refine ⟨_, rfl, o, CC, dx, _, _, rfl, h1, t.it.cl, t.nS, chF_size _ _ _, _, rfl, (n : Int), .int (st : Int), rfl, .th (.fo (.int _)), .inl ⟨int_btw hs, ?_⟩⟩
    refine ⟨_, rfl, o, CC, dx, _, _, rfl, h1, t.it.cl, t.nR, chF_rows _ _ _, _, rfl, T, _, (st : Int), .ref rs[st].1, rfl, rfl, SqT.of h2, atI_nat (by rw [rfs, List.getElem?_map, gs]; rfl), ?_⟩
    exact k rs[st].1 rs[st].2 (by rw [← h5, List.getElem?_map, gs]; rfl) (h4 _ (List.mem_of_getElem? gs))
end
end KJ
set_option Elab.async false
set_option linter.all false
set_option maxRecDepth 100000
set_option maxHeartbeats 4000000
namespace KJ
open PySem L2
def spSpreadL (C : Addr) : Sp := fun vs H Q _ => ∃ (b : Addr) (n : Nat) (ws : List Nat), vs = [.ref b] ∧ n ≤ 8 ∧ TpsAt n H (b, ws) ∧ ∀ (t : Addr) (H' : Hp), Same H H' → RowSh C H' n (t, ws) → Q (.ref t) H'
section
variable {P : Program} {w : World} {K : PySem.W.Frag} {mg : Str → Option Value} {base : Heap} {C CC B : Addr}
abbrev s_spreadL : Stmt := top 45
theorem sc_spreadL : FnScope ["_law_tops_here", "_law_top"] ["_law_tops_here"] (defScope s_spreadL) := ⟨rfl, rfl, rfl, by decide +kernel, rfl, by decide +kernel, by decide +kernel⟩
theorem ok_spreadL {f : Addr} {fd : FuncData} (F : Fun K "_law_spread" "_law_spread" s_spreadL f fd) (T : Bm mg) (m : MkT P w K mg base C B) : FnOk P w K mg base CX0 6 f fd ["_law_tops_here"] (spSpreadL C) := by
  refine F.ok sc_spreadL (fun vs H Q E h => ?_) (fun cdv A outer s H vs Q E hr h => ?_)
  · obtain ⟨b, n, ws, rfl, _⟩ := h
    rfl
  · obtain ⟨b, n, ws, rfl, n8, ⟨eb, tp⟩, k⟩ := h
    refine ⟨_, (pss_one (ps_ret (pe_callTy call_tuple_of (by rfl) T.n_tuple (by decide +kernel) (pa_cons (pe_lc (own := [("_law_top", 1)]) rfl sc_spreadL.nd (pi_tup (pv 0)) (blkOk_by (N := ["_law_tops_here", "_law_top"]) (sc := defScope s_spreadL) (by decide +kernel)) (fun _ _ _ _ _ => (pg_name (i := 1) sc_spreadL.nd rfl (Or.inl rfl))) (fun _ _ _ _ _ => pts_nil)
      (fun _ _ _ _ _ => (show PE _ _ (tMake C (spSI K C B) [] E0 (tCons (tVar 1) (tCons (tCB (rSumT K) (tCons (tVar 0) tNil)) tNil))) from pe_share2 m (hr.mono (by decide)) rfl (pa_cons (pv 1) (pa_cons (pe_callB (show CallR _ _ (rSumT K) from cr_sumT rfl) (by rfl) T.n_sum PyProof.Rows.boot_sum (pa_cons (pv 0) pa_nil)) pa_nil))))) pa_nil)))), ?_⟩
    have eb : H b = some (.tup (cV ws)) := eb
    obtain ⟨p0, p1, p2⟩ := tps_low tp.g n8
    refine ⟨_, rfl, b, rfl, ⟨_, SqT.of eb⟩, fun D nD => ?_⟩
    refine lc_tup (K := K) (a := b) (xs := cV ws) (fun i H' => Same H H' ∧ ∃ as : List Addr, H' D = some (.lst (as.map V.ref)) ∧ as.length = i ∧
      ∀ (j : Nat) (a : Addr), as[j]? = some a → ∃ (dx : Addr) (w : Nat), ws[j]? = some w ∧ H' a = some (.ins C dx (shF (lowT (w : Int) (ws.sum : Int)) (lowB (w : Int) (ws.sum : Int))))) ⟨Same.put nD, [], upd_same, rfl, fun j a e => by simp at e⟩ (fun i H' _ h => SqT.of (h.1 _ _ eb)) ?_ ?_
    · rintro i x H' hx ⟨s1, as, eD, la, fa⟩
      obtain ⟨w, hw, rfl⟩ := cV_of hx
      have il := (List.getElem?_eq_some_iff.mp hw).1
      have lw : ws.length = n := tp.1
      refine ⟨rfl, yes_of ?_⟩
      refine ⟨_, rfl, _, rfl, b, ws.map (fun k : Nat => (k : Int)), rfl, SqT.of (by rw [← cV_ints]; exact s1 _ _ eb), ?_⟩
      rw [sum_ints]
      have p0 : 0 < (ws.sum : Int) := p0
      intro y0 dy0 hy0 hd0 ne0
      refine mk_ok (K := K) (C := C) (B := B) (a := (w : Int)) (b := (ws.sum : Int)) (H := H') (Q := fun y H4 => ∃ acc, H4 D = some (HO.lst acc) ∧ acc.length < sizeLine ∧ Same H (upd H4 D (.lst (acc ++ [y]))) ∧ ∃ as : List Addr, (upd H4 D (.lst (acc ++ [y]))) D = some (.lst (as.map V.ref)) ∧ as.length = i + 1 ∧ ∀ (j : Nat) (a : Addr), as[j]? = some a → ∃ (dx : Addr) (w : Nat), ws[j]? = some w ∧ (upd H4 D (.lst (acc ++ [y]))) a = some (.ins C dx (shF (lowT (w : Int) (ws.sum : Int)) (lowB (w : Int) (ws.sum : Int))))) (by omega) (log_small p1 (by decide +kernel) (by decide +kernel)) (fun a dx H2 s2 ea => ?_) y0 dy0 hy0 hd0 ne0
      have aD : ∀ {c dy : Addr} {fs : List (Str × V)}, H2 c = some (.ins C dy fs) → c ≠ D := fun e z => by
        rw [z, s2 _ _ eD] at e
        cases e
      refine ⟨_, s2 _ _ eD, by rw [List.length_map]; exact small_len (by omega), Same.but (fun b u e => s2 _ _ (s1 _ _ e)) nD, as ++ [a], by rw [upd_same, List.map_append]; rfl, by rw [List.length_append, la]; rfl, fun j c hc => ?_⟩
      rcases Nat.lt_or_ge j as.length with h | h
      · rw [List.getElem?_append_left h] at hc
        obtain ⟨dy, v, q1, q2⟩ := fa j c hc
        exact ⟨dy, v, q1, by rw [upd_ne (aD (s2 _ _ q2))]; exact s2 _ _ q2⟩
      · rw [List.getElem?_append_right h] at hc
        have hz : j - as.length = 0 := by
          have := (List.getElem?_eq_some_iff.mp hc).1
          simpa using this
        rw [hz] at hc
        have e : a = c := by simpa using hc
        have ej : j = i := by omega
        rw [← e, ej]
        exact ⟨dx, w, hw, by rw [upd_ne (aD ea)]; exact ea⟩
    · rintro H1 ⟨s1, as, eD, la, fa⟩
      rw [show (cV ws).length = n by rw [cV, List.length_map, tp.1]] at la
      refine ⟨D, _, rfl, .inl ⟨SqL.of eD, fun t nt => ?_⟩⟩
      have st := Same.put (o := .tup (as.map V.ref)) nt
      exact k t _ (s1.trans st) ⟨as, upd_same, la, tp.g, fun j c hc => let ⟨dx, w, q1, q2⟩ := fa j c hc; ⟨dx, w, q1, st _ _ q2⟩⟩
end
end KJ
set_option Elab.async false
set_option linter.all false
set_option maxRecDepth 100000
set_option maxHeartbeats 4000000
/-! the digits of a number -/
namespace Tx
open PySem SX PySem.W PySem.W.KIN PySem.NumText
def dg (n : Nat) : List Nat := (Nat.toDigits 10 n).map Char.toNat
/-- k digits -/
def pd : Nat → Nat → List Nat
  | 0, _ => []
  | k + 1, b => pd k (b / 10) ++ [48 + b % 10]
theorem dg_small {n : Nat} (h : n < 10) : dg n = [48 + n] := by
  unfold dg
  rw [Nat.toDigits_of_lt_base h]
  exact (by decide : ∀ d : Fin 10, [(Nat.digitChar d.1)].map Char.toNat = [48 + d.1]) ⟨n, h⟩
theorem dg_step {m d : Nat} (hm : 0 < m) (hd : d < 10) : dg (10 * m + d) = dg m ++ [48 + d] := by
  have t : Nat.toDigits 10 m ++ Nat.toDigits 10 d = Nat.toDigits 10 (10 * m + d) := Nat.toDigits_append_toDigits (by decide) hm hd
  have e := dg_small hd
  unfold dg at e ⊢
  rw [← t, List.map_append, e]
theorem dg_big {n : Nat} (h : 10 ≤ n) : dg n = dg (n / 10) ++ [48 + n % 10] := by
  have := dg_step (m := n / 10) (d := n % 10) (by omega) (by omega)
  rwa [Nat.div_add_mod] at this
theorem dg_block {a : Nat} (ha : 0 < a) : ∀ (k b : Nat), b < 10 ^ k → dg (a * 10 ^ k + b) = dg a ++ pd k b
  | 0, b, h => by
    obtain rfl : b = 0 := by simpa using h
    simp [pd]
  | k + 1, b, h => by
    have hp : 10 ^ (k + 1) = 10 * 10 ^ k := by rw [Nat.pow_succ, Nat.mul_comm]
    have hb : b / 10 < 10 ^ k := by rw [hp] at h; omega
    have e : a * 10 ^ (k + 1) + b = 10 * (a * 10 ^ k + b / 10) + b % 10 := by
      rw [hp, Nat.mul_add, Nat.mul_left_comm a 10, Nat.add_assoc, Nat.div_add_mod]
    have hpos : 0 < 10 ^ k := Nat.pow_pos (by decide)
    have h0 : 0 < a * 10 ^ k := Nat.mul_pos ha hpos
    rw [e, dg_step (by omega) (by omega), dg_block ha k (b / 10) hb, List.append_assoc]
    rfl
theorem dg_ne (n : Nat) : dg n ≠ [] := by
  by_cases h : n < 10
  · rw [dg_small h]; simp
  · rw [dg_big (by omega)]; simp
theorem pd_zero : ∀ k, pd k 0 = List.replicate k 48
  | 0 => rfl
  | k + 1 => by
    show pd k (0 / 10) ++ [48 + 0 % 10] = _
    rw [Nat.zero_div, pd_zero k, List.replicate_succ']
/-- k digits are the number's, behind noughts -/
theorem pd_eq : ∀ (k b : Nat), b < 10 ^ (k + 1) → pd (k + 1) b = List.replicate (k + 1 - (dg b).length) 48 ++ dg b
  | 0, b, h => by
    have h : b < 10 := by simpa using h
    rw [dg_small h]
    show [] ++ [48 + b % 10] = List.replicate 0 48 ++ _
    rw [Nat.mod_eq_of_lt h]
    rfl
  | k + 1, b, h => by
    have hp : 10 ^ (k + 1 + 1) = 10 * 10 ^ (k + 1) := by rw [Nat.pow_succ, Nat.mul_comm]
    by_cases c : b < 10
    · show pd (k + 1) (b / 10) ++ [48 + b % 10] = _
      rw [Nat.div_eq_of_lt c, Nat.mod_eq_of_lt c, pd_zero, dg_small c]
      rfl
    · have hb : b / 10 < 10 ^ (k + 1) := by rw [hp] at h; omega
      show pd (k + 1) (b / 10) ++ [48 + b % 10] = _
      rw [pd_eq k (b / 10) hb, dg_big (n := b) (by omega), List.length_append, List.append_assoc]
      show _ = List.replicate (k + 1 + 1 - ((dg (b / 10)).length + 1)) 48 ++ _
      rw [Nat.add_sub_add_right]
theorem dg_digit (n : Nat) : AllDigits (dg n) := fun c hc => by
  obtain ⟨ch, hch, e⟩ := List.mem_map.mp hc
  rw [← e]
  exact PyProof.Rows.digit_range (Nat.isDigit_of_mem_toDigits (by decide) (by decide) hch)
theorem dg_len : ∀ (k n : Nat), n < 10 ^ (k + 1) → (dg n).length ≤ k + 1
  | 0, n, h => by rw [dg_small (by simpa using h)]; exact Nat.le_refl 1
  | k + 1, n, h => by
    have hp : 10 ^ (k + 1 + 1) = 10 * 10 ^ (k + 1) := by rw [Nat.pow_succ, Nat.mul_comm]
    by_cases c : n < 10
    · rw [dg_small c]; simp
    · have := dg_len k (n / 10) (by rw [hp] at h; omega)
      rw [dg_big (by omega), List.length_append]
      show (dg (n / 10)).length + 1 ≤ _
      omega
theorem dg_lt : ∀ (k n : Nat), (dg n).length ≤ k → n < 10 ^ k
  | 0, n, h => absurd (List.length_pos_iff.mpr (dg_ne n)) (by omega)
  | k + 1, n, h => by
    have hp : 10 ^ (k + 1) = 10 * 10 ^ k := by rw [Nat.pow_succ, Nat.mul_comm]
    have h1 : 1 ≤ 10 ^ k := Nat.pow_pos (by decide)
    by_cases c : n < 10
    · omega
    · rw [dg_big (by omega), List.length_append] at h
      have := dg_lt k (n / 10) (by simpa using h)
      rw [hp]
      omega
theorem str_dg (n : Nat) : (Str.ofString (toString ((n : Nat) : Int))) = S (dg n) := TL.ext_tl (signs_num n)
theorem int_dg {n : Nat} (h : (dg n).length ≤ 640) : PySem.intText? (S (dg n)) = some (n : Int) := by
  have e := intText_digits (x := S (dg n)) (dg_digit n) (dg_ne n) (by rw [S_len]; omega)
  rw [e]
  exact congrArg (fun z : Nat => some (z : Int)) (val_back n)
theorem zfill_dg {k b : Nat} (h : b < 10 ^ (k + 1)) : Txt.zfill (S (dg b)) ((k + 1 : Nat) : Int) = S (pd (k + 1) b) := by
  have hl := dg_len k b h
  unfold Txt.zfill
  rw [pd_eq k b h, S_len]
  by_cases c : ((k + 1 : Nat) : Int) ≤ ((dg b).length : Int)
  · rw [if_pos c, show k + 1 - (dg b).length = 0 by omega]
    rfl
  · rw [if_neg c]
    have hz : ∀ l : List Nat, AllDigits l → l ≠ [] → PySem.zfilled (S l) (((k + 1 : Nat) : Int).toNat - l.length) = S (List.replicate (k + 1 - l.length) 48 ++ l) := by
      intro l hd hn
      cases l with
      | nil => exact absurd rfl hn
      | cons d r =>
        have h1 := hd d List.mem_cons_self
        have hp : PySem.zfilled (S (d :: r)) (((k + 1 : Nat) : Int).toNat - (d :: r).length) = Builtin.Str.padded (S (d :: r)) (((k + 1 : Nat) : Int).toNat - (d :: r).length) 0 48 := by
          unfold PySem.zfilled
          have e0 : (S (d :: r)).cps[0]? = some d := rfl
          rw [e0]
          split
          · rename_i z; have := Option.some.inj z; omega
          · rename_i z; have := Option.some.inj z; omega
          · rfl
        rw [hp, Int.toNat_natCast]
        refine TL.ext_tl ?_
        show (Array.replicate _ 48 ++ (d :: r).toArray ++ Array.replicate 0 48).toList = _
        simp
    exact hz _ (dg_digit b) (dg_ne b)
/-- the head of a number of two digits or more is not 0 -/
theorem dg_head {n : Nat} (h : 10 ≤ n) : (dg n).head? ≠ some 48 := by
  induction n using Nat.strongRecOn with
  | _ n ih =>
    rw [dg_big h]
    by_cases c : n / 10 < 10
    · rw [dg_small c]
      show some (48 + n / 10) ≠ some 48
      intro z
      have := Option.some.inj z
      omega
    · have := ih (n / 10) (by omega) (by omega)
      rw [List.head?_append]
      cases e : (dg (n / 10)).head? with
      | none => exact absurd (List.head?_eq_none_iff.mp e) (dg_ne _)
      | some x =>
        rw [e] at this
        simpa using this
end Tx
set_option Elab.async false
set_option linter.all false
set_option maxRecDepth 100000
set_option maxHeartbeats 1000000
namespace KJ
open PySem L2 SX Tx
theorem log_lt {n : Nat} (h : n < 10 ^ 64) : n.log2 < 1920 := by
  by_cases h0 : n = 0
  · rw [h0]
    decide
  · refine (Nat.log2_lt h0).mpr (Nat.lt_trans h ?_)
    decide +kernel
/-- digits(number), of a number that is not negative -/
def spDigL : Sp := fun vs H Q _ => ∃ n : Nat, vs = [.int (n : Int)] ∧ n < 2 ^ 1400 ∧ ∀ H', Same H H' → Q (.str (S (dg n))) H'
theorem joinL_flat : ∀ ps : List (List Nat), TL.joinL [] ps = ps.flatten
  | [] => rfl
  | [p] => by show p = p ++ []; rw [List.append_nil]
  | p :: q :: r => by
    show p ++ ([] ++ TL.joinL [] (q :: r)) = p ++ (q :: r).flatten
    rw [List.nil_append, joinL_flat (q :: r)]
theorem pd_len : ∀ k b, (pd k b).length = k
  | 0, _ => rfl
  | k + 1, b => by
    show (pd k (b / 10) ++ [48 + b % 10]).length = _
    rw [List.length_append, pd_len k]
    rfl
theorem flat64 : ∀ {bs : List (List Nat)}, (∀ b ∈ bs, b.length = 64) → bs.reverse.flatten.length = 64 * bs.length
  | [], _ => rfl
  | b :: bs, h => by
    rw [List.reverse_cons, List.flatten_append, List.length_append, flat64 fun x m => h x (List.mem_cons_of_mem _ m)]
    show _ + (b ++ []).length = _
    rw [List.append_nil, h b List.mem_cons_self, List.length_cons]
    omega
theorem strs_snoc (bs : List (List Nat)) (x : List Nat) : (bs.map S).map V.str ++ [V.str (S x)] = ((bs ++ [x]).map S).map V.str := by
  rw [List.map_append, List.map_append]
  rfl
theorem blk_step {n left k : Nat} {bs : List (List Nat)} (q : dg n = dg left ++ bs.reverse.flatten) (lp : 0 < left / 10 ^ k) (lo : left % 10 ^ k < 10 ^ k) : dg n = dg (left / 10 ^ k) ++ (bs ++ [pd k (left % 10 ^ k)]).reverse.flatten := by
  have e := dg_block lp k _ lo
  rw [Nat.div_add_mod'] at e
  generalize pd k (left % 10 ^ k) = x at e
  rw [q, e, List.reverse_append, List.flatten_append, List.append_assoc]
  congr 1
  show x ++ _ = (x ++ []) ++ _
  rw [List.append_nil]
theorem log64 {n : Nat} (h : n < 10 ^ 64) : ((n : Int)).natAbs.log2 < 1920 := log_lt h
section
variable {P : Program} {w : World} {K : PySem.W.Frag} {mg : Str → Option Value} {base : Heap} {C B : Addr}
abbrev s_digits : Stmt := top 20
abbrev nDg : List Str := ["number", "blocks", "left", "low", "sign"]
theorem sc_digits : FnScope nDg ["number"] (defScope s_digits) := ⟨rfl, rfl, rfl, by decide +kernel, rfl, by decide +kernel, by decide +kernel⟩
theorem ok_digits {f : Addr} {fd : FuncData} {tk : Tok} (F : Fun K "digits" "digits" s_digits f fd) (T : Bm mg) (gB : mg "BLOCK" = some (.int (10 ^ 64) tk)) : FnOk P w K mg base CX0 1 f fd ["number"] spDigL := by
  refine F.ok sc_digits (fun vs H Q E h => ?_) (fun cdv A outer s H vs Q E hr h => ?_)
  · obtain ⟨n, rfl, _⟩ := h
    rfl
  · obtain ⟨n, rfl, hn, k⟩ := h
    refine ⟨_, (pss_cons (ps_set (i := 1) sc_digits.nd rfl (Or.inl rfl) (pe_lst pa_nil))
      (pss_cons (ps_set (i := 2) sc_digits.nd rfl (Or.inl rfl) (pe_callB call_abs (by rfl) T.b.n_abs (by decide +kernel) (pa_cons (pv 0) pa_nil)))
      (pss_cons (ps_while PassesOwn.never (pt_cmpR op_ge (pv 2) (pe_glob (v := .int (10 ^ 64)) rfl gB ⟨_, rfl⟩) (nomark _))
        (pss_cons (ps_asg (pe_callB call_divmodW (by rfl) T.b.n_divmod (by decide +kernel) (pa_cons (pv 2) (pa_cons (pe_glob (v := .int (10 ^ 64)) rfl gB ⟨_, rfl⟩) pa_nil))) (pg_tup (by rfl) (pgs_cons (pg_name (i := 2) sc_digits.nd rfl (Or.inl rfl)) (pgs_cons (pg_name (i := 3) sc_digits.nd rfl (Or.inl rfl)) pgs_nil))))
          (pss_one (ps_expr (pe_bm PySem.F.plainAttrs_list PySem.F.slot_list_append PySem.F.type_list_append mt_append (pv 1) (pa_cons (pe_m1 PySem.F.slot_str_zfill PySem.F.type_str_zfill mt_zfill (pe_callTy call_str_int (by rfl) T.b.n_str (by decide +kernel) (pa_cons (pv 3) pa_nil)) pe_int) pa_nil))))))
      (pss_cons (ps_set (i := 4) sc_digits.nd rfl (Or.inl rfl) (pe_ifExp (pt_cmpR op_lt (pv 0) pe_int (nomark _)) pe_str pe_str))
      (pss_one (ps_ret (pe_join pe_str (pe_lst (pa_cons (pv 4) (pa_cons (pe_callTy call_str_int (by rfl) T.b.n_str (by decide +kernel) (pa_cons (pv 2) pa_nil)) (StX.pa_star (pe_revL (pv 1)) pa_nil))))))))))), ?_⟩
    have big : (10 : Int) ^ 64 = ((10 ^ 64 : Nat) : Int) := by decide +kernel
    have n14 : (dg n).length ≤ 1400 := dg_len 1399 n (Nat.lt_of_lt_of_le hn (Nat.pow_le_pow_left (by decide) _))
    refine ⟨by show 0 ≤ sizeLine; exact Nat.zero_le _, fun l nl => ?_⟩
    refine ⟨_, rfl, (n : Int), rfl, ?_⟩
    rw [if_neg (by omega)]
    refine while_by (fun σ H' => ∃ (left : Nat) (v3 : Option V) (bs : List (List Nat)), σ = [some (.int (n : Int)), some (.ref l), some (.int (left : Int)), v3, none] ∧ Same H H' ∧ H' l = some (.lst ((bs.map S).map V.str)) ∧ dg n = dg left ++ bs.reverse.flatten ∧ left ≤ n ∧ ∀ b ∈ bs, b.length = 64) (fun σ _ => match σ with | [_, _, some (.int i), _, _] => i.toNat | _ => 0)
      ⟨n, none, [], rfl, Same.put nl, upd_same, by simp, Nat.le_refl n, fun _ m => by cases m⟩ ?_ ?_
    · rintro σ H1 ⟨left, v3, bs, rfl, s1, e1, q1, ln, b64⟩
      have fl := flat64 b64
      have few : bs.length ≤ 22 := by
        have := congrArg List.length q1
        rw [List.length_append, fl] at this
        omega
      refine ⟨_, rfl, (left : Int), _, rfl, rfl, _, rfl, iteB (fun z => ?_) (fun z => ?_)⟩
      · have z := of_decide_eq_true z
        rw [big] at z
        have z : 10 ^ 64 ≤ left := Int.ofNat_le.mp z
        refine ⟨_, rfl, (left : Int), _, rfl, ⟨by rw [big]; decide +kernel, PyProof.noPylong_of_log2 (by decide +kernel)⟩, fun p np => ?_⟩
        refine ⟨p, _, rfl, SqT.of upd_same, rfl, _, _, rfl, _, _, rfl, rfl, ?_⟩
        have sp := Same.put (o := .tup [.int ((left : Int) / 10 ^ 64), .int ((left : Int) % 10 ^ 64)]) np
        have e2 := sp _ _ e1
        have s2 := s1.trans sp
        have hd : (left : Int) / 10 ^ 64 = ((left / 10 ^ 64 : Nat) : Int) := by rw [big, Int.natCast_ediv]
        have hm : (left : Int) % 10 ^ 64 = ((left % 10 ^ 64 : Nat) : Int) := by rw [big, Int.natCast_emod]
        rw [hd, hm] at e2 s2 ⊢
        generalize (upd H1 p (.tup [.int ((left / 10 ^ 64 : Nat) : Int), .int ((left % 10 ^ 64 : Nat) : Int)])) = H2 at e2 s2 ⊢
        have lo : left % 10 ^ 64 < 10 ^ 64 := Nat.mod_lt _ (by decide +kernel)
        have lp : 0 < left / 10 ^ 64 := Nat.div_pos z (by decide +kernel)
        have ll : left / 10 ^ 64 < left := Nat.div_lt_self (by omega) (by decide +kernel)
        refine ⟨_, rfl, .inl ⟨rfl, _, SqL.of e2⟩, _, rfl, _, rfl, log64 lo, ⟨_, rfl⟩, _, _, rfl, rfl, by decide, ?_⟩
        rw [str_dg, show Txt.zfill (S (dg (left % 10 ^ 64))) 64 = S (pd 64 (left % 10 ^ 64)) from zfill_dg (k := 63) lo]
        refine ⟨l, _, _, rfl, rfl, e2, by rw [List.length_map, List.length_map]; exact small_len (by omega), ⟨left / 10 ^ 64, _, bs ++ [pd 64 (left % 10 ^ 64)], rfl, Same.but (fun b u e => s2 _ _ e) nl, ?_, ?_, by omega, fun b m => ?_⟩, ?_⟩
        · rw [upd_same]
          exact congrArg (fun z => some (HO.lst z)) (strs_snoc bs _)
        · exact blk_step q1 lp lo
        · rcases List.mem_append.mp m with m | m
          · exact b64 b m
          · rw [List.mem_singleton.mp m]
            exact pd_len 64 _
        · show left / 10 ^ 64 < left
          exact ll
      · have z := of_decide_eq_false z
        rw [big] at z
        have z : left < 10 ^ 64 := by
          have : ¬ 10 ^ 64 ≤ left := fun c => z (Int.ofNat_le.mpr c)
          exact Nat.lt_of_not_le this
        refine ⟨_, rfl, _, _, rfl, rfl, _, rfl, ite2 (fun e => absurd (of_decide_eq_true e) (by omega)) (fun _ => ?_)⟩
        refine ⟨⟨_, rfl⟩, _, rfl, _, rfl, _, rfl, log64 z, _, rfl, l, _, rfl, .inl (.inl e1), fun r hr' => ?_⟩
        rw [str_dg]
        have sr := Same.put (o := .lst ((bs.map S).map V.str).reverse) hr'
        refine ⟨r, _, rfl, .inr (SqL.of upd_same), ?_, fun d hd => ?_⟩
        · simp only [List.length_cons, List.length_append, List.length_reverse, List.length_map, List.length_nil]
          exact Nat.le_of_lt (small_len (by omega))
        refine ⟨_, d, (([] :: dg left :: bs.reverse).map S), rfl, rfl, .inl (SqL.of ?_), ?_, ?_⟩
        · rw [upd_same]
          refine congrArg (fun z => some (HO.lst z)) ?_
          simp [List.map_reverse]
          rfl
        · rw [lens]
          have e : ((([] : List Nat) :: dg left :: bs.reverse).map (·.length)).sum = (dg n).length := by
            rw [← List.length_flatten, q1]
            rfl
          rw [e]
          show (dg n).length + _ * 0 ≤ 16777216
          omega
        · rw [show Str.ofString "" = S [] from rfl, join_S, joinL_flat, show (([] : List Nat) :: dg left :: bs.reverse).flatten = dg n by rw [q1]; rfl]
          exact k _ ((s1.trans sr).trans (Same.put hd))
    · rintro σ H1 Q1 Q2 hm ⟨v, hv, i, j, e1, e2, k, e3, q⟩
      exact ⟨v, hv, i, j, e1, e2, k, e3, hm _ _ q⟩
end
end KJ
set_option Elab.async false
set_option linter.all false
set_option maxRecDepth 100000
set_option maxHeartbeats 1000000
namespace KJ
open PySem PySem.Spec L2 PyProof.Rows SX Tx
/-- a share's text -/
def shL (t n : Nat) : List Nat := if n = 1 then dg t else dg t ++ (47 :: dg n)
def spStrL (C : Addr) : Sp := fun vs H Q _ => ∃ (a dx : Addr) (t n : Nat), vs = [.ref a] ∧ H a = some (.ins C dx (shF (t : Int) (n : Int))) ∧ t < 2 ^ 1400 ∧ n < 2 ^ 1400 ∧ ∀ H', Same H H' → Q (.str (S (shL t n))) H'
theorem dgS_len {n : Nat} (h : n < 2 ^ 1400) : (S (dg n)).length ≤ 1400 := by
  rw [S_len]
  exact dg_len 1399 n (Nat.lt_of_lt_of_le h (Nat.pow_le_pow_left (by decide) _))
section
variable {P : Program} {w : World} {K : PySem.W.Frag} {mg : Str → Option Value} {base : Heap} {C B : Addr}
abbrev s_str : Stmt := inClass (top 21) 9
theorem sc_str : FnScope ["self"] ["self"] (defScope s_str) := ⟨rfl, rfl, rfl, by decide +kernel, rfl, by decide +kernel, by decide +kernel⟩
theorem ok_str {f : Addr} {fd : FuncData} (F : Fun K "__str__" "Share.__str__" s_str f fd) (T : ShT K mg C) (c_digits : Cal P w K mg base 1 "digits" ["number"] spDigL) :
    FnOk P w K mg base CX0 2 f fd ["self"] (spStrL C) := by
  refine F.ok sc_str (fun vs H Q E h => ?_) (fun cdv A outer s H vs Q E hr h => ?_)
  · obtain ⟨a, dx, t, n, rfl, _⟩ := h
    rfl
  · obtain ⟨a, dx, t, n, rfl, ha, ht, hn, k⟩ := h
    refine ⟨_, (pss_cons (ps_if (pt_cmpR op_eq (pe_fld (pv 0) rfl) pe_int (nomark _))
        (pss_one (ps_ret (pe_joined1 (pe_fmt (pe_cal c_digits (hr.mono (by decide)) rfl (pa_cons (pe_fld (pv 0) rfl) pa_nil))))))
        pss_nil)
      (pss_one (ps_ret (pe_joined (.cons (pe_fmt (pe_cal c_digits (hr.mono (by decide)) rfl (pa_cons (pe_fld (pv 0) rfl) pa_nil))) (.cons pe_str (.cons (pe_fmt (pe_cal c_digits (hr.mono (by decide)) rfl (pa_cons (pe_fld (pv 0) rfl) pa_nil))) .nil))))))), ?_⟩
    have lt := dgS_len ht
    have ln := dgS_len hn
    have lt' := lt
    have ln' := ln
    rw [S_len] at lt' ln'
    refine ⟨_, rfl, a, C, dx, _, _, rfl, ha, T.it.cl, T.nB, shF_bottom _ _, rfl, _, rfl, iteB (fun z => ?_) (fun z => ?_)⟩
    · have e : n = 1 := by have := of_decide_eq_true z; rw [V.int.injEq] at this; omega
      refine ⟨_, rfl, a, C, dx, _, _, rfl, ha, T.it.cl, T.nT, shF_top _ _, t, rfl, ht, fun H' hs => .inl ⟨_, rfl, ?_, ?_⟩⟩
      · exact Nat.le_trans lt (by decide)
      · have q := k H' hs
        unfold shL at q
        rw [if_pos e] at q
        exact q
    · have e : ¬ n = 1 := fun q => of_decide_eq_false z (by rw [q]; rfl)
      have sl : Str.ofString "/" = S [47] := rfl
      have em : (Str.empty : Str) = S [] := rfl
      refine ⟨_, rfl, a, C, dx, _, _, rfl, ha, T.it.cl, T.nT, shF_top _ _, t, rfl, ht, fun H' hs => .inl ⟨_, rfl, Nat.le_trans lt (by decide), _, rfl, ?_, ?_⟩⟩
      · rw [em, S_cat, S_len, List.nil_append, ← S_len]
        exact Nat.le_trans lt (by decide)
      · refine ⟨_, rfl, ?_, ?_⟩
        · rw [em, sl, S_cat, S_cat, S_len, List.length_append, List.length_append]
          exact Nat.le_trans (show 0 + (dg t).length + 1 ≤ 1401 by omega) (by decide)
        · refine ⟨_, rfl, a, C, dx, _, _, rfl, hs _ _ ha, T.it.cl, T.nB, shF_bottom _ _, n, rfl, hn, fun H2 hs2 => .inl ⟨_, rfl, Nat.le_trans ln (by decide), _, rfl, ?_, ?_⟩⟩
          · rw [em, sl, S_cat, S_cat, S_cat, S_len, List.length_append, List.length_append, List.length_append]
            exact Nat.le_trans (show 0 + (dg t).length + 1 + (dg n).length ≤ 2801 by omega) (by decide)
          · show Q (.str (Str.empty ++ S (dg t) ++ Str.ofString "/" ++ S (dg n))) H2
            have q := k H2 (hs.trans hs2)
            unfold shL at q
            rw [if_neg e] at q
            rw [em, sl, S_cat, S_cat, S_cat, show ([] : List Nat) ++ dg t ++ [47] ++ dg n = dg t ++ (47 :: dg n) by simp]
            exact q
end
/-- __str__ of the class -/
structure StrT (P : Program) (w : World) (K : PySem.W.Frag) (mg : Str → Option Value) (base : Heap) (C : Addr) : Prop where
  ex : ∃ (f : Addr) (fd : FuncData), PySem.W.findIn K (.ref C) "__str__" = some (some (.ref f)) ∧ PySem.W.isFn K (.ref f) = true ∧ FnOk P w K mg base CX0 2 f fd ["self"] (spStrL C) ∧ Binds K fd ["self"] []
/-- str(share) -/
def rStrS (C : Addr) : List V → Hp → VK → Prop := fun xs H Q => ∃ (a dx : Addr) (t n : Nat), xs = [.ref a] ∧ H a = some (.ins C dx (shF (t : Int) (n : Int))) ∧ t < 2 ^ 1400 ∧ n < 2 ^ 1400 ∧ ∀ H', Same H H' → Q (.str (S (shL t n))) H'
theorem call_strS {X : Cx} {C : Addr} (c : StrT X.prog X.w X.K X.mg X.base C) (hr : Room 4 X.A) : CallR X (.type "str") (rStrS C) := by
  intro pins s σ H xs us Q I r h
  obtain ⟨a, dx, t, n, rfl, ha, ht, hn, q⟩ := h
  obtain ⟨f, fd, hs, hf, F, hb⟩ := c.ex
  obtain ⟨u, rfl, ru⟩ := vals1 r
  obtain rfl : u = Value.ref a := ru
  obtain ⟨mA, J, _⟩ := ins_get I.hok ha
  obtain ⟨od, J, _⟩ := J.look
  have hr2 : Room 2 X.A.in1.in1 := hr.in1.in1
  refine PySem.W.kso_call (hr2.units0) I.kIn J hs hf ?_
  have e0 : Env0 X.prog X.w X.K X.mg X.base X.A.in1.in1 X.stack s H := by
    have e := I.env0
    exact ⟨e.frames, e.mod, e.bs, e.bsz, e.funs, e.frf, e.hok, e.bare⟩
  have hsp : spStrL C [.ref a] H (fun v H' => v = .str (S (shL t n)) ∧ Same H H') E0 := ⟨a, dx, t, n, rfl, ha, ht, hn, fun H' hs => ⟨rfl, hs⟩⟩
  have hl := F.len _ _ _ _ hsp
  have r2 : Vals [V.ref a] [Value.ref a] := .cons rfl .nil
  refine wpAny_call (codeAny_mono (F.run X.A.in1.in1 X.stack s H ⟨[.ref a], []⟩ [.ref a] [.ref a] _ E0 hr2 e0 (by
    have := hb s [.ref a] I.kIn (by simpa using hl)
    simpa using this) r2 hsp) fun r s' hq => ?_)
  cases r with
  | error e => exact hq.elim
  | ok fl =>
    cases fl with
    | ret w =>
      obtain ⟨z, H', I', rz, ez, ex⟩ := I.after hq
      subst ez
      obtain ⟨tk, rfl⟩ := (show ∃ tk, w = Value.str (S (shL t n)) tk from rz)
      exact ⟨.str (S (shL t n)), H', I', ⟨tk, rfl⟩, q H' ex⟩
    | next => exact False.elim hq
    | brk => exact False.elim hq
    | cont => exact False.elim hq
end KJ
set_option Elab.async false
set_option linter.all false
set_option maxRecDepth 100000
set_option maxHeartbeats 1000000
namespace KJ
open PySem L2
/-! ### label, with_label -/
def spChLabel (C CC : Addr) : Sp := fun vs H Q _ => ∃ (o : Addr) (n : Nat) (rws : List (List Nat)) (ls : List Str) (s : Nat), vs = [.ref o, .int (s : Int)] ∧ IsCh C CC H o n rws ls ∧ s < n ∧ ∀ x, ls[s]? = some x → Q (.str x) H
structure LabT (P : Program) (w : World) (K : PySem.W.Frag) (mg : Str → Option Value) (base : Heap) (C CC : Addr) : Prop where
  ex : ∃ (f : Addr) (fd : FuncData), Meth K CC "label" f ∧ FnOk P w K mg base CX0 5 f fd ["self", "state"] (spChLabel C CC) ∧ Binds K fd ["self", "state"] []
section
variable {P : Program} {w : World} {K : PySem.W.Frag} {mg : Str → Option Value} {base : Heap} {C CC B BD : Addr}
abbrev s_chlabel : Stmt := inClass (top 30) 2
theorem sc_chlabel : FnScope ["self", "state"] ["self", "state"] (defScope s_chlabel) := ⟨rfl, rfl, rfl, by decide +kernel, rfl, by decide +kernel, by decide +kernel⟩
theorem ok_chlabel {f : Addr} {fd : FuncData} (F : Fun K "label" "Chain.label" s_chlabel f fd) (t : ChT K mg CC) (c : CalX P w K mg base 4 "check_state" ["size", "state"] (spCheck K C CC B)) : FnOk P w K mg base CX0 5 f fd ["self", "state"] (spChLabel C CC) := by
  refine F.ok sc_chlabel (fun vs H Q E h => ?_) (fun cdv A outer s H vs Q E hr h => ?_)
  · obtain ⟨o, n, rws, ls, st, rfl, _⟩ := h
    rfl
  · obtain ⟨o, n, rws, ls, st, rfl, ⟨dx, T, lb, rs, h1, h2, h3, h4, h5, h6, h7⟩, hs, k⟩ := h
    refine ⟨_, (pss_cons (ps_expr (pe_calx c (hr.mono (by decide)) rfl (pa_cons (pe_fld (pv 0) rfl) (pa_cons (pv 1) pa_nil))))
      (pss_one (ps_ret (pe_ix ix_tup (pe_fld (pv 0) rfl) (pv 1) (fun _ _ => rfl))))), ?_⟩
    have gs : ls[st]? = some (ls[st]'(by have := h7.1; omega)) := List.getElem?_eq_getElem (by have := h7.1; omega)
    refine ⟨_, rfl, o, CC, dx, _, _, rfl, h1, t.it.cl, t.nS, chF_size _ _ _, _, rfl, (n : Int), .int (st : Int), rfl, .th (.fo (.int _)), .inl ⟨int_btw hs, ?_⟩⟩
    refine ⟨_, rfl, o, CC, dx, _, _, rfl, h1, t.it.cl, t.nL, chF_labels _ _ _, _, rfl, lb, _, (st : Int), _, rfl, rfl, SqT.of h6, atI_nat (sV_at gs), ?_⟩
    exact k _ gs
end
end KJ
set_option Elab.async false
set_option linter.all false
set_option maxRecDepth 100000
set_option maxHeartbeats 1000000
namespace KJ
open PySem L2 SX Tx
def d09 : Str := "0123456789"
theorem d09_tl : d09.cps.toList = [48, 49, 50, 51, 52, 53, 54, 55, 56, 57] := by decide +kernel
structure DgG (mg : Str → Option Value) : Prop where
  gM : ∃ t, mg "MOST_DIGITS" = some (.int 100 t)
  gD : ∃ t, mg "DIGITS" = some (.str d09 t)
section
variable {P : Program} {w : World} {K : PySem.W.Frag} {mg : Str → Option Value} {base : Heap} {C CC B : Addr}
abbrev s_numw : Stmt := top 38
theorem sc_numw : FnScope ["word", "sign"] ["word"] (defScope s_numw) := ⟨rfl, rfl, rfl, by decide +kernel, rfl, by decide +kernel, by decide +kernel⟩
end
end KJ
set_option Elab.async false
set_option linter.all false
set_option maxRecDepth 100000
set_option maxHeartbeats 1000000
namespace KJ
open PySem L2 SX Tx
/-- BadText.__init__ -/
def spBT (K : PySem.W.Frag) (B : Addr) : Sp := fun vs H Q _ => ∃ (a : Addr) (y : V), vs = [.ref a, y] ∧ OexC K B ∧ PySem.W.findIn K (.ref B) "line" = some none ∧ H a = some (exo a B none) ∧
  ∀ dx, H dx = none → dx ≠ a → Q .non (upd (upd H dx (exd dx [("line", y)])) a (exo a B (some dx)))
structure BtxT (P : Program) (w : World) (K : PySem.W.Frag) (mg : Str → Option Value) (base : Heap) (B : Addr) : Prop where
  O : OexC K B
  nf : PySem.W.findIn K (.ref B) "line" = some none
  gB : mg "BadText" = some (.ref B)
  made : ∃ (fI : Addr) (fd : FuncData), PySem.W.findIn K (.ref B) "__init__" = some (some (.ref fI)) ∧ PySem.W.typeIn K (.ref fI) = some (.type "function") ∧ FnOk P w K mg base CX0 2 fI fd ["self", "line"] (spBT K B) ∧ Binds K fd ["self", "line"] []
theorem bt_end {H : Hp} {a dx : Addr} {p : V} {B : Addr} (ha : H a = none) (hd : (upd H a (exo a B none)) dx = none) (ne : dx ≠ a) :
    Same H (upd (L2.del (upd (upd (upd H a (exo a B none)) dx (exd dx [("line", p)])) a (exo a B (some dx))) a) dx (.xd [("line", p)])) := fun b o h => by
  have nb : b ≠ a := ne_of_none h ha
  have nd : b ≠ dx := fun z => by rw [upd_ne ne] at hd; rw [z, hd] at h; cases h
  rw [upd_ne nd, del_ne nb, upd_ne nb, upd_ne nd, upd_ne nb]
  exact h
section
variable {P : Program} {w : World} {K : PySem.W.Frag} {mg : Str → Option Value} {base : Heap} {C CC B : Addr}
abbrev s_BT : Stmt := inClass (top 7) 0
theorem sc_BT : FnScope ["self", "line"] ["self", "line"] (defScope s_BT) := ⟨rfl, rfl, rfl, by decide +kernel, rfl, by decide +kernel, by decide +kernel⟩
theorem ok_BT {f g W B : Addr} {mc : Value} {fd fdW : FuncData} (F : Fun K "__init__" "BadText.__init__" s_BT f fd) (gW : mg "WalkError" = some (.ref W)) (c : ClsFn K W mc "__init__" g) (FW : FnOk P w K mg base CX0 1 g fdW ["self", "words"] (spWE K)) (bW : Binds K fdW ["self", "words"] []) :
    FnOk P w K mg base CX0 2 f fd ["self", "line"] (spBT K B) := by
  refine F.ok sc_BT (fun vs H Q E h => ?_) (fun cdv A outer s H vs Q E hr h => ?_)
  · obtain ⟨a, y, rfl, _⟩ := h
    rfl
  · obtain ⟨a, y, rfl, O, nt, ha, k⟩ := h
    refine ⟨_, pss_cons (ps_expr (pe_clsfn c FW hr rfl gW bW pass0 (pa_cons (pv 0) (pa_cons pe_str pa_nil)))) (pss_one (ps_ost (pv 0) (pv 1))), ?_⟩
    exact ⟨_, rfl, a, B, _, rfl, O, ha, _, rfl, _, rfl, a, B, rfl, O, nt, .inl ⟨ha, fun dx hd ne => k dx hd ne⟩⟩
/-- the reading of raise BadText(x) -/
theorem bt_raise {p : V} {H : Hp} {E : XK} (T : BtxT P w K mg base B) (k : ∀ (d : Addr) (H' : Hp), Same H H' → H' d = some (.xd [("line", p)]) → E (.ref B) (some d) H') {t : TA} {σ : St} (ht : ∀ Q : List V → Hp → Prop, Q [p] H → t σ H Q) :
    tMkO B (spBT K B) [] t σ H (fun cls d H' => E cls d H') := by
  refine ht _ ⟨by show 1 ≤ 1000; decide, fun a ha => ⟨a, p, rfl, T.O, T.nf, upd_same, fun d hd ne => ⟨rfl, d, [("line", p)], upd_same, ?_, ?_, ?_⟩⟩⟩
  · rw [upd_ne ne, upd_same]
  · rw [upd_ne ne] at hd
    exact hd
  · exact k d _ (bt_end ha hd ne) upd_same
end
end KJ
set_option Elab.async false
set_option linter.all false
set_option maxRecDepth 100000
set_option maxHeartbeats 1000000
namespace KJ
open PySem L2 SX Tx
/-! ### the law's own text of a share -/
def spWrite (C : Addr) : Sp := fun vs H Q _ => ∃ (a dx : Addr) (t n : Nat), vs = [.ref a] ∧ H a = some (.ins C dx (shF (t : Int) (n : Int))) ∧ t < 2 ^ 1400 ∧ n < 2 ^ 1400 ∧ Q (.str (S (shL t n))) H
theorem log1400 {n : Nat} (h : n < 2 ^ 1400) : ((n : Int)).natAbs.log2 < 1920 := by
  show n.log2 < 1920
  by_cases h0 : n = 0
  · rw [h0]; decide
  · exact (Nat.log2_lt h0).mpr (Nat.lt_trans h (by decide +kernel))
section
variable {P : Program} {w : World} {K : PySem.W.Frag} {mg : Str → Option Value} {base : Heap} {C CC B : Addr}
abbrev s_write : Stmt := top 54
theorem sc_write : FnScope ["_law_share"] ["_law_share"] (defScope s_write) := ⟨rfl, rfl, rfl, by decide +kernel, rfl, by decide +kernel, by decide +kernel⟩
theorem ok_write {f : Addr} {fd : FuncData} (F : Fun K "_law_write" "_law_write" s_write f fd) (T : ShT K mg C) : FnOk P w K mg base CX0 1 f fd ["_law_share"] (spWrite C) := by
  refine F.ok sc_write (fun vs H Q E h => ?_) (fun cdv A outer s H vs Q E hr h => ?_)
  · obtain ⟨a, dx, t, n, rfl, _⟩ := h
    rfl
  · obtain ⟨a, dx, t, n, rfl, ha, ht, hn, k⟩ := h
    refine ⟨_, (pss_cons (ps_if (pt_cmpR op_eq (pe_fld (pv 0) rfl) pe_int (nomark _))
        (pss_one (ps_ret (pe_callTy call_str_int (by rfl) T.bn.n_str (by decide +kernel) (pa_cons (pe_fld (pv 0) rfl) pa_nil))))
        pss_nil)
      (pss_one (ps_ret (pe_op op_add_str (pe_op op_add_str (pe_callTy call_str_int (by rfl) T.bn.n_str (by decide +kernel) (pa_cons (pe_fld (pv 0) rfl) pa_nil)) pe_str) (pe_callTy call_str_int (by rfl) T.bn.n_str (by decide +kernel) (pa_cons (pe_fld (pv 0) rfl) pa_nil)))))), ?_⟩
    have lt := dgS_len ht
    have ln := dgS_len hn
    rw [S_len] at lt ln
    refine ⟨_, rfl, a, C, dx, _, _, rfl, ha, T.it.cl, T.nB, shF_bottom _ _, rfl, _, rfl, iteB (fun z => ?_) (fun z => ?_)⟩
    · have e : n = 1 := by have := of_decide_eq_true z; rw [V.int.injEq] at this; omega
      refine ⟨_, rfl, a, C, dx, _, _, rfl, ha, T.it.cl, T.nT, shF_top _ _, (t : Int), rfl, log1400 ht, ?_⟩
      rw [str_dg]
      unfold shL at k
      rw [if_pos e] at k
      exact k
    · have e : ¬ n = 1 := fun q => of_decide_eq_false z (by rw [q]; rfl)
      refine ⟨_, rfl, a, C, dx, _, _, rfl, ha, T.it.cl, T.nT, shF_top _ _, (t : Int), rfl, log1400 ht, ?_⟩
      rw [str_dg]
      refine ⟨_, _, rfl, rfl, by rw [S_len]; exact Nat.le_trans (show _ + 1 ≤ 1401 by omega) (by decide), ?_⟩
      refine ⟨_, rfl, a, C, dx, _, _, rfl, ha, T.it.cl, T.nB, shF_bottom _ _, (n : Int), rfl, log1400 hn, ?_⟩
      rw [str_dg, show Str.ofString "/" = S [47] from rfl, S_cat]
      refine ⟨_, _, rfl, rfl, by rw [S_len, S_len, List.length_append]; exact Nat.le_trans (show _ + 1 + _ ≤ 2801 by omega) (by decide), ?_⟩
      rw [S_cat, show dg t ++ [47] ++ dg n = dg t ++ (47 :: dg n) by simp]
      unfold shL at k
      rw [if_neg e] at k
      exact k
end
end KJ
set_option Elab.async false
set_option linter.all false
set_option maxRecDepth 100000
set_option maxHeartbeats 1000000
namespace KJ
open PySem L2 SX Tx
/-- _law_same(one, other), of two ints -/
def spSameI : Sp := fun vs H Q _ => ∃ i j : Int, vs = [.int i, .int j] ∧ Q (.bl (decide (i = j))) H
section
variable {P : Program} {w : World} {K : PySem.W.Frag} {mg : Str → Option Value} {base : Heap} {C CC B : Addr}
abbrev s_same : Stmt := top 53
theorem sc_same : FnScope ["_law_one", "_law_other"] ["_law_one", "_law_other"] (defScope s_same) := ⟨rfl, rfl, rfl, by decide +kernel, rfl, by decide +kernel, by decide +kernel⟩
theorem ok_same {f : Addr} {fd : FuncData} (F : Fun K "_law_same" "_law_same" s_same f fd) (T : Bn mg) : FnOk P w K mg base CX0 1 f fd ["_law_one", "_law_other"] spSameI := by
  refine F.ok sc_same (fun vs H Q E h => ?_) (fun cdv A outer s H vs Q E hr h => ?_)
  · obtain ⟨i, j, rfl, _⟩ := h
    rfl
  · obtain ⟨i, j, rfl, k⟩ := h
    refine ⟨_, (pss_one (ps_ret (pe_and (pe_cmpR op_eq (pe_callB call_isi (by rfl) T.n_isinstance (by decide +kernel) (pa_cons (pv 0) (pa_cons (pe_bltn (v := .ty "bool") rfl T.n_bool (by decide +kernel) rfl) pa_nil))) (pe_callB call_isi (by rfl) T.n_isinstance (by decide +kernel) (pa_cons (pv 1) (pa_cons (pe_bltn (v := .ty "bool") rfl T.n_bool (by decide +kernel) rfl) pa_nil))) (nomark _)) (pe_one (pe_cmpR op_eq (pv 0) (pv 1) (nomark _)))))), ?_⟩
    refine ⟨_, rfl, .int i, .ty "bool", _, _, false, rfl, .ty _, .base (.int i), kit_ty (r := false) (by decide +kernel), _, rfl, .int j, .ty "bool", _, _, false, rfl, .ty _, .base (.int j), kit_ty (r := false) (by decide +kernel), rfl, _, rfl, iteTe (decide_eq_true rfl) ?_⟩
    refine ⟨_, rfl, _, rfl, rfl, ?_⟩
    rw [show decide (V.int i = V.int j) = decide (i = j) by rw [decide_eq_decide, V.int.injEq]]
    exact k
end
end KJ
set_option Elab.async false
set_option linter.all false
set_option maxRecDepth 100000
set_option maxHeartbeats 1000000
namespace KJ
open PySem L2 SX Tx
/-! ### texts of any kind -/
theorem slash_free (m : Nat) : 47 ∉ dg m := fun h => by have := dg_digit m 47 h; omega
theorem blank_free (t n : Nat) : 32 ∉ shL t n := fun h => by
  unfold shL at h
  split at h
  · have := dg_digit t 32 h; omega
  · rcases List.mem_append.mp h with h | h
    · have := dg_digit t 32 h; omega
    · rcases List.mem_cons.mp h with h | h
      · omega
      · have := dg_digit n 32 h; omega
/-- a list cut at the first sign c -/
theorem cut_at {c : Nat} : ∀ {p q r t : List Nat}, c ∉ p → c ∉ q → p ++ c :: r = q ++ c :: t → p = q ∧ r = t
  | [], [], r, t, _, _, e => by
    injection e with _ e
    exact ⟨rfl, e⟩
  | [], y :: q, r, t, _, h, e => by
    injection e with e _
    exact absurd (e ▸ List.mem_cons_self) h
  | x :: p, [], r, t, h, _, e => by
    injection e with e _
    exact absurd (e ▸ List.mem_cons_self) h
  | x :: p, y :: q, r, t, h1, h2, e => by
    injection e with e1 e2
    obtain ⟨a, b⟩ := cut_at (fun m => h1 (List.mem_cons_of_mem _ m)) (fun m => h2 (List.mem_cons_of_mem _ m)) e2
    exact ⟨by rw [e1, a], b⟩
theorem dg_inj : ∀ {m n : Nat}, dg m = dg n → m = n := by
  intro m
  induction m using Nat.strongRecOn with
  | ind m ih =>
    intro n e
    rcases Nat.lt_or_ge m 10 with hm | hm <;> rcases Nat.lt_or_ge n 10 with hn | hn
    · rw [dg_small hm, dg_small hn] at e
      injection e with e _
      omega
    · rw [dg_small hm, dg_big hn] at e
      have := congrArg List.length e
      have h0 := dg_ne (n / 10)
      cases h : dg (n / 10) with
      | nil => exact absurd h h0
      | cons a l => rw [h] at this; simp at this
    · rw [dg_big hm, dg_small hn] at e
      have := congrArg List.length e
      have h0 := dg_ne (m / 10)
      cases h : dg (m / 10) with
      | nil => exact absurd h h0
      | cons a l => rw [h] at this; simp at this
    · rw [dg_big hm, dg_big hn] at e
      obtain ⟨e1, e2⟩ := List.append_inj' e rfl
      have := ih (m / 10) (by omega) e1
      injection e2 with e2 _
      omega
theorem shL_inj {t n t' n' : Nat} (e : shL t n = shL t' n') : t = t' ∧ n = n' := by
  unfold shL at e
  split at e <;> split at e
  · rename_i h1 h2
    exact ⟨dg_inj e, by rw [h1, h2]⟩
  · exact absurd (by rw [e]; simp) (slash_free t)
  · exact absurd (by rw [← e]; simp) (slash_free t')
  · obtain ⟨a, b⟩ := cut_at (slash_free t) (slash_free t') e
    exact ⟨dg_inj a, dg_inj b⟩
/-- a list cut at every sign c -/
def sp (c : Nat) : List Nat → List (List Nat)
  | [] => [[]]
  | x :: r => if x = c then [] :: sp c r else (x :: (sp c r).headD []) :: (sp c r).tail
theorem sp_ne (c : Nat) : ∀ r, sp c r ≠ []
  | [] => fun h => by cases h
  | x :: r => fun h => by
    unfold sp at h
    split at h <;> cases h
theorem sp_free (c : Nat) : ∀ r, ∀ p ∈ sp c r, c ∉ p
  | [], p, m, h => by
    rw [sp, List.mem_singleton] at m
    rw [m] at h
    cases h
  | x :: r, p, m, h => by
    have ih := sp_free c r
    have ne := sp_ne c r
    unfold sp at m
    split at m
    · rcases List.mem_cons.mp m with rfl | m
      · cases h
      · exact ih p m h
    · rename_i hx
      cases q : sp c r with
      | nil => exact ne q
      | cons a l =>
        rw [q] at m ih
        rcases List.mem_cons.mp m with rfl | m
        · rcases List.mem_cons.mp h with e | h
          · exact hx e.symm
          · exact ih a List.mem_cons_self h
        · exact ih p (List.mem_cons_of_mem _ m) h
theorem join_cons {c : Nat} {p : List Nat} {ps : List (List Nat)} (h : ps ≠ []) : TL.joinL [c] (p :: ps) = p ++ c :: TL.joinL [c] ps := by
  cases ps with
  | nil => exact absurd rfl h
  | cons q ps => rfl
theorem sp_join (c : Nat) : ∀ r, TL.joinL [c] (sp c r) = r
  | [] => rfl
  | x :: r => by
    have ih := sp_join c r
    have ne := sp_ne c r
    unfold sp
    split
    · rename_i hx
      rw [join_cons ne, ih, hx]
      rfl
    · cases q : sp c r with
      | nil => exact absurd q ne
      | cons a l =>
        rw [q] at ih
        show TL.joinL [c] ((x :: a) :: l) = x :: r
        rw [← ih]
        cases l <;> rfl
theorem spl_sp (c : Nat) (r : List Nat) : TL.spl [c] 0 [] r = sp c r := by
  have := spl_join (c := c) (sep := []) (sp_ne c r) (sp_free c r)
  rwa [sp_join] at this
theorem split_sp {c : Nat} (hc : c < 256) (r : List Nat) : Txt.split (S r) (S [c]) = (sp c r).map S := by
  rw [split_S (by simp) (by simpa using hc), spl_sp]
theorem sp_of {c : Nat} {ps : List (List Nat)} (h1 : ps ≠ []) (h3 : ∀ p ∈ ps, c ∉ p) : sp c (TL.joinL [c] ps) = ps := by
  rw [← spl_sp]
  exact spl_join (c := c) (sep := []) h1 h3
theorem sp_count (c : Nat) : ∀ r : List Nat, (sp c r).length ≤ r.length + 1
  | [] => Nat.le_refl _
  | x :: r => by
    have := sp_count c r
    have ne := sp_ne c r
    unfold sp
    split
    · rw [List.length_cons, List.length_cons]; omega
    · cases q : sp c r with
      | nil => exact absurd q ne
      | cons a l =>
        rw [q] at this
        show (_ :: l).length ≤ _
        rw [List.length_cons] at this ⊢
        rw [List.length_cons]
        omega
theorem sp_len (c : Nat) : ∀ (r : List Nat), ∀ p ∈ sp c r, p.length ≤ r.length
  | [], p, m => by
    rw [sp, List.mem_singleton] at m
    rw [m]
    exact Nat.le_refl _
  | x :: r, p, m => by
    have ih := sp_len c r
    have ne := sp_ne c r
    unfold sp at m
    split at m
    · rcases List.mem_cons.mp m with rfl | m
      · exact Nat.zero_le _
      · exact Nat.le_succ_of_le (ih p m)
    · cases q : sp c r with
      | nil => exact absurd q ne
      | cons a l =>
        rw [q] at m ih
        rcases List.mem_cons.mp m with rfl | m
        · have := ih a List.mem_cons_self
          show (x :: a).length ≤ _
          rw [List.length_cons, List.length_cons]
          omega
        · exact Nat.le_succ_of_le (ih p (List.mem_cons_of_mem _ m))
/-- a word of figures without a nought ahead -/
def nwB (w : List Nat) : Bool := decide (1 ≤ w.length ∧ w.length ≤ 100) && (w.all (fun c => decide (48 ≤ c ∧ c ≤ 57)) && (decide (w = [48]) || decide (w.head? ≠ some 48)))
theorem dg_of : ∀ (w : List Nat), (∀ c ∈ w, 48 ≤ c ∧ c ≤ 57) → w ≠ [] → (w = [48] ∨ w.head? ≠ some 48) → ∃ m, w = dg m := by
  intro w
  induction hn : w.length using Nat.strongRecOn generalizing w with
  | ind n ih =>
    intro h ne hd
    obtain ⟨u, d, rfl⟩ : ∃ u d, w = u ++ [d] := ⟨w.dropLast, w.getLast ne, (List.dropLast_concat_getLast ne).symm⟩
    have hdg := h d (by simp)
    by_cases hu : u = []
    · subst hu
      refine ⟨d - 48, ?_⟩
      rw [dg_small (by omega), show 48 + (d - 48) = d by omega]
      rfl
    · have hd2 : u.head? ≠ some 48 := by
        rcases hd with hd | hd
        · have := congrArg List.length hd
          rw [List.length_append] at this
          have h0 : u.length ≠ 0 := fun e => hu (List.length_eq_zero_iff.mp e)
          simp at this
          exact absurd this hu
        · cases u with
          | nil => exact absurd rfl hu
          | cons a u => exact hd
      obtain ⟨m, e⟩ := ih u.length (by rw [← hn, List.length_append]; simp) u rfl (fun c m => h c (List.mem_append_left _ m)) hu (.inr hd2)
      have m0 : 0 < m := by
        rcases Nat.eq_zero_or_pos m with h0 | h0
        · rw [h0, dg_small (by decide)] at e
          rw [e] at hd2
          exact absurd rfl hd2
        · exact h0
      refine ⟨10 * m + (d - 48), ?_⟩
      rw [dg_step m0 (by omega), ← e, show 48 + (d - 48) = d by omega]
theorem dg_noz (m : Nat) : dg m = [48] ∨ (dg m).head? ≠ some 48 := by
  rcases Nat.lt_or_ge m 10 with h | h
  · rw [dg_small h]
    by_cases h0 : m = 0
    · subst h0; exact .inl rfl
    · refine .inr fun e => ?_
      have : 48 + m = 48 := Option.some.inj e
      omega
  · exact .inr (dg_head h)
theorem nwB_iff {w : List Nat} : nwB w = true ↔ ∃ m, w = dg m ∧ (dg m).length ≤ 100 := by
  unfold nwB
  rw [Bool.and_eq_true, Bool.and_eq_true, Bool.or_eq_true, decide_eq_true_eq, decide_eq_true_eq, decide_eq_true_eq, List.all_eq_true]
  constructor
  · rintro ⟨⟨h1, h2⟩, h3, h4⟩
    obtain ⟨m, e⟩ := dg_of w (fun c m => of_decide_eq_true (h3 c m)) (fun e => by rw [e] at h1; simp at h1) h4
    exact ⟨m, e, by rw [← e]; exact h2⟩
  · rintro ⟨m, rfl, h⟩
    refine ⟨⟨?_, h⟩, fun c mc => ?_, dg_noz m⟩
    · have := dg_ne m
      exact Nat.pos_of_ne_zero fun e => this (List.length_eq_zero_iff.mp e)
    · have := dg_digit m c mc
      exact decide_eq_true (by omega)
/-- a word that is a share: t over n, in lowest terms, of no more than 100 figures each -/
def IsSh (w : List Nat) (d : Nat × Nat) : Prop := 0 < d.2 ∧ Nat.gcd d.1 d.2 = 1 ∧ (dg d.1).length ≤ 100 ∧ (dg d.2).length ≤ 100 ∧ w = shL d.1 d.2
theorem IsSh.one {w : List Nat} {d e : Nat × Nat} (h : IsSh w d) (h' : IsSh w e) : d = e := by
  obtain ⟨_, _, _, _, e1⟩ := h
  obtain ⟨_, _, _, _, e2⟩ := h'
  obtain ⟨a, b⟩ := shL_inj (e1.symm.trans e2)
  exact Prod.ext a b
open Classical in
noncomputable def shOf (w : List Nat) : Option (Nat × Nat) := if h : ∃ d, IsSh w d then some (choose h) else none
theorem shOf_some {w : List Nat} {d : Nat × Nat} : shOf w = some d ↔ IsSh w d := by
  unfold shOf
  constructor
  · intro e
    split at e
    · rename_i h
      rw [← Option.some.inj e]
      exact Classical.choose_spec h
    · cases e
  · intro h
    have ex : ∃ d, IsSh w d := ⟨d, h⟩
    rw [dif_pos ex, (Classical.choose_spec ex).one h]
theorem shOf_none {w : List Nat} : shOf w = none ↔ ¬ ∃ d, IsSh w d := by
  unfold shOf
  constructor
  · intro e h
    rw [dif_pos h] at e
    cases e
  · intro h
    rw [dif_neg h]
end KJ
set_option Elab.async false
set_option linter.all false
set_option maxRecDepth 100000
set_option maxHeartbeats 1000000
namespace KJ
open PySem L2 SX Tx
def isDg (c : Nat) : Bool := decide (48 ≤ c ∧ c ≤ 57)
theorem d09_iff (c : Nat) : decide (c ∈ d09.cps.toList) = isDg c := by
  unfold isDg
  rw [decide_eq_decide, d09_tl]
  constructor
  · intro h
    simp at h
    omega
  · intro h
    simp
    omega
/-- is_number_word(word), of any word -/
def spNumWordG : Sp := fun vs H Q _ => ∃ w : List Nat, vs = [.str (S w)] ∧ w.length ≤ 200000 ∧ ∀ H', Same H H' → Q (.bl (nwB w)) H'
section
variable {P : Program} {w : World} {K : PySem.W.Frag} {mg : Str → Option Value} {base : Heap} {C CC B : Addr}
theorem ok_numwG {f : Addr} {fd : FuncData} (F : Fun K "is_number_word" "is_number_word" s_numw f fd) (T : Bm mg) (gd : DgG mg) : FnOk P w K mg base CX0 1 f fd ["word"] spNumWordG := by
  obtain ⟨tM, gM⟩ := gd.gM
  obtain ⟨tD, gD⟩ := gd.gD
  refine F.ok sc_numw (fun vs H Q E h => ?_) (fun cdv A outer s H vs Q E hr h => ?_)
  · obtain ⟨m, rfl, _⟩ := h
    rfl
  · obtain ⟨m, rfl, hm, k⟩ := h
    refine ⟨_, (pss_cons (ps_if (PW.pt (pw_or (pt_not (pt_chain op_le op_le pe_int (pe_callB call_len_str (by rfl) T.b.n_len PySem.boot_len (pa_cons (pv 0) pa_nil)) (pe_glob (v := .int 100) rfl gM ⟨_, rfl⟩))) (pw_or1 (pt_not (pt_val (pe_callB (cr_all rfl) (by rfl) T.n_all PyProof.Rows.boot_all (pa_cons (pe_lc (own := [("sign", 1)]) rfl sc_numw.nd (pi_str (pv 0)) (blkOk_by (N := ["word", "sign"]) (sc := defScope s_numw) (by decide +kernel)) (fun _ _ _ _ _ => (pg_name (i := 1) sc_numw.nd rfl (Or.inl rfl))) (fun _ _ _ _ _ => pts_nil) (fun _ _ _ _ _ => (pe_cmpR op_in_sign (pv 1) (pe_glob (v := .str d09) rfl gD ⟨_, rfl⟩) (by rfl)))) pa_nil)))))))
        (pss_one (ps_ret pe_bl))
        pss_nil)
      (pss_one (ps_ret (pe_or (pe_cmpR op_eq (pv 0) pe_str (nomark _)) (pe_one (pe_cmpR op_ne (pe_ix ix_str (pv 0) pe_int (fun _ _ => rfl)) pe_str (nomark _))))))), ?_⟩
    have hl : (S m).length = m.length := S_len _
    have h14 : (S m).length ≤ sizeLine := by rw [hl]; exact Nat.le_trans hm (by decide)
    unfold nwB at k
    refine ⟨_, rfl, _, rfl, h14, 1, _, rfl, rfl, _, rfl, ?_⟩
    by_cases h1 : 1 ≤ m.length
    rotate_left
    · refine iteFe (decide_eq_false (by rw [hl]; omega)) ⟨_, rfl, iteT ?_⟩
      rw [decide_eq_false (fun h => h1 h.1), Bool.false_and] at k
      exact k H (Same.refl H)
    refine iteTe (decide_eq_true (by rw [hl]; omega)) ?_
    refine ⟨_, 100, rfl, rfl, _, rfl, ?_⟩
    have lenI : decide (((S m).length : Int) ≤ 100) = decide (1 ≤ m.length ∧ m.length ≤ 100) := by rw [hl, decide_eq_decide]; omega
    rw [lenI]
    cases c : decide (1 ≤ m.length ∧ m.length ≤ 100) with
    | false =>
      have := k H (Same.refl H)
      rw [c] at this
      exact iteT this
    | true =>
      rw [c, Bool.true_and] at k
      have c := of_decide_eq_true c
      refine iteF ?_
      refine ⟨_, rfl, S m, rfl, fun D nD => ?_⟩
      let Pv : Nat → Hp → Prop := fun i H' => Same H H' ∧ H' D = some (.lst (((m.take i).map isDg).map V.bl))
      have hs : (S m).cps.size = m.length := by simp
      refine ⟨fun i j H' => j + i = (S m).cps.size ∧ Pv i H', ⟨(S m).cps.size, rfl, Same.put nD, upd_same⟩, fun i j H1 ⟨em, p⟩ => ?_⟩
      cases j with
      | zero =>
        refine .inl ⟨show (S m).cps.size ≤ i by omega, D, _, rfl, SqL.of p.2, ?_⟩
        have e : ((m.take i).map isDg).all id = m.all (fun c => decide (48 ≤ c ∧ c ≤ 57)) := by
          rw [List.take_of_length_le (by omega), List.all_map]
          rfl
        rw [e]
        refine ⟨_, rfl, ?_⟩
        have q := k H1 p.1
        cases ca : m.all (fun c => decide (48 ≤ c ∧ c ≤ 57)) with
        | false =>
          rw [ca, Bool.false_and] at q
          exact iteT q
        | true =>
          rw [ca, Bool.true_and] at q
          refine iteF ?_
          refine ⟨_, rfl, rfl, _, rfl, iteB (fun z => ?_) (fun z => ?_)⟩
          · have z := of_decide_eq_true z
            have z : S m = S [48] := V.str.inj z
            rw [S_inj z, decide_eq_true rfl, Bool.true_or] at q
            exact q
          · have z2 : ¬ m = [48] := fun e => of_decide_eq_false z (by rw [e]; rfl)
            rw [decide_eq_false z2, Bool.false_or] at q
            obtain ⟨c0, hc⟩ : ∃ c0, m[0]? = some c0 := ⟨_, List.getElem?_eq_getElem (show 0 < m.length by omega)⟩
            refine ⟨_, rfl, _, 0, c0, rfl, rfl, h14, atI_nat (j := 0) hc, rfl, ?_⟩
            have e : (!decide (V.str ⟨#[c0]⟩ = V.str (Str.ofString "0"))) = decide (m.head? ≠ some 48) := by
              rw [List.head?_eq_getElem?, hc]
              by_cases e : c0 = 48
              · subst e
                rw [decide_eq_true (show V.str ⟨#[48]⟩ = V.str (Str.ofString "0") from rfl), decide_eq_false (fun h => h rfl)]
                rfl
              · rw [decide_eq_false (fun h => e (by
                  rw [V.str.injEq] at h
                  have e2 : ([c0] : List Nat) = [48] := S_inj (a := [c0]) (b := [48]) h
                  exact (List.cons.inj e2).1)), decide_eq_true (show some c0 ≠ some 48 from fun h => e (Option.some.inj h))]
                rfl
            rw [e]
            exact q
      | succ j =>
        refine .inr ⟨show i < (S m).cps.size by omega, Pv (i + 1), fun H' p' => ⟨j, Nat.lt_succ_self j, by omega, p'⟩, fun v H' y => ?_⟩
        obtain ⟨e, c', hc, rfl⟩ := y
        subst e
        have hc' : m[i]? = some c' := by rw [← hc]; simp
        refine ⟨rfl, yes_of ?_⟩
        refine ⟨_, rfl, c', d09, rfl, rfl, ?_⟩
        rw [d09_iff]
        refine ⟨_, p.2, by rw [List.length_map, List.length_map, List.length_take]; exact small_len (by omega), Same.but (fun b u e => p.1 _ _ e) nD, ?_⟩
        rw [upd_same, take_more hc', List.map_append, List.map_append]
        rfl
end
end KJ
set_option Elab.async false
set_option linter.all false
set_option maxRecDepth 100000
set_option maxHeartbeats 1000000
namespace KJ
open PySem L2 SX Tx
/-- a share, or nothing -/
def ShV (C : Addr) (H : Hp) (v : V) : Option (Nat × Nat) → Prop
  | none => v = .non
  | some d => ∃ a dx : Addr, v = .ref a ∧ H a = some (.ins C dx (shF (d.1 : Int) (d.2 : Int)))
theorem ShV.same {C : Addr} {H H' : Hp} {v : V} {o : Option (Nat × Nat)} (h : ShV C H v o) (s : Same H H') : ShV C H' v o := by
  cases o with
  | none => exact h
  | some d => obtain ⟨a, dx, e, ea⟩ := h; exact ⟨a, dx, e, s _ _ ea⟩
theorem len100 {m : Nat} (h : (dg m).length ≤ 100) : m < 2 ^ 1400 := Nat.lt_trans (dg_lt 100 m h) (by decide +kernel)
/-- told_share(word), of any word -/
def spToldG (C : Addr) : Sp := fun vs H Q _ => ∃ w : List Nat, vs = [.str (S w)] ∧ w.length ≤ 200000 ∧ ∀ (v : V) (H' : Hp), Same H H' → ShV C H' v (shOf w) → Q v H'
theorem low_nat {w W : Nat} (hW : 0 < W) : lowT (w : Int) (W : Int) = (((lowT (w : Int) (W : Int)).toNat : Nat) : Int) ∧ lowB (w : Int) (W : Int) = (((lowB (w : Int) (W : Int)).toNat : Nat) : Int) := by
  have hp := lowB_pos (a := (w : Int)) (b := (W : Int)) (by omega)
  have c := low_cross (w : Int) (W : Int)
  have h0 : 0 ≤ lowT (w : Int) (W : Int) := by
    have h1 : 0 ≤ lowT (w : Int) (W : Int) * (W : Int) := by
      rw [c]
      exact Int.mul_nonneg (by omega) (by omega)
    exact Int.nonneg_of_mul_nonneg_left h1 (by omega)
  exact ⟨(Int.toNat_of_nonneg h0).symm, (Int.toNat_of_nonneg (by omega)).symm⟩
theorem cut_mem {c : Nat} : ∀ {r : List Nat}, c ∈ r → ∃ p q, c ∉ p ∧ r = p ++ ([c] ++ q)
  | [], h => by cases h
  | x :: r, h => by
    by_cases e : x = c
    · exact ⟨[], r, fun h => (by cases h), (by rw [e]; rfl)⟩
    · have h : c ∈ r := by
        rcases List.mem_cons.mp h with h | h
        · exact absurd h.symm e
        · exact h
      obtain ⟨p, q, h1, h2⟩ := cut_mem h
      exact ⟨x :: p, q, fun m => by
        rcases List.mem_cons.mp m with m | m
        · exact e m.symm
        · exact h1 m, by rw [h2]; rfl⟩
theorem no47 {w : List Nat} (h : 47 ∉ w) (d : Nat × Nat) (e : IsSh w d) : d.2 = 1 ∧ w = dg d.1 := by
  obtain ⟨_, _, _, _, e⟩ := e
  unfold shL at e
  split at e
  · rename_i h1
    exact ⟨h1, e⟩
  · exact absurd (by rw [e]; simp) h
section
variable {P : Program} {w : World} {K : PySem.W.Frag} {mg : Str → Option Value} {base : Heap} {C CC B : Addr}
abbrev s_told : Stmt := top 37
abbrev nTw : List Str := ["word", "top", "sign", "bottom", "share"]
theorem sc_told : FnScope nTw ["word"] (defScope s_told) := ⟨rfl, rfl, rfl, by decide +kernel, rfl, by decide +kernel, by decide +kernel⟩
abbrev XTd (P : Program) (w : World) (K : PySem.W.Frag) (mg : Str → Option Value) (base : Heap) (f : Addr) (cdv : Value) (A : Around) (outer : List Env) (s : Shared) (H : Hp) (E : XK) : Cx :=
  (cxOf CX0 P w K mg base nTw "told_share" (defScope s_told) f cdv A outer s H E).nox
/-- the share made is held against the word -/
theorem segTd3 {f : Addr} {cdv : Value} {A : Around} {outer : List Env} {s : Shared} {H : Hp} {E : XK} {Q : VK} (T : Bm mg) (st : StrT P w K mg base C) (hr : Room 5 (XTd P w K mg base f cdv A outer s H E).A) :
    ∃ u, PSs (XTd P w K mg base f cdv A outer s H E) ((defBody s_told).drop 3) u ∧ ∀ (wd : List Nat) (v1 v2 v3 : Option V) (x dx : Addr) (t n : Nat) (H3 : Hp), H3 x = some (.ins C dx (shF (t : Int) (n : Int))) → t < 2 ^ 1400 → n < 2 ^ 1400 → (wd = shL t n → shOf wd = some (t, n)) → (wd ≠ shL t n → shOf wd = none) →
      (∀ (v : V) (H' : Hp), Same H3 H' → ShV C H' v (shOf wd) → Q v H') → u { nx := fun _ H' => Q .non H', rt := Q } [some (.str (S wd)), v1, v2, v3, some (.ref x)] H3 := by
  refine ⟨_, (pss_cons (ps_if (pt_cmpR op_ne (pe_callTy (show CallR _ _ (rStrS C) from call_strS st (hr.mono (by decide))) (by rfl) T.b.n_str (by decide +kernel) (pa_cons (pv 4) pa_nil)) (pv 0) (nomark _))
      (pss_one (ps_ret pe_non))
      pss_nil)
    (pss_one (ps_ret (pv 4)))), ?_⟩
  intro wd v1 v2 v3 x dx t n H3 ex ht hn y1 y2 k
  refine ⟨_, rfl, x, dx, t, n, rfl, ex, ht, hn, fun H4 s4 => ?_⟩
  refine ⟨_, rfl, rfl, _, rfl, ?_⟩
  by_cases e : wd = shL t n
  · refine iteFe (by rw [e, decide_eq_true rfl]; rfl) ⟨_, rfl, k _ H4 s4 ?_⟩
    rw [y1 e]
    exact ⟨x, dx, rfl, s4 _ _ ex⟩
  · refine iteTe (by rw [decide_eq_false (fun h => e (S_inj (V.str.inj h)).symm)]; rfl) (k _ H4 s4 ?_)
    rw [y2 e]
    rfl
theorem ok_toldG {f : Addr} {fd : FuncData} (F : Fun K "told_share" "told_share" s_told f fd) (T : Bm mg) (m : MkT P w K mg base C B) (st : StrT P w K mg base C) (c_nw : Cal P w K mg base 1 "is_number_word" ["word"] spNumWordG) : FnOk P w K mg base CX0 6 f fd ["word"] (spToldG C) := by
  refine F.ok sc_told (fun vs H Q E h => ?_) (fun cdv A outer s H vs Q E hr h => ?_)
  · obtain ⟨t, rfl, _⟩ := h
    rfl
  · obtain ⟨wd, rfl, hw, k⟩ := h
    obtain ⟨u, hu, qu⟩ := segTd3 (f := f) (cdv := cdv) (A := A) (outer := outer) (s := s) (H := H) (E := E) (Q := Q) T st hr
    refine ⟨_, (pss_cons (ps_asg (pe_m1 PySem.F.slot_str_partition PySem.F.type_str_partition mt_partition (pv 0) pe_str) (pg_tup (by rfl) (pgs_cons (pg_name (i := 1) sc_told.nd rfl (Or.inl rfl)) (pgs_cons (pg_name (i := 2) sc_told.nd rfl (Or.inl rfl)) (pgs_cons (pg_name (i := 3) sc_told.nd rfl (Or.inl rfl)) pgs_nil)))))
      (pss_cons (ps_if (PW.pt (pw_or (pt_not (pt_val (pe_cal c_nw (hr.mono (by decide)) rfl (pa_cons (pv 1) pa_nil)))) (pw_or (PW.pt (pw_and (pt_cmpR op_ne (pv 2) pe_str (nomark _)) (pw_and1 (pt_not (pt_val (pe_cal c_nw (hr.mono (by decide)) rfl (pa_cons (pv 3) pa_nil))))))) (pw_or1 (pt_cmpR op_eq (pv 3) pe_str (nomark _))))))
        (pss_one (ps_ret pe_non))
        pss_nil)
      (pss_cons (ps_set (i := 4) sc_told.nd rfl (Or.inl rfl) (pe_share2 m (hr.mono (by decide)) rfl (pa_cons (pe_callTy call_int_str (by rfl) T.b.n_int (by decide +kernel) (pa_cons (pv 1) pa_nil)) (pa_cons (pe_callTy call_int_str (by rfl) T.b.n_int (by decide +kernel) (pa_cons (pe_orT (pv 3) (pe_one pe_str)) pa_nil)) pa_nil)))) hu))), ?_⟩
    refine ⟨_, rfl, ⟨_, rfl⟩, _, _, rfl, rfl, rfl, by rw [S_len]; exact Nat.le_trans hw (by decide), fun p np => ?_⟩
    have sp := Same.put (o := .tup [.str (Txt.partition (S wd) (Str.ofString "/")).1, .str (Txt.partition (S wd) (Str.ofString "/")).2.1, .str (Txt.partition (S wd) (Str.ofString "/")).2.2]) np
    refine ⟨p, _, rfl, SqT.of upd_same, rfl, _, _, rfl, _, _, rfl, _, _, rfl, rfl, ?_⟩
    generalize (upd H p (.tup [.str (Txt.partition (S wd) (Str.ofString "/")).1, .str (Txt.partition (S wd) (Str.ofString "/")).2.1, .str (Txt.partition (S wd) (Str.ofString "/")).2.2])) = H1 at sp ⊢
    have sl : Str.ofString "/" = S [47] := rfl
    by_cases h47 : 47 ∈ wd
    · -- a stroke
      obtain ⟨p1, q1, hp1, rfl⟩ : ∃ p1 q1, 47 ∉ p1 ∧ wd = p1 ++ ([47] ++ q1) := cut_mem h47
      have e : Txt.partition (S (p1 ++ ([47] ++ q1))) (Str.ofString "/") = (S p1, S [47], S q1) := by
        rw [sl]
        exact partition_some (by simp) (par_head q1 hp1)
      rw [e]
      rw [List.length_append, List.length_append] at hw
      have nn : ∀ (h : ¬ (nwB p1 = true ∧ nwB q1 = true ∧ q1 ≠ [48])), shOf (p1 ++ ([47] ++ q1)) = none := fun h => shOf_none.mpr fun ⟨d, hd⟩ => h (by
        obtain ⟨a1, a2, a3, a4, a5⟩ := hd
        unfold shL at a5
        split at a5
        · exact absurd (by rw [← a5]; simp) (slash_free d.1)
        · obtain ⟨b1, b2⟩ := cut_at hp1 (slash_free d.1) a5
          refine ⟨nwB_iff.mpr ⟨d.1, b1, a3⟩, nwB_iff.mpr ⟨d.2, b2, a4⟩, fun z => ?_⟩
          have b2 : q1 = dg d.2 := b2
          rw [b2, ← show dg 0 = [48] from dg_small (by decide)] at z
          have := dg_inj z
          omega)
      refine ⟨_, rfl, p1, rfl, by omega, fun H2 s2 => ⟨_, rfl, ?_⟩⟩
      have s02 := sp.trans s2
      cases c1 : nwB p1 with
      | false => exact iteT (k _ H2 s02 (by rw [nn (fun h => by rw [c1] at h; cases h.1)]; rfl))
      | true =>
        refine iteF ?_
        refine ⟨_, rfl, rfl, _, rfl, iteTe (by rfl) ?_⟩
        refine ⟨_, rfl, q1, rfl, by omega, fun H3 s3 => ⟨_, rfl, ?_⟩⟩
        have s03 := s02.trans s3
        cases c2 : nwB q1 with
        | false => exact iteT (k _ H3 s03 (by rw [nn (fun h => by rw [c2] at h; cases h.2.1)]; rfl))
        | true =>
          refine iteF ?_
          refine ⟨_, rfl, rfl, _, rfl, iteB (fun z => ?_) (fun z => ?_)⟩
          · have z := of_decide_eq_true z
            have z : S q1 = S [48] := V.str.inj z
            exact k _ H3 s03 (by rw [nn (fun h => h.2.2 (S_inj z))]; rfl)
          have z2 : q1 ≠ [48] := fun e => of_decide_eq_false z (by rw [e]; rfl)
          obtain ⟨t, rfl, lt⟩ := nwB_iff.mp c1
          obtain ⟨n, rfl, ln⟩ := nwB_iff.mp c2
          have n0 : 0 < n := by
            rcases Nat.eq_zero_or_pos n with h0 | h0
            · rw [h0] at z2
              exact absurd (dg_small (by decide)) z2
            · exact h0
          refine ⟨_, rfl, S (dg t), (t : Int), rfl, int_dg (by omega), by rw [S_len]; omega, ?_⟩
          refine ⟨_, rfl, true, ⟨by rw [S_len]; exact Nat.le_trans ln (by decide), ?_⟩, iteT ?_⟩
          · have := List.length_pos_iff.mpr (dg_ne n)
            rw [S_len]
            refine (bne_iff_ne.mpr ?_).symm
            omega
          refine ⟨S (dg n), (n : Int), rfl, int_dg (by omega), by rw [S_len]; omega, ?_⟩
          refine fun x dx hx hd ne => si_ok hx hd ne (a := (t : Int)) (b := (n : Int)) (by omega) (log_small (b := 1400) (by show n < 2 ^ 1400; exact len100 ln) (by decide) (by decide)) fun H4 s4 e4 => ⟨rfl, ?_⟩
          obtain ⟨T0, B0, hT, hB⟩ : ∃ T0 B0 : Nat, lowT (t : Int) (n : Int) = (T0 : Int) ∧ lowB (t : Int) (n : Int) = (B0 : Int) := ⟨_, _, (low_nat n0).1, (low_nat n0).2⟩
          have hT1 : T0 ≤ t := by have := lowT_le (a := (t : Int)) (b := (n : Int)) (by omega); rw [hT] at this; exact this
          have hB1 : B0 ≤ n := by have := lowB_le (a := (t : Int)) (b := (n : Int)) (by omega); rw [hB] at this; exact this
          have hg := low_gcd (a := (t : Int)) (b := (n : Int)) (by omega)
          have hB0 : 0 < B0 := by have := lowB_pos (a := (t : Int)) (b := (n : Int)) (by omega); rw [hB] at this; omega
          rw [hT, hB] at hg e4
          have hg : Nat.gcd T0 B0 = 1 := hg
          refine qu _ _ _ _ x dx T0 B0 H4 e4 (Nat.lt_of_le_of_lt hT1 (len100 lt)) (Nat.lt_of_le_of_lt hB1 (len100 ln)) (fun ew => ?_) (fun ew => ?_) fun v H' s' hv => k v H' ((s03.trans s4).trans s') hv
          · refine shOf_some.mpr ⟨hB0, hg, ?_, ?_, ew⟩
            all_goals
              unfold shL at ew
              split at ew
              · exact absurd (by rw [← ew]; simp) (slash_free T0)
              · obtain ⟨b1, b2⟩ := cut_at (slash_free t) (slash_free T0) ew
                first
                  | (rw [← b1]; exact lt)
                  | (rw [← b2]; exact ln)
          · refine shOf_none.mpr fun ⟨d, hd⟩ => ew ?_
            obtain ⟨a1, a2, a3, a4, a5⟩ := hd
            have a5' := a5
            unfold shL at a5
            split at a5
            · exact absurd (by rw [← a5]; simp) (slash_free d.1)
            · obtain ⟨b1, b2⟩ := cut_at hp1 (slash_free d.1) a5
              have b1 := dg_inj b1
              have b2 := dg_inj b2
              obtain ⟨l1, l2⟩ := low_one (x := (t : Int)) (y := (n : Int)) (by omega) (by show Nat.gcd t n = 1; rw [b1, b2]; exact a2)
              rw [hT] at l1
              rw [hB] at l2
              have l1 : T0 = t := by omega
              have l2 : B0 = n := by omega
              rw [l1, l2]
              rw [← b1, ← b2] at a5'
              exact a5'
    · have e : Txt.partition (S wd) (Str.ofString "/") = (S wd, S [], S []) := by
        rw [sl]
        exact partition_none (by simp) (par_head_none h47)
      rw [e]
      have nn : nwB wd = false → shOf wd = none := fun h => shOf_none.mpr fun ⟨d, hd⟩ => by
        obtain ⟨a, b⟩ := no47 h47 d hd
        rw [nwB_iff.mpr ⟨d.1, b, hd.2.2.1⟩] at h
        cases h
      refine ⟨_, rfl, wd, rfl, hw, fun H2 s2 => ⟨_, rfl, ?_⟩⟩
      have s02 := sp.trans s2
      cases c1 : nwB wd with
      | false => exact iteT (k _ H2 s02 (by rw [nn c1]; rfl))
      | true =>
        refine iteF ?_
        obtain ⟨t, rfl, lt⟩ := nwB_iff.mp c1
        refine ⟨_, rfl, rfl, _, rfl, iteFe (by rfl) ?_⟩
        refine ⟨_, rfl, rfl, _, rfl, iteFe (by rfl) ?_⟩
        refine ⟨_, rfl, S (dg t), (t : Int), rfl, int_dg (by omega), by rw [S_len]; omega, ?_⟩
        refine ⟨_, rfl, false, ⟨by show 0 ≤ sizeLine; decide, rfl⟩, iteF ?_⟩
        have d1 : dg 1 = [49] := dg_small (by decide)
        refine ⟨S (dg 1), ((1 : Nat) : Int), rfl, int_dg (by rw [d1]; decide), by rw [S_len, d1]; decide, ?_⟩
        refine fun x dx hx hd ne => si_ok hx hd ne (a := (t : Int)) (b := ((1 : Nat) : Int)) (by decide) (by decide) fun H4 s4 e4 => ⟨rfl, ?_⟩
        obtain ⟨l1, l2⟩ := low_one (x := (t : Int)) (y := ((1 : Nat) : Int)) (by decide) (by show Nat.gcd t 1 = 1; exact Nat.gcd_one_right _)
        rw [l1, l2] at e4
        refine qu _ _ _ _ x dx t 1 H4 e4 (len100 lt) (by decide +kernel) (fun ew => ?_) (fun ew => absurd rfl ew) fun v H' s' hv => k v H' ((s02.trans s4).trans s') hv
        exact shOf_some.mpr ⟨Nat.one_pos, Nat.gcd_one_right _, lt, by show (dg 1).length ≤ 100; rw [d1]; decide, ew⟩
end
end KJ
set_option Elab.async false
set_option linter.all false
set_option maxRecDepth 100000
set_option maxHeartbeats 1000000
namespace KJ
open PySem L2 SX Tx
/-! ### rows of any kind -/
/-- the product of the bottoms -/
def pB : List (Nat × Nat) → Nat
  | [] => 1
  | d :: ds => d.2 * pB ds
def wts (ds : List (Nat × Nat)) : List Nat := ds.map fun d => d.1 * (pB ds / d.2)
theorem pB_pos : ∀ {ds : List (Nat × Nat)}, (∀ d ∈ ds, 0 < d.2) → 0 < pB ds
  | [], _ => Nat.one_pos
  | d :: ds, h => Nat.mul_pos (h d List.mem_cons_self) (pB_pos fun x m => h x (List.mem_cons_of_mem _ m))
theorem pB_dvd : ∀ {ds : List (Nat × Nat)} {d : Nat × Nat}, d ∈ ds → d.2 ∣ pB ds
  | [], _, h => by cases h
  | e :: ds, d, h => by
    rcases List.mem_cons.mp h with rfl | h
    · exact ⟨pB ds, rfl⟩
    · exact Nat.dvd_trans (pB_dvd h) ⟨e.2, Nat.mul_comm _ _⟩
theorem pB_le : ∀ {ds : List (Nat × Nat)} {b : Nat}, (∀ d ∈ ds, d.2 ≤ b) → pB ds ≤ b ^ ds.length
  | [], b, _ => Nat.le_refl _
  | d :: ds, b, h => by
    rw [List.length_cons, Nat.pow_succ, Nat.mul_comm]
    exact Nat.mul_le_mul (h d List.mem_cons_self) (pB_le fun x m => h x (List.mem_cons_of_mem _ m))
theorem ten100 {m : Nat} (h : (dg m).length ≤ 100) : m < 10 ^ 100 := dg_lt 100 m h
/-- shares of no more than 100 figures, at most eight: what they come to over the product of their bottoms -/
theorem wts_lt {ds : List (Nat × Nat)} {d : Nat × Nat} (h8 : ds.length ≤ 8) (h : ∀ d ∈ ds, (dg d.1).length ≤ 100 ∧ (dg d.2).length ≤ 100) (hd : (dg d.1).length ≤ 100) : d.1 * (pB ds / d.2) < 2 ^ 3000 ∧ pB ds < 2 ^ 2700 := by
  have h1 : pB ds ≤ (10 ^ 100) ^ 8 := Nat.le_trans (pB_le fun x m => Nat.le_of_lt (ten100 (h x m).2)) (Nat.pow_le_pow_right (by decide) h8)
  have h2 : pB ds / d.2 ≤ (10 ^ 100) ^ 8 := Nat.le_trans (Nat.div_le_self _ _) h1
  have h3 : d.1 * (pB ds / d.2) ≤ 10 ^ 100 * (10 ^ 100) ^ 8 := Nat.mul_le_mul (Nat.le_of_lt (ten100 hd)) h2
  exact ⟨Nat.lt_of_le_of_lt h3 (by decide +kernel), Nat.lt_of_le_of_lt h1 (by decide +kernel)⟩
theorem low_wt {d : Nat × Nat} {D : Nat} (h : d.2 ∣ D) (hD : 0 < D) (h2 : 0 < d.2) (hg : Nat.gcd d.1 d.2 = 1) : lowT ((d.1 * (D / d.2) : Nat) : Int) (D : Int) = (d.1 : Int) ∧ lowB ((d.1 * (D / d.2) : Nat) : Int) (D : Int) = (d.2 : Int) := by
  obtain ⟨q, rfl⟩ := h
  have e : d.2 * q / d.2 = q := Nat.mul_div_cancel_left q h2
  rw [e]
  have r := low_ratio (a := ((d.1 * q : Nat) : Int)) (b := ((d.2 * q : Nat) : Int)) (c := (d.1 : Int)) (d := (d.2 : Int)) (by omega) (by omega) (by rw [Int.natCast_mul, Int.natCast_mul]; grind)
  obtain ⟨l1, l2⟩ := low_one (x := (d.1 : Int)) (y := (d.2 : Int)) (by omega) (by show Nat.gcd d.1 d.2 = 1; exact hg)
  rw [r.1, r.2, l1, l2]
  exact ⟨rfl, rfl⟩
abbrev RowD : Type := Str × List (Nat × Nat)
/-- a row that is told: its name, the words of its shares -/
def IsRow (r : List Nat) (x : RowD) : Prop := ∃ ps : List (List Nat), Nam x.1 ∧ ps.length ≤ 8 ∧ r = TL.joinL [32] ((x.1.cps.toList ++ [58]) :: ps) ∧ ps.map shOf = x.2.map some ∧ (wts x.2).sum = pB x.2
theorem nam_free {x : Str} (h : Nam x) {c : Nat} (hc : ¬ (97 ≤ c ∧ c ≤ 122)) : c ∉ x.cps.toList := fun m => hc (h.2.2 c m)
theorem sh_free {ps : List (List Nat)} {ds : List (Nat × Nat)} (h : ps.map shOf = ds.map some) : ∀ p ∈ ps, 32 ∉ p ∧ ∃ d, shOf p = some d := fun p m => by
  obtain ⟨i, hi⟩ := List.mem_iff_getElem?.mp m
  have e : (ps.map shOf)[i]? = (ds.map some)[i]? := by rw [h]
  rw [List.getElem?_map, hi, List.getElem?_map] at e
  cases q : ds[i]? with
  | none => rw [q] at e; cases e
  | some d =>
    rw [q] at e
    have e := Option.some.inj e
    obtain ⟨_, _, _, _, rfl⟩ := shOf_some.mp e
    exact ⟨blank_free _ _, d, e⟩
/-- a told row, cut at the blanks -/
theorem IsRow.cut {r : List Nat} {x : RowD} (h : IsRow r x) : ∃ ps : List (List Nat), Nam x.1 ∧ ps.length ≤ 8 ∧ sp 32 r = (x.1.cps.toList ++ [58]) :: ps ∧ ps.map shOf = x.2.map some ∧ (wts x.2).sum = pB x.2 := by
  obtain ⟨ps, h1, h2, h3, h4, h5⟩ := h
  refine ⟨ps, h1, h2, ?_, h4, h5⟩
  rw [h3]
  refine sp_of (fun h => by cases h) fun p m => ?_
  rcases List.mem_cons.mp m with rfl | m
  · intro m
    rcases List.mem_append.mp m with m | m
    · exact nam_free h1 (by omega) m
    · rw [List.mem_singleton] at m; omega
  · exact (sh_free h4 p m).1
theorem IsRow.of {r : List Nat} {x : RowD} {ps : List (List Nat)} (h1 : Nam x.1) (h2 : ps.length ≤ 8) (h3 : sp 32 r = (x.1.cps.toList ++ [58]) :: ps) (h4 : ps.map shOf = x.2.map some) (h5 : (wts x.2).sum = pB x.2) : IsRow r x :=
  ⟨ps, h1, h2, by rw [← h3, sp_join], h4, h5⟩
theorem IsRow.one {r : List Nat} {x y : RowD} (h : IsRow r x) (h' : IsRow r y) : x = y := by
  obtain ⟨ps, _, _, e1, f1, _⟩ := h.cut
  obtain ⟨qs, _, _, e2, f2, _⟩ := h'.cut
  rw [e1] at e2
  obtain ⟨a, rfl⟩ := List.cons.inj e2
  have a := (List.append_inj' a rfl).1
  rw [f1] at f2
  refine Prod.ext (by rw [← S_tl x.1, ← S_tl y.1, a]) ?_
  exact (List.map_inj_right fun x y e => Option.some.inj e).mp f2
open Classical in
noncomputable def rowOf (r : List Nat) : Option RowD := if h : ∃ d, IsRow r d then some (choose h) else none
theorem rowOf_some {r : List Nat} {d : RowD} : rowOf r = some d ↔ IsRow r d := by
  unfold rowOf
  constructor
  · intro e
    split at e
    · rename_i h
      rw [← Option.some.inj e]
      exact Classical.choose_spec h
    · cases e
  · intro h
    have ex : ∃ d, IsRow r d := ⟨d, h⟩
    rw [dif_pos ex, (Classical.choose_spec ex).one h]
theorem rowOf_none {r : List Nat} : rowOf r = none ↔ ¬ ∃ d, IsRow r d := by
  unfold rowOf
  constructor
  · intro e h
    rw [dif_pos h] at e
    cases e
  · intro h
    rw [dif_neg h]
end KJ
set_option Elab.async false
set_option linter.all false
set_option maxRecDepth 100000
set_option maxHeartbeats 1000000
namespace KJ
open PySem L2 SX Tx
def isLt (c : Nat) : Bool := decide (97 ≤ c ∧ c ≤ 122)
def namB (w : List Nat) : Bool := decide (1 ≤ w.length ∧ w.length ≤ 8) && w.all isLt
theorem namB_iff {x : Str} : namB x.cps.toList = true ↔ Nam x := by
  unfold namB Nam
  rw [Bool.and_eq_true, decide_eq_true_eq, List.all_eq_true]
  constructor
  · rintro ⟨⟨h1, h2⟩, h3⟩
    exact ⟨h1, h2, fun c m => of_decide_eq_true (h3 c m)⟩
  · rintro ⟨h1, h2, h3⟩
    exact ⟨⟨h1, h2⟩, fun c m => decide_eq_true (h3 c m)⟩
theorem abc_iff (c : Nat) : decide (c ∈ abc.cps.toList) = isLt c := by
  unfold isLt
  rw [decide_eq_decide, abc_tl, List.mem_map]
  constructor
  · rintro ⟨k, mk, rfl⟩
    have := List.mem_range.mp mk
    omega
  · intro h
    exact ⟨c - 97, List.mem_range.mpr (by omega), by omega⟩
/-- is_name(word), of any word -/
def spIsNameG : Sp := fun vs H Q _ => ∃ w : List Nat, vs = [.str (S w)] ∧ w.length ≤ 200000 ∧ ∀ H', Same H H' → Q (.bl (namB w)) H'
section
variable {P : Program} {w : World} {K : PySem.W.Frag} {mg : Str → Option Value} {base : Heap} {C CC B : Addr}
theorem ok_is_nameG {f : Addr} {fd : FuncData} (F : Fun K "is_name" "is_name" s_is_name f fd) (T : Bm mg) (gL : ∃ t, mg "LETTERS" = some (.str abc t)) : FnOk P w K mg base CX0 1 f fd ["thing"] spIsNameG := by
  obtain ⟨tL, gL⟩ := gL
  refine F.ok sc_is_name (fun vs H Q E h => ?_) (fun cdv A outer s H vs Q E hr h => ?_)
  · obtain ⟨x, rfl, _⟩ := h
    rfl
  · obtain ⟨m, rfl, hm, k⟩ := h
    refine ⟨_, (pss_cons (ps_if (PW.pt (pw_or (pt_not (pt_val (pe_callB call_isi (by rfl) T.b.n_isinstance (by decide +kernel) (pa_cons (pv 0) (pa_cons (pe_bltn (v := .ty "str") rfl T.b.n_str (by decide +kernel) rfl) pa_nil))))) (pw_or1 (pt_not (pt_chain op_le op_le pe_int (pe_callB call_len_str (by rfl) T.b.n_len PySem.boot_len (pa_cons (pv 0) pa_nil)) pe_int)))))
        (pss_one (ps_ret pe_bl))
        pss_nil)
      (pss_one (ps_ret (pe_callB (cr_all rfl) (by rfl) T.n_all PyProof.Rows.boot_all (pa_cons (pe_lc (own := [("letter", 1)]) rfl sc_is_name.nd (pi_str (pv 0)) (blkOk_by (N := ["thing", "letter"]) (sc := defScope s_is_name) (by decide +kernel)) (fun _ _ _ _ _ => (pg_name (i := 1) sc_is_name.nd rfl (Or.inl rfl))) (fun _ _ _ _ _ => pts_nil) (fun _ _ _ _ _ => (pe_cmpR op_in_sign (pv 1) (pe_glob (v := .str abc) rfl gL ⟨_, rfl⟩) (by rfl)))) pa_nil))))), ?_⟩
    have hl : (S m).length = m.length := S_len _
    have h14 : (S m).length ≤ sizeLine := by rw [hl]; exact Nat.le_trans hm (by decide)
    unfold namB at k
    refine ⟨_, rfl, .str (S m), .ty "str", _, _, true, rfl, .ty _, .base (.str (S m)), kit_ty (r := true) (by decide +kernel), _, rfl, iteF ?_⟩
    refine ⟨_, rfl, _, rfl, h14, 1, _, rfl, rfl, _, rfl, ?_⟩
    by_cases h1 : 1 ≤ m.length
    rotate_left
    · refine iteFe (decide_eq_false (by rw [hl]; omega)) ⟨_, rfl, iteT ?_⟩
      rw [decide_eq_false (fun h => h1 h.1), Bool.false_and] at k
      exact k H (Same.refl H)
    refine iteTe (decide_eq_true (by rw [hl]; omega)) ?_
    refine ⟨_, 8, rfl, rfl, _, rfl, ?_⟩
    have lenI : decide (((S m).length : Int) ≤ 8) = decide (1 ≤ m.length ∧ m.length ≤ 8) := by rw [hl, decide_eq_decide]; omega
    rw [lenI]
    cases c : decide (1 ≤ m.length ∧ m.length ≤ 8) with
    | false =>
      have := k H (Same.refl H)
      rw [c] at this
      exact iteT this
    | true =>
      rw [c, Bool.true_and] at k
      have c := of_decide_eq_true c
      refine iteF ?_
      refine ⟨_, rfl, S m, rfl, fun D nD => ?_⟩
      let Pv : Nat → Hp → Prop := fun i H' => Same H H' ∧ H' D = some (.lst (((m.take i).map isLt).map V.bl))
      have hs : (S m).cps.size = m.length := by simp
      refine ⟨fun i j H' => j + i = (S m).cps.size ∧ Pv i H', ⟨(S m).cps.size, rfl, Same.put nD, upd_same⟩, fun i j H1 ⟨em, p⟩ => ?_⟩
      cases j with
      | zero =>
        refine .inl ⟨show (S m).cps.size ≤ i by omega, D, _, rfl, SqL.of p.2, ?_⟩
        have e : ((m.take i).map isLt).all id = m.all isLt := by
          rw [List.take_of_length_le (by omega), List.all_map]
          rfl
        rw [e]
        exact k H1 p.1
      | succ j =>
        refine .inr ⟨show i < (S m).cps.size by omega, Pv (i + 1), fun H' p' => ⟨j, Nat.lt_succ_self j, by omega, p'⟩, fun v H' y => ?_⟩
        obtain ⟨e, c', hc, rfl⟩ := y
        subst e
        have hc' : m[i]? = some c' := by rw [← hc]; simp
        refine ⟨rfl, yes_of ?_⟩
        refine ⟨_, rfl, c', abc, rfl, rfl, ?_⟩
        rw [abc_iff]
        refine ⟨_, p.2, by rw [List.length_map, List.length_map, List.length_take]; exact small_len (by omega), Same.but (fun b u e => p.1 _ _ e) nD, ?_⟩
        rw [upd_same, take_more hc', List.map_append, List.map_append]
        rfl
end
end KJ
set_option Elab.async false
set_option linter.all false
set_option maxRecDepth 100000
set_option maxHeartbeats 4000000
/-! a, *b = a list -/
namespace L2
open PySem PySem.Spec PySem.Calls PyProof.Rows
def gStarL (K : PySem.W.Frag) (t : TGs) : TG := fun v σ H Q => ∃ a x xs, v = .ref a ∧ SqL K H a (x :: xs) ∧ ∀ l, H l = none → t [x, .ref l] σ (upd H l (.lst xs)) Q
section
variable {X : Cx} {pos : Pos}
theorem pgs_star {e : Expr} {p : Pos} {es : List Expr} {t : TG} {u : TGs} (h1 : PG X e t) (h2 : PGs X es u) : PGs X (.Starred e p :: es) (gCons t u) := by
  refine ⟨fun pins s σ H vs us Q I r h => ?_⟩
  obtain ⟨v, vr, e1, h⟩ := h
  subst e1
  cases r with
  | cons r rr =>
    show wpAny _ _ (assignInOrder (assign e X.env :: (assignEach es X.env).map (·.2)) _) _ _ _
    refine assignInOrder_cons (thn (h1.run pins s σ H _ _ _ I r h) fun _ s1 ⟨σ1, H1, I1, q1⟩ => ?_)
    exact h2.run pins s1 σ1 H1 _ _ Q I1 rr q1
theorem pg_starL {es : List Expr} {k : Nat} {t : TGs} (hc : X.calm = true) (h : PGs X es t) (hn : (assignEach es X.env).length = 2 := by rfl) (hst : (assignEach es X.env).findIdx? (·.1) = some 1 := by rfl) : PG X (.Tuple es k pos) (gStarL X.K t) := by
  refine ⟨fun pins s σ H v u Q I r hw => ?_⟩
  obtain ⟨a, x, xs, e1, hq, hw⟩ := hw
  subst e1
  cases r
  obtain ⟨its, rv, pl, hz⟩ := I.list hq
  cases rv with
  | cons rx rvs =>
  rename_i ux us
  have lus := rvs.length
  rw [List.length_cons] at hz
  have hl := pl.isList
  have hh := I.ok.hd hc
  rw [PyProof.Rows.assign_Tuple]
  refine wpAny_bind (wpAny_standAt ?_)
  unfold unpack
  rw [hn, hst]
  have hlt : a ≠ s.heap.objs.size := by obtain ⟨o, ho, _⟩ := hl; exact Nat.ne_of_lt (Heap.lt_size ho)
  refine wpAny_bind (wpAny_holding ?_)
  unfold unpackItems
  refine wpAny_bind ?_
  unfold notIterableAtAll
  refine wpAny_bind (wpAny_specialOf hl.typeIs slot_list_iter.lookup ?_)
  refine wpAny_pure ?_
  simp only [Bool.false_eq_true, if_false]
  refine wpAny_bind (wpAny_holding (wpAny_pyIter_list hl ?_))
  have sz : (ux :: us).toArray.size = xs.length + 1 := by rw [List.size_toArray, List.length_cons]; omega
  refine wpAny_bind (wpAny_holding (PySem.W.kun_draw hlt 1 0 _ _ ⟨_, Heap.get?_push_size _ rfl, rfl, rfl⟩ (hl.push _) (by omega) fun h₁ hit₁ hs₁ => ?_))
  have hl₁ := (hl.push _).extBut hs₁.extBut hlt
  rw [Nat.zero_add] at hit₁
  have hit₁' := hit₁
  obtain ⟨oi, hoi, _⟩ := hit₁'
  have hl₁' := hl₁
  obtain ⟨ol, hol, _⟩ := hl₁'
  rw [List.drop_zero]
  rw [if_neg (by simp)]
  refine wpAny_bind (wpAny_holding (PySem.W.kun_collect (s := { s with heap := h₁ }) (T := "list_iterator") (.inr (.inr (.inl rfl))) (Walks.list (A := X.A.in1) hh s.heap.objs.size a hlt (ux :: us).toArray) (fun j u st => st.1.typeIs) (k := 1) (by omega) ⟨hit₁, hl₁⟩ (Heap.lt_size hoi) (Heap.lt_size hol) (fun h₂ tk hk => ?_) (by omega)))
  have e2 : List.drop 1 (ux :: us).toArray.toList = us := by simp
  rw [e2]
  show wpAny _ _ (if us.length < 2 - 1 - 1 then _ else _) _ _ _
  rw [if_neg (by omega)]
  show wpAny _ _ (newList (us.take (us.length - (2 - 1 - 1))) >>= fun d => pure (List.take 1 (ux :: us).toArray.toList ++ [d] ++ us.drop (us.length - (2 - 1 - 1)))) _ _ _
  rw [show us.length - (2 - 1 - 1) = us.length by omega, List.take_length, List.drop_length]
  have I1 : Inv X pins σ H { s with heap := h₂, toks := tk } := I.kept fun b o e => hk b o (Nat.ne_of_lt (Heap.lt_size e)) (hs₁.extBut b o (Nat.ne_of_lt (Heap.lt_size e)) (Heap.get?_push_of_some _ e))
  refine wpAny_bind (wpAny_newList ?_ (by omega))
  have new : ObjOk X.prog X.w (upd H h₂.objs.size (.lst xs)) (h₂.push ({ cls := .type "list", data := .seq us.toArray } : Obj)) h₂.objs.size (.lst xs) := ⟨by omega, us, 0, rvs, Heap.get?_push_size _ rfl⟩
  have I2 : Inv X pins σ (upd H h₂.objs.size (.lst xs)) { s with heap := h₂.push ({ cls := .type "list", data := .seq us.toArray } : Obj), toks := tk } := I1.laid (t' := tk) (fun b o e => Heap.get?_push_of_some _ e) (Nat.le_refl _) new
  refine wpAny_pure ?_
  exact h.run pins _ σ _ [x, .ref h₂.objs.size] [ux, .ref h₂.objs.size] Q I2 (.cons rx (.cons rfl .nil)) (hw _ (I1.hok.fresh (Nat.le_refl _)))
end
end L2
set_option Elab.async false
set_option linter.all false
set_option maxRecDepth 100000
set_option maxHeartbeats 1000000
namespace KJ
open PySem L2 SX Tx
abbrev sL (ps : List (List Nat)) : List V := (ps.map S).map V.str
theorem sL_len {ps : List (List Nat)} : (sL ps).length = ps.length := by rw [List.length_map, List.length_map]
theorem sL_at {ps : List (List Nat)} {i : Nat} {y : V} (h : (sL ps)[i]? = some y) : ∃ p, ps[i]? = some p ∧ p ∈ ps ∧ y = .str (S p) := by
  rw [List.getElem?_map, List.getElem?_map] at h
  cases e : ps[i]? with
  | none => rw [e] at h; cases h
  | some p => rw [e] at h; exact ⟨p, rfl, List.mem_of_getElem? e, (Option.some.inj h).symm⟩
theorem ends_colon (p : List Nat) : Txt.endswith (S (p ++ [58])) (Str.ofString ":") = true := by
  unfold Txt.endswith
  rw [StrLaws.subAt_eq, show Str.ofString ":" = S [58] from rfl, S_len, S_len]
  simp
theorem ends_no {l : List Nat} (h : ∀ p, l ≠ p ++ [58]) : Txt.endswith (S l) (Str.ofString ":") = false := by
  unfold Txt.endswith
  rw [StrLaws.subAt_eq, show Str.ofString ":" = S [58] from rfl, S_len, S_len]
  rcases List.eq_nil_or_concat l with rfl | ⟨p, c, rfl⟩
  · simp
  · have hc : c ≠ 58 := fun e => h p (by rw [e, List.concat_eq_append])
    simp [hc]
/-- shares at these places -/
def ShsAt (C : Addr) (H : Hp) (as : List Addr) (ds : List (Nat × Nat)) : Prop := as.length = ds.length ∧ ∀ (i : Nat) (a : Addr), as[i]? = some a → ∃ (d : Nat × Nat) (dx : Addr), ds[i]? = some d ∧ H a = some (.ins C dx (shF (d.1 : Int) (d.2 : Int)))
theorem ShsAt.same {C : Addr} {H H' : Hp} {as : List Addr} {ds : List (Nat × Nat)} (h : ShsAt C H as ds) (s : Same H H') : ShsAt C H' as ds := ⟨h.1, fun i a e => let ⟨d, dx, q1, q2⟩ := h.2 i a e; ⟨d, dx, q1, s _ _ q2⟩⟩
/-- a told row, or nothing -/
def RwV (C : Addr) (H : Hp) (v : V) : Option RowD → Prop
  | none => v = .non
  | some x => ∃ (p b : Addr) (as : List Addr), v = .ref p ∧ H p = some (.tup [.str x.1, .ref b]) ∧ H b = some (.tup (as.map V.ref)) ∧ ShsAt C H as x.2
theorem RwV.same {C : Addr} {H H' : Hp} {v : V} {o : Option RowD} (h : RwV C H v o) (s : Same H H') : RwV C H' v o := by
  cases o with
  | none => exact h
  | some x => obtain ⟨p, b, as, e, e1, e2, e3⟩ := h; exact ⟨p, b, as, e, s _ _ e1, s _ _ e2, e3.same s⟩
/-- told_row(row), of any row -/
def spToldRowG (C : Addr) : Sp := fun vs H Q _ => ∃ r : List Nat, vs = [.str (S r)] ∧ r.length ≤ 100000 ∧ ∀ (v : V) (H' : Hp), Same H H' → RwV C H' v (rowOf r) → Q v H'
/-- what a list of shares, or nothings, is over one bottom -/
def oB (os : List (Option (Nat × Nat))) : Nat := pB (os.map fun o => o.getD (1, 1))
def oI (D : Nat) : Option (Nat × Nat) → Option Int := Option.map fun d => ((d.1 * (D / d.2) : Nat) : Int)
theorem oB_pos {os : List (Option (Nat × Nat))} (h : ∀ d, some d ∈ os → 0 < d.2) : 0 < oB os := pB_pos fun d m => by
  obtain ⟨o, mo, rfl⟩ := List.mem_map.mp m
  cases o with
  | none => exact Nat.one_pos
  | some d => exact h d mo
theorem items_sh {K : PySem.W.Frag} {C : Addr} {H : Hp} {vs : List V} {ps : List (List Nat)} (h8 : ps.length ≤ 8) (hl : vs.length = ps.length) (h : ∀ (i : Nat) (v : V) (p : List Nat), vs[i]? = some v → ps[i]? = some p → ShV C H v (shOf p)) :
    Items K C (oB (ps.map shOf) : Int) H vs ((ps.map shOf).map (oI (oB (ps.map shOf)))) ∧ 0 < oB (ps.map shOf) ∧ oB (ps.map shOf) < 2 ^ 2700 := by
  have hs : ∀ d, some d ∈ ps.map shOf → 0 < d.2 ∧ Nat.gcd d.1 d.2 = 1 ∧ (dg d.1).length ≤ 100 ∧ (dg d.2).length ≤ 100 := fun d m => by
    obtain ⟨p, _, e⟩ := List.mem_map.mp m
    obtain ⟨a1, a2, a3, a4, _⟩ := shOf_some.mp e
    exact ⟨a1, a2, a3, a4⟩
  have hp := oB_pos (os := ps.map shOf) fun d m => (hs d m).1
  have all : ∀ d ∈ (ps.map shOf).map (fun o : Option (Nat × Nat) => o.getD (1, 1)), (dg d.1).length ≤ 100 ∧ (dg d.2).length ≤ 100 := fun d m => by
    obtain ⟨o, mo, rfl⟩ := List.mem_map.mp m
    cases o with
    | none =>
      have d1 : dg 1 = [49] := dg_small (by decide)
      show (dg 1).length ≤ 100 ∧ (dg 1).length ≤ 100
      rw [d1]
      decide
    | some d => exact ⟨(hs d mo).2.2.1, (hs d mo).2.2.2⟩
  have l8 : ((ps.map shOf).map (fun o : Option (Nat × Nat) => o.getD (1, 1))).length ≤ 8 := by rw [List.length_map, List.length_map]; exact h8
  refine ⟨⟨by rw [List.length_map, List.length_map]; exact hl, fun i v hv => ?_⟩, hp, ?_⟩
  · have hi := (List.getElem?_eq_some_iff.mp hv).1
    have gp : ps[i]? = some (ps[i]'(by omega)) := List.getElem?_eq_getElem _
    have mp := List.mem_of_getElem? gp
    generalize (ps[i]'(by omega)) = p at gp mp
    have sv := h i v p hv gp
    refine ⟨_, by rw [List.getElem?_map, List.getElem?_map, gp]; rfl, ?_⟩
    cases e : shOf p with
    | none =>
      rw [e] at sv
      have sv : v = .non := sv
      rw [sv]
      exact ⟨_, .non, rfl⟩
    | some d =>
      rw [e] at sv
      obtain ⟨a, dx, rfl, ea⟩ := sv
      have md : some d ∈ ps.map shOf := by rw [← e]; exact List.mem_map_of_mem mp
      obtain ⟨a1, a2, a3, a4⟩ := hs d md
      have dv : d.2 ∣ oB (ps.map shOf) := pB_dvd (d := d) (List.mem_map.mpr ⟨some d, md, rfl⟩)
      obtain ⟨l1, l2⟩ := low_wt dv hp a1 a2
      show Num C H (.ref a) ((d.1 * (oB (ps.map shOf) / d.2) : Nat) : Int) (oB (ps.map shOf) : Int) ∧ _
      refine ⟨.inr ⟨a, dx, rfl, by rw [l1, l2]; exact ea⟩, ?_⟩
      exact (wts_lt l8 all (d := d) a3).1
  · exact (wts_lt (d := (1, 1)) l8 all (by rw [show dg (1, 1).1 = [49] from dg_small (by decide)]; decide)).2
/-- they make a spread just if all are shares and come to one -/
theorem spr_of {ps : List (List Nat)} : sprB (oB (ps.map shOf) : Int) ((ps.map shOf).map (oI (oB (ps.map shOf)))) = true ↔ ∃ ds : List (Nat × Nat), ps.map shOf = ds.map some ∧ (wts ds).sum = pB ds := by
  have sm : ∀ ds : List (Nat × Nat), oB (ds.map some) = pB ds := fun ds => by
    unfold oB
    rw [List.map_map]
    show pB (ds.map id) = pB ds
    rw [List.map_id]
  have st : ∀ (ds : List (Nat × Nat)) (D : Nat), (((ds.map some).map (oI D)).map fun x : Option Int => x.getD 0).sum = ((ds.map fun d => d.1 * (D / d.2)).sum : Int) := fun ds D => by
    induction ds with
    | nil => rfl
    | cons d ds ih =>
      rw [List.map_cons, List.map_cons, List.map_cons, List.sum_cons, ih, List.map_cons, List.sum_cons, Int.natCast_add]
      rfl
  unfold sprB
  rw [Bool.and_eq_true, decide_eq_true_eq]
  constructor
  · rintro ⟨h1, h2⟩
    have ex : ∀ o ∈ ps.map shOf, ∃ d, o = some d := fun o m => by
      have := List.all_eq_true.mp h1 (from0 (oI (oB (ps.map shOf)) o)) (List.mem_map_of_mem (List.mem_map_of_mem m))
      cases o with
      | none => cases this
      | some d => exact ⟨d, rfl⟩
    obtain ⟨ds, e⟩ : ∃ ds : List (Nat × Nat), ps.map shOf = ds.map some := by
      refine ⟨(ps.map shOf).map fun o => o.getD (1, 1), ?_⟩
      rw [List.map_map]
      refine (List.map_id _).symm.trans (List.map_congr_left fun o m => ?_)
      obtain ⟨d, rfl⟩ := ex o m
      rfl
    refine ⟨ds, e, ?_⟩
    rw [e, sm, st] at h2
    have h2 : (((wts ds).sum : Nat) : Int) = (pB ds : Int) := h2
    omega
  · rintro ⟨ds, e, h⟩
    rw [e, sm, st]
    refine ⟨List.all_eq_true.mpr fun b m => ?_, congrArg (fun n : Nat => (n : Int)) h⟩
    obtain ⟨o, mo, rfl⟩ := List.mem_map.mp m
    obtain ⟨o2, mo2, rfl⟩ := List.mem_map.mp mo
    obtain ⟨d, _, rfl⟩ := List.mem_map.mp mo2
    show decide ((0 : Int) ≤ ((d.1 * (pB ds / d.2) : Nat) : Int)) = true
    exact decide_eq_true (Int.natCast_nonneg _)
end KJ
set_option Elab.async false
set_option linter.all false
set_option maxRecDepth 100000
set_option maxHeartbeats 1000000
namespace KJ
open PySem L2 SX Tx
theorem ShV.lstU {C D : Addr} {H : Hp} {v : V} {o : Option (Nat × Nat)} {ys zs : List V} (h : ShV C H v o) (e : H D = some (.lst ys)) : ShV C (upd H D (.lst zs)) v o := by
  cases o with
  | none => exact h
  | some d => obtain ⟨a, dx, e1, ea⟩ := h; exact ⟨a, dx, e1, by rw [upd_ne (fun z => by rw [z, e] at ea; cases ea)]; exact ea⟩
/-- things that are shares: their places -/
theorem shs_of {C : Addr} {H : Hp} {vs : List V} {ds : List (Nat × Nat)} (hl : vs.length = ds.length) (h : ∀ (i : Nat) (v : V) (d : Nat × Nat), vs[i]? = some v → ds[i]? = some d → ShV C H v (some d)) : ∃ as : List Addr, vs = as.map V.ref ∧ ShsAt C H as ds := by
  have each : ∀ v ∈ vs, ∃ a : Addr, v = .ref a := fun v m => by
    obtain ⟨i, hi⟩ := List.mem_iff_getElem?.mp m
    have il := (List.getElem?_eq_some_iff.mp hi).1
    obtain ⟨a, _, e, _⟩ := h i v _ hi (List.getElem?_eq_getElem (by omega))
    exact ⟨a, e⟩
  have e : vs = (vs.map fun v => match v with | .ref a => a | _ => 0).map V.ref := by
    rw [List.map_map]
    refine (List.map_id _).symm.trans (List.map_congr_left fun v m => ?_)
    obtain ⟨a, rfl⟩ := each v m
    rfl
  refine ⟨_, e, by rw [List.length_map]; exact hl, fun i a ha => ?_⟩
  have il := (List.getElem?_eq_some_iff.mp ha).1
  rw [List.length_map] at il
  have gd : ds[i]? = some (ds[i]'(by omega)) := List.getElem?_eq_getElem _
  have gv : vs[i]? = some (.ref a) := by
    rw [e, List.getElem?_map, ha]
    rfl
  obtain ⟨b, dx, e2, eb⟩ := h i _ _ gv gd
  cases e2
  exact ⟨_, dx, gd, eb⟩
section
variable {P : Program} {w : World} {K : PySem.W.Frag} {mg : Str → Option Value} {base : Heap} {C CC B : Addr}
abbrev s_trow : Stmt := top 36
abbrev nTr : List Str := ["row", "label", "words", "spread", "word"]
theorem sc_trow : FnScope nTr ["row"] (defScope s_trow) := ⟨rfl, rfl, rfl, by decide +kernel, rfl, by decide +kernel, by decide +kernel⟩
theorem ok_trowG {f : Addr} {fd : FuncData} (F : Fun K "told_row" "told_row" s_trow f fd) (T : Bm mg) (t : ChT K mg CC) (c_nm : Cal P w K mg base 1 "is_name" ["thing"] spIsNameG) (c_ts : Cal P w K mg base 6 "told_share" ["word"] (spToldG C)) (c_sp : Cal P w K mg base 11 "is_spread" ["many", "thing"] (spSpread K C)) : FnOk P w K mg base CX0 12 f fd ["row"] (spToldRowG C) := by
  obtain ⟨tM, gM⟩ := t.gM
  refine F.ok sc_trow (fun vs H Q E h => ?_) (fun cdv A outer s H vs Q E hr h => ?_)
  · obtain ⟨r, rfl, _⟩ := h
    rfl
  · obtain ⟨r, rfl, hr1, k⟩ := h
    refine ⟨_, (pss_cons (ps_asg (pe_split (pv 0) pe_str) (show PG _ _ (gStarL K (gCons (gName 1) (gCons (gName 2) gNil))) from pg_starL rfl (pgs_cons (pg_name (i := 1) sc_trow.nd rfl (Or.inl rfl)) (pgs_star (pg_name (i := 2) sc_trow.nd rfl (Or.inl rfl)) pgs_nil))))
      (pss_cons (ps_if (PW.pt (pw_or (pt_not (pt_val (pe_m1 PySem.F.slot_str_endswith PySem.F.type_str_endswith mt_endswith (pv 1) pe_str))) (pw_or (pt_not (pt_val (pe_cal c_nm (hr.mono (by decide)) rfl (pa_cons (pe_slice C8.sl_txt (pv 1) po_none (po_some (pe_un un_neg pe_int))) pa_nil)))) (pw_or1 (pt_cmpR op_gt (pe_callB call_len_seq (by rfl) T.b.n_len PySem.boot_len (pa_cons (pv 2) pa_nil)) (pe_glob (v := .int 8) rfl gM ⟨_, rfl⟩) (nomark _))))))
        (pss_one (ps_ret pe_non))
        pss_nil)
      (pss_cons (ps_set (i := 3) sc_trow.nd rfl (Or.inl rfl) (pe_callTy call_tuple_of (by rfl) T.n_tuple (by decide +kernel) (pa_cons (pe_lc (own := [("word", 4)]) rfl sc_trow.nd (pi_list (pv 2)) (blkOk_by (N := nTr) (sc := defScope s_trow) (by decide +kernel)) (fun _ _ _ _ _ => (pg_name (i := 4) sc_trow.nd rfl (Or.inl rfl))) (fun _ _ _ _ _ => pts_nil) (fun _ _ _ _ _ => (pe_cal c_ts (hr.mono (by decide)) rfl (pa_cons (pv 4) pa_nil)))) pa_nil)))
      (pss_cons (ps_if (pt_not (pt_val (pe_cal c_sp (hr.mono (by decide)) rfl (pa_cons (pe_callB call_len_seq (by rfl) T.b.n_len PySem.boot_len (pa_cons (pv 2) pa_nil)) (pa_cons (pv 3) pa_nil)))))
        (pss_one (ps_ret pe_non))
        pss_nil)
      (pss_one (ps_ret (pe_tup (pa_cons (pe_slice C8.sl_txt (pv 1) po_none (po_some (pe_un un_neg pe_int))) (pa_cons (pv 3) pa_nil))))))))), ?_⟩
    have e0 : Txt.split (S r) (Str.ofString " ") = (sp 32 r).map S := split_sp (by decide) r
    refine ⟨_, rfl, ⟨_, rfl⟩, _, _, rfl, rfl, rfl, by rw [S_len]; exact Nat.le_trans (Nat.add_le_add_right hr1 2) (by decide), fun p np => ?_⟩
    have sq := Same.put (o := .lst ((Txt.split (S r) (Str.ofString " ")).map V.str)) np
    obtain ⟨l, ps, hs⟩ : ∃ l ps, sp 32 r = l :: ps := by
      cases e : sp 32 r with
      | nil => exact absurd e (sp_ne 32 r)
      | cons l ps => exact ⟨l, ps, rfl⟩
    have cnt := sp_count 32 r
    have lens : ∀ q ∈ l :: ps, q.length ≤ 100000 := fun q m => Nat.le_trans (sp_len 32 r q (by rw [hs]; exact m)) hr1
    rw [hs] at cnt
    have cnt : ps.length + 1 ≤ r.length + 1 := cnt
    have ep : (upd H p (.lst ((Txt.split (S r) (Str.ofString " ")).map V.str))) p = some (.lst (V.str (S l) :: sL ps)) := by rw [upd_same, e0, hs]; rfl
    generalize (upd H p (.lst ((Txt.split (S r) (Str.ofString " ")).map V.str))) = H1 at sq ep ⊢
    refine ⟨p, _, _, rfl, SqL.of ep, fun lw nl => ?_⟩
    have s1 := sq.trans (Same.put (o := .lst (sL ps)) nl)
    have el : (upd H1 lw (.lst (sL ps))) lw = some (.lst (sL ps)) := upd_same
    generalize (upd H1 lw (.lst (sL ps))) = H2 at s1 el ⊢
    refine ⟨_, _, rfl, _, _, rfl, rfl, ?_⟩
    refine ⟨_, rfl, ⟨_, rfl⟩, _, _, rfl, rfl, _, rfl, ?_⟩
    by_cases hl : ∃ l0, l = l0 ++ [58]
    rotate_left
    · rw [ends_no (fun p e => hl ⟨p, e⟩)]
      refine iteT (k _ H2 s1 ?_)
      rw [rowOf_none.mpr fun ⟨x, hx⟩ => hl (by
        obtain ⟨qs, _, _, e, _⟩ := hx.cut
        rw [hs] at e
        exact ⟨_, (List.cons.inj e).1⟩)]
      rfl
    obtain ⟨l0, rfl⟩ := hl
    rw [ends_colon]
    refine iteF ?_
    have l0l : l0.length ≤ 100000 := by have := lens _ List.mem_cons_self; rw [List.length_append] at this; omega
    have cut : Txt.slice (S (l0 ++ [58])) none (some (-1)) = S l0 := by
      rw [slice_butlast (by simp)]
      have : (l0 ++ [58]).take ((l0 ++ [58]).length - 1) = l0 := by simp
      rw [this]
    have sml : (S (l0 ++ [58])).length ≤ sizeLine := by rw [S_len, List.length_append]; exact Nat.le_trans (Nat.add_le_add_right l0l 1) (by decide)
    have row_is : ∀ x : RowD, IsRow r x → x.1.cps.toList = l0 ∧ ps.length ≤ 8 ∧ Nam x.1 ∧ ps.map shOf = x.2.map some ∧ (wts x.2).sum = pB x.2 := fun x hx => by
      obtain ⟨qs, a1, a2, e, a3, a4⟩ := hx.cut
      rw [hs] at e
      obtain ⟨b1, b2⟩ := List.cons.inj e
      subst b2
      exact ⟨((List.append_inj' b1 rfl).1).symm, a2, a1, a3, a4⟩
    refine ⟨_, rfl, _, rfl, _, rfl, _, rfl, sml, ?_⟩
    refine ⟨l0, congrArg (fun z => [V.str z]) cut, by omega, fun H3 s3 => ⟨_, rfl, ?_⟩⟩
    have s03 := s1.trans s3
    have el3 := s3 _ _ el
    cases hn : namB l0 with
    | false =>
      refine iteT (k _ H3 s03 ?_)
      rw [rowOf_none.mpr fun ⟨x, hx⟩ => by
        obtain ⟨b1, _, b3, _⟩ := row_is x hx
        rw [← namB_iff, b1, hn] at b3
        cases b3]
      rfl
    | true =>
    have hn : Nam (S l0) := namB_iff.mp (by show namB l0 = true; exact hn)
    refine iteF ?_
    refine ⟨_, rfl, lw, _, rfl, .inl (SqL.of el3), ?_⟩
    refine ⟨_, _, rfl, rfl, _, rfl, iteB (fun z => ?_) (fun z => ?_)⟩
    · have z := of_decide_eq_true z
      rw [sL_len] at z
      refine k _ H3 s03 ?_
      rw [rowOf_none.mpr fun ⟨x, hx⟩ => by
        obtain ⟨_, b2, _⟩ := row_is x hx
        omega]
      rfl
    have z := of_decide_eq_false z
    rw [sL_len] at z
    have p8 : ps.length ≤ 8 := by omega
    refine ⟨_, rfl, lw, rfl, ⟨_, SqL.of el3⟩, fun D nD => ?_⟩
    refine lc_list (K := K) (a := lw) (xs := sL ps) (fun i H' => Same H3 H' ∧ ∃ xs : List V, H' D = some (.lst xs) ∧ xs.length = i ∧ ∀ (j : Nat) (v : V) (q : List Nat), xs[j]? = some v → ps[j]? = some q → ShV C H' v (shOf q)) ⟨Same.put nD, [], upd_same, rfl, fun j v q h => by simp at h⟩ (fun i H' _ h => SqL.of (h.1 _ _ el3)) ?_ ?_
    · rintro i y H' hy ⟨s4, xs, eD, lx, fx⟩
      obtain ⟨q, hq, mq, rfl⟩ := sL_at hy
      have il := (List.getElem?_eq_some_iff.mp hq).1
      refine ⟨rfl, yes_of ?_⟩
      refine ⟨_, rfl, q, rfl, by have := lens q (List.mem_cons_of_mem _ mq); omega, fun v H5 s5 hv => ?_⟩
      have eD5 := s5 _ _ eD
      refine ⟨xs, eD5, small_len (by omega), Same.but (fun b u e => s5 _ _ (s4 _ _ e)) nD, xs ++ [v], upd_same, by rw [List.length_append, lx]; rfl, fun j v' q' hv' hq' => ?_⟩
      rcases Nat.lt_or_ge j xs.length with h | h
      · rw [List.getElem?_append_left h] at hv'
        exact ((fx j v' q' hv' hq').same s5).lstU eD5
      · have hj := (List.getElem?_eq_some_iff.mp hv').1
        rw [List.length_append] at hj
        have hj : j < xs.length + 1 := hj
        have ej : j = i := by omega
        subst ej
        rw [← lx, List.getElem?_concat_length] at hv'
        cases hv'
        rw [hq] at hq'
        cases hq'
        exact hv.lstU eD5
    · rintro H4 ⟨s4, xs, eD, lx, fx⟩
      rw [sL_len] at lx
      have s04 := s03.trans s4
      refine ⟨D, _, rfl, .inl ⟨SqL.of eD, fun tp ntp => ?_⟩⟩
      have st := Same.put (o := .tup xs) ntp
      have et : (upd H4 tp (.tup xs)) tp = some (.tup xs) := upd_same
      have s05 := s04.trans st
      have el5 := st _ _ (s4 _ _ el3)
      have fx5 : ∀ (j : Nat) (v : V) (q : List Nat), xs[j]? = some v → ps[j]? = some q → ShV C (upd H4 tp (.tup xs)) v (shOf q) := fun j v q h1 h2 => (fx j v q h1 h2).same st
      generalize (upd H4 tp (.tup xs)) = H5 at st et s05 el5 fx5 ⊢
      obtain ⟨its, D0, DB⟩ := items_sh (K := K) p8 lx fx5
      refine ⟨_, rfl, lw, _, rfl, .inl (SqL.of el5), _, rfl, _, .ref tp, rfl, .inl ⟨tp, xs, _, (oB (ps.map shOf) : Int), rfl, et, its, by omega, Nat.lt_trans DB (by decide +kernel), by rw [List.length_map, List.length_map]; omega, fun H6 s6 => ?_⟩⟩
      rw [sL_len, lx, decide_eq_true rfl, Bool.true_and]
      refine ⟨_, rfl, ?_⟩
      have s06 := s05.trans s6
      cases hsp : sprB (oB (ps.map shOf) : Int) ((ps.map shOf).map (oI (oB (ps.map shOf)))) with
      | false =>
        refine iteT (k _ H6 s06 ?_)
        rw [rowOf_none.mpr fun ⟨x, hx⟩ => by
          obtain ⟨_, _, _, b4, b5⟩ := row_is x hx
          rw [spr_of.mpr ⟨x.2, b4, b5⟩] at hsp
          cases hsp]
        rfl
      | true =>
        obtain ⟨ds, e1, e2⟩ := spr_of.mp hsp
        have hrow : IsRow r (S l0, ds) := IsRow.of hn p8 hs e1 e2
        have lds : ps.length = ds.length := by have := congrArg List.length e1; rwa [List.length_map, List.length_map] at this
        obtain ⟨as, rfl, has⟩ := shs_of (C := C) (H := H5) (vs := xs) (ds := ds) (by omega) fun i v d hv hd => by
          obtain ⟨q, gp⟩ : ∃ q, ps[i]? = some q := ⟨_, List.getElem?_eq_getElem (by have := (List.getElem?_eq_some_iff.mp hd).1; omega)⟩
          have := fx5 i v _ hv gp
          have e3 : (ps.map shOf)[i]? = (ds.map some)[i]? := by rw [e1]
          rw [List.getElem?_map, gp, List.getElem?_map, hd] at e3
          rwa [Option.some.inj e3] at this
        refine iteF ?_
        refine ⟨_, rfl, _, rfl, _, rfl, _, rfl, sml, ?_⟩
        refine ⟨_, rfl, by show 2 ≤ sizeLine; decide, fun z nz => ?_⟩
        have s7 := Same.put (o := .tup [.str (S l0), .ref tp]) nz
        refine k _ _ (s06.trans ?_) ?_
        · show Same H6 (upd H6 z (.tup [.str (Txt.slice (S (l0 ++ [58])) none (some (-1))), .ref tp]))
          exact Same.put nz
        · rw [rowOf_some.mpr hrow]
          refine ⟨z, tp, as, rfl, ?_, (Same.put nz) _ _ (s6 _ _ et), (has.same s6).same (Same.put nz)⟩
          rw [upd_same]
          show some (HO.tup [.str (Txt.slice (S (l0 ++ [58])) none (some (-1))), .ref tp]) = _
          rw [cut]
end
end KJ
set_option Elab.async false
set_option linter.all false
set_option maxRecDepth 100000
set_option maxHeartbeats 1000000
namespace KJ
open PySem L2 SX Tx
theorem cut_last {xs : List V} {x : V} : cutV (xs ++ [x]) none (some (-1)) = xs := by
  have hl : (xs ++ [x]).length = xs.length + 1 := by simp
  have e1 : HT.sIx (xs ++ [x]).length 0 none = 0 := rfl
  have e2 : HT.sIx (xs ++ [x]).length (xs ++ [x]).length (some (-1)) = xs.length := by
    rw [hl]
    show (if (-1 : Int) < 0 then ((-1 : Int) + ((xs.length + 1 : Nat) : Int)).toNat else min (-1 : Int).toNat (xs.length + 1)) = xs.length
    rw [if_pos (by decide)]
    omega
  unfold cutV
  rw [e1, e2, List.drop_zero, Nat.sub_zero]
  simp
/-- no text -/
def NoTx (K : PySem.W.Frag) (H : Hp) (v : V) : Prop := ∃ t, TyX K H v t ∧ PySem.W.kitOne K t (.type "str") = some false
/-- a list, told last -/
theorem last_of {α : Type} {l : List α} (h : l ≠ []) : ∃ u x, l = u ++ [x] := ⟨l.dropLast, l.getLast h, (List.dropLast_concat_getLast h).symm⟩
/-- text_rows(thing) -/
def spTRows (K : PySem.W.Frag) (B : Addr) : Sp := fun vs H Q E => ∃ v : V, vs = [v] ∧
  ((∃ w : List Nat, v = .str (S w) ∧ w.length ≤ 100000 ∧ ∀ (u : List (List Nat)) (z : List Nat), sp 10 w = u ++ [z] →
      (z ≠ [] → ∀ (d : Addr) (H' : Hp), Same H H' → H' d = some (.xd [("line", .int ((u.length + 1 : Nat) : Int))]) → E (.ref B) (some d) H') ∧
      (z = [] → ∀ (l : Addr) (H' : Hp), Same H H' → H' l = some (.lst (sL u)) → Q (.ref l) H')) ∨
    (NoTx K H v ∧ ∀ (d : Addr) (H' : Hp), Same H H' → H' d = some (.xd [("line", .int 0)]) → E (.ref B) (some d) H'))
section
variable {P : Program} {w : World} {K : PySem.W.Frag} {mg : Str → Option Value} {base : Heap} {C CC B : Addr}
abbrev s_trows : Stmt := top 34
theorem sc_trows : FnScope ["text", "pieces"] ["text"] (defScope s_trows) := ⟨rfl, rfl, rfl, by decide +kernel, rfl, by decide +kernel, by decide +kernel⟩
theorem ok_trowsG {f : Addr} {fd : FuncData} (F : Fun K "text_rows" "text_rows" s_trows f fd) (T : Bm mg) (N : BtxT P w K mg base B) : FnOk P w K mg base (L2.CX P w) 4 f fd ["text"] (spTRows K B) := by
  obtain ⟨fS, fdS, iS, tS, FS, bS⟩ := id N.made
  refine F.okX sc_trows (fun vs H Q E h => ?_) (fun cdv A outer s H vs Q E hr h => ?_)
  · obtain ⟨v, rfl, _⟩ := h
    rfl
  · obtain ⟨v, rfl, h⟩ := h
    refine ⟨_, (pss_cons (ps_if (pt_not (pt_val (pe_callB call_isi (by rfl) T.b.n_isinstance (by decide +kernel) (pa_cons (pv 0) (pa_cons (pe_bltn (v := .ty "str") rfl T.b.n_str (by decide +kernel) rfl) pa_nil)))))
        (pss_one (ps_raise (W := fun cls d _ H => E cls d H) rfl (takes_of rfl rfl rfl rfl) (pmk_oex N.O iS tS FS (hr.mono (by decide)) bS .nil pass0 rfl N.gB (pa_cons pe_int pa_nil))))
        pss_nil)
      (pss_cons (ps_set (i := 1) sc_trows.nd rfl (Or.inl rfl) (pe_split (pv 0) pe_str))
      (pss_cons (ps_if (pt_cmpR op_ne (pe_ix (show IxR _ (rIxL K) from ix_list) (pv 1) (pe_un un_neg pe_int) (fun _ _ => rfl)) pe_str (nomark _))
        (pss_one (ps_raise (W := fun cls d _ H => E cls d H) rfl (takes_of rfl rfl rfl rfl) (pmk_oex N.O iS tS FS (hr.mono (by decide)) bS .nil pass0 rfl N.gB (pa_cons (pe_callB call_len_seq (by rfl) T.b.n_len PySem.boot_len (pa_cons (pv 1) pa_nil)) pa_nil))))
        pss_nil)
      (pss_one (ps_ret (pe_slice sl_list (pv 1) po_none (po_some (pe_un un_neg pe_int)))))))), ?_⟩
    rcases h with ⟨wd, rfl, hw, h⟩ | ⟨⟨t, ty, kt⟩, k⟩
    · refine ⟨_, rfl, .str _, .ty "str", _, _, true, rfl, .ty _, .base (.str _), kit_ty (r := true) (by decide +kernel), _, rfl, iteF ?_⟩
      obtain ⟨u, z, e⟩ := last_of (sp_ne 10 wd)
      obtain ⟨h1, h2⟩ := h u z e
      have e0 : Txt.split (S wd) (Str.ofString "\n") = (sp 10 wd).map S := split_sp (by decide) wd
      have cnt := sp_count 10 wd
      rw [e, List.length_append] at cnt
      have cnt : u.length + 1 ≤ wd.length + 1 := cnt
      refine ⟨_, rfl, ⟨_, rfl⟩, _, _, rfl, rfl, rfl, by rw [S_len]; exact Nat.le_trans (Nat.add_le_add_right hw 2) (by decide), fun p np => ?_⟩
      have sq := Same.put (o := .lst ((Txt.split (S wd) (Str.ofString "\n")).map V.str)) np
      have ep : (upd H p (.lst ((Txt.split (S wd) (Str.ofString "\n")).map V.str))) p = some (.lst (sL u ++ [V.str (S z)])) := by rw [upd_same, e0, e, List.map_append, List.map_append]; rfl
      generalize (upd H p (.lst ((Txt.split (S wd) (Str.ofString "\n")).map V.str))) = H1 at sq ep ⊢
      refine ⟨_, rfl, _, rfl, p, _, -1, .str (S z), rfl, rfl, SqL.of ep, atI_last _ _, ?_⟩
      refine ⟨rfl, _, rfl, ?_⟩
      by_cases hz : z = []
      · refine iteFe (by rw [hz]; rfl) ?_
        refine ⟨_, rfl, _, rfl, _, rfl, p, _, rfl, SqL.of ep, fun l nl => ?_⟩
        rw [cut_last]
        exact h2 hz l _ (sq.trans (Same.put nl)) upd_same
      · refine iteTe (by rw [decide_eq_false (fun e : V.str (S z) = V.str (Str.ofString "") => hz (S_inj (a := z) (b := []) (V.str.inj e)))]; rfl) ?_
        refine bt_raise (p := .int ((u.length + 1 : Nat) : Int)) N (fun d H2 s2 ed => h1 hz d H2 (sq.trans s2) ed) fun Q q => ?_
        exact ⟨_, rfl, p, _, rfl, .inl (SqL.of ep), by rw [List.length_append, sL_len]; exact q⟩
    · refine ⟨_, rfl, v, .ty "str", t, _, false, rfl, .ty _, ty, kt, _, rfl, iteT ?_⟩
      exact bt_raise (p := .int 0) N k fun Q q => q
end
end KJ
set_option Elab.async false
set_option linter.all false
set_option maxRecDepth 100000
set_option maxHeartbeats 1000000
namespace KJ
open PySem L2 SX Tx
/-! ### what a text is -/
inductive IsDue (w : List Nat) : Nat ⊕ List RowD → Prop where
  | last {u : List (List Nat)} {z : List Nat} (e : sp 10 w = u ++ [z]) (h : z ≠ []) : IsDue w (.inl (u.length + 1))
  | none (e : sp 10 w = [[]]) : IsDue w (.inl 1)
  | row {u : List (List Nat)} {i : Nat} (e : sp 10 w = u ++ [[]]) (h : ∃ r, u[i]? = some r ∧ rowOf r = .none) (hj : ∀ j r, j < i → u[j]? = some r → rowOf r ≠ .none) : IsDue w (.inl (i + 1))
  | len {u : List (List Nat)} {ds : List RowD} {i : Nat} (e : sp 10 w = u ++ [[]]) (hr : u.map rowOf = ds.map some) (h : ∃ x, ds[i]? = some x ∧ x.2.length ≠ ds.length) (hj : ∀ j x, j < i → ds[j]? = some x → x.2.length = ds.length) : IsDue w (.inl (i + 1))
  | told {u : List (List Nat)} {ds : List RowD} (e : sp 10 w = u ++ [[]]) (ne : u ≠ []) (hr : u.map rowOf = ds.map some) (h : ∀ x ∈ ds, x.2.length = ds.length) : IsDue w (.inr ds)
theorem rows_at {u : List (List Nat)} {ds : List RowD} (hr : u.map rowOf = ds.map some) {i : Nat} {r : List Nat} (h : u[i]? = some r) : ∃ x, ds[i]? = some x ∧ rowOf r = some x := by
  have e : (u.map rowOf)[i]? = (ds.map some)[i]? := by rw [hr]
  rw [List.getElem?_map, h, List.getElem?_map] at e
  cases q : ds[i]? with
  | none => rw [q] at e; cases e
  | some x => rw [q] at e; exact ⟨x, rfl, Option.some.inj e⟩
theorem rows_len {u : List (List Nat)} {ds : List RowD} (hr : u.map rowOf = ds.map some) : u.length = ds.length := by
  have := congrArg List.length hr
  rwa [List.length_map, List.length_map] at this
theorem snoc_inj {α : Type} {u v : List α} {a b : α} (h : u ++ [a] = v ++ [b]) : u = v ∧ a = b := by
  have := List.append_inj' h rfl
  exact ⟨this.1, (List.cons.inj this.2).1⟩
theorem least_eq {P : Nat → Prop} {i j : Nat} (hi : P i) (hj : P j) (li : ∀ k, k < i → ¬ P k) (lj : ∀ k, k < j → ¬ P k) : i = j := by
  rcases Nat.lt_trichotomy i j with h | h | h
  · exact absurd hi (lj i h)
  · exact h
  · exact absurd hj (li j h)
theorem IsDue.one {w : List Nat} {a b : Nat ⊕ List RowD} (ha : IsDue w a) (hb : IsDue w b) : a = b := by
  have nil : ∀ {u : List (List Nat)}, ([[]] : List (List Nat)) = u ++ [[]] → u = [] := fun {u} h => by
    have h : ([] : List (List Nat)) ++ [[]] = u ++ [[]] := h
    exact ((snoc_inj h).1).symm
  cases ha with
  | last e h =>
    cases hb with
    | last e2 h2 => rw [(snoc_inj (e.symm.trans e2)).1]
    | none e2 => exact absurd (snoc_inj (e.symm.trans (show sp 10 w = [] ++ [[]] from e2))).2 h
    | row e2 _ _ => exact absurd (snoc_inj (e.symm.trans e2)).2 h
    | len e2 _ _ _ => exact absurd (snoc_inj (e.symm.trans e2)).2 h
    | told e2 _ _ _ => exact absurd (snoc_inj (e.symm.trans e2)).2 h
  | none e =>
    cases hb with
    | last e2 h2 => exact absurd (snoc_inj ((show sp 10 w = [] ++ [[]] from e).symm.trans e2)).2.symm h2
    | none e2 => rfl
    | row e2 h _ =>
      obtain ⟨r, h, _⟩ := h
      rw [nil (e.symm.trans e2)] at h
      simp at h
    | len e2 hr h _ =>
      obtain ⟨x, h, _⟩ := h
      have := rows_len hr
      rw [nil (e.symm.trans e2)] at this
      have := (List.getElem?_eq_some_iff.mp h).1
      simp at *
      omega
    | told e2 ne _ _ => exact absurd (nil (e.symm.trans e2)) ne
  | @row u i e h hj =>
    cases hb with
    | last e2 h2 => exact absurd (snoc_inj (e.symm.trans e2)).2.symm h2
    | none e2 =>
      obtain ⟨r, h, _⟩ := h
      rw [nil (e2.symm.trans e)] at h
      simp at h
    | @row u2 i2 e2 h2 hj2 =>
      obtain ⟨rfl, _⟩ := snoc_inj (e.symm.trans e2)
      have := least_eq (P := fun i => ∃ r, u[i]? = some r ∧ rowOf r = .none) h h2 (fun k hk ⟨r, q1, q2⟩ => hj k r hk q1 q2) (fun k hk ⟨r, q1, q2⟩ => hj2 k r hk q1 q2)
      rw [this]
    | len e2 hr _ _ =>
      obtain ⟨rfl, _⟩ := snoc_inj (e.symm.trans e2)
      obtain ⟨r, q1, q2⟩ := h
      obtain ⟨x, _, q3⟩ := rows_at hr q1
      rw [q2] at q3
      cases q3
    | told e2 _ hr _ =>
      obtain ⟨rfl, _⟩ := snoc_inj (e.symm.trans e2)
      obtain ⟨r, q1, q2⟩ := h
      obtain ⟨x, _, q3⟩ := rows_at hr q1
      rw [q2] at q3
      cases q3
  | @len u ds i e hr h hj =>
    cases hb with
    | last e2 h2 => exact absurd (snoc_inj (e.symm.trans e2)).2.symm h2
    | none e2 =>
      obtain ⟨x, h, _⟩ := h
      have := rows_len hr
      rw [nil (e2.symm.trans e)] at this
      have := (List.getElem?_eq_some_iff.mp h).1
      simp at *
      omega
    | row e2 h2 _ =>
      obtain ⟨rfl, _⟩ := snoc_inj (e.symm.trans e2)
      obtain ⟨r, q1, q2⟩ := h2
      obtain ⟨x, _, q3⟩ := rows_at hr q1
      rw [q2] at q3
      cases q3
    | @len u2 ds2 i2 e2 hr2 h2 hj2 =>
      obtain ⟨rfl, _⟩ := snoc_inj (e.symm.trans e2)
      rw [hr] at hr2
      have ed : ds = ds2 := (List.map_inj_right fun x y e => Option.some.inj e).mp hr2
      subst ed
      have := least_eq (P := fun i => ∃ x, ds[i]? = some x ∧ x.2.length ≠ ds.length) h h2 (fun k hk ⟨r, q1, q2⟩ => q2 (hj k r hk q1)) (fun k hk ⟨r, q1, q2⟩ => q2 (hj2 k r hk q1))
      rw [this]
    | told e2 _ hr2 h2 =>
      obtain ⟨rfl, _⟩ := snoc_inj (e.symm.trans e2)
      rw [hr] at hr2
      have ed : ds = _ := (List.map_inj_right fun x y e => Option.some.inj e).mp hr2
      subst ed
      obtain ⟨x, q1, q2⟩ := h
      exact absurd (h2 x (List.mem_of_getElem? q1)) q2
  | @told u ds e ne hr h =>
    cases hb with
    | last e2 h2 => exact absurd (snoc_inj (e.symm.trans e2)).2.symm h2
    | none e2 => exact absurd (nil (e2.symm.trans e)) ne
    | row e2 h2 _ =>
      obtain ⟨rfl, _⟩ := snoc_inj (e.symm.trans e2)
      obtain ⟨r, q1, q2⟩ := h2
      obtain ⟨x, _, q3⟩ := rows_at hr q1
      rw [q2] at q3
      cases q3
    | len e2 hr2 h2 _ =>
      obtain ⟨rfl, _⟩ := snoc_inj (e.symm.trans e2)
      rw [hr] at hr2
      have ed : ds = _ := (List.map_inj_right fun x y e => Option.some.inj e).mp hr2
      subst ed
      obtain ⟨x, q1, q2⟩ := h2
      exact absurd (h x (List.mem_of_getElem? q1)) q2
    | told e2 _ hr2 _ =>
      obtain ⟨rfl, _⟩ := snoc_inj (e.symm.trans e2)
      rw [hr] at hr2
      have ed : ds = _ := (List.map_inj_right fun x y e => Option.some.inj e).mp hr2
      rw [ed]
/-- the told rows of a text that is told -/
theorem IsDue.rows {w : List Nat} {ds : List RowD} (h : IsDue w (.inr ds)) : 1 ≤ ds.length ∧ ds.length ≤ 8 ∧ ∀ x ∈ ds, (∃ r, IsRow r x) ∧ x.2.length = ds.length := by
  cases h with
  | @told u ds e ne hr h =>
    have l := rows_len hr
    have all : ∀ x ∈ ds, ∃ r, IsRow r x := fun x m => by
      have : some x ∈ u.map rowOf := by rw [hr]; exact List.mem_map_of_mem m
      obtain ⟨r, _, e⟩ := List.mem_map.mp this
      exact ⟨r, rowOf_some.mp e⟩
    have n1 : 1 ≤ ds.length := by
      rw [← l]
      exact List.length_pos_iff.mpr ne
    refine ⟨n1, ?_, fun x m => ⟨all x m, h x m⟩⟩
    have m0 : ds[0]'(by omega) ∈ ds := List.getElem_mem _
    obtain ⟨r, ps, _, h8, _, e4, _⟩ := all _ m0
    have := congrArg List.length e4
    rw [List.length_map, List.length_map] at this
    have := h _ m0
    omega
/-- a told row's shares as weights -/
theorem IsRow.wts {r : List Nat} {x : RowD} (h : IsRow r x) : Tpg x.2.length (wts x.2) ∧ (∀ d ∈ x.2, 0 < d.2 ∧ Nat.gcd d.1 d.2 = 1 ∧ d.2 ∣ pB x.2) ∧ 0 < pB x.2 := by
  obtain ⟨ps, _, p8, _, e4, e5⟩ := h
  have hs : ∀ d ∈ x.2, 0 < d.2 ∧ Nat.gcd d.1 d.2 = 1 ∧ (dg d.1).length ≤ 100 ∧ (dg d.2).length ≤ 100 := fun d m => by
    have : some d ∈ ps.map shOf := by rw [e4]; exact List.mem_map_of_mem m
    obtain ⟨p, _, e⟩ := List.mem_map.mp this
    obtain ⟨a1, a2, a3, a4, _⟩ := shOf_some.mp e
    exact ⟨a1, a2, a3, a4⟩
  have hp : 0 < pB x.2 := pB_pos fun d m => (hs d m).1
  have l8 : x.2.length ≤ 8 := by have := congrArg List.length e4; rw [List.length_map, List.length_map] at this; omega
  have d1 : (dg 1).length ≤ 100 := by rw [show dg 1 = [49] from dg_small (by decide)]; decide
  have bd : pB x.2 < 2 ^ 2700 := (wts_lt (d := (1, 1)) l8 (fun d m => ⟨(hs d m).2.2.1, (hs d m).2.2.2⟩) d1).2
  refine ⟨⟨by unfold KJ.wts; rw [List.length_map], by rw [e5]; exact hp, fun w m => ?_⟩, fun d m => ⟨(hs d m).1, (hs d m).2.1, pB_dvd m⟩, hp⟩
  have : w ≤ (KJ.wts x.2).sum := le_sum m
  rw [e5] at this
  exact Nat.lt_of_le_of_lt this bd
end KJ
set_option Elab.async false
set_option linter.all false
set_option maxRecDepth 100000
set_option maxHeartbeats 2000000
namespace KJ
open PySem L2 SX Tx
theorem RwV.lstU {C D : Addr} {H : Hp} {v : V} {o : Option RowD} {ys zs : List V} (h : RwV C H v o) (e : H D = some (.lst ys)) : RwV C (upd H D (.lst zs)) v o := by
  cases o with
  | none => exact h
  | some x =>
    obtain ⟨p, b, as, q0, q1, q2, q3, q4⟩ := h
    refine ⟨p, b, as, q0, by rw [upd_ne (fun z => by rw [z, e] at q1; cases q1)]; exact q1, by rw [upd_ne (fun z => by rw [z, e] at q2; cases q2)]; exact q2, q3, fun i a ha => ?_⟩
    obtain ⟨d, dx, g1, g2⟩ := q4 i a ha
    exact ⟨d, dx, g1, by rw [upd_ne (fun z => by rw [z, e] at g2; cases g2)]; exact g2⟩
theorem row_in {C : Addr} {H : Hp} {r : List Nat} {x : RowD} {b : Addr} {as : List Addr} (h : IsRow r x) (eb : H b = some (.tup (as.map V.ref))) (sh : ShsAt C H as x.2) : RowIn C H x.2.length (b, wts x.2) := by
  obtain ⟨tp, hs, p0⟩ := h.wts
  have e5 : (wts x.2).sum = pB x.2 := by obtain ⟨_, _, _, _, _, e5⟩ := h; exact e5
  refine ⟨as.map V.ref, eb, ⟨?_, fun i v hv => ?_⟩, tp⟩
  · rw [List.length_map, List.length_map, sh.1]
    show _ = (wts x.2).length
    unfold wts
    rw [List.length_map]
  · obtain ⟨a, ha, rfl⟩ := refs_at hv
    obtain ⟨d, dx, g1, g2⟩ := sh.2 i a ha
    obtain ⟨a1, a2, a3⟩ := hs d (List.mem_of_getElem? g1)
    obtain ⟨l1, l2⟩ := low_wt a3 p0 a1 a2
    refine ⟨((d.1 * (pB x.2 / d.2) : Nat) : Int), ?_, ?_⟩
    · show ((wts x.2).map fun k : Nat => (k : Int))[i]? = _
      unfold wts
      rw [List.getElem?_map, List.getElem?_map, g1]
      rfl
    · show Num C H (.ref a) _ (((wts x.2).sum : Nat) : Int)
      rw [e5]
      exact .inr ⟨a, dx, rfl, by rw [l1, l2]; exact g2⟩
/-- a chain of told rows -/
def ChG (C CC : Addr) (H : Hp) (x : Addr) (ds : List RowD) : Prop := IsCh C CC H x ds.length (ds.map fun x => wts x.2) (ds.map (·.1))
/-- read(thing) -/
def spReadG (K : PySem.W.Frag) (C CC B : Addr) : Sp := fun vs H Q E => ∃ v : V, vs = [v] ∧
  ((∃ w : List Nat, v = .str (S w) ∧ w.length ≤ 100000 ∧ (∀ n : Nat, IsDue w (.inl n) → ∀ (d : Addr) (H' : Hp), Same H H' → H' d = some (.xd [("line", .int (n : Int))]) → E (.ref B) (some d) H') ∧
      (∀ ds : List RowD, IsDue w (.inr ds) → ∀ (x : Addr) (H' : Hp), Same H H' → ChG C CC H' x ds → Q (.ref x) H')) ∨
    (NoTx K H v ∧ ∀ (d : Addr) (H' : Hp), Same H H' → H' d = some (.xd [("line", .int 0)]) → E (.ref B) (some d) H'))
section
variable {P : Program} {w : World} {K : PySem.W.Frag} {mg : Str → Option Value} {base : Heap} {C CC B : Addr}
abbrev s_read : Stmt := top 35
abbrev nRe : List Str := ["text", "rows", "found", "at", "told", "_", "spread", "row", "label"]
theorem sc_read : FnScope nRe ["text"] (defScope s_read) := ⟨rfl, rfl, rfl, by decide +kernel, rfl, by decide +kernel, by decide +kernel⟩
theorem ok_readG {f : Addr} {fd : FuncData} (F : Fun K "read" "read" s_read f fd) (T : Bm mg) (n_en : mg "enumerate" = none) (m : MkC P w K mg base C CC) (N : BtxT P w K mg base B) (c_rows : CalX P w K mg base 4 "text_rows" ["text"] (spTRows K B)) (c_row : Cal P w K mg base 12 "told_row" ["row"] (spToldRowG C)) : FnOk P w K mg base (L2.CX P w) 14 f fd ["text"] (spReadG K C CC B) := by
  obtain ⟨fS, fdS, iS, tS, FS, bS⟩ := id N.made
  obtain ⟨g, gd, mg1, kp, G, bG⟩ := c_rows.ex
  refine F.okX sc_read (fun vs H Q E h => ?_) (fun cdv A outer s H vs Q E hr h => ?_)
  · obtain ⟨v, rfl, _⟩ := h
    rfl
  · obtain ⟨v, rfl, h⟩ := h
    refine ⟨_, (pss_cons (ps_set (i := 1) sc_read.nd rfl (Or.inl rfl) (pe_callS G (hr.mono (by decide)) rfl mg1 kp bG (fun σ => passAt (W := fun cls d _ H => E cls d H) (takes_of rfl rfl rfl rfl) σ) (pa_cons (pv 0) pa_nil)))
      (pss_cons (ps_if (pt_not (pt_truth (pv 1) (by intro _; rfl)))
        (pss_one (ps_raise (W := fun cls d _ H => E cls d H) rfl (takes_of rfl rfl rfl rfl) (pmk_oex N.O iS tS FS (hr.mono (by decide)) bS .nil pass0 rfl N.gB (pa_cons pe_int pa_nil))))
        pss_nil)
      (pss_cons (ps_setLc (i := 2) (own := [("row", 7)]) rfl sc_read.nd rfl rfl (sw_true rfl rfl rfl (by decide +kernel)) (pi_list (pv 1)) (blkOk_by (N := nRe) (sc := defScope s_read) (by decide +kernel)) (fun _ _ _ _ _ => (pg_name (i := 7) sc_read.nd rfl (Or.inl rfl))) (fun _ _ _ _ _ => pts_nil) (fun _ _ _ _ _ => (pe_cal c_row (hr.mono (by decide)) rfl (pa_cons (pv 7) pa_nil))))
      (pss_cons (ps_for (passes_of rfl) rfl (pi_enum (by rfl) n_en (pa_cons (pv 2) pa_nil)) (pg_tup (by rfl) (pgs_cons (pg_name (i := 3) sc_read.nd rfl (Or.inl rfl)) (pgs_cons (pg_name (i := 4) sc_read.nd rfl (Or.inl rfl)) pgs_nil)))
        (pss_one (ps_if (pt_cmpR op_isN (pv 4) pe_non (nomark _))
          (pss_one (ps_raise (W := fun cls d _ H => E cls d H) rfl (takes_of rfl rfl rfl rfl) (pmk_oex N.O iS tS FS (hr.mono (by decide)) bS .nil pass0 rfl N.gB (pa_cons (pe_op op_add (pv 3) pe_int) pa_nil))))
          pss_nil)))
      (pss_cons (ps_for (passes_of rfl) rfl (pi_enum (by rfl) n_en (pa_cons (pv 2) pa_nil)) (pg_tup (by rfl) (pgs_cons (pg_name (i := 3) sc_read.nd rfl (Or.inl rfl)) (pgs_cons (pg_tup (by rfl) (pgs_cons (pg_name (i := 5) sc_read.nd rfl (Or.inl rfl)) (pgs_cons (pg_name (i := 6) sc_read.nd rfl (Or.inl rfl)) pgs_nil))) pgs_nil)))
        (pss_one (ps_if (pt_cmpR op_ne (pe_callB call_len_seq (by rfl) T.b.n_len PySem.boot_len (pa_cons (pv 6) pa_nil)) (pe_callB call_len_seq (by rfl) T.b.n_len PySem.boot_len (pa_cons (pv 1) pa_nil)) (nomark _))
          (pss_one (ps_raise (W := fun cls d _ H => E cls d H) rfl (takes_of rfl rfl rfl rfl) (pmk_oex N.O iS tS FS (hr.mono (by decide)) bS .nil pass0 rfl N.gB (pa_cons (pe_op op_add (pv 3) pe_int) pa_nil))))
          pss_nil)))
      (pss_one (ps_ret (pe_chn m hr rfl (pa_cons (pe_callTy call_tuple_of (by rfl) T.n_tuple (by decide +kernel) (pa_cons (pe_lc (own := [("_", 5), ("spread", 6)]) (g := gTup K 2 (gCons (gName 5) (gCons (gName 6) gNil))) rfl sc_read.nd (pi_list (pv 2)) (blkOk_by (N := nRe) (sc := defScope s_read) (by decide +kernel)) (fun _ _ _ _ _ => (pg_tup (by rfl) (pgs_cons (pg_name (i := 5) sc_read.nd rfl (Or.inl rfl)) (pgs_cons (pg_name (i := 6) sc_read.nd rfl (Or.inl rfl)) pgs_nil)))) (fun _ _ _ _ _ => pts_nil) (fun _ _ _ _ _ => (pv 6))) pa_nil)) (pa_cons (pe_callTy call_tuple_of (by rfl) T.n_tuple (by decide +kernel) (pa_cons (pe_lc (own := [("label", 8), ("_", 5)]) (g := gTup K 2 (gCons (gName 8) (gCons (gName 5) gNil))) rfl sc_read.nd (pi_list (pv 2)) (blkOk_by (N := nRe) (sc := defScope s_read) (by decide +kernel)) (fun _ _ _ _ _ => (pg_tup (by rfl) (pgs_cons (pg_name (i := 8) sc_read.nd rfl (Or.inl rfl)) (pgs_cons (pg_name (i := 5) sc_read.nd rfl (Or.inl rfl)) pgs_nil)))) (fun _ _ _ _ _ => pts_nil) (fun _ _ _ _ _ => (pv 8))) pa_nil)) pa_nil)))))))))), ?_⟩
    rcases h with ⟨wd, rfl, hw, kb, kt⟩ | ⟨nt, k⟩
    rotate_left
    · exact ⟨_, rfl, v, rfl, .inr ⟨nt, k⟩⟩
    refine ⟨_, rfl, _, rfl, .inl ⟨wd, rfl, hw, fun u z e => ⟨fun hz d H' s' ed => kb _ (.last e hz) d H' s' ed, fun hz l H1 s1 el => ?_⟩⟩⟩
    subst hz
    have cnt := sp_count 10 wd
    rw [e, List.length_append] at cnt
    have cnt : u.length + 1 ≤ wd.length + 1 := cnt
    have lens : ∀ q ∈ u, q.length ≤ 100000 := fun q m => Nat.le_trans (sp_len 10 wd q (by rw [e]; exact List.mem_append_left _ m)) hw
    have szl : ∀ n : Nat, n ≤ 100000 → n < sizeLine := fun n h => Nat.lt_of_le_of_lt h (by decide)
    by_cases hu : u = []
    · subst hu
      refine ⟨_, rfl, false, .inl ⟨[], SqL.of el, rfl⟩, iteT ?_⟩
      exact bt_raise (p := .int 1) N (fun d H2 s2 ed => kb 1 (.none e) d H2 (s1.trans s2) ed) fun Q q => q
    refine ⟨_, rfl, true, .inl ⟨_, SqL.of el, ?_⟩, iteF ?_⟩
    · cases u with
      | nil => exact absurd rfl hu
      | cons a u => rfl
    refine ⟨_, rfl, l, rfl, ⟨_, SqL.of el⟩, fun D nD => ?_⟩
    refine lc_list (K := K) (a := l) (xs := sL u) (fun i H' => Same H1 H' ∧ ∃ fs : List V, H' D = some (.lst fs) ∧ fs.length = i ∧ ∀ (j : Nat) (v : V) (r : List Nat), fs[j]? = some v → u[j]? = some r → RwV C H' v (rowOf r)) ⟨Same.put nD, [], upd_same, rfl, fun j v r h => by simp at h⟩ (fun i H' _ h => SqL.of (h.1 _ _ el)) ?_ ?_
    · rintro i y H' hy ⟨s2, fs, eD, lf, ff⟩
      obtain ⟨p, hp, mp, rfl⟩ := sL_at hy
      have il := (List.getElem?_eq_some_iff.mp hp).1
      refine ⟨rfl, yes_of ?_⟩
      refine ⟨_, rfl, p, rfl, lens p mp, fun v H5 s5 hv => ?_⟩
      have eD5 := s5 _ _ eD
      refine ⟨fs, eD5, szl _ (by omega), Same.but (fun b u e => s5 _ _ (s2 _ _ e)) nD, fs ++ [v], upd_same, by rw [List.length_append, lf]; rfl, fun j v' q' hv' hq' => ?_⟩
      rcases Nat.lt_or_ge j fs.length with h | h
      · rw [List.getElem?_append_left h] at hv'
        exact ((ff j v' q' hv' hq').same s5).lstU eD5
      · have hj := (List.getElem?_eq_some_iff.mp hv').1
        rw [List.length_append] at hj
        have hj : j < fs.length + 1 := hj
        have ej : j = i := by omega
        subst ej
        rw [← lf, List.getElem?_concat_length] at hv'
        cases hv'
        rw [hp] at hq'
        cases hq'
        exact hv.lstU eD5
    · rintro H2 ⟨s2, fs, eD, lf, ff⟩
      rw [sL_len] at lf
      have s02 := s1.trans s2
      have gu : ∀ i, i < fs.length → ∃ r, u[i]? = some r := fun i hi => ⟨_, List.getElem?_eq_getElem (by omega)⟩
      refine ⟨_, rfl, D, fs, rfl, SqL.of eD, ?_⟩
      refine for_it (walk_enum (K := K) (a := D) (xs := fs)) (fun i σ H' => ∃ v3 v4 : Option V, σ = [some (.str (S wd)), some (.ref l), some (.ref D), v3, v4, none, none, none, none] ∧ Same H2 H' ∧ ∀ j r, j < i → u[j]? = some r → rowOf r ≠ .none) ⟨none, none, rfl, Same.refl H2, fun j r h => absurd h (by omega)⟩ ?_ ?_ ?_
      · rintro i σ H' _ ⟨_, _, _, s3, _⟩
        exact SqL.of (s3 _ _ eD)
      · rintro i y0 σ H' H3 hi ⟨v3, v4, rfl, s3, ok⟩ ⟨T0, u2, y, rfl, nT, rfl, hu2, hy⟩
        cases (Option.some.inj hu2)
        obtain ⟨r, hr'⟩ := gu i hi
        have g4 := ff i y r hy hr'
        refine ⟨T0, [.int (i : Int), y], rfl, SqT.of upd_same, rfl, _, _, rfl, _, _, rfl, rfl, ?_⟩
        have s4 := Same.put (o := .tup [.int (i : Int), y]) nT
        have s24 := s3.trans s4
        have s04 := s02.trans s24
        generalize (upd H' T0 (.tup [.int (i : Int), y])) = H4 at s04 s24 ⊢
        cases c : rowOf r with
        | some x =>
          rw [c] at g4
          obtain ⟨t, b, as, rfl, _⟩ := g4
          refine ⟨_, rfl, rfl, _, rfl, iteFe (decide_eq_false fun z => by cases z) ?_⟩
          refine ⟨_, _, rfl, s24, fun j r' hj hw => ?_⟩
          by_cases cj : j = i
          · subst cj
            rw [hr'] at hw
            cases hw
            rw [c]
            exact fun z => by cases z
          · exact ok j r' (by omega) hw
        | none =>
          rw [c] at g4
          have g4 : y = .non := g4
          subst g4
          refine ⟨_, rfl, rfl, _, rfl, iteTe (decide_eq_true rfl) ?_⟩
          exact bt_raise (p := .int ((i + 1 : Nat) : Int)) N (fun d H5 s5 e5 => kb (i + 1) (.row e ⟨r, hr', c⟩ ok) d H5 (s04.trans s5) e5) fun Q q => ⟨_, rfl, _, _, rfl, rfl, q⟩
      · rintro σ H3 ⟨v3, v4, rfl, s3, ok⟩
        obtain ⟨ds, hd⟩ : ∃ ds : List RowD, u.map rowOf = ds.map some := by
          refine ⟨(u.map rowOf).map fun o => o.getD ("", []), ?_⟩
          rw [List.map_map]
          refine (List.map_id _).symm.trans (List.map_congr_left fun o mo => ?_)
          obtain ⟨r, mr, rfl⟩ := List.mem_map.mp mo
          obtain ⟨j, hj⟩ := List.mem_iff_getElem?.mp mr
          have := ok j r (by have := (List.getElem?_eq_some_iff.mp hj).1; omega) hj
          cases q : rowOf r with
          | none => exact absurd q this
          | some x => rfl
        have ld := rows_len hd
        have fo : ∀ j, j < fs.length → ∃ r t b as x, fs[j]? = some (.ref t) ∧ ds[j]? = some x ∧ IsRow r x ∧ H2 t = some (.tup [.str x.1, .ref b]) ∧ H2 b = some (.tup (as.map V.ref)) ∧ ShsAt C H2 as x.2 := fun j hj => by
          obtain ⟨r, hr'⟩ := gu j hj
          have gf : fs[j]? = some fs[j] := List.getElem?_eq_getElem hj
          obtain ⟨x, q1, q2⟩ := rows_at hd hr'
          have g4 := ff j _ r gf hr'
          rw [q2] at g4
          obtain ⟨t, b, as, h0, h1, h2, h3⟩ := g4
          rw [h0] at gf
          exact ⟨r, t, b, as, x, gf, q1, rowOf_some.mp q2, h1, h2, h3⟩
        refine ⟨_, rfl, D, fs, rfl, SqL.of (s3 _ _ eD), ?_⟩
        refine for_it (walk_enum (K := K) (a := D) (xs := fs)) (fun i σ H' => ∃ v3 v4 v5 v6 : Option V, σ = [some (.str (S wd)), some (.ref l), some (.ref D), v3, v4, v5, v6, none, none] ∧ Same H2 H' ∧ ∀ j x, j < i → ds[j]? = some x → x.2.length = ds.length) ⟨v3, v4, none, none, rfl, s3, fun j x h => absurd h (by omega)⟩ ?_ ?_ ?_
        · rintro i σ H' _ ⟨_, _, _, _, _, s4, _⟩
          exact SqL.of (s4 _ _ eD)
        · rintro i y0 σ H' H4 hi ⟨w3, w4, w5, w6, rfl, s4, ok2⟩ ⟨T0, u2, y, rfl, nT, rfl, hu2, hy⟩
          cases (Option.some.inj hu2)
          obtain ⟨r, t, b, as, x, g1, g2, ir, h1, h2, h3⟩ := fo i hi
          have ey : y = .ref t := Option.some.inj (hy.symm.trans g1)
          subst ey
          have s5 := Same.put (o := .tup [.int (i : Int), .ref t]) nT
          have s25 := s4.trans s5
          refine ⟨T0, [.int (i : Int), .ref t], rfl, SqT.of upd_same, rfl, _, _, rfl, _, _, rfl, t, [.str x.1, .ref b], rfl, SqT.of (s25 _ _ h1), rfl, _, _, rfl, _, _, rfl, rfl, rfl, ?_⟩
          generalize (upd H' T0 (.tup [.int (i : Int), .ref t])) = H5 at s25 ⊢
          refine ⟨_, rfl, b, _, rfl, .inr (SqT.of (s25 _ _ h2)), _, rfl, l, _, rfl, .inl (SqL.of (s25 _ _ (s2 _ _ el))), rfl, _, rfl, ?_⟩
          rw [List.length_map, sL_len, h3.1]
          by_cases hx : x.2.length = ds.length
          · refine iteFe (by rw [hx, ld, decide_eq_true rfl]; rfl) ⟨_, _, _, _, rfl, s25, fun j x' hj e' => ?_⟩
            by_cases cj : j = i
            · subst cj
              rw [g2] at e'
              cases e'
              exact hx
            · exact ok2 j x' (by omega) e'
          · refine iteTe (by rw [decide_eq_false (fun e => hx (by rw [V.int.injEq] at e; omega))]; rfl) ?_
            exact bt_raise (p := .int ((i + 1 : Nat) : Int)) N (fun d H6 s6 e6 => kb (i + 1) (.len e hd ⟨x, g2, hx⟩ ok2) d H6 ((s02.trans s25).trans s6) e6) fun Q q => ⟨_, rfl, _, _, rfl, rfl, q⟩
        · rintro σ H4 ⟨w3, w4, w5, w6, rfl, s4, ok2⟩
          have due : IsDue wd (.inr ds) := .told e hu hd fun x m => by
            obtain ⟨j, hj⟩ := List.mem_iff_getElem?.mp m
            exact ok2 j x (by have := (List.getElem?_eq_some_iff.mp hj).1; omega) hj
          obtain ⟨n1, n8, rws⟩ := due.rows
          have k := kt ds due
          have lfd : fs.length = ds.length := by omega
          have s04 := s02.trans s4
          refine ⟨_, rfl, D, rfl, ⟨_, SqL.of (s4 _ _ eD)⟩, fun D2 nD2 => ?_⟩
          refine lc_list (K := K) (a := D) (xs := fs) (fun i H' => Same H4 H' ∧ ∃ rs : List (Addr × List Nat), H' D2 = some (.lst (rfs rs)) ∧ rs.length = i ∧ (∀ r ∈ rs, RowIn C H4 ds.length r) ∧ rs.map (·.2) = (ds.take i).map fun x => wts x.2) ⟨Same.put nD2, [], upd_same, rfl, fun _ m => (by cases m), rfl⟩ (fun i H' _ h => SqL.of (h.1 _ _ (s4 _ _ eD))) ?_ ?_
          · rintro i y H' hy ⟨s5, rs, eD2, lrs, ir, qr⟩
            have il := (List.getElem?_eq_some_iff.mp hy).1
            obtain ⟨r, t, b, as, x, g1, g2, irx, h1, h2, h3⟩ := fo i il
            rw [g1] at hy
            cases hy
            have e1 := s5 _ _ (s4 _ _ h1)
            refine ⟨t, [.str x.1, .ref b], rfl, SqT.of e1, rfl, _, _, rfl, _, _, rfl, rfl, rfl, yes_of ?_⟩
            refine ⟨_, rfl, _, eD2, by rw [rfs_len]; exact small_len (by omega), Same.but s5 nD2, rs ++ [(b, wts x.2)], by rw [upd_same, rfs_snoc], by rw [List.length_append, lrs]; rfl, fun r' m => ?_, ?_⟩
            · rcases List.mem_append.mp m with m | m
              · exact ir r' m
              · rw [List.mem_singleton.mp m]
                have := row_in irx (s4 _ _ h2) (h3.same s4)
                rwa [(rws x (List.mem_of_getElem? g2)).2] at this
            · rw [List.map_append, qr, take_more g2, List.map_append]
              rfl
          rintro H5 ⟨s5, rs, eD2, lrs, ir, qr⟩
          rw [lfd] at lrs qr
          rw [List.take_length] at qr
          refine ⟨D2, _, rfl, .inl ⟨SqL.of eD2, fun T1 nT1 => ?_⟩⟩
          have s6 := Same.put (o := .tup (rfs rs)) nT1
          have eT1 : (upd H5 T1 (.tup (rfs rs))) T1 = some (.tup (rfs rs)) := upd_same
          generalize (upd H5 T1 (.tup (rfs rs))) = H6 at s6 eT1 ⊢
          have s46 := s5.trans s6
          refine ⟨_, rfl, D, rfl, ⟨_, SqL.of (s46 _ _ (s4 _ _ eD))⟩, fun D3 nD3 => ?_⟩
          refine lc_list (K := K) (a := D) (xs := fs) (fun i H' => Same H6 H' ∧ H' D3 = some (.lst (sV ((ds.take i).map (·.1))))) ⟨Same.put nD3, upd_same⟩ (fun i H' _ h => SqL.of (h.1 _ _ (s46 _ _ (s4 _ _ eD)))) ?_ ?_
          · rintro i y H' hy ⟨s7, eD3⟩
            have il := (List.getElem?_eq_some_iff.mp hy).1
            obtain ⟨r, t, b, as, x, g1, g2, irx, h1, h2, h3⟩ := fo i il
            rw [g1] at hy
            cases hy
            have e1 := s7 _ _ (s46 _ _ (s4 _ _ h1))
            refine ⟨t, [.str x.1, .ref b], rfl, SqT.of e1, rfl, _, _, rfl, _, _, rfl, rfl, rfl, yes_of ?_⟩
            refine ⟨_, rfl, _, eD3, by rw [sV_len, List.length_map, List.length_take]; exact small_len (by omega), Same.but s7 nD3, ?_⟩
            rw [upd_same, sV_snoc, take_more g2, List.map_append]
            rfl
          rintro H7 ⟨s7, eD3⟩
          rw [lfd, List.take_length] at eD3
          refine ⟨D3, _, rfl, .inl ⟨SqL.of eD3, fun T2 nT2 => ?_⟩⟩
          have s8 := Same.put (o := .tup (sV (ds.map (·.1)))) nT2
          have s48 := (s46.trans s7).trans s8
          have hl : Lbs ds.length (ds.map (·.1)) := ⟨List.length_map _, fun x m => by
            obtain ⟨y, my, rfl⟩ := List.mem_map.mp m
            obtain ⟨⟨r, ps, hn, _⟩, _⟩ := rws y my
            exact hn⟩
          intro x dx hx hd' ne
          refine chn_go hx hd' ne n1 n8 (s8 _ _ (s7 _ _ eT1)) lrs (fun r m => (ir r m).same s48) upd_same hl fun H' s' ic => ⟨rfl, ?_⟩
          rw [qr] at ic
          exact k x H' ((s04.trans s48).trans s') ic
end
end KJ
set_option Elab.async false
set_option linter.all false
set_option maxRecDepth 100000
set_option maxHeartbeats 1000000
namespace KJ
open PySem L2 SX Tx
def digB (w : List Nat) : Bool := decide (1 ≤ w.length ∧ w.length ≤ 100) && w.all isDg
/-- _law_are_digits(word) -/
def spAreDigits : Sp := fun vs H Q _ => ∃ w : List Nat, vs = [.str (S w)] ∧ w.length ≤ 200000 ∧ ∀ H', Same H H' → Q (.bl (digB w)) H'
/-- Euclid's steps come to an end -/
theorem gcd_step {a b : Nat} : Nat.gcd b (a % b) = Nat.gcd a b := by
  rw [Nat.gcd_comm a b, Nat.gcd_rec b a, Nat.gcd_comm]
theorem half_step {a b : Nat} (hb : 0 < b) (hab : b ≤ a) : 2 * (b * (a % b)) ≤ a * b := by
  have h1 : a % b < b := Nat.mod_lt _ hb
  have h2 : b + a % b ≤ a := by
    have h3 := Nat.div_add_mod a b
    have h4 : 1 ≤ a / b := Nat.div_pos hab hb
    have h5 : b * 1 ≤ b * (a / b) := Nat.mul_le_mul_left _ h4
    omega
  have h6 : 2 * (a % b) ≤ a := by omega
  have := Nat.mul_le_mul_left b h6
  rw [Nat.mul_comm a b]
  have e : 2 * (b * (a % b)) = b * (2 * (a % b)) := by rw [← Nat.mul_assoc, Nat.mul_comm 2 b, Nat.mul_assoc]
  omega
/-- _law_divisor(one, other) -/
def spDivisor : Sp := fun vs H Q _ => ∃ t n : Nat, vs = [.int (t : Int), .int (n : Int)] ∧ t < 10 ^ 100 ∧ n < 10 ^ 100 ∧ 0 < n ∧ Q (.int ((Nat.gcd t n : Nat) : Int)) H
section
variable {P : Program} {w : World} {K : PySem.W.Frag} {mg : Str → Option Value} {base : Heap} {C CC B : Addr}
abbrev s_ared : Stmt := top 55
abbrev nAd : List Str := ["_law_word_here", "_law_sign"]
theorem sc_ared : FnScope nAd ["_law_word_here"] (defScope s_ared) := ⟨rfl, rfl, rfl, by decide +kernel, rfl, by decide +kernel, by decide +kernel⟩
theorem ok_ared {f : Addr} {fd : FuncData} (F : Fun K "_law_are_digits" "_law_are_digits" s_ared f fd) (T : Bm mg) : FnOk P w K mg base CX0 1 f fd ["_law_word_here"] spAreDigits := by
  refine F.ok sc_ared (fun vs H Q E h => ?_) (fun cdv A outer s H vs Q E hr h => ?_)
  · obtain ⟨m, rfl, _⟩ := h
    rfl
  · obtain ⟨m, rfl, hm, k⟩ := h
    refine ⟨_, (pss_one (ps_ret (pe_and (pe_chain op_le op_le pe_int (pe_callB call_len_str (by rfl) T.b.n_len PySem.boot_len (pa_cons (pv 0) pa_nil)) pe_int) (pe_one (pe_callB (cr_all rfl) (by rfl) T.n_all PyProof.Rows.boot_all (pa_cons (pe_lc (own := [("_law_sign", 1)]) rfl sc_ared.nd (pi_str (pv 0)) (blkOk_by (N := nAd) (sc := defScope s_ared) (by decide +kernel)) (fun _ _ _ _ _ => (pg_name (i := 1) sc_ared.nd rfl (Or.inl rfl))) (fun _ _ _ _ _ => pts_nil) (fun _ _ _ _ _ => (pe_cmpR op_in_sign (pv 1) pe_str (by rfl)))) pa_nil)))))), ?_⟩
    have hl : (S m).length = m.length := S_len _
    have h14 : (S m).length ≤ sizeLine := by rw [hl]; exact Nat.le_trans hm (by decide)
    unfold digB at k
    refine ⟨_, rfl, _, rfl, h14, 1, _, rfl, rfl, _, rfl, ?_⟩
    by_cases h1 : 1 ≤ m.length
    rotate_left
    · refine iteFe (decide_eq_false (by rw [hl]; omega)) ⟨_, rfl, iteF ?_⟩
      rw [decide_eq_false (fun h => h1 h.1), Bool.false_and] at k
      exact k H (Same.refl H)
    refine iteTe (decide_eq_true (by rw [hl]; omega)) ?_
    refine ⟨_, 100, rfl, rfl, _, rfl, ?_⟩
    have lenI : decide (((S m).length : Int) ≤ 100) = decide (1 ≤ m.length ∧ m.length ≤ 100) := by rw [hl, decide_eq_decide]; omega
    rw [lenI]
    cases c : decide (1 ≤ m.length ∧ m.length ≤ 100) with
    | false =>
      have := k H (Same.refl H)
      rw [c] at this
      exact iteF this
    | true =>
      rw [c, Bool.true_and] at k
      have c := of_decide_eq_true c
      refine iteT ?_
      refine ⟨_, rfl, S m, rfl, fun D nD => ?_⟩
      let Pv : Nat → Hp → Prop := fun i H' => Same H H' ∧ H' D = some (.lst (((m.take i).map isDg).map V.bl))
      have hs : (S m).cps.size = m.length := by simp
      refine ⟨fun i j H' => j + i = (S m).cps.size ∧ Pv i H', ⟨(S m).cps.size, rfl, Same.put nD, upd_same⟩, fun i j H1 ⟨em, p⟩ => ?_⟩
      cases j with
      | zero =>
        refine .inl ⟨show (S m).cps.size ≤ i by omega, D, _, rfl, SqL.of p.2, ?_⟩
        have e : ((m.take i).map isDg).all id = m.all isDg := by
          rw [List.take_of_length_le (by omega), List.all_map]
          rfl
        rw [e]
        exact k H1 p.1
      | succ j =>
        refine .inr ⟨show i < (S m).cps.size by omega, Pv (i + 1), fun H' p' => ⟨j, Nat.lt_succ_self j, by omega, p'⟩, fun v H' y => ?_⟩
        obtain ⟨e, c', hc, rfl⟩ := y
        subst e
        have hc' : m[i]? = some c' := by rw [← hc]; simp
        refine ⟨rfl, yes_of ?_⟩
        refine ⟨_, rfl, c', Str.ofString "0123456789", rfl, rfl, ?_⟩
        rw [show decide (c' ∈ (Str.ofString "0123456789").cps.toList) = isDg c' from d09_iff c']
        refine ⟨_, p.2, by rw [List.length_map, List.length_map, List.length_take]; exact small_len (by omega), Same.but (fun b u e => p.1 _ _ e) nD, ?_⟩
        rw [upd_same, take_more hc', List.map_append, List.map_append]
        rfl
abbrev s_div : Stmt := top 56
abbrev nDv : List Str := ["_law_one", "_law_other", "_law_k"]
theorem sc_div : FnScope nDv ["_law_one", "_law_other"] (defScope s_div) := ⟨rfl, rfl, rfl, by decide +kernel, rfl, by decide +kernel, by decide +kernel⟩
theorem ok_div {f : Addr} {fd : FuncData} (F : Fun K "_law_divisor" "_law_divisor" s_div f fd) (T : Bm mg) : FnOk P w K mg base CX0 1 f fd ["_law_one", "_law_other"] spDivisor := by
  refine F.ok sc_div (fun vs H Q E h => ?_) (fun cdv A outer s H vs Q E hr h => ?_)
  · obtain ⟨t, n, rfl, _⟩ := h
    rfl
  · obtain ⟨t, n, rfl, ht, hn, n0, k⟩ := h
    refine ⟨_, (pss_cons (ps_for PassesOwn.never rfl (pi_range1 (by rfl) T.n_range (pa_cons pe_int pa_nil)) (pg_name (i := 2) sc_div.nd rfl (Or.inl rfl))
        (pss_cons (ps_if (pt_cmpR op_eq (pv 1) pe_int (nomark _))
            (pss_one ps_break)
            pss_nil)
          (pss_one (ps_par (i := 0) (j := 1) (by rfl) sc_div.nd rfl rfl (by decide) rfl rfl (pa_cons (pv 1) (pa_cons (pe_op op_modN (pe_callTy call_int1 (by rfl) T.b.n_int (by decide +kernel) (pa_cons (pv 0) pa_nil)) (pv 1)) pa_nil)) (by rfl)))))
      (pss_one (ps_ret (pv 0)))), ?_⟩
    refine ⟨1000, rfl, by decide, by decide, ?_⟩
    have b0 : t * n < 2 ^ 666 := Nat.lt_of_lt_of_le (Nat.mul_lt_mul'' ht hn) (by decide +kernel)
    have p2 : ∀ i : Nat, i ≤ 667 → (2 : Nat) ^ (667 - i) * 2 ^ i = 2 ^ 667 := fun i hi => by rw [← Nat.pow_add, Nat.sub_add_cancel hi]
    refine for_range (n := 1000) (fun i σ H' => ∃ (v2 : Option V) (a b : Nat), σ = [some (.int (a : Int)), some (.int (b : Int)), v2] ∧ H' = H ∧ Nat.gcd a b = Nat.gcd t n ∧ 0 < a + b ∧ ((i = 0 ∧ a = t ∧ b = n) ∨ (1 ≤ i ∧ b < a ∧ i ≤ 668 ∧ a * b * 2 ^ i < 2 ^ 667))) ⟨none, t, n, rfl, rfl, rfl, by omega, .inl ⟨rfl, rfl, rfl⟩⟩ ?_ ?_
    · rintro i σ H' hi ⟨v2, a, b, rfl, rfl, hg, hab, h⟩
      refine ⟨_, rfl, rfl, _, rfl, iteB (fun z => ?_) (fun z => ?_)⟩
      · have z : b = 0 := by have := of_decide_eq_true z; rw [V.int.injEq] at this; omega
        subst z
        refine ⟨_, rfl, ?_⟩
        rw [Nat.gcd_zero_right] at hg
        rw [hg]
        exact k
      · have z : 0 < b := by have := of_decide_eq_false z; rw [V.int.injEq] at this; omega
        have em : ((a : Int)).fmod (b : Int) = ((a % b : Nat) : Int) := fmod_nat a b
        refine ⟨_, rfl, _, rfl, .inl ⟨_, rfl, _, rfl, _, _, rfl, rfl, by omega, ?_⟩⟩
        have nx : (1 ≤ i + 1 ∧ a % b < b ∧ i + 1 ≤ 668 ∧ b * (a % b) * 2 ^ (i + 1) < 2 ^ 667) := by
          have hlt := Nat.mod_lt a z
          rcases h with ⟨rfl, rfl, rfl⟩ | ⟨h1, h2, h3, h4⟩
          · refine ⟨by decide, hlt, by decide, ?_⟩
            have h5 : b * (a % b) ≤ b * a := Nat.mul_le_mul_left _ (Nat.mod_le _ _)
            have h6 : b * (a % b) < 2 ^ 666 := Nat.lt_of_le_of_lt h5 (by rw [Nat.mul_comm]; exact b0)
            rw [show (2 : Nat) ^ 667 = 2 ^ 666 * 2 ^ (0 + 1) by decide +kernel]
            exact Nat.mul_lt_mul_of_pos_right h6 (by decide)
          · have h5 := half_step z (Nat.le_of_lt h2)
            refine ⟨by omega, hlt, ?_, ?_⟩
            · rcases Nat.lt_or_ge i 668 with h | h
              · omega
              · have : i = 668 := by omega
                subst this
                have p0 : 1 ≤ a * b := Nat.mul_pos (by omega) z
                have : 1 * 2 ^ 668 ≤ a * b * 2 ^ 668 := Nat.mul_le_mul_right _ p0
                have q : (2 : Nat) ^ 667 < 1 * 2 ^ 668 := by decide +kernel
                omega
            · rw [Nat.pow_succ]
              have e : b * (a % b) * (2 ^ i * 2) = 2 * (b * (a % b)) * 2 ^ i := by
                rw [Nat.mul_comm (2 ^ i) 2, ← Nat.mul_assoc, Nat.mul_comm (b * (a % b)) 2]
              rw [e]
              exact Nat.lt_of_le_of_lt (Nat.mul_le_mul_right _ h5) h4
        refine ⟨_, _, rfl, some (V.int (0 + (i : Int))), b, a % b, ?_, rfl, by rw [gcd_step]; exact hg, by omega, .inr nx⟩
        show [some (V.int (b : Int)), some (V.int (((a : Int)).fmod (b : Int))), some (V.int (0 + (i : Int)))] = _
        rw [em]
    · rintro σ H' ⟨v2, a, b, rfl, rfl, hg, hab, h⟩
      rcases h with ⟨h, _⟩ | ⟨_, _, h, _⟩
      · omega
      · omega
end
end KJ
set_option Elab.async false
set_option linter.all false
set_option maxRecDepth 100000
set_option maxHeartbeats 2000000
namespace KJ
open PySem L2 SX Tx
/-! ### the law's own look at a word -/
theorem un64 {k : Nat} {A : Around} (r : Room k A) : A.units + 64 < cLine := by
  have := r.un
  omega
theorem dp_strs {K : PySem.W.Frag} {H : Hp} : ∀ ls : List Str, DpAll K H (sV ls) (ls.map PyData.str)
  | [] => .nil
  | x :: ls => .cons (.str x) (dp_strs ls)
def LayS (x : Str) : Prop := ∀ c ∈ x.cps.toList, c < 0x110000
theorem layS {x : Str} (h : LayS x) : PyData.canLay0 (.str x) = true := by
  show x.cps.all (· < 0x110000) = true
  rw [← Array.all_toList, List.all_eq_true]
  exact fun c m => decide_eq_true (h c m)
theorem lay_strs : ∀ ls : List Str, (∀ x ∈ ls, LayS x) → PyData.canLayAll0 (ls.map PyData.str) = true ∧ PyData.depthAll (ls.map PyData.str) = 0
  | [], _ => ⟨rfl, rfl⟩
  | a :: ls, h => by
    obtain ⟨h1, h2⟩ := lay_strs ls fun x m => h x (List.mem_cons_of_mem _ m)
    refine ⟨?_, ?_⟩
    · show ((PyData.str a).canLay0 && PyData.canLayAll0 (ls.map PyData.str)) = true
      rw [h1, layS (h a List.mem_cons_self)]
      rfl
    · show max (PyData.depth (.str a)) (PyData.depthAll (ls.map PyData.str)) = 0
      rw [h2]
      rfl
theorem shaped_strsL {ls : List Str} (h : ∀ x ∈ ls, LayS x) : SeqAt.shaped (.list (ls.map PyData.str)) = true := by
  obtain ⟨h1, h2⟩ := lay_strs ls h
  unfold SeqAt.shaped
  rw [Bool.and_eq_true, decide_eq_true_eq]
  refine ⟨h1, ?_⟩
  show PyData.depthAll (ls.map PyData.str) + 1 ≤ 64
  omega
theorem eqvAll_strs : ∀ ns ms : List Str, PyData.eqvAll (ns.map PyData.str) (ms.map PyData.str) = decide (ns = ms)
  | [], [] => rfl
  | [], _ :: _ => rfl
  | _ :: _, [] => rfl
  | a :: ns, b :: ms => by
    show (PyData.eqv (.str a) (.str b) && PyData.eqvAll (ns.map PyData.str) (ms.map PyData.str)) = _
    rw [eqvAll_strs ns ms, Bool.eq_iff_iff, Bool.and_eq_true, decide_eq_true_eq, decide_eq_true_eq, List.cons.injEq]
    have e : PyData.eqv (.str a) (.str b) = (a == b) := by simp [PyData.eqv]
    rw [e, beq_iff_eq]
theorem eqv_strsL (ls ls' : List Str) : PyData.eqv (.list (ls.map PyData.str)) (.list (ls'.map PyData.str)) = decide (ls = ls') := by
  rw [PyData.eqv]
  exact eqvAll_strs ls ls'
/-- figures -/
def Figs (w : List Nat) : Prop := 1 ≤ w.length ∧ w.length ≤ 100 ∧ ∀ c ∈ w, 48 ≤ c ∧ c ≤ 57
theorem digB_iff {w : List Nat} : digB w = true ↔ Figs w := by
  unfold digB Figs
  rw [Bool.and_eq_true, decide_eq_true_eq, List.all_eq_true]
  constructor
  · rintro ⟨⟨h1, h2⟩, h3⟩
    exact ⟨h1, h2, fun c m => of_decide_eq_true (h3 c m)⟩
  · rintro ⟨h1, h2, h3⟩
    exact ⟨⟨h1, h2⟩, fun c m => decide_eq_true (h3 c m)⟩
abbrev vl (w : List Nat) : Nat := NumText.digitsVal w
theorem vl_snoc (u : List Nat) (c : Nat) : vl (u ++ [c]) = vl u * 10 + (c - 48) := by
  unfold vl NumText.digitsVal
  rw [List.foldl_append]
  rfl
theorem vl_lt : ∀ (w : List Nat), (∀ c ∈ w, 48 ≤ c ∧ c ≤ 57) → vl w < 10 ^ w.length := by
  intro w
  induction hn : w.length using Nat.strongRecOn generalizing w with
  | ind n ih =>
    intro h
    rcases List.eq_nil_or_concat w with rfl | ⟨u, c, rfl⟩
    · rw [← hn]
      decide
    · rw [List.concat_eq_append] at *
      have := ih u.length (by rw [← hn, List.length_append]; simp) u rfl fun c m => h c (List.mem_append_left _ m)
      have hc := h c (by simp)
      rw [vl_snoc, ← hn, List.length_append]
      show _ < 10 ^ (u.length + 1)
      rw [Nat.pow_succ]
      omega
theorem int_fig {w : List Nat} (h : Figs w) : PySem.intText? (S w) = some ((vl w : Nat) : Int) :=
  int_S (List.all_eq_true.mpr fun c m => by have := h.2.2 c m; rw [Bool.and_eq_true, decide_eq_true_eq, decide_eq_true_eq]; exact this) (fun e => by have := h.1; rw [e] at this; simp at this) (by have := h.2.1; omega)
theorem vl_small {w : List Nat} (h : Figs w) : vl w < 10 ^ 100 := Nat.lt_of_lt_of_le (vl_lt w h.2.2) (Nat.pow_le_pow_right (by decide) h.2.1)
theorem vl_dg {m : Nat} (h : (dg m).length ≤ 100) : vl (dg m) = m := by
  have e := int_dg (n := m) (by omega)
  have f := int_fig (w := dg m) ⟨Nat.pos_of_ne_zero fun e => dg_ne m (List.length_eq_zero_iff.mp e), h, dg_digit m⟩
  rw [e] at f
  have := Option.some.inj f
  omega
theorem log_num {m : Nat} (h : m < 10 ^ 100) : ((m : Nat) : Int).natAbs.log2 < 1920 := by
  show m.log2 < 1920
  by_cases h0 : m = 0
  · rw [h0]; decide
  · exact (Nat.log2_lt h0).mpr (Nat.lt_trans h (by decide +kernel))
/-- a word that is a share, cut at the strokes -/
theorem IsSh.cut {w : List Nat} {d : Nat × Nat} (h : IsSh w d) : sp 47 w = if d.2 = 1 then [dg d.1] else [dg d.1, dg d.2] := by
  obtain ⟨_, _, _, _, e⟩ := h
  unfold shL at e
  split
  · rename_i c
    rw [if_pos c] at e
    rw [e]
    exact sp_of (ps := [dg d.1]) (fun h => by cases h) fun p m => by rw [List.mem_singleton.mp m]; exact slash_free _
  · rename_i c
    rw [if_neg c] at e
    rw [e]
    refine sp_of (ps := [dg d.1, dg d.2]) (fun h => by cases h) fun p m => ?_
    rcases List.mem_cons.mp m with rfl | m
    · exact slash_free _
    · rw [List.mem_singleton.mp m]; exact slash_free _
end KJ
set_option Elab.async false
set_option linter.all false
set_option maxRecDepth 100000
set_option maxHeartbeats 2000000
namespace KJ
open PySem L2 SX Tx
abbrev iV (ns : List Nat) : List V := ns.map fun n : Nat => V.int (n : Int)
theorem map_inj_S {a b : List (List Nat)} : a.map S = b.map S ↔ a = b := List.map_inj_right fun x y e => S_inj e
/-- _law_word(word), of any word -/
def spWordL (C : Addr) : Sp := fun vs H Q _ => ∃ w : List Nat, vs = [.str (S w)] ∧ w.length ≤ 200000 ∧ ∀ (v : V) (H' : Hp), Same H H' → ShV C H' v (shOf w) → Q v H'
section
variable {P : Program} {w : World} {K : PySem.W.Frag} {mg : Str → Option Value} {base : Heap} {C CC B : Addr}
abbrev s_wd : Stmt := top 57
abbrev nWd : List Str := ["_law_word_here", "_law_parts", "_law_numbers", "_law_part", "_law_number"]
theorem sc_wd : FnScope nWd ["_law_word_here"] (defScope s_wd) := ⟨rfl, rfl, rfl, by decide +kernel, rfl, by decide +kernel, by decide +kernel⟩
abbrev XWd (P : Program) (w : World) (K : PySem.W.Frag) (mg : Str → Option Value) (base : Heap) (f : Addr) (cdv : Value) (A : Around) (outer : List Env) (s : Shared) (H : Hp) (E : XK) : Cx :=
  (cxOf CX0 P w K mg base nWd "_law_word" (defScope s_wd) f cdv A outer s H E).nox
/-- behind the numbers -/
theorem segWd3 {f : Addr} {cdv : Value} {A : Around} {outer : List Env} {s : Shared} {H : Hp} {E : XK} {Q : VK} (T : Bm mg) (m : MkT P w K mg base C B) (c_div : Cal P w K mg base 1 "_law_divisor" ["_law_one", "_law_other"] spDivisor) (hr : Room 5 (XWd P w K mg base f cdv A outer s H E).A) :
    ∃ u, PSs (XWd P w K mg base f cdv A outer s H E) ((defBody s_wd).drop 3) u ∧ ∀ (wd : List Nat) (ps : List (List Nat)) (p N : Addr) (H3 : Hp), sp 47 wd = ps → ps.length ≤ 2 → (∀ q ∈ ps, Figs q) → H3 p = some (.lst (sL ps)) → H3 N = some (.lst (iV (ps.map vl))) →
      (∀ (v : V) (H' : Hp), Same H3 H' → ShV C H' v (shOf wd) → Q v H') → u { nx := fun _ H' => Q .non H', rt := Q } [some (.str (S wd)), some (.ref p), some (.ref N), none, none] H3 := by
  have hu := hu_of hr
  have h64 := un64 hr
  refine ⟨_, (pss_cons (ps_if (pt_cmpR (op_neD (by exact h64)) (pe_lc (own := [("_law_number", 4)]) rfl sc_wd.nd (pi_list (pv 2)) (blkOk_by (N := nWd) (sc := defScope s_wd) (by decide +kernel)) (fun _ _ _ _ _ => (pg_name (i := 4) sc_wd.nd rfl (Or.inl rfl))) (fun _ _ _ _ _ => pts_nil) (fun _ _ _ _ _ => (pe_callTy call_str_int (by rfl) T.b.n_str (by decide +kernel) (pa_cons (pv 4) pa_nil)))) (pv 1) (nomark _))
      (pss_one (ps_ret pe_non))
      pss_nil)
    (pss_cons (ps_if (pt_cmpR op_eq (pe_callB call_len_seq (by rfl) T.b.n_len PySem.boot_len (pa_cons (pv 1) pa_nil)) pe_int (nomark _))
      (pss_one (ps_ret (pe_share1 m (hr.mono (by decide)) rfl (pa_cons (pe_ix (show IxR _ (rIxL K) from ix_list) (pv 2) pe_int (fun _ _ => rfl)) pa_nil))))
      pss_nil)
    (pss_cons (ps_if (PW.pt (pw_or (pt_cmpR op_lt (pe_ix (show IxR _ (rIxL K) from ix_list) (pv 2) pe_int (fun _ _ => rfl)) pe_int (nomark _)) (pw_or1 (pt_cmpR op_ne (pe_cal c_div (hr.mono (by decide)) rfl (pa_cons (pe_ix (show IxR _ (rIxL K) from ix_list) (pv 2) pe_int (fun _ _ => rfl)) (pa_cons (pe_ix (show IxR _ (rIxL K) from ix_list) (pv 2) pe_int (fun _ _ => rfl)) pa_nil))) pe_int (nomark _)))))
      (pss_one (ps_ret pe_non))
      pss_nil)
    (pss_one (ps_ret (pe_share2 m (hr.mono (by decide)) rfl (pa_cons (pe_ix (show IxR _ (rIxL K) from ix_list) (pv 2) pe_int (fun _ _ => rfl)) (pa_cons (pe_ix (show IxR _ (rIxL K) from ix_list) (pv 2) pe_int (fun _ _ => rfl)) pa_nil)))))))), ?_⟩
  intro wd ps p N H3 hs h2 hf ep eN k
  have ne := sp_ne 47 wd
  rw [hs] at ne
  have l1 : 1 ≤ ps.length := List.length_pos_iff.mpr ne
  refine ⟨_, rfl, N, rfl, ⟨_, SqL.of eN⟩, fun D nD => ?_⟩
  refine lc_list (K := K) (a := N) (xs := iV (ps.map vl)) (fun i H' => Same H3 H' ∧ H' D = some (.lst (sV (((ps.take i).map vl).map fun n => S (dg n))))) ⟨Same.put nD, upd_same⟩ (fun i H' _ h => SqL.of (h.1 _ _ eN)) ?_ ?_
  · rintro i y H' hy ⟨s1, eD⟩
    obtain ⟨q, hq, rfl⟩ : ∃ q, ps[i]? = some q ∧ y = .int ((vl q : Nat) : Int) := by
      rw [List.getElem?_map, List.getElem?_map] at hy
      cases e : ps[i]? with
      | none => rw [e] at hy; cases hy
      | some q => rw [e] at hy; exact ⟨q, rfl, (Option.some.inj hy).symm⟩
    refine ⟨rfl, yes_of ?_⟩
    refine ⟨_, rfl, ((vl q : Nat) : Int), rfl, log_num (vl_small (hf q (List.mem_of_getElem? hq))), ?_⟩
    rw [str_dg]
    refine ⟨_, eD, by rw [sV_len, List.length_map, List.length_map, List.length_take]; exact small_len (by omega), Same.but s1 nD, ?_⟩
    rw [upd_same, sV_snoc, take_more hq, List.map_append, List.map_append]
    rfl
  · rintro H4 ⟨s4, eD⟩
    rw [show (iV (ps.map vl)).length = ps.length by rw [List.length_map, List.length_map], List.take_length] at eD
    have ep4 := s4 _ _ ep
    have layd : ∀ x ∈ (ps.map vl).map (fun n => S (dg n)), LayS x := fun x m => by
      obtain ⟨n, _, rfl⟩ := List.mem_map.mp m
      intro c mc
      have := dg_digit n c mc
      omega
    have layp : ∀ x ∈ ps.map S, LayS x := fun x m => by
      obtain ⟨q, mq, rfl⟩ := List.mem_map.mp m
      intro c mc
      have := (hf q mq).2.2 c mc
      omega
    refine ⟨_, rfl, _, _, .lst (SqL.of eD) (dp_strs _), .lst (SqL.of ep4) (dp_strs _), shaped_strsL layd, shaped_strsL layp, ?_⟩
    rw [eqv_strsL]
    have em : ((ps.map vl).map (fun n => S (dg n)) = ps.map S) ↔ (ps.map fun q => dg (vl q)) = ps := by
      rw [List.map_map, show (fun n => S (dg n)) ∘ vl = S ∘ fun q => dg (vl q) from rfl, ← List.map_map, map_inj_S]
    refine ⟨_, rfl, iteB (fun z => ?_) (fun z => ?_)⟩
    · have z : ¬ (ps.map fun q => dg (vl q)) = ps := fun h => by
        rw [decide_eq_true (em.mpr h)] at z
        cases z
      refine k _ H4 s4 ?_
      rw [shOf_none.mpr fun ⟨d, hd⟩ => z (by
        have c := hd.cut
        rw [hs] at c
        rw [c]
        split
        · show [dg (vl (dg d.1))] = _
          rw [vl_dg hd.2.2.1]
        · show [dg (vl (dg d.1)), dg (vl (dg d.2))] = _
          rw [vl_dg hd.2.2.1, vl_dg hd.2.2.2.1])]
      rfl
    have z : (ps.map fun q => dg (vl q)) = ps := em.mp (of_decide_eq_true (by
      cases h : decide ((ps.map vl).map (fun n => S (dg n)) = ps.map S) with
      | true => rfl
      | false => rw [h] at z; cases z))
    refine ⟨_, rfl, p, _, rfl, .inl (SqL.of ep4), ?_⟩
    rw [sL_len]
    have eN4 := s4 _ _ eN
    match ps, hs, h2, hf, l1, z, eN4 with
    | [a], hs, h2, hf, l1, z, eN4 =>
      have za : dg (vl a) = a := (List.cons.inj z).1
      have fa := hf a List.mem_cons_self
      refine ⟨rfl, _, rfl, iteTe (by rfl) ?_⟩
      refine ⟨_, rfl, N, _, 0, _, rfl, rfl, SqL.of eN4, atI_nat (j := 0) rfl, ?_⟩
      refine fun x dx hx hd ne => si_ok hx hd ne (a := ((vl a : Nat) : Int)) (b := 1) (by decide) (by decide) fun H5 s5 e5 => ⟨rfl, ?_⟩
      rw [(low_int _).1, (low_int _).2] at e5
      refine k _ H5 (s4.trans s5) ?_
      have hw : wd = dg (vl a) := by
        have := sp_join 47 wd
        rw [hs] at this
        rw [za, ← this]
        rfl
      have : IsSh wd (vl a, 1) := ⟨Nat.one_pos, Nat.gcd_one_right _, by rw [za]; exact fa.2.1, by show (dg 1).length ≤ 100; rw [show dg 1 = [49] from dg_small (by decide)]; decide, by rw [hw]; rfl⟩
      rw [shOf_some.mpr this]
      exact ⟨x, dx, rfl, e5⟩
    | [a, b], hs, h2, hf, l1, z, eN4 =>
      have za : dg (vl a) = a := (List.cons.inj z).1
      have zb : dg (vl b) = b := (List.cons.inj (List.cons.inj z).2).1
      have fa := hf a List.mem_cons_self
      have fb := hf b (List.mem_cons_of_mem _ List.mem_cons_self)
      have va := vl_small fa
      have vb := vl_small fb
      refine ⟨rfl, _, rfl, iteFe (by rfl) ?_⟩
      refine ⟨_, rfl, N, _, 1, _, rfl, rfl, SqL.of eN4, atI_nat (j := 1) rfl, _, _, rfl, rfl, _, rfl, ?_⟩
      have hw : wd = dg (vl a) ++ (47 :: dg (vl b)) := by
        have := sp_join 47 wd
        rw [hs] at this
        rw [za, zb, ← this]
        rfl
      have isd : ∀ d, IsSh wd d → d = (vl a, vl b) ∧ d.2 ≠ 1 := fun d hd => by
        have c := hd.cut
        rw [hs] at c
        split at c
        · have := congrArg List.length c
          simp at this
        · rename_i h1
          obtain ⟨c1, c2⟩ := List.cons.inj c
          have c2 := (List.cons.inj c2).1
          rw [← za] at c1
          rw [← zb] at c2
          exact ⟨Prod.ext (dg_inj c1).symm (dg_inj c2).symm, h1⟩
      by_cases h1 : vl b < 2
      · refine iteTe (decide_eq_true (by omega)) ?_
        refine k _ H4 s4 ?_
        rw [shOf_none.mpr fun ⟨d, hd⟩ => by
          obtain ⟨e, h1⟩ := isd d hd
          have := hd.1
          rw [e] at this h1
          have this : 0 < vl b := this
          have h1 : vl b ≠ 1 := h1
          omega]
        rfl
      refine iteFe (decide_eq_false (by omega)) ?_
      refine ⟨_, rfl, N, _, 0, _, rfl, rfl, SqL.of eN4, atI_nat (j := 0) rfl, _, rfl, N, _, 1, _, rfl, rfl, SqL.of eN4, atI_nat (j := 1) rfl, vl a, vl b, rfl, va, vb, by omega, ?_⟩
      refine ⟨rfl, _, rfl, ?_⟩
      by_cases h3 : Nat.gcd (vl a) (vl b) = 1
      rotate_left
      · refine iteTe (by rw [decide_eq_false (fun e => h3 (by rw [V.int.injEq] at e; omega))]; rfl) ?_
        refine k _ H4 s4 ?_
        rw [shOf_none.mpr fun ⟨d, hd⟩ => by
          obtain ⟨e, _⟩ := isd d hd
          have := hd.2.1
          rw [e] at this
          exact h3 this]
        rfl
      refine iteFe (by rw [h3]; rfl) ?_
      refine ⟨_, rfl, N, _, 0, _, rfl, rfl, SqL.of eN4, atI_nat (j := 0) rfl, _, rfl, N, _, 1, _, rfl, rfl, SqL.of eN4, atI_nat (j := 1) rfl, ?_⟩
      refine fun x dx hx hd ne => si_ok hx hd ne (a := ((vl a : Nat) : Int)) (b := ((vl b : Nat) : Int)) (by omega) (log_small (b := 1400) (by show vl b < 2 ^ 1400; exact Nat.lt_trans vb (by decide +kernel)) (by decide) (by decide)) fun H5 s5 e5 => ⟨rfl, ?_⟩
      obtain ⟨l1, l2⟩ := low_one (x := ((vl a : Nat) : Int)) (y := ((vl b : Nat) : Int)) (by omega) (by show Nat.gcd (vl a) (vl b) = 1; exact h3)
      rw [l1, l2] at e5
      refine k _ H5 (s4.trans s5) ?_
      have : IsSh wd (vl a, vl b) := ⟨by show 0 < vl b; omega, h3, by rw [za]; exact fa.2.1, by rw [zb]; exact fb.2.1, by
        show wd = shL (vl a) (vl b)
        unfold shL
        rw [if_neg (by omega)]
        exact hw⟩
      rw [shOf_some.mpr this]
      exact ⟨x, dx, rfl, e5⟩
    | a :: b :: c :: r, hs, h2, hf, l1, z, eN4 => exact absurd h2 (by simp)
end
end KJ
set_option Elab.async false
set_option linter.all false
set_option maxRecDepth 100000
set_option maxHeartbeats 2000000
namespace KJ
open PySem L2 SX Tx
section
variable {P : Program} {w : World} {K : PySem.W.Frag} {mg : Str → Option Value} {base : Heap} {C CC B : Addr}
theorem IsSh.figs {wd : List Nat} {d : Nat × Nat} (h : IsSh wd d) : (sp 47 wd).length ≤ 2 ∧ ∀ q ∈ sp 47 wd, Figs q := by
  have fg : ∀ n : Nat, (dg n).length ≤ 100 → Figs (dg n) := fun n hn => ⟨List.length_pos_iff.mpr (dg_ne n), hn, dg_digit n⟩
  rw [h.cut]
  split
  · exact ⟨by show 1 ≤ 2; decide, fun q m => by rw [List.mem_singleton.mp m]; exact fg _ h.2.2.1⟩
  · refine ⟨Nat.le_refl 2, fun q m => ?_⟩
    rcases List.mem_cons.mp m with rfl | m
    · exact fg _ h.2.2.1
    · rw [List.mem_singleton.mp m]; exact fg _ h.2.2.2.1
theorem ok_wd {f : Addr} {fd : FuncData} (F : Fun K "_law_word" "_law_word" s_wd f fd) (T : Bm mg) (m : MkT P w K mg base C B) (c_ad : Cal P w K mg base 1 "_law_are_digits" ["_law_word_here"] spAreDigits) (c_div : Cal P w K mg base 1 "_law_divisor" ["_law_one", "_law_other"] spDivisor) : FnOk P w K mg base CX0 6 f fd ["_law_word_here"] (spWordL C) := by
  refine F.ok sc_wd (fun vs H Q E h => ?_) (fun cdv A outer s H vs Q E hr h => ?_)
  · obtain ⟨t, rfl, _⟩ := h
    rfl
  · obtain ⟨wd, rfl, hw, k⟩ := h
    obtain ⟨u, hu, qu⟩ := segWd3 (f := f) (cdv := cdv) (A := A) (outer := outer) (s := s) (H := H) (E := E) (Q := Q) T m c_div hr
    refine ⟨_, (pss_cons (ps_set (i := 1) sc_wd.nd rfl (Or.inl rfl) (pe_split (pv 0) pe_str))
      (pss_cons (ps_if (PW.pt (pw_or (pt_cmpR op_gt (pe_callB call_len_seq (by rfl) T.b.n_len PySem.boot_len (pa_cons (pv 1) pa_nil)) pe_int (nomark _)) (pw_or1 (pt_not (pt_val (pe_callB (cr_all rfl) (by rfl) T.n_all PyProof.Rows.boot_all (pa_cons (pe_lc (own := [("_law_part", 3)]) rfl sc_wd.nd (pi_list (pv 1)) (blkOk_by (N := nWd) (sc := defScope s_wd) (by decide +kernel)) (fun _ _ _ _ _ => (pg_name (i := 3) sc_wd.nd rfl (Or.inl rfl))) (fun _ _ _ _ _ => pts_nil) (fun _ _ _ _ _ => (pe_cal c_ad (hr.mono (by decide)) rfl (pa_cons (pv 3) pa_nil)))) pa_nil)))))))
        (pss_one (ps_ret pe_non))
        pss_nil)
      (pss_cons (ps_setLc (i := 2) (own := [("_law_part", 3)]) rfl sc_wd.nd rfl rfl (sw_true rfl rfl rfl (by decide +kernel)) (pi_list (pv 1)) (blkOk_by (N := nWd) (sc := defScope s_wd) (by decide +kernel)) (fun _ _ _ _ _ => (pg_name (i := 3) sc_wd.nd rfl (Or.inl rfl))) (fun _ _ _ _ _ => pts_nil) (fun _ _ _ _ _ => (pe_callTy call_int_str (by rfl) T.b.n_int (by decide +kernel) (pa_cons (pv 3) pa_nil)))) hu))), ?_⟩
    have e0 : Txt.split (S wd) (Str.ofString "/") = (sp 47 wd).map S := split_sp (by decide) wd
    refine ⟨_, rfl, ⟨_, rfl⟩, _, _, rfl, rfl, rfl, by rw [S_len]; exact Nat.le_trans (Nat.add_le_add_right hw 2) (by decide), fun p np => ?_⟩
    have sq := Same.put (o := .lst ((Txt.split (S wd) (Str.ofString "/")).map V.str)) np
    obtain ⟨ps, hs⟩ : ∃ ps, sp 47 wd = ps := ⟨_, rfl⟩
    have cnt := sp_count 47 wd
    have lens : ∀ q ∈ ps, q.length ≤ 200000 := fun q m => Nat.le_trans (sp_len 47 wd q (by rw [hs]; exact m)) hw
    rw [hs] at cnt
    have ep : (upd H p (.lst ((Txt.split (S wd) (Str.ofString "/")).map V.str))) p = some (.lst (sL ps)) := by rw [upd_same, e0, hs]
    generalize (upd H p (.lst ((Txt.split (S wd) (Str.ofString "/")).map V.str))) = H1 at sq ep ⊢
    refine ⟨_, rfl, p, _, rfl, .inl (SqL.of ep), ?_⟩
    rw [sL_len]
    refine ⟨_, _, rfl, rfl, _, rfl, ?_⟩
    by_cases h2 : ps.length ≤ 2
    rotate_left
    · refine iteTe (decide_eq_true (by omega)) ?_
      refine k _ H1 sq ?_
      rw [shOf_none.mpr fun ⟨d, hd⟩ => h2 (by have := hd.figs.1; rw [hs] at this; exact this)]
      rfl
    refine iteFe (decide_eq_false (by omega)) ?_
    refine ⟨_, rfl, p, rfl, ⟨_, SqL.of ep⟩, fun D nD => ?_⟩
    refine lc_list (K := K) (a := p) (xs := sL ps) (fun i H' => Same H1 H' ∧ H' D = some (.lst (((ps.take i).map digB).map V.bl))) ⟨Same.put nD, upd_same⟩ (fun i H' _ h => SqL.of (h.1 _ _ ep)) ?_ ?_
    · rintro i y H' hy ⟨s1, eD⟩
      obtain ⟨q, hq, mq, rfl⟩ := sL_at hy
      refine ⟨rfl, yes_of ?_⟩
      refine ⟨_, rfl, q, rfl, lens q mq, fun H5 s5 => ?_⟩
      refine ⟨_, s5 _ _ eD, by rw [List.length_map, List.length_map, List.length_take]; exact small_len (by omega), Same.but (fun b u e => s5 _ _ (s1 _ _ e)) nD, ?_⟩
      rw [upd_same, take_more hq, List.map_append, List.map_append]
      rfl
    rintro H4 ⟨s4, eD⟩
    rw [sL_len, List.take_length] at eD
    refine ⟨D, _, rfl, SqL.of eD, _, rfl, ?_⟩
    have e : (ps.map digB).all id = ps.all digB := by rw [List.all_map]; rfl
    rw [e]
    cases c : ps.all digB with
    | false =>
      refine iteT (k _ H4 (sq.trans s4) ?_)
      rw [shOf_none.mpr fun ⟨d, hd⟩ => by
        rw [List.all_eq_true.mpr fun q m => digB_iff.mpr (hd.figs.2 q (by rw [hs]; exact m))] at c
        cases c]
      rfl
    | true =>
      have fg : ∀ q ∈ ps, Figs q := fun q m => digB_iff.mp (List.all_eq_true.mp c q m)
      refine iteF ?_
      have ep4 := s4 _ _ ep
      refine ⟨_, rfl, p, rfl, ⟨_, SqL.of ep4⟩, fun D2 nD2 => ?_⟩
      refine lc_list (K := K) (a := p) (xs := sL ps) (fun i H' => Same H4 H' ∧ H' D2 = some (.lst (iV ((ps.take i).map vl)))) ⟨Same.put nD2, upd_same⟩ (fun i H' _ h => SqL.of (h.1 _ _ ep4)) ?_ ?_
      · rintro i y H' hy ⟨s1, eD⟩
        obtain ⟨q, hq, mq, rfl⟩ := sL_at hy
        refine ⟨rfl, yes_of ?_⟩
        refine ⟨_, rfl, S q, ((vl q : Nat) : Int), rfl, int_fig (fg q mq), by rw [S_len]; have := (fg q mq).2.1; omega, ?_⟩
        refine ⟨_, eD, by rw [List.length_map, List.length_map, List.length_take]; exact small_len (by omega), Same.but s1 nD2, ?_⟩
        rw [upd_same, take_more hq, List.map_append, show iV (List.map vl (List.take i ps) ++ List.map vl [q]) = iV (List.map vl (List.take i ps)) ++ iV (List.map vl [q]) from List.map_append]
        rfl
      rintro H5 ⟨s5, eD2⟩
      rw [sL_len, List.take_length] at eD2
      refine qu wd ps p D2 H5 hs h2 fg (s5 _ _ ep4) eD2 fun v H' s' hv => k v H' (((sq.trans s4).trans s5).trans s') hv
end
end KJ
set_option Elab.async false
set_option linter.all false
set_option maxRecDepth 100000
set_option maxHeartbeats 4000000
namespace L2
open PySem PySem.Spec PyProof.Rows
/-- a try with one clause «except x as n» that serves every exception of the body, and an else: what the clause wishes -/
def wAsT (K : PySem.W.Frag) (c : Value) (i : Nat) (ts : Addr → Value → Option Addr → TS) (D : Ends) : WX := fun cls d σ H =>
  PySem.W.exmOne K cls c = some true ∧ ∀ a, H a = none → ts a cls d { nx := fun σ' H' => D.nx (σ'.set i none) H', rt := D.rt, bk := fun σ' H' => D.bk (σ'.set i none) H', ct := fun σ' H' => D.ct (σ'.set i none) H' } (σ.set i (some (.ref a))) H
section
variable {X : Cx} {x n : Str} {c : Value} {i : Nat} {body suite orelse : List Stmt} {b₀ : Stmt} {np pos pos' : Pos} {tb : WX → TS} {ts : Addr → Value → Option Addr → TS} {u : TS}
theorem ps_try_asE (ho : PSs X orelse u) (hs : X.stack = X.env :: X.outer) (hf : X.env.frame = some X.env.locals) (hN : X.N.Nodup) (hi : X.N[i]? = some n) (hln : X.env.kindOf n = some .local) (hc : Names X x c)
    (hb : ∀ (W : WX) (pn : List (Addr × Obj)) (xe : Value → Shared → Prop), Takes (X.tr pn xe) W → PSs (X.tr pn xe) body (tb W))
    (hsu : ∀ (a : Addr) (oe : Obj) (cls : Value) (d : Option Addr) (pn : List (Addr × Obj)), Zc cls d oe → (∃ vs, oe.data = .fields vs) → PSs (X.suite a ((a, oe) :: pn)) (b₀ :: suite) (ts a cls d)) :
    PS X (.Try body [.ExceptHandler (some (.Name x np)) (some n) (b₀ :: suite) pos'] orelse [] pos) (fun D σ H => tb (wAsT X.K c i ts D) { D with nx := u D } σ H) := by
  refine ⟨fun pins s σ H D I h => wpAny_Try_except ?_⟩
  have ok := I.ok
  -- the clause, from an exception that has left the body
  have catch_ : ∀ (a : Addr) (B : Heap) (sI s' : Shared) (σ' : St) (H' : Hp) (cls : Value) (d : Option Addr), Inv X pins σ' H' sI → (∀ b o, sI.heap.get? b = some o → b ∉ frs X.stack → B.get? b = some o) → sI.heap.UpToSlots s'.heap →
      Sky B X.stack a (Zc cls d) X.env.locals s'.heap → H' a = none → s'.os = sI.os → AllBare s'.gens → wAsT X.K c i ts D cls d σ' H' →
      wpAny (model X.prog X.w) X.A (noteFrame (.ref a) X.env) (fun _ s₂ => wpAny (model X.prog X.w) X.A (setFlight (.ref a) none) (fun _ s₃ =>
        wpAny (model X.prog X.w) X.A (handleBy (.ref a) X.env [.ExceptHandler (some (.Name x np)) (some n) (b₀ :: suite) pos']) (SP X pins D) X.xe s₃) X.xe s₂) X.xe s' := by
    intro a B sI s' σ' H' cls d J nb up sky na os ag ⟨hm, go⟩
    refine Sky.land (outer := X.outer) (L := X.env.locals) Zc.steady (by rw [ok.frames, hs]) hf (by rw [← hs]; exact sky) fun h3 fl up3 => ?_
    have J3 : Inv X pins σ' H' { s' with heap := h3 } := J.landed nb fl.1 (up.trans up3) os ag
    have off : a ∉ frs (X.env :: X.outer) := fun hm2 => by
      obtain ⟨oe, vs, e1, _, e2⟩ := fl.there
      obtain ⟨_, o', e3, hnf⟩ := fl.2.2.1.mem hm2
      rw [e1] at e3
      cases e3
      exact hnf _ e2
    have nL : a ≠ X.env.locals := fun z => off (List.mem_filterMap.mpr ⟨X.env, List.mem_cons_self, by rw [hf, z]⟩)
    have nF : a ∉ X.fs := fun hm2 => by
      obtain ⟨v, h1, h2⟩ := List.mem_filterMap.mp hm2
      exact off (List.mem_filterMap.mpr ⟨v, List.mem_cons_of_mem _ h1, h2⟩)
    obtain ⟨o3, v3, at3, z3, dt3⟩ := fl.there
    have S3 := J3.suite at3 dt3 na nL nF
    refine wpAny_handleBy_cons (codeAny_handlers_test ?_) (by intro q; cases q)
    have ty : PySem.W.Looks (model X.prog X.w) h3 (typeOf (.ref a)) cls := fun A Q E s k q => wpAny_typeOf_ref (k _ _ at3) (by rw [z3.1]; exact q)
    have fits := PySem.W.exm_one (M := model X.prog X.w) J3.kIn ty hm
    have name : ∀ {Q E : Value → Shared → Prop}, Q c { s' with heap := h3 } → wpAny (model X.prog X.w) (X.A.mark (some (.ref a))) (eval (.Name x np) X.env) Q E { s' with heap := h3 } := fun {Q E} q => by
      rcases hc with ⟨g, db, m | ⟨m, v, nn⟩⟩
      · exact ld_glob (X := X.suite a ((a, o3) :: (X.pn ++ pins))) S3 g m q db
      · exact ld_blt (X := X.suite a ((a, o3) :: (X.pn ++ pins))) S3 g m v q nn db
    refine name (fits.here (codeAny_handlers_suite_as (HandSPX.lands_againZ fl fun h4 fl4 up4 => ?_)))
    have J4 : Inv X pins σ' H' { s' with heap := h4 } := J.landed nb fl4.1 ((up.trans up3).trans up4) os ag
    obtain ⟨o4, v4, at4, z4, dt4⟩ := fl4.there
    refine store_ok (X := X.suite a ((a, o4) :: (X.pn ++ pins))) (v := .ref a) (J4.suite at4 dt4 na nL nF) hN hi (.inl hln) rfl (fun s5 S5 => ?_) (.inr hln)
    refine wpAny_mono ((hsu a o4 cls d (X.pn ++ pins) z4 ⟨_, dt4⟩).run [] s5 _ H' _ S5 (go a na)) (fun f s6 q => ?_) (fun _ _ z => z.elim)
    cases f with
    | next =>
      obtain ⟨σ6, H6, S6, q6⟩ := q
      exact gone_ok (S6.unsuite ok) hN hi hln fun s7 J7 => ⟨_, _, J7, q6⟩
    | brk =>
      obtain ⟨σ6, H6, S6, q6⟩ := q
      exact gone_ok (S6.unsuite ok) hN hi hln fun s7 J7 => ⟨_, _, J7, q6⟩
    | cont =>
      obtain ⟨σ6, H6, S6, q6⟩ := q
      exact gone_ok (S6.unsuite ok) hN hi hln fun s7 J7 => ⟨_, _, J7, q6⟩
    | ret r =>
      obtain ⟨v6, σ6, H6, S6, r6, q6⟩ := q
      exact gone_ok (S6.unsuite ok) hN hi hln fun s7 J7 => ⟨_, _, _, J7, r6, q6⟩
  refine wpAny_mono ((hb (wAsT X.K c i ts D) (X.pn ++ pins) _ fun e s' xx => ?_).run [] s σ H { D with nx := u D } (I.toTry _) h) (fun f s1 q => ?_) (fun e s1 z => z)
  · obtain ⟨a, B, sI, pins', σ', H', cls, d, rfl, J', nb, up, sky, na, os, ag, go⟩ := xx
    exact catch_ a B sI s' σ' H' cls d (J'.ofTry ok) nb up sky na os ag go
  · cases f with
    | next =>
      obtain ⟨σ', H', J', q'⟩ := q
      exact ho.run pins s1 σ' H' D (J'.ofTry ok) q'
    | brk =>
      obtain ⟨σ', H', J', q'⟩ := q
      exact ⟨σ', H', J'.ofTry ok, q'⟩
    | cont =>
      obtain ⟨σ', H', J', q'⟩ := q
      exact ⟨σ', H', J'.ofTry ok, q'⟩
    | ret r =>
      obtain ⟨v, σ', H', J', r', q'⟩ := q
      exact ⟨v, σ', H', J'.ofTry ok, r', q'⟩
end
end L2
set_option Elab.async false
set_option linter.all false
set_option maxRecDepth 100000
set_option maxHeartbeats 1000000
namespace KJ
open PySem L2 SX Tx
structure BtC (K : PySem.W.Frag) (mg : Str → Option Value) (B : Addr) : Prop where
  xf : XfC K B
  xm : PySem.W.exmOne K (.ref B) (.ref B) = some true
  ns : PySem.W.findIn K (.ref B) "line" = some none
  gB : mg "BadText" = some (.ref B)
/-- _law_read(thing) -/
def spReadL (K : PySem.W.Frag) (C CC : Addr) : Sp := fun vs H Q _ => ∃ v : V, vs = [v] ∧
  ((∃ w : List Nat, v = .str (S w) ∧ w.length ≤ 100000 ∧ (∀ n : Nat, IsDue w (.inl n) → ∀ (r : Addr) (H' : Hp), Same H H' → H' r = some (.tup [.str "bad", .int (n : Int)]) → Q (.ref r) H') ∧
      (∀ ds : List RowD, IsDue w (.inr ds) → ∀ (x r : Addr) (H' : Hp), Same H H' → ChG C CC H' x ds → H' r = some (.tup [.str "told", .ref x]) → Q (.ref r) H')) ∨
    (NoTx K H v ∧ ∀ (r : Addr) (H' : Hp), Same H H' → H' r = some (.tup [.str "bad", .int 0]) → Q (.ref r) H'))
section
variable {P : Program} {w : World} {K : PySem.W.Frag} {mg : Str → Option Value} {base : Heap} {C CC B : Addr}
abbrev s_lread : Stmt := top 58
theorem sc_lread : FnScope ["_law_text", "_law_told", "e"] ["_law_text"] (defScope s_lread) := ⟨rfl, rfl, rfl, by decide +kernel, rfl, by decide +kernel, by decide +kernel⟩
theorem ok_lread {f : Addr} {fd : FuncData} (F : Fun K "_law_read" "_law_read" s_lread f fd) (x : BtC K mg B) (c_re : CalX P w K mg base 14 "read" ["text"] (spReadG K C CC B)) : FnOk P w K mg base CX0 15 f fd ["_law_text"] (spReadL K C CC) := by
  obtain ⟨g, gd, mg1, kp, G, bG⟩ := c_re.ex
  refine F.ok sc_lread (fun vs H Q E h => ?_) (fun cdv A outer s H vs Q E hr h => ?_)
  · obtain ⟨v, rfl, _⟩ := h
    rfl
  · obtain ⟨v, rfl, k⟩ := h
    refine ⟨_, (pss_cons (ps_set (i := 1) sc_lread.nd rfl (Or.inl rfl) pe_non)
      (pss_cons (ps_try_asE (i := 2) (c := .ref B) pss_nil rfl rfl sc_lread.nd rfl (by rfl) ⟨rfl, by decide, .inl x.gB⟩
          (fun W pn xe tk => pss_one (ps_set (i := 1) sc_lread.nd rfl (Or.inl rfl) (pe_tup (pa_cons pe_str (pa_cons (pe_callS G (hr.mono (by decide)) rfl mg1 kp bG (fun σ => passAt tk σ) (pa_cons (pv 0) pa_nil)) pa_nil)))))
          (fun a oe cls d pn hz hf => pss_one (ps_set (i := 1) sc_lread.nd rfl (Or.inl rfl) (pe_tup (pa_cons pe_str (pa_cons (pe_xf x.xf x.ns hz hf (pv 2)) pa_nil))))))
      (pss_one (ps_ret (pv 1))))), ?_⟩
    refine ⟨_, rfl, v, rfl, ?_⟩
    rcases k with ⟨wd, rfl, hw, kb, kt⟩ | ⟨nt, k⟩
    · refine .inl ⟨wd, rfl, hw, fun n hn d H2 s2 e => ⟨x.xm, fun a ha => ⟨.ref a, rfl, rfl, rfl, d, [("line", .int (n : Int))], _, rfl, e, rfl, by show 2 ≤ sizeLine; decide, fun r nr => ⟨_, rfl, kb n hn r _ (s2.trans (Same.put nr)) upd_same⟩⟩⟩, fun ds hd z H2 s2 c2 => ⟨by show 2 ≤ sizeLine; decide, fun r nr => ⟨_, rfl, kt ds hd z r _ (s2.trans (Same.put nr)) (IsCh.same c2 (Same.put nr)) upd_same⟩⟩⟩
    · exact .inr ⟨nt, fun d H2 s2 e => ⟨x.xm, fun a ha => ⟨.ref a, rfl, rfl, rfl, d, [("line", .int 0)], _, rfl, e, rfl, by show 2 ≤ sizeLine; decide, fun r nr => ⟨_, rfl, k r _ (s2.trans (Same.put nr)) upd_same⟩⟩⟩⟩
end
end KJ
set_option Elab.async false
set_option linter.all false
set_option maxRecDepth 100000
set_option maxHeartbeats 4000000
/-! sum(list, start=share) -/
namespace L2
open PySem PySem.Spec PyProof.Rows
section
variable {X : Cx} {pins : List (Addr × Obj)} {σ : St} {H : Hp} {s : Shared}
theorem sum_turnsL {rA : R2} {l it S : Addr} {xs : List V} {Q : VK} (hc : X.calm = true) (op : OpN X.inn (binaryOp .Add) rA) (Pv : Nat → V → Hp → Prop) (own : ∀ i acc H, Pv i acc H → ∃ a, acc = .ref a) (row : ∀ i acc H, i ≤ xs.length → Pv i acc H → SqL X.K H l xs)
    (step : ∀ i acc x H, xs[i]? = some x → Pv i acc H → rA acc x H (Pv (i + 1))) (fin : ∀ acc H, Pv xs.length acc H → Q acc H) (ne : it ≠ S) :
    ∀ (k i : Nat) (acc : V) (v : Value) (c : Nat) (H : Hp) (s : Shared), xs.length - i = k → i ≤ xs.length → Inv X pins σ H s → RelV acc v → Pv i acc H → s.heap.IsListIter it l i → s.heap.get? S = some (sumSt v c) → FpOk X pins H it → FpOk X pins H S →
      codeAny (model X.prog X.w) X.A (.builtin "sum.loop" ⟨[.ref it, .ref S, rawInt 2, rawInt 0], []⟩) (fun r s' => match r with | .ok (.ret v) => EP X pins σ Q v s' | .ok _ => False | .error e => X.xe e s') s := by
  intro k
  induction k with
  | zero =>
    intro i acc v c H s hk hi I rv pv st hS fi fS
    have e : i = xs.length := by omega
    subst e
    obtain ⟨a, rfl⟩ := own _ _ _ pv
    obtain rfl : v = Value.ref a := rv
    obtain ⟨its, ri, pl, hz⟩ := I.list (row _ _ _ hi pv)
    have hl := ri.length
    obtain ⟨f0, f1, f2, f3, f4, f5⟩ := fi
    refine codeAny_builtin F.entry_sum_loop ?_
    rw [Around.under_plainId F.plain_sum_loop _]
    show wpAny _ X.A.in1 (seqItems? (.ref S) >>= _) _ _ s
    refine wpAny_bind (wpAny_seqItems hS rfl ?_)
    show wpAny _ X.A.in1 (tryCatch (pyNext (.ref it)) _ >>= _) _ _ s
    refine wpAny_bind (wpAny_tryCatch (wpAny_pyNext_list_end (I.ok.hd hc) st (show s.heap.IsList l its.toArray from pl.isList) (by simp; omega) fun h' eb => ?_))
    exact wpAny_pure ⟨.ref a, H, I.turned (t' := s.toks) (fun b o hb e => eb b o hb e) f0 f1 f3 f4 f5, rfl, fin _ _ pv⟩
  | succ k ih =>
    intro i acc v c H s hk hi I rv pv st hS fi fS
    have hlt : i < xs.length := by omega
    obtain ⟨a, rfl⟩ := own _ _ _ pv
    obtain rfl : v = Value.ref a := rv
    have hx : xs[i]? = some xs[i] := by simp [hlt]
    obtain ⟨its, ri, pl, hz⟩ := I.list (row _ _ _ hi pv)
    obtain ⟨u, hu, ru⟩ := ri.get hx
    have go := step i (.ref a) xs[i] H hx pv
    generalize xs[i] = x at go ru
    obtain ⟨f0, f1, f2, f3, f4, f5⟩ := id fi
    obtain ⟨g0, g1, g2, g3, g4, g5⟩ := id fS
    refine codeAny_builtin F.entry_sum_loop ?_
    rw [Around.under_plainId F.plain_sum_loop _]
    show wpAny _ X.A.in1 (seqItems? (.ref S) >>= _) _ _ s
    refine wpAny_bind (wpAny_seqItems hS rfl ?_)
    show wpAny _ X.A.in1 (tryCatch (pyNext (.ref it)) _ >>= _) _ _ s
    refine wpAny_bind (wpAny_tryCatch (wpAny_pyNext_list_item st (show s.heap.IsList l its.toArray from pl.isList) (x := u) (by simpa using hu) fun h' st' sb => ?_))
    have I1 : Inv X pins σ H { s with heap := h' } := I.turned (t' := s.toks) (fun b o hb e => (sb.2 b hb).trans e) f0 f1 f3 f4 f5
    have hS1 : h'.get? S = some (sumSt (.ref a) c) := (sb.2 S (Ne.symm ne)).trans hS
    obtain ⟨oi, ei, ci, di⟩ := id st'
    have I2 : Inv X (pins ++ [(it, oi), (S, sumSt (.ref a) c)]) σ H { s with heap := h' } := I1.pins_of fun p hp => by
      rcases List.mem_append.mp hp with hp | hp
      · exact I1.pin p (List.mem_append_right _ hp)
      · rcases List.mem_cons.mp hp with rfl | hp
        · exact ⟨ei, f0, f1, f2, fun v z => by rw [di] at z; cases z⟩
        · rw [List.mem_singleton.mp hp]
          exact ⟨hS1, g0, g1, g2, fun v z => by cases z⟩
    show wpAny _ X.A.in1 ((holding [u] (binaryOp .Add (.ref a) u)).attempt >>= _) _ _ _
    refine wpAny_bind (wpAny_attempt (wpAny_holding (wpAny_mono (op (fun _ _ => False) _ _ σ H (.ref a) x (.ref a) u _ I2.inn rfl ru go) (fun w s2 q => ?_) (fun e s2 z => z.elim))))
    obtain ⟨z, H2, I3, rz, pv2⟩ := q
    have I4 : Inv X (pins ++ [(it, oi), (S, sumSt (.ref a) c)]) σ H2 s2 := I3.outn I.ok
    obtain ⟨ki, ni, _⟩ := I4.pin (it, oi) (List.mem_append_right _ (List.mem_append_right _ List.mem_cons_self))
    obtain ⟨kS, nS, _⟩ := I4.pin (S, sumSt (.ref a) c) (List.mem_append_right _ (List.mem_append_right _ (List.mem_cons_of_mem _ List.mem_cons_self)))
    obtain ⟨a2, rfl⟩ := own _ _ _ pv2
    obtain rfl : w = Value.ref a2 := rz
    have I5 : Inv X pins σ H2 s2 := I4.unpinned
    show wpAny _ X.A.in1 (updateSeq S (fun _ => #[Value.ref a2]) >>= _) _ _ _
    refine wpAny_bind (wpAny_updateSeq kS rfl ?_)
    have hS₂ := Heap.get?_update_self (Obj.mapSeq fun _ => #[Value.ref a2]) kS rfl
    refine wpAny_bind (wpAny_letGo ?_)
    refine wpAny_bind (wpAny_updateSeq hS₂ rfl ?_)
    have hS3 := Heap.get?_update_self (Obj.mapSeq fun _ => #[Value.ref a2]) hS₂ rfl
    have oth : ∀ (b : Addr) (o : Obj), b ≠ S → s2.heap.get? b = some o → ((s2.heap.update S (Obj.mapSeq fun _ => #[Value.ref a2])).update S (Obj.mapSeq fun _ => #[Value.ref a2])).get? b = some o := fun b o hb e =>
      (Heap.get?_update_other _ _ (Ne.symm hb)).trans ((Heap.get?_update_other _ _ (Ne.symm hb)).trans e)
    have I6 : Inv X pins σ H2 { s2 with heap := (s2.heap.update S (Obj.mapSeq fun _ => #[Value.ref a2])).update S (Obj.mapSeq fun _ => #[Value.ref a2]) } := I5.turned (t' := s2.toks) oth nS g1 g3 g4 g5
    refine wpAny_pure ⟨plainId_quiet F.plain_sum_loop _, ih (i + 1) (.ref a2) (.ref a2) c H2 _ (by omega) hlt I6 rfl pv2 ⟨oi, oth it oi ne ki, by obtain ⟨o', e', c', d'⟩ := st'; rw [ei] at e'; cases e'; exact ⟨c', d'⟩⟩ hS3 ⟨ni, f1, f2, f3, f4, f5⟩ ⟨nS, g1, g2, g3, g4, g5⟩⟩
end
end L2
set_option Elab.async false
set_option linter.all false
set_option maxRecDepth 100000
set_option maxHeartbeats 4000000
/-! sum(list, share): the start told by its place -/
namespace L2
open PySem PySem.Spec PyProof.Rows
section
variable {X : Cx} {pins : List (Addr × Obj)} {σ : St} {H : Hp} {s : Shared}
theorem argsOk_sum2 (a b : Value) : argsOk "sum" ⟨[a, b], []⟩ := by
  unfold argsOk
  kernel_rfl
/-- sum(row, an instance): Pv tells the total behind i items -/
def rSumOP (K : PySem.W.Frag) (rA : R2) : List V → Hp → VK → Prop := fun xs H Q => ∃ (l a C dx : Addr) (fs : List (Str × V)) (row : List V), xs = [.ref l, .ref a] ∧ H a = some (.ins C dx fs) ∧ NoTxt K C ∧
  ∃ Pv : Nat → V → Hp → Prop, Pv 0 (.ref a) H ∧ (∀ i acc H', Pv i acc H' → ∃ b, acc = .ref b) ∧ (∀ i acc H', i ≤ row.length → Pv i acc H' → SqL K H' l row) ∧ (∀ i acc x H', row[i]? = some x → Pv i acc H' → rA acc x H' (Pv (i + 1))) ∧ ∀ acc H', Pv row.length acc H' → Q acc H'
theorem cr_sumOP {rA : R2} (hc : X.calm = true) (op : OpN X.inn (binaryOp .Add) rA) : CallR X (.builtin "sum") (rSumOP X.K rA) := by
  intro pins s σ H xs us Q I r h
  obtain ⟨l, a, C, dx, fs, row, rfl, ha, nt, Pv, p0, own, kept, step, fin⟩ := h
  obtain ⟨u1, u2, rfl, r1, r2⟩ := vals2 r
  obtain rfl : u1 = Value.ref l := by cases r1; rfl
  obtain rfl : u2 = Value.ref a := by cases r2; rfl
  obtain ⟨its, ri, pl, hz⟩ := I.list (kept 0 _ _ (Nat.zero_le _) p0)
  obtain ⟨mA, J, _⟩ := ins_get I.hok ha
  obtain ⟨od, J, _⟩ := J.look
  have n1 : ∀ M : Model, PySem.W.Looks M s.heap (isInstance (.ref a) (.type "str")) false := fun M => OC.not_inst I.kIn J nt.str
  have n2 : ∀ M : Model, PySem.W.Looks M s.heap (isInstance (.ref a) (.type "bytes")) false := fun M => OC.not_inst I.kIn J nt.byt
  have n3 : ∀ M : Model, PySem.W.Looks M s.heap (isInstance (.ref a) (.type "bytearray")) false := fun M => OC.not_inst I.kIn J nt.bar
  refine wpAny_call (codeAny_call_builtin F.plain_sum F.entry_sum ?_)
  have body : wpAny (model X.prog X.w) X.A.in1 (Builtin.«sum» ⟨[.ref l, .ref a], []⟩) (fun fin s' => match fin with
      | .done f => (match (Except.ok f : Result) with | .ok (.ret v) => EP X pins σ Q v s' | .ok _ => False | .error e => X.xe e s')
      | .again c' => c'.quiet = true ∧ codeAny (model X.prog X.w) X.A c' (fun r s' => match r with | .ok (.ret v) => EP X pins σ Q v s' | .ok _ => False | .error e => X.xe e s') s') X.xe s := by
    unfold Builtin.«sum»
    simp only [List.length_cons, List.length_nil]
    rw [if_neg (by decide)]
    refine wpAny_bind (wpAny_of_eq (show Builtin.Builtins.bindParams "sum" ["start"] 0 ⟨[.ref a], []⟩ = pure [some (.ref a)] from rfl) ?_)
    refine wpAny_bind (wpAny_pyIter_list (show s.heap.IsList l its.toArray from pl.isList) ?_)
    have up : ∀ b o, s.heap.get? b = some o → (s.heap.push { cls := .type "list_iterator", data := .fields #[.ref l, .int 0 0] }).get? b = some o := fun b o e => Heap.get?_push_of_some _ e
    refine wpAny_bind (wpAny_pure ?_)
    simp only [List.forIn_cons, List.forIn_nil]
    refine wpAny_bind (wpAny_bind (wpAny_bind (n1 _ _ _ _ _ up ?_)))
    simp only [Bool.false_eq_true, if_false]
    refine wpAny_pure (wpAny_bind (wpAny_bind (n2 _ _ _ _ _ up ?_)))
    simp only [Bool.false_eq_true, if_false]
    refine wpAny_pure (wpAny_bind (wpAny_bind (n3 _ _ _ _ _ up ?_)))
    simp only [Bool.false_eq_true, if_false]
    refine wpAny_pure (wpAny_pure ?_)
    refine wpAny_bind (wpAny_newObj_type ?_)
    have I1 : Inv X pins σ H { s with heap := s.heap.push { cls := .type "list_iterator", data := .fields #[.ref l, .int 0 0] } } := I.kept (t' := s.toks) up
    have sz1 : (s.heap.push { cls := .type "list_iterator", data := .fields #[.ref l, .int 0 0] }).objs.size = s.heap.objs.size + 1 := Heap.size_push ..
    have up2 : ∀ b o, (s.heap.push { cls := .type "list_iterator", data := .fields #[.ref l, .int 0 0] }).get? b = some o → ((s.heap.push { cls := .type "list_iterator", data := .fields #[.ref l, .int 0 0] }).push { cls := .type "list", dict := none, data := .seq #[.ref a] 0 }).get? b = some o := fun b o e => Heap.get?_push_of_some _ e
    have I2 := I1.kept (t' := s.toks) up2
    have le1 : s.heap.objs.size ≤ (s.heap.push { cls := .type "list_iterator", data := .fields #[.ref l, .int 0 0] }).objs.size := by rw [sz1]; exact Nat.le_succ _
    exact wpAny_pure ⟨plainId_quiet F.plain_sum_loop _, sum_turnsL hc op Pv own kept step fin (by show s.heap.objs.size ≠ _; rw [sz1]; exact Nat.ne_of_lt (Nat.lt_succ_self _)) row.length 0 (.ref a) (.ref a) 0 H _ rfl (Nat.zero_le _) I2 rfl p0
      ⟨_, up2 _ _ (Heap.get?_push_size _ rfl), rfl, rfl⟩ (Heap.get?_push_size _ rfl) (I.fpOk (Nat.le_refl _) (I.hok.fresh (Nat.le_refl _))) (I.fpOk le1 (I.hok.fresh le1))⟩
  simp only [checkBuiltinCall, F.kind_sum]
  cases hsig : Manifest.signature? "sum" with
  | none => exact wpAny_pure body
  | some sig =>
    have ha' : Bind.checkArgs "sum" sig ⟨[.ref l, .ref a], []⟩ = pure () := by simpa only [argsOk, hsig] using argsOk_sum2 (.ref l) (.ref a)
    simp only [List.zip_cons_cons, List.zip_nil_right, ha']
    exact wpAny_pure body
end
end L2
set_option Elab.async false
set_option linter.all false
set_option maxRecDepth 100000
set_option maxHeartbeats 2000000
namespace KJ
open PySem L2 SX Tx
/-! ### the law's own look at a line: the words -/
theorem cut_tail {y : V} {xs : List V} : cutV (y :: xs) (some 1) none = xs := by
  have e1 : HT.sIx (y :: xs).length 0 (some 1) = 1 := by
    show (if (1 : Int) < 0 then ((1 : Int) + ((xs.length + 1 : Nat) : Int)).toNat else min (1 : Int).toNat (xs.length + 1)) = 1
    rw [if_neg (by decide)]
    show min 1 (xs.length + 1) = 1
    omega
  have e2 : HT.sIx (y :: xs).length (y :: xs).length none = xs.length + 1 := rfl
  unfold cutV
  rw [e1, e2]
  simp
/-- a told row in a list, or nothing; O tells of the list's place -/
def LnV (O : Addr → Prop) (C : Addr) (H : Hp) (v : V) : Option RowD → Prop
  | none => v = .non
  | some x => ∃ (p b : Addr) (as : List Addr), v = .ref p ∧ O b ∧ H p = some (.tup [.str x.1, .ref b]) ∧ H b = some (.lst (as.map V.ref)) ∧ ShsAt C H as x.2
theorem LnV.same {O : Addr → Prop} {C : Addr} {H H' : Hp} {v : V} {o : Option RowD} (h : LnV O C H v o) (s : Same H H') : LnV O C H' v o := by
  cases o with
  | none => exact h
  | some x => obtain ⟨p, b, as, e, e0, e1, e2, e3⟩ := h; exact ⟨p, b, as, e, e0, s _ _ e1, s _ _ e2, e3.same s⟩
theorem LnV.mono {O O' : Addr → Prop} {C : Addr} {H : Hp} {v : V} {o : Option RowD} (h : LnV O C H v o) (s : ∀ b, O b → O' b) : LnV O' C H v o := by
  cases o with
  | none => exact h
  | some x => obtain ⟨p, b, as, e, e0, e1⟩ := h; exact ⟨p, b, as, e, s b e0, e1⟩
theorem LnV.lstU {C D : Addr} {H : Hp} {v : V} {o : Option RowD} {ys zs : List V} (h : LnV (· ≠ D) C H v o) (e : H D = some (.lst ys)) : LnV (· ≠ D) C (upd H D (.lst zs)) v o := by
  cases o with
  | none => exact h
  | some x =>
    obtain ⟨p, b, as, q0, q5, q1, q2, q3, q4⟩ := h
    refine ⟨p, b, as, q0, q5, by rw [upd_ne (fun z => by rw [z, e] at q1; cases q1)]; exact q1, by rw [upd_ne q5]; exact q2, q3, fun i a ha => ?_⟩
    obtain ⟨d, dx, g1, g2⟩ := q4 i a ha
    exact ⟨d, dx, g1, by rw [upd_ne (fun z => by rw [z, e] at g2; cases g2)]; exact g2⟩
theorem none_of_same {H H' : Hp} {b : Addr} (s : Same H H') (h : H' b = none) : H b = none := by
  cases e : H b with
  | none => rfl
  | some u => rw [s _ _ e] at h; cases h
/-- what the words say -/
theorem all_sh {ps : List (List Nat)} : ((ps.map fun p => decide (shOf p = none)).any id = false) ↔ ∃ ds : List (Nat × Nat), ps.map shOf = ds.map some := by
  constructor
  · intro h
    refine ⟨(ps.map shOf).map fun o => o.getD (1, 1), ?_⟩
    rw [List.map_map]
    refine (List.map_id _).symm.trans (List.map_congr_left fun o m => ?_)
    obtain ⟨p, mp, rfl⟩ := List.mem_map.mp m
    cases c : shOf p with
    | some d => rfl
    | none =>
      have : (ps.map fun p => decide (shOf p = none)).any id = true := List.any_eq_true.mpr ⟨_, List.mem_map_of_mem mp, decide_eq_true c⟩
      rw [h] at this
      cases this
  · rintro ⟨ds, e⟩
    cases c : (ps.map fun p => decide (shOf p = none)).any id with
    | false => rfl
    | true =>
      obtain ⟨b, mb, hb⟩ := List.any_eq_true.mp c
      obtain ⟨p, mp, rfl⟩ := List.mem_map.mp mb
      have hb := of_decide_eq_true hb
      have : shOf p ∈ ds.map some := by rw [← e]; exact List.mem_map_of_mem mp
      obtain ⟨d, _, ed⟩ := List.mem_map.mp this
      rw [hb] at ed
      cases ed
section
variable {P : Program} {w : World} {K : PySem.W.Frag} {mg : Str → Option Value} {base : Heap} {C CC B : Addr}
abbrev s_ln : Stmt := top 59
abbrev nLn : List Str := ["_law_line_here", "_law_at", "_law_label", "_law_words", "_law_shares", "_law_word_here", "_law_share", "_law_sign"]
theorem sc_ln : FnScope nLn ["_law_line_here"] (defScope s_ln) := ⟨rfl, rfl, rfl, by decide +kernel, rfl, by decide +kernel, by decide +kernel⟩
abbrev XLn (P : Program) (w : World) (K : PySem.W.Frag) (mg : Str → Option Value) (base : Heap) (f : Addr) (cdv : Value) (A : Around) (outer : List Env) (s : Shared) (H : Hp) (E : XK) : Cx :=
  (cxOf CX0 P w K mg base nLn "_law_line" (defScope s_ln) f cdv A outer s H E).nox
/-- behind the looks at name and number -/
theorem segLn {f : Addr} {cdv : Value} {A : Around} {outer : List Env} {s : Shared} {H : Hp} {E : XK} {Q : VK} (T : Bm mg) (n_sum : mg "sum" = none) (n_any : mg "any" = none) (m : MkT P w K mg base C B) (nt : NoTxt K C) (ad : AddT P w K mg base C) (c_eq : EqT P w K mg base C) (c_wd : Cal P w K mg base 6 "_law_word" ["_law_word_here"] (spWordL C)) (hr : Room 9 (XLn P w K mg base f cdv A outer s H E).A) :
    ∃ u, PSs (XLn P w K mg base f cdv A outer s H E) ((defBody s_ln).drop 5) u ∧ ∀ (v0 v1 : Option V) (l0 : List Nat) (ps : List (List Nat)) (p : Addr) (H3 : Hp), ps.length ≤ 8 → (∀ q ∈ ps, q.length ≤ 200000) → H3 p = some (.lst (V.str (S []) :: sL ps)) →
      (∀ ds : List (Nat × Nat), ps.map shOf = ds.map some → (wts ds).sum = pB ds → ∀ (q b : Addr) (as : List Addr) (H' : Hp), Same H3 H' → H3 b = none → H' q = some (.tup [.str (S l0), .ref b]) → H' b = some (.lst (as.map V.ref)) → ShsAt C H' as ds → Q (.ref q) H') →
      ((¬ ∃ ds : List (Nat × Nat), ps.map shOf = ds.map some ∧ (wts ds).sum = pB ds) → ∀ H' : Hp, Same H3 H' → Q .non H') →
      u { nx := fun _ H' => Q .non H', rt := Q } [v0, v1, some (.str (S l0)), some (.ref p), none, none, none, none] H3 := by
  have o := ArT.op (X := (XLn P w K mg base f cdv A outer s H E).inn) ad (hr.in1.mono (by decide)) (hr.in1.mono (by decide))
  obtain ⟨r1, o1, q1⟩ := EqT.op (X := XLn P w K mg base f cdv A outer s H E) is_ne c_eq (hr.mono (by decide))
  refine ⟨_, (pss_cons (ps_setLc (i := 4) (own := [("_law_word_here", 5)]) rfl sc_ln.nd rfl rfl (sw_true rfl rfl rfl (by decide +kernel)) (pi_list (pe_slice sl_list (pv 3) (po_some pe_int) po_none)) (blkOk_by (N := nLn) (sc := defScope s_ln) (by decide +kernel)) (fun _ _ _ _ _ => (pg_name (i := 5) sc_ln.nd rfl (Or.inl rfl))) (fun _ _ _ _ _ => pts_nil) (fun _ _ _ _ _ => (pe_cal c_wd (hr.mono (by decide)) rfl (pa_cons (pv 5) pa_nil))))
    (pss_cons (ps_if (PW.pt (pw_or (pt_val (pe_callB (show CallR _ _ (rAny K) from cr_any rfl) (by rfl) n_any PyProof.Rows.boot_any (pa_cons (pe_lc (own := [("_law_share", 6)]) rfl sc_ln.nd (pi_list (pv 4)) (blkOk_by (N := nLn) (sc := defScope s_ln) (by decide +kernel)) (fun _ _ _ _ _ => (pg_name (i := 6) sc_ln.nd rfl (Or.inl rfl))) (fun _ _ _ _ _ => pts_nil) (fun _ _ _ _ _ => (pe_cmpR op_isN (pv 6) pe_non (nomark _)))) pa_nil))) (pw_or1 (pt_cmpR o1 (pe_callB (cr_sumOP rfl o) (by rfl) n_sum PyProof.Rows.boot_sum (pa_cons (pv 4) (pa_cons (pe_share1 m (hr.mono (by decide)) rfl (pa_cons pe_int pa_nil)) pa_nil))) pe_int (nomark _)))))
      (pss_one (ps_ret pe_non))
      pss_nil)
    (pss_one (ps_ret (pe_tup (pa_cons (pv 2) (pa_cons (pv 4) pa_nil))))))), ?_⟩
  intro v0 v1 l0 ps p H3 h8 lens ep kt kn
  have szl : ∀ n : Nat, n ≤ 100000 → n < sizeLine := fun n h => Nat.lt_of_le_of_lt h (by decide)
  refine ⟨_, rfl, _, rfl, p, _, rfl, SqL.of ep, fun l nl => ?_⟩
  rw [cut_tail]
  have s1 := Same.put (o := .lst (sL ps)) nl
  have el : (upd H3 l (.lst (sL ps))) l = some (.lst (sL ps)) := upd_same
  generalize (upd H3 l (.lst (sL ps))) = H4 at s1 el ⊢
  refine ⟨l, rfl, ⟨_, SqL.of el⟩, fun D nD => ?_⟩
  refine lc_list (K := K) (a := l) (xs := sL ps) (fun i H' => Same H4 H' ∧ ∃ fs : List V, H' D = some (.lst fs) ∧ fs.length = i ∧ ∀ (j : Nat) (v : V) (r : List Nat), fs[j]? = some v → ps[j]? = some r → ShV C H' v (shOf r)) ⟨Same.put nD, [], upd_same, rfl, fun j v r h => by simp at h⟩ (fun i H' _ h => SqL.of (h.1 _ _ el)) ?_ ?_
  · rintro i y H' hy ⟨s2, fs, eD, lf, ff⟩
    obtain ⟨q, hq, mq, rfl⟩ := sL_at hy
    have il := (List.getElem?_eq_some_iff.mp hq).1
    refine ⟨rfl, yes_of ?_⟩
    refine ⟨_, rfl, q, rfl, lens q mq, fun v H5 s5 hv => ?_⟩
    have eD5 := s5 _ _ eD
    refine ⟨fs, eD5, szl _ (by omega), Same.but (fun b u e => s5 _ _ (s2 _ _ e)) nD, fs ++ [v], upd_same, by rw [List.length_append, lf]; rfl, fun j v' q' hv' hq' => ?_⟩
    rcases Nat.lt_or_ge j fs.length with h | h
    · rw [List.getElem?_append_left h] at hv'
      exact ((ff j v' q' hv' hq').same s5).lstU eD5
    · have hj := (List.getElem?_eq_some_iff.mp hv').1
      rw [List.length_append] at hj
      have hj : j < fs.length + 1 := hj
      have ej : j = i := by omega
      subst ej
      rw [← lf, List.getElem?_concat_length] at hv'
      cases hv'
      rw [hq] at hq'
      cases hq'
      exact hv.lstU eD5
  rintro H5 ⟨s2, fs, eD, lf, ff⟩
  rw [sL_len] at lf
  have s02 := s1.trans s2
  refine ⟨_, rfl, D, rfl, ⟨_, SqL.of eD⟩, fun D2 nD2 => ?_⟩
  refine lc_list (K := K) (a := D) (xs := fs) (fun i H' => Same H5 H' ∧ H' D2 = some (.lst (((ps.take i).map fun p => decide (shOf p = none)).map V.bl))) ⟨Same.put nD2, upd_same⟩ (fun i H' _ h => SqL.of (h.1 _ _ eD)) ?_ ?_
  · rintro i y H' hy ⟨s3, eD2⟩
    have il := (List.getElem?_eq_some_iff.mp hy).1
    have gq : ps[i]? = some (ps[i]'(by omega)) := List.getElem?_eq_getElem _
    generalize (ps[i]'(by omega)) = q at gq
    have sv := ff i y q hy gq
    have ey : decide (y = .non) = decide (shOf q = none) := by
      rw [decide_eq_decide]
      cases c : shOf q with
      | none =>
        rw [c] at sv
        exact ⟨fun _ => rfl, fun _ => sv⟩
      | some d =>
        rw [c] at sv
        obtain ⟨a, dx, rfl, _⟩ := sv
        exact ⟨fun z => (by cases z), fun z => (by cases z)⟩
    refine ⟨rfl, yes_of ?_⟩
    refine ⟨_, rfl, rfl, ?_⟩
    refine ⟨_, eD2, by rw [List.length_map, List.length_map, List.length_take]; exact szl _ (by omega), Same.but s3 nD2, ?_⟩
    rw [upd_same, ey, take_more gq, List.map_append, List.map_append]
    rfl
  rintro H6 ⟨s3, eD2⟩
  rw [lf, List.take_length] at eD2
  have s03 := s02.trans s3
  refine ⟨D2, _, rfl, SqL.of eD2, _, rfl, ?_⟩
  cases c : (ps.map fun p => decide (shOf p = none)).any id with
  | true =>
    refine iteT (kn (fun ⟨ds, e, _⟩ => by rw [all_sh.mpr ⟨ds, e⟩] at c; cases c) H6 s03)
  | false =>
    obtain ⟨ds, ed⟩ := all_sh.mp c
    refine iteF ?_
    obtain ⟨it, hD, hDb⟩ := items_sh (K := K) (C := C) (H := H5) (vs := fs) (ps := ps) h8 (by omega) ff
    have st : ∀ (D : Nat), (((ds.map some).map (oI D)).map fun x : Option Int => x.getD 0).sum = ((ds.map fun d => d.1 * (D / d.2)).sum : Int) := fun D => by
      clear kt ed
      induction ds with
      | nil => rfl
      | cons d ds ih =>
        rw [List.map_cons, List.map_cons, List.map_cons, List.sum_cons, ih, List.map_cons, List.sum_cons, Int.natCast_add]
        rfl
    have sm : oB (ps.map shOf) = pB ds := by
      rw [ed]
      unfold oB
      rw [List.map_map]
      show pB (ds.map id) = pB ds
      rw [List.map_id]
    have al : (((ps.map shOf).map (oI (oB (ps.map shOf)))).map from0).all id = true := by
      rw [ed]
      refine List.all_eq_true.mpr fun b mb => ?_
      obtain ⟨o, mo, rfl⟩ := List.mem_map.mp mb
      obtain ⟨o2, mo2, rfl⟩ := List.mem_map.mp mo
      obtain ⟨d, _, rfl⟩ := List.mem_map.mp mo2
      show decide ((0 : Int) ≤ ((d.1 * (oB (ds.map some) / d.2) : Nat) : Int)) = true
      exact decide_eq_true (Int.natCast_nonneg _)
    obtain ⟨nums, small⟩ := (it.same s3).nums al
    have hS : (((ps.map shOf).map (oI (oB (ps.map shOf)))).map fun x : Option Int => x.getD 0).sum = (((wts ds).sum : Nat) : Int) := by
      rw [sm, ed, st]
      rfl
    have ll : (((ps.map shOf).map (oI (oB (ps.map shOf)))).map fun x : Option Int => x.getD 0).length = ps.length := by rw [List.length_map, List.length_map, List.length_map]
    generalize (((ps.map shOf).map (oI (oB (ps.map shOf)))).map fun x : Option Int => x.getD 0) = Ss at nums small hS ll
    have hDI : (0 : Int) < ((oB (ps.map shOf) : Nat) : Int) := by omega
    have hDb4 : ((oB (ps.map shOf) : Nat) : Int).natAbs < 2 ^ 4000 := by show oB (ps.map shOf) < 2 ^ 4000; exact Nat.lt_trans hDb (by decide +kernel)
    rw [sm] at nums hDI hDb4
    refine ⟨_, rfl, fun z dz hz hd ne => si_ok hz hd ne (a := 0) (b := 1) (by decide) (by decide +kernel) fun H7 s7 e7 => ⟨rfl, ?_⟩⟩
    have e0 : shF (lowT 0 1) (lowB 0 1) = shF (lowT (Ss.take 0).sum (pB ds : Int)) (lowB (Ss.take 0).sum (pB ds : Int)) := by
      have h1 := low_whole (i := 0) hDI
      have h2 := low_int 0
      rw [Int.zero_mul] at h1
      rw [h2.1, h2.2, List.take_zero, List.sum_nil, h1.1, h1.2]
    rw [e0] at e7
    have eD7 : H7 D = some (.lst fs) := s7 _ _ (s3 _ _ eD)
    refine ⟨D, z, C, dz, _, fs, rfl, e7, nt, fun i acc H' => Same H7 H' ∧ ∃ a dx, acc = .ref a ∧ H' a = some (.ins C dx (shF (lowT (Ss.take i).sum (pB ds : Int)) (lowB (Ss.take i).sum (pB ds : Int)))),
      ⟨Same.refl _, z, dz, rfl, e7⟩, fun i acc H' ⟨_, a, _, e, _⟩ => ⟨a, e⟩, fun i acc H' _ ⟨s8, _⟩ => SqL.of (s8 _ _ eD7), ?_, ?_⟩
    · rintro i acc x H' hx ⟨s8, a, dx, rfl, ea⟩
      obtain ⟨S0, hSi, nx⟩ := (nums.same (s7.trans s8)).2 i x hx
      have hi : i < Ss.length := (List.getElem?_eq_some_iff.mp hSi).1
      have b1 : (Ss.take i).sum.natAbs < 2 ^ 4000 := sum_small (by rw [List.length_take]; omega) fun S hm => small S (List.mem_of_mem_take hm)
      have b2 : S0.natAbs < 2 ^ 4000 := Nat.lt_trans (small S0 (mem_of_at hSi)) (by decide +kernel)
      refine .inl ⟨a, dx, _, rfl, ea, other_of nx, a, dx, x, _, _, _, _, rfl, ea, nx, low_of hDI b1 hDb4, low_of hDI b2 hDb4, fun z2 dz2 H2 s9 e9 => ?_⟩
      rw [(low_sum hDI).1, (low_sum hDI).2] at e9
      refine ⟨s8.trans s9, z2, dz2, rfl, ?_⟩
      rw [take_more hSi, List.sum_append, List.sum_cons, List.sum_nil, Int.add_zero]
      exact e9
    · rintro acc H' ⟨s8, a, dx, rfl, ea⟩
      rw [nums.1, List.take_length, hS] at ea
      have s08 := (s03.trans s7).trans s8
      obtain ⟨c1, c2⟩ := cmp_fo (K := K) (C := C) (y := .int 1) (b := decide ((wts ds).sum = pB ds)) ea (.int 1) (by
        rw [Bool.eq_iff_iff]
        have h := low_one_iff (S := (((wts ds).sum : Nat) : Int)) hDI
        have h2 : ((((wts ds).sum : Nat) : Int) = ((pB ds : Nat) : Int)) ↔ (wts ds).sum = pB ds := by omega
        simp only [isI, Bool.true_and, Bool.and_eq_true, decide_eq_true_eq, V.int.injEq]
        rw [← h2, ← h]
        exact And.comm)
      refine q1 _ _ _ _ _ c1 ?_
      by_cases hs : (wts ds).sum = pB ds
      · refine ⟨_, rfl, iteFe (by rw [decide_eq_true hs]; rfl) ?_⟩
        refine ⟨_, rfl, _, rfl, by show 2 ≤ sizeLine; decide, fun q nq => ?_⟩
        obtain ⟨as, rfl, sh⟩ := shs_of (C := C) (H := H5) (vs := fs) (ds := ds) (by have := congrArg List.length ed; rw [List.length_map, List.length_map] at this; omega) fun i v d hv hd => by
          have il := (List.getElem?_eq_some_iff.mp hv).1
          have gq : ps[i]? = some (ps[i]'(by omega)) := List.getElem?_eq_getElem _
          have sv := ff i v _ hv gq
          have e2 : (ps.map shOf)[i]? = (ds.map some)[i]? := by rw [ed]
          rw [List.getElem?_map, gq, List.getElem?_map, hd] at e2
          rw [Option.some.inj e2] at sv
          exact sv
        have s58 := ((s3.trans s7).trans s8).trans (Same.put (o := .tup [.str (S l0), .ref D]) nq)
        exact kt ds ed hs q D as _ (s08.trans (Same.put nq)) (none_of_same s1 nD) upd_same (s58 _ _ eD) (sh.same s58)
      · refine ⟨_, rfl, iteTe (by rw [decide_eq_false hs]; rfl) ?_⟩
        refine kn (fun ⟨ds', e, hs'⟩ => hs ?_) H' s08
        rw [ed] at e
        have : ds = ds' := (List.map_inj_right fun x y e => Option.some.inj e).mp e
        rw [this]
        exact hs'
end
end KJ
set_option Elab.async false
set_option linter.all false
set_option maxRecDepth 100000
set_option maxHeartbeats 2000000
namespace KJ
open PySem L2 SX Tx
/-! ### the law's own look at a line -/
theorem first_at {c : Nat} {p q : List Nat} (h : c ∉ p) : ∃ r, PySem.Builtin.Str.occurrences (S (p ++ ([c] ++ q))) (S [c]) 0 (S (p ++ ([c] ++ q))).length 1 = p.length :: r := by
  have one : ∀ i : Nat, i + (⟨#[c]⟩ : Str).length ≤ (S (p ++ ([c] ++ q))).length ∧ Builtin.Str.subAt (S (p ++ ([c] ++ q))) ⟨#[c]⟩ i = true ↔ (p ++ ([c] ++ q))[i]? = some c := fun i => by
    rw [StrLaws.subAt_one]
  have at0 : (p ++ ([c] ++ q))[p.length]? = some c := by simp
  rcases StrLaws.occ_head (S (p ++ ([c] ++ q))) ⟨#[c]⟩ 1 (Nat.le_refl 1) with ⟨_, hn⟩ | ⟨i, r, h0, hi, hn⟩
  · exact absurd ((one p.length).mpr at0) (hn p.length)
  · refine ⟨r, ?_⟩
    show PySem.Builtin.Str.occurrences _ ⟨#[c]⟩ _ _ _ = _
    rw [h0]
    have e1 := (one i).mp hi
    rcases Nat.lt_trichotomy i p.length with hl | he | hg
    · rw [List.getElem?_append_left hl] at e1
      exact absurd (List.mem_of_getElem? e1) h
    · rw [he]
    · exact absurd ((one p.length).mpr at0) (hn p.length hg)
theorem IsRow.parts {r : List Nat} {x : RowD} (h : IsRow r x) : ∃ ps : List (List Nat), Nam x.1 ∧ ps ≠ [] ∧ ps.length ≤ 8 ∧ r = x.1.cps.toList ++ ([58] ++ (32 :: TL.joinL [32] ps)) ∧ ps.map shOf = x.2.map some ∧ (KJ.wts x.2).sum = pB x.2 := by
  obtain ⟨ps, h1, h2, h3, h4, h5⟩ := h
  have ne : ps ≠ [] := fun e => by
    subst e
    have : x.2 = [] := by
      cases q : x.2 with
      | nil => rfl
      | cons a l => rw [q] at h4; cases h4
    rw [this] at h5
    have h5 : (0 : Nat) = 1 := h5
    omega
  refine ⟨ps, h1, ne, h2, ?_, h4, h5⟩
  rw [h3, join_cons ne, List.append_assoc]
theorem row_no58 {r : List Nat} (h : 58 ∉ r) : rowOf r = none := rowOf_none.mpr fun ⟨x, hx⟩ => by
  obtain ⟨ps, _, _, _, e, _⟩ := hx.parts
  exact h (by rw [e]; simp)
/-- a told row, cut at the colon -/
theorem row_cut {p q : List Nat} (hp : 58 ∉ p) {x : RowD} (h : IsRow (p ++ ([58] ++ q)) x) : x.1 = S p ∧ namB p = true ∧ ∃ ps, sp 32 q = [] :: ps ∧ ps ≠ [] ∧ ps.length ≤ 8 ∧ ps.map shOf = x.2.map some ∧ (wts x.2).sum = pB x.2 := by
  obtain ⟨ps, h1, h2, h3, e, h4, h5⟩ := h.parts
  obtain ⟨a, b⟩ := cut_at hp (nam_free h1 (by omega)) e
  have ea : x.1 = S p := by rw [← S_tl x.1, ← a]
  have nb : namB p = true := by rw [a]; exact namB_iff.mpr h1
  refine ⟨ea, nb, ps, ?_, h2, h3, h4, h5⟩
  rw [show q = TL.joinL [32] ([] :: ps) by rw [join_cons h2]; exact b]
  refine sp_of (fun h => by cases h) fun r m => ?_
  rcases List.mem_cons.mp m with rfl | m
  · intro z; cases z
  · exact (sh_free h4 r m).1
theorem row_made {p q : List Nat} {ps : List (List Nat)} {ds : List (Nat × Nat)} (hn : namB p = true) (hq : sp 32 q = [] :: ps) (ne : ps ≠ []) (h8 : ps.length ≤ 8) (hs : ps.map shOf = ds.map some) (hw : (wts ds).sum = pB ds) : IsRow (p ++ ([58] ++ q)) (S p, ds) := by
  refine ⟨ps, namB_iff.mp (by show namB p = true; exact hn), h8, ?_, hs, hw⟩
  rw [join_cons ne]
  show p ++ ([58] ++ q) = (p ++ [58]) ++ _
  rw [← sp_join 32 q, hq, join_cons ne, List.append_assoc]
  rfl
/-- _law_line(line), of any line -/
def spLineL (C : Addr) : Sp := fun vs H Q _ => ∃ r : List Nat, vs = [.str (S r)] ∧ r.length ≤ 100000 ∧ ∀ (v : V) (H' : Hp), Same H H' → LnV (fun b => H b = none) C H' v (rowOf r) → Q v H'
section
variable {P : Program} {w : World} {K : PySem.W.Frag} {mg : Str → Option Value} {base : Heap} {C CC B : Addr}
theorem ok_ln {f : Addr} {fd : FuncData} (F : Fun K "_law_line" "_law_line" s_ln f fd) (T : Bm mg) (n_sum : mg "sum" = none) (n_any : mg "any" = none) (m : MkT P w K mg base C B) (nt : NoTxt K C) (ad : AddT P w K mg base C) (c_eq : EqT P w K mg base C) (c_wd : Cal P w K mg base 6 "_law_word" ["_law_word_here"] (spWordL C)) : FnOk P w K mg base CX0 10 f fd ["_law_line_here"] (spLineL C) := by
  refine F.ok sc_ln (fun vs H Q E h => ?_) (fun cdv A outer s H vs Q E hr h => ?_)
  · obtain ⟨t, rfl, _⟩ := h
    rfl
  · obtain ⟨r, rfl, hw, k⟩ := h
    obtain ⟨u, hu, qu⟩ := segLn (f := f) (cdv := cdv) (A := A) (outer := outer) (s := s) (H := H) (E := E) (Q := Q) T n_sum n_any m nt ad c_eq c_wd hr
    refine ⟨_, (pss_cons (ps_if (pt_cmpR op_notIn_str pe_str (pv 0) (by rfl))
        (pss_one (ps_ret pe_non))
        pss_nil)
      (pss_cons (ps_set (i := 1) sc_ln.nd rfl (Or.inl rfl) (pe_m1 PySem.F.slot_str_index PySem.F.type_str_index mt_sindex (pv 0) pe_str))
      (pss_cons (ps_par (i := 2) (j := 3) (by rfl) sc_ln.nd rfl rfl (by decide) rfl rfl (pa_cons (pe_slice C8.sl_txt (pv 0) po_none (po_some (pv 1))) (pa_cons (pe_split (pe_slice C8.sl_txt (pv 0) (po_some (pe_op op_add (pv 1) pe_int)) po_none) pe_str) pa_nil)) (by rfl))
      (pss_cons (ps_if (PW.pt (pw_or (pt_not (pt_chain op_le op_le pe_int (pe_callB call_len_str (by rfl) T.b.n_len PySem.boot_len (pa_cons (pv 2) pa_nil)) pe_int)) (pw_or1 (pt_not (pt_val (pe_callB (cr_all rfl) (by rfl) T.n_all PyProof.Rows.boot_all (pa_cons (pe_lc (own := [("_law_sign", 7)]) rfl sc_ln.nd (pi_str (pv 2)) (blkOk_by (N := nLn) (sc := defScope s_ln) (by decide +kernel)) (fun _ _ _ _ _ => (pg_name (i := 7) sc_ln.nd rfl (Or.inl rfl))) (fun _ _ _ _ _ => pts_nil) (fun _ _ _ _ _ => (pe_cmpR op_in_sign (pv 7) pe_str (by rfl)))) pa_nil)))))))
        (pss_one (ps_ret pe_non))
        pss_nil)
      (pss_cons (ps_if (PW.pt (pw_or (pt_cmpR op_ne (pe_ix (show IxR _ (rIxL K) from ix_list) (pv 3) pe_int (fun _ _ => rfl)) pe_str (nomark _)) (pw_or1 (pt_not (pt_chain op_le op_le pe_int (pe_callB call_len_seq (by rfl) T.b.n_len PySem.boot_len (pa_cons (pv 3) pa_nil)) pe_int)))))
        (pss_one (ps_ret pe_non))
        pss_nil) hu))))), ?_⟩
    refine ⟨_, rfl, _, _, rfl, rfl, _, rfl, ?_⟩
    have isin : (!(PySem.Builtin.Str.occurrences (S r) (Str.ofString ":") 0 (S r).length 1).isEmpty) = decide (58 ∈ r) := in_one r 58
    rw [isin]
    by_cases h58 : 58 ∈ r
    rotate_left
    · refine iteTe (by rw [decide_eq_false h58]; rfl) (k _ H (Same.refl H) ?_)
      rw [row_no58 h58]
      rfl
    refine iteFe (by rw [decide_eq_true h58]; rfl) ?_
    obtain ⟨l0, q, hl0, rfl⟩ := cut_mem h58
    obtain ⟨o1, hocc⟩ := first_at (q := q) hl0
    have sml : (S (l0 ++ ([58] ++ q))).length ≤ sizeLine := by rw [S_len]; exact Nat.le_trans hw (by decide)
    rw [List.length_append, List.length_append] at hw
    have hw : l0.length + (1 + q.length) ≤ 100000 := hw
    refine ⟨_, rfl, ⟨_, rfl⟩, _, _, _, _, rfl, rfl, hocc, ?_⟩
    refine ⟨_, rfl, _, rfl, _, rfl, _, rfl, sml, ?_⟩
    rw [to_app l0 ([58] ++ q) (i := (l0.length : Int)) rfl]
    refine ⟨_, rfl, _, rfl, _, _, rfl, rfl, _, rfl, _, rfl, sml, ?_⟩
    have ap : l0 ++ ([58] ++ q) = (l0 ++ [58]) ++ q := (List.append_assoc _ _ _).symm
    rw [show Txt.slice (S (l0 ++ ([58] ++ q))) (some ((l0.length : Int) + 1)) none = S q by rw [ap]; exact from_app (l0 ++ [58]) q (by rw [List.length_append]; rfl)]
    have e0 : Txt.split (S q) (Str.ofString " ") = (sp 32 q).map S := split_sp (by decide) q
    refine ⟨⟨_, rfl⟩, _, _, rfl, rfl, rfl, by rw [S_len]; exact Nat.le_trans (show q.length + 2 ≤ 100002 by omega) (by decide), fun p np => ?_⟩
    have sq := Same.put (o := .lst ((Txt.split (S q) (Str.ofString " ")).map V.str)) np
    have ep : (upd H p (.lst ((Txt.split (S q) (Str.ofString " ")).map V.str))) p = some (.lst (sL (sp 32 q))) := by rw [upd_same, e0]
    generalize (upd H p (.lst ((Txt.split (S q) (Str.ofString " ")).map V.str))) = H1 at sq ep ⊢
    refine ⟨_, _, rfl, ?_⟩
    have no_nm : namB l0 = false → ∀ H', Same H1 H' → Q .non H' := fun hn H' s' => k _ H' (sq.trans s') (by
      rw [rowOf_none.mpr fun ⟨x, hx⟩ => by
        have := (row_cut hl0 hx).2.1
        rw [hn] at this
        cases this]
      rfl)
    have sml0 : (S l0).length ≤ sizeLine := by rw [S_len]; exact Nat.le_trans (show l0.length ≤ 100000 by omega) (by decide)
    have ll0 : (S l0).length = l0.length := S_len _
    refine ⟨_, rfl, _, rfl, sml0, 1, _, rfl, rfl, _, rfl, ?_⟩
    by_cases h1 : 1 ≤ l0.length
    rotate_left
    · refine iteFe (decide_eq_false (by rw [ll0]; omega)) ⟨_, rfl, iteT ?_⟩
      exact no_nm (by unfold namB; rw [decide_eq_false (fun h => h1 h.1), Bool.false_and]) H1 (Same.refl H1)
    refine iteTe (decide_eq_true (by rw [ll0]; omega)) ?_
    refine ⟨_, 8, rfl, rfl, _, rfl, ?_⟩
    have lenI : decide (((S l0).length : Int) ≤ 8) = decide (1 ≤ l0.length ∧ l0.length ≤ 8) := by rw [ll0, decide_eq_decide]; omega
    rw [lenI]
    cases c : decide (1 ≤ l0.length ∧ l0.length ≤ 8) with
    | false => exact iteT (no_nm (by unfold namB; rw [c, Bool.false_and]) H1 (Same.refl H1))
    | true =>
    have c' := of_decide_eq_true c
    refine iteF ?_
    refine ⟨_, rfl, S l0, rfl, fun D nD => ?_⟩
    let Pv : Nat → Hp → Prop := fun i H' => Same H1 H' ∧ H' D = some (.lst (((l0.take i).map isLt).map V.bl))
    have hs : (S l0).cps.size = l0.length := by simp
    refine ⟨fun i j H' => j + i = (S l0).cps.size ∧ Pv i H', ⟨(S l0).cps.size, rfl, Same.put nD, upd_same⟩, fun i j H2 ⟨em, pv⟩ => ?_⟩
    cases j with
    | succ j =>
      refine .inr ⟨show i < (S l0).cps.size by omega, Pv (i + 1), fun H' p' => ⟨j, Nat.lt_succ_self j, by omega, p'⟩, fun v H' y => ?_⟩
      obtain ⟨e, c2, hc, rfl⟩ := y
      subst e
      have hc' : l0[i]? = some c2 := by rw [← hc]; simp
      refine ⟨rfl, yes_of ?_⟩
      refine ⟨_, rfl, c2, Str.ofString "abcdefghijklmnopqrstuvwxyz", rfl, rfl, ?_⟩
      rw [show decide (c2 ∈ (Str.ofString "abcdefghijklmnopqrstuvwxyz").cps.toList) = isLt c2 from abc_iff c2]
      refine ⟨_, pv.2, by rw [List.length_map, List.length_map, List.length_take]; exact small_len (by omega), Same.but (fun b u e => pv.1 _ _ e) nD, ?_⟩
      rw [upd_same, take_more hc', List.map_append, List.map_append]
      rfl
    | zero =>
    obtain ⟨s2, eD⟩ := pv
    refine .inl ⟨show (S l0).cps.size ≤ i by omega, D, _, rfl, SqL.of eD, ?_⟩
    have e : ((l0.take i).map isLt).all id = l0.all isLt := by
      rw [List.take_of_length_le (by omega), List.all_map]
      rfl
    rw [e]
    refine ⟨_, rfl, ?_⟩
    cases ca : l0.all isLt with
    | false => exact iteT (no_nm (by unfold namB; rw [ca, Bool.and_false]) H2 s2)
    | true =>
    have nb : namB l0 = true := by unfold namB; rw [c, ca]; rfl
    refine iteF ?_
    have ep2 := s2 _ _ ep
    have s02 := sq.trans s2
    obtain ⟨w0, ps, hq⟩ : ∃ w0 ps, sp 32 q = w0 :: ps := by
      cases e : sp 32 q with
      | nil => exact absurd e (sp_ne 32 q)
      | cons l ps => exact ⟨l, ps, rfl⟩
    have lens : ∀ z ∈ ps, z.length ≤ 200000 := fun z mz => Nat.le_trans (sp_len 32 q z (by rw [hq]; exact List.mem_cons_of_mem _ mz)) (by omega)
    have no_ps : ¬ (w0 = [] ∧ ps ≠ [] ∧ ps.length ≤ 8) → ∀ H', Same H2 H' → Q .non H' := fun hn H' s' => k _ H' (s02.trans s') (by
      rw [rowOf_none.mpr fun ⟨x, hx⟩ => by
        obtain ⟨_, _, ps', e1, e2, e3, _⟩ := row_cut hl0 hx
        rw [hq] at e1
        obtain ⟨e4, e5⟩ := List.cons.inj e1
        subst e5
        exact hn ⟨e4, e2, e3⟩]
      rfl)
    rw [hq] at ep2
    refine ⟨_, rfl, p, _, 0, _, rfl, rfl, SqL.of ep2, atI_nat (j := 0) rfl, rfl, _, rfl, ?_⟩
    by_cases hw0 : w0 = []
    rotate_left
    · refine iteTe (by rw [decide_eq_false (show ¬ V.str (S w0) = V.str (Str.ofString "") from fun e => hw0 (S_inj (b := []) (V.str.inj e)))]; rfl) ?_
      exact no_ps (fun h => hw0 h.1) H2 (Same.refl H2)
    subst hw0
    refine iteFe (by rfl) ?_
    refine ⟨_, rfl, p, _, rfl, .inl (SqL.of ep2), 2, _, rfl, rfl, _, rfl, ?_⟩
    have ll : (sL ([] :: ps)).length = ps.length + 1 := sL_len
    rw [ll]
    by_cases h2 : ps = []
    · subst h2
      refine iteFe (by rfl) ⟨_, rfl, iteT ?_⟩
      exact no_ps (fun h => h.2.1 rfl) H2 (Same.refl H2)
    have p1 : 1 ≤ ps.length := List.length_pos_iff.mpr h2
    refine iteTe (decide_eq_true (by omega)) ?_
    refine ⟨_, 9, rfl, rfl, _, rfl, ?_⟩
    by_cases h8 : ps.length ≤ 8
    rotate_left
    · rw [decide_eq_false (by omega)]
      exact iteT (no_ps (fun h => h8 h.2.2) H2 (Same.refl H2))
    rw [decide_eq_true (by omega)]
    refine iteF ?_
    refine qu _ _ l0 ps p H2 h8 lens ep2 (fun ds hd hsum q2 b as H' s' nb0 e1 e2 e3 => ?_) (fun hn H' s' => ?_)
    · refine k _ H' (s02.trans s') ?_
      rw [rowOf_some.mpr (row_made nb hq h2 h8 hd hsum)]
      exact ⟨q2, b, as, rfl, none_of_same s02 nb0, e1, e2, e3⟩
    · refine k _ H' (s02.trans s') ?_
      rw [rowOf_none.mpr fun ⟨x, hx⟩ => by
        obtain ⟨_, _, ps', e1, e2, e3, e4, e5⟩ := row_cut hl0 hx
        rw [hq] at e1
        obtain ⟨_, e6⟩ := List.cons.inj e1
        subst e6
        exact hn ⟨x.2, e4, e5⟩]
      rfl
end
end KJ
set_option Elab.async false
set_option linter.all false
set_option maxRecDepth 100000
set_option maxHeartbeats 2000000
namespace KJ
open PySem L2 SX Tx
/-! ### the law's own look at a text -/
/-- rows in a list -/
def DueL (C : Addr) (H : Hp) (l : Addr) (ds : List RowD) : Prop := ∃ vs : List V, H l = some (.lst vs) ∧ vs.length = ds.length ∧ ∀ (j : Nat) (v : V) (x : RowD), vs[j]? = some v → ds[j]? = some x → LnV (fun _ => True) C H v (some x)
theorem DueL.same {C : Addr} {H H' : Hp} {l : Addr} {ds : List RowD} (h : DueL C H l ds) (s : Same H H') : DueL C H' l ds := by
  obtain ⟨vs, h1, h2, h3⟩ := h
  exact ⟨vs, s _ _ h1, h2, fun j v x e1 e2 => (h3 j v x e1 e2).same s⟩
/-- _law_due(text), of any text -/
def spDueL (C : Addr) : Sp := fun vs H Q _ => ∃ w : List Nat, vs = [.str (S w)] ∧ w.length ≤ 100000 ∧
  (∀ n : Nat, IsDue w (.inl n) → ∀ (r : Addr) (H' : Hp), Same H H' → H' r = some (.tup [.str "bad", .int (n : Int)]) → Q (.ref r) H') ∧
  (∀ ds : List RowD, IsDue w (.inr ds) → ∀ (l r : Addr) (H' : Hp), Same H H' → DueL C H' l ds → H' r = some (.tup [.str "told", .ref l]) → Q (.ref r) H')
section
variable {P : Program} {w : World} {K : PySem.W.Frag} {mg : Str → Option Value} {base : Heap} {C CC B : Addr}
abbrev s_due : Stmt := top 60
abbrev nDu : List Str := ["_law_text", "_law_lines", "_law_found", "_law_k", "_law_line_here"]
theorem sc_due : FnScope nDu ["_law_text"] (defScope s_due) := ⟨rfl, rfl, rfl, by decide +kernel, rfl, by decide +kernel, by decide +kernel⟩
theorem ok_due {f : Addr} {fd : FuncData} (F : Fun K "_law_due" "_law_due" s_due f fd) (T : Bm mg) (n_range : mg "range" = none) (c_ln : Cal P w K mg base 10 "_law_line" ["_law_line_here"] (spLineL C)) : FnOk P w K mg base CX0 11 f fd ["_law_text"] (spDueL C) := by
  refine F.ok sc_due (fun vs H Q E h => ?_) (fun cdv A outer s H vs Q E hr h => ?_)
  · obtain ⟨t, rfl, _⟩ := h
    rfl
  · obtain ⟨wd, rfl, hw, kb, kt⟩ := h
    refine ⟨_, (pss_cons (ps_set (i := 1) sc_due.nd rfl (Or.inl rfl) (pe_split (pv 0) pe_str))
      (pss_cons (ps_if (PW.pt (pw_or (pt_cmpR op_ne (pe_ix (show IxR _ (rIxL K) from ix_list) (pv 1) (pe_un un_neg pe_int) (fun _ _ => rfl)) pe_str (nomark _)) (pw_or1 (pt_cmpR op_eq (pe_callB call_len_seq (by rfl) T.b.n_len PySem.boot_len (pa_cons (pv 1) pa_nil)) pe_int (nomark _)))))
        (pss_one (ps_ret (pe_tup (pa_cons pe_str (pa_cons (pe_callB call_len_seq (by rfl) T.b.n_len PySem.boot_len (pa_cons (pv 1) pa_nil)) pa_nil)))))
        pss_nil)
      (pss_cons (ps_setLc (i := 2) (own := [("_law_line_here", 4)]) rfl sc_due.nd rfl rfl (sw_true rfl rfl rfl (by decide +kernel)) (pi_list (pe_slice sl_list (pv 1) po_none (po_some (pe_un un_neg pe_int)))) (blkOk_by (N := nDu) (sc := defScope s_due) (by decide +kernel)) (fun _ _ _ _ _ => (pg_name (i := 4) sc_due.nd rfl (Or.inl rfl))) (fun _ _ _ _ _ => pts_nil) (fun _ _ _ _ _ => (pe_cal c_ln (hr.mono (by decide)) rfl (pa_cons (pv 4) pa_nil))))
      (pss_cons (ps_for PassesOwn.never rfl (pi_range1 (by rfl) n_range (pa_cons (pe_callB call_len_seq (by rfl) T.b.n_len PySem.boot_len (pa_cons (pv 2) pa_nil)) pa_nil)) (pg_name (i := 3) sc_due.nd rfl (Or.inl rfl))
        (pss_one (ps_if (pt_cmpR op_isN (pe_ix (show IxR _ (rIxL K) from ix_list) (pv 2) (pv 3) (fun _ _ => rfl)) pe_non (nomark _))
          (pss_one (ps_ret (pe_tup (pa_cons pe_str (pa_cons (pe_op op_add (pv 3) pe_int) pa_nil)))))
          pss_nil)))
      (pss_cons (ps_for PassesOwn.never rfl (pi_range1 (by rfl) n_range (pa_cons (pe_callB call_len_seq (by rfl) T.b.n_len PySem.boot_len (pa_cons (pv 2) pa_nil)) pa_nil)) (pg_name (i := 3) sc_due.nd rfl (Or.inl rfl))
        (pss_one (ps_if (pt_cmpR op_ne (pe_callB call_len_seq (by rfl) T.b.n_len PySem.boot_len (pa_cons (pe_ix ix_tup (pe_ix (show IxR _ (rIxL K) from ix_list) (pv 2) (pv 3) (fun _ _ => rfl)) pe_int (fun _ _ => rfl)) pa_nil)) (pe_callB call_len_seq (by rfl) T.b.n_len PySem.boot_len (pa_cons (pv 2) pa_nil)) (nomark _))
          (pss_one (ps_ret (pe_tup (pa_cons pe_str (pa_cons (pe_op op_add (pv 3) pe_int) pa_nil)))))
          pss_nil)))
      (pss_one (ps_ret (pe_tup (pa_cons pe_str (pa_cons (pv 2) pa_nil)))))))))), ?_⟩
    have szl : ∀ n : Nat, n ≤ 100000 → n < sizeLine := fun n h => Nat.lt_of_le_of_lt h (by decide)
    have two : 2 ≤ sizeLine := by decide
    obtain ⟨u, z, e⟩ := last_of (sp_ne 10 wd)
    have e0 : Txt.split (S wd) (Str.ofString "\n") = (sp 10 wd).map S := split_sp (by decide) wd
    have cnt := sp_count 10 wd
    rw [e, List.length_append] at cnt
    have cnt : u.length + 1 ≤ wd.length + 1 := cnt
    have lens : ∀ q ∈ u, q.length ≤ 100000 := fun q m => Nat.le_trans (sp_len 10 wd q (by rw [e]; exact List.mem_append_left _ m)) hw
    refine ⟨_, rfl, ⟨_, rfl⟩, _, _, rfl, rfl, rfl, by rw [S_len]; exact Nat.le_trans (Nat.add_le_add_right hw 2) (by decide), fun p np => ?_⟩
    have sq := Same.put (o := .lst ((Txt.split (S wd) (Str.ofString "\n")).map V.str)) np
    have ep : (upd H p (.lst ((Txt.split (S wd) (Str.ofString "\n")).map V.str))) p = some (.lst (sL u ++ [V.str (S z)])) := by rw [upd_same, e0, e, List.map_append, List.map_append]; rfl
    generalize (upd H p (.lst ((Txt.split (S wd) (Str.ofString "\n")).map V.str))) = H1 at sq ep ⊢
    have lp : (sL u ++ [V.str (S z)]).length = u.length + 1 := by rw [List.length_append, sL_len]; rfl
    refine ⟨_, rfl, _, rfl, p, _, -1, .str (S z), rfl, rfl, SqL.of ep, atI_last _ _, ?_⟩
    refine ⟨rfl, _, rfl, ?_⟩
    by_cases hz : z = []
    rotate_left
    · refine iteTe (by rw [decide_eq_false (fun e : V.str (S z) = V.str (Str.ofString "") => hz (S_inj (a := z) (b := []) (V.str.inj e)))]; rfl) ?_
      refine ⟨_, rfl, p, _, rfl, .inl (SqL.of ep), two, fun r nr => ?_⟩
      rw [lp]
      exact kb _ (.last e hz) r _ (sq.trans (Same.put nr)) upd_same
    subst hz
    refine iteFe (by rfl) ?_
    refine ⟨_, rfl, p, _, rfl, .inl (SqL.of ep), ?_⟩
    rw [lp]
    refine ⟨rfl, _, rfl, ?_⟩
    by_cases hu : u = []
    · subst hu
      refine iteTe (by rfl) ?_
      refine ⟨_, rfl, p, _, rfl, .inl (SqL.of ep), two, fun r nr => ?_⟩
      exact kb 1 (.none e) r _ (sq.trans (Same.put nr)) upd_same
    have u1 : 1 ≤ u.length := List.length_pos_iff.mpr hu
    refine iteFe (decide_eq_false (fun h => by rw [V.int.injEq] at h; omega)) ?_
    refine ⟨_, rfl, _, rfl, _, rfl, p, _, rfl, SqL.of ep, fun l nl => ?_⟩
    rw [cut_last]
    have s1 := sq.trans (Same.put (o := .lst (sL u)) nl)
    have el : (upd H1 l (.lst (sL u))) l = some (.lst (sL u)) := upd_same
    generalize (upd H1 l (.lst (sL u))) = H2 at s1 el ⊢
    refine ⟨l, rfl, ⟨_, SqL.of el⟩, fun D nD => ?_⟩
    refine lc_list (K := K) (a := l) (xs := sL u) (fun i H' => Same H2 H' ∧ ∃ fs : List V, H' D = some (.lst fs) ∧ fs.length = i ∧ ∀ (j : Nat) (v : V) (r : List Nat), fs[j]? = some v → u[j]? = some r → LnV (· ≠ D) C H' v (rowOf r)) ⟨Same.put nD, [], upd_same, rfl, fun j v r h => by simp at h⟩ (fun i H' _ h => SqL.of (h.1 _ _ el)) ?_ ?_
    · rintro i y H' hy ⟨s2, fs, eD, lf, ff⟩
      obtain ⟨q, hq, mq, rfl⟩ := sL_at hy
      have il := (List.getElem?_eq_some_iff.mp hq).1
      refine ⟨rfl, yes_of ?_⟩
      refine ⟨_, rfl, q, rfl, lens q mq, fun v H5 s5 hv => ?_⟩
      have eD5 := s5 _ _ eD
      have hv : LnV (· ≠ D) C H5 v (rowOf q) := hv.mono fun b hb z => by rw [z, eD] at hb; cases hb
      refine ⟨fs, eD5, szl _ (by omega), Same.but (fun b u e => s5 _ _ (s2 _ _ e)) nD, fs ++ [v], upd_same, by rw [List.length_append, lf]; rfl, fun j v' q' hv' hq' => ?_⟩
      rcases Nat.lt_or_ge j fs.length with h | h
      · rw [List.getElem?_append_left h] at hv'
        exact ((ff j v' q' hv' hq').same s5).lstU eD5
      · have hj := (List.getElem?_eq_some_iff.mp hv').1
        rw [List.length_append] at hj
        have hj : j < fs.length + 1 := hj
        have ej : j = i := by omega
        subst ej
        rw [← lf, List.getElem?_concat_length] at hv'
        cases hv'
        rw [hq] at hq'
        cases hq'
        exact hv.lstU eD5
    rintro H3 ⟨s2, fs, eD, lf, ff⟩
    rw [sL_len] at lf
    have s03 := s1.trans s2
    have gu : ∀ i, i < fs.length → ∃ r, u[i]? = some r := fun i hi => ⟨_, List.getElem?_eq_getElem (by omega)⟩
    have r62 : -(2 ^ 62) ≤ (fs.length : Int) ∧ (fs.length : Int) < 2 ^ 62 := by omega
    refine ⟨_, rfl, D, fs, rfl, .inl (SqL.of eD), _, rfl, r62.1, r62.2, ?_⟩
    refine for_range (n := fs.length) (fun i σ H' => ∃ v3 : Option V, σ = [some (.str (S wd)), some (.ref p), some (.ref D), v3, none] ∧ H' = H3 ∧ ∀ j r, j < i → u[j]? = some r → rowOf r ≠ .none) ⟨none, rfl, rfl, fun j r h => absurd h (by omega)⟩ ?_ ?_
    · rintro i σ H' hi ⟨v3, rfl, rfl, ok⟩
      obtain ⟨r, hr'⟩ := gu i hi
      have gf : fs[i]? = some fs[i] := List.getElem?_eq_getElem hi
      generalize fs[i] = y at gf
      have g4 := ff i y r gf hr'
      rw [Int.zero_add]
      refine ⟨_, rfl, _, rfl, D, fs, (i : Int), y, rfl, rfl, SqL.of eD, atI_nat gf, ?_⟩
      refine ⟨rfl, _, rfl, ?_⟩
      cases c : rowOf r with
      | some x =>
        rw [c] at g4
        obtain ⟨t, b, as, rfl, _⟩ := g4
        refine iteFe (decide_eq_false fun z => by cases z) ⟨_, rfl, rfl, fun j r' hj hw => ?_⟩
        by_cases cj : j = i
        · subst cj
          rw [hr'] at hw
          cases hw
          rw [c]
          exact fun z => by cases z
        · exact ok j r' (by omega) hw
      | none =>
        rw [c] at g4
        have g4 : y = .non := g4
        subst g4
        refine iteTe (decide_eq_true rfl) ?_
        refine ⟨_, rfl, _, _, rfl, rfl, two, fun q nq => ?_⟩
        exact kb (i + 1) (.row e ⟨r, hr', c⟩ ok) q _ (s03.trans (Same.put nq)) upd_same
    · rintro σ H4 ⟨v3, rfl, rfl, ok⟩
      obtain ⟨ds, hd⟩ : ∃ ds : List RowD, u.map rowOf = ds.map some := by
        refine ⟨(u.map rowOf).map fun o => o.getD ("", []), ?_⟩
        rw [List.map_map]
        refine (List.map_id _).symm.trans (List.map_congr_left fun o mo => ?_)
        obtain ⟨r, mr, rfl⟩ := List.mem_map.mp mo
        obtain ⟨j, hj⟩ := List.mem_iff_getElem?.mp mr
        have := ok j r (by have := (List.getElem?_eq_some_iff.mp hj).1; omega) hj
        cases q : rowOf r with
        | none => exact absurd q this
        | some x => rfl
      have ld := rows_len hd
      have fo : ∀ j v x, fs[j]? = some v → ds[j]? = some x → LnV (· ≠ D) C H4 v (some x) := fun j v x hv hx => by
        obtain ⟨r, hr'⟩ := gu j (List.getElem?_eq_some_iff.mp hv).1
        obtain ⟨x2, q1, q2⟩ := rows_at hd hr'
        rw [hx] at q1
        cases q1
        have g4 := ff j v r hv hr'
        rwa [q2] at g4
      refine ⟨_, rfl, D, fs, rfl, .inl (SqL.of eD), _, rfl, r62.1, r62.2, ?_⟩
      refine for_range (n := fs.length) (fun i σ H' => ∃ v3 : Option V, σ = [some (.str (S wd)), some (.ref p), some (.ref D), v3, none] ∧ H' = H4 ∧ ∀ j x, j < i → ds[j]? = some x → x.2.length = ds.length) ⟨_, rfl, rfl, fun j r h => absurd h (by omega)⟩ ?_ ?_
      · rintro i σ H' hi ⟨v3, rfl, rfl, ok2⟩
        have gf : fs[i]? = some fs[i] := List.getElem?_eq_getElem hi
        have gd : ds[i]? = some (ds[i]'(by omega)) := List.getElem?_eq_getElem _
        generalize fs[i] = y at gf
        generalize (ds[i]'(by omega)) = x at gd
        obtain ⟨t, b, as, rfl, _, h1, h2, h3⟩ := fo i y x gf gd
        rw [Int.zero_add]
        refine ⟨_, rfl, _, rfl, D, fs, (i : Int), .ref t, rfl, rfl, SqL.of eD, atI_nat gf, ?_⟩
        refine ⟨t, _, 1, .ref b, rfl, rfl, SqT.of h1, atI_nat (j := 1) rfl, ?_⟩
        refine ⟨b, _, rfl, .inl (SqL.of h2), _, rfl, D, fs, rfl, .inl (SqL.of eD), ?_⟩
        refine ⟨rfl, _, rfl, ?_⟩
        rw [List.length_map, h3.1]
        by_cases hx : x.2.length = ds.length
        · refine iteFe (by rw [decide_eq_true (show V.int (x.2.length : Int) = V.int (fs.length : Int) by rw [V.int.injEq]; omega)]; rfl) ⟨_, rfl, rfl, fun j x' hj e' => ?_⟩
          by_cases cj : j = i
          · subst cj
            rw [gd] at e'
            cases e'
            exact hx
          · exact ok2 j x' (by omega) e'
        · refine iteTe (by rw [decide_eq_false (show ¬ V.int (x.2.length : Int) = V.int (fs.length : Int) from fun e => hx (by rw [V.int.injEq] at e; omega))]; rfl) ?_
          refine ⟨_, rfl, _, _, rfl, rfl, two, fun q nq => ?_⟩
          exact kb (i + 1) (.len e hd ⟨x, gd, hx⟩ ok2) q _ (s03.trans (Same.put nq)) upd_same
      · rintro σ H5 ⟨v3, rfl, rfl, ok2⟩
        have due : IsDue wd (.inr ds) := .told e hu hd fun x m => by
          obtain ⟨j, hj⟩ := List.mem_iff_getElem?.mp m
          exact ok2 j x (by have := (List.getElem?_eq_some_iff.mp hj).1; omega) hj
        refine ⟨_, rfl, two, fun q nq => ?_⟩
        have sq2 := Same.put (o := .tup [.str "told", .ref D]) nq
        exact kt ds due D q _ (s03.trans sq2) ⟨fs, sq2 _ _ eD, by omega, fun j v x hv hx => ((fo j v x hv hx).same sq2).mono fun _ _ => trivial⟩ upd_same
end
end KJ
set_option Elab.async false
set_option linter.all false
set_option maxRecDepth 100000
set_option maxHeartbeats 4000000
/-! text * int -/
namespace L2
open PySem PySem.Spec PyProof.Rows SX
theorem foldl_repS (a : List Nat) : ∀ (k : Nat) (acc : Array Nat), List.foldl (fun x1 x2 => x1 ++ x2) acc (List.replicate k a.toArray) = acc ++ (List.replicate k a).flatten.toArray
  | 0, acc => by simp
  | k + 1, acc => by
    rw [List.replicate_succ, List.foldl_cons, foldl_repS a k, List.replicate_succ, List.flatten_cons]
    simp
theorem mul_S (a : List Nat) (n : Nat) : Txt.mul (S a) (n : Int) = S (List.replicate n a).flatten := by
  unfold Txt.mul
  by_cases h0 : n = 0
  · subst h0
    rw [if_pos (by decide)]
    rfl
  rw [if_neg (by omega)]
  by_cases h1 : n = 1
  · subst h1
    rw [if_pos (by rfl)]
    simp
  by_cases h2 : a = []
  · subst h2
    rw [if_pos (by rw [show (S []).length = 0 from rfl, Bool.or_eq_true]; exact .inr rfl)]
    have : ∀ k : Nat, (List.replicate k ([] : List Nat)).flatten = [] := fun k => by simp
    rw [this]
  · rw [if_neg ?_]
    · rw [Int.toNat_natCast]
      show Str.mk (List.foldl (fun x1 x2 => x1 ++ x2) #[] (List.replicate n a.toArray)) = _
      rw [foldl_repS]
      simp
    · rw [Bool.or_eq_true]
      rintro (h | h)
      · have := eq_of_beq h; omega
      · have h := eq_of_beq h
        rw [S_len] at h
        exact h2 (List.length_eq_zero_iff.mp h)
def rRepS : R2 := fun x y H Q => ∃ (a : List Nat) (n : Nat), x = .str (S a) ∧ y = .int (n : Int) ∧ a.length ≤ 100 ∧ n ≤ 100000 ∧ Q (.str (S (List.replicate n a).flatten)) H
section
variable {X : Cx}
theorem op_repS : OpR X (binaryOp .Mult) rRepS := by
  intro pins s σ H x y v u Q I rx ry h
  obtain ⟨a, n, rfl, rfl, ha, hn, q⟩ := h
  obtain ⟨t, rfl⟩ := rx
  obtain ⟨t', rfl⟩ := ry
  refine SB.mul ⟨?_, fun h1 _ h => ?_, fun h1 _ => ?_⟩ fun t2 k => ?_
  · rw [Bool.or_eq_false_iff, decide_eq_false_iff_not, decide_eq_false_iff_not]
    omega
  · rw [S_len] at h
    have h3 : (100 : Int) ≤ (2 ^ 63 - 1) / (n : Int) := by
      rw [Int.le_ediv_iff_mul_le (by omega)]
      omega
    omega
  · rw [S_len, Int.toNat_natCast]
    have : a.length * n ≤ 100 * 100000 := Nat.mul_le_mul ha hn
    unfold Builtin.Str.tooLong
    exact decide_eq_false (Nat.not_lt.mpr (Nat.le_trans this (by decide)))
  · rw [mul_S]
    exact ⟨.str _, H, I.tok _, ⟨_, rfl⟩, q⟩
end
end L2
set_option Elab.async false
set_option linter.all false
set_option maxRecDepth 100000
set_option maxHeartbeats 2000000
namespace KJ
open PySem L2 SX Tx
/-! ### the law's other words: only their length matters -/
/-- another text: of the length of the first and no more than m beside -/
def OthQ (Q : VK) (a : Addr) (H : Hp) (m : Nat) : Prop := ∀ (x : List Nat) (H' : Hp), x.length ≤ m → Keep a H H' → PoolAt H' a → Q (.str (S x)) H'
def spOtherW : Sp := fun vs H Q _ => ∃ (a : Addr) (wd : List Nat), vs = [.ref a, .str (S wd)] ∧ PoolAt H a ∧ wd.length ≤ 100000 ∧ OthQ Q a H (wd.length + 6000)
/-- one of these texts -/
theorem picked {a t : Addr} {H0 H : Hp} {ls : List Str} {b : Nat} {x : V} {o : HO} (hp : PoolAt H a) (k : Keep a H0 H) (nt : H t = none) (hb : ∀ s ∈ ls, s.length ≤ b) (hx : x ∈ sV ls) (ho : PoolL o) :
    ∃ u : List Nat, x = .str (S u) ∧ u.length ≤ b ∧ PoolAt (upd (upd H t (.tup (sV ls))) a o) a ∧ Keep a H0 (upd (upd H t (.tup (sV ls))) a o) := by
  obtain ⟨s, ms, rfl⟩ := List.mem_map.mp hx
  obtain ⟨p2, k2⟩ := drawn (hp.new (o := .tup (sV ls)) nt) (k.trans (Keep.of (Same.put nt))) ho
  exact ⟨s.cps.toList, by rw [S_tl], by have := hb s ms; rwa [← S_tl s, S_len] at this, p2, k2⟩
/-- one of these numbers -/
theorem pickedN {a t : Addr} {H0 H : Hp} {ls : List Nat} {b : Nat} {x : V} {o : HO} (hp : PoolAt H a) (k : Keep a H0 H) (nt : H t = none) (hb : ∀ s ∈ ls, s ≤ b) (hx : x ∈ cV ls) (ho : PoolL o) :
    ∃ n : Nat, x = .int (n : Int) ∧ n ≤ b ∧ PoolAt (upd (upd H t (.tup (cV ls))) a o) a ∧ Keep a H0 (upd (upd H t (.tup (cV ls))) a o) := by
  obtain ⟨s, ms, rfl⟩ := List.mem_map.mp hx
  obtain ⟨p2, k2⟩ := drawn (hp.new (o := .tup (cV ls)) nt) (k.trans (Keep.of (Same.put nt))) ho
  exact ⟨s, rfl, hb s ms, p2, k2⟩
theorem sml6 {n : Nat} (h : n ≤ 1000000) : n ≤ sizeLine := Nat.le_trans h (by decide)
theorem rep_len (a : List Nat) (n : Nat) : (List.replicate n a).flatten.length = n * a.length := by
  induction n with
  | zero => simp
  | succ n ih => rw [List.replicate_succ, List.flatten_cons, List.length_append, ih, Nat.succ_mul, Nat.add_comm]
section
variable {P : Program} {w : World} {K : PySem.W.Frag} {mg : Str → Option Value} {base : Heap} {C CC B : Addr}
abbrev s_ow : Stmt := top 61
abbrev nOw : List Str := ["_law_pool_here", "_law_word_here", "_law_way", "_law_share"]
theorem sc_ow : FnScope nOw ["_law_pool_here", "_law_word_here"] (defScope s_ow) := ⟨rfl, rfl, rfl, by decide +kernel, rfl, by decide +kernel, by decide +kernel⟩
abbrev XOw (P : Program) (w : World) (K : PySem.W.Frag) (mg : Str → Option Value) (base : Heap) (f : Addr) (cdv : Value) (A : Around) (outer : List Env) (s : Shared) (H : Hp) (E : XK) : Cx :=
  (cxOf CX0 P w K mg base nOw "_law_other_word" (defScope s_ow) f cdv A outer s H E).nox
theorem segOw {f : Addr} {cdv : Value} {A : Around} {outer : List Env} {s : Shared} {H : Hp} {E : XK} {Q : VK} (c_pick : Cal P w K mg base 2 "_law_pick" ["_law_pool_here", "_law_things"] spPickQ) (hr : Room 6 (XOw P w K mg base f cdv A outer s H E).A) :
    ∃ u, PSs (XOw P w K mg base f cdv A outer s H E) ((defBody s_ow).drop 3) u ∧ ∀ (a : Addr) (wd : List Nat) (r : Nat) (v : V) (H2 : Hp), PoolAt H2 a → wd.length ≤ 100000 → OthQ Q a H2 (wd.length + 6000) →
      u { nx := fun _ H' => Q .non H', rt := Q } [some (.ref a), some (.str (S wd)), some (.int (r : Int)), some v] H2 := by
  refine ⟨_, (pss_cons (ps_if (pt_cmpR op_lt (pv 2) pe_int (nomark _))
        (pss_one (ps_ret (pe_op op_add_str (pe_cal c_pick (hr.mono (by decide)) rfl (pa_cons (pv 0) (pa_cons (pe_tup (pa_cons pe_str (pa_cons pe_str (pa_cons pe_str (pa_cons pe_str pa_nil))))) pa_nil))) (pv 1))))
        pss_nil)
      (pss_cons (ps_if (pt_cmpR op_eq (pv 2) pe_int (nomark _))
        (pss_one (ps_ret (pe_op op_add_str (pv 1) (pe_cal c_pick (hr.mono (by decide)) rfl (pa_cons (pv 0) (pa_cons (pe_tup (pa_cons pe_str (pa_cons pe_str (pa_cons pe_str (pa_cons pe_str (pa_cons pe_str (pa_cons pe_str (pa_cons pe_str (pa_cons pe_str pa_nil))))))))) pa_nil))))))
        pss_nil)
      (pss_cons (ps_if (pt_cmpR op_eq (pv 2) pe_int (nomark _))
        (pss_one (ps_ret (pe_op op_add_str pe_str (pe_op op_repS pe_str (pe_cal c_pick (hr.mono (by decide)) rfl (pa_cons (pv 0) (pa_cons (pe_tup (pa_cons pe_int (pa_cons pe_int (pa_cons pe_int (pa_cons pe_int (pa_cons pe_int pa_nil)))))) pa_nil)))))))
        pss_nil)
      (pss_cons (ps_if (pt_cmpR op_eq (pv 2) pe_int (nomark _))
        (pss_one (ps_ret (pe_op op_add_str (pe_op op_repS pe_str (pe_cal c_pick (hr.mono (by decide)) rfl (pa_cons (pv 0) (pa_cons (pe_tup (pa_cons pe_int (pa_cons pe_int (pa_cons pe_int pa_nil)))) pa_nil)))) pe_str)))
        pss_nil)
      (pss_one (ps_ret (pe_cal c_pick (hr.mono (by decide)) rfl (pa_cons (pv 0) (pa_cons (pe_tup (pa_cons pe_str (pa_cons pe_str (pa_cons pe_str (pa_cons pe_str (pa_cons pe_str (pa_cons pe_str (pa_cons pe_str (pa_cons pe_str (pa_cons pe_str (pa_cons pe_str (pa_cons pe_str (pa_cons pe_str (pa_cons pe_str (pa_cons pe_str (pa_cons pe_str pa_nil)))))))))))))))) pa_nil))))))))), ?_⟩
  intro a wd r v H2 p2 hw k
  have kk := Keep.of (a := a) (Same.refl H2)
  have cat : ∀ (u v : List Nat), u.length + v.length ≤ 300000 → (S u).length + (S v).length ≤ sizeLine := fun u v h => by rw [S_len, S_len]; exact sml6 (by omega)
  have two : ∀ n : Nat, n ≤ 20 → n ≤ sizeLine := fun n h => sml6 (by omega)
  refine ⟨_, rfl, _, _, rfl, rfl, _, rfl, iteB (fun z => ?_) (fun z => ?_)⟩
  · refine ⟨_, rfl, two 4 (by decide), fun t nt => ?_⟩
    refine ⟨a, t, sV ["0", "+", "-", " "], rfl, p2.new nt, .inr upd_same, new_ne p2 nt, by decide, by decide, fun x o hx ho => ?_⟩
    obtain ⟨u, rfl, hu, p3, k3⟩ := picked (b := 1) p2 kk nt (by decide +kernel) hx ho
    refine ⟨_, rfl, _, _, rfl, rfl, cat _ _ (by omega), ?_⟩
    rw [S_cat]
    exact k _ _ (by rw [List.length_append]; omega) k3 p3
  clear z
  refine ⟨_, rfl, rfl, _, rfl, iteB (fun z => ?_) (fun z => ?_)⟩
  · refine ⟨_, rfl, _, rfl, two 8 (by decide), fun t nt => ?_⟩
    refine ⟨a, t, sV ["/1", ".0", "0", " ", "/", "/0", "_0", "a"], rfl, p2.new nt, .inr upd_same, new_ne p2 nt, by decide, by decide, fun x o hx ho => ?_⟩
    obtain ⟨u, rfl, hu, p3, k3⟩ := picked (b := 2) p2 kk nt (by decide +kernel) hx ho
    refine ⟨_, _, rfl, rfl, cat _ _ (by omega), ?_⟩
    rw [S_cat]
    exact k _ _ (by rw [List.length_append]; omega) k3 p3
  clear z
  refine ⟨_, rfl, rfl, _, rfl, iteB (fun z => ?_) (fun z => ?_)⟩
  · refine ⟨_, rfl, two 5 (by decide), fun t nt => ?_⟩
    refine ⟨a, t, cV [98, 99, 100, 101, 4999], rfl, p2.new nt, .inr upd_same, new_ne p2 nt, by decide, by decide, fun x o hx ho => ?_⟩
    obtain ⟨n, rfl, hn, p3, k3⟩ := pickedN (b := 4999) p2 kk nt (by decide +kernel) hx ho
    refine ⟨[48], n, rfl, rfl, by decide, by omega, ?_⟩
    have hl := rep_len [48] n
    have hl : (List.replicate n [48]).flatten.length = n := by rw [hl]; show n * 1 = n; omega
    refine ⟨_, _, rfl, rfl, cat [49, 47, 49] _ (by rw [hl]; show 3 + n ≤ 300000; omega), ?_⟩
    rw [show Str.ofString "1/1" = S [49, 47, 49] from rfl, S_cat]
    exact k _ _ (by rw [List.length_append, hl]; show 3 + n ≤ _; omega) k3 p3
  clear z
  refine ⟨_, rfl, rfl, _, rfl, iteB (fun z => ?_) (fun z => ?_)⟩
  · refine ⟨_, rfl, two 3 (by decide), fun t nt => ?_⟩
    refine ⟨a, t, cV [100, 101, 5000], rfl, p2.new nt, .inr upd_same, new_ne p2 nt, by decide, by decide, fun x o hx ho => ?_⟩
    obtain ⟨n, rfl, hn, p3, k3⟩ := pickedN (b := 5000) p2 kk nt (by decide +kernel) hx ho
    refine ⟨[55], n, rfl, rfl, by decide, by omega, ?_⟩
    have hl := rep_len [55] n
    have hl : (List.replicate n [55]).flatten.length = n := by rw [hl]; show n * 1 = n; omega
    refine ⟨_, _, rfl, rfl, cat _ [47, 51] (by rw [hl]; show n + 2 ≤ 300000; omega), ?_⟩
    rw [show Str.ofString "/3" = S [47, 51] from rfl, S_cat]
    exact k _ _ (by rw [List.length_append, hl]; show n + 2 ≤ _; omega) k3 p3
  clear z
  refine ⟨_, rfl, two 15 (by decide), fun t nt => ?_⟩
  refine ⟨a, t, sV ["", "0", "1", "1/2", "2/4", "0/1", "1/0", "0/0", "3/2", "-1/2", "01", "1/02", "one", "0.5", "1:2"], rfl, p2.new nt, .inr upd_same, new_ne p2 nt, by decide, by decide, fun x o hx ho => ?_⟩
  obtain ⟨u, rfl, hu, p3, k3⟩ := picked (b := 4) p2 kk nt (by decide +kernel) hx ho
  exact k _ _ (by omega) k3 p3
theorem ok_ow {f : Addr} {fd : FuncData} (F : Fun K "_law_other_word" "_law_other_word" s_ow f fd) (T : ShT K mg C) (c_draw : Cal P w K mg base 1 "_law_draw" ["_law_pool_here", "_law_many"] spDraw) (c_pick : Cal P w K mg base 2 "_law_pick" ["_law_pool_here", "_law_things"] spPickQ) (c_wd : Cal P w K mg base 6 "_law_word" ["_law_word_here"] (spWordL C)) : FnOk P w K mg base CX0 7 f fd ["_law_pool_here", "_law_word_here"] spOtherW := by
  refine F.ok sc_ow (fun vs H Q E h => ?_) (fun cdv A outer s H vs Q E hr h => ?_)
  · obtain ⟨a, wd, rfl, _⟩ := h
    rfl
  · obtain ⟨a, wd, rfl, hp, hw, k⟩ := h
    obtain ⟨u, hu, qu⟩ := segOw (f := f) (cdv := cdv) (A := A) (outer := outer) (s := s) (H := H) (E := E) (Q := Q) c_pick hr
    refine ⟨_, (pss_cons (ps_set (i := 2) sc_ow.nd rfl (Or.inl rfl) (pe_cal c_draw (hr.mono (by decide)) rfl (pa_cons (pv 0) (pa_cons pe_int pa_nil))))
      (pss_cons (ps_set (i := 3) sc_ow.nd rfl (Or.inl rfl) (pe_cal c_wd (hr.mono (by decide)) rfl (pa_cons (pv 1) pa_nil)))
      (pss_cons (ps_if (PW.pt (pw_and (pt_cmpR op_eq (pv 2) pe_int (nomark _)) (pw_and1 (pt_cmpR op_notN (pv 3) pe_non (nomark _)))))
        (pss_one (ps_ret (pe_op op_add_str (pe_op op_add_str (pe_callTy call_str_int (by rfl) T.bn.n_str (by decide +kernel) (pa_cons (pe_op op_mulN pe_int (pe_fld (pv 3) rfl)) pa_nil)) pe_str) (pe_callTy call_str_int (by rfl) T.bn.n_str (by decide +kernel) (pa_cons (pe_op op_mulN pe_int (pe_fld (pv 3) rfl)) pa_nil)))))
        pss_nil)
hu))), ?_⟩
    refine ⟨_, rfl, a, 9, rfl, hp, by decide, by decide, fun r o r0 r1 ho => ?_⟩
    obtain ⟨p1, k1⟩ := drawn hp (Keep.of (Same.refl H)) ho
    generalize (upd H a o) = H1 at p1 k1 ⊢
    obtain ⟨r, rfl⟩ := nat_of r0
    refine ⟨_, rfl, wd, rfl, by omega, fun v H2 s2 hv => ?_⟩
    have p2 := p1.same s2
    have k2 := k1.trans (Keep.of s2)
    have k : ∀ (x : List Nat) (H' : Hp), x.length ≤ wd.length + 6000 → Keep a H2 H' → PoolAt H' a → Q (.str (S x)) H' := fun x H' h1 h2 h3 => k x H' h1 (k2.trans h2) h3
    have kk := Keep.of (a := a) (Same.refl H2)
    have cat : ∀ (u v : List Nat), u.length + v.length ≤ 300000 → (S u).length + (S v).length ≤ sizeLine := fun u v h => by rw [S_len, S_len]; exact sml6 (by omega)
    have ten : ∀ {m : Nat}, (dg m).length ≤ 100 → 2 * m < 2 ^ 1400 ∧ (dg (2 * m)).length ≤ 101 := fun {m} hm => by
      have h1 : m < 10 ^ 100 := ten100 hm
      have h2 : 2 * m < 10 ^ 101 := by
        have : (10 : Nat) ^ 101 = 10 * 10 ^ 100 := by decide +kernel
        omega
      exact ⟨Nat.lt_trans h2 (by decide +kernel), dg_len 100 (2 * m) h2⟩
    refine ⟨_, rfl, rfl, _, rfl, iteB (fun z => ?_) (fun z => qu a wd r v H2 p2 hw k)⟩
    refine ⟨_, rfl, rfl, _, rfl, ?_⟩
    cases c : shOf wd with
    | none =>
      rw [c] at hv
      have hv : v = .non := hv
      refine iteFe (by rw [hv]; rfl) (qu a wd r v H2 p2 hw k)
    | some d =>
      rw [c] at hv
      obtain ⟨b, dx, rfl, eb⟩ := hv
      obtain ⟨_, _, l1, l2, _⟩ := shOf_some.mp c
      have t1 := ten l1
      have t2 := ten l2
      refine iteTe (by rfl) ?_
      refine ⟨_, rfl, b, C, dx, _, _, rfl, eb, T.it.cl, T.nT, shF_top _ _, 2, d.1, rfl, rfl, by decide, _, rfl, log1400 t1.1, ?_⟩
      rw [str_dg]
      refine ⟨_, _, rfl, rfl, cat _ [47] (show _ + 1 ≤ _ by omega), ?_⟩
      refine ⟨_, rfl, b, C, dx, _, _, rfl, eb, T.it.cl, T.nB, shF_bottom _ _, 2, d.2, rfl, rfl, by decide, _, rfl, log1400 t2.1, ?_⟩
      rw [str_dg, show Str.ofString "/" = S [47] from rfl, S_cat]
      have le : (dg (2 * d.1) ++ [47]).length = (dg (2 * d.1)).length + 1 := List.length_append
      refine ⟨_, _, rfl, rfl, cat _ _ (by rw [le]; omega), ?_⟩
      rw [S_cat]
      exact k _ _ (by rw [List.length_append, le]; omega) kk p2
end
end KJ
set_option Elab.async false
set_option linter.all false
set_option maxRecDepth 100000
set_option maxHeartbeats 2000000
namespace KJ
open PySem L2 SX Tx
/-! ### the law's other lines -/
/-- what texts come to, with one for each -/
def tl (ps : List (List Nat)) : Nat := (ps.map (·.length)).sum + ps.length
theorem tl_cons (p : List Nat) (ps : List (List Nat)) : tl (p :: ps) = p.length + 1 + tl ps := by
  unfold tl
  rw [List.map_cons, List.sum_cons, List.length_cons]
  omega
theorem tl_app (ps qs : List (List Nat)) : tl (ps ++ qs) = tl ps + tl qs := by
  unfold tl
  rw [List.map_append, List.sum_append, List.length_append]
  omega
theorem tl_join {c : Nat} : ∀ {ps : List (List Nat)}, ps ≠ [] → (TL.joinL [c] ps).length + 1 = tl ps
  | [], h => absurd rfl h
  | [p], _ => by rw [tl_cons]; show p.length + 1 = _; unfold tl; simp
  | p :: q :: r, _ => by
    rw [join_cons (by simp), tl_cons, ← tl_join (c := c) (ps := q :: r) (by simp), List.length_append, List.length_cons]
    omega
theorem tl_join_le (c : Nat) (ps : List (List Nat)) : (TL.joinL [c] ps).length ≤ tl ps := by
  by_cases h : ps = []
  · subst h; exact Nat.zero_le _
  · have := tl_join (c := c) h; omega
theorem tl_sp (c : Nat) (r : List Nat) : tl (sp c r) = r.length + 1 := by
  rw [← tl_join (c := c) (sp_ne c r), sp_join]
theorem tl_cut : ∀ {ps : List (List Nat)} {k : Nat} {p : List Nat}, ps[k]? = some p → tl (ps.take k) + tl (ps.drop (k + 1)) + (p.length + 1) = tl ps
  | [], _, _, h => by simp at h
  | q :: ps, 0, p, h => by
    have h : q = p := Option.some.inj h
    subst h
    rw [tl_cons]
    show tl [] + tl ps + _ = _
    unfold tl
    simp
    omega
  | q :: ps, k + 1, p, h => by
    have h : ps[k]? = some p := h
    have := tl_cut h
    rw [List.take_succ_cons, List.drop_succ_cons, tl_cons, tl_cons]
    omega
theorem tl_set : ∀ {ps : List (List Nat)} {k : Nat} {p : List Nat} (x : List Nat), ps[k]? = some p → tl (ps.set k x) + (p.length + 1) = tl ps + (x.length + 1)
  | [], _, _, _, h => by simp at h
  | q :: ps, 0, p, x, h => by
    have h : q = p := Option.some.inj h
    subst h
    show tl (x :: ps) + _ = _
    rw [tl_cons, tl_cons]
    omega
  | q :: ps, k + 1, p, x, h => by
    have h : ps[k]? = some p := h
    have := tl_set x h
    show tl (q :: ps.set k x) + _ = _
    rw [tl_cons, tl_cons]
    omega
theorem tl_count (ps : List (List Nat)) : ps.length ≤ tl ps := Nat.le_add_left _ _
theorem sL_app (a b : List (List Nat)) : sL a ++ sL b = sL (a ++ b) := by rw [sL, sL, sL, List.map_append, List.map_append]
theorem cut_to {xs : List V} {k : Nat} : cutV xs none (some (k : Int)) = xs.take k := by
  have e1 : HT.sIx xs.length 0 none = 0 := rfl
  have e2 : HT.sIx xs.length xs.length (some (k : Int)) = min k xs.length := by
    show (if (k : Int) < 0 then ((k : Int) + (xs.length : Int)).toNat else min (k : Int).toNat xs.length) = _
    rw [if_neg (by omega), Int.toNat_natCast]
  unfold cutV
  rw [e1, e2, List.drop_zero, Nat.sub_zero]
  rcases Nat.le_total k xs.length with h | h
  · rw [Nat.min_eq_left h]
  · rw [Nat.min_eq_right h, List.take_length, List.take_of_length_le h]
theorem cut_fr {xs : List V} {k : Nat} : cutV xs (some (k : Int)) none = xs.drop k := by
  have e1 : HT.sIx xs.length 0 (some (k : Int)) = min k xs.length := by
    show (if (k : Int) < 0 then ((k : Int) + (xs.length : Int)).toNat else min (k : Int).toNat xs.length) = _
    rw [if_neg (by omega), Int.toNat_natCast]
  have e2 : HT.sIx xs.length xs.length none = xs.length := rfl
  unfold cutV
  rw [e1, e2]
  rcases Nat.le_total k xs.length with h | h
  · rw [Nat.min_eq_left h, List.take_of_length_le (by rw [List.length_drop]; omega)]
  · rw [Nat.min_eq_right h, Nat.sub_self, List.take_zero, List.drop_eq_nil_of_le h]
/-- how a joined text is sized -/
theorem join_fits {ps : List (List Nat)} {c : Nat} (h : tl ps ≤ 1000000) : ((ps.map S).map (·.length)).sum + (ps.map S).length * (S [c]).length ≤ 16777216 := by
  rw [List.map_map, List.length_map]
  have e : (ps.map ((fun x : Str => x.length) ∘ S)) = ps.map (·.length) := List.map_congr_left fun p _ => S_len p
  rw [e, show (S [c]).length = 1 from rfl, Nat.mul_one]
  unfold tl at h
  omega
theorem OthQ.str {Q : VK} {a : Addr} {H : Hp} {m : Nat} (h : OthQ Q a H m) (z : Str) (H' : Hp) (hz : z.length ≤ m) (k : Keep a H H') (p : PoolAt H' a) : Q (.str z) H' := by
  have := h z.cps.toList H' (by rwa [← S_tl z, S_len] at hz) k p
  rwa [S_tl] at this
theorem OthQ.from {Q : VK} {a : Addr} {H H1 : Hp} {m m' : Nat} (h : OthQ Q a H m) (k : Keep a H H1) (hm : m' ≤ m) : OthQ Q a H1 m' := fun x H' hx k2 p => h x H' (Nat.le_trans hx hm) (k.trans k2) p
theorem nsm6 {n : Nat} (h : n ≤ 1000000) : ((n : Int)).natAbs.log2 < 9000 := log_small (b := 20) (by show ((n : Int)).natAbs < 2 ^ 20; omega) (by decide) (by decide)
def spOtherL : Sp := fun vs H Q _ => ∃ (a : Addr) (l : List Nat), vs = [.ref a, .str (S l)] ∧ PoolAt H a ∧ l.length ≤ 50000 ∧ OthQ Q a H (l.length + 6100)
section
variable {P : Program} {w : World} {K : PySem.W.Frag} {mg : Str → Option Value} {base : Heap} {C CC B : Addr}
abbrev s_ol : Stmt := top 62
abbrev nOl : List Str := ["_law_pool_here", "_law_line_here", "_law_way", "_law_at", "_law_words", "_law_k", "_law_other"]
theorem sc_ol : FnScope nOl ["_law_pool_here", "_law_line_here"] (defScope s_ol) := ⟨rfl, rfl, rfl, by decide +kernel, rfl, by decide +kernel, by decide +kernel⟩
abbrev XOl (P : Program) (w : World) (K : PySem.W.Frag) (mg : Str → Option Value) (base : Heap) (f : Addr) (cdv : Value) (A : Around) (outer : List Env) (s : Shared) (H : Hp) (E : XK) : Cx :=
  (cxOf CX0 P w K mg base nOl "_law_other_line" (defScope s_ol) f cdv A outer s H E).nox
/-- by words -/
theorem segOl {f : Addr} {cdv : Value} {A : Around} {outer : List Env} {s : Shared} {H : Hp} {E : XK} {Q : VK} (T : Bm mg) (c_draw : Cal P w K mg base 1 "_law_draw" ["_law_pool_here", "_law_many"] spDraw) (c_pick : Cal P w K mg base 2 "_law_pick" ["_law_pool_here", "_law_things"] spPickQ) (c_ow : Cal P w K mg base 7 "_law_other_word" ["_law_pool_here", "_law_word_here"] spOtherW) (hr : Room 7 (XOl P w K mg base f cdv A outer s H E).A) :
    ∃ u, PSs (XOl P w K mg base f cdv A outer s H E) ((defBody s_ol).drop 6) u ∧ ∀ (a : Addr) (l : List Nat) (r : Nat) (v3 : Option V) (H2 : Hp), PoolAt H2 a → l.length ≤ 50000 → OthQ Q a H2 (l.length + 6100) →
      u { nx := fun _ H' => Q .non H', rt := Q } [some (.ref a), some (.str (S l)), some (.int (r : Int)), v3, none, none, none] H2 := by
  refine ⟨_, (pss_cons (ps_set (i := 4) sc_ol.nd rfl (Or.inl rfl) (pe_split (pv 1) pe_str))
    (pss_cons (ps_set (i := 5) sc_ol.nd rfl (Or.inl rfl) (pe_cal c_draw (hr.mono (by decide)) rfl (pa_cons (pv 0) (pa_cons (pe_callB call_len_seq (by rfl) T.b.n_len PySem.boot_len (pa_cons (pv 4) pa_nil)) pa_nil))))
    (pss_cons (ps_if (pt_cmpR op_eq (pv 2) pe_int (nomark _))
      (pss_one (ps_ret (pe_join pe_str (pe_op op_cat (pe_slice sl_list (pv 4) po_none (po_some (pv 5))) (pe_slice sl_list (pv 4) (po_some (pe_op op_add (pv 5) pe_int)) po_none)))))
      pss_nil)
    (pss_cons (ps_if (pt_cmpR op_eq (pv 2) pe_int (nomark _))
      (pss_one (ps_ret (pe_op op_add_str (pe_cal c_pick (hr.mono (by decide)) rfl (pa_cons (pv 0) (pa_cons (pe_tup (pa_cons pe_str (pa_cons pe_str pa_nil))) pa_nil))) (pe_slice C8.sl_txt (pv 1) (po_some (pe_m1 PySem.F.slot_str_find PySem.F.type_str_find mt_find (pv 1) pe_str)) po_none))))
      pss_nil)
    (pss_cons (ps_if (pt_cmpR op_lt (pv 2) pe_int (nomark _))
      (pss_cons (ps_set (i := 6) sc_ol.nd rfl (Or.inl rfl) (pe_cal c_draw (hr.mono (by decide)) rfl (pa_cons (pv 0) (pa_cons (pe_callB call_len_seq (by rfl) T.b.n_len PySem.boot_len (pa_cons (pv 4) pa_nil)) pa_nil))))
        (pss_cons (ps_asg (pe_tup (pa_cons (pe_ix (show IxR _ (rIxL K) from ix_list) (pv 4) (pv 6) (fun _ _ => rfl)) (pa_cons (pe_ix (show IxR _ (rIxL K) from ix_list) (pv 4) (pv 5) (fun _ _ => rfl)) pa_nil))) (pg_tup (by rfl) (pgs_cons (pg_sub (pv 4) (pv 5) set_list) (pgs_cons (pg_sub (pv 4) (pv 6) set_list) pgs_nil))))
        (pss_one (ps_ret (pe_join pe_str (pv 4))))))
      pss_nil)
    (pss_one (ps_ret (pe_join pe_str (pe_op op_cat (pe_op op_cat (pe_slice sl_list (pv 4) po_none (po_some (pv 5))) (pe_lst (pa_cons (pe_cal c_ow hr rfl (pa_cons (pv 0) (pa_cons (pe_ix (show IxR _ (rIxL K) from ix_list) (pv 4) (pv 5) (fun _ _ => rfl)) pa_nil))) pa_nil))) (pe_slice sl_list (pv 4) (po_some (pe_op op_add (pv 5) pe_int)) po_none)))))))))), ?_⟩
  intro a l r v3 H2 p2 hw k
  have two : ∀ n : Nat, n ≤ 20 → n ≤ sizeLine := fun n h => sml6 (by omega)
  have e0 : Txt.split (S l) (Str.ofString " ") = (sp 32 l).map S := split_sp (by decide) l
  refine ⟨_, rfl, ⟨_, rfl⟩, _, _, rfl, rfl, rfl, by rw [S_len]; exact sml6 (by omega), fun p np => ?_⟩
  have sq := Same.put (o := .lst ((Txt.split (S l) (Str.ofString " ")).map V.str)) np
  have ep : (upd H2 p (.lst ((Txt.split (S l) (Str.ofString " ")).map V.str))) p = some (.lst (sL (sp 32 l))) := by rw [upd_same, e0]
  generalize (upd H2 p (.lst ((Txt.split (S l) (Str.ofString " ")).map V.str))) = H3 at sq ep ⊢
  have p3 := p2.same sq
  have k3 : Keep a H2 H3 := Keep.of sq
  have pa := new_ne p2 np
  have htl := tl_sp 32 l
  have ne := sp_ne 32 l
  generalize sp 32 l = ps at ep htl ne
  have hc := tl_count ps
  have l1 : 1 ≤ ps.length := List.length_pos_iff.mpr ne
  refine ⟨_, rfl, _, rfl, p, _, rfl, .inl (SqL.of ep), ?_⟩
  rw [sL_len]
  refine ⟨a, _, rfl, p3, by omega, nsm6 (by omega), fun r' o r0 r1 ho => ?_⟩
  obtain ⟨p4, k4⟩ := drawn p3 k3 ho
  have ep4 : (upd H3 a o) p = some (.lst (sL ps)) := by rw [upd_ne pa]; exact ep
  generalize (upd H3 a o) = H4 at p4 k4 ep4 ⊢
  obtain ⟨j, rfl⟩ := nat_of r0
  have hj : j < ps.length := by omega
  have gj : ps[j]? = some ps[j] := List.getElem?_eq_getElem hj
  generalize ps[j] = q at gj
  have gjV : (sL ps)[j]? = some (.str (S q)) := by rw [List.getElem?_map, List.getElem?_map, gj]; rfl
  have hcut := tl_cut gj
  have tk : ∀ i, (sL ps).take i = sL (ps.take i) := fun i => by rw [sL, sL, ← List.map_take, ← List.map_take]
  have dr : ∀ i, (sL ps).drop i = sL (ps.drop i) := fun i => by rw [sL, sL, ← List.map_drop, ← List.map_drop]
  have jn : ∀ qs : List (List Nat), tl qs ≤ l.length + 6100 → ∀ H', Keep a H2 H' → PoolAt H' a → Q (.str (Txt.join (Str.ofString " ") (qs.map S))) H' := fun qs hq H' k' p' => by
    rw [show Str.ofString " " = S [32] from rfl, join_S]
    exact k _ H' (Nat.le_trans (tl_join_le 32 qs) hq) k' p'
  have fnd : ∀ z : Str, z = S l → ∀ i : Int, (Txt.slice z (some i) none).length ≤ l.length := fun z hz i => by rw [hz, ← S_len l]; exact Txt.slice_le _ _ _
  refine ⟨_, rfl, rfl, _, rfl, iteB (fun z => ?_) (fun z => ?_)⟩
  · refine ⟨⟨_, rfl⟩, ?_⟩
    refine ⟨_, rfl, _, rfl, _, rfl, p, _, rfl, SqL.of ep4, fun b nb => ?_⟩
    rw [cut_to, tk]
    have s1 := Same.put (o := .lst (sL (ps.take j))) nb
    have eb : (upd H4 b (.lst (sL (ps.take j)))) b = some (.lst (sL (ps.take j))) := upd_same
    generalize (upd H4 b (.lst (sL (ps.take j)))) = H5 at s1 eb ⊢
    refine ⟨_, rfl, _, rfl, _, _, rfl, rfl, _, rfl, p, _, rfl, SqL.of (s1 _ _ ep4), fun d nd => ?_⟩
    rw [show ((j : Int) + 1) = ((j + 1 : Nat) : Int) by omega, cut_fr, dr]
    have s2 := Same.put (o := .lst (sL (ps.drop (j + 1)))) nd
    have ed : (upd H5 d (.lst (sL (ps.drop (j + 1))))) d = some (.lst (sL (ps.drop (j + 1)))) := upd_same
    generalize (upd H5 d (.lst (sL (ps.drop (j + 1))))) = H6 at s2 ed ⊢
    have lt : ps.take j ++ ps.drop (j + 1) ≠ ps → True := fun _ => trivial
    have ht : tl (ps.take j ++ ps.drop (j + 1)) ≤ l.length + 1 := by rw [tl_app]; omega
    have hcc := tl_count (ps.take j ++ ps.drop (j + 1))
    refine ⟨b, d, _, _, rfl, rfl, s2 _ _ eb, ed, by rw [← List.length_append, sL_app, sL_len]; exact sml6 (by omega), fun g ng => ?_⟩
    rw [sL_app]
    refine ⟨_, g, (ps.take j ++ ps.drop (j + 1)).map S, rfl, rfl, .inl (SqL.of upd_same), join_fits (c := 32) (by omega), ?_⟩
    exact jn _ (by omega) _ (k4.trans (Keep.of ((s1.trans s2).trans (Same.put ng)))) (((p4.same s1).same s2).new ng)
  clear z
  refine ⟨_, rfl, rfl, _, rfl, iteB (fun z => ?_) (fun z => ?_)⟩
  · refine ⟨_, rfl, two 2 (by decide), fun t nt => ?_⟩
    refine ⟨a, t, sV ["abcdefgh", "z"], rfl, p4.new nt, .inr upd_same, new_ne p4 nt, by decide, by decide, fun x o hx ho => ?_⟩
    obtain ⟨u, rfl, hu, p5, k5⟩ := picked (b := 8) p4 k4 nt (by decide +kernel) hx ho
    refine ⟨_, rfl, _, rfl, ⟨_, rfl⟩, _, _, rfl, rfl, _, rfl, _, rfl, by rw [S_len]; exact sml6 (by omega), ?_⟩
    have := fnd _ rfl (Txt.find (S l) (Str.ofString ":"))
    refine ⟨_, _, rfl, rfl, by rw [S_len]; exact sml6 (by omega), ?_⟩
    refine OthQ.str k _ _ ?_ k5 p5
    rw [Str.length_append, S_len]
    omega
  clear z
  have kn : H2 p = none := np
  refine ⟨_, rfl, _, _, rfl, rfl, _, rfl, iteB (fun z => ?_) (fun z => ?_)⟩
  · refine ⟨_, rfl, _, rfl, p, _, rfl, .inl (SqL.of ep4), ?_⟩
    rw [sL_len]
    refine ⟨a, _, rfl, p4, by omega, nsm6 (by omega), fun r' o2 r0 r1 ho2 => ?_⟩
    obtain ⟨p5, k5⟩ := drawn p4 k4 ho2
    have ep5 : (upd H4 a o2) p = some (.lst (sL ps)) := by rw [upd_ne pa]; exact ep4
    generalize (upd H4 a o2) = H5 at p5 k5 ep5 ⊢
    obtain ⟨i, rfl⟩ := nat_of r0
    have hi : i < ps.length := by omega
    have gi : ps[i]? = some ps[i] := List.getElem?_eq_getElem hi
    generalize ps[i] = q2 at gi
    have giV : (sL ps)[i]? = some (.str (S q2)) := by rw [List.getElem?_map, List.getElem?_map, gi]; rfl
    refine ⟨_, rfl, _, rfl, p, _, _, _, rfl, rfl, SqL.of ep5, atI_nat giV, ?_⟩
    refine ⟨_, rfl, _, rfl, p, _, _, _, rfl, rfl, SqL.of ep5, atI_nat gjV, two 2 (by decide), fun t nt => ?_⟩
    have tp : p ≠ t := fun z => by rw [z, nt] at ep5; cases ep5
    have p6 := p5.new (o := .tup [.str (S q2), .str (S q)]) nt
    have k6 := k5.trans (Keep.of (Same.put (o := .tup [.str (S q2), .str (S q)]) nt))
    have ep6 : (upd H5 t (.tup [.str (S q2), .str (S q)])) p = some (.lst (sL ps)) := by rw [upd_ne tp]; exact ep5
    have et6 : (upd H5 t (.tup [.str (S q2), .str (S q)])) t = some (.tup [.str (S q2), .str (S q)]) := upd_same
    generalize (upd H5 t (.tup [.str (S q2), .str (S q)])) = H6 at p6 k6 ep6 et6 ⊢
    refine ⟨t, _, rfl, SqT.of et6, rfl, _, _, rfl, ?_⟩
    have sset : ∀ (qs : List (List Nat)) (i : Nat) (x : List Nat), (sL qs).set i (.str (S x)) = sL (qs.set i x) := fun qs i x => by rw [sL, sL, List.map_set, List.map_set]
    refine ⟨_, rfl, _, rfl, p, _, _, j, rfl, rfl, ep6, ixN_ok (by rw [sL_len]; exact hj), ?_⟩
    rw [sset]
    refine ⟨_, _, rfl, ?_⟩
    refine ⟨_, rfl, _, rfl, p, _, _, i, rfl, rfl, upd_same, ixN_ok (by rw [sL_len, List.length_set]; exact hi), ?_⟩
    rw [sset, upd_upd]
    refine ⟨rfl, ?_⟩
    have h1 := tl_set q2 gj
    have gi2 : (ps.set j q2)[i]? = some q2 := by
      by_cases e : j = i
      · subst e
        rw [List.getElem?_set_self (by omega)]
      · rw [List.getElem?_set_ne e]
        exact gi
    have h2 := tl_set q gi2
    have hcc := tl_count ((ps.set j q2).set i q)
    refine ⟨⟨_, rfl⟩, _, rfl, _, p, ((ps.set j q2).set i q).map S, rfl, rfl, .inl (SqL.of upd_same), join_fits (c := 32) (by omega), ?_⟩
    exact jn _ (by omega) _ (k6.but kn) (p6.other (Ne.symm pa))
  clear z
  refine ⟨⟨_, rfl⟩, ?_⟩
  refine ⟨_, rfl, _, rfl, _, rfl, p, _, rfl, SqL.of ep4, fun b nb => ?_⟩
  rw [cut_to, tk]
  have s1 := Same.put (o := .lst (sL (ps.take j))) nb
  have eb : (upd H4 b (.lst (sL (ps.take j)))) b = some (.lst (sL (ps.take j))) := upd_same
  have ba := new_ne p4 nb
  have p5 := p4.same s1
  have k5 := k4.trans (Keep.of (a := a) s1)
  have ep5 := s1 _ _ ep4
  generalize (upd H4 b (.lst (sL (ps.take j)))) = H5 at s1 eb p5 k5 ep5 ⊢
  have hq : q.length ≤ l.length := by omega
  refine ⟨_, rfl, _, rfl, _, rfl, p, _, _, _, rfl, rfl, SqL.of ep5, atI_nat gjV, a, q, rfl, p5, by omega, fun x H6 hx k6 p6 => ?_⟩
  have eb6 := k6 _ _ eb ba
  have ep6 := k6 _ _ ep5 pa
  refine ⟨two 1 (by decide), fun c nc => ?_⟩
  have s7 := Same.put (o := .lst [V.str (S x)]) nc
  have ec : (upd H6 c (.lst [V.str (S x)])) c = some (.lst [V.str (S x)]) := upd_same
  have p7 := p6.same s7
  have k7 := (k5.trans k6).trans (Keep.of (a := a) s7)
  have eb7 := s7 _ _ eb6
  have ep7 := s7 _ _ ep6
  generalize (upd H6 c (.lst [V.str (S x)])) = H7 at s7 ec p7 k7 eb7 ep7 ⊢
  have h1 : tl ([x] : List (List Nat)) = x.length + 1 := by rw [tl_cons]; rfl
  have ht : tl (ps.take j ++ [x] ++ ps.drop (j + 1)) ≤ l.length + 6001 := by rw [tl_app, tl_app, h1]; omega
  have hcc := tl_count (ps.take j ++ [x] ++ ps.drop (j + 1))
  have hc1 : (ps.take j ++ [x]).length ≤ ps.length + 1 := by rw [List.length_append, List.length_take]; show min j ps.length + 1 ≤ _; omega
  refine ⟨b, c, _, _, rfl, rfl, eb7, ec, by rw [← List.length_append, show [V.str (S x)] = sL [x] from rfl, sL_app, sL_len]; exact sml6 (by omega), fun g ng => ?_⟩
  rw [show [V.str (S x)] = sL [x] from rfl, sL_app]
  have s8 := Same.put (o := .lst (sL (ps.take j ++ [x]))) ng
  have eg : (upd H7 g (.lst (sL (ps.take j ++ [x])))) g = some (.lst (sL (ps.take j ++ [x]))) := upd_same
  have p8 := p7.same s8
  have k8 := k7.trans (Keep.of (a := a) s8)
  have ep8 := s8 _ _ ep7
  generalize (upd H7 g (.lst (sL (ps.take j ++ [x])))) = H8 at s8 eg p8 k8 ep8 ⊢
  refine ⟨_, rfl, _, rfl, _, _, rfl, rfl, _, rfl, p, _, rfl, SqL.of ep8, fun d nd => ?_⟩
  rw [show ((j : Int) + 1) = ((j + 1 : Nat) : Int) by omega, cut_fr, dr]
  have s9 := Same.put (o := .lst (sL (ps.drop (j + 1)))) nd
  refine ⟨g, d, _, _, rfl, rfl, s9 _ _ eg, upd_same, by rw [← List.length_append, sL_app, sL_len]; exact sml6 (by omega), fun y ny => ?_⟩
  rw [sL_app]
  refine ⟨_, y, (ps.take j ++ [x] ++ ps.drop (j + 1)).map S, rfl, rfl, .inl (SqL.of upd_same), join_fits (c := 32) (by omega), ?_⟩
  exact jn _ (by omega) _ (k8.trans (Keep.of (s9.trans (Same.put ny)))) ((p8.same s9).new ny)
end
end KJ
set_option Elab.async false
set_option linter.all false
set_option maxRecDepth 100000
set_option maxHeartbeats 2000000
namespace KJ
open PySem L2 SX Tx
section
variable {P : Program} {w : World} {K : PySem.W.Frag} {mg : Str → Option Value} {base : Heap} {C CC B : Addr}
theorem ok_ol {f : Addr} {fd : FuncData} (F : Fun K "_law_other_line" "_law_other_line" s_ol f fd) (T : Bm mg) (c_draw : Cal P w K mg base 1 "_law_draw" ["_law_pool_here", "_law_many"] spDraw) (c_pick : Cal P w K mg base 2 "_law_pick" ["_law_pool_here", "_law_things"] spPickQ) (c_ow : Cal P w K mg base 7 "_law_other_word" ["_law_pool_here", "_law_word_here"] spOtherW) : FnOk P w K mg base CX0 8 f fd ["_law_pool_here", "_law_line_here"] spOtherL := by
  refine F.ok sc_ol (fun vs H Q E h => ?_) (fun cdv A outer s H vs Q E hr h => ?_)
  · obtain ⟨a, wd, rfl, _⟩ := h
    rfl
  · obtain ⟨a, l, rfl, hp, hw, k⟩ := h
    obtain ⟨u, hu, qu⟩ := segOl (f := f) (cdv := cdv) (A := A) (outer := outer) (s := s) (H := H) (E := E) (Q := Q) T c_draw c_pick c_ow hr
    refine ⟨_, (pss_cons (ps_set (i := 2) sc_ol.nd rfl (Or.inl rfl) (pe_cal c_draw (hr.mono (by decide)) rfl (pa_cons (pv 0) (pa_cons pe_int pa_nil))))
      (pss_cons (ps_set (i := 3) sc_ol.nd rfl (Or.inl rfl) (pe_cal c_draw (hr.mono (by decide)) rfl (pa_cons (pv 0) (pa_cons (pe_op op_add (pe_callB call_len_str (by rfl) T.b.n_len PySem.boot_len (pa_cons (pv 1) pa_nil)) pe_int) pa_nil))))
      (pss_cons (ps_if (pt_cmpR op_eq (pv 2) pe_int (nomark _))
        (pss_one (ps_ret (pe_op op_add_str (pe_op op_add_str (pe_slice C8.sl_txt (pv 1) po_none (po_some (pv 3))) (pe_cal c_pick (hr.mono (by decide)) rfl (pa_cons (pv 0) (pa_cons (pe_tup (pa_cons pe_str (pa_cons pe_str (pa_cons pe_str (pa_cons pe_str (pa_cons pe_str (pa_cons pe_str (pa_cons pe_str (pa_cons pe_str (pa_cons pe_str (pa_cons pe_str pa_nil))))))))))) pa_nil)))) (pe_slice C8.sl_txt (pv 1) (po_some (pv 3)) po_none))))
        pss_nil)
      (pss_cons (ps_if (pt_cmpR op_eq (pv 2) pe_int (nomark _))
        (pss_one (ps_ret (pe_op op_add_str (pe_slice C8.sl_txt (pv 1) po_none (po_some (pv 3))) (pe_slice C8.sl_txt (pv 1) (po_some (pe_op op_add (pv 3) pe_int)) po_none))))
        pss_nil)
      (pss_cons (ps_if (pt_cmpR op_eq (pv 2) pe_int (nomark _))
        (pss_one (ps_ret (pe_op op_add_str (pe_cal c_pick (hr.mono (by decide)) rfl (pa_cons (pv 0) (pa_cons (pe_tup (pa_cons pe_str (pa_cons pe_str (pa_cons pe_str (pa_cons pe_str (pa_cons pe_str (pa_cons pe_str (pa_cons pe_str (pa_cons pe_str pa_nil))))))))) pa_nil))) (pe_slice C8.sl_txt (pv 1) (po_some (pe_m1 PySem.F.slot_str_find PySem.F.type_str_find mt_find (pv 1) pe_str)) po_none))))
        pss_nil)
      (pss_cons (ps_if (pt_cmpR op_eq (pv 2) pe_int (nomark _))
        (pss_one (ps_ret (pe_op op_add_str (pv 1) (pe_cal c_pick (hr.mono (by decide)) rfl (pa_cons (pv 0) (pa_cons (pe_tup (pa_cons pe_str (pa_cons (pe_op op_repS pe_str pe_int) (pa_cons pe_str (pa_cons pe_str (pa_cons pe_str pa_nil)))))) pa_nil))))))
        pss_nil) hu)))))), ?_⟩
    have two : ∀ n : Nat, n ≤ 20 → n ≤ sizeLine := fun n h => sml6 (by omega)
    have kk : Keep a H H := Keep.of (Same.refl H)
    refine ⟨_, rfl, a, 13, rfl, hp, by decide, by decide, fun r o r0 r1 ho => ?_⟩
    obtain ⟨p1, k1⟩ := drawn hp kk ho
    generalize (upd H a o) = H1 at p1 k1 ⊢
    obtain ⟨r, rfl⟩ := nat_of r0
    have lS : (S l).length = l.length := S_len _
    have sz : (S l).length ≤ sizeLine := by rw [lS]; exact sml6 (by omega)
    refine ⟨_, rfl, _, rfl, _, rfl, sz, _, _, rfl, rfl, ?_⟩
    rw [lS]
    refine ⟨a, _, rfl, p1, by omega, by rw [show ((l.length : Int) + 1) = ((l.length + 1 : Nat) : Int) by omega]; exact nsm6 (by omega), fun r' o2 q0 q1 ho2 => ?_⟩
    obtain ⟨p2, k2⟩ := drawn p1 k1 ho2
    generalize (upd H1 a o2) = H2 at p2 k2 ⊢
    obtain ⟨j, rfl⟩ := nat_of q0
    have hj : j ≤ l.length := by omega
    have k0 : OthQ Q a H2 (l.length + 6100) := k.from k2 (Nat.le_refl _)
    have kk : Keep a H2 H2 := Keep.of (Same.refl H2)
    refine ⟨_, rfl, rfl, _, rfl, iteB (fun z => ?_) (fun z => ?_)⟩
    · refine ⟨_, rfl, _, rfl, _, rfl, _, rfl, sz, ?_⟩
      rw [slice_to (by omega), Int.toNat_natCast]
      refine ⟨_, rfl, two 10 (by decide), fun t nt => ?_⟩
      refine ⟨a, t, sV [" ", ":", "0", "1", "/", "a", "A", "-", "\t", "\n"], rfl, p2.new nt, .inr upd_same, new_ne p2 nt, by decide, by decide, fun x o hx ho => ?_⟩
      obtain ⟨u, rfl, hu, p5, k5⟩ := picked (b := 1) p2 kk nt (by decide +kernel) hx ho
      have h1 : (l.take j).length ≤ l.length := by rw [List.length_take]; exact Nat.min_le_right _ _
      refine ⟨_, _, rfl, rfl, by rw [S_len, S_len]; exact sml6 (by omega), ?_⟩
      rw [S_cat]
      refine ⟨_, rfl, _, rfl, _, rfl, _, rfl, sz, ?_⟩
      rw [slice_from (by omega), Int.toNat_natCast]
      have h2 : (l.take j).length + (l.drop j).length = l.length := by rw [List.length_take, List.length_drop]; omega
      refine ⟨_, _, rfl, rfl, by rw [S_len, S_len, List.length_append]; exact sml6 (by omega), ?_⟩
      rw [S_cat]
      exact k0 _ _ (by rw [List.length_append, List.length_append]; omega) k5 p5
    clear z
    refine ⟨_, rfl, rfl, _, rfl, iteB (fun z => ?_) (fun z => ?_)⟩
    · refine ⟨_, rfl, _, rfl, _, rfl, _, rfl, sz, ?_⟩
      rw [slice_to (by omega), Int.toNat_natCast]
      refine ⟨_, rfl, _, rfl, _, _, rfl, rfl, _, rfl, _, rfl, sz, ?_⟩
      rw [slice_from (by omega), show ((j : Int) + 1).toNat = j + 1 by omega]
      have h2 : (l.take j).length + (l.drop (j + 1)).length ≤ l.length := by rw [List.length_take, List.length_drop]; omega
      refine ⟨_, _, rfl, rfl, by rw [S_len, S_len]; exact sml6 (by omega), ?_⟩
      rw [S_cat]
      exact k0 _ _ (by rw [List.length_append]; omega) kk p2
    clear z
    have fnd : ∀ i : Int, (Txt.slice (S l) (some i) none).length ≤ l.length := fun i => by rw [← S_len l]; exact Txt.slice_le _ _ _
    refine ⟨_, rfl, rfl, _, rfl, iteB (fun z => ?_) (fun z => ?_)⟩
    · refine ⟨_, rfl, two 8 (by decide), fun t nt => ?_⟩
      refine ⟨a, t, sV ["", "abcdefghi", "abcdefgh", "A", "a1", " a", "a ", "b"], rfl, p2.new nt, .inr upd_same, new_ne p2 nt, by decide, by decide, fun x o hx ho => ?_⟩
      obtain ⟨u, rfl, hu, p5, k5⟩ := picked (b := 9) p2 kk nt (by decide +kernel) hx ho
      refine ⟨_, rfl, _, rfl, ⟨_, rfl⟩, _, _, rfl, rfl, _, rfl, _, rfl, sz, ?_⟩
      have := fnd (Txt.find (S l) (Str.ofString ":"))
      refine ⟨_, _, rfl, rfl, by rw [S_len]; exact sml6 (by omega), ?_⟩
      refine OthQ.str k0 _ _ ?_ k5 p5
      rw [Str.length_append, S_len]
      omega
    clear z
    refine ⟨_, rfl, rfl, _, rfl, iteB (fun z => ?_) (fun z => ?_)⟩
    · refine ⟨_, rfl, _, rfl, [32, 48], 9, rfl, rfl, by decide, by decide, two 5 (by decide), fun t nt => ?_⟩
      refine ⟨a, t, sV [" 0", S (List.replicate 9 [32, 48]).flatten, " ", " 1", " x"], rfl, p2.new nt, .inr upd_same, new_ne p2 nt, by decide, by decide, fun x o hx ho => ?_⟩
      obtain ⟨u, rfl, hu, p5, k5⟩ := picked (b := 18) p2 kk nt (by decide +kernel) hx ho
      refine ⟨_, _, rfl, rfl, by rw [S_len, S_len]; exact sml6 (by omega), ?_⟩
      rw [S_cat]
      exact k0 _ _ (by rw [List.length_append]; omega) k5 p5
    exact qu a l r _ H2 p2 hw k0
end
end KJ
set_option Elab.async false
set_option linter.all false
set_option maxRecDepth 100000
set_option maxHeartbeats 4000000
/-! a written text among the things of a row: behind it a token is out -/
namespace L2
open PySem PySem.Spec PyProof.Rows
section
variable {X : Cx}
theorem pa_strT {c : Str} {j : Nat} {p : Pos} {es : List Expr} {ta : TA} (hr : PAT X es ta) (hs : starEach (.Constant (.str c) j p :: es) X.env = (false, eval (.Constant (.str c) j p) X.env) :: starEach es X.env := by rfl) :
    PA X (.Constant (.str c) j p :: es) (tCons (tC (.str c)) ta) := by
  refine ⟨fun pos pins s σ H Q I h => ?_⟩
  rw [hs]
  show wpAny _ _ (spliced ((false, eval (.Constant (.str c) j p) X.env) :: backTo pos (starEach es X.env))) _ _ s
  refine Calls.spliced_cons (Calls.Constant_str ?_)
  exact thn (hr pos pins _ σ H _ (show 1 ≤ s.toks + 1 by omega) (I.tok (s.toks + 1)) h) fun us s2 ⟨xs, H2, I2, r2, q2⟩ => ⟨.str c :: xs, H2, I2, .cons ⟨_, rfl⟩ r2, q2⟩
end
end L2
set_option Elab.async false
set_option linter.all false
set_option maxRecDepth 100000
set_option maxHeartbeats 2000000
namespace KJ
open PySem L2 SX Tx
/-! ### the law's other texts -/
theorem join0_len : ∀ ps : List (List Nat), (TL.joinL [] ps).length = (ps.map (·.length)).sum
  | [] => rfl
  | [p] => by show p.length = _; simp
  | p :: q :: r => by
    show (p ++ ([] ++ TL.joinL [] (q :: r))).length = _
    rw [List.length_append, List.nil_append, join0_len (q :: r)]
    simp only [List.map_cons, List.sum_cons]
theorem nl_len (ps : List (List Nat)) : ((ps.map (· ++ [10])).map (·.length)).sum = tl ps := by
  induction ps with
  | nil => rfl
  | cons p ps ih =>
    rw [List.map_cons, List.map_cons, List.sum_cons, ih, tl_cons, List.length_append]
    rfl
def spOtherT : Sp := fun vs H Q _ => ∃ (a L : Addr) (ls : List (List Nat)), vs = [.ref a, .ref L] ∧ PoolAt H a ∧ H L = some (.lst (sL ls)) ∧ ls ≠ [] ∧ tl ls ≤ 3000 ∧ OthQ Q a H 100000
section
variable {P : Program} {w : World} {K : PySem.W.Frag} {mg : Str → Option Value} {base : Heap} {C CC B : Addr}
abbrev s_ot : Stmt := top 63
abbrev nOt : List Str := ["_law_pool_here", "_law_lines", "_law_way", "_law_k", "_law_again", "_law_text", "_law_line_here"]
theorem sc_ot : FnScope nOt ["_law_pool_here", "_law_lines"] (defScope s_ot) := ⟨rfl, rfl, rfl, by decide +kernel, rfl, by decide +kernel, by decide +kernel⟩
abbrev XOt (P : Program) (w : World) (K : PySem.W.Frag) (mg : Str → Option Value) (base : Heap) (f : Addr) (cdv : Value) (A : Around) (outer : List Env) (s : Shared) (H : Hp) (E : XK) : Cx :=
  (cxOf CX0 P w K mg base nOt "_law_other_text" (defScope s_ot) f cdv A outer s H E).nox
/-- the lines are joined, the text changed -/
theorem segOt {f : Addr} {cdv : Value} {A : Around} {outer : List Env} {s : Shared} {H : Hp} {E : XK} {Q : VK} (T : Bm mg) (c_pick : Cal P w K mg base 2 "_law_pick" ["_law_pool_here", "_law_things"] spPickQ) (hr : Room 8 (XOt P w K mg base f cdv A outer s H E).A) :
    ∃ u, PSs (XOt P w K mg base f cdv A outer s H E) ((defBody s_ot).drop 3) u ∧ ∀ (a L : Addr) (ls : List (List Nat)) (r : Nat) (v3 v4 : Option V) (H2 : Hp), PoolAt H2 a → H2 L = some (.lst (sL ls)) → tl ls ≤ 20000 → OthQ Q a H2 100000 →
      u { nx := fun _ H' => Q .non H', rt := Q } [some (.ref a), some (.ref L), some (.int (r : Int)), v3, v4, none, none] H2 := by
  refine ⟨_, (pss_cons (ps_set (i := 5) sc_ot.nd rfl (Or.inl rfl) (pe_join pe_str (pe_lc (own := [("_law_line_here", 6)]) rfl sc_ot.nd (pi_list (pv 1)) (blkOk_by (N := nOt) (sc := defScope s_ot) (by decide +kernel)) (fun _ _ _ _ _ => (pg_name (i := 6) sc_ot.nd rfl (Or.inl rfl))) (fun _ _ _ _ _ => pts_nil) (fun _ _ _ _ _ => (pe_op op_add_str (pv 6) pe_str)))))
    (pss_cons (ps_if (pt_cmpR op_eq (pv 2) pe_int (nomark _))
      (pss_one (ps_set (i := 5) sc_ot.nd rfl (Or.inl rfl) (pe_cal c_pick (hr.mono (by decide)) rfl (pa_cons (pv 0) (pa_cons (pe_tup (pa_cons (pe_slice C8.sl_txt (pv 5) po_none (po_some (pe_un un_neg pe_int))) (pa_cons (pe_op op_add_str (pv 5) pe_str) (pa_cons (pe_op op_add_str (pv 5) pe_str) (pa_strT (pat_cons (CwR.PET.of pe_str) (pat_cons (CwR.PET.of (pe_op op_add_str (pv 5) pe_str)) (pat_cons (CwR.PET.of (pe_op op_add_str pe_str (pv 5))) (pat_cons (CwR.PET.of pe_str) (pat_cons (CwR.pet_replC (pv 5)) pat_nil)))))))))) pa_nil)))))
      pss_nil)
    (pss_one (ps_ret (pv 5))))), ?_⟩
  intro a L ls r v3 v4 H2 p2 eL ht k
  have hc := tl_count ls
  have szl : ∀ n : Nat, n ≤ 100000 → n < sizeLine := fun n h => Nat.lt_of_le_of_lt h (by decide)
  have lens : ∀ q ∈ ls, q.length ≤ 20000 := fun q m => by
    obtain ⟨i, hi⟩ := List.mem_iff_getElem?.mp m
    have := tl_cut hi
    omega
  refine ⟨⟨_, rfl⟩, _, rfl, L, rfl, ⟨_, SqL.of eL⟩, fun D nD => ?_⟩
  refine lc_list (K := K) (a := L) (xs := sL ls) (fun i H' => Same H2 H' ∧ H' D = some (.lst (sL ((ls.take i).map (· ++ [10]))))) ⟨Same.put nD, upd_same⟩ (fun i H' _ h => SqL.of (h.1 _ _ eL)) ?_ ?_
  · rintro i y H' hy ⟨s1, eD⟩
    obtain ⟨q, hq, mq, rfl⟩ := sL_at hy
    have il := (List.getElem?_eq_some_iff.mp hq).1
    have lq := lens q mq
    refine ⟨rfl, yes_of ?_⟩
    refine ⟨_, rfl, _, _, rfl, rfl, by rw [S_len]; exact sml6 (show q.length + 1 ≤ _ by omega), ?_⟩
    rw [show Str.ofString "\n" = S [10] from rfl, S_cat]
    refine ⟨_, eD, by rw [sL_len, List.length_map, List.length_take]; exact szl _ (by omega), Same.but s1 nD, ?_⟩
    rw [upd_same, take_more hq, List.map_append, ← sL_app]
    rfl
  rintro H3 ⟨s3, eD⟩
  rw [sL_len, List.take_length] at eD
  have p3 := p2.same s3
  have k3 : Keep a H2 H3 := Keep.of s3
  have jl : (TL.joinL [] (ls.map (· ++ [10]))).length = tl ls := by rw [join0_len, nl_len]
  refine ⟨Str.ofString "", D, (ls.map (· ++ [10])).map S, rfl, rfl, .inl (SqL.of eD), ?_, ?_⟩
  · rw [List.map_map, List.length_map]
    have e : ((ls.map (· ++ [10])).map ((fun x : Str => x.length) ∘ S)) = (ls.map (· ++ [10])).map (·.length) := List.map_congr_left fun p _ => S_len p
    rw [e, nl_len, show (Str.ofString "").length = 0 from rfl]
    omega
  rw [show Str.ofString "" = S [] from rfl, join_S]
  generalize TL.joinL [] (ls.map (· ++ [10])) = t at jl
  have k0 : OthQ Q a H3 100000 := k.from k3 (Nat.le_refl _)
  have tlen : t.length ≤ 20000 := by omega
  refine ⟨_, rfl, rfl, _, rfl, iteB (fun z => ?_) (fun z => ?_)⟩
  rotate_left
  · refine ⟨_, rfl, k0 t H3 (by omega) (Keep.of (Same.refl H3)) p3⟩
  have sz : ∀ n, n ≤ 20000 → n + 4 ≤ sizeLine := fun n h => sml6 (by omega)
  have l5 : (S t).length = t.length := S_len _
  refine ⟨_, rfl, _, rfl, _, rfl, _, rfl, _, rfl, by rw [l5]; exact sml6 (by omega), ?_⟩
  refine ⟨_, rfl, _, _, rfl, rfl, by rw [l5]; exact sml6 (show t.length + 1 ≤ _ by omega), ?_⟩
  refine ⟨_, rfl, _, _, rfl, rfl, by rw [l5]; exact sml6 (show t.length + 4 ≤ _ by omega), ?_⟩
  refine ⟨_, rfl, _, _, rfl, rfl, by rw [l5]; exact sml6 (show t.length + 1 ≤ _ by omega), ?_⟩
  refine ⟨_, rfl, _, _, rfl, rfl, by rw [l5]; exact sml6 (show 1 + t.length ≤ _ by omega), ?_⟩
  refine ⟨_, rfl, _, rfl, by rw [l5]; show t.length + (t.length + 1) * 2 ≤ _; omega, ?_⟩
  refine ⟨sml6 (show 9 ≤ 1000000 by decide), fun g ng => ?_⟩
  refine ⟨a, g, sV [Txt.slice (S t) none (some (-1)), S t ++ " ", S t ++ "z: 1", "", "\n", S t ++ "\n", Str.ofString "\n" ++ S t, "z", Txt.replace (S t) "\n" "\t\n"], rfl, p3.new ng, .inr upd_same, new_ne p3 ng, (show 0 < 9 by decide), (show 9 ≤ 200 by decide), fun x o hx ho => ?_⟩
  obtain ⟨u, rfl, hu, p5, k5⟩ := picked (b := 61000) p3 (Keep.of (Same.refl H3)) ng (fun y m => by
    have a1 : (Txt.slice (S t) none (some (-1))).length ≤ t.length := by rw [← l5]; exact Txt.slice_le _ _ _
    have a9 : (Txt.replace (S t) (Str.ofString "\n") (Str.ofString "\t\n")).length ≤ t.length + (t.length + 1) * 2 := by have := TK.replace_len (S t) (Str.ofString "\n") (Str.ofString "\t\n"); rwa [l5] at this
    have ap : ∀ x y : Str, (x ++ y).length = x.length + y.length := fun x y => Str.length_append x y
    rcases List.mem_cons.mp m with rfl | m
    · omega
    rcases List.mem_cons.mp m with rfl | m
    · rw [ap, l5]; exact Nat.add_le_add tlen (show 1 ≤ 41000 by decide)
    rcases List.mem_cons.mp m with rfl | m
    · rw [ap, l5]; exact Nat.add_le_add tlen (show 4 ≤ 41000 by decide)
    rcases List.mem_cons.mp m with rfl | m
    · show 0 ≤ 61000; decide
    rcases List.mem_cons.mp m with rfl | m
    · show 1 ≤ 61000; decide
    rcases List.mem_cons.mp m with rfl | m
    · rw [ap, l5]; exact Nat.add_le_add tlen (show 1 ≤ 41000 by decide)
    rcases List.mem_cons.mp m with rfl | m
    · rw [ap, l5]; exact Nat.add_le_add (show 1 ≤ 41000 by decide) tlen
    rcases List.mem_cons.mp m with rfl | m
    · show 1 ≤ 61000; decide
    rcases List.mem_cons.mp m with rfl | m
    · exact Nat.le_trans a9 (by omega)
    · cases m) hx ho
  exact ⟨_, rfl, k0 u _ (by omega) k5 p5⟩
end
end KJ
set_option Elab.async false
set_option linter.all false
set_option maxRecDepth 100000
set_option maxHeartbeats 2000000
namespace KJ
open PySem L2 SX Tx
theorem PoolAt.neS {H : Hp} {a b : Addr} {ls : List (List Nat)} (h : PoolAt H a) (e : H b = some (.lst (sL ls))) : b ≠ a := fun z => by
  obtain ⟨u, e2, n, g, q, _⟩ := h
  rw [z, e2, q] at e
  cases ls with
  | nil => cases e
  | cons t ts => cases e
theorem tl_split {ls : List (List Nat)} {k : Nat} : tl (ls.take k) + tl (ls.drop k) = tl ls := by
  rw [← tl_app, List.take_append_drop]
section
variable {P : Program} {w : World} {K : PySem.W.Frag} {mg : Str → Option Value} {base : Heap} {C CC B : Addr}
theorem ok_ot {f : Addr} {fd : FuncData} (F : Fun K "_law_other_text" "_law_other_text" s_ot f fd) (T : Bm mg) (c_draw : Cal P w K mg base 1 "_law_draw" ["_law_pool_here", "_law_many"] spDraw) (c_pick : Cal P w K mg base 2 "_law_pick" ["_law_pool_here", "_law_things"] spPickQ) (c_ol : Cal P w K mg base 8 "_law_other_line" ["_law_pool_here", "_law_line_here"] spOtherL) : FnOk P w K mg base CX0 9 f fd ["_law_pool_here", "_law_lines"] spOtherT := by
  refine F.ok sc_ot (fun vs H Q E h => ?_) (fun cdv A outer s H vs Q E hr h => ?_)
  · obtain ⟨a, L, ls, rfl, _⟩ := h
    rfl
  · obtain ⟨a, L, ls, rfl, hp, eL, ne, ht, k⟩ := h
    obtain ⟨u, hu, qu⟩ := segOt (f := f) (cdv := cdv) (A := A) (outer := outer) (s := s) (H := H) (E := E) (Q := Q) T c_pick hr
    refine ⟨_, (pss_cons (ps_set (i := 2) sc_ot.nd rfl (Or.inl rfl) (pe_cal c_draw (hr.mono (by decide)) rfl (pa_cons (pv 0) (pa_cons pe_int pa_nil))))
      (pss_cons (ps_set (i := 3) sc_ot.nd rfl (Or.inl rfl) (pe_cal c_draw (hr.mono (by decide)) rfl (pa_cons (pv 0) (pa_cons (pe_callB call_len_seq (by rfl) T.b.n_len PySem.boot_len (pa_cons (pv 1) pa_nil)) pa_nil))))
      (pss_cons (ps_if (pt_cmpR op_eq (pv 2) pe_int (nomark _))
        (pss_one (ps_set (i := 1) sc_ot.nd rfl (Or.inl rfl) (pe_op op_cat (pe_slice sl_list (pv 1) po_none (po_some (pv 3))) (pe_slice sl_list (pv 1) (po_some (pe_op op_add (pv 3) pe_int)) po_none))))
        (pss_one (ps_if (pt_cmpR op_eq (pv 2) pe_int (nomark _))
            (pss_one (ps_set (i := 1) sc_ot.nd rfl (Or.inl rfl) (pe_op op_cat (pe_op op_cat (pe_slice sl_list (pv 1) po_none (po_some (pv 3))) (pe_lst (pa_cons (pe_ix (show IxR _ (rIxL K) from ix_list) (pv 1) (pv 3) (fun _ _ => rfl)) pa_nil))) (pe_slice sl_list (pv 1) (po_some (pv 3)) po_none))))
            (pss_one (ps_if (pt_cmpR op_eq (pv 2) pe_int (nomark _))
                (pss_one (ps_set (i := 1) sc_ot.nd rfl (Or.inl rfl) (pe_op op_cat (pe_op op_cat (pe_slice sl_list (pv 1) po_none (po_some (pv 3))) (pe_lst (pa_cons pe_str pa_nil))) (pe_slice sl_list (pv 1) (po_some (pv 3)) po_none))))
                (pss_one (ps_if (pt_cmpR op_lt (pv 2) pe_int (nomark _))
                    (pss_one (ps_for PassesOwn.never rfl (pi_range1 (by rfl) T.n_range (pa_cons (pe_op op_add pe_int (pe_cal c_draw (hr.mono (by decide)) rfl (pa_cons (pv 0) (pa_cons pe_int pa_nil)))) pa_nil)) (pg_name (i := 4) sc_ot.nd rfl (Or.inl rfl))
                        (pss_cons (ps_set (i := 3) sc_ot.nd rfl (Or.inl rfl) (pe_cal c_draw (hr.mono (by decide)) rfl (pa_cons (pv 0) (pa_cons (pe_callB call_len_seq (by rfl) T.b.n_len PySem.boot_len (pa_cons (pv 1) pa_nil)) pa_nil))))
                          (pss_one (ps_set (i := 1) sc_ot.nd rfl (Or.inl rfl) (pe_op op_cat (pe_op op_cat (pe_slice sl_list (pv 1) po_none (po_some (pv 3))) (pe_lst (pa_cons (pe_cal c_ol hr rfl (pa_cons (pv 0) (pa_cons (pe_ix (show IxR _ (rIxL K) from ix_list) (pv 1) (pv 3) (fun _ _ => rfl)) pa_nil))) pa_nil))) (pe_slice sl_list (pv 1) (po_some (pe_op op_add (pv 3) pe_int)) po_none)))))))
                    pss_nil))))))) hu))), ?_⟩
    have kk : Keep a H H := Keep.of (Same.refl H)
    have two : ∀ n : Nat, n ≤ 20 → n ≤ sizeLine := fun n h => sml6 (by omega)
    have La := hp.neS eL
    refine ⟨_, rfl, a, 11, rfl, hp, by decide, by decide, fun r o r0 r1 ho => ?_⟩
    obtain ⟨p1, k1⟩ := drawn hp kk ho
    have eL1 : (upd H a o) L = some (.lst (sL ls)) := by rw [upd_ne La]; exact eL
    generalize (upd H a o) = H1 at p1 k1 eL1 ⊢
    obtain ⟨r, rfl⟩ := nat_of r0
    have hc := tl_count ls
    have l1 : 1 ≤ ls.length := List.length_pos_iff.mpr ne
    refine ⟨_, rfl, _, rfl, L, _, rfl, .inl (SqL.of eL1), ?_⟩
    rw [sL_len]
    refine ⟨a, _, rfl, p1, by omega, nsm6 (by omega), fun r' o2 q0 q1 ho2 => ?_⟩
    obtain ⟨p2, k2⟩ := drawn p1 k1 ho2
    have eL2 : (upd H1 a o2) L = some (.lst (sL ls)) := by rw [upd_ne La]; exact eL1
    generalize (upd H1 a o2) = H2 at p2 k2 eL2 ⊢
    obtain ⟨j, rfl⟩ := nat_of q0
    have hj : j < ls.length := by omega
    have gj : ls[j]? = some ls[j] := List.getElem?_eq_getElem hj
    generalize ls[j] = q at gj
    have gjV : (sL ls)[j]? = some (.str (S q)) := by rw [List.getElem?_map, List.getElem?_map, gj]; rfl
    have hcut := tl_cut gj
    have tk : ∀ (ps : List (List Nat)) i, (sL ps).take i = sL (ps.take i) := fun ps i => by rw [sL, sL, ← List.map_take, ← List.map_take]
    have dr : ∀ (ps : List (List Nat)) i, (sL ps).drop i = sL (ps.drop i) := fun ps i => by rw [sL, sL, ← List.map_drop, ← List.map_drop]
    have k0 : OthQ Q a H2 100000 := k.from k2 (Nat.le_refl _)
    have kk : Keep a H2 H2 := Keep.of (Same.refl H2)
    refine ⟨_, rfl, rfl, _, rfl, iteB (fun z => ?_) (fun z => ?_)⟩
    · refine ⟨_, rfl, _, rfl, _, rfl, L, _, rfl, SqL.of eL2, fun b nb => ?_⟩
      rw [cut_to, tk]
      have s1 := Same.put (o := .lst (sL (ls.take j))) nb
      have eb : (upd H2 b (.lst (sL (ls.take j)))) b = some (.lst (sL (ls.take j))) := upd_same
      generalize (upd H2 b (.lst (sL (ls.take j)))) = H5 at s1 eb ⊢
      refine ⟨_, rfl, _, rfl, _, _, rfl, rfl, _, rfl, L, _, rfl, SqL.of (s1 _ _ eL2), fun d nd => ?_⟩
      rw [show ((j : Int) + 1) = ((j + 1 : Nat) : Int) by omega, cut_fr, dr]
      have s2 := Same.put (o := .lst (sL (ls.drop (j + 1)))) nd
      have ht2 : tl (ls.take j ++ ls.drop (j + 1)) ≤ 3000 := by rw [tl_app]; omega
      have hcc := tl_count (ls.take j ++ ls.drop (j + 1))
      refine ⟨b, d, _, _, rfl, rfl, s2 _ _ eb, upd_same, by rw [← List.length_append, sL_app, sL_len]; exact sml6 (by omega), fun g ng => ?_⟩
      rw [sL_app]
      have s3 := (s1.trans s2).trans (Same.put (o := .lst (sL (ls.take j ++ ls.drop (j + 1)))) ng)
      exact qu a g _ r _ _ _ (p2.same s3) upd_same (by omega) (k0.from (Keep.of s3) (Nat.le_refl _))
    clear z
    refine ⟨_, rfl, rfl, _, rfl, iteB (fun z => ?_) (fun z => ?_)⟩
    · refine ⟨_, rfl, _, rfl, _, rfl, L, _, rfl, SqL.of eL2, fun b nb => ?_⟩
      rw [cut_to, tk]
      have s1 := Same.put (o := .lst (sL (ls.take j))) nb
      have eb : (upd H2 b (.lst (sL (ls.take j)))) b = some (.lst (sL (ls.take j))) := upd_same
      generalize (upd H2 b (.lst (sL (ls.take j)))) = H5 at s1 eb ⊢
      refine ⟨_, rfl, _, rfl, L, _, _, _, rfl, rfl, SqL.of (s1 _ _ eL2), atI_nat gjV, two 1 (by decide), fun c nc => ?_⟩
      have s2 := s1.trans (Same.put (o := .lst [V.str (S q)]) nc)
      have eb2 := Same.put (o := .lst [V.str (S q)]) nc _ _ eb
      have ec : (upd H5 c (.lst [V.str (S q)])) c = some (.lst (sL [q])) := upd_same
      generalize (upd H5 c (.lst [V.str (S q)])) = H6 at s2 eb2 ec ⊢
      have hl1 : (ls.take j ++ [q]).length ≤ ls.length + 1 := by rw [List.length_append, List.length_take]; show min j ls.length + 1 ≤ _; omega
      refine ⟨b, c, _, _, rfl, rfl, eb2, ec, by rw [← List.length_append, sL_app, sL_len]; exact sml6 (by omega), fun g ng => ?_⟩
      rw [sL_app]
      have s3 := s2.trans (Same.put (o := .lst (sL (ls.take j ++ [q]))) ng)
      have eg : (upd H6 g (.lst (sL (ls.take j ++ [q])))) g = some (.lst (sL (ls.take j ++ [q]))) := upd_same
      generalize (upd H6 g (.lst (sL (ls.take j ++ [q])))) = H7 at s3 eg ⊢
      refine ⟨_, rfl, _, rfl, _, rfl, L, _, rfl, SqL.of (s3 _ _ eL2), fun d nd => ?_⟩
      rw [cut_fr, dr]
      have s4 := s3.trans (Same.put (o := .lst (sL (ls.drop j))) nd)
      have eg4 := Same.put (o := .lst (sL (ls.drop j))) nd _ _ eg
      have h1 : tl ([q] : List (List Nat)) = q.length + 1 := by rw [tl_cons]; rfl
      have hsp := tl_split (ls := ls) (k := j)
      have ht2 : tl (ls.take j ++ [q] ++ ls.drop j) ≤ 6000 := by rw [tl_app, tl_app, h1]; omega
      have hcc := tl_count (ls.take j ++ [q] ++ ls.drop j)
      refine ⟨g, d, _, _, rfl, rfl, eg4, upd_same, by rw [← List.length_append, sL_app, sL_len]; exact sml6 (by omega), fun y ny => ?_⟩
      rw [sL_app]
      have s5 := s4.trans (Same.put (o := .lst (sL (ls.take j ++ [q] ++ ls.drop j))) ny)
      exact qu a y _ r _ _ _ (p2.same s5) upd_same (by omega) (k0.from (Keep.of s5) (Nat.le_refl _))
    clear z
    refine ⟨_, rfl, rfl, _, rfl, iteB (fun z => ?_) (fun z => ?_)⟩
    · refine ⟨_, rfl, _, rfl, _, rfl, L, _, rfl, SqL.of eL2, fun b nb => ?_⟩
      rw [cut_to, tk]
      have s1 := Same.put (o := .lst (sL (ls.take j))) nb
      have eb : (upd H2 b (.lst (sL (ls.take j)))) b = some (.lst (sL (ls.take j))) := upd_same
      generalize (upd H2 b (.lst (sL (ls.take j)))) = H5 at s1 eb ⊢
      refine ⟨two 1 (by decide), fun c nc => ?_⟩
      have s2 := s1.trans (Same.put (o := .lst (sL [[122, 58, 32, 49]])) nc)
      have eb2 := Same.put (o := .lst (sL [[122, 58, 32, 49]])) nc _ _ eb
      have ec : (upd H5 c (.lst (sL [[122, 58, 32, 49]]))) c = some (.lst (sL [[122, 58, 32, 49]])) := upd_same
      rw [show (HO.lst [V.str (Str.ofString "z: 1")]) = HO.lst (sL [[122, 58, 32, 49]]) from rfl]
      generalize (upd H5 c (.lst (sL [[122, 58, 32, 49]]))) = H6 at s2 eb2 ec ⊢
      have hl1 : (ls.take j ++ [[122, 58, 32, 49]]).length ≤ ls.length + 1 := by rw [List.length_append, List.length_take]; show min j ls.length + 1 ≤ _; omega
      refine ⟨b, c, _, _, rfl, rfl, eb2, ec, by rw [← List.length_append, sL_app, sL_len]; exact sml6 (by omega), fun g ng => ?_⟩
      rw [sL_app]
      have s3 := s2.trans (Same.put (o := .lst (sL (ls.take j ++ [[122, 58, 32, 49]]))) ng)
      have eg : (upd H6 g (.lst (sL (ls.take j ++ [[122, 58, 32, 49]])))) g = some (.lst (sL (ls.take j ++ [[122, 58, 32, 49]]))) := upd_same
      generalize (upd H6 g (.lst (sL (ls.take j ++ [[122, 58, 32, 49]])))) = H7 at s3 eg ⊢
      refine ⟨_, rfl, _, rfl, _, rfl, L, _, rfl, SqL.of (s3 _ _ eL2), fun d nd => ?_⟩
      rw [cut_fr, dr]
      have s4 := s3.trans (Same.put (o := .lst (sL (ls.drop j))) nd)
      have eg4 := Same.put (o := .lst (sL (ls.drop j))) nd _ _ eg
      have h1 : tl ([[122, 58, 32, 49]] : List (List Nat)) = 5 := rfl
      have hsp := tl_split (ls := ls) (k := j)
      have ht2 : tl (ls.take j ++ [[122, 58, 32, 49]] ++ ls.drop j) ≤ 6000 := by rw [tl_app, tl_app, h1]; omega
      have hcc := tl_count (ls.take j ++ [[122, 58, 32, 49]] ++ ls.drop j)
      refine ⟨g, d, _, _, rfl, rfl, eg4, upd_same, by rw [← List.length_append, sL_app, sL_len]; exact sml6 (by omega), fun y ny => ?_⟩
      rw [sL_app]
      have s5 := s4.trans (Same.put (o := .lst (sL (ls.take j ++ [[122, 58, 32, 49]] ++ ls.drop j))) ny)
      exact qu a y _ r _ _ _ (p2.same s5) upd_same (by omega) (k0.from (Keep.of s5) (Nat.le_refl _))
    clear z
    refine ⟨_, rfl, _, _, rfl, rfl, _, rfl, iteB (fun z => ?_) (fun z => ?_)⟩
    rotate_left
    · exact qu a L ls r _ _ H2 p2 eL2 (by omega) k0
    refine ⟨_, rfl, a, 2, rfl, p2, by decide, by decide, fun m om m0 m1 hom => ?_⟩
    obtain ⟨p3, k3⟩ := drawn p2 kk hom
    have eL3 : (upd H2 a om) L = some (.lst (sL ls)) := by rw [upd_ne La]; exact eL2
    generalize (upd H2 a om) = H3 at p3 k3 eL3 ⊢
    refine ⟨_, _, rfl, rfl, _, rfl, by omega, by omega, ?_⟩
    refine for_range (n := (1 + m).toNat) (fun i σ H' => ∃ (L' : Addr) (ls' : List (List Nat)) (w3 w4 : Option V), σ = [some (.ref a), some (.ref L'), some (.int (r : Int)), w3, w4, none, none] ∧ Keep a H2 H' ∧ PoolAt H' a ∧ H' L' = some (.lst (sL ls')) ∧ ls' ≠ [] ∧ tl ls' ≤ 3000 + 6200 * i) ⟨L, ls, _, _, rfl, k3, p3, eL3, ne, by omega⟩ ?_ ?_
    · rintro i σ H4 hi ⟨L', ls', w3, w4, rfl, k4, p4, e4, ne4, t4⟩
      have La' := p4.neS e4
      have hc' := tl_count ls'
      have l1' : 1 ≤ ls'.length := List.length_pos_iff.mpr ne4
      refine ⟨_, rfl, _, rfl, L', _, rfl, .inl (SqL.of e4), ?_⟩
      rw [sL_len]
      refine ⟨a, _, rfl, p4, by omega, nsm6 (by omega), fun x ox x0 x1 hox => ?_⟩
      obtain ⟨p5, k5⟩ := drawn p4 k4 hox
      have e5 : (upd H4 a ox) L' = some (.lst (sL ls')) := by rw [upd_ne La']; exact e4
      generalize (upd H4 a ox) = H5 at p5 k5 e5 ⊢
      obtain ⟨x, rfl⟩ := nat_of x0
      have hx : x < ls'.length := by omega
      have gx : ls'[x]? = some ls'[x] := List.getElem?_eq_getElem hx
      generalize ls'[x] = q' at gx
      have gxV : (sL ls')[x]? = some (.str (S q')) := by rw [List.getElem?_map, List.getElem?_map, gx]; rfl
      have hcut' := tl_cut gx
      refine ⟨_, rfl, _, rfl, _, rfl, L', _, rfl, SqL.of e5, fun b nb => ?_⟩
      rw [cut_to, tk]
      have s6 := Same.put (o := .lst (sL (ls'.take x))) nb
      have eb : (upd H5 b (.lst (sL (ls'.take x)))) b = some (.lst (sL (ls'.take x))) := upd_same
      have ba := new_ne p5 nb
      have p6 := p5.same s6
      have k6 := k5.trans (Keep.of (a := a) s6)
      have e6 := s6 _ _ e5
      generalize (upd H5 b (.lst (sL (ls'.take x)))) = H6 at eb p6 k6 e6 ⊢
      refine ⟨_, rfl, _, rfl, _, rfl, L', _, _, _, rfl, rfl, SqL.of e6, atI_nat gxV, a, q', rfl, p6, by omega, fun y H7 hy k7 p7 => ?_⟩
      have eb7 := k7 _ _ eb ba
      have e7 := k7 _ _ e6 La'
      refine ⟨two 1 (by decide), fun c nc => ?_⟩
      have s8 := Same.put (o := .lst (sL [y])) nc
      have ec : (upd H7 c (.lst (sL [y]))) c = some (.lst (sL [y])) := upd_same
      have p8 := p7.same s8
      have k8 := (k6.trans k7).trans (Keep.of (a := a) s8)
      have eb8 := s8 _ _ eb7
      have e8 := s8 _ _ e7
      rw [show (HO.lst [V.str (S y)]) = HO.lst (sL [y]) from rfl]
      generalize (upd H7 c (.lst (sL [y]))) = H8 at ec p8 k8 eb8 e8 ⊢
      have hl1 : (ls'.take x ++ [y]).length ≤ ls'.length + 1 := by rw [List.length_append, List.length_take]; show min x ls'.length + 1 ≤ _; omega
      refine ⟨b, c, _, _, rfl, rfl, eb8, ec, by rw [← List.length_append, sL_app, sL_len]; exact sml6 (by omega), fun g ng => ?_⟩
      rw [sL_app]
      have s9 := Same.put (o := .lst (sL (ls'.take x ++ [y]))) ng
      have eg : (upd H8 g (.lst (sL (ls'.take x ++ [y])))) g = some (.lst (sL (ls'.take x ++ [y]))) := upd_same
      have p9 := p8.same s9
      have k9 := k8.trans (Keep.of (a := a) s9)
      have e9 := s9 _ _ e8
      generalize (upd H8 g (.lst (sL (ls'.take x ++ [y])))) = H9 at eg p9 k9 e9 ⊢
      refine ⟨_, rfl, _, rfl, _, _, rfl, rfl, _, rfl, L', _, rfl, SqL.of e9, fun d nd => ?_⟩
      rw [show ((x : Int) + 1) = ((x + 1 : Nat) : Int) by omega, cut_fr, dr]
      have s10 := Same.put (o := .lst (sL (ls'.drop (x + 1)))) nd
      have h1 : tl ([y] : List (List Nat)) = y.length + 1 := by rw [tl_cons]; rfl
      have ht2 : tl (ls'.take x ++ [y] ++ ls'.drop (x + 1)) ≤ 3000 + 6200 * (i + 1) := by rw [tl_app, tl_app, h1]; omega
      have hcc := tl_count (ls'.take x ++ [y] ++ ls'.drop (x + 1))
      refine ⟨g, d, _, _, rfl, rfl, s10 _ _ eg, upd_same, by rw [← List.length_append, sL_app, sL_len]; exact sml6 (by omega), fun z nz => ?_⟩
      rw [sL_app]
      have s11 := s10.trans (Same.put (o := .lst (sL (ls'.take x ++ [y] ++ ls'.drop (x + 1)))) nz)
      exact ⟨z, _, _, _, rfl, k9.trans (Keep.of s11), p9.same s11, upd_same, by simp, ht2⟩
    · rintro σ H4 ⟨L', ls', w3, w4, rfl, k4, p4, e4, ne4, t4⟩
      exact qu a L' ls' r _ _ H4 p4 e4 (by omega) (k0.from k4 (Nat.le_refl _))
end
end KJ
set_option Elab.async false
set_option linter.all false
set_option maxRecDepth 100000
set_option maxHeartbeats 4000000
/-! two lists of the very same things are not unlike, whatever the things are -/
namespace L2
open PySem PySem.Spec PyProof.Rows PySem.SeqAt PySem.MeetsSeq
def PlV : V → Prop
  | .non => True
  | .bl _ => True
  | .int _ => True
  | .str _ => True
  | .ref _ => True
  | _ => False
end L2
set_option Elab.async false
set_option linter.all false
set_option maxRecDepth 100000
set_option maxHeartbeats 4000000
/-! two lists of data and instances, == and !=, item by item -/
namespace L2
open PySem PySem.Spec PyProof.Rows PySem.SeqAt PySem.MeetsSeq PySem.MeetsSeq2 PySem.MeetsSeq3 PySem.SeqRoads2
open PySem.AutoSeq1 (wpAny_loadPart')
theorem plv_same {x y : V} {u : Value} (hx : PlV x) (hy : PlV y) (rx : RelV x u) (ry : RelV y u) : x = y := by
  cases x with
  | non => cases y with
    | non => rfl
    | bl b => have rx : u = .none := rx; have ry : u = .bool b := ry; rw [rx] at ry; cases ry
    | int i => have rx : u = .none := rx; obtain ⟨t, ry⟩ := ry; rw [rx] at ry; cases ry
    | str z => have rx : u = .none := rx; obtain ⟨t, ry⟩ := ry; rw [rx] at ry; cases ry
    | ref a => have rx : u = .none := rx; have ry : u = .ref a := ry; rw [rx] at ry; cases ry
    | _ => cases hy
  | bl c => cases y with
    | non => have rx : u = .bool c := rx; have ry : u = .none := ry; rw [rx] at ry; cases ry
    | bl b => have rx : u = .bool c := rx; have ry : u = .bool b := ry; rw [rx] at ry; injection ry with ry; rw [ry]
    | int i => have rx : u = .bool c := rx; obtain ⟨t, ry⟩ := ry; rw [rx] at ry; cases ry
    | str z => have rx : u = .bool c := rx; obtain ⟨t, ry⟩ := ry; rw [rx] at ry; cases ry
    | ref a => have rx : u = .bool c := rx; have ry : u = .ref a := ry; rw [rx] at ry; cases ry
    | _ => cases hy
  | int c =>
    obtain ⟨t, rx⟩ := rx
    cases y with
    | non => have ry : u = .none := ry; rw [rx] at ry; cases ry
    | bl b => have ry : u = .bool b := ry; rw [rx] at ry; cases ry
    | int i => obtain ⟨t', ry⟩ := ry; rw [rx] at ry; injection ry with ry; rw [ry]
    | str z => obtain ⟨t', ry⟩ := ry; rw [rx] at ry; cases ry
    | ref a => have ry : u = .ref a := ry; rw [rx] at ry; cases ry
    | _ => cases hy
  | str c =>
    obtain ⟨t, rx⟩ := rx
    cases y with
    | non => have ry : u = .none := ry; rw [rx] at ry; cases ry
    | bl b => have ry : u = .bool b := ry; rw [rx] at ry; cases ry
    | int i => obtain ⟨t', ry⟩ := ry; rw [rx] at ry; cases ry
    | str z => obtain ⟨t', ry⟩ := ry; rw [rx] at ry; injection ry with ry; rw [ry]
    | ref a => have ry : u = .ref a := ry; rw [rx] at ry; cases ry
    | _ => cases hy
  | ref c => cases y with
    | non => have rx : u = .ref c := rx; have ry : u = .none := ry; rw [rx] at ry; cases ry
    | bl b => have rx : u = .ref c := rx; have ry : u = .bool b := ry; rw [rx] at ry; cases ry
    | int i => have rx : u = .ref c := rx; obtain ⟨t, ry⟩ := ry; rw [rx] at ry; cases ry
    | str z => have rx : u = .ref c := rx; obtain ⟨t, ry⟩ := ry; rw [rx] at ry; cases ry
    | ref a => have rx : u = .ref c := rx; have ry : u = .ref a := ry; rw [rx] at ry; injection ry with ry; rw [ry]
    | _ => cases hy
  | _ => cases hx
/-- the items of two sequences, compared -/
def ItEq (r : R2) (H : Hp) (xs ys : List V) (e : Nat → Bool) : Prop := (∀ z ∈ xs, PlV z) ∧ (∀ z ∈ ys, PlV z) ∧ ∀ i c d, xs[i]? = some c → ys[i]? = some d → (c = d → e i = true) ∧ r c d H (fun v H' => v = .bl (e i) ∧ H' = H)
def rNeLst (K : PySem.W.Frag) (r : R2) : R2 := fun x y H Q => ∃ (a b : Addr) (xs ys : List V) (e : Nat → Bool), x = .ref a ∧ y = .ref b ∧ SqL K H a xs ∧ SqL K H b ys ∧ ItEq r H xs ys e ∧
  Q (.bl (!((List.range (min xs.length ys.length)).all e && xs.length == ys.length))) H
section
variable {X : Cx} {pins : List (Addr × Obj)} {σ : St} {H : Hp}
theorem seq_item {r : R2} (op : OpR X.inn (compareOp .Eq) r) {c d : V} {u v : Value} {k : Bool} (rc : RelV c u) (rd : RelV d v) (sc : PlV c) (sd : PlV d) (hk : c = d → k = true) (hr : r c d H (fun v H' => v = .bl k ∧ H' = H)) {s : Shared} (I : Inv X pins σ H s) {E : Value → Shared → Prop} (hE : ∀ e s', X.xe e s' → E e s') {Q : Bool → Shared → Prop} (hQ : ∀ s', Inv X pins σ H s' → Q k s') :
    wpAny (model X.prog X.w) X.A.in1 (eqBool u v) Q E s := by
  have form : (u = .none) ∨ (∃ b, u = .bool b) ∨ (∃ i t, u = .int i t) ∨ (∃ z t, u = .str z t) ∨ ∃ a, u = .ref a := by
    cases c with
    | non => exact .inl rc
    | bl b => exact .inr (.inl ⟨b, rc⟩)
    | int i => obtain ⟨t, rc⟩ := rc; exact .inr (.inr (.inl ⟨i, t, rc⟩))
    | str z => obtain ⟨t, rc⟩ := rc; exact .inr (.inr (.inr (.inl ⟨z, t, rc⟩)))
    | ref a => exact .inr (.inr (.inr (.inr ⟨a, rc⟩)))
    | _ => cases sc
  rcases form with rfl | ⟨b, rfl⟩ | ⟨i, t, rfl⟩ | ⟨z, t, rfl⟩ | ⟨a, rfl⟩
  all_goals
    unfold eqBool
    refine wpAny_holding ?_
    refine wpAny_ite_split (fun hab => ?_) (fun hab => ?_)
    · have := eq_of_beq hab
      subst this
      rw [hk (plv_same sc sd rc rd)] at hQ
      exact wpAny_bind (wpAny_rule (wpAny_pure (hQ _ I)))
    · refine wpAny_bind (wpAny_mono (op pins s σ H c d _ _ (fun v H' => v = .bl k ∧ H' = H) I.inn rc rd hr) (fun w s2 q => ?_) (fun e s2 z => hE e s2 z))
      obtain ⟨z, H2, I3, rz, rfl, rfl⟩ := q
      cases rz
      exact wpAny_truthy_bool (hQ _ (I3.outn I.ok))
/-- the list's object at this state -/
theorem lst_at {s : Shared} (I : Inv X pins σ H s) {a : Addr} {xs : List V} (h : SqL X.K H a xs) : ∃ (it : List Value) (dd : Option Addr) (n : Nat) (sl : Array (Option Value)), s.heap.get? a = some { cls := .type "list", dict := dd, data := .seq it.toArray n, slots := sl } ∧ it.length = xs.length ∧ ∀ (i : Nat) (c : V), xs[i]? = some c → ∃ u, it[i]? = some u ∧ RelV c u := by
  obtain ⟨i1, r1, p1, _⟩ := I.list h
  obtain ⟨⟨cls, dd, data, sl⟩, ho, hc, n, hd⟩ := p1.isList
  simp only at hc hd
  subst hc hd
  exact ⟨i1, dd, n, sl, ho, r1.length.symm, fun i c hc => r1.get hc⟩
theorem ne_loopI {r : R2} (op : OpR X.inn (compareOp .Eq) r) {a b : Addr} {xs ys : List V} {e : Nat → Bool} (h1 : SqL X.K H a xs) (h2 : SqL X.K H b ys) (hl : xs.length = ys.length) (he : ItEq r H xs ys e) (k : Nat) : ∀ i : Nat, xs.length - i = k →
    MeetsIn X.prog X.w (Builtin.«list.__eq__.loop» ⟨[.ref a, .ref b, rawInt i, rawInt 3], []⟩) (fun A R s => A = X.A ∧ Inv X pins σ H s ∧ (∀ er s', X.xe er s' → R (.error er) s') ∧ ∀ s', Inv X pins σ H s' → R (.ok (.ret (.bool (!((List.range xs.length).drop i).all e)))) s') := by
  obtain ⟨px, py, hi⟩ := he
  induction k with
  | zero =>
    intro i hk A R s h
    obtain ⟨rfl, I, hE, h⟩ := h
    obtain ⟨i1, dd, n, sl, g1, l1, q1⟩ := lst_at I h1
    obtain ⟨i2, dd2, n2, sl2, g2, l2, q2⟩ := lst_at I h2
    have hR := h s I
    obtain ⟨hp, g, d, tk, os⟩ := s
    wp_walk using wpAny_loadPart' g1, wpAny_loadPart' g2
    have hi1 : i1.toArray[((i : Nat) : Int).toNat]? = none := by simp; omega
    have hi2 : i2.toArray[((i : Nat) : Int).toNat]? = none := by simp; omega
    have hd : (List.range xs.length).drop i = [] := by simp; omega
    rw [hd] at hR
    rw [hi1, hi2]
    wp_walk using wpAny_loadPart' g1, wpAny_loadPart' g2
    show R (.ok (.ret (.bool (i1.toArray.size != i2.toArray.size)))) _
    have : (i1.toArray.size != i2.toArray.size) = false := by simp; omega
    rw [this]
    simpa using hR
  | succ k ih =>
    intro i hk A R s h
    obtain ⟨rfl, I, hE, h⟩ := h
    obtain ⟨i1, dd, n, sl, g1, l1, q1⟩ := lst_at I h1
    obtain ⟨i2, dd2, n2, sl2, g2, l2, q2⟩ := lst_at I h2
    have lt1 : i < xs.length := by omega
    have lt2 : i < ys.length := by omega
    have e1 : xs[i]? = some xs[i] := List.getElem?_eq_getElem lt1
    have e2 : ys[i]? = some ys[i] := List.getElem?_eq_getElem lt2
    obtain ⟨u1, f1, r1⟩ := q1 i _ e1
    obtain ⟨u2, f2, r2⟩ := q2 i _ e2
    obtain ⟨k1, k2⟩ := hi i _ _ e1 e2
    have hd : (List.range xs.length).drop i = i :: (List.range xs.length).drop (i + 1) := by simp [List.drop_eq_getElem_cons, lt1]
    have hc : ((i : Int) + 1) = ((i + 1 : Nat) : Int) := by push_cast; rfl
    rw [hd, List.all_cons] at h
    obtain ⟨hp, g, d, tk, os⟩ := s
    wp_walk using wpAny_loadPart' g1, wpAny_loadPart' g2
    have hi1 : i1.toArray[((i : Nat) : Int).toNat]? = some u1 := by simp [f1]
    have hi2 : i2.toArray[((i : Nat) : Int).toNat]? = some u2 := by simp [f2]
    rw [hi1, hi2]
    refine wpAny_bind (seq_item op r1 r2 (px _ (List.mem_of_getElem? e1)) (py _ (List.mem_of_getElem? e2)) k1 k2 I hE fun s2 I2 => ?_)
    cases hb' : e i with
    | true =>
      rw [hb'] at h
      wp_walk
      rw [hc]
      exact ⟨plainId_quiet plain_eq_loop _, codeAny_builtin entry_eq_loop (by
        rw [Around.under_plainId plain_eq_loop _]
        exact ih (i + 1) (by omega) X.A R _ ⟨rfl, I2, hE, by simpa using h⟩)⟩
    | false =>
      rw [hb'] at h
      have hR := h s2 I2
      obtain ⟨i3, dd3, n3, sl3, g3, l3, q3⟩ := lst_at I2 h1
      obtain ⟨i4, dd4, n4, sl4, g4, l4, q4⟩ := lst_at I2 h2
      obtain ⟨u3, f3, r3⟩ := q3 i _ e1
      obtain ⟨u4, f4, r4⟩ := q4 i _ e2
      have hi3 : i3.toArray[((i : Nat) : Int).toNat]? = some u3 := by simp [f3]
      have hi4 : i4.toArray[((i : Nat) : Int).toNat]? = some u4 := by simp [f4]
      obtain ⟨hp2, g2', d2, tk2, os2⟩ := s2
      wp_walk using wpAny_loadPart' g3, wpAny_loadPart' g4
      rw [hi3, hi4]
      wp_walk
      simpa using hR
theorem op_neLst {r : R2} (hu : X.A.units < cLine) (op : OpR X.inn (compareOp .Eq) r) : OpR X (compareOp .NotEq) (rNeLst X.K r) := by
  intro pins s σ H x y v u Q I rx ry h
  obtain ⟨a, b, xs, ys, e, rfl, rfl, h1, h2, he, q⟩ := h
  cases rx
  cases ry
  obtain ⟨i1, dd, n, sl, g1, l1, q1⟩ := lst_at I h1
  obtain ⟨i2, dd2, n2, sl2, g2, l2, q2⟩ := lst_at I h2
  have ta : s.TypeIs (.ref a) "list" := ⟨_, g1, rfl⟩
  have tb : s.TypeIs (.ref b) "list" := ⟨_, g2, rfl⟩
  have key : MeetsIn X.prog X.w (Builtin.«list.__ne__» ⟨[.ref a, .ref b], []⟩) (fun A R s => A = X.A ∧ Inv X pins σ H s ∧ (∀ er s', X.xe er s' → R (.error er) s') ∧
      ∀ s', Inv X pins σ H s' → R (.ok (.ret (.bool (!((List.range (min xs.length ys.length)).all e && xs.length == ys.length))))) s') := by
    intro A R s h
    obtain ⟨rfl, I, hE, h⟩ := h
    obtain ⟨i1, dd, n, sl, g1, l1, q1⟩ := lst_at I h1
    obtain ⟨i2, dd2, n2, sl2, g2, l2, q2⟩ := lst_at I h2
    have f3 := AutoSeq1.sub_list_list
    by_cases hl : xs.length = ys.length
    · have hne : ¬ (i1.toArray.size != i2.toArray.size) = true := by simp; omega
      obtain ⟨hp, g, d, tk, os⟩ := s
      wp_walk using wpAny_loadPart' g1, wpAny_loadPart' g2
      refine ⟨plainId_quiet plain_eq_loop _, codeAny_builtin entry_eq_loop ?_⟩
      rw [Around.under_plainId plain_eq_loop _]
      refine ne_loopI op h1 h2 hl he _ 0 rfl X.A R _ ⟨rfl, I, hE, fun s' I' => ?_⟩
      have := h s' I'
      rw [← hl, Nat.min_self, beq_self_eq_true, Bool.and_true] at this
      simpa using this
    · have hne : (i1.toArray.size != i2.toArray.size) = true := by simp; omega
      have hR := h s I
      have : (xs.length == ys.length) = false := by simp; exact hl
      rw [this, Bool.and_false] at hR
      obtain ⟨hp, g, d, tk, os⟩ := s
      wp_walk using wpAny_loadPart' g1, wpAny_loadPart' g2
      first
        | simpa using hR
        | (show R (.ok (.ret (.bool false))) _; simpa using hR)
  exact wpAny_richCompare_same_room (op := .NotEq) ta tb F.slot_list_ne (call_meetsIn F.slot_list_ne ta F.entry_list_ne (F.args_list_ne_2 _ _) key
    ⟨rfl, I, fun er s' z => z, fun s' I' => ⟨(fun x => nomatch x), .bl _, H, I', rfl, q⟩⟩) hu
end
end L2
set_option Elab.async false
set_option linter.all false
set_option maxRecDepth 100000
set_option maxHeartbeats 2000000
namespace KJ
open PySem L2 SX Tx
/-! ### the law -/
def spLaw (K : PySem.W.Frag) : Sp := fun vs H Q _ => ∃ (a : Addr) (ns : List Int), vs = [.ref a] ∧ SqL K H a (ns.map V.int) ∧ ns.length ≤ 63 ∧ ∀ H', Q (.bl true) H'
structure LawT (P : Program) (w : World) (K : PySem.W.Frag) (mg : Str → Option Value) (base : Heap) (C CC B : Addr) : Prop where
  T : Bm mg
  t : ChT K mg CC
  m : MkT P w K mg base C B
  it : InsT K C
  eq : EqT P w K mg base C
  lab : LabT P w K mg base C CC
  row : RowT P w K mg base C CC
  ks : PySem.W.kitOne K (.ref C) (.type "str") = some false
  n_list : mg "list" = none
  pool : Cal P w K mg base 1 "_law_pool" ["_law_script"] (spPool K)
  pick : Cal P w K mg base 2 "_law_pick" ["_law_pool_here", "_law_things"] spPickQ
  size : Cal P w K mg base 2 "_law_size" ["_law_pool_here", "_law_most"] spSize
  rows : Cal P w K mg base 4 "_law_rows" ["_law_pool_here", "_law_size_here"] spRowsG
  spread : Cal P w K mg base 6 "_law_spread" ["_law_tops_here"] (spSpreadL C)
  labels : Cal P w K mg base 3 "_law_labels" ["_law_pool_here", "_law_size_here"] spLabels
  write : Cal P w K mg base 1 "_law_write" ["_law_share"] (spWrite C)
  other : Cal P w K mg base 9 "_law_other_text" ["_law_pool_here", "_law_lines"] spOtherT
  due : Cal P w K mg base 11 "_law_due" ["_law_text"] (spDueL C)
  read : Cal P w K mg base 15 "_law_read" ["_law_text"] (spReadL K C CC)
  same : Cal P w K mg base 1 "_law_same" ["_law_one", "_law_other"] spSameI
theorem nt_fo {K : PySem.W.Frag} {H : Hp} {v : V} {T : String} (h : Fo K H v T) (ne : PySem.W.kitOne K (.type T) (.type "str") = some false) : NoTx K H v := ⟨_, h.ty, ne⟩
section
variable {P : Program} {w : World} {K : PySem.W.Frag} {mg : Str → Option Value} {base : Heap} {C CC B : Addr}
abbrev s_law : Stmt := top 64
abbrev nLw : List Str := ["_law_script", "_law_pool_here", "_law_size_here", "_law_rows_here", "_law_labels_here", "_law_lines", "_law_text", "_law_due_here", "_law_told", "_law_s", "_law_thing", "_law_tops_here", "_law_share"]
theorem sc_law : FnScope nLw ["_law_script"] (defScope s_law) := ⟨rfl, rfl, rfl, by decide +kernel, rfl, by decide +kernel, by decide +kernel⟩
abbrev XLw (P : Program) (w : World) (K : PySem.W.Frag) (mg : Str → Option Value) (base : Heap) (f : Addr) (cdv : Value) (A : Around) (outer : List Env) (s : Shared) (H : Hp) (E : XK) : Cx :=
  (cxOf CX0 P w K mg base nLw "law" (defScope s_law) f cdv A outer s H E).nox
/-- things that are no text -/
theorem segLw8 {fa : Addr} {cdv : Value} {A : Around} {outer : List Env} {s : Shared} {H : Hp} {E : XK} {Q : VK} (L : LawT P w K mg base C CC B) (hr : Room 16 (XLw P w K mg base fa cdv A outer s H E).A) (k : ∀ H', Q (.bl true) H') :
    ∃ u, PSs (XLw P w K mg base fa cdv A outer s H E) ((defBody s_law).drop 8) u ∧ ∀ (v0 v2 v3 v4 v7 v8 v9 : Option V) (p l : Addr) (ls : List (List Nat)) (x : Str) (G : Hp), PoolAt G p → G l = some (.lst (sL ls)) →
      u { nx := fun _ H' => Q .non H', rt := Q } [v0, some (.ref p), v2, v3, v4, some (.ref l), some (.str x), v7, v8, v9, none, none, none] G := by
  refine ⟨_, (pss_cons (ps_set (i := 10) sc_law.nd rfl (Or.inl rfl) (pe_cal L.pick (hr.mono (by decide)) rfl (pa_cons (pv 1) (pa_cons (pe_tup (pa_cons pe_non (pa_cons pe_int (pa_cons pe_bl (pa_cons (pe_tup (pa_cons (pv 6) pa_nil)) (pa_cons (pe_lst (pa_cons (pv 6) pa_nil)) (pa_cons (pv 5) (pa_cons (pe_disp (pps_cons pe_str (pv 6) pps_nil) (by rfl) (by rfl) (fun z => by cases z) (by decide)) (pa_cons (pe_share1 L.m (hr.mono (by decide)) rfl (pa_cons pe_int pa_nil)) pa_nil))))))))) pa_nil))))
    (pss_cons (ps_set (i := 8) sc_law.nd rfl (Or.inl rfl) (pe_cal L.read (hr.mono (by decide)) rfl (pa_cons (pv 10) pa_nil)))
    (pss_one (ps_ret (pe_and (pe_cmpR op_eq (pe_ix (show IxR _ (rIxT K) from ix_tup) (pv 8) pe_int (fun _ _ => rfl)) pe_str (nomark _)) (pe_one (pe_cal L.same (hr.mono (by decide)) rfl (pa_cons (pe_ix (show IxR _ (rIxT K) from ix_tup) (pv 8) pe_int (fun _ _ => rfl)) (pa_cons pe_int pa_nil))))))))), ?_⟩
  intro v0 v2 v3 v4 v7 v8 v9 p l ls x G hp el
  have one : ∀ n : Nat, n ≤ 20 → n ≤ sizeLine := fun n h => sml6 (by omega)
  refine ⟨_, rfl, _, rfl, one 1 (by decide), fun t1 n1 => ?_⟩
  have s1 := Same.put (o := .tup [.str x]) n1
  have e1 : (upd G t1 (.tup [.str x])) t1 = some (.tup [.str x]) := upd_same
  generalize (upd G t1 (.tup [.str x])) = H1 at s1 e1 ⊢
  refine ⟨_, rfl, one 1 (by decide), fun t2 n2 => ?_⟩
  have s2 := s1.trans (Same.put (o := .lst [.str x]) n2)
  have e1 := Same.put (o := .lst [.str x]) n2 _ _ e1
  have e2 : (upd H1 t2 (.lst [.str x])) t2 = some (.lst [.str x]) := upd_same
  generalize (upd H1 t2 (.lst [.str x])) = H2 at s2 e1 e2 ⊢
  refine ⟨_, rfl, fun t3 n3 => ?_⟩
  refine ⟨_, rfl, upd_same, [(.inr (Str.ofString "a"), .str x)], rfl, by show 1 ≤ 15; decide, ?_⟩
  rw [upd_upd]
  generalize mergeK [] [(.inr (Str.ofString "a"), V.str x)] = kvs
  have s3 := s2.trans (Same.put (o := .dK kvs) n3)
  have e1 := Same.put (o := .dK kvs) n3 _ _ e1
  have e2 := Same.put (o := .dK kvs) n3 _ _ e2
  have e3 : (upd H2 t3 (.dK kvs)) t3 = some (.dK kvs) := upd_same
  generalize (upd H2 t3 (.dK kvs)) = H3 at s3 e1 e2 e3 ⊢
  refine fun b dx hb hd ne => si_ok hb hd ne (a := 1) (b := 1) (by decide) (by decide) fun H4 s4 e4 => ⟨rfl, ?_⟩
  have s04 := s3.trans s4
  have e1 := s4 _ _ e1
  have e2 := s4 _ _ e2
  have e3 := s4 _ _ e3
  refine ⟨one 8 (by decide), fun t5 n5 => ?_⟩
  have p4 := hp.same s04
  have el4 := s04 _ _ el
  refine ⟨p, t5, [.non, .int 0, .bl true, .ref t1, .ref t2, .ref l, .ref t3, .ref b], rfl, p4.new n5, .inr upd_same, new_ne p4 n5, (show 0 < 8 by decide), (show 8 ≤ 200 by decide), fun y o hy ho => ?_⟩
  have p5 := p4.new (o := .tup [.non, .int 0, .bl true, .ref t1, .ref t2, .ref l, .ref t3, .ref b]) n5
  have s5 := Same.put (o := .tup [.non, .int 0, .bl true, .ref t1, .ref t2, .ref l, .ref t3, .ref b]) n5
  have e1 := s5 _ _ e1
  have e2 := s5 _ _ e2
  have e3 := s5 _ _ e3
  have e4 := s5 _ _ e4
  have el5 := s5 _ _ el4
  generalize (upd H4 t5 (.tup [.non, .int 0, .bl true, .ref t1, .ref t2, .ref l, .ref t3, .ref b])) = H5 at p5 e1 e2 e3 e4 el5 ⊢
  have f1 := (Keep.put o : Keep p H5 (upd H5 p o)) _ _ e1 (p5.ne e1)
  have f3 := (Keep.put o : Keep p H5 (upd H5 p o)) _ _ e3 (pool_ne p5 e3 fun _ z => by cases z)
  have f4 := (Keep.put o : Keep p H5 (upd H5 p o)) _ _ e4 (pool_ne p5 e4 fun _ z => by cases z)
  have f2 := (Keep.put o : Keep p H5 (upd H5 p o)) _ _ e2 (p5.neS (ls := [x.cps.toList]) (by rw [e2]; show some (HO.lst [V.str x]) = some (HO.lst [V.str (S x.cps.toList)]); rw [S_tl]))
  have fl := (Keep.put o : Keep p H5 (upd H5 p o)) _ _ el5 (p5.neS el5)
  generalize (upd H5 p o) = H6 at f1 f2 f3 f4 fl ⊢
  have no : NoTx K H6 y := by
    rcases List.mem_cons.mp hy with rfl | hy
    · exact nt_fo .non (kit_ty (r := false) (by decide +kernel))
    rcases List.mem_cons.mp hy with rfl | hy
    · exact nt_fo (.int 0) (kit_ty (r := false) (by decide +kernel))
    rcases List.mem_cons.mp hy with rfl | hy
    · exact nt_fo (.bl true) (kit_ty (r := false) (by decide +kernel))
    rcases List.mem_cons.mp hy with rfl | hy
    · exact nt_fo (.tup f1) (kit_ty (r := false) (by decide +kernel))
    rcases List.mem_cons.mp hy with rfl | hy
    · exact nt_fo (.lst f2) (kit_ty (r := false) (by decide +kernel))
    rcases List.mem_cons.mp hy with rfl | hy
    · exact nt_fo (.lst fl) (kit_ty (r := false) (by decide +kernel))
    rcases List.mem_cons.mp hy with rfl | hy
    · exact nt_fo (.dK f3) (kit_ty (r := false) (by decide +kernel))
    rcases List.mem_cons.mp hy with rfl | hy
    · exact ⟨_, L.it.ty f4, L.ks⟩
    · cases hy
  refine ⟨_, rfl, y, rfl, .inr ⟨no, fun r H7 s7 er => ?_⟩⟩
  refine ⟨_, rfl, r, _, _, _, rfl, rfl, SqT.of er, atI_nat (j := 0) rfl, rfl, _, rfl, iteT ?_⟩
  refine ⟨_, rfl, r, _, _, _, rfl, rfl, SqT.of er, atI_nat (j := 1) rfl, 0, 0, rfl, k _⟩
end
end KJ
set_option Elab.async false
set_option linter.all false
set_option maxRecDepth 100000
set_option maxHeartbeats 2000000
namespace KJ
open PySem L2 SX Tx
section
variable {P : Program} {w : World} {K : PySem.W.Frag} {mg : Str → Option Value} {base : Heap} {C CC B : Addr}
/-- what is told is what is due -/
theorem segLw7 {fa : Addr} {cdv : Value} {A : Around} {outer : List Env} {s : Shared} {H : Hp} {E : XK} {Q : VK} (L : LawT P w K mg base C CC B) (hr : Room 16 (XLw P w K mg base fa cdv A outer s H E).A) (k : ∀ H', Q (.bl true) H') :
    ∃ u, PSs (XLw P w K mg base fa cdv A outer s H E) ((defBody s_law).drop 7) u ∧ ∀ (v0 v2 v3 v4 : Option V) (p l r1 r2 : Addr) (ls : List (List Nat)) (wd : List Nat) (G : Hp), PoolAt G p → G l = some (.lst (sL ls)) →
      ((∃ n : Nat, G r1 = some (.tup [.str "bad", .int (n : Int)]) ∧ G r2 = some (.tup [.str "bad", .int (n : Int)])) ∨
        (∃ (ds : List RowD) (lf x : Addr), IsDue wd (.inr ds) ∧ G r1 = some (.tup [.str "told", .ref lf]) ∧ DueL C G lf ds ∧ G r2 = some (.tup [.str "told", .ref x]) ∧ ChG C CC G x ds)) →
      u { nx := fun _ H' => Q .non H', rt := Q } [v0, some (.ref p), v2, v3, v4, some (.ref l), some (.str (S wd)), some (.ref r1), some (.ref r2), none, none, none, none] G := by
  obtain ⟨u, hu, qu⟩ := segLw8 (fa := fa) (cdv := cdv) (A := A) (outer := outer) (s := s) (H := H) (E := E) L hr k
  obtain ⟨gl, gdl, Ml, Gl, bl⟩ := L.lab.ex
  obtain ⟨gr, gdr, Mr, Gr, br⟩ := L.row.ex
  obtain ⟨ge, gde, Oe, Ge, be⟩ := L.eq.ex
  refine ⟨_, (pss_cons (ps_if (pt_cmpR op_eq (pe_ix (show IxR _ (rIxT K) from ix_tup) (pv 7) pe_int (fun _ _ => rfl)) pe_str (nomark _))
      (pss_one (ps_if (PW.pt (pw_or (pt_cmpR op_ne (pe_ix (show IxR _ (rIxT K) from ix_tup) (pv 8) pe_int (fun _ _ => rfl)) pe_str (nomark _)) (pw_or1 (pt_not (pt_val (pe_cal L.same (hr.mono (by decide)) rfl (pa_cons (pe_ix (show IxR _ (rIxT K) from ix_tup) (pv 8) pe_int (fun _ _ => rfl)) (pa_cons (pe_ix (show IxR _ (rIxT K) from ix_tup) (pv 7) pe_int (fun _ _ => rfl)) pa_nil))))))))
          (pss_one (ps_ret pe_bl))
          pss_nil))
      (pss_cons (ps_if (PW.pt (pw_or (pt_cmpR op_ne (pe_ix (show IxR _ (rIxT K) from ix_tup) (pv 8) pe_int (fun _ _ => rfl)) pe_str (nomark _)) (pw_or1 (pt_cmpR op_ne (pe_fld (pe_ix (show IxR _ (rIxT K) from ix_tup) (pv 8) pe_int (fun _ _ => rfl)) rfl) (pe_callB call_len_seq (by rfl) L.T.b.n_len PySem.boot_len (pa_cons (pe_ix (show IxR _ (rIxT K) from ix_tup) (pv 7) pe_int (fun _ _ => rfl)) pa_nil)) (nomark _)))))
          (pss_one (ps_ret pe_bl))
          pss_nil)
        (pss_one (ps_for PassesOwn.never rfl (pi_range1 (by rfl) L.T.n_range (pa_cons (pe_callB call_len_seq (by rfl) L.T.b.n_len PySem.boot_len (pa_cons (pe_ix (show IxR _ (rIxT K) from ix_tup) (pv 7) pe_int (fun _ _ => rfl)) pa_nil)) pa_nil)) (pg_name (i := 9) sc_law.nd rfl (Or.inl rfl))
          (pss_one (ps_if (PW.pt (pw_or (pt_cmpR op_ne (pe_meth (pl := _) (pe_ix (show IxR _ (rIxT K) from ix_tup) (pv 8) pe_int (fun _ _ => rfl)) L.t.it.cl Ml Gl (hr.mono (by decide)) bl .nil pass0 (pa_cons (pv 9) pa_nil)) (pe_ix (show IxR _ (rIxT K) from ix_tup) (pe_ix (show IxR _ (rIxL K) from ix_list) (pe_ix (show IxR _ (rIxT K) from ix_tup) (pv 7) pe_int (fun _ _ => rfl)) (pv 9) (fun _ _ => rfl)) pe_int (fun _ _ => rfl)) (nomark _)) (pw_or1 (pt_cmpR (op_neLst (by exact hr.units0) (op_ownB (R := EqS K C) is_eq Ge Oe be pass0 (hr.mono (show 4 ≤ 16 by decide)).in1)) (pe_callTy call_list_of (by rfl) L.n_list (by decide +kernel) (pa_cons (pe_meth (pl := _) (pe_ix (show IxR _ (rIxT K) from ix_tup) (pv 8) pe_int (fun _ _ => rfl)) L.t.it.cl Mr Gr (hr.mono (by decide)) br .nil pass0 (pa_cons (pv 9) pa_nil)) pa_nil)) (pe_ix (show IxR _ (rIxT K) from ix_tup) (pe_ix (show IxR _ (rIxL K) from ix_list) (pe_ix (show IxR _ (rIxT K) from ix_tup) (pv 7) pe_int (fun _ _ => rfl)) (pv 9) (fun _ _ => rfl)) pe_int (fun _ _ => rfl)) (nomark _)))))
              (pss_one (ps_ret pe_bl))
              pss_nil)))))) hu), ?_⟩
  intro v0 v2 v3 v4 p l r1 r2 ls wd G hp el h
  rcases h with ⟨n, e1, e2⟩ | ⟨ds, lf, x, due, e1, dl, e2, ch⟩
  · refine ⟨_, rfl, r1, _, _, _, rfl, rfl, SqT.of e1, atI_nat (j := 0) rfl, rfl, _, rfl, iteTe (decide_eq_true rfl) ?_⟩
    refine ⟨_, rfl, r2, _, _, _, rfl, rfl, SqT.of e2, atI_nat (j := 0) rfl, rfl, _, rfl, iteFe (by rw [decide_eq_true rfl]; rfl) ?_⟩
    refine ⟨_, rfl, r2, _, _, _, rfl, rfl, SqT.of e2, atI_nat (j := 1) rfl, _, rfl, r1, _, _, _, rfl, rfl, SqT.of e1, atI_nat (j := 1) rfl, (n : Int), (n : Int), rfl, ?_⟩
    refine ⟨_, rfl, ?_⟩
    rw [decide_eq_true rfl]
    refine iteF ?_
    exact qu v0 v2 v3 v4 _ _ none p l ls (S wd) G hp el
  · refine ⟨_, rfl, r1, _, _, _, rfl, rfl, SqT.of e1, atI_nat (j := 0) rfl, rfl, _, rfl, iteFe (by decide +kernel) ?_⟩
    refine ⟨_, rfl, r2, _, _, _, rfl, rfl, SqT.of e2, atI_nat (j := 0) rfl, rfl, _, rfl, iteFe (by rw [decide_eq_true rfl]; rfl) ?_⟩
    obtain ⟨n1, n8, rws⟩ := due.rows
    obtain ⟨dx, T0, lb, rs, h1, h2, h3, h4, h5, h6, h7⟩ := id ch
    obtain ⟨vs, ev, lv, fv⟩ := dl
    refine ⟨_, rfl, r2, _, _, _, rfl, rfl, SqT.of e2, atI_nat (j := 1) rfl, x, CC, dx, _, _, rfl, h1, L.t.it.cl, L.t.nS, chF_size _ _ _, _, rfl, r1, _, _, _, rfl, rfl, SqT.of e1, atI_nat (j := 1) rfl, lf, vs, rfl, .inl (SqL.of ev), rfl, _, rfl, ?_⟩
    refine iteFe (by rw [lv, decide_eq_true rfl]; rfl) ?_
    refine ⟨_, rfl, r1, _, _, _, rfl, rfl, SqT.of e1, atI_nat (j := 1) rfl, lf, vs, rfl, .inl (SqL.of ev), _, rfl, by omega, by omega, ?_⟩
    refine for_range (n := vs.length) (fun i σ H' => ∃ v9 : Option V, σ = [v0, some (.ref p), v2, v3, v4, some (.ref l), some (.str (S wd)), some (.ref r1), some (.ref r2), v9, none, none, none] ∧ Same G H') ⟨none, rfl, Same.refl G⟩ ?_ ?_
    rotate_left
    · rintro σ H' ⟨v9, rfl, s1⟩
      exact qu v0 v2 v3 v4 _ _ v9 p l ls (S wd) H' (hp.same s1) (s1 _ _ el)
    rintro i σ H' hi ⟨v9, rfl, s1⟩
    rw [Int.zero_add]
    have e1' := s1 _ _ e1
    have e2' := s1 _ _ e2
    have ev' := s1 _ _ ev
    have ch' := IsCh.same ch s1
    have h1' := s1 _ _ h1
    have gd : ds[i]? = some (ds[i]'(by omega)) := List.getElem?_eq_getElem _
    have md := List.mem_of_getElem? gd
    generalize (ds[i]'(by omega)) = y at gd md
    have gv : vs[i]? = some vs[i] := List.getElem?_eq_getElem hi
    obtain ⟨t, b, as, ey, _, q1, q2, q3⟩ := (fv i _ y gv gd).same s1
    rw [ey] at gv
    refine ⟨_, rfl, r2, _, _, _, rfl, rfl, SqT.of e2', atI_nat (j := 1) rfl, x, dx, _, rfl, h1', chF_none _ _ _ (by decide +kernel) (by decide +kernel) (by decide +kernel), _, rfl, x, ds.length, _, _, i, rfl, ch', by omega, fun y1 hy1 => ?_⟩
    have ey1 : y1 = y.1 := by
      rw [List.getElem?_map, gd] at hy1
      exact (Option.some.inj hy1).symm
    subst ey1
    refine ⟨_, rfl, r1, _, _, _, rfl, rfl, SqT.of e1', atI_nat (j := 1) rfl, _, rfl, lf, vs, (i : Int), _, rfl, rfl, SqL.of ev', atI_nat gv, t, _, _, _, rfl, rfl, SqT.of q1, atI_nat (j := 0) rfl, ?_⟩
    refine ⟨rfl, _, rfl, iteFe (by rw [decide_eq_true rfl]; rfl) ?_⟩
    refine ⟨_, rfl, r2, _, _, _, rfl, rfl, SqT.of e2', atI_nat (j := 1) rfl, x, dx, _, rfl, h1', chF_none _ _ _ (by decide +kernel) (by decide +kernel) (by decide +kernel), _, rfl, x, ds.length, _, _, i, rfl, ch', by omega, fun b2 ws2 hws sh2 => ?_⟩
    have ew : ws2 = wts y.2 := by
      rw [List.getElem?_map, gd] at hws
      exact (Option.some.inj hws).symm
    subst ew
    obtain ⟨as2, g1, g2, g3, g4⟩ := sh2
    refine ⟨b2, _, rfl, .inr (SqT.of g1), fun c nc => ?_⟩
    have s2 := Same.put (o := .lst (as2.map V.ref)) nc
    have ec : (upd H' c (.lst (as2.map V.ref))) c = some (.lst (as2.map V.ref)) := upd_same
    generalize (upd H' c (.lst (as2.map V.ref))) = H2 at s2 ec ⊢
    refine ⟨_, rfl, r1, _, _, _, rfl, rfl, SqT.of (s2 _ _ e1'), atI_nat (j := 1) rfl, _, rfl, lf, vs, (i : Int), _, rfl, rfl, SqL.of (s2 _ _ ev'), atI_nat gv, t, _, _, _, rfl, rfl, SqT.of (s2 _ _ q1), atI_nat (j := 1) rfl, ?_⟩
    obtain ⟨⟨rw0, ir⟩, ly⟩ := rws y md
    obtain ⟨tp, hs, p0⟩ := ir.wts
    have e5 : (wts y.2).sum = pB y.2 := by obtain ⟨_, _, _, _, _, e5⟩ := ir; exact e5
    have la : as2.length = as.length := by rw [g2, q3.1, ly]
    refine ⟨c, b, as2.map V.ref, as.map V.ref, fun _ => true, rfl, rfl, SqL.of ec, SqL.of (s2 _ _ q2), ⟨fun z mz => ?_, fun z mz => ?_, fun j c1 d1 hc1 hd1 => ⟨fun _ => rfl, ?_⟩⟩, ?_⟩
    · obtain ⟨a, _, rfl⟩ := List.mem_map.mp mz
      trivial
    · obtain ⟨a, _, rfl⟩ := List.mem_map.mp mz
      trivial
    · obtain ⟨a1, ha1, rfl⟩ := refs_at hc1
      obtain ⟨a2, ha2, rfl⟩ := refs_at hd1
      obtain ⟨d, dx2, w1, w2⟩ := q3.2 j a2 ha2
      obtain ⟨dx1, w0, u1, u2⟩ := g4 j a1 ha1
      obtain ⟨b1, b2, b3⟩ := hs d (List.mem_of_getElem? w1)
      obtain ⟨l1, l2⟩ := low_wt b3 p0 b1 b2
      have ew0 : w0 = d.1 * (pB y.2 / d.2) := by
        unfold wts at u1
        rw [List.getElem?_map, w1] at u1
        exact (Option.some.inj u1).symm
      rw [e5, ew0, l1, l2] at u2
      have cs := cmp_sh2 (K := K) (s2 _ _ u2) (s2 _ _ w2) (b := true) (by rw [decide_eq_true rfl, decide_eq_true rfl]; rfl)
      exact ⟨true, cs.1, rfl, rfl⟩
    · have : ((List.range (min (as2.map V.ref).length (as.map V.ref).length)).all fun _ => true) = true := List.all_eq_true.mpr fun _ _ => rfl
      rw [this, List.length_map, List.length_map, la]
      refine ⟨_, rfl, iteFe (by simp) ?_⟩
      exact ⟨_, rfl, s1.trans s2⟩
end
end KJ
set_option Elab.async false
set_option linter.all false
set_option maxRecDepth 100000
set_option maxHeartbeats 2000000
namespace KJ
open PySem L2 SX Tx
def rJn (K : PySem.W.Frag) : V → List V → Hp → VK → Prop := fun x xs H Q => ∃ a p, ∃ ys : List Str, x = .str a ∧ xs = [.ref p] ∧ (SqL K H p (ys.map V.str) ∨ SqT K H p (ys.map V.str)) ∧ (ys.map (·.length)).sum + ys.length * a.length ≤ 16777216 ∧ Q (.str (Txt.join a ys)) H
def rCt : R2 := fun x y H Q => ∃ i j, x = .str i ∧ y = .str j ∧ i.length + j.length ≤ sizeLine ∧ Q (.str (i ++ j)) H
theorem op_ct {X : Cx} : OpR X (binaryOp .Add) rCt := op_add_str
theorem shL_short {t n : Nat} (ht : t < 10 ^ 14) (hn : n < 10 ^ 14) : (shL t n).length ≤ 29 := by
  have a := dg_len 13 t ht
  have b := dg_len 13 n hn
  unfold shL
  split
  · omega
  · rw [List.length_append, List.length_cons]; omega
theorem low_short {n w : Nat} {ws : List Nat} (h : Tps n ws) (n8 : n ≤ 8) (m : w ∈ ws) : (lowT (w : Int) (ws.sum : Int)).toNat < 10 ^ 14 ∧ (lowB (w : Int) (ws.sum : Int)).toNat < 10 ^ 14 := by
  have h1 := lowT_le (a := (w : Int)) (b := (ws.sum : Int)) (by have := h.2.1; omega)
  have h2 := lowB_le (a := (w : Int)) (b := (ws.sum : Int)) (by have := h.2.1; omega)
  have h3 := h.2.2 w m
  have h4 := sum_le (b := 2 ^ 40) ws fun w m => Nat.le_of_lt (h.2.2 w m)
  rw [h.1] at h4
  have h5 : ws.sum ≤ 8 * 2 ^ 40 := Nat.le_trans h4 (Nat.mul_le_mul_right _ n8)
  have e1 : (2 : Nat) ^ 40 < 10 ^ 14 := by decide +kernel
  have e2 : 8 * (2 : Nat) ^ 40 < 10 ^ 14 := by decide +kernel
  generalize (2 : Nat) ^ 40 = x at *
  generalize (10 : Nat) ^ 14 = y at *
  constructor <;> omega
theorem big14 : (10 : Nat) ^ 14 < 2 ^ 1400 := by decide +kernel
theorem lenS {ps : List (List Nat)} : ((ps.map S).map (·.length)).sum = (ps.map (·.length)).sum := by
  rw [List.map_map]
  congr 1
theorem sum_leL {b : Nat} {ps : List (List Nat)} (h : ∀ p ∈ ps, p.length ≤ b) : (ps.map (·.length)).sum ≤ ps.length * b := by
  have := sum_le (b := b) (ps.map (·.length)) fun x m => by
    obtain ⟨p, mp, rfl⟩ := List.mem_map.mp m
    exact h p mp
  rwa [List.length_map] at this
section
variable {P : Program} {w : World} {K : PySem.W.Frag} {mg : Str → Option Value} {base : Heap} {C CC B : Addr}
/-- the text, what is due, what is told -/
theorem segLw4 {fa : Addr} {cdv : Value} {A : Around} {outer : List Env} {s : Shared} {H : Hp} {E : XK} {Q : VK} (L : LawT P w K mg base C CC B) (hr : Room 16 (XLw P w K mg base fa cdv A outer s H E).A) (k : ∀ H', Q (.bl true) H') :
    ∃ u, PSs (XLw P w K mg base fa cdv A outer s H E) ((defBody s_law).drop 4) u ∧ ∀ (v0 : Option V) (p l lb : Addr) (n : Nat) (rs : List (Addr × List Nat)) (ls : List Str) (G : Hp), 1 ≤ n → n ≤ 8 → PoolAt G p → G l = some (.lst (rfs rs)) → G lb = some (.tup (sV ls)) → (∀ r ∈ rs, RowSh C G n r ∧ Tps n r.2) → rs.length = n → Lbs n ls →
      u { nx := fun _ H' => Q .non H', rt := Q } [v0, some (.ref p), some (.int (n : Int)), some (.ref l), some (.ref lb), none, none, none, none, none, none, none, none] G := by
  obtain ⟨u, hu, qu⟩ := segLw7 (fa := fa) (cdv := cdv) (A := A) (outer := outer) (s := s) (H := H) (E := E) L hr k
  refine ⟨_, (pss_cons (ps_setLc (i := 5) (own := [("_law_s", 9)]) rfl sc_law.nd rfl rfl (sw_true rfl rfl rfl (by decide +kernel)) (pi_range1 (by rfl) L.T.n_range (pa_cons (pv 2) pa_nil)) (blkOk_by (N := nLw) (sc := defScope s_law) (by decide +kernel)) (fun _ _ _ _ _ => (pg_name (i := 9) sc_law.nd rfl (Or.inl rfl))) (fun _ _ _ _ _ => pts_nil)
      (fun _ _ _ _ _ => (show PE _ _ (tOp rCt (tOp rCt (tOp (rIxT K) (tVar 4) (tVar 9)) (tC (.str (Str.ofString ":")))) (tM1 (rJn K) (tC (.str (Str.ofString ""))) (tLc (iTup K (tOp (rIxL K) (tVar 3) (tVar 9))) (gName 12) tYes (tOp rCt (tC (.str (Str.ofString " "))) (tCall (spWrite C) [] E0 (tCons (tVar 12) tNil))) [12]))) from
        pe_op op_ct (pe_op op_ct (pe_ix (show IxR _ (rIxT K) from ix_tup) (pv 4) (pv 9) (fun _ _ => rfl)) pe_str) (pe_join pe_str (pe_lc (own := [("_law_share", 12)]) rfl sc_law.nd (pi_tup (pe_ix (show IxR _ (rIxL K) from ix_list) (pv 3) (pv 9) (fun _ _ => rfl))) (blkOk_by (by rfl)) (fun _ _ _ _ _ => (pg_name (i := 12) sc_law.nd rfl (Or.inl rfl))) (fun _ _ _ _ _ => pts_nil) (fun _ _ _ _ _ => (pe_op op_ct pe_str (pe_cal L.write (hr.mono (by decide)) rfl (pa_cons (pv 12) pa_nil)))))))))
    (pss_cons (ps_set (i := 6) sc_law.nd rfl (Or.inl rfl) (pe_cal L.other (hr.mono (by decide)) rfl (pa_cons (pv 1) (pa_cons (pv 5) pa_nil))))
    (pss_cons (ps_par (i := 7) (j := 8) (by rfl) sc_law.nd rfl rfl (by decide) rfl rfl (pa_cons (pe_cal L.due (hr.mono (by decide)) rfl (pa_cons (pv 6) pa_nil)) (pa_cons (pe_cal L.read (hr.mono (by decide)) rfl (pa_cons (pv 6) pa_nil)) pa_nil)) (by rfl)) hu))), ?_⟩
  intro v0 p l lb n rs ls G n1 n8 hp el eb rw_ lr hl
  have lls : ls.length = n := hl.1
  refine ⟨_, rfl, _, rfl, by omega, by omega, fun D nD => ?_⟩
  rw [Int.toNat_natCast]
  refine lc_range (fun i H' => Same G H' ∧ ∃ qs : List (List Nat), H' D = some (.lst (sL qs)) ∧ qs.length = i ∧ ∀ q ∈ qs, q.length ≤ 250) ⟨Same.put nD, [], upd_same, rfl, fun q m => by cases m⟩ ?_ ?_
  · rintro i H1 hi ⟨s1, qs, eD, lq, bq⟩
    rw [Int.zero_add]
    have gr : rs[i]? = some rs[i] := List.getElem?_eq_getElem (by omega)
    have gx : ls[i]? = some ls[i] := List.getElem?_eq_getElem (by omega)
    have mr := List.mem_of_getElem? gr
    have mx := List.mem_of_getElem? gx
    generalize rs[i] = r at gr mr
    generalize ls[i] = x at gx mx
    have nmx := hl.2 x mx
    have tp := (rw_ r mr).2
    obtain ⟨as, g1, g2, g3, g4⟩ := (rw_ r mr).1.same s1
    refine ⟨rfl, yes_of ?_⟩
    refine ⟨_, rfl, _, rfl, lb, _, (i : Int), .str x, rfl, rfl, SqT.of (s1 _ _ eb), atI_nat (by rw [sV, List.getElem?_map, gx]; rfl), ?_⟩
    have xl : x.cps.toList.length ≤ 8 := nmx.2.1
    have ex : x = S x.cps.toList := (S_tl x).symm
    generalize x.cps.toList = q at xl ex
    rw [ex]
    refine ⟨_, _, rfl, rfl, by rw [S_len]; exact sml6 (show q.length + 1 ≤ _ by omega), ?_⟩
    rw [show Str.ofString ":" = S [58] from rfl, S_cat]
    refine ⟨⟨_, rfl⟩, _, rfl, _, rfl, l, _, (i : Int), .ref r.1, rfl, rfl, SqL.of (s1 _ _ el), atI_nat (by rw [rfs, List.getElem?_map, gr]; rfl), ?_⟩
    refine ⟨r.1, rfl, ⟨_, SqT.of g1⟩, fun D2 nD2 => ?_⟩
    refine lc_tup (K := K) (a := r.1) (xs := as.map V.ref) (fun j H' => Same H1 H' ∧ ∃ ps : List (List Nat), H' D2 = some (.lst (sL ps)) ∧ ps.length = j ∧ ∀ q ∈ ps, q.length ≤ 30) ⟨Same.put nD2, [], upd_same, rfl, fun q m => by cases m⟩ (fun j H' _ h => SqT.of (h.1 _ _ g1)) ?_ ?_
    · rintro j y H' hy ⟨s2, ps, eD2, lp, bp⟩
      obtain ⟨a, ha, rfl⟩ := refs_at hy
      have jl := (List.getElem?_eq_some_iff.mp ha).1
      obtain ⟨dy, x2, q1, q2⟩ := g4 j a ha
      have mx2 := List.mem_of_getElem? q1
      obtain ⟨e1, e2⟩ := low_nat (w := x2) tp.2.1
      obtain ⟨b1, b2⟩ := low_short tp n8 mx2
      have q3 := s2 _ _ q2
      rw [e1, e2] at q3
      generalize (lowT (x2 : Int) (r.2.sum : Int)).toNat = t at q3 b1
      generalize (lowB (x2 : Int) (r.2.sum : Int)).toNat = m at q3 b2
      refine ⟨rfl, yes_of ?_⟩
      refine ⟨_, rfl, a, dy, _, _, rfl, q3, Nat.lt_trans b1 big14, Nat.lt_trans b2 big14, ?_⟩
      have wlen := shL_short b1 b2
      refine ⟨_, _, rfl, rfl, by rw [S_len]; exact sml6 (show 1 + (shL t m).length ≤ _ by omega), ?_⟩
      refine ⟨_, eD2, by rw [sL_len]; exact small_len (by omega), Same.but s2 nD2, ps ++ [32 :: shL t m], ?_, by rw [List.length_append, lp]; rfl, fun q mq => ?_⟩
      · rw [upd_same, show Str.ofString " " = S [32] from rfl, S_cat, ← sL_app]
        rfl
      · rcases List.mem_append.mp mq with mq | mq
        · exact bp q mq
        · rw [List.mem_singleton.mp mq, List.length_cons]; omega
    · rintro H2 ⟨s2, ps, eD2, lp, bp⟩
      rw [List.length_map, g2] at lp
      have sm := sum_leL bp
      have p8 : ps.length * 30 ≤ 8 * 30 := Nat.mul_le_mul_right _ (by omega)
      refine ⟨_, D2, ps.map S, rfl, rfl, .inl (SqL.of eD2), ?_, ?_⟩
      · rw [lenS, show (Str.ofString "").length = 0 from rfl]
        omega
      rw [show Str.ofString "" = S [] from rfl, join_S]
      have jl := join0_len ps
      generalize TL.joinL [] ps = z at jl
      refine ⟨_, _, rfl, rfl, by rw [S_len, S_len, List.length_append]; exact sml6 (show q.length + 1 + z.length ≤ _ by omega), ?_⟩
      rw [S_cat]
      refine ⟨_, s2 _ _ eD, by rw [sL_len]; exact small_len (by omega), Same.but (s1.trans s2) nD, qs ++ [q ++ [58] ++ z], by rw [upd_same, ← sL_app]; rfl, by rw [List.length_append, lq]; rfl, fun y my => ?_⟩
      rcases List.mem_append.mp my with my | my
      · exact bq y my
      · rw [List.mem_singleton.mp my, List.length_append, List.length_append]
        show q.length + 1 + z.length ≤ _
        omega
  · rintro H1 ⟨s1, qs, eD, lq, bq⟩
    have p1 := hp.same s1
    have sm := sum_leL bq
    have q8 : qs.length * 250 ≤ 8 * 250 := Nat.mul_le_mul_right _ (by omega)
    refine ⟨_, rfl, _, rfl, p, D, qs, rfl, p1, eD, fun h => by rw [h] at lq; simp at lq; omega, by unfold tl; omega, fun x H2 hx k2 p2 => ?_⟩
    have eD2 := k2 _ _ eD (p1.neS eD)
    refine ⟨_, rfl, x, rfl, hx, fun m hm r H3 s3 er => ?_, fun ds hd lf r H3 s3 dl er => ?_⟩
    · refine ⟨_, rfl, _, rfl, .inl ⟨x, rfl, hx, fun m' hm' r2 H4 s4 er2 => ?_, fun ds' hd' z r2 H4 s4 ch er2 => ?_⟩⟩
      · have e : m' = m := Sum.inl.inj (hm'.one hm)
        subst e
        exact ⟨_, _, rfl, qu v0 _ _ _ p D r r2 qs x H4 ((p2.same s3).same s4) (s4 _ _ (s3 _ _ eD2)) (.inl ⟨_, s4 _ _ er, er2⟩)⟩
      · cases hd'.one hm
    · refine ⟨_, rfl, _, rfl, .inl ⟨x, rfl, hx, fun m' hm' r2 H4 s4 er2 => ?_, fun ds' hd' z r2 H4 s4 ch er2 => ?_⟩⟩
      · cases hm'.one hd
      · have e : ds' = ds := Sum.inr.inj (hd'.one hd)
        subst e
        exact ⟨_, _, rfl, qu v0 _ _ _ p D r r2 qs x H4 ((p2.same s3).same s4) (s4 _ _ (s3 _ _ eD2)) (.inr ⟨_, lf, z, hd, s4 _ _ er, dl.same s4, er2, ch⟩)⟩
theorem ok_law {f : Addr} {fd : FuncData} (F : Fun K "law" "law" s_law f fd) (L : LawT P w K mg base C CC B) : FnOk P w K mg base CX0 17 f fd ["_law_script"] (spLaw K) := by
  refine F.ok sc_law (fun vs H Q E h => ?_) (fun cdv A outer s H vs Q E hr h => ?_)
  · obtain ⟨a, ns, rfl, _⟩ := h
    rfl
  · obtain ⟨a, ns, rfl, ha, hl, k⟩ := h
    obtain ⟨u, hu, qu⟩ := segLw4 (fa := f) (cdv := cdv) (A := A) (outer := outer) (s := s) (H := H) (E := E) L hr k
    refine ⟨_, (pss_cons (ps_set (i := 1) sc_law.nd rfl (Or.inl rfl) (pe_cal L.pool (hr.mono (by decide)) rfl (pa_cons (pv 0) pa_nil)))
      (pss_cons (ps_set (i := 2) sc_law.nd rfl (Or.inl rfl) (pe_cal L.size (hr.mono (by decide)) rfl (pa_cons (pv 1) (pa_cons pe_int pa_nil))))
      (pss_cons (ps_set (i := 3) sc_law.nd rfl (Or.inr rfl) (pe_lc (own := [("_law_tops_here", 11)]) rfl sc_law.nd (pi_list (pe_cal L.rows (hr.mono (by decide)) rfl (pa_cons (pv 1) (pa_cons (pv 2) pa_nil)))) (blkOk_by (N := nLw) (sc := defScope s_law) (by decide +kernel)) (fun _ _ _ _ _ => (pg_name (i := 11) sc_law.nd rfl (Or.inl rfl))) (fun _ _ _ _ _ => pts_nil) (fun _ _ _ _ _ => (pe_cal L.spread (hr.mono (by decide)) rfl (pa_cons (pv 11) pa_nil)))))
      (pss_cons (ps_set (i := 4) sc_law.nd rfl (Or.inr rfl) (pe_cal L.labels (hr.mono (by decide)) rfl (pa_cons (pv 1) (pa_cons (pv 2) pa_nil)))) hu)))), ?_⟩
    refine ⟨_, rfl, a, ns, rfl, ha, hl, fun p H1 s1 np hp => ?_⟩
    refine ⟨_, rfl, p, rfl, hp, fun n H2 n1 n8 k2 p2 => ?_⟩
    refine ⟨_, rfl, _, rfl, p, n, rfl, p2, n1, n8, fun l rs H3 k3 p3 el rw_ lr => ?_⟩
    refine ⟨l, rfl, ⟨_, SqL.of el⟩, fun D nD => ?_⟩
    refine lc_list (K := K) (a := l) (xs := rfs rs) (fun i H' => Same H3 H' ∧ ∃ r2 : List (Addr × List Nat), H' D = some (.lst (rfs r2)) ∧ r2.length = i ∧ (∀ r ∈ r2, RowSh C H' n r ∧ Tps n r.2)) ⟨Same.put nD, [], upd_same, rfl, fun _ m => (by cases m)⟩ (fun i H' _ h => SqL.of (h.1 _ _ el)) ?_ ?_
    · rintro i y H' hy ⟨s4, r2, eD, l2, h2⟩
      obtain ⟨r, hr2, mr, rfl⟩ := rfs_at hy
      have il := (List.getElem?_eq_some_iff.mp hr2).1
      refine ⟨rfl, yes_of ?_⟩
      refine ⟨_, rfl, r.1, n, r.2, rfl, n8, ⟨s4 _ _ (rw_ r mr).1, (rw_ r mr).2⟩, fun t2 H5 s5 sh => ?_⟩
      have up : ∀ (q : Addr × List Nat), RowSh C H5 n q → RowSh C (upd H5 D (.lst (rfs r2 ++ [V.ref t2]))) n q := by
        rintro q ⟨as, h1, h2', h3, h4⟩
        have e3 := s5 _ _ eD
        exact ⟨as, by rw [upd_ne (fun z => by rw [z, e3] at h1; cases h1)]; exact h1, h2', h3, fun j c hc => let ⟨dy, v, q1, q2⟩ := h4 j c hc; ⟨dy, v, q1, by rw [upd_ne (fun z => by rw [z, e3] at q2; cases q2)]; exact q2⟩⟩
      refine ⟨_, s5 _ _ eD, by rw [rfs_len]; exact small_len (by omega), Same.but (fun b u e => s5 _ _ (s4 _ _ e)) nD, r2 ++ [(t2, r.2)], by rw [upd_same, rfs_snoc], by rw [List.length_append, l2]; rfl, fun q m => ?_⟩
      rcases List.mem_append.mp m with m | m
      · exact ⟨up q ((h2 q m).1.same s5), (h2 q m).2⟩
      · rw [List.mem_singleton.mp m]; exact ⟨up _ sh, (rw_ r mr).2⟩
    · rintro H4 ⟨s4, r2, eD, l2, h2⟩
      rw [rfs_len] at l2
      have p4 := p3.same s4
      refine ⟨_, rfl, _, rfl, p, n, rfl, p4, n1, n8, fun lb ls H5 k5 p5 eb hl2 => ?_⟩
      exact qu _ p D lb n r2 ls H5 n1 n8 p5 (k5 _ _ eD (p4.neR eD)) eb (fun r m => ⟨(h2 r m).1.keep k5 p4, (h2 r m).2⟩) (by omega) hl2
end
end KJ
set_option Elab.async false
set_option linter.all false
set_option maxRecDepth 100000
set_option maxHeartbeats 4000000
/-! what the end of a proof reads off the top: of no row -/
namespace Hx
open PySem PySem.Spec PyProof.Rows L2
def sltB : List (Option Value) → Bool
  | [_, _, _, _, some (.builtin n), _] => decide (n = "ValueError.__new__")
  | _ => false
theorem sltB_ok {l : List (Option Value)} (h : sltB l = true) : ∃ k0 k1 k2 k3 k5, l = [k0, k1, k2, k3, some (.builtin "ValueError.__new__"), k5] := by
  unfold sltB at h
  split at h
  · rename_i k0 k1 k2 k3 n k5
    exact ⟨k0, k1, k2, k3, k5, by rw [of_decide_eq_true h]⟩
  · cases h
def mroB (C : Addr) : List Value → Bool
  | .ref a :: bm => decide (a = C) && PySem.HandSPX.refsVE bm
  | _ => false
theorem mroB_ok {C : Addr} {l : List Value} (h : mroB C l = true) : ∃ bm, l = .ref C :: bm ∧ PySem.HandSPX.refsVE bm = true := by
  unfold mroB at h
  split at h
  · rename_i a bm
    obtain ⟨b1, b2⟩ := He.ba h
    exact ⟨bm, by rw [of_decide_eq_true b1], b2⟩
  · cases h
def exoB (C : Addr) : Option Obj → Bool
  | some ⟨.type t, _, .cls cd, sl⟩ => decide (t = "type") && (sltB sl.toList && (mroB C cd.mro && (cd.hasDict && !cd.hasDel)))
  | _ => false
theorem exoB_ok {C : Addr} {o : Option Obj} (h : exoB C o = true) : ∃ nm q N bs bm sn sub ab col dd k0 k1 k2 k3 k5, o = some (excClassObj nm q C N bs bm true sn sub ab col dd k0 k1 k2 k3 k5 "ValueError.__new__") ∧ PySem.HandSPX.refsVE bm = true := by
  unfold exoB at h
  split at h
  · rename_i t dd cd sl
    obtain ⟨a1, h⟩ := He.ba h
    obtain ⟨a2, h⟩ := He.ba h
    obtain ⟨a3, h⟩ := He.ba h
    obtain ⟨a4, a5⟩ := He.ba h
    obtain ⟨k0, k1, k2, k3, k5, e1⟩ := sltB_ok a2
    obtain ⟨bm, e2, e3⟩ := mroB_ok a3
    obtain ⟨nm, bs, mro, ns, qn, hd, sn, sub, ab, col, del⟩ := cd
    obtain ⟨sl⟩ := sl
    have e4 : t = "type" := of_decide_eq_true a1
    have e5 : hd = true := a4
    have e6 : del = false := by
      cases del with
      | false => rfl
      | true => cases (show (!true) = true from a5)
    have e1 : sl = _ := e1
    have e2 : mro = _ := e2
    subst e1 e2 e4 e5 e6
    exact ⟨_, _, _, _, _, _, _, _, _, _, _, _, _, _, _, rfl, e3⟩
  · cases h
/-- a class over ValueError's, with an __init__ of its own -/
def oexB (K : PySem.W.Frag) (C : Addr) : Bool := exoB C (K.lookup C) && (decide (PySem.W.findIn K (.ref C) "__setattr__" = some (some (.builtin "object.__setattr__"))) && (decide (PySem.W.subIn K (.ref C) (.type "BaseException") = some true) && (decide (PySem.W.typeIn K (.ref C) = some (.type "type")) && PySem.W.keepIn K (.ref C))))
theorem oexB_ok {K : PySem.W.Frag} {C : Addr} (h : oexB K C = true) : OexC K C := by
  obtain ⟨h0, h⟩ := He.ba h
  obtain ⟨h1, h⟩ := He.ba h
  obtain ⟨h2, h⟩ := He.ba h
  obtain ⟨h3, h4⟩ := He.ba h
  exact ⟨exoB_ok h0, of_decide_eq_true h1, of_decide_eq_true h2, of_decide_eq_true h3, h4⟩
/-- a class's def, found by the class -/
def fcB (K : PySem.W.Frag) (c mc : Value) (m : Str) (g : Value) : Bool := match PySem.W.findCls K c mc m with
  | some (.val v) => decide (v = g)
  | _ => false
theorem fcB_ok {K : PySem.W.Frag} {c mc : Value} {m : Str} {g : Value} (h : fcB K c mc m g = true) : PySem.W.findCls K c mc m = some (.val g) := by
  unfold fcB at h
  split at h
  · rename_i v e
    rw [e, of_decide_eq_true h]
  · cases h
theorem fun_of {K : PySem.W.Frag} {x qual : Str} {st : Stmt} {f : Addr} {fd : FuncData} (F : FunD K x qual (defArgs st) (defBody st) (defScope st) [] [] f fd) : Fun K x qual st f fd := by
  obtain ⟨⟨oc, od, dV, kV, doc, pm, an, cdv, ct, osl, e, lk, hc, hD, hK⟩, kp⟩ := F
  rcases hD with ⟨_, rfl⟩ | ⟨ne, _⟩
  · exact ⟨⟨oc, od, kV, doc, pm, an, cdv, ct, osl, e, lk, hc⟩, kp⟩
  · exact absurd rfl ne
theorem some_of {α : Type} {o : Option α} (h : o.isSome = true) : ∃ r, o = some r := Option.isSome_iff_exists.mp h
/-! ### the Hook: what the top's names and the statics reach -/
def asH (g : Addr → Option Obj) : Nat → List Addr
  | 0 => [mainGlobals, cStatics]
  | n + 1 => He.growD g (asH g n)
abbrev AlH : Type := He.AlD × Bool
def lookH (fn : List He.DefD) (ex : PySem.W.Frag → Bool) (K : PySem.W.Frag) : AlH := (He.obsD [] fn K, ex K)
def obsH (n : Nat) (fn : List He.DefD) (ex : PySem.W.Frag → Bool) (g : Addr → Option Obj) : AlH := lookH fn ex (He.frG g (asH g n))
def SaysH (fn : List He.DefD) (ex : PySem.W.Frag → Bool) (K : PySem.W.Frag) : Prop := He.SaysD [] fn K ∧ ex K = true
def hookH (n : Nat) (fn : List He.DefD) (ex : PySem.W.Frag → Bool) : PySem.W.Hook where
  α := AlH
  obs := fun s => obsH n fn ex s.heap.get?
  val := fun _ => (He.valD fn, true)
  says := fun _ h => ∃ K : PySem.W.Frag, K.In h ∧ SaysH fn ex K
  of := fun _ _ e => ⟨_, He.frG_in, congrArg (fun z : AlH => z.1) e, congrArg (fun z : AlH => z.2) e⟩
  keeps := fun _ _ _ ⟨K, hK, c⟩ k => ⟨K, PySem.W.Frag.In.keeps hK k, c⟩
theorem obsH_eq {n : Nat} {fn : List He.DefD} {ex : PySem.W.Frag → Bool} {g : Addr → Option Obj} {s : Shared} (h : ∀ a, g a = s.heap.get? a) : obsH n fn ex g = (hookH n fn ex).obs s := by
  have e : g = s.heap.get? := funext h
  rw [e] <;> rfl
end Hx
set_option Elab.async false
set_option linter.all false
set_option maxRecDepth 100000
set_option maxHeartbeats 8000000
namespace KJ
open PySem L2
theorem all_mk {P : Program} {w : World} {K : PySem.W.Frag} {mg : Str → Option Value} {base : Heap} {c_BadShare c_BadText c_Chain c_NoState c_Share c_WalkError f_law f_Share___init__ f_BadShare___init__ f_WalkError___init__ f_is_whole f_Share___eq__ f_Chain_label f_check_state f_is_index f_is_between f_NoState___init__ f_Chain_row f__law_pool f__law_pick f__law_draw f__law_size f__law_rows f__law_tops f__law_rows_alike f__law_moved_bit f__law_rows_turning f__law_rows_parted f__law_spread f__law_labels f__law_name f__law_write f__law_other_text f__law_other_line f__law_other_word f__law_word f__law_are_digits f__law_divisor f__law_due f__law_line f_Share___add__ f_Share___radd__ f_is_share f_share_of f__law_read f_read f_Chain___init__ f_is_spread f_is_tuple_of f_is_from_zero f_Share_less f_total f_is_tuple_between f_is_name_row f_is_name f_shares_of f_BadText___init__ f_text_rows f_told_row f_told_share f_Share___str__ f_digits f_is_number_word f__law_same : Addr} {fd_law fd_Share___init__ fd_BadShare___init__ fd_WalkError___init__ fd_is_whole fd_Share___eq__ fd_Chain_label fd_check_state fd_is_index fd_is_between fd_NoState___init__ fd_Chain_row fd__law_pool fd__law_pick fd__law_draw fd__law_size fd__law_rows fd__law_tops fd__law_rows_alike fd__law_moved_bit fd__law_rows_turning fd__law_rows_parted fd__law_spread fd__law_labels fd__law_name fd__law_write fd__law_other_text fd__law_other_line fd__law_other_word fd__law_word fd__law_are_digits fd__law_divisor fd__law_due fd__law_line fd_Share___add__ fd_Share___radd__ fd_is_share fd_share_of fd__law_read fd_read fd_Chain___init__ fd_is_spread fd_is_tuple_of fd_is_from_zero fd_Share_less fd_total fd_is_tuple_between fd_is_name_row fd_is_name fd_shares_of fd_BadText___init__ fd_text_rows fd_told_row fd_told_share fd_Share___str__ fd_digits fd_is_number_word fd__law_same : FuncData}
    (D_law : FunD K "law" "law" (defArgs s_law) (defBody s_law) (defScope s_law) [] [] f_law fd_law)
    (D_Share___init__ : FunD K "__init__" "Share.__init__" (defArgs s_SI) (defBody s_SI) (defScope s_SI) [.int 1] [] f_Share___init__ fd_Share___init__)
    (D_BadShare___init__ : FunD K "__init__" "BadShare.__init__" (defArgs s_BS) (defBody s_BS) (defScope s_BS) [] [] f_BadShare___init__ fd_BadShare___init__)
    (D_WalkError___init__ : FunD K "__init__" "WalkError.__init__" (defArgs s_WE) (defBody s_WE) (defScope s_WE) [.str "the package was asked for what it cannot do"] [] f_WalkError___init__ fd_WalkError___init__)
    (D_is_whole : FunD K "is_whole" "is_whole" (defArgs s_is_whole) (defBody s_is_whole) (defScope s_is_whole) [] [] f_is_whole fd_is_whole)
    (D_Share___eq__ : FunD K "__eq__" "Share.__eq__" (defArgs s_eq) (defBody s_eq) (defScope s_eq) [] [] f_Share___eq__ fd_Share___eq__)
    (D_Chain_label : FunD K "label" "Chain.label" (defArgs s_chlabel) (defBody s_chlabel) (defScope s_chlabel) [] [] f_Chain_label fd_Chain_label)
    (D_check_state : FunD K "check_state" "check_state" (defArgs s_check) (defBody s_check) (defScope s_check) [] [] f_check_state fd_check_state)
    (D_is_index : FunD K "is_index" "is_index" (defArgs s_is_index) (defBody s_is_index) (defScope s_is_index) [] [] f_is_index fd_is_index)
    (D_is_between : FunD K "is_between" "is_between" (defArgs s_is_between) (defBody s_is_between) (defScope s_is_between) [] [] f_is_between fd_is_between)
    (D_NoState___init__ : FunD K "__init__" "NoState.__init__" (defArgs s_NS) (defBody s_NS) (defScope s_NS) [] [] f_NoState___init__ fd_NoState___init__)
    (D_Chain_row : FunD K "row" "Chain.row" (defArgs s_chrow) (defBody s_chrow) (defScope s_chrow) [] [] f_Chain_row fd_Chain_row)
    (D__law_pool : FunD K "_law_pool" "_law_pool" (defArgs s_pool) (defBody s_pool) (defScope s_pool) [] [] f__law_pool fd__law_pool)
    (D__law_pick : FunD K "_law_pick" "_law_pick" (defArgs s_pick) (defBody s_pick) (defScope s_pick) [] [] f__law_pick fd__law_pick)
    (D__law_draw : FunD K "_law_draw" "_law_draw" (defArgs s_draw) (defBody s_draw) (defScope s_draw) [] [] f__law_draw fd__law_draw)
    (D__law_size : FunD K "_law_size" "_law_size" (defArgs s_size) (defBody s_size) (defScope s_size) [] [] f__law_size fd__law_size)
    (D__law_rows : FunD K "_law_rows" "_law_rows" (defArgs s_rows) (defBody s_rows) (defScope s_rows) [] [] f__law_rows fd__law_rows)
    (D__law_tops : FunD K "_law_tops" "_law_tops" (defArgs s_tops) (defBody s_tops) (defScope s_tops) [] [] f__law_tops fd__law_tops)
    (D__law_rows_alike : FunD K "_law_rows_alike" "_law_rows_alike" (defArgs s_alike) (defBody s_alike) (defScope s_alike) [] [] f__law_rows_alike fd__law_rows_alike)
    (D__law_moved_bit : FunD K "_law_moved_bit" "_law_moved_bit" (defArgs s_moved) (defBody s_moved) (defScope s_moved) [] [] f__law_moved_bit fd__law_moved_bit)
    (D__law_rows_turning : FunD K "_law_rows_turning" "_law_rows_turning" (defArgs s_turning) (defBody s_turning) (defScope s_turning) [] [] f__law_rows_turning fd__law_rows_turning)
    (D__law_rows_parted : FunD K "_law_rows_parted" "_law_rows_parted" (defArgs s_parted) (defBody s_parted) (defScope s_parted) [] [] f__law_rows_parted fd__law_rows_parted)
    (D__law_spread : FunD K "_law_spread" "_law_spread" (defArgs s_spreadL) (defBody s_spreadL) (defScope s_spreadL) [] [] f__law_spread fd__law_spread)
    (D__law_labels : FunD K "_law_labels" "_law_labels" (defArgs s_labels) (defBody s_labels) (defScope s_labels) [] [] f__law_labels fd__law_labels)
    (D__law_name : FunD K "_law_name" "_law_name" (defArgs s_name) (defBody s_name) (defScope s_name) [] [] f__law_name fd__law_name)
    (D__law_write : FunD K "_law_write" "_law_write" (defArgs s_write) (defBody s_write) (defScope s_write) [] [] f__law_write fd__law_write)
    (D__law_other_text : FunD K "_law_other_text" "_law_other_text" (defArgs s_ot) (defBody s_ot) (defScope s_ot) [] [] f__law_other_text fd__law_other_text)
    (D__law_other_line : FunD K "_law_other_line" "_law_other_line" (defArgs s_ol) (defBody s_ol) (defScope s_ol) [] [] f__law_other_line fd__law_other_line)
    (D__law_other_word : FunD K "_law_other_word" "_law_other_word" (defArgs s_ow) (defBody s_ow) (defScope s_ow) [] [] f__law_other_word fd__law_other_word)
    (D__law_word : FunD K "_law_word" "_law_word" (defArgs s_wd) (defBody s_wd) (defScope s_wd) [] [] f__law_word fd__law_word)
    (D__law_are_digits : FunD K "_law_are_digits" "_law_are_digits" (defArgs s_ared) (defBody s_ared) (defScope s_ared) [] [] f__law_are_digits fd__law_are_digits)
    (D__law_divisor : FunD K "_law_divisor" "_law_divisor" (defArgs s_div) (defBody s_div) (defScope s_div) [] [] f__law_divisor fd__law_divisor)
    (D__law_due : FunD K "_law_due" "_law_due" (defArgs s_due) (defBody s_due) (defScope s_due) [] [] f__law_due fd__law_due)
    (D__law_line : FunD K "_law_line" "_law_line" (defArgs s_ln) (defBody s_ln) (defScope s_ln) [] [] f__law_line fd__law_line)
    (D_Share___add__ : FunD K "__add__" "Share.__add__" (defArgs s_add) (defBody s_add) (defScope s_add) [] [] f_Share___add__ fd_Share___add__)
    (D_Share___radd__ : FunD K "__radd__" "Share.__radd__" (defArgs s_radd) (defBody s_radd) (defScope s_radd) [] [] f_Share___radd__ fd_Share___radd__)
    (D_is_share : FunD K "is_share" "is_share" (defArgs s_is_share) (defBody s_is_share) (defScope s_is_share) [] [] f_is_share fd_is_share)
    (D_share_of : FunD K "share_of" "share_of" (defArgs s_share_of) (defBody s_share_of) (defScope s_share_of) [] [] f_share_of fd_share_of)
    (D__law_read : FunD K "_law_read" "_law_read" (defArgs s_lread) (defBody s_lread) (defScope s_lread) [] [] f__law_read fd__law_read)
    (D_read : FunD K "read" "read" (defArgs s_read) (defBody s_read) (defScope s_read) [] [] f_read fd_read)
    (D_Chain___init__ : FunD K "__init__" "Chain.__init__" (defArgs s_CI) (defBody s_CI) (defScope s_CI) [] [] f_Chain___init__ fd_Chain___init__)
    (D_is_spread : FunD K "is_spread" "is_spread" (defArgs s_spread) (defBody s_spread) (defScope s_spread) [] [] f_is_spread fd_is_spread)
    (D_is_tuple_of : FunD K "is_tuple_of" "is_tuple_of" (defArgs s_tupOf) (defBody s_tupOf) (defScope s_tupOf) [] [] f_is_tuple_of fd_is_tuple_of)
    (D_is_from_zero : FunD K "is_from_zero" "is_from_zero" (defArgs s_from0) (defBody s_from0) (defScope s_from0) [] [] f_is_from_zero fd_is_from_zero)
    (D_Share_less : FunD K "less" "Share.less" (defArgs s_sless) (defBody s_sless) (defScope s_sless) [] [] f_Share_less fd_Share_less)
    (D_total : FunD K "total" "total" (defArgs s_total) (defBody s_total) (defScope s_total) [] [] f_total fd_total)
    (D_is_tuple_between : FunD K "is_tuple_between" "is_tuple_between" (defArgs s_tupBet) (defBody s_tupBet) (defScope s_tupBet) [] [] f_is_tuple_between fd_is_tuple_between)
    (D_is_name_row : FunD K "is_name_row" "is_name_row" (defArgs s_nameRow) (defBody s_nameRow) (defScope s_nameRow) [] [] f_is_name_row fd_is_name_row)
    (D_is_name : FunD K "is_name" "is_name" (defArgs s_is_name) (defBody s_is_name) (defScope s_is_name) [] [] f_is_name fd_is_name)
    (D_shares_of : FunD K "shares_of" "shares_of" (defArgs s_shares_of) (defBody s_shares_of) (defScope s_shares_of) [] [] f_shares_of fd_shares_of)
    (D_BadText___init__ : FunD K "__init__" "BadText.__init__" (defArgs s_BT) (defBody s_BT) (defScope s_BT) [] [] f_BadText___init__ fd_BadText___init__)
    (D_text_rows : FunD K "text_rows" "text_rows" (defArgs s_trows) (defBody s_trows) (defScope s_trows) [] [] f_text_rows fd_text_rows)
    (D_told_row : FunD K "told_row" "told_row" (defArgs s_trow) (defBody s_trow) (defScope s_trow) [] [] f_told_row fd_told_row)
    (D_told_share : FunD K "told_share" "told_share" (defArgs s_told) (defBody s_told) (defScope s_told) [] [] f_told_share fd_told_share)
    (D_Share___str__ : FunD K "__str__" "Share.__str__" (defArgs s_str) (defBody s_str) (defScope s_str) [] [] f_Share___str__ fd_Share___str__)
    (D_digits : FunD K "digits" "digits" (defArgs s_digits) (defBody s_digits) (defScope s_digits) [] [] f_digits fd_digits)
    (D_is_number_word : FunD K "is_number_word" "is_number_word" (defArgs s_numw) (defBody s_numw) (defScope s_numw) [] [] f_is_number_word fd_is_number_word)
    (D__law_same : FunD K "_law_same" "_law_same" (defArgs s_same) (defBody s_same) (defScope s_same) [] [] f__law_same fd__law_same)
    (q0 : mg "isinstance" = none)
    (q1 : mg "int" = none)
    (q2 : mg "bool" = none)
    (q3 : mg "abs" = none)
    (q4 : mg "len" = none)
    (q5 : mg "str" = none)
    (q6 : mg "divmod" = none)
    (q7 : mg "ValueError" = none)
    (q8 : mg "list" = none)
    (q9 : mg "tuple" = none)
    (q10 : mg "range" = none)
    (q11 : mg "sum" = none)
    (q12 : mg "min" = none)
    (q13 : mg "max" = none)
    (q14 : mg "all" = none)
    (q15 : PySem.W.plainGet K c_Chain Str.empty = true)
    (q16 : PySem.W.hasDictIn K c_Chain = true)
    (q17 : PySem.W.plainOver K c_Chain = true)
    (q18 : PySem.W.findIn K (.ref c_Chain) "__setattr__" = some (some (.builtin "object.__setattr__")))
    (q19 : PySem.W.findIn K (.ref c_Chain) "__class__" = some (some (.builtin "object.__class__")))
    (q20 : PySem.W.specialIn K (.builtin "object.__class__") "__get__" = some (some (.builtin "getset_descriptor.__get__")))
    (q21 : PySem.W.takesIn K (.builtin "object.__class__") = some true)
    (q22 : PySem.W.mroIn K c_Chain (.type "object") = some true)
    (q23 : PySem.W.kitOne K (.ref c_Chain) (.type "int") = some false)
    (q24 : PySem.W.kitOne K (.ref c_Chain) (.type "bool") = some false)
    (q25 : PySem.W.kitOne K (.ref c_Chain) (.ref c_Chain) = some true)
    (q26 : PySem.W.kitOne K (.type "int") (.ref c_Chain) = some false)
    (q27 : PySem.W.kitOne K (.type "bool") (.ref c_Chain) = some false)
    (q28 : PySem.W.kitOne K (.type "NoneType") (.ref c_Chain) = some false)
    (q29 : PySem.W.kitOne K (.type "str") (.ref c_Chain) = some false)
    (q30 : PySem.W.kitOne K (.type "list") (.ref c_Chain) = some false)
    (q31 : PySem.W.kitOne K (.type "tuple") (.ref c_Chain) = some false)
    (q32 : PySem.W.kitOne K (.type "dict") (.ref c_Chain) = some false)
    (q33 : NoAttr K c_Chain "size")
    (q34 : NoAttr K c_Chain "_rows")
    (q35 : NoAttr K c_Chain "_labels")
    (q36 : mg "Chain" = some (.ref c_Chain))
    (q37 : ∃ t, mg "MOST_STATES" = some (.int 8 t))
    (q38 : PySem.W.makesIn K c_Share = true)
    (q39 : PySem.W.findIn K (.ref c_Share) "__init__" = some (some (.ref f_Share___init__)))
    (q40 : PySem.W.isFn K (.ref f_Share___init__) = true)
    (q41 : PySem.W.keepIn K (.ref c_Share) = true)
    (q42 : PySem.W.plainGet K c_Share Str.empty = true)
    (q43 : PySem.W.hasDictIn K c_Share = true)
    (q44 : PySem.W.plainOver K c_Share = true)
    (q45 : PySem.W.findIn K (.ref c_Share) "__setattr__" = some (some (.builtin "object.__setattr__")))
    (q46 : PySem.W.findIn K (.ref c_Share) "__class__" = some (some (.builtin "object.__class__")))
    (q47 : PySem.W.mroIn K c_Share (.type "object") = some true)
    (q48 : PySem.W.kitOne K (.ref c_Share) (.type "int") = some false)
    (q49 : PySem.W.kitOne K (.ref c_Share) (.type "bool") = some false)
    (q50 : PySem.W.kitOne K (.ref c_Share) (.ref c_Share) = some true)
    (q51 : PySem.W.kitOne K (.type "int") (.ref c_Share) = some false)
    (q52 : PySem.W.kitOne K (.type "bool") (.ref c_Share) = some false)
    (q53 : PySem.W.kitOne K (.type "NoneType") (.ref c_Share) = some false)
    (q54 : PySem.W.kitOne K (.type "str") (.ref c_Share) = some false)
    (q55 : PySem.W.kitOne K (.type "list") (.ref c_Share) = some false)
    (q56 : PySem.W.kitOne K (.type "tuple") (.ref c_Share) = some false)
    (q57 : PySem.W.kitOne K (.type "dict") (.ref c_Share) = some false)
    (q58 : NoAttr K c_Share "top")
    (q59 : NoAttr K c_Share "bottom")
    (q60 : mg "gcd" = some (.builtin "math.gcd"))
    (q61 : mg "Share" = some (.ref c_Share))
    (q62 : OexC K c_BadShare)
    (q63 : PySem.W.findIn K (.ref c_BadShare) "top" = some none)
    (q64 : PySem.W.findIn K (.ref c_BadShare) "bottom" = some none)
    (q65 : mg "BadShare" = some (.ref c_BadShare))
    (q66 : PySem.W.findIn K (.ref c_BadShare) "__init__" = some (some (.ref f_BadShare___init__)))
    (q67 : PySem.W.typeIn K (.ref f_BadShare___init__) = some (.type "function"))
    (q68 : mg "WalkError" = some (.ref c_WalkError))
    (q69 : PySem.W.readsIn K c_WalkError (.type "type") = true)
    (q70 : PySem.W.specialIn K (.ref c_WalkError) "__getattribute__" = some (some (.builtin "type.__getattribute__")))
    (q71 : PySem.W.findCls K (.ref c_WalkError) (.type "type") "__init__" = some (.val (.ref f_WalkError___init__)))
    (q72 : PySem.W.keepIn K (.ref f_WalkError___init__) = true)
    (q73 : PySem.W.findCls K (.type "ValueError") (.type "type") "__init__" = some (.val (.builtin "ValueError.__init__")))
    (q74 : mg "is_whole" = some (.ref f_is_whole))
    (q75 : PySem.W.keepIn K (.ref f_is_whole) = true)
    (q76 : PySem.W.findIn K (.ref c_Share) "__eq__" = some (some (.ref f_Share___eq__)))
    (q77 : PySem.W.findIn K (.ref c_Share) "__ne__" = some (some (.builtin "object.__ne__")))
    (q78 : PySem.W.isFn K (.ref f_Share___eq__) = true)
    (q79 : PySem.W.subIn K (.ref c_Share) (.type "int") = some false)
    (q80 : PySem.W.subIn K (.ref c_Share) (.type "bool") = some false)
    (q81 : PySem.W.subIn K (.ref c_Share) (.type "NoneType") = some false)
    (q82 : PySem.W.subIn K (.ref c_Share) (.type "str") = some false)
    (q83 : PySem.W.subIn K (.ref c_Share) (.type "list") = some false)
    (q84 : PySem.W.subIn K (.ref c_Share) (.type "tuple") = some false)
    (q85 : PySem.W.subIn K (.ref c_Share) (.type "dict") = some false)
    (q86 : PySem.W.findIn K (.ref c_Chain) "label" = some (some (.ref f_Chain_label)))
    (q87 : PySem.W.isFn K (.ref f_Chain_label) = true)
    (q88 : PySem.W.keepIn K (.ref f_Chain_label) = true)
    (q89 : mg "is_between" = some (.ref f_is_between))
    (q90 : PySem.W.keepIn K (.ref f_is_between) = true)
    (q91 : mg "is_index" = some (.ref f_is_index))
    (q92 : PySem.W.keepIn K (.ref f_is_index) = true)
    (q93 : mg "NoState" = some (.ref c_NoState))
    (q94 : PySem.W.findIn K (.ref c_NoState) "__init__" = some (some (.ref f_NoState___init__)))
    (q95 : PySem.W.typeIn K (.ref f_NoState___init__) = some (.type "function"))
    (q96 : OexC K c_NoState)
    (q97 : PySem.W.findIn K (.ref c_NoState) "state" = some none)
    (q98 : mg "check_state" = some (.ref f_check_state))
    (q99 : PySem.W.keepIn K (.ref f_check_state) = true)
    (q100 : PySem.W.findIn K (.ref c_Chain) "row" = some (some (.ref f_Chain_row)))
    (q101 : PySem.W.isFn K (.ref f_Chain_row) = true)
    (q102 : PySem.W.keepIn K (.ref f_Chain_row) = true)
    (q103 : PySem.W.kitOne K (.ref c_Share) (.type "str") = some false)
    (q104 : mg "_law_pool" = some (.ref f__law_pool))
    (q105 : PySem.W.keepIn K (.ref f__law_pool) = true)
    (q106 : mg "_law_draw" = some (.ref f__law_draw))
    (q107 : PySem.W.keepIn K (.ref f__law_draw) = true)
    (q108 : mg "_law_pick" = some (.ref f__law_pick))
    (q109 : PySem.W.keepIn K (.ref f__law_pick) = true)
    (q110 : mg "_law_size" = some (.ref f__law_size))
    (q111 : PySem.W.keepIn K (.ref f__law_size) = true)
    (q112 : mg "_law_tops" = some (.ref f__law_tops))
    (q113 : PySem.W.keepIn K (.ref f__law_tops) = true)
    (q114 : mg "_law_moved_bit" = some (.ref f__law_moved_bit))
    (q115 : PySem.W.keepIn K (.ref f__law_moved_bit) = true)
    (q116 : mg "_law_rows_alike" = some (.ref f__law_rows_alike))
    (q117 : PySem.W.keepIn K (.ref f__law_rows_alike) = true)
    (q118 : mg "_law_rows_turning" = some (.ref f__law_rows_turning))
    (q119 : PySem.W.keepIn K (.ref f__law_rows_turning) = true)
    (q120 : mg "_law_rows_parted" = some (.ref f__law_rows_parted))
    (q121 : PySem.W.keepIn K (.ref f__law_rows_parted) = true)
    (q122 : mg "_law_rows" = some (.ref f__law_rows))
    (q123 : PySem.W.keepIn K (.ref f__law_rows) = true)
    (q124 : mg "_law_spread" = some (.ref f__law_spread))
    (q125 : PySem.W.keepIn K (.ref f__law_spread) = true)
    (q126 : mg "_law_name" = some (.ref f__law_name))
    (q127 : PySem.W.keepIn K (.ref f__law_name) = true)
    (q128 : mg "_law_labels" = some (.ref f__law_labels))
    (q129 : PySem.W.keepIn K (.ref f__law_labels) = true)
    (q130 : mg "_law_write" = some (.ref f__law_write))
    (q131 : PySem.W.keepIn K (.ref f__law_write) = true)
    (q132 : mg "_law_are_digits" = some (.ref f__law_are_digits))
    (q133 : PySem.W.keepIn K (.ref f__law_are_digits) = true)
    (q134 : mg "_law_divisor" = some (.ref f__law_divisor))
    (q135 : PySem.W.keepIn K (.ref f__law_divisor) = true)
    (q136 : mg "_law_word" = some (.ref f__law_word))
    (q137 : PySem.W.keepIn K (.ref f__law_word) = true)
    (q138 : mg "_law_other_word" = some (.ref f__law_other_word))
    (q139 : PySem.W.keepIn K (.ref f__law_other_word) = true)
    (q140 : mg "_law_other_line" = some (.ref f__law_other_line))
    (q141 : PySem.W.keepIn K (.ref f__law_other_line) = true)
    (q142 : mg "_law_other_text" = some (.ref f__law_other_text))
    (q143 : PySem.W.keepIn K (.ref f__law_other_text) = true)
    (q144 : mg "any" = none)
    (q145 : PySem.W.subIn K (.ref c_Share) (.type "bytes") = some false)
    (q146 : PySem.W.subIn K (.ref c_Share) (.type "bytearray") = some false)
    (q147 : PySem.W.selfFirst K c_Share = true)
    (q148 : PySem.W.findIn K (.ref c_Share) (PySem.dunder "add") = some (some (.ref f_Share___add__)))
    (q149 : PySem.W.isFn K (.ref f_Share___add__) = true)
    (q150 : PySem.W.findIn K (.ref c_Share) (dunderR "add") = some (some (.ref f_Share___radd__)))
    (q151 : PySem.W.isFn K (.ref f_Share___radd__) = true)
    (q152 : ∃ ro, PySem.W.findIn K (.type "int") (dunderR "add") = some ro)
    (q153 : PySem.W.subIn K (.type "int") (.ref c_Share) = some false)
    (q154 : mg "is_share" = some (.ref f_is_share))
    (q155 : PySem.W.keepIn K (.ref f_is_share) = true)
    (q156 : mg "share_of" = some (.ref f_share_of))
    (q157 : PySem.W.keepIn K (.ref f_share_of) = true)
    (q158 : mg "_law_line" = some (.ref f__law_line))
    (q159 : PySem.W.keepIn K (.ref f__law_line) = true)
    (q160 : mg "_law_due" = some (.ref f__law_due))
    (q161 : PySem.W.keepIn K (.ref f__law_due) = true)
    (q162 : mg "BadText" = some (.ref c_BadText))
    (q163 : PySem.W.findIn K (.ref c_BadText) "__getattribute__" = some (some (.builtin "BaseException.__getattribute__")))
    (q164 : PySem.W.findIn K (.ref c_BadText) "__getattr__" = some none)
    (q165 : PySem.W.subIn K (.ref c_BadText) (.type "BaseException") = some true)
    (q166 : PySem.W.hasDictIn K c_BadText = true)
    (q167 : PySem.W.exmOne K (.ref c_BadText) (.ref c_BadText) = some true)
    (q168 : PySem.W.findIn K (.ref c_BadText) "line" = some none)
    (q169 : mg "enumerate" = none)
    (q170 : PySem.W.makesIn K c_Chain = true)
    (q171 : PySem.W.findIn K (.ref c_Chain) "__init__" = some (some (.ref f_Chain___init__)))
    (q172 : PySem.W.isFn K (.ref f_Chain___init__) = true)
    (q173 : PySem.W.keepIn K (.ref c_Chain) = true)
    (q174 : PySem.W.kitOne K (.ref c_Share) (.type "tuple") = some false)
    (q175 : mg "is_tuple_of" = some (.ref f_is_tuple_of))
    (q176 : PySem.W.keepIn K (.ref f_is_tuple_of) = true)
    (q177 : PySem.W.findIn K (.ref c_Share) "less" = some (some (.ref f_Share_less)))
    (q178 : PySem.W.isFn K (.ref f_Share_less) = true)
    (q179 : PySem.W.keepIn K (.ref f_Share_less) = true)
    (q180 : mg "is_from_zero" = some (.ref f_is_from_zero))
    (q181 : PySem.W.keepIn K (.ref f_is_from_zero) = true)
    (q182 : mg "total" = some (.ref f_total))
    (q183 : PySem.W.keepIn K (.ref f_total) = true)
    (q184 : mg "is_spread" = some (.ref f_is_spread))
    (q185 : PySem.W.keepIn K (.ref f_is_spread) = true)
    (q186 : mg "is_tuple_between" = some (.ref f_is_tuple_between))
    (q187 : PySem.W.keepIn K (.ref f_is_tuple_between) = true)
    (q188 : ∃ t, mg "LETTERS" = some (.str abc t))
    (q189 : mg "is_name" = some (.ref f_is_name))
    (q190 : PySem.W.keepIn K (.ref f_is_name) = true)
    (q191 : mg "is_name_row" = some (.ref f_is_name_row))
    (q192 : PySem.W.keepIn K (.ref f_is_name_row) = true)
    (q193 : mg "shares_of" = some (.ref f_shares_of))
    (q194 : PySem.W.keepIn K (.ref f_shares_of) = true)
    (q195 : OexC K c_BadText)
    (q196 : PySem.W.findIn K (.ref c_BadText) "__init__" = some (some (.ref f_BadText___init__)))
    (q197 : PySem.W.typeIn K (.ref f_BadText___init__) = some (.type "function"))
    (q198 : mg "text_rows" = some (.ref f_text_rows))
    (q199 : PySem.W.keepIn K (.ref f_text_rows) = true)
    (q200 : PySem.W.findIn K (.ref c_Share) "__str__" = some (some (.ref f_Share___str__)))
    (q201 : PySem.W.isFn K (.ref f_Share___str__) = true)
    (q202 : ∃ t, mg "BLOCK" = some (.int (10 ^ 64) t))
    (q203 : mg "digits" = some (.ref f_digits))
    (q204 : PySem.W.keepIn K (.ref f_digits) = true)
    (q205 : ∃ t, mg "MOST_DIGITS" = some (.int 100 t))
    (q206 : ∃ t, mg "DIGITS" = some (.str d09 t))
    (q207 : mg "is_number_word" = some (.ref f_is_number_word))
    (q208 : PySem.W.keepIn K (.ref f_is_number_word) = true)
    (q209 : mg "told_share" = some (.ref f_told_share))
    (q210 : PySem.W.keepIn K (.ref f_told_share) = true)
    (q211 : mg "told_row" = some (.ref f_told_row))
    (q212 : PySem.W.keepIn K (.ref f_told_row) = true)
    (q213 : mg "read" = some (.ref f_read))
    (q214 : PySem.W.keepIn K (.ref f_read) = true)
    (q215 : mg "_law_read" = some (.ref f__law_read))
    (q216 : PySem.W.keepIn K (.ref f__law_read) = true)
    (q217 : mg "_law_same" = some (.ref f__law_same))
    (q218 : PySem.W.keepIn K (.ref f__law_same) = true)
    (q219 : mg "law" = some (.ref f_law)) :
    FnOk P w K mg base CX0 17 f_law fd_law ["_law_script"] (spLaw K) := by
  have F_law := Hx.fun_of D_law
  have F_Share___init__ := D_Share___init__
  obtain ⟨e2_Share___init__, w2_Share___init__, b2_Share___init__⟩ := F_Share___init__.binds1 (ps := ["self", "top", "bottom"]) 3 1 (by simp) rfl fun _ _ _ _ _ _ _ us its hu hi => match us, its, hu, hi with | [_, _, _], [_], _, _ => ⟨_, rfl, rfl⟩
  cases w2_Share___init__
  obtain ⟨ds_Share___init__, v1_Share___init__, b1_Share___init__⟩ := F_Share___init__.binds1 (ps := ["self", "top", "bottom"]) 2 0 (by simp) rfl fun _ _ _ _ _ _ _ us its hu hi => match us, its, hu, hi with | [_, _], [_], _, _ => ⟨_, rfl, rfl⟩
  have F_BadShare___init__ := Hx.fun_of D_BadShare___init__
  have b_BadShare___init__ := F_BadShare___init__.binds (ps := ["self", "top", "bottom"]) fun _ _ _ _ _ _ us hl => match us, hl with | [_, _, _], _ => rfl
  have F_WalkError___init__ := D_WalkError___init__
  obtain ⟨e2_WalkError___init__, w2_WalkError___init__, b2_WalkError___init__⟩ := F_WalkError___init__.binds1 (ps := ["self", "words"]) 2 1 (by simp) rfl fun _ _ _ _ _ _ _ us its hu hi => match us, its, hu, hi with | [_, _], [_], _, _ => ⟨_, rfl, rfl⟩
  cases w2_WalkError___init__
  obtain ⟨ds_WalkError___init__, v1_WalkError___init__, b1_WalkError___init__⟩ := F_WalkError___init__.binds1 (ps := ["self", "words"]) 1 0 (by simp) rfl fun _ _ _ _ _ _ _ us its hu hi => match us, its, hu, hi with | [_], [_], _, _ => ⟨_, rfl, rfl⟩
  have F_is_whole := Hx.fun_of D_is_whole
  have b_is_whole := F_is_whole.binds (ps := ["thing"]) fun _ _ _ _ _ _ us hl => match us, hl with | [_], _ => rfl
  have F_Share___eq__ := Hx.fun_of D_Share___eq__
  have b_Share___eq__ := F_Share___eq__.binds (ps := ["self", "other"]) fun _ _ _ _ _ _ us hl => match us, hl with | [_, _], _ => rfl
  have F_Chain_label := Hx.fun_of D_Chain_label
  have b_Chain_label := F_Chain_label.binds (ps := ["self", "state"]) fun _ _ _ _ _ _ us hl => match us, hl with | [_, _], _ => rfl
  have F_check_state := Hx.fun_of D_check_state
  have b_check_state := F_check_state.binds (ps := ["size", "state"]) fun _ _ _ _ _ _ us hl => match us, hl with | [_, _], _ => rfl
  have F_is_index := Hx.fun_of D_is_index
  have b_is_index := F_is_index.binds (ps := ["many", "thing"]) fun _ _ _ _ _ _ us hl => match us, hl with | [_, _], _ => rfl
  have F_is_between := Hx.fun_of D_is_between
  have b_is_between := F_is_between.binds (ps := ["least", "most", "thing"]) fun _ _ _ _ _ _ us hl => match us, hl with | [_, _, _], _ => rfl
  have F_NoState___init__ := Hx.fun_of D_NoState___init__
  have b_NoState___init__ := F_NoState___init__.binds (ps := ["self", "state"]) fun _ _ _ _ _ _ us hl => match us, hl with | [_, _], _ => rfl
  have F_Chain_row := Hx.fun_of D_Chain_row
  have b_Chain_row := F_Chain_row.binds (ps := ["self", "state"]) fun _ _ _ _ _ _ us hl => match us, hl with | [_, _], _ => rfl
  have F__law_pool := Hx.fun_of D__law_pool
  have b__law_pool := F__law_pool.binds (ps := ["_law_script"]) fun _ _ _ _ _ _ us hl => match us, hl with | [_], _ => rfl
  have F__law_pick := Hx.fun_of D__law_pick
  have b__law_pick := F__law_pick.binds (ps := ["_law_pool_here", "_law_things"]) fun _ _ _ _ _ _ us hl => match us, hl with | [_, _], _ => rfl
  have F__law_draw := Hx.fun_of D__law_draw
  have b__law_draw := F__law_draw.binds (ps := ["_law_pool_here", "_law_many"]) fun _ _ _ _ _ _ us hl => match us, hl with | [_, _], _ => rfl
  have F__law_size := Hx.fun_of D__law_size
  have b__law_size := F__law_size.binds (ps := ["_law_pool_here", "_law_most"]) fun _ _ _ _ _ _ us hl => match us, hl with | [_, _], _ => rfl
  have F__law_rows := Hx.fun_of D__law_rows
  have b__law_rows := F__law_rows.binds (ps := ["_law_pool_here", "_law_size_here"]) fun _ _ _ _ _ _ us hl => match us, hl with | [_, _], _ => rfl
  have F__law_tops := Hx.fun_of D__law_tops
  have b__law_tops := F__law_tops.binds (ps := ["_law_pool_here", "_law_size_here"]) fun _ _ _ _ _ _ us hl => match us, hl with | [_, _], _ => rfl
  have F__law_rows_alike := Hx.fun_of D__law_rows_alike
  have b__law_rows_alike := F__law_rows_alike.binds (ps := ["_law_pool_here", "_law_size_here"]) fun _ _ _ _ _ _ us hl => match us, hl with | [_, _], _ => rfl
  have F__law_moved_bit := Hx.fun_of D__law_moved_bit
  have b__law_moved_bit := F__law_moved_bit.binds (ps := ["_law_pool_here", "_law_tops_here"]) fun _ _ _ _ _ _ us hl => match us, hl with | [_, _], _ => rfl
  have F__law_rows_turning := Hx.fun_of D__law_rows_turning
  have b__law_rows_turning := F__law_rows_turning.binds (ps := ["_law_pool_here", "_law_size_here"]) fun _ _ _ _ _ _ us hl => match us, hl with | [_, _], _ => rfl
  have F__law_rows_parted := Hx.fun_of D__law_rows_parted
  have b__law_rows_parted := F__law_rows_parted.binds (ps := ["_law_pool_here", "_law_size_here"]) fun _ _ _ _ _ _ us hl => match us, hl with | [_, _], _ => rfl
  have F__law_spread := Hx.fun_of D__law_spread
  have b__law_spread := F__law_spread.binds (ps := ["_law_tops_here"]) fun _ _ _ _ _ _ us hl => match us, hl with | [_], _ => rfl
  have F__law_labels := Hx.fun_of D__law_labels
  have b__law_labels := F__law_labels.binds (ps := ["_law_pool_here", "_law_size_here"]) fun _ _ _ _ _ _ us hl => match us, hl with | [_, _], _ => rfl
  have F__law_name := Hx.fun_of D__law_name
  have b__law_name := F__law_name.binds (ps := ["_law_pool_here", "_law_taken"]) fun _ _ _ _ _ _ us hl => match us, hl with | [_, _], _ => rfl
  have F__law_write := Hx.fun_of D__law_write
  have b__law_write := F__law_write.binds (ps := ["_law_share"]) fun _ _ _ _ _ _ us hl => match us, hl with | [_], _ => rfl
  have F__law_other_text := Hx.fun_of D__law_other_text
  have b__law_other_text := F__law_other_text.binds (ps := ["_law_pool_here", "_law_lines"]) fun _ _ _ _ _ _ us hl => match us, hl with | [_, _], _ => rfl
  have F__law_other_line := Hx.fun_of D__law_other_line
  have b__law_other_line := F__law_other_line.binds (ps := ["_law_pool_here", "_law_line_here"]) fun _ _ _ _ _ _ us hl => match us, hl with | [_, _], _ => rfl
  have F__law_other_word := Hx.fun_of D__law_other_word
  have b__law_other_word := F__law_other_word.binds (ps := ["_law_pool_here", "_law_word_here"]) fun _ _ _ _ _ _ us hl => match us, hl with | [_, _], _ => rfl
  have F__law_word := Hx.fun_of D__law_word
  have b__law_word := F__law_word.binds (ps := ["_law_word_here"]) fun _ _ _ _ _ _ us hl => match us, hl with | [_], _ => rfl
  have F__law_are_digits := Hx.fun_of D__law_are_digits
  have b__law_are_digits := F__law_are_digits.binds (ps := ["_law_word_here"]) fun _ _ _ _ _ _ us hl => match us, hl with | [_], _ => rfl
  have F__law_divisor := Hx.fun_of D__law_divisor
  have b__law_divisor := F__law_divisor.binds (ps := ["_law_one", "_law_other"]) fun _ _ _ _ _ _ us hl => match us, hl with | [_, _], _ => rfl
  have F__law_due := Hx.fun_of D__law_due
  have b__law_due := F__law_due.binds (ps := ["_law_text"]) fun _ _ _ _ _ _ us hl => match us, hl with | [_], _ => rfl
  have F__law_line := Hx.fun_of D__law_line
  have b__law_line := F__law_line.binds (ps := ["_law_line_here"]) fun _ _ _ _ _ _ us hl => match us, hl with | [_], _ => rfl
  have F_Share___add__ := Hx.fun_of D_Share___add__
  have b_Share___add__ := F_Share___add__.binds (ps := ["self", "other"]) fun _ _ _ _ _ _ us hl => match us, hl with | [_, _], _ => rfl
  have F_Share___radd__ := Hx.fun_of D_Share___radd__
  have b_Share___radd__ := F_Share___radd__.binds (ps := ["self", "other"]) fun _ _ _ _ _ _ us hl => match us, hl with | [_, _], _ => rfl
  have F_is_share := Hx.fun_of D_is_share
  have b_is_share := F_is_share.binds (ps := ["thing"]) fun _ _ _ _ _ _ us hl => match us, hl with | [_], _ => rfl
  have F_share_of := Hx.fun_of D_share_of
  have b_share_of := F_share_of.binds (ps := ["thing"]) fun _ _ _ _ _ _ us hl => match us, hl with | [_], _ => rfl
  have F__law_read := Hx.fun_of D__law_read
  have b__law_read := F__law_read.binds (ps := ["_law_text"]) fun _ _ _ _ _ _ us hl => match us, hl with | [_], _ => rfl
  have F_read := Hx.fun_of D_read
  have b_read := F_read.binds (ps := ["text"]) fun _ _ _ _ _ _ us hl => match us, hl with | [_], _ => rfl
  have F_Chain___init__ := Hx.fun_of D_Chain___init__
  have b_Chain___init__ := F_Chain___init__.binds (ps := ["self", "rows", "labels"]) fun _ _ _ _ _ _ us hl => match us, hl with | [_, _, _], _ => rfl
  have F_is_spread := Hx.fun_of D_is_spread
  have b_is_spread := F_is_spread.binds (ps := ["many", "thing"]) fun _ _ _ _ _ _ us hl => match us, hl with | [_, _], _ => rfl
  have F_is_tuple_of := Hx.fun_of D_is_tuple_of
  have b_is_tuple_of := F_is_tuple_of.binds (ps := ["many", "thing"]) fun _ _ _ _ _ _ us hl => match us, hl with | [_, _], _ => rfl
  have F_is_from_zero := Hx.fun_of D_is_from_zero
  have b_is_from_zero := F_is_from_zero.binds (ps := ["thing"]) fun _ _ _ _ _ _ us hl => match us, hl with | [_], _ => rfl
  have F_Share_less := Hx.fun_of D_Share_less
  have b_Share_less := F_Share_less.binds (ps := ["self", "other"]) fun _ _ _ _ _ _ us hl => match us, hl with | [_, _], _ => rfl
  have F_total := Hx.fun_of D_total
  have b_total := F_total.binds (ps := ["row"]) fun _ _ _ _ _ _ us hl => match us, hl with | [_], _ => rfl
  have F_is_tuple_between := Hx.fun_of D_is_tuple_between
  have b_is_tuple_between := F_is_tuple_between.binds (ps := ["least", "most", "thing"]) fun _ _ _ _ _ _ us hl => match us, hl with | [_, _, _], _ => rfl
  have F_is_name_row := Hx.fun_of D_is_name_row
  have b_is_name_row := F_is_name_row.binds (ps := ["many", "thing"]) fun _ _ _ _ _ _ us hl => match us, hl with | [_, _], _ => rfl
  have F_is_name := Hx.fun_of D_is_name
  have b_is_name := F_is_name.binds (ps := ["thing"]) fun _ _ _ _ _ _ us hl => match us, hl with | [_], _ => rfl
  have F_shares_of := Hx.fun_of D_shares_of
  have b_shares_of := F_shares_of.binds (ps := ["row"]) fun _ _ _ _ _ _ us hl => match us, hl with | [_], _ => rfl
  have F_BadText___init__ := Hx.fun_of D_BadText___init__
  have b_BadText___init__ := F_BadText___init__.binds (ps := ["self", "line"]) fun _ _ _ _ _ _ us hl => match us, hl with | [_, _], _ => rfl
  have F_text_rows := Hx.fun_of D_text_rows
  have b_text_rows := F_text_rows.binds (ps := ["text"]) fun _ _ _ _ _ _ us hl => match us, hl with | [_], _ => rfl
  have F_told_row := Hx.fun_of D_told_row
  have b_told_row := F_told_row.binds (ps := ["row"]) fun _ _ _ _ _ _ us hl => match us, hl with | [_], _ => rfl
  have F_told_share := Hx.fun_of D_told_share
  have b_told_share := F_told_share.binds (ps := ["word"]) fun _ _ _ _ _ _ us hl => match us, hl with | [_], _ => rfl
  have F_Share___str__ := Hx.fun_of D_Share___str__
  have b_Share___str__ := F_Share___str__.binds (ps := ["self"]) fun _ _ _ _ _ _ us hl => match us, hl with | [_], _ => rfl
  have F_digits := Hx.fun_of D_digits
  have b_digits := F_digits.binds (ps := ["number"]) fun _ _ _ _ _ _ us hl => match us, hl with | [_], _ => rfl
  have F_is_number_word := Hx.fun_of D_is_number_word
  have b_is_number_word := F_is_number_word.binds (ps := ["word"]) fun _ _ _ _ _ _ us hl => match us, hl with | [_], _ => rfl
  have F__law_same := Hx.fun_of D__law_same
  have b__law_same := F__law_same.binds (ps := ["_law_one", "_law_other"]) fun _ _ _ _ _ _ us hl => match us, hl with | [_, _], _ => rfl
  have x0 : Bn mg := { n_isinstance := q0, n_int := q1, n_bool := q2, n_abs := q3, n_len := q4, n_str := q5, n_divmod := q6, n_ValueError := q7 }
  have x1 : Bm mg := { b := x0, n_list := q8, n_tuple := q9, n_range := q10, n_sum := q11, n_min := q12, n_max := q13, n_all := q14 }
  have x2 : Cls K c_Chain := { pg := q15, hd := q16, po := q17, sa := q18 }
  have x3 : InsT K c_Chain := { cl := x2, ha := q19, hn := q20, htk := q21, hm := q22, kint := q23, kbool := q24, kself := q25, oint := q26, obool := q27, onon := q28, ostr := q29, olst := q30, otup := q31, odct := q32 }
  have x4 : ChT K mg c_Chain := { it := x3, nS := q33, nR := q34, nL := q35, gC := q36, gM := q37 }
  have x5 : Mk K c_Share f_Share___init__ := { makes := q38, init := q39, fn := q40, kp := q41 }
  have x6 : Cls K c_Share := { pg := q42, hd := q43, po := q44, sa := q45 }
  have x7 : InsT K c_Share := { cl := x6, ha := q46, hn := q20, htk := q21, hm := q47, kint := q48, kbool := q49, kself := q50, oint := q51, obool := q52, onon := q53, ostr := q54, olst := q55, otup := q56, odct := q57 }
  have x8 : ShT K mg c_Share := { bn := x0, it := x7, nT := q58, nB := q59, g_gcd := q60, g_Share := q61 }
  have x9 : ClsFn K c_WalkError (.type "type") "__init__" f_WalkError___init__ := { rd := q69, ga := q70, at_ := q71, kp := q72 }
  have x10 : FnOk P w K mg base CX0 1 f_WalkError___init__ fd_WalkError___init__ ["self", "words"] (spWE K) := (ok_WE F_WalkError___init__ x0 q73)
  have x11 : FnOk P w K mg base CX0 2 f_BadShare___init__ fd_BadShare___init__ ["self", "top", "bottom"] (spBS K c_BadShare) := (ok_BS F_BadShare___init__ q68 x9 x10 b2_WalkError___init__)
  have x12 : ∃ (fI : Addr) (fd : FuncData), PySem.W.findIn K (.ref c_BadShare) "__init__" = some (some (.ref fI)) ∧ PySem.W.typeIn K (.ref fI) = some (.type "function") ∧ FnOk P w K mg base CX0 2 fI fd ["self", "top", "bottom"] (spBS K c_BadShare) ∧ Binds K fd ["self", "top", "bottom"] [] := ⟨_, _, q66, q67, x11, b_BadShare___init__⟩
  have x13 : BsT P w K mg base c_BadShare := { O := q62, nt := q63, nb := q64, gB := q65, made := x12 }
  have x14 : FnOk P w K mg base CX0 1 f_is_whole fd_is_whole ["thing"] (spWhole K c_Share) := (ok_is_whole F_is_whole x0 x7)
  have x15 : Cal P w K mg base 1 "is_whole" ["thing"] (spWhole K c_Share) := ⟨_, _, q74, q75, x14, b_is_whole⟩
  have x16 : FnOk P w K mg base (L2.CX P w) 4 f_Share___init__ fd_Share___init__ ["self", "top", "bottom"] (spSI K c_Share c_BadShare) := (ok_SI F_Share___init__ x8 x13 x15)
  have x17 : ∃ (f : Addr) (fd : FuncData) (ds : List Value), Mk K c_Share f ∧ FnOk P w K mg base (L2.CX P w) 4 f fd ["self", "top", "bottom"] (spSI K c_Share c_BadShare) ∧ Binds K fd ["self", "top", "bottom"] [] ∧ Vals [.int 1] ds ∧ Binds K fd ["self", "top", "bottom"] ds := ⟨_, _, _, x5, x16, b2_Share___init__, v1_Share___init__, b1_Share___init__⟩
  have x18 : MkT P w K mg base c_Share c_BadShare := { ex := x17, gS := q61 }
  have x19 : OC.OwnQ K c_Share f_Share___eq__ := { eq := q76, ne := q77, ob := q47, fn := q78 }
  have x20 : OwnT K c_Share f_Share___eq__ := { q := x19, sint := q79, sbool := q80, snon := q81, sstr := q82, slst := q83, stup := q84, sdct := q85 }
  have x21 : FnOk P w K mg base CX0 2 f_Share___eq__ fd_Share___eq__ ["self", "other"] (spOwn (EqS K c_Share)) := (ok_eq F_Share___eq__ x8 x15)
  have x22 : ∃ (f : Addr) (fd : FuncData), OwnT K c_Share f ∧ FnOk P w K mg base CX0 2 f fd ["self", "other"] (spOwn (EqS K c_Share)) ∧ Binds K fd ["self", "other"] [] := ⟨_, _, x20, x21, b_Share___eq__⟩
  have x23 : EqT P w K mg base c_Share := { ex := x22 }
  have x24 : Meth K c_Chain "label" f_Chain_label := { at_ := q86, fn := q87, kp := q88 }
  have x25 : FnOk P w K mg base CX0 1 f_is_whole fd_is_whole ["thing"] (spWhole2 K c_Share c_Chain) := (ok_is_whole2 F_is_whole x0 x7 x3)
  have x26 : Cal P w K mg base 1 "is_whole" ["thing"] (spWhole2 K c_Share c_Chain) := ⟨_, _, q74, q75, x25, b_is_whole⟩
  have x27 : FnOk P w K mg base CX0 2 f_is_between fd_is_between ["least", "most", "thing"] (spBetween K c_Share c_Chain) := (ok_is_between F_is_between x26)
  have x28 : Cal P w K mg base 2 "is_between" ["least", "most", "thing"] (spBetween K c_Share c_Chain) := ⟨_, _, q89, q90, x27, b_is_between⟩
  have x29 : FnOk P w K mg base CX0 3 f_is_index fd_is_index ["many", "thing"] (spIndex K c_Share c_Chain) := (ok_is_index F_is_index x28)
  have x30 : Cal P w K mg base 3 "is_index" ["many", "thing"] (spIndex K c_Share c_Chain) := ⟨_, _, q91, q92, x29, b_is_index⟩
  have x31 : FnOk P w K mg base CX0 2 f_NoState___init__ fd_NoState___init__ ["self", "state"] (spNS K c_NoState) := (ok_NS F_NoState___init__ q68 x9 x10 b2_WalkError___init__)
  have x32 : ∃ (fI : Addr) (fd : FuncData), PySem.W.findIn K (.ref c_NoState) "__init__" = some (some (.ref fI)) ∧ PySem.W.typeIn K (.ref fI) = some (.type "function") ∧ FnOk P w K mg base CX0 2 fI fd ["self", "state"] (spNS K c_NoState) ∧ Binds K fd ["self", "state"] [] := ⟨_, _, q94, q95, x31, b_NoState___init__⟩
  have x33 : NsT P w K mg base c_NoState := { O := q96, nf := q97, gB := q93, made := x32 }
  have x34 : FnOk P w K mg base (L2.CX P w) 4 f_check_state fd_check_state ["size", "state"] (spCheck K c_Share c_Chain c_NoState) := (ok_check F_check_state x30 x33)
  have x35 : CalX P w K mg base 4 "check_state" ["size", "state"] (spCheck K c_Share c_Chain c_NoState) := ⟨_, _, q98, q99, x34, b_check_state⟩
  have x36 : FnOk P w K mg base CX0 5 f_Chain_label fd_Chain_label ["self", "state"] (spChLabel c_Share c_Chain) := (ok_chlabel F_Chain_label x4 x35)
  have x37 : ∃ (f : Addr) (fd : FuncData), Meth K c_Chain "label" f ∧ FnOk P w K mg base CX0 5 f fd ["self", "state"] (spChLabel c_Share c_Chain) ∧ Binds K fd ["self", "state"] [] := ⟨_, _, x24, x36, b_Chain_label⟩
  have x38 : LabT P w K mg base c_Share c_Chain := { ex := x37 }
  have x39 : Meth K c_Chain "row" f_Chain_row := { at_ := q100, fn := q101, kp := q102 }
  have x40 : FnOk P w K mg base CX0 5 f_Chain_row fd_Chain_row ["self", "state"] (spChRow c_Share c_Chain) := (ok_chrow F_Chain_row x4 x35)
  have x41 : ∃ (f : Addr) (fd : FuncData), Meth K c_Chain "row" f ∧ FnOk P w K mg base CX0 5 f fd ["self", "state"] (spChRow c_Share c_Chain) ∧ Binds K fd ["self", "state"] [] := ⟨_, _, x39, x40, b_Chain_row⟩
  have x42 : RowT P w K mg base c_Share c_Chain := { ex := x41 }
  have x43 : FnOk P w K mg base CX0 1 f__law_pool fd__law_pool ["_law_script"] (spPool K) := (ok_pool F__law_pool x0)
  have x44 : Cal P w K mg base 1 "_law_pool" ["_law_script"] (spPool K) := ⟨_, _, q104, q105, x43, b__law_pool⟩
  have x45 : FnOk P w K mg base CX0 1 f__law_draw fd__law_draw ["_law_pool_here", "_law_many"] spDraw := (ok_draw F__law_draw x0)
  have x46 : Cal P w K mg base 1 "_law_draw" ["_law_pool_here", "_law_many"] spDraw := ⟨_, _, q106, q107, x45, b__law_draw⟩
  have x47 : FnOk P w K mg base CX0 2 f__law_pick fd__law_pick ["_law_pool_here", "_law_things"] spPickQ := (ok_pickQ F__law_pick x0 x46)
  have x48 : Cal P w K mg base 2 "_law_pick" ["_law_pool_here", "_law_things"] spPickQ := ⟨_, _, q108, q109, x47, b__law_pick⟩
  have x49 : FnOk P w K mg base CX0 2 f__law_size fd__law_size ["_law_pool_here", "_law_most"] spSize := (ok_size F__law_size x1 x46)
  have x50 : Cal P w K mg base 2 "_law_size" ["_law_pool_here", "_law_most"] spSize := ⟨_, _, q110, q111, x49, b__law_size⟩
  have x51 : FnOk P w K mg base CX0 2 f__law_tops fd__law_tops ["_law_pool_here", "_law_size_here"] spTops := (ok_tops F__law_tops x1 x46)
  have x52 : Cal P w K mg base 2 "_law_tops" ["_law_pool_here", "_law_size_here"] spTops := ⟨_, _, q112, q113, x51, b__law_tops⟩
  have x53 : FnOk P w K mg base CX0 2 f__law_moved_bit fd__law_moved_bit ["_law_pool_here", "_law_tops_here"] spMoved := (ok_moved F__law_moved_bit x1 x46)
  have x54 : Cal P w K mg base 2 "_law_moved_bit" ["_law_pool_here", "_law_tops_here"] spMoved := ⟨_, _, q114, q115, x53, b__law_moved_bit⟩
  have x55 : FnOk P w K mg base CX0 3 f__law_rows_alike fd__law_rows_alike ["_law_pool_here", "_law_size_here"] spRowsG := (ok_alike F__law_rows_alike x1 x46 x48 x52 x54)
  have x56 : Cal P w K mg base 3 "_law_rows_alike" ["_law_pool_here", "_law_size_here"] spRowsG := ⟨_, _, q116, q117, x55, b__law_rows_alike⟩
  have x57 : FnOk P w K mg base CX0 3 f__law_rows_turning fd__law_rows_turning ["_law_pool_here", "_law_size_here"] spRowsG := (ok_turning F__law_rows_turning x1 x46)
  have x58 : Cal P w K mg base 3 "_law_rows_turning" ["_law_pool_here", "_law_size_here"] spRowsG := ⟨_, _, q118, q119, x57, b__law_rows_turning⟩
  have x59 : FnOk P w K mg base CX0 3 f__law_rows_parted fd__law_rows_parted ["_law_pool_here", "_law_size_here"] spRowsG := (ok_parted F__law_rows_parted x1 x46 x52)
  have x60 : Cal P w K mg base 3 "_law_rows_parted" ["_law_pool_here", "_law_size_here"] spRowsG := ⟨_, _, q120, q121, x59, b__law_rows_parted⟩
  have x61 : FnOk P w K mg base CX0 4 f__law_rows fd__law_rows ["_law_pool_here", "_law_size_here"] spRowsG := (ok_rows F__law_rows x1 x46 x52 x56 x58 x60)
  have x62 : Cal P w K mg base 4 "_law_rows" ["_law_pool_here", "_law_size_here"] spRowsG := ⟨_, _, q122, q123, x61, b__law_rows⟩
  have x63 : FnOk P w K mg base CX0 6 f__law_spread fd__law_spread ["_law_tops_here"] (spSpreadL c_Share) := (ok_spreadL F__law_spread x1 x18)
  have x64 : Cal P w K mg base 6 "_law_spread" ["_law_tops_here"] (spSpreadL c_Share) := ⟨_, _, q124, q125, x63, b__law_spread⟩
  have x65 : FnOk P w K mg base CX0 2 f__law_name fd__law_name ["_law_pool_here", "_law_taken"] spName := (ok_name F__law_name x1 x46)
  have x66 : Cal P w K mg base 2 "_law_name" ["_law_pool_here", "_law_taken"] spName := ⟨_, _, q126, q127, x65, b__law_name⟩
  have x67 : FnOk P w K mg base CX0 3 f__law_labels fd__law_labels ["_law_pool_here", "_law_size_here"] spLabels := (ok_labels F__law_labels x1 x46 x66)
  have x68 : Cal P w K mg base 3 "_law_labels" ["_law_pool_here", "_law_size_here"] spLabels := ⟨_, _, q128, q129, x67, b__law_labels⟩
  have x69 : FnOk P w K mg base CX0 1 f__law_write fd__law_write ["_law_share"] (spWrite c_Share) := (ok_write F__law_write x8)
  have x70 : Cal P w K mg base 1 "_law_write" ["_law_share"] (spWrite c_Share) := ⟨_, _, q130, q131, x69, b__law_write⟩
  have x71 : FnOk P w K mg base CX0 1 f__law_are_digits fd__law_are_digits ["_law_word_here"] spAreDigits := (ok_ared F__law_are_digits x1)
  have x72 : Cal P w K mg base 1 "_law_are_digits" ["_law_word_here"] spAreDigits := ⟨_, _, q132, q133, x71, b__law_are_digits⟩
  have x73 : FnOk P w K mg base CX0 1 f__law_divisor fd__law_divisor ["_law_one", "_law_other"] spDivisor := (ok_div F__law_divisor x1)
  have x74 : Cal P w K mg base 1 "_law_divisor" ["_law_one", "_law_other"] spDivisor := ⟨_, _, q134, q135, x73, b__law_divisor⟩
  have x75 : FnOk P w K mg base CX0 6 f__law_word fd__law_word ["_law_word_here"] (spWordL c_Share) := (ok_wd F__law_word x1 x18 x72 x74)
  have x76 : Cal P w K mg base 6 "_law_word" ["_law_word_here"] (spWordL c_Share) := ⟨_, _, q136, q137, x75, b__law_word⟩
  have x77 : FnOk P w K mg base CX0 7 f__law_other_word fd__law_other_word ["_law_pool_here", "_law_word_here"] spOtherW := (ok_ow F__law_other_word x8 x46 x48 x76)
  have x78 : Cal P w K mg base 7 "_law_other_word" ["_law_pool_here", "_law_word_here"] spOtherW := ⟨_, _, q138, q139, x77, b__law_other_word⟩
  have x79 : FnOk P w K mg base CX0 8 f__law_other_line fd__law_other_line ["_law_pool_here", "_law_line_here"] spOtherL := (ok_ol F__law_other_line x1 x46 x48 x78)
  have x80 : Cal P w K mg base 8 "_law_other_line" ["_law_pool_here", "_law_line_here"] spOtherL := ⟨_, _, q140, q141, x79, b__law_other_line⟩
  have x81 : FnOk P w K mg base CX0 9 f__law_other_text fd__law_other_text ["_law_pool_here", "_law_lines"] spOtherT := (ok_ot F__law_other_text x1 x46 x48 x80)
  have x82 : Cal P w K mg base 9 "_law_other_text" ["_law_pool_here", "_law_lines"] spOtherT := ⟨_, _, q142, q143, x81, b__law_other_text⟩
  have x83 : NoTxt K c_Share := { str := q82, byt := q145, bar := q146 }
  have x84 : ArL K c_Share .Add "+" "add" f_Share___add__ := { hi := rfl, hc := q147, hs := q148, hf := q149 }
  have x85 : ArR K c_Share "add" f_Share___radd__ := { hr := q150, hg := q151, ho := q152, hn := PySem.F.fills_int_add, up := q153, dn := q79, dec := ⟨_, PySem.F.slot_int_add, OA.dec_add⟩ }
  have x86 : FnOk P w K mg base CX0 2 f_is_share fd_is_share ["thing"] (spIsShare K c_Share) := (ok_is_share F_is_share x8 x15)
  have x87 : Cal P w K mg base 2 "is_share" ["thing"] (spIsShare K c_Share) := ⟨_, _, q154, q155, x86, b_is_share⟩
  have x88 : FnOk P w K mg base CX0 6 f_share_of fd_share_of ["thing"] (spShareOf c_Share) := (ok_share_of F_share_of x8 x18)
  have x89 : Cal P w K mg base 6 "share_of" ["thing"] (spShareOf c_Share) := ⟨_, _, q156, q157, x88, b_share_of⟩
  have x90 : FnOk P w K mg base CX0 7 f_Share___add__ fd_Share___add__ ["self", "other"] (spAdd c_Share) := (ok_add F_Share___add__ x8 x18 x87 x89)
  have x91 : ∃ (f g : Addr) (fd : FuncData), ArL K c_Share .Add "+" "add" f ∧ ArR K c_Share "add" g ∧ FnOk P w K mg base CX0 7 f fd ["self", "other"] (spAdd c_Share) ∧ Binds K fd ["self", "other"] [] := ⟨_, _, _, x84, x85, x90, b_Share___add__⟩
  have x92 : ArTL P w K mg base c_Share .Add "+" "add" 7 (spAdd c_Share) := { ex := x91 }
  have x93 : FnOk P w K mg base CX0 8 f_Share___radd__ fd_Share___radd__ ["self", "other"] (spRadd c_Share) := (ok_radd F_Share___radd__ x15 x92)
  have x94 : ∃ (f g : Addr) (fd gd : FuncData), ArL K c_Share .Add "+" "add" f ∧ ArR K c_Share "add" g ∧ FnOk P w K mg base CX0 7 f fd ["self", "other"] (spAdd c_Share) ∧ Binds K fd ["self", "other"] [] ∧ FnOk P w K mg base CX0 8 g gd ["self", "other"] (spRadd c_Share) ∧ Binds K gd ["self", "other"] [] := ⟨_, _, _, _, x84, x85, x90, b_Share___add__, x93, b_Share___radd__⟩
  have x95 : ArT P w K mg base c_Share .Add "+" "add" 7 8 (spAdd c_Share) (spRadd c_Share) := { ex := x94 }
  have x96 : FnOk P w K mg base CX0 10 f__law_line fd__law_line ["_law_line_here"] (spLineL c_Share) := (ok_ln F__law_line x1 q11 q144 x18 x83 x95 x23 x76)
  have x97 : Cal P w K mg base 10 "_law_line" ["_law_line_here"] (spLineL c_Share) := ⟨_, _, q158, q159, x96, b__law_line⟩
  have x98 : FnOk P w K mg base CX0 11 f__law_due fd__law_due ["_law_text"] (spDueL c_Share) := (ok_due F__law_due x1 q10 x97)
  have x99 : Cal P w K mg base 11 "_law_due" ["_law_text"] (spDueL c_Share) := ⟨_, _, q160, q161, x98, b__law_due⟩
  have x100 : XfC K c_BadText := { ga := q163, gg := q164, exC := q165, hdC := q166 }
  have x101 : BtC K mg c_BadText := { xf := x100, xm := q167, ns := q168, gB := q162 }
  have x102 : Mk K c_Chain f_Chain___init__ := { makes := q170, init := q171, fn := q172, kp := q173 }
  have x103 : FnOk P w K mg base CX0 1 f_is_tuple_of fd_is_tuple_of ["many", "thing"] (spTupOf K c_Share) := (ok_tupOf F_is_tuple_of x8 q9 q174)
  have x104 : Cal P w K mg base 1 "is_tuple_of" ["many", "thing"] (spTupOf K c_Share) := ⟨_, _, q175, q176, x103, b_is_tuple_of⟩
  have x105 : Meth K c_Share "less" f_Share_less := { at_ := q177, fn := q178, kp := q179 }
  have x106 : FnOk P w K mg base CX0 7 f_Share_less fd_Share_less ["self", "other"] (spLess c_Share) := (ok_sless F_Share_less x8 x89)
  have x107 : ∃ (f : Addr) (fd : FuncData), Meth K c_Share "less" f ∧ FnOk P w K mg base CX0 7 f fd ["self", "other"] (spLess c_Share) ∧ Binds K fd ["self", "other"] [] := ⟨_, _, x105, x106, b_Share_less⟩
  have x108 : LsT P w K mg base c_Share := { ex := x107 }
  have x109 : FnOk P w K mg base CX0 8 f_is_from_zero fd_is_from_zero ["thing"] (spFrom0 K c_Share) := (ok_from0 F_is_from_zero x8 x87 x89 x108)
  have x110 : Cal P w K mg base 8 "is_from_zero" ["thing"] (spFrom0 K c_Share) := ⟨_, _, q180, q181, x109, b_is_from_zero⟩
  have x111 : FnOk P w K mg base CX0 10 f_total fd_total ["row"] (spTotal K c_Share) := (ok_total F_total x18 x83 q11 x95)
  have x112 : Cal P w K mg base 10 "total" ["row"] (spTotal K c_Share) := ⟨_, _, q182, q183, x111, b_total⟩
  have x113 : FnOk P w K mg base CX0 11 f_is_spread fd_is_spread ["many", "thing"] (spSpread K c_Share) := (ok_spread F_is_spread q14 x104 x110 x112 x23)
  have x114 : Cal P w K mg base 11 "is_spread" ["many", "thing"] (spSpread K c_Share) := ⟨_, _, q184, q185, x113, b_is_spread⟩
  have x115 : FnOk P w K mg base CX0 1 f_is_tuple_between fd_is_tuple_between ["least", "most", "thing"] spTupBet := (ok_tupBet F_is_tuple_between x1)
  have x116 : Cal P w K mg base 1 "is_tuple_between" ["least", "most", "thing"] spTupBet := ⟨_, _, q186, q187, x115, b_is_tuple_between⟩
  have x117 : FnOk P w K mg base CX0 1 f_is_name fd_is_name ["thing"] spIsName := (ok_is_name F_is_name x1 q188)
  have x118 : Cal P w K mg base 1 "is_name" ["thing"] spIsName := ⟨_, _, q189, q190, x117, b_is_name⟩
  have x119 : FnOk P w K mg base CX0 2 f_is_name_row fd_is_name_row ["many", "thing"] spNameRow := (ok_nameRow F_is_name_row x1 x104 x118)
  have x120 : Cal P w K mg base 2 "is_name_row" ["many", "thing"] spNameRow := ⟨_, _, q191, q192, x119, b_is_name_row⟩
  have x121 : FnOk P w K mg base CX0 7 f_shares_of fd_shares_of ["row"] (spSharesOf c_Share) := (ok_shares_of F_shares_of x1 x89)
  have x122 : Cal P w K mg base 7 "shares_of" ["row"] (spSharesOf c_Share) := ⟨_, _, q193, q194, x121, b_shares_of⟩
  have x123 : FnOk P w K mg base CX0 12 f_Chain___init__ fd_Chain___init__ ["self", "rows", "labels"] (spCI c_Share c_Chain) := (ok_CI F_Chain___init__ x1 x4 x114 x116 x120 x122)
  have x124 : ∃ (f : Addr) (fd : FuncData), Mk K c_Chain f ∧ FnOk P w K mg base CX0 12 f fd ["self", "rows", "labels"] (spCI c_Share c_Chain) ∧ Binds K fd ["self", "rows", "labels"] [] := ⟨_, _, x102, x123, b_Chain___init__⟩
  have x125 : MkC P w K mg base c_Share c_Chain := { ex := x124, gC := q36 }
  have x126 : FnOk P w K mg base CX0 2 f_BadText___init__ fd_BadText___init__ ["self", "line"] (spBT K c_BadText) := (ok_BT F_BadText___init__ q68 x9 x10 b2_WalkError___init__)
  have x127 : ∃ (fI : Addr) (fd : FuncData), PySem.W.findIn K (.ref c_BadText) "__init__" = some (some (.ref fI)) ∧ PySem.W.typeIn K (.ref fI) = some (.type "function") ∧ FnOk P w K mg base CX0 2 fI fd ["self", "line"] (spBT K c_BadText) ∧ Binds K fd ["self", "line"] [] := ⟨_, _, q196, q197, x126, b_BadText___init__⟩
  have x128 : BtxT P w K mg base c_BadText := { O := q195, nf := q168, gB := q162, made := x127 }
  have x129 : FnOk P w K mg base (L2.CX P w) 4 f_text_rows fd_text_rows ["text"] (spTRows K c_BadText) := (ok_trowsG F_text_rows x1 x128)
  have x130 : CalX P w K mg base 4 "text_rows" ["text"] (spTRows K c_BadText) := ⟨_, _, q198, q199, x129, b_text_rows⟩
  have x131 : FnOk P w K mg base CX0 1 f_is_name fd_is_name ["thing"] spIsNameG := (ok_is_nameG F_is_name x1 q188)
  have x132 : Cal P w K mg base 1 "is_name" ["thing"] spIsNameG := ⟨_, _, q189, q190, x131, b_is_name⟩
  obtain ⟨tk_BLOCK, y_BLOCK⟩ := q202
  have x134 : FnOk P w K mg base CX0 1 f_digits fd_digits ["number"] spDigL := (ok_digits F_digits x1 y_BLOCK)
  have x135 : Cal P w K mg base 1 "digits" ["number"] spDigL := ⟨_, _, q203, q204, x134, b_digits⟩
  have x136 : FnOk P w K mg base CX0 2 f_Share___str__ fd_Share___str__ ["self"] (spStrL c_Share) := (ok_str F_Share___str__ x8 x135)
  have x137 : ∃ (f : Addr) (fd : FuncData), PySem.W.findIn K (.ref c_Share) "__str__" = some (some (.ref f)) ∧ PySem.W.isFn K (.ref f) = true ∧ FnOk P w K mg base CX0 2 f fd ["self"] (spStrL c_Share) ∧ Binds K fd ["self"] [] := ⟨_, _, q200, q201, x136, b_Share___str__⟩
  have x138 : StrT P w K mg base c_Share := { ex := x137 }
  have x139 : DgG mg := { gM := q205, gD := q206 }
  have x140 : FnOk P w K mg base CX0 1 f_is_number_word fd_is_number_word ["word"] spNumWordG := (ok_numwG F_is_number_word x1 x139)
  have x141 : Cal P w K mg base 1 "is_number_word" ["word"] spNumWordG := ⟨_, _, q207, q208, x140, b_is_number_word⟩
  have x142 : FnOk P w K mg base CX0 6 f_told_share fd_told_share ["word"] (spToldG c_Share) := (ok_toldG F_told_share x1 x18 x138 x141)
  have x143 : Cal P w K mg base 6 "told_share" ["word"] (spToldG c_Share) := ⟨_, _, q209, q210, x142, b_told_share⟩
  have x144 : FnOk P w K mg base CX0 12 f_told_row fd_told_row ["row"] (spToldRowG c_Share) := (ok_trowG F_told_row x1 x4 x132 x143 x114)
  have x145 : Cal P w K mg base 12 "told_row" ["row"] (spToldRowG c_Share) := ⟨_, _, q211, q212, x144, b_told_row⟩
  have x146 : FnOk P w K mg base (L2.CX P w) 14 f_read fd_read ["text"] (spReadG K c_Share c_Chain c_BadText) := (ok_readG F_read x1 q169 x125 x128 x130 x145)
  have x147 : CalX P w K mg base 14 "read" ["text"] (spReadG K c_Share c_Chain c_BadText) := ⟨_, _, q213, q214, x146, b_read⟩
  have x148 : FnOk P w K mg base CX0 15 f__law_read fd__law_read ["_law_text"] (spReadL K c_Share c_Chain) := (ok_lread F__law_read x101 x147)
  have x149 : Cal P w K mg base 15 "_law_read" ["_law_text"] (spReadL K c_Share c_Chain) := ⟨_, _, q215, q216, x148, b__law_read⟩
  have x150 : FnOk P w K mg base CX0 1 f__law_same fd__law_same ["_law_one", "_law_other"] spSameI := (ok_same F__law_same x0)
  have x151 : Cal P w K mg base 1 "_law_same" ["_law_one", "_law_other"] spSameI := ⟨_, _, q217, q218, x150, b__law_same⟩
  have x152 : LawT P w K mg base c_Share c_Chain c_BadShare := { T := x1, t := x4, m := x18, it := x7, eq := x23, lab := x38, row := x42, ks := q103, n_list := q8, pool := x44, pick := x48, size := x50, rows := x62, spread := x64, labels := x68, write := x70, other := x82, due := x99, read := x149, same := x151 }
  exact ok_law F_law x152
end KJ
set_option Elab.async false
set_option linter.all false
set_option maxRecDepth 100000
set_option maxHeartbeats 0
namespace KJ
open PySem PySem.W PySem.Calls PyProof.Rows L2
def hd0 : He.DefD := ⟨("law", none), "law", "law", defArgs s_law, defBody s_law, defScope s_law, [], []⟩
def hd1 : He.DefD := ⟨("Share", some "__init__"), "__init__", "Share.__init__", defArgs s_SI, defBody s_SI, defScope s_SI, [.int 1], []⟩
def hd2 : He.DefD := ⟨("BadShare", some "__init__"), "__init__", "BadShare.__init__", defArgs s_BS, defBody s_BS, defScope s_BS, [], []⟩
def hd3 : He.DefD := ⟨("WalkError", some "__init__"), "__init__", "WalkError.__init__", defArgs s_WE, defBody s_WE, defScope s_WE, [.str "the package was asked for what it cannot do"], []⟩
def hd4 : He.DefD := ⟨("is_whole", none), "is_whole", "is_whole", defArgs s_is_whole, defBody s_is_whole, defScope s_is_whole, [], []⟩
def hd5 : He.DefD := ⟨("Share", some "__eq__"), "__eq__", "Share.__eq__", defArgs s_eq, defBody s_eq, defScope s_eq, [], []⟩
def hd6 : He.DefD := ⟨("Chain", some "label"), "label", "Chain.label", defArgs s_chlabel, defBody s_chlabel, defScope s_chlabel, [], []⟩
def hd7 : He.DefD := ⟨("check_state", none), "check_state", "check_state", defArgs s_check, defBody s_check, defScope s_check, [], []⟩
def hd8 : He.DefD := ⟨("is_index", none), "is_index", "is_index", defArgs s_is_index, defBody s_is_index, defScope s_is_index, [], []⟩
def hd9 : He.DefD := ⟨("is_between", none), "is_between", "is_between", defArgs s_is_between, defBody s_is_between, defScope s_is_between, [], []⟩
def hd10 : He.DefD := ⟨("NoState", some "__init__"), "__init__", "NoState.__init__", defArgs s_NS, defBody s_NS, defScope s_NS, [], []⟩
def hd11 : He.DefD := ⟨("Chain", some "row"), "row", "Chain.row", defArgs s_chrow, defBody s_chrow, defScope s_chrow, [], []⟩
def hd12 : He.DefD := ⟨("_law_pool", none), "_law_pool", "_law_pool", defArgs s_pool, defBody s_pool, defScope s_pool, [], []⟩
def hd13 : He.DefD := ⟨("_law_pick", none), "_law_pick", "_law_pick", defArgs s_pick, defBody s_pick, defScope s_pick, [], []⟩
def hd14 : He.DefD := ⟨("_law_draw", none), "_law_draw", "_law_draw", defArgs s_draw, defBody s_draw, defScope s_draw, [], []⟩
def hd15 : He.DefD := ⟨("_law_size", none), "_law_size", "_law_size", defArgs s_size, defBody s_size, defScope s_size, [], []⟩
def hd16 : He.DefD := ⟨("_law_rows", none), "_law_rows", "_law_rows", defArgs s_rows, defBody s_rows, defScope s_rows, [], []⟩
def hd17 : He.DefD := ⟨("_law_tops", none), "_law_tops", "_law_tops", defArgs s_tops, defBody s_tops, defScope s_tops, [], []⟩
def hd18 : He.DefD := ⟨("_law_rows_alike", none), "_law_rows_alike", "_law_rows_alike", defArgs s_alike, defBody s_alike, defScope s_alike, [], []⟩
def hd19 : He.DefD := ⟨("_law_moved_bit", none), "_law_moved_bit", "_law_moved_bit", defArgs s_moved, defBody s_moved, defScope s_moved, [], []⟩
def hd20 : He.DefD := ⟨("_law_rows_turning", none), "_law_rows_turning", "_law_rows_turning", defArgs s_turning, defBody s_turning, defScope s_turning, [], []⟩
def hd21 : He.DefD := ⟨("_law_rows_parted", none), "_law_rows_parted", "_law_rows_parted", defArgs s_parted, defBody s_parted, defScope s_parted, [], []⟩
def hd22 : He.DefD := ⟨("_law_spread", none), "_law_spread", "_law_spread", defArgs s_spreadL, defBody s_spreadL, defScope s_spreadL, [], []⟩
def hd23 : He.DefD := ⟨("_law_labels", none), "_law_labels", "_law_labels", defArgs s_labels, defBody s_labels, defScope s_labels, [], []⟩
def hd24 : He.DefD := ⟨("_law_name", none), "_law_name", "_law_name", defArgs s_name, defBody s_name, defScope s_name, [], []⟩
def hd25 : He.DefD := ⟨("_law_write", none), "_law_write", "_law_write", defArgs s_write, defBody s_write, defScope s_write, [], []⟩
def hd26 : He.DefD := ⟨("_law_other_text", none), "_law_other_text", "_law_other_text", defArgs s_ot, defBody s_ot, defScope s_ot, [], []⟩
def hd27 : He.DefD := ⟨("_law_other_line", none), "_law_other_line", "_law_other_line", defArgs s_ol, defBody s_ol, defScope s_ol, [], []⟩
def hd28 : He.DefD := ⟨("_law_other_word", none), "_law_other_word", "_law_other_word", defArgs s_ow, defBody s_ow, defScope s_ow, [], []⟩
def hd29 : He.DefD := ⟨("_law_word", none), "_law_word", "_law_word", defArgs s_wd, defBody s_wd, defScope s_wd, [], []⟩
def hd30 : He.DefD := ⟨("_law_are_digits", none), "_law_are_digits", "_law_are_digits", defArgs s_ared, defBody s_ared, defScope s_ared, [], []⟩
def hd31 : He.DefD := ⟨("_law_divisor", none), "_law_divisor", "_law_divisor", defArgs s_div, defBody s_div, defScope s_div, [], []⟩
def hd32 : He.DefD := ⟨("_law_due", none), "_law_due", "_law_due", defArgs s_due, defBody s_due, defScope s_due, [], []⟩
def hd33 : He.DefD := ⟨("_law_line", none), "_law_line", "_law_line", defArgs s_ln, defBody s_ln, defScope s_ln, [], []⟩
def hd34 : He.DefD := ⟨("Share", some "__add__"), "__add__", "Share.__add__", defArgs s_add, defBody s_add, defScope s_add, [], []⟩
def hd35 : He.DefD := ⟨("Share", some "__radd__"), "__radd__", "Share.__radd__", defArgs s_radd, defBody s_radd, defScope s_radd, [], []⟩
def hd36 : He.DefD := ⟨("is_share", none), "is_share", "is_share", defArgs s_is_share, defBody s_is_share, defScope s_is_share, [], []⟩
def hd37 : He.DefD := ⟨("share_of", none), "share_of", "share_of", defArgs s_share_of, defBody s_share_of, defScope s_share_of, [], []⟩
def hd38 : He.DefD := ⟨("_law_read", none), "_law_read", "_law_read", defArgs s_lread, defBody s_lread, defScope s_lread, [], []⟩
def hd39 : He.DefD := ⟨("read", none), "read", "read", defArgs s_read, defBody s_read, defScope s_read, [], []⟩
def hd40 : He.DefD := ⟨("Chain", some "__init__"), "__init__", "Chain.__init__", defArgs s_CI, defBody s_CI, defScope s_CI, [], []⟩
def hd41 : He.DefD := ⟨("is_spread", none), "is_spread", "is_spread", defArgs s_spread, defBody s_spread, defScope s_spread, [], []⟩
def hd42 : He.DefD := ⟨("is_tuple_of", none), "is_tuple_of", "is_tuple_of", defArgs s_tupOf, defBody s_tupOf, defScope s_tupOf, [], []⟩
def hd43 : He.DefD := ⟨("is_from_zero", none), "is_from_zero", "is_from_zero", defArgs s_from0, defBody s_from0, defScope s_from0, [], []⟩
def hd44 : He.DefD := ⟨("Share", some "less"), "less", "Share.less", defArgs s_sless, defBody s_sless, defScope s_sless, [], []⟩
def hd45 : He.DefD := ⟨("total", none), "total", "total", defArgs s_total, defBody s_total, defScope s_total, [], []⟩
def hd46 : He.DefD := ⟨("is_tuple_between", none), "is_tuple_between", "is_tuple_between", defArgs s_tupBet, defBody s_tupBet, defScope s_tupBet, [], []⟩
def hd47 : He.DefD := ⟨("is_name_row", none), "is_name_row", "is_name_row", defArgs s_nameRow, defBody s_nameRow, defScope s_nameRow, [], []⟩
def hd48 : He.DefD := ⟨("is_name", none), "is_name", "is_name", defArgs s_is_name, defBody s_is_name, defScope s_is_name, [], []⟩
def hd49 : He.DefD := ⟨("shares_of", none), "shares_of", "shares_of", defArgs s_shares_of, defBody s_shares_of, defScope s_shares_of, [], []⟩
def hd50 : He.DefD := ⟨("BadText", some "__init__"), "__init__", "BadText.__init__", defArgs s_BT, defBody s_BT, defScope s_BT, [], []⟩
def hd51 : He.DefD := ⟨("text_rows", none), "text_rows", "text_rows", defArgs s_trows, defBody s_trows, defScope s_trows, [], []⟩
def hd52 : He.DefD := ⟨("told_row", none), "told_row", "told_row", defArgs s_trow, defBody s_trow, defScope s_trow, [], []⟩
def hd53 : He.DefD := ⟨("told_share", none), "told_share", "told_share", defArgs s_told, defBody s_told, defScope s_told, [], []⟩
def hd54 : He.DefD := ⟨("Share", some "__str__"), "__str__", "Share.__str__", defArgs s_str, defBody s_str, defScope s_str, [], []⟩
def hd55 : He.DefD := ⟨("digits", none), "digits", "digits", defArgs s_digits, defBody s_digits, defScope s_digits, [], []⟩
def hd56 : He.DefD := ⟨("is_number_word", none), "is_number_word", "is_number_word", defArgs s_numw, defBody s_numw, defScope s_numw, [], []⟩
def hd57 : He.DefD := ⟨("_law_same", none), "_law_same", "_law_same", defArgs s_same, defBody s_same, defScope s_same, [], []⟩
def hfn0 : List He.DefD := [hd0, hd1, hd2, hd3, hd4, hd5, hd6, hd7, hd8, hd9, hd10, hd11, hd12, hd13, hd14, hd15, hd16, hd17, hd18, hd19, hd20, hd21, hd22, hd23, hd24, hd25, hd26, hd27, hd28, hd29]
def hfn1 : List He.DefD := [hd30, hd31, hd32, hd33, hd34, hd35, hd36, hd37, hd38, hd39, hd40, hd41, hd42, hd43, hd44, hd45, hd46, hd47, hd48, hd49, hd50, hd51, hd52, hd53, hd54, hd55, hd56, hd57]
def hfn : List He.DefD := hfn0 ++ hfn1
abbrev hg0 (K : PySem.W.Frag) : Prop := ((He.Fa.free "isinstance").ok K = true) ∧ ((He.Fa.free "int").ok K = true) ∧ ((He.Fa.free "bool").ok K = true) ∧ ((He.Fa.free "abs").ok K = true) ∧ ((He.Fa.free "len").ok K = true) ∧ ((He.Fa.free "str").ok K = true) ∧ ((He.Fa.free "divmod").ok K = true) ∧ ((He.Fa.free "ValueError").ok K = true) ∧ ((He.Fa.free "list").ok K = true) ∧ ((He.Fa.free "tuple").ok K = true) ∧ ((He.Fa.free "range").ok K = true) ∧ ((He.Fa.free "sum").ok K = true) ∧ ((He.Fa.free "min").ok K = true) ∧ ((He.Fa.free "max").ok K = true) ∧ ((He.Fa.free "all").ok K = true) ∧ (PySem.W.plainGet K (He.ga K "Chain") Str.empty = true)
abbrev hg1 (K : PySem.W.Frag) : Prop := (PySem.W.hasDictIn K (He.ga K "Chain") = true) ∧ (PySem.W.plainOver K (He.ga K "Chain") = true) ∧ (PySem.W.findIn K (.ref (He.ga K "Chain")) "__setattr__" = some (some (.builtin "object.__setattr__"))) ∧ (PySem.W.findIn K (.ref (He.ga K "Chain")) "__class__" = some (some (.builtin "object.__class__"))) ∧ (PySem.W.specialIn K (.builtin "object.__class__") "__get__" = some (some (.builtin "getset_descriptor.__get__"))) ∧ (PySem.W.takesIn K (.builtin "object.__class__") = some true) ∧ (PySem.W.mroIn K (He.ga K "Chain") (.type "object") = some true) ∧ (PySem.W.kitOne K (.ref (He.ga K "Chain")) (.type "int") = some false) ∧ (PySem.W.kitOne K (.ref (He.ga K "Chain")) (.type "bool") = some false) ∧ (PySem.W.kitOne K (.ref (He.ga K "Chain")) (.ref (He.ga K "Chain")) = some true) ∧ (PySem.W.kitOne K (.type "int") (.ref (He.ga K "Chain")) = some false) ∧ (PySem.W.kitOne K (.type "bool") (.ref (He.ga K "Chain")) = some false) ∧ (PySem.W.kitOne K (.type "NoneType") (.ref (He.ga K "Chain")) = some false) ∧ (PySem.W.kitOne K (.type "str") (.ref (He.ga K "Chain")) = some false) ∧ (PySem.W.kitOne K (.type "list") (.ref (He.ga K "Chain")) = some false) ∧ (PySem.W.kitOne K (.type "tuple") (.ref (He.ga K "Chain")) = some false)
abbrev hg2 (K : PySem.W.Frag) : Prop := (PySem.W.kitOne K (.type "dict") (.ref (He.ga K "Chain")) = some false) ∧ (PySem.W.findIn K (.ref (He.ga K "Chain")) "size" = some none) ∧ (PySem.W.findIn K (.ref (He.ga K "Chain")) "_rows" = some none) ∧ (PySem.W.findIn K (.ref (He.ga K "Chain")) "_labels" = some none) ∧ ((He.Fa.glo "Chain").ok K = true) ∧ ((He.Fa.int "MOST_STATES" 8).ok K = true) ∧ (PySem.W.makesIn K (He.ga K "Share") = true) ∧ (PySem.W.findIn K (.ref (He.ga K "Share")) "__init__" = some (some (.ref (He.ma K (He.ga K "Share") "__init__")))) ∧ (PySem.W.isFn K (.ref (He.ma K (He.ga K "Share") "__init__")) = true) ∧ (PySem.W.keepIn K (.ref (He.ga K "Share")) = true) ∧ (PySem.W.plainGet K (He.ga K "Share") Str.empty = true) ∧ (PySem.W.hasDictIn K (He.ga K "Share") = true) ∧ (PySem.W.plainOver K (He.ga K "Share") = true) ∧ (PySem.W.findIn K (.ref (He.ga K "Share")) "__setattr__" = some (some (.builtin "object.__setattr__"))) ∧ (PySem.W.findIn K (.ref (He.ga K "Share")) "__class__" = some (some (.builtin "object.__class__"))) ∧ (PySem.W.mroIn K (He.ga K "Share") (.type "object") = some true)
abbrev hg3 (K : PySem.W.Frag) : Prop := (PySem.W.kitOne K (.ref (He.ga K "Share")) (.type "int") = some false) ∧ (PySem.W.kitOne K (.ref (He.ga K "Share")) (.type "bool") = some false) ∧ (PySem.W.kitOne K (.ref (He.ga K "Share")) (.ref (He.ga K "Share")) = some true) ∧ (PySem.W.kitOne K (.type "int") (.ref (He.ga K "Share")) = some false) ∧ (PySem.W.kitOne K (.type "bool") (.ref (He.ga K "Share")) = some false) ∧ (PySem.W.kitOne K (.type "NoneType") (.ref (He.ga K "Share")) = some false) ∧ (PySem.W.kitOne K (.type "str") (.ref (He.ga K "Share")) = some false) ∧ (PySem.W.kitOne K (.type "list") (.ref (He.ga K "Share")) = some false) ∧ (PySem.W.kitOne K (.type "tuple") (.ref (He.ga K "Share")) = some false) ∧ (PySem.W.kitOne K (.type "dict") (.ref (He.ga K "Share")) = some false) ∧ (PySem.W.findIn K (.ref (He.ga K "Share")) "top" = some none) ∧ (PySem.W.findIn K (.ref (He.ga K "Share")) "bottom" = some none) ∧ (PySem.W.nsIn K mainGlobals "gcd" = some (some (.builtin "math.gcd"))) ∧ ((He.Fa.glo "Share").ok K = true) ∧ (Hx.oexB K (He.ga K "BadShare") = true) ∧ (PySem.W.findIn K (.ref (He.ga K "BadShare")) "top" = some none)
abbrev hg4 (K : PySem.W.Frag) : Prop := (PySem.W.findIn K (.ref (He.ga K "BadShare")) "bottom" = some none) ∧ ((He.Fa.glo "BadShare").ok K = true) ∧ (PySem.W.findIn K (.ref (He.ga K "BadShare")) "__init__" = some (some (.ref (He.ma K (He.ga K "BadShare") "__init__")))) ∧ (PySem.W.typeIn K (.ref (He.ma K (He.ga K "BadShare") "__init__")) = some (.type "function")) ∧ ((He.Fa.glo "WalkError").ok K = true) ∧ (PySem.W.readsIn K (He.ga K "WalkError") (.type "type") = true) ∧ (PySem.W.specialIn K (.ref (He.ga K "WalkError")) "__getattribute__" = some (some (.builtin "type.__getattribute__"))) ∧ (Hx.fcB K (.ref (He.ga K "WalkError")) (.type "type") "__init__" (.ref (He.ma K (He.ga K "WalkError") "__init__")) = true) ∧ (PySem.W.keepIn K (.ref (He.ma K (He.ga K "WalkError") "__init__")) = true) ∧ (Hx.fcB K (.type "ValueError") (.type "type") "__init__" (.builtin "ValueError.__init__") = true) ∧ ((He.Fa.glo "is_whole").ok K = true) ∧ (PySem.W.keepIn K (.ref (He.ga K "is_whole")) = true) ∧ (PySem.W.findIn K (.ref (He.ga K "Share")) "__eq__" = some (some (.ref (He.ma K (He.ga K "Share") "__eq__")))) ∧ (PySem.W.findIn K (.ref (He.ga K "Share")) "__ne__" = some (some (.builtin "object.__ne__"))) ∧ (PySem.W.isFn K (.ref (He.ma K (He.ga K "Share") "__eq__")) = true) ∧ (PySem.W.subIn K (.ref (He.ga K "Share")) (.type "int") = some false)
abbrev hg5 (K : PySem.W.Frag) : Prop := (PySem.W.subIn K (.ref (He.ga K "Share")) (.type "bool") = some false) ∧ (PySem.W.subIn K (.ref (He.ga K "Share")) (.type "NoneType") = some false) ∧ (PySem.W.subIn K (.ref (He.ga K "Share")) (.type "str") = some false) ∧ (PySem.W.subIn K (.ref (He.ga K "Share")) (.type "list") = some false) ∧ (PySem.W.subIn K (.ref (He.ga K "Share")) (.type "tuple") = some false) ∧ (PySem.W.subIn K (.ref (He.ga K "Share")) (.type "dict") = some false) ∧ (PySem.W.findIn K (.ref (He.ga K "Chain")) "label" = some (some (.ref (He.ma K (He.ga K "Chain") "label")))) ∧ (PySem.W.isFn K (.ref (He.ma K (He.ga K "Chain") "label")) = true) ∧ (PySem.W.keepIn K (.ref (He.ma K (He.ga K "Chain") "label")) = true) ∧ ((He.Fa.glo "is_between").ok K = true) ∧ (PySem.W.keepIn K (.ref (He.ga K "is_between")) = true) ∧ ((He.Fa.glo "is_index").ok K = true) ∧ (PySem.W.keepIn K (.ref (He.ga K "is_index")) = true) ∧ ((He.Fa.glo "NoState").ok K = true) ∧ (PySem.W.findIn K (.ref (He.ga K "NoState")) "__init__" = some (some (.ref (He.ma K (He.ga K "NoState") "__init__")))) ∧ (PySem.W.typeIn K (.ref (He.ma K (He.ga K "NoState") "__init__")) = some (.type "function"))
abbrev hg6 (K : PySem.W.Frag) : Prop := (Hx.oexB K (He.ga K "NoState") = true) ∧ (PySem.W.findIn K (.ref (He.ga K "NoState")) "state" = some none) ∧ ((He.Fa.glo "check_state").ok K = true) ∧ (PySem.W.keepIn K (.ref (He.ga K "check_state")) = true) ∧ (PySem.W.findIn K (.ref (He.ga K "Chain")) "row" = some (some (.ref (He.ma K (He.ga K "Chain") "row")))) ∧ (PySem.W.isFn K (.ref (He.ma K (He.ga K "Chain") "row")) = true) ∧ (PySem.W.keepIn K (.ref (He.ma K (He.ga K "Chain") "row")) = true) ∧ (PySem.W.kitOne K (.ref (He.ga K "Share")) (.type "str") = some false) ∧ ((He.Fa.glo "_law_pool").ok K = true) ∧ (PySem.W.keepIn K (.ref (He.ga K "_law_pool")) = true) ∧ ((He.Fa.glo "_law_draw").ok K = true) ∧ (PySem.W.keepIn K (.ref (He.ga K "_law_draw")) = true) ∧ ((He.Fa.glo "_law_pick").ok K = true) ∧ (PySem.W.keepIn K (.ref (He.ga K "_law_pick")) = true) ∧ ((He.Fa.glo "_law_size").ok K = true) ∧ (PySem.W.keepIn K (.ref (He.ga K "_law_size")) = true)
abbrev hg7 (K : PySem.W.Frag) : Prop := ((He.Fa.glo "_law_tops").ok K = true) ∧ (PySem.W.keepIn K (.ref (He.ga K "_law_tops")) = true) ∧ ((He.Fa.glo "_law_moved_bit").ok K = true) ∧ (PySem.W.keepIn K (.ref (He.ga K "_law_moved_bit")) = true) ∧ ((He.Fa.glo "_law_rows_alike").ok K = true) ∧ (PySem.W.keepIn K (.ref (He.ga K "_law_rows_alike")) = true) ∧ ((He.Fa.glo "_law_rows_turning").ok K = true) ∧ (PySem.W.keepIn K (.ref (He.ga K "_law_rows_turning")) = true) ∧ ((He.Fa.glo "_law_rows_parted").ok K = true) ∧ (PySem.W.keepIn K (.ref (He.ga K "_law_rows_parted")) = true) ∧ ((He.Fa.glo "_law_rows").ok K = true) ∧ (PySem.W.keepIn K (.ref (He.ga K "_law_rows")) = true) ∧ ((He.Fa.glo "_law_spread").ok K = true) ∧ (PySem.W.keepIn K (.ref (He.ga K "_law_spread")) = true) ∧ ((He.Fa.glo "_law_name").ok K = true) ∧ (PySem.W.keepIn K (.ref (He.ga K "_law_name")) = true)
abbrev hg8 (K : PySem.W.Frag) : Prop := ((He.Fa.glo "_law_labels").ok K = true) ∧ (PySem.W.keepIn K (.ref (He.ga K "_law_labels")) = true) ∧ ((He.Fa.glo "_law_write").ok K = true) ∧ (PySem.W.keepIn K (.ref (He.ga K "_law_write")) = true) ∧ ((He.Fa.glo "_law_are_digits").ok K = true) ∧ (PySem.W.keepIn K (.ref (He.ga K "_law_are_digits")) = true) ∧ ((He.Fa.glo "_law_divisor").ok K = true) ∧ (PySem.W.keepIn K (.ref (He.ga K "_law_divisor")) = true) ∧ ((He.Fa.glo "_law_word").ok K = true) ∧ (PySem.W.keepIn K (.ref (He.ga K "_law_word")) = true) ∧ ((He.Fa.glo "_law_other_word").ok K = true) ∧ (PySem.W.keepIn K (.ref (He.ga K "_law_other_word")) = true) ∧ ((He.Fa.glo "_law_other_line").ok K = true) ∧ (PySem.W.keepIn K (.ref (He.ga K "_law_other_line")) = true) ∧ ((He.Fa.glo "_law_other_text").ok K = true) ∧ (PySem.W.keepIn K (.ref (He.ga K "_law_other_text")) = true)
abbrev hg9 (K : PySem.W.Frag) : Prop := ((He.Fa.free "any").ok K = true) ∧ (PySem.W.subIn K (.ref (He.ga K "Share")) (.type "bytes") = some false) ∧ (PySem.W.subIn K (.ref (He.ga K "Share")) (.type "bytearray") = some false) ∧ (PySem.W.selfFirst K (He.ga K "Share") = true) ∧ (PySem.W.findIn K (.ref (He.ga K "Share")) (PySem.dunder "add") = some (some (.ref (He.ma K (He.ga K "Share") "__add__")))) ∧ (PySem.W.isFn K (.ref (He.ma K (He.ga K "Share") "__add__")) = true) ∧ (PySem.W.findIn K (.ref (He.ga K "Share")) (dunderR "add") = some (some (.ref (He.ma K (He.ga K "Share") "__radd__")))) ∧ (PySem.W.isFn K (.ref (He.ma K (He.ga K "Share") "__radd__")) = true) ∧ ((PySem.W.findIn K (.type "int") (dunderR "add")).isSome = true) ∧ (PySem.W.subIn K (.type "int") (.ref (He.ga K "Share")) = some false) ∧ ((He.Fa.glo "is_share").ok K = true) ∧ (PySem.W.keepIn K (.ref (He.ga K "is_share")) = true) ∧ ((He.Fa.glo "share_of").ok K = true) ∧ (PySem.W.keepIn K (.ref (He.ga K "share_of")) = true) ∧ ((He.Fa.glo "_law_line").ok K = true) ∧ (PySem.W.keepIn K (.ref (He.ga K "_law_line")) = true)
abbrev hg10 (K : PySem.W.Frag) : Prop := ((He.Fa.glo "_law_due").ok K = true) ∧ (PySem.W.keepIn K (.ref (He.ga K "_law_due")) = true) ∧ ((He.Fa.glo "BadText").ok K = true) ∧ (PySem.W.findIn K (.ref (He.ga K "BadText")) "__getattribute__" = some (some (.builtin "BaseException.__getattribute__"))) ∧ (PySem.W.findIn K (.ref (He.ga K "BadText")) "__getattr__" = some none) ∧ (PySem.W.subIn K (.ref (He.ga K "BadText")) (.type "BaseException") = some true) ∧ (PySem.W.hasDictIn K (He.ga K "BadText") = true) ∧ (PySem.W.exmOne K (.ref (He.ga K "BadText")) (.ref (He.ga K "BadText")) = some true) ∧ (PySem.W.findIn K (.ref (He.ga K "BadText")) "line" = some none) ∧ ((He.Fa.free "enumerate").ok K = true) ∧ (PySem.W.makesIn K (He.ga K "Chain") = true) ∧ (PySem.W.findIn K (.ref (He.ga K "Chain")) "__init__" = some (some (.ref (He.ma K (He.ga K "Chain") "__init__")))) ∧ (PySem.W.isFn K (.ref (He.ma K (He.ga K "Chain") "__init__")) = true) ∧ (PySem.W.keepIn K (.ref (He.ga K "Chain")) = true) ∧ (PySem.W.kitOne K (.ref (He.ga K "Share")) (.type "tuple") = some false) ∧ ((He.Fa.glo "is_tuple_of").ok K = true)
abbrev hg11 (K : PySem.W.Frag) : Prop := (PySem.W.keepIn K (.ref (He.ga K "is_tuple_of")) = true) ∧ (PySem.W.findIn K (.ref (He.ga K "Share")) "less" = some (some (.ref (He.ma K (He.ga K "Share") "less")))) ∧ (PySem.W.isFn K (.ref (He.ma K (He.ga K "Share") "less")) = true) ∧ (PySem.W.keepIn K (.ref (He.ma K (He.ga K "Share") "less")) = true) ∧ ((He.Fa.glo "is_from_zero").ok K = true) ∧ (PySem.W.keepIn K (.ref (He.ga K "is_from_zero")) = true) ∧ ((He.Fa.glo "total").ok K = true) ∧ (PySem.W.keepIn K (.ref (He.ga K "total")) = true) ∧ ((He.Fa.glo "is_spread").ok K = true) ∧ (PySem.W.keepIn K (.ref (He.ga K "is_spread")) = true) ∧ ((He.Fa.glo "is_tuple_between").ok K = true) ∧ (PySem.W.keepIn K (.ref (He.ga K "is_tuple_between")) = true) ∧ ((He.Fa.str "LETTERS" abc).ok K = true) ∧ ((He.Fa.glo "is_name").ok K = true) ∧ (PySem.W.keepIn K (.ref (He.ga K "is_name")) = true) ∧ ((He.Fa.glo "is_name_row").ok K = true)
abbrev hg12 (K : PySem.W.Frag) : Prop := (PySem.W.keepIn K (.ref (He.ga K "is_name_row")) = true) ∧ ((He.Fa.glo "shares_of").ok K = true) ∧ (PySem.W.keepIn K (.ref (He.ga K "shares_of")) = true) ∧ (Hx.oexB K (He.ga K "BadText") = true) ∧ (PySem.W.findIn K (.ref (He.ga K "BadText")) "__init__" = some (some (.ref (He.ma K (He.ga K "BadText") "__init__")))) ∧ (PySem.W.typeIn K (.ref (He.ma K (He.ga K "BadText") "__init__")) = some (.type "function")) ∧ ((He.Fa.glo "text_rows").ok K = true) ∧ (PySem.W.keepIn K (.ref (He.ga K "text_rows")) = true) ∧ (PySem.W.findIn K (.ref (He.ga K "Share")) "__str__" = some (some (.ref (He.ma K (He.ga K "Share") "__str__")))) ∧ (PySem.W.isFn K (.ref (He.ma K (He.ga K "Share") "__str__")) = true) ∧ ((He.Fa.int "BLOCK" (10 ^ 64)).ok K = true) ∧ ((He.Fa.glo "digits").ok K = true) ∧ (PySem.W.keepIn K (.ref (He.ga K "digits")) = true) ∧ ((He.Fa.int "MOST_DIGITS" 100).ok K = true) ∧ ((He.Fa.str "DIGITS" d09).ok K = true) ∧ ((He.Fa.glo "is_number_word").ok K = true)
abbrev hg13 (K : PySem.W.Frag) : Prop := (PySem.W.keepIn K (.ref (He.ga K "is_number_word")) = true) ∧ ((He.Fa.glo "told_share").ok K = true) ∧ (PySem.W.keepIn K (.ref (He.ga K "told_share")) = true) ∧ ((He.Fa.glo "told_row").ok K = true) ∧ (PySem.W.keepIn K (.ref (He.ga K "told_row")) = true) ∧ ((He.Fa.glo "read").ok K = true) ∧ (PySem.W.keepIn K (.ref (He.ga K "read")) = true) ∧ ((He.Fa.glo "_law_read").ok K = true) ∧ (PySem.W.keepIn K (.ref (He.ga K "_law_read")) = true) ∧ ((He.Fa.glo "_law_same").ok K = true) ∧ (PySem.W.keepIn K (.ref (He.ga K "_law_same")) = true) ∧ ((He.Fa.glo "law").ok K = true)
def hex (K : PySem.W.Frag) : Bool := decide (hg0 K) && (decide (hg1 K) && (decide (hg2 K) && (decide (hg3 K) && (decide (hg4 K) && (decide (hg5 K) && (decide (hg6 K) && (decide (hg7 K) && (decide (hg8 K) && (decide (hg9 K) && (decide (hg10 K) && (decide (hg11 K) && (decide (hg12 K) && (decide (hg13 K))))))))))))))
def hnm0 : List PySem.Str := ["_wall", "WalkError", "BadShare", "BadChain", "NoState", "BadText", "LETTERS", "is_whole", "is_between", "is_index", "check_state", "is_name", "is_tuple_of", "is_tuple_between", "is_name_row", "BLOCK", "digits", "Share", "is_share", "share_of", "shares_of", "total", "is_from_zero", "is_spread", "MOST_STATES", "Chain", "DIGITS", "MOST_DIGITS", "text_rows", "read"]
def hnm1 : List PySem.Str := ["told_row", "told_share", "is_number_word", "_law_pool", "_law_draw", "_law_pick", "_law_name", "_law_tops", "_law_spread", "_law_moved_bit", "_law_rows_alike", "_law_rows_turning", "_law_rows_parted", "_law_rows", "_law_labels", "_law_size", "_law_same", "_law_write", "_law_are_digits", "_law_divisor", "_law_word", "_law_read", "_law_line", "_law_due", "_law_other_word", "_law_other_line", "_law_other_text"]
def hnames : List PySem.Str := hnm0 ++ hnm1
abbrev hR : OpenRow := OpenLaw.row PySem.Challenge.rw_bothwalks_k86_whole_texts_that_are_none
abbrev hq : Program := view hR.prog [0, 64]
abbrev hk : Hook := Hx.hookH 4 hfn hex
def hob (s : SharedT) : Hx.AlH := Hx.obsH 4 hfn hex (HandSHeadRun.getT s)
theorem hob_eq (s : SharedT) : hob s = hk.obs s.abs := Hx.obsH_eq (HandSHeadRun.getT_eq s)
theorem run (w : World) : HandSHeadRun.RunEqI hR hq hk hob 30000 hnames w := by
  unfold HandSHeadRun.RunEqI
  kernel_rfl
theorem facts {P : Program} {w : World} {K : PySem.W.Frag} {h : Heap} {mg : Str → Option Value} {f : Addr} (X : K.In h) (G : h.Ns mainGlobals mg) (hfa : mg ("law" : Str) = some (.ref f)) (c : Hx.SaysH hfn hex K) :
    ∃ fd : FuncData, (∀ (s : Shared) (v : Value), BindsTo s fd ⟨[v], []⟩ [("_law_script", v)]) ∧ ∀ base : Heap, FnOk P w K mg base CX0 17 f fd ["_law_script"] (spLaw K) := by
  obtain ⟨fd_law, D_law⟩ := c.1.def_ 0 (d := hd0) rfl
  obtain ⟨fd_Share___init__, D_Share___init__⟩ := c.1.def_ 1 (d := hd1) rfl
  obtain ⟨fd_BadShare___init__, D_BadShare___init__⟩ := c.1.def_ 2 (d := hd2) rfl
  obtain ⟨fd_WalkError___init__, D_WalkError___init__⟩ := c.1.def_ 3 (d := hd3) rfl
  obtain ⟨fd_is_whole, D_is_whole⟩ := c.1.def_ 4 (d := hd4) rfl
  obtain ⟨fd_Share___eq__, D_Share___eq__⟩ := c.1.def_ 5 (d := hd5) rfl
  obtain ⟨fd_Chain_label, D_Chain_label⟩ := c.1.def_ 6 (d := hd6) rfl
  obtain ⟨fd_check_state, D_check_state⟩ := c.1.def_ 7 (d := hd7) rfl
  obtain ⟨fd_is_index, D_is_index⟩ := c.1.def_ 8 (d := hd8) rfl
  obtain ⟨fd_is_between, D_is_between⟩ := c.1.def_ 9 (d := hd9) rfl
  obtain ⟨fd_NoState___init__, D_NoState___init__⟩ := c.1.def_ 10 (d := hd10) rfl
  obtain ⟨fd_Chain_row, D_Chain_row⟩ := c.1.def_ 11 (d := hd11) rfl
  obtain ⟨fd__law_pool, D__law_pool⟩ := c.1.def_ 12 (d := hd12) rfl
  obtain ⟨fd__law_pick, D__law_pick⟩ := c.1.def_ 13 (d := hd13) rfl
  obtain ⟨fd__law_draw, D__law_draw⟩ := c.1.def_ 14 (d := hd14) rfl
  obtain ⟨fd__law_size, D__law_size⟩ := c.1.def_ 15 (d := hd15) rfl
  obtain ⟨fd__law_rows, D__law_rows⟩ := c.1.def_ 16 (d := hd16) rfl
  obtain ⟨fd__law_tops, D__law_tops⟩ := c.1.def_ 17 (d := hd17) rfl
  obtain ⟨fd__law_rows_alike, D__law_rows_alike⟩ := c.1.def_ 18 (d := hd18) rfl
  obtain ⟨fd__law_moved_bit, D__law_moved_bit⟩ := c.1.def_ 19 (d := hd19) rfl
  obtain ⟨fd__law_rows_turning, D__law_rows_turning⟩ := c.1.def_ 20 (d := hd20) rfl
  obtain ⟨fd__law_rows_parted, D__law_rows_parted⟩ := c.1.def_ 21 (d := hd21) rfl
  obtain ⟨fd__law_spread, D__law_spread⟩ := c.1.def_ 22 (d := hd22) rfl
  obtain ⟨fd__law_labels, D__law_labels⟩ := c.1.def_ 23 (d := hd23) rfl
  obtain ⟨fd__law_name, D__law_name⟩ := c.1.def_ 24 (d := hd24) rfl
  obtain ⟨fd__law_write, D__law_write⟩ := c.1.def_ 25 (d := hd25) rfl
  obtain ⟨fd__law_other_text, D__law_other_text⟩ := c.1.def_ 26 (d := hd26) rfl
  obtain ⟨fd__law_other_line, D__law_other_line⟩ := c.1.def_ 27 (d := hd27) rfl
  obtain ⟨fd__law_other_word, D__law_other_word⟩ := c.1.def_ 28 (d := hd28) rfl
  obtain ⟨fd__law_word, D__law_word⟩ := c.1.def_ 29 (d := hd29) rfl
  obtain ⟨fd__law_are_digits, D__law_are_digits⟩ := c.1.def_ 30 (d := hd30) rfl
  obtain ⟨fd__law_divisor, D__law_divisor⟩ := c.1.def_ 31 (d := hd31) rfl
  obtain ⟨fd__law_due, D__law_due⟩ := c.1.def_ 32 (d := hd32) rfl
  obtain ⟨fd__law_line, D__law_line⟩ := c.1.def_ 33 (d := hd33) rfl
  obtain ⟨fd_Share___add__, D_Share___add__⟩ := c.1.def_ 34 (d := hd34) rfl
  obtain ⟨fd_Share___radd__, D_Share___radd__⟩ := c.1.def_ 35 (d := hd35) rfl
  obtain ⟨fd_is_share, D_is_share⟩ := c.1.def_ 36 (d := hd36) rfl
  obtain ⟨fd_share_of, D_share_of⟩ := c.1.def_ 37 (d := hd37) rfl
  obtain ⟨fd__law_read, D__law_read⟩ := c.1.def_ 38 (d := hd38) rfl
  obtain ⟨fd_read, D_read⟩ := c.1.def_ 39 (d := hd39) rfl
  obtain ⟨fd_Chain___init__, D_Chain___init__⟩ := c.1.def_ 40 (d := hd40) rfl
  obtain ⟨fd_is_spread, D_is_spread⟩ := c.1.def_ 41 (d := hd41) rfl
  obtain ⟨fd_is_tuple_of, D_is_tuple_of⟩ := c.1.def_ 42 (d := hd42) rfl
  obtain ⟨fd_is_from_zero, D_is_from_zero⟩ := c.1.def_ 43 (d := hd43) rfl
  obtain ⟨fd_Share_less, D_Share_less⟩ := c.1.def_ 44 (d := hd44) rfl
  obtain ⟨fd_total, D_total⟩ := c.1.def_ 45 (d := hd45) rfl
  obtain ⟨fd_is_tuple_between, D_is_tuple_between⟩ := c.1.def_ 46 (d := hd46) rfl
  obtain ⟨fd_is_name_row, D_is_name_row⟩ := c.1.def_ 47 (d := hd47) rfl
  obtain ⟨fd_is_name, D_is_name⟩ := c.1.def_ 48 (d := hd48) rfl
  obtain ⟨fd_shares_of, D_shares_of⟩ := c.1.def_ 49 (d := hd49) rfl
  obtain ⟨fd_BadText___init__, D_BadText___init__⟩ := c.1.def_ 50 (d := hd50) rfl
  obtain ⟨fd_text_rows, D_text_rows⟩ := c.1.def_ 51 (d := hd51) rfl
  obtain ⟨fd_told_row, D_told_row⟩ := c.1.def_ 52 (d := hd52) rfl
  obtain ⟨fd_told_share, D_told_share⟩ := c.1.def_ 53 (d := hd53) rfl
  obtain ⟨fd_Share___str__, D_Share___str__⟩ := c.1.def_ 54 (d := hd54) rfl
  obtain ⟨fd_digits, D_digits⟩ := c.1.def_ 55 (d := hd55) rfl
  obtain ⟨fd_is_number_word, D_is_number_word⟩ := c.1.def_ 56 (d := hd56) rfl
  obtain ⟨fd__law_same, D__law_same⟩ := c.1.def_ 57 (d := hd57) rfl
  have k0 : hex K = true := c.2
  unfold hex at k0
  obtain ⟨g0, k1⟩ := He.ba k0
  obtain ⟨pq0, pq1, pq2, pq3, pq4, pq5, pq6, pq7, pq8, pq9, pq10, pq11, pq12, pq13, pq14, pq15⟩ := (of_decide_eq_true g0 : hg0 K)
  obtain ⟨g1, k2⟩ := He.ba k1
  obtain ⟨pq16, pq17, pq18, pq19, pq20, pq21, pq22, pq23, pq24, pq25, pq26, pq27, pq28, pq29, pq30, pq31⟩ := (of_decide_eq_true g1 : hg1 K)
  obtain ⟨g2, k3⟩ := He.ba k2
  obtain ⟨pq32, pq33, pq34, pq35, pq36, pq37, pq38, pq39, pq40, pq41, pq42, pq43, pq44, pq45, pq46, pq47⟩ := (of_decide_eq_true g2 : hg2 K)
  obtain ⟨g3, k4⟩ := He.ba k3
  obtain ⟨pq48, pq49, pq50, pq51, pq52, pq53, pq54, pq55, pq56, pq57, pq58, pq59, pq60, pq61, pq62, pq63⟩ := (of_decide_eq_true g3 : hg3 K)
  obtain ⟨g4, k5⟩ := He.ba k4
  obtain ⟨pq64, pq65, pq66, pq67, pq68, pq69, pq70, pq71, pq72, pq73, pq74, pq75, pq76, pq77, pq78, pq79⟩ := (of_decide_eq_true g4 : hg4 K)
  obtain ⟨g5, k6⟩ := He.ba k5
  obtain ⟨pq80, pq81, pq82, pq83, pq84, pq85, pq86, pq87, pq88, pq89, pq90, pq91, pq92, pq93, pq94, pq95⟩ := (of_decide_eq_true g5 : hg5 K)
  obtain ⟨g6, k7⟩ := He.ba k6
  obtain ⟨pq96, pq97, pq98, pq99, pq100, pq101, pq102, pq103, pq104, pq105, pq106, pq107, pq108, pq109, pq110, pq111⟩ := (of_decide_eq_true g6 : hg6 K)
  obtain ⟨g7, k8⟩ := He.ba k7
  obtain ⟨pq112, pq113, pq114, pq115, pq116, pq117, pq118, pq119, pq120, pq121, pq122, pq123, pq124, pq125, pq126, pq127⟩ := (of_decide_eq_true g7 : hg7 K)
  obtain ⟨g8, k9⟩ := He.ba k8
  obtain ⟨pq128, pq129, pq130, pq131, pq132, pq133, pq134, pq135, pq136, pq137, pq138, pq139, pq140, pq141, pq142, pq143⟩ := (of_decide_eq_true g8 : hg8 K)
  obtain ⟨g9, k10⟩ := He.ba k9
  obtain ⟨pq144, pq145, pq146, pq147, pq148, pq149, pq150, pq151, pq152, pq153, pq154, pq155, pq156, pq157, pq158, pq159⟩ := (of_decide_eq_true g9 : hg9 K)
  obtain ⟨g10, k11⟩ := He.ba k10
  obtain ⟨pq160, pq161, pq162, pq163, pq164, pq165, pq166, pq167, pq168, pq169, pq170, pq171, pq172, pq173, pq174, pq175⟩ := (of_decide_eq_true g10 : hg10 K)
  obtain ⟨g11, k12⟩ := He.ba k11
  obtain ⟨pq176, pq177, pq178, pq179, pq180, pq181, pq182, pq183, pq184, pq185, pq186, pq187, pq188, pq189, pq190, pq191⟩ := (of_decide_eq_true g11 : hg11 K)
  obtain ⟨g12, k13⟩ := He.ba k12
  obtain ⟨pq192, pq193, pq194, pq195, pq196, pq197, pq198, pq199, pq200, pq201, pq202, pq203, pq204, pq205, pq206, pq207⟩ := (of_decide_eq_true g12 : hg12 K)
  have g13 := k13
  obtain ⟨pq208, pq209, pq210, pq211, pq212, pq213, pq214, pq215, pq216, pq217, pq218, pq219⟩ := (of_decide_eq_true g13 : hg13 K)
  have el : He.ga K "law" = f := by
    have e := hfa.symm.trans (He.glo_ok X G (x := "law") pq219)
    injection e with e
    injection e with e
    exact e.symm
  subst el
  have ab := D_law.bindsA (ps := ["_law_script"]) fun _ _ _ _ _ _ us hl => match us, hl with | [_], _ => rfl
  exact ⟨fd_law, fun s v => ab s [v] rfl, fun base => all_mk D_law D_Share___init__ D_BadShare___init__ D_WalkError___init__ D_is_whole D_Share___eq__ D_Chain_label D_check_state D_is_index D_is_between D_NoState___init__ D_Chain_row D__law_pool D__law_pick D__law_draw D__law_size D__law_rows D__law_tops D__law_rows_alike D__law_moved_bit D__law_rows_turning D__law_rows_parted D__law_spread D__law_labels D__law_name D__law_write D__law_other_text D__law_other_line D__law_other_word D__law_word D__law_are_digits D__law_divisor D__law_due D__law_line D_Share___add__ D_Share___radd__ D_is_share D_share_of D__law_read D_read D_Chain___init__ D_is_spread D_is_tuple_of D_is_from_zero D_Share_less D_total D_is_tuple_between D_is_name_row D_is_name D_shares_of D_BadText___init__ D_text_rows D_told_row D_told_share D_Share___str__ D_digits D_is_number_word D__law_same (He.free_ok X G pq0) (He.free_ok X G pq1) (He.free_ok X G pq2) (He.free_ok X G pq3) (He.free_ok X G pq4) (He.free_ok X G pq5) (He.free_ok X G pq6) (He.free_ok X G pq7) (He.free_ok X G pq8) (He.free_ok X G pq9) (He.free_ok X G pq10) (He.free_ok X G pq11) (He.free_ok X G pq12) (He.free_ok X G pq13) (He.free_ok X G pq14) (pq15) (pq16) (pq17) (pq18) (pq19) (pq20) (pq21) (pq22) (pq23) (pq24) (pq25) (pq26) (pq27) (pq28) (pq29) (pq30) (pq31) (pq32) (pq33) (pq34) (pq35) (He.glo_ok X G pq36) (He.int_ok X G pq37) (pq38) (pq39) (pq40) (pq41) (pq42) (pq43) (pq44) (pq45) (pq46) (pq47) (pq48) (pq49) (pq50) (pq51) (pq52) (pq53) (pq54) (pq55) (pq56) (pq57) (pq58) (pq59) (PySem.W.mg_of X G pq60) (He.glo_ok X G pq61) (Hx.oexB_ok pq62) (pq63) (pq64) (He.glo_ok X G pq65) (pq66) (pq67) (He.glo_ok X G pq68) (pq69) (pq70) (Hx.fcB_ok pq71) (pq72) (Hx.fcB_ok pq73) (He.glo_ok X G pq74) (pq75) (pq76) (pq77) (pq78) (pq79) (pq80) (pq81) (pq82) (pq83) (pq84) (pq85) (pq86) (pq87) (pq88) (He.glo_ok X G pq89) (pq90) (He.glo_ok X G pq91) (pq92) (He.glo_ok X G pq93) (pq94) (pq95) (Hx.oexB_ok pq96) (pq97) (He.glo_ok X G pq98) (pq99) (pq100) (pq101) (pq102) (pq103) (He.glo_ok X G pq104) (pq105) (He.glo_ok X G pq106) (pq107) (He.glo_ok X G pq108) (pq109) (He.glo_ok X G pq110) (pq111) (He.glo_ok X G pq112) (pq113) (He.glo_ok X G pq114) (pq115) (He.glo_ok X G pq116) (pq117) (He.glo_ok X G pq118) (pq119) (He.glo_ok X G pq120) (pq121) (He.glo_ok X G pq122) (pq123) (He.glo_ok X G pq124) (pq125) (He.glo_ok X G pq126) (pq127) (He.glo_ok X G pq128) (pq129) (He.glo_ok X G pq130) (pq131) (He.glo_ok X G pq132) (pq133) (He.glo_ok X G pq134) (pq135) (He.glo_ok X G pq136) (pq137) (He.glo_ok X G pq138) (pq139) (He.glo_ok X G pq140) (pq141) (He.glo_ok X G pq142) (pq143) (He.free_ok X G pq144) (pq145) (pq146) (pq147) (pq148) (pq149) (pq150) (pq151) (Hx.some_of pq152) (pq153) (He.glo_ok X G pq154) (pq155) (He.glo_ok X G pq156) (pq157) (He.glo_ok X G pq158) (pq159) (He.glo_ok X G pq160) (pq161) (He.glo_ok X G pq162) (pq163) (pq164) (pq165) (pq166) (pq167) (pq168) (He.free_ok X G pq169) (pq170) (pq171) (pq172) (pq173) (pq174) (He.glo_ok X G pq175) (pq176) (pq177) (pq178) (pq179) (He.glo_ok X G pq180) (pq181) (He.glo_ok X G pq182) (pq183) (He.glo_ok X G pq184) (pq185) (He.glo_ok X G pq186) (pq187) (He.str_ok X G pq188) (He.glo_ok X G pq189) (pq190) (He.glo_ok X G pq191) (pq192) (He.glo_ok X G pq193) (pq194) (Hx.oexB_ok pq195) (pq196) (pq197) (He.glo_ok X G pq198) (pq199) (pq200) (pq201) (He.int_ok X G pq202) (He.glo_ok X G pq203) (pq204) (He.int_ok X G pq205) (He.str_ok X G pq206) (He.glo_ok X G pq207) (pq208) (He.glo_ok X G pq209) (pq210) (He.glo_ok X G pq211) (pq212) (He.glo_ok X G pq213) (pq214) (He.glo_ok X G pq215) (pq216) (He.glo_ok X G pq217) (pq218) (He.glo_ok X G pq219)⟩
end KJ
open PySem PySem.W PySem.Calls PyProof.Rows
theorem PySem.Challenge.cw_bothwalks_k86_whole_texts_that_are_none_holds : PySem.Challenge.rw_bothwalks_k86_whole_texts_that_are_none.Holds := by
  w_on; o_law
  refine HandSHeadRun.head_imp (r := OpenLaw.row PySem.Challenge.rw_bothwalks_k86_whole_texts_that_are_none) (q := KJ.hq) (H := KJ.hk) (ob := KJ.hob) (M := 30000) (loose := KJ.hnames) (d := HandSHeadRun.topDef (OpenLaw.row PySem.Challenge.rw_bothwalks_k86_whole_texts_that_are_none).prog 64) (kwd := []) KJ.hob_eq KJ.run
    (by kernel_rfl) (by kernel_rfl) (by kernel_rfl) (by rfl) (by first | assumption | decide +kernel) (by decide +kernel) ⟨rfl, rfl, rfl, rfl, rfl, by decide +kernel⟩ ?hw ?hc
  case hw => w_witness2
  case hc =>
    refine L2.walk_ofE (l := PySem.Challenge.rw_bothwalks_k86_whole_texts_that_are_none) (n := 63) (k := 17) (x := "_law_script") (CX := L2.CX0) rfl (by decide) (by kernel_rfl) ⟨rfl, by decide, by decide⟩ ?F (fun _ _ _ _ z => z)
    intro w mg fa h Y G hmg0
    obtain ⟨K, KX, c⟩ := Y
    have hmg : mg ("law" : PySem.Str) = some (.ref fa) := by
      have e : (HandSHeadRun.topDef (OpenLaw.row PySem.Challenge.rw_bothwalks_k86_whole_texts_that_are_none).prog 64).name = ("law" : PySem.Str) := by kernel_rfl
      rw [← e]
      exact hmg0
    obtain ⟨fd, hb, hF⟩ := KJ.facts (P := (PySem.Challenge.rw_bothwalks_k86_whole_texts_that_are_none).prog) (w := w) KX G hmg c
    exact ⟨K, fd, KJ.spLaw K, KX, hb, fun H a ns hl _ hS => ⟨a, ns, rfl, hS, hl, fun _ => rfl⟩, fun base _ _ => hF base⟩

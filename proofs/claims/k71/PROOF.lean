import PyProof.Rows.All
import Wide.All
import OpenK.AllK
import Wide.FinOn
import PyProof.EqAt
import PyProof.EqKinds
import PyProof.NeKinds
import PyProof.TupleCall
import HandS.OwnEq
import HandS.IsInst
import HandS.ForMost
import HandS.ForExc
import HandS.ExcInit
import HandS.ExcField
import HandS.ExcIs
import HandS.Gcd
import HandS.FStr
import HandS.Wide
import HandS.WideBits
import HandS.Star
import HandS.EndBits
import HandS.ClsMeth
import PySem.Challenge.RW_bothwalks_k71_stuck_pairs_and_their_judg
import HandS.Defaults
import KE.KOpsOwn
import PyProof.SumAny
import HandS.SortKw
import HandS.Comp
import HandS.WordsExc
import HandS.DictComp
import HandS.Deep
import KE.KDictDisplayH
import HandS.TupMul
import KE.DataMinMax
import HandS.Conv
import HandS.TupAny
import HandS.Iter
import KE.KDictWalk
import HandS.Walk
import HandS.Text
import KE.GoesMore
import PyProof.EnumMake
import HandS.More
import HandS.TupSets
import HandS.ListItems
import KE.KDictList
import HandS.DictTup
import HandS.SortInts
import HandS.TupLe
import KE.LtData
import HandS.Flow
set_option Elab.async false
set_option linter.all false
set_option maxRecDepth 100000
set_option maxHeartbeats 4000000
/-! == and != where one side is an instance of an own class with an own __eq__ -/
namespace OC
open PySem PySem.SeqAt PySem.W
open AutoSeq1 (wpAny_loadPart')
open MeetsSeq MeetsSeq2 MeetsSeq3 SeqRoads2
def Is2 (op : CmpOp) : Prop := op = .Eq ∨ op = .NotEq
section
variable {prog : Program} {w : World} {A : Around} {E : Value → Shared → Prop} {s : Shared} {K : Frag} {x C f : Addr} {ox : Obj} {od : Option Obj}
/-- the built-in's own comparison hands back NotImplemented: nothing is known of it, nothing has changed -/
def Decl (prog : Program) (w : World) (A : Around) (s : Shared) (op : CmpOp) (a b : Value) : Prop :=
  ∀ (Q : Option Value → Shared → Prop) (E : Value → Shared → Prop), Q none s → wpAny (model prog w) A (tryCompare a (cmpInfo op).2.1 b) Q E s
theorem int_ref_eq (b : Int) (u : Tok) {o : Obj} (hd : o.data = .plain) (l : Addr) :
    Meets (Builtin.«int.__eq__» ⟨[.int b u, .ref l], []⟩) (fun _ R s => s.heap.get? l = some o ∧ R (.ok (.ret .notImplemented)) s) :=
  .of_wp fun prog w A R s h => by obtain ⟨cls, dd, data, sl⟩ := o; obtain ⟨hp, g, d, tk, os⟩ := s; obtain ⟨hl, h⟩ := h; simp only at hd; subst hd; wp_walk using wpAny_loadPart' hl, wpAny_load hl; exact ⟨_, rfl, h⟩
theorem int_ref_ne (b : Int) (u : Tok) {o : Obj} (hd : o.data = .plain) (l : Addr) :
    Meets (Builtin.«int.__ne__» ⟨[.int b u, .ref l], []⟩) (fun _ R s => s.heap.get? l = some o ∧ R (.ok (.ret .notImplemented)) s) :=
  .of_wp fun prog w A R s h => by obtain ⟨cls, dd, data, sl⟩ := o; obtain ⟨hp, g, d, tk, os⟩ := s; obtain ⟨hl, h⟩ := h; simp only at hd; subst hd; wp_walk using wpAny_loadPart' hl, wpAny_load hl; exact ⟨_, rfl, h⟩
theorem bool_ref_eq (b : Bool) {o : Obj} (hd : o.data = .plain) (l : Addr) :
    Meets (Builtin.«int.__eq__» ⟨[.bool b, .ref l], []⟩) (fun _ R s => s.heap.get? l = some o ∧ R (.ok (.ret .notImplemented)) s) :=
  .of_wp fun prog w A R s h => by obtain ⟨cls, dd, data, sl⟩ := o; obtain ⟨hp, g, d, tk, os⟩ := s; obtain ⟨hl, h⟩ := h; simp only at hd; subst hd; wp_walk using wpAny_loadPart' hl, wpAny_load hl; exact ⟨_, rfl, h⟩
theorem bool_ref_ne (b : Bool) {o : Obj} (hd : o.data = .plain) (l : Addr) :
    Meets (Builtin.«int.__ne__» ⟨[.bool b, .ref l], []⟩) (fun _ R s => s.heap.get? l = some o ∧ R (.ok (.ret .notImplemented)) s) :=
  .of_wp fun prog w A R s h => by obtain ⟨cls, dd, data, sl⟩ := o; obtain ⟨hp, g, d, tk, os⟩ := s; obtain ⟨hl, h⟩ := h; simp only at hd; subst hd; wp_walk using wpAny_loadPart' hl, wpAny_load hl; exact ⟨_, rfl, h⟩
theorem str_ref_eq (b : Str) (u : Tok) {o : Obj} (hd : o.data = .plain) (l : Addr) :
    Meets (Builtin.«str.__eq__» ⟨[.str b u, .ref l], []⟩) (fun _ R s => s.heap.get? l = some o ∧ R (.ok (.ret .notImplemented)) s) :=
  .of_wp fun prog w A R s h => by obtain ⟨cls, dd, data, sl⟩ := o; obtain ⟨hp, g, d, tk, os⟩ := s; obtain ⟨hl, h⟩ := h; simp only at hd; subst hd; wp_walk using wpAny_loadPart' hl, wpAny_load hl; exact ⟨_, rfl, h⟩
theorem str_ref_ne (b : Str) (u : Tok) {o : Obj} (hd : o.data = .plain) (l : Addr) :
    Meets (Builtin.«str.__ne__» ⟨[.str b u, .ref l], []⟩) (fun _ R s => s.heap.get? l = some o ∧ R (.ok (.ret .notImplemented)) s) :=
  .of_wp fun prog w A R s h => by obtain ⟨cls, dd, data, sl⟩ := o; obtain ⟨hp, g, d, tk, os⟩ := s; obtain ⟨hl, h⟩ := h; simp only at hd; subst hd; wp_walk using wpAny_loadPart' hl, wpAny_load hl; exact ⟨_, rfl, h⟩
theorem decl_int {op : CmpOp} (ho : Is2 op) (b : Int) (u : Tok) (hx : s.heap.get? x = some ox) (hd : ox.data = .plain) : Decl prog w A s op (.int b u) (.ref x) := fun Q E hq => by
  rcases ho with rfl | rfl
  · exact wpAny_tryCompare_declines (typeIs_int s b u) F.slot_int_eq (call_meets F.slot_int_eq (typeIs_int s b u) F.entry_int_eq (F.args_int_eq_2 _ _) (int_ref_eq b u hd x) ⟨hx, rfl, hq⟩)
  · exact wpAny_tryCompare_declines (typeIs_int s b u) F.slot_int_ne (call_meets F.slot_int_ne (typeIs_int s b u) F.entry_int_ne (F.args_int_ne_2 _ _) (int_ref_ne b u hd x) ⟨hx, rfl, hq⟩)
theorem decl_bool {op : CmpOp} (ho : Is2 op) (b : Bool) (hx : s.heap.get? x = some ox) (hd : ox.data = .plain) : Decl prog w A s op (.bool b) (.ref x) := fun Q E hq => by
  rcases ho with rfl | rfl
  · exact wpAny_tryCompare_declines (T := "bool") rfl F.slot_bool_eq (call_meets F.slot_bool_eq rfl F.entry_int_eq (F.args_int_eq_2 _ _) (bool_ref_eq b hd x) ⟨hx, rfl, hq⟩)
  · exact wpAny_tryCompare_declines (T := "bool") rfl F.slot_bool_ne (call_meets F.slot_bool_ne rfl F.entry_int_ne (F.args_int_ne_2 _ _) (bool_ref_ne b hd x) ⟨hx, rfl, hq⟩)
theorem decl_str {op : CmpOp} (ho : Is2 op) (b : Str) (u : Tok) (hx : s.heap.get? x = some ox) (hd : ox.data = .plain) : Decl prog w A s op (.str b u) (.ref x) := fun Q E hq => by
  rcases ho with rfl | rfl
  · exact wpAny_tryCompare_declines (typeIs_str s b u) F.slot_str_eq (call_meets F.slot_str_eq (typeIs_str s b u) F.entry_str_eq (F.args_str_eq_2 _ _) (str_ref_eq b u hd x) ⟨hx, rfl, hq⟩)
  · exact wpAny_tryCompare_declines (typeIs_str s b u) F.slot_str_ne (call_meets F.slot_str_ne (typeIs_str s b u) F.entry_str_ne (F.args_str_ne_2 _ _) (str_ref_ne b u hd x) ⟨hx, rfl, hq⟩)
theorem decl_none {op : CmpOp} (ho : Is2 op) : Decl prog w A s op .none (.ref x) := fun Q E hq => by
  rcases ho with rfl | rfl
  · exact wpAny_tryCompare_declines (T := "NoneType") rfl F.slot_NoneType_eq (call_gives F.slot_NoneType_eq rfl F.entry_NoneType_eq (F.args_NoneType_eq_2 _ _) (NoneType___eq___none_ref_0 x) ⟨rfl, hq⟩)
  · exact wpAny_tryCompare_declines (T := "NoneType") rfl F.slot_NoneType_ne (call_gives F.slot_NoneType_ne rfl F.entry_NoneType_ne (F.args_NoneType_ne_2 _ _) (NoneType___ne___none_ref_0 x) ⟨rfl, hq⟩)
end
end OC
set_option Elab.async false
set_option linter.all false
set_option maxRecDepth 100000
set_option maxHeartbeats 4000000
namespace OC
open PySem PySem.SeqAt PySem.W
open AutoSeq1 (wpAny_loadPart')
open MeetsSeq MeetsSeq2 MeetsSeq3 SeqRoads2
section
variable {prog : Program} {w : World} {A : Around} {E : Value → Shared → Prop} {s : Shared} {K : Frag} {x C f : Addr} {ox : Obj} {od : Option Obj}
theorem not_inst {M : Model} {h : Heap} {T : String} (X : K.In h) (I : InstAt h x ox C od) (hn : subIn K (.ref C) (.type T) = some false) : Looks M h (isInstance (.ref x) (.type T)) false :=
  I.type.andThen (looks_subIn X hn)
theorem tup_ref_eq (l : Addr) (items : Array Value) (n : Nat) (dd : Option Addr) (sl : Array (Option Value)) (x : Addr) :
    Meets (Builtin.«tuple.__eq__» ⟨[.ref l, .ref x], []⟩) (fun _ R s => (∀ M : Model, Looks M s.heap (isInstance (.ref x) (.type "tuple")) false) ∧ s.heap.get? l = some { cls := .type "tuple", dict := dd, data := .seq items n, slots := sl } ∧ R (.ok (.ret .notImplemented)) s) :=
  .of_wp fun prog w A R s h => by
    obtain ⟨hp, g, d, tk, os⟩ := s; obtain ⟨L0, hl, h⟩ := h
    have L := L0 (model prog w)
    unfold Builtin.«tuple.__eq__»
    repeat (first | with_reducible refine L.at ?_ | (refine wpAny_bind (m := isInstance (.ref x) (.type "tuple")) (L.at ?_)) | wp_step)
    exact ⟨_, rfl, h⟩
theorem tup_ref_ne (l : Addr) (items : Array Value) (n : Nat) (dd : Option Addr) (sl : Array (Option Value)) (x : Addr) :
    Meets (Builtin.«tuple.__ne__» ⟨[.ref l, .ref x], []⟩) (fun _ R s => (∀ M : Model, Looks M s.heap (isInstance (.ref x) (.type "tuple")) false) ∧ s.heap.get? l = some { cls := .type "tuple", dict := dd, data := .seq items n, slots := sl } ∧ R (.ok (.ret .notImplemented)) s) :=
  .of_wp fun prog w A R s h => by
    obtain ⟨hp, g, d, tk, os⟩ := s; obtain ⟨L0, hl, h⟩ := h
    have L := L0 (model prog w)
    unfold Builtin.«tuple.__ne__»
    repeat (first | with_reducible refine L.at ?_ | (refine wpAny_bind (m := isInstance (.ref x) (.type "tuple")) (L.at ?_)) | wp_step)
    exact ⟨_, rfl, h⟩
theorem list_ref_eq (l : Addr) (items : Array Value) (n : Nat) (dd : Option Addr) (sl : Array (Option Value)) (x : Addr) :
    Meets (Builtin.«list.__eq__» ⟨[.ref l, .ref x], []⟩) (fun _ R s => (∀ M : Model, Looks M s.heap (isInstance (.ref x) (.type "list")) false) ∧ s.heap.get? l = some { cls := .type "list", dict := dd, data := .seq items n, slots := sl } ∧ R (.ok (.ret .notImplemented)) s) :=
  .of_wp fun prog w A R s h => by
    obtain ⟨hp, g, d, tk, os⟩ := s; obtain ⟨L0, hl, h⟩ := h
    have L := L0 (model prog w)
    unfold Builtin.«list.__eq__»
    repeat (first | with_reducible refine L.at ?_ | (refine wpAny_bind (m := isInstance (.ref x) (.type "list")) (L.at ?_)) | wp_step)
    exact ⟨_, rfl, h⟩
theorem list_ref_ne (l : Addr) (items : Array Value) (n : Nat) (dd : Option Addr) (sl : Array (Option Value)) (x : Addr) :
    Meets (Builtin.«list.__ne__» ⟨[.ref l, .ref x], []⟩) (fun _ R s => (∀ M : Model, Looks M s.heap (isInstance (.ref x) (.type "list")) false) ∧ s.heap.get? l = some { cls := .type "list", dict := dd, data := .seq items n, slots := sl } ∧ R (.ok (.ret .notImplemented)) s) :=
  .of_wp fun prog w A R s h => by
    obtain ⟨hp, g, d, tk, os⟩ := s; obtain ⟨L0, hl, h⟩ := h
    have L := L0 (model prog w)
    unfold Builtin.«list.__ne__»
    repeat (first | with_reducible refine L.at ?_ | (refine wpAny_bind (m := isInstance (.ref x) (.type "list")) (L.at ?_)) | wp_step)
    exact ⟨_, rfl, h⟩
theorem dict_ref_eq (l : Addr) (x : Addr) {o : Obj} (ho : o.ExactDict) :
    Meets (Builtin.«dict.__eq__» ⟨[.ref l, .ref x], []⟩) (fun _ R s => (∀ M : Model, Looks M s.heap (isInstance (.ref x) (.type "dict")) false) ∧ s.heap.get? l = some o ∧ R (.ok (.ret .notImplemented)) s) :=
  .of_wp fun prog w A R s h => by
    obtain ⟨hp, g, d, tk, os⟩ := s; obtain ⟨L0, hl, h⟩ := h
    have L := L0 (model prog w)
    show wpAny _ _ (Builtin.Dict.dictSlotArgs "__eq__" ⟨[.ref l, .ref x], []⟩ >>= _) _ _ _
    repeat (first | with_reducible refine L.at ?_ | (refine wpAny_bind (m := isInstance (.ref x) (.type "dict")) (L.at ?_)) | wp_step)
    exact ⟨_, rfl, h⟩
theorem dict_ref_ne (l : Addr) (x : Addr) {o : Obj} (ho : o.ExactDict) :
    Meets (Builtin.«dict.__ne__» ⟨[.ref l, .ref x], []⟩) (fun _ R s => (∀ M : Model, Looks M s.heap (isInstance (.ref x) (.type "dict")) false) ∧ s.heap.get? l = some o ∧ R (.ok (.ret .notImplemented)) s) :=
  .of_wp fun prog w A R s h => by
    obtain ⟨hp, g, d, tk, os⟩ := s; obtain ⟨L0, hl, h⟩ := h
    have L := L0 (model prog w)
    show wpAny _ _ (Builtin.Dict.dictSlotArgs "__ne__" ⟨[.ref l, .ref x], []⟩ >>= _) _ _ _
    repeat (first | with_reducible refine L.at ?_ | (refine wpAny_bind (m := isInstance (.ref x) (.type "dict")) (L.at ?_)) | wp_step)
    exact ⟨_, rfl, h⟩
end
end OC
set_option Elab.async false
set_option linter.all false
set_option maxRecDepth 100000
set_option maxHeartbeats 4000000
namespace OC
open PySem PySem.SeqAt PySem.W Builtin
open AutoSeq1 (wpAny_loadPart')
open MeetsSeq MeetsSeq2 MeetsSeq3 SeqRoads2
section
variable {prog : Program} {w : World} {A : Around} {E : Value → Shared → Prop} {s : Shared} {K : Frag} {x C f : Addr} {ox : Obj} {od : Option Obj} {y : Value}
/-- what the own __eq__ hands back, turned for != -/
def turn (op : CmpOp) (b : Bool) : Bool := match op with | .Eq => b | _ => !b
/-- the class: its own __eq__ at f, its __ne__ is object's -/
structure OwnQ (K : Frag) (C f : Addr) : Prop where
  eq : findIn K (.ref C) "__eq__" = some (some (.ref f))
  ne : findIn K (.ref C) "__ne__" = some (some (.builtin "object.__ne__"))
  ob : mroIn K C (.type "object") = some true
  fn : isFn K (.ref f) = true
theorem ifBound_objNe {M : Model} {args : List Value} {Q : Option Value → Shared → Prop} (X : K.In s.heap) (I : InstAt s.heap x ox C od) (hs : findIn K (.ref C) "__ne__" = some (some (.builtin "object.__ne__")))
    (h : wpAny M A (call (.builtin "object.__ne__") (.ref x :: args)) (fun v => Q (some v)) E s) : wpAny M A (callSpecialIfBound? (.ref x) "__ne__" args) Q E s := by
  simp only [callSpecialIfBound?, bindSpecialIfBound?]
  refine wpAny_holding (wpAny_bind (wpAny_bind (wpAny_bind (I.type.here ((looks_findIn X hs).here ?_)))))
  refine wpAny_bind (wpAny_askSetting (wpAny_ite ?_))
  have fin : wpAny M A (call (.builtin "object.__ne__") ([.ref x] ++ args) >>= fun v => pure (some v)) Q E s := wpAny_bind (wpAny_mono h (fun v s' h' => wpAny_pure h') fun _ _ h' => h')
  split
  · exact wpAny_bind (wpAny_of_eq (F.cmp_object.ne.bind _) (wpAny_pure (by exact fin)))
  · exact wpAny_tryCatch (wpAny_bind (wpAny_of_eq (F.cmp_object.ne.bind _) (wpAny_pure (by exact fin))))
theorem ne_entry {Q : Fin → Shared → Prop} (hu : A.units < cLine) (X : K.In s.heap) (I : InstAt s.heap x ox C od) (O : OwnQ K C f)
    (h : wpAny (model prog w) A (call (.ref f) [.ref x, y]) (fun v s' => ∃ b, v = .bool b ∧ Q (.done (.ret (.bool (!b)))) s') E s) :
    wpAny (model prog w) A (Builtin.«object.__ne__» ⟨[.ref x, y], []⟩) Q E s := by
  obtain ⟨hp, g, d, t, os⟩ := s
  unfold Builtin.«object.__ne__»
  repeat (first
    | with_reducible refine wpAny_cRoomFor hu ?_
    | (refine wpAny_bind (m := callSpecialIfBound? (.ref x) (Str.ofString "__eq__") [y])
        (ifBound_K X I O.eq O.fn (wpAny_mono h (fun r s' hr => by
          obtain ⟨b, rfl, hq⟩ := hr
          repeat (first | exact hq | exact wpAny_pure hq | exact wpAny_truthy_bool hq | (refine wpAny_bind (m := truthy (.bool _)) (wpAny_truthy_bool ?_)) | wp_step)) fun _ _ e => e)))
    | wp_step)
theorem own_try {op : CmpOp} {Q : Value → Shared → Prop} (ho : Is2 op) (hu : A.units + 1 < cLine) (X : K.In s.heap) (I : InstAt s.heap x ox C od) (O : OwnQ K C f)
    (h : ∀ A' : Around, A' = A ∨ A' = A.in1 → wpAny (model prog w) A' (call (.ref f) [.ref x, y]) (fun v s' => ∃ b, v = .bool b ∧ Q (.bool (turn op b)) s') E s) :
    wpAny (model prog w) A (tryCompare (.ref x) (cmpInfo op).2.1 y) (fun r s' => ∃ v, r = some v ∧ Q v s') E s := by
  rcases ho with rfl | rfl
  · unfold tryCompare
    refine wpAny_bind (m := callSpecialIfBound? (.ref x) "__eq__" [y]) (ifBound_K X I O.eq O.fn (wpAny_mono (h A (.inl rfl)) (fun v s' hv => ?_) fun _ _ e => e))
    obtain ⟨b, rfl, hq⟩ := hv
    exact wpAny_pure ⟨_, rfl, hq⟩
  · unfold tryCompare
    refine wpAny_bind (m := callSpecialIfBound? (.ref x) "__ne__" [y]) (ifBound_objNe X I O.ne ?_)
    refine wpAny_call (codeAny_call_builtin F.cmp_object.ne.plain F.cmpEntry_ne (check_slot F.cmpKind_ne F.cmpSplit_ne (I.type.andThen (looks_mroIn X O.ob)) (F.cmpArgs_ne _ _) ?_))
    refine ne_entry (A := A.in1) hu X I O (wpAny_mono (h A.in1 (.inr rfl)) (fun v s' hv => ?_) fun _ _ e => e)
    obtain ⟨b, rfl, hq⟩ := hv
    first
      | exact ⟨b, rfl, wpAny_pure ⟨_, rfl, hq⟩⟩
      | exact ⟨b, rfl, wpAny_pure (wpAny_pure ⟨_, rfl, hq⟩)⟩
      | exact ⟨b, rfl, ⟨_, rfl, hq⟩⟩
theorem compareOp2 {op : CmpOp} (ho : Is2 op) (a b : Value) : compareOp op a b = richCompare op a b := by rcases ho with rfl | rfl <;> rfl
/-- the instance on the left -/
theorem rc_left {op : CmpOp} {tb : Value} {Q : Value → Shared → Prop} (ho : Is2 op) (hu : A.units + 1 < cLine) (X : K.In s.heap) (I : InstAt s.heap x ox C od) (O : OwnQ K C f) (hb : Looks (model prog w) s.heap (typeOf y) tb) (hn : notFirst K C tb = true)
    (h : ∀ A' : Around, A' = A ∨ A' = A.in1 → wpAny (model prog w) A' (call (.ref f) [.ref x, y]) (fun v s' => ∃ b, v = .bool b ∧ Q (.bool (turn op b)) s') E s) :
    wpAny (model prog w) A (richCompare op (.ref x) y) Q E s := by
  have one := own_try ho hu X I O h
  unfold richCompare
  simp only [oneThing_ref]
  refine wpAny_holding (wpAny_bind (wpAny_cRoomFor (Nat.lt_of_succ_lt hu) ?_))
  refine wpAny_bind (I.type.here (wpAny_bind (hb.here ?_)))
  split
  · rename_i q
    have e : subIn K tb (.ref C) = some false := by
      rcases Bool.or_eq_true_iff.mp hn with e | e
      · rw [beq_iff_eq.mp e] at q; simp at q
      · exact beq_iff_eq.mp e
    refine wpAny_bind ((looks_subIn X e).here ?_)
    simp only [Bool.false_eq_true, if_false]
    refine wpAny_bind (wpAny_mono one (fun r s' z => ?_) fun _ _ e => e)
    obtain ⟨v, rfl, hq⟩ := z
    exact wpAny_pure hq
  · refine wpAny_bind (wpAny_pure ?_)
    simp only [Bool.false_eq_true, if_false]
    refine wpAny_bind (wpAny_mono one (fun r s' z => ?_) fun _ _ e => e)
    obtain ⟨v, rfl, hq⟩ := z
    exact wpAny_pure hq
/-- the instance on the right, a value of a built-in type on the left -/
theorem rc_right {op : CmpOp} {T : String} {a : Value} {Q : Value → Shared → Prop} (ho : Is2 op) (hu : A.units + 1 < cLine) (X : K.In s.heap) (I : InstAt s.heap x ox C od) (O : OwnQ K C f) (ha : s.TypeIs a T) (hn : subIn K (.ref C) (.type T) = some false)
    (hne : (oneThing? op a (.ref x)) = none)
    (hd : Decl prog w A s op a (.ref x))
    (h : ∀ A' : Around, A' = A ∨ A' = A.in1 → wpAny (model prog w) A' (call (.ref f) [.ref x, a]) (fun v s' => ∃ b, v = .bool b ∧ Q (.bool (turn op b)) s') E s) :
    wpAny (model prog w) A (richCompare op a (.ref x)) Q E s := by
  have one := own_try ho hu X I O h
  have e2 : (cmpInfo op).2.2 = (cmpInfo op).2.1 := by rcases ho with rfl | rfl <;> rfl
  unfold richCompare
  simp only [hne]
  refine wpAny_holding (wpAny_bind (wpAny_cRoomFor (Nat.lt_of_succ_lt hu) ?_))
  refine wpAny_bind (wpAny_typeOf ha (wpAny_bind (I.type.here ?_)))
  have ne : (Value.type T != Value.ref C) = true := by simp
  simp only [ne, if_true]
  refine wpAny_bind ((looks_subIn X hn).here ?_)
  simp only [Bool.false_eq_true, if_false]
  refine wpAny_bind (m := tryCompare a (cmpInfo op).2.1 (.ref x)) (hd _ _ ?_)
  simp only [Bool.not_false, if_true]
  rw [e2]
  refine wpAny_bind (m := tryCompare (.ref x) (cmpInfo op).2.1 a) (wpAny_mono one (fun r s' z => ?_) fun _ _ e => e)
  obtain ⟨v, rfl, hq⟩ := z
  exact wpAny_pure hq
end
end OC
set_option Elab.async false
set_option linter.all false
set_option maxRecDepth 100000
set_option maxHeartbeats 4000000
namespace L2
open PySem PySem.Spec PyProof.Rows
/-- a foreign thing: its built-in type, its kind told by the heap -/
inductive Fo (K : PySem.W.Frag) (H : Hp) : V → String → Prop where
  | non : Fo K H .non "NoneType"
  | bl (b : Bool) : Fo K H (.bl b) "bool"
  | int (i : Int) : Fo K H (.int i) "int"
  | str (x : Str) : Fo K H (.str x) "str"
  | lst {a : Addr} {xs : List V} (e : H a = some (.lst xs)) : Fo K H (.ref a) "list"
  | tup {a : Addr} {xs : List V} (e : H a = some (.tup xs)) : Fo K H (.ref a) "tuple"
  | dK {a : Addr} {kvs : List (Key × V)} (e : H a = some (.dK kvs)) : Fo K H (.ref a) "dict"
theorem Fo.ty {K : PySem.W.Frag} {H : Hp} {x : V} {T : String} (h : Fo K H x T) : TyX K H x (.type T) := by
  cases h with
  | non => exact .base .non
  | bl b => exact .base (.bl b)
  | int i => exact .base (.int i)
  | str x => exact .base (.str x)
  | lst e => exact .base (.lst e)
  | tup e => exact .base (.tup e)
  | dK e => exact .base (.dK e)
/-- the class at C as far as == and != ask -/
structure OwnT (K : PySem.W.Frag) (C f : Addr) : Prop where
  q : OC.OwnQ K C f
  sint : PySem.W.subIn K (.ref C) (.type "int") = some false
  sbool : PySem.W.subIn K (.ref C) (.type "bool") = some false
  snon : PySem.W.subIn K (.ref C) (.type "NoneType") = some false
  sstr : PySem.W.subIn K (.ref C) (.type "str") = some false
  slst : PySem.W.subIn K (.ref C) (.type "list") = some false
  stup : PySem.W.subIn K (.ref C) (.type "tuple") = some false
  sdct : PySem.W.subIn K (.ref C) (.type "dict") = some false
theorem not_first {K : PySem.W.Frag} {C : Addr} {T : String} {l : List Value} (h : fastBuiltinMro T = some l) (hl : l.all (fun v => match v with | .type _ => true | _ => false) = true) : PySem.W.notFirst K C (.type T) = true := by
  unfold PySem.W.notFirst
  have e : PySem.W.subIn K (.type T) (.ref C) = some false := by
    show (fastBuiltinMro T).map (·.contains (.ref C)) = some false
    rw [h]
    show some (l.contains (.ref C)) = some false
    congr 1
    induction l with
    | nil => rfl
    | cons a r ih =>
      rw [List.all_cons, Bool.and_eq_true] at hl
      rw [List.contains_cons]
      have : (Value.ref C == a) = false := by
        cases a <;> first | rfl | (simp at hl)
        
      rw [this, Bool.false_or]
      clear h
      exact (by
        revert hl
        intro hl
        clear ih this
        have hl2 := hl.2
        clear hl
        induction r with
        | nil => rfl
        | cons b r ih2 =>
          rw [List.all_cons, Bool.and_eq_true] at hl2
          rw [List.contains_cons]
          have : (Value.ref C == b) = false := by
            cases b <;> first | rfl | (simp at hl2)
          rw [this, Bool.false_or]
          exact ih2 hl2.2)
  rw [e]
  simp
theorem Fo.nf {K : PySem.W.Frag} {H : Hp} {x : V} {T : String} {C : Addr} (h : Fo K H x T) : PySem.W.notFirst K C (.type T) = true := by
  cases h with
  | non => exact not_first (l := [.type "NoneType", .type "object"]) (by decide +kernel) (by decide +kernel)
  | bl b => exact not_first (l := [.type "bool", .type "int", .type "object"]) (by decide +kernel) (by decide +kernel)
  | int i => exact not_first (l := [.type "int", .type "object"]) (by decide +kernel) (by decide +kernel)
  | str x => exact not_first (l := [.type "str", .type "object"]) (by decide +kernel) (by decide +kernel)
  | lst e => exact not_first (l := [.type "list", .type "object"]) (by decide +kernel) (by decide +kernel)
  | tup e => exact not_first (l := [.type "tuple", .type "object"]) (by decide +kernel) (by decide +kernel)
  | dK e => exact not_first (l := [.type "dict", .type "object"]) (by decide +kernel) (by decide +kernel)
theorem Fo.sub {K : PySem.W.Frag} {H : Hp} {x : V} {T : String} {C f : Addr} (h : Fo K H x T) (O : OwnT K C f) : PySem.W.subIn K (.ref C) (.type T) = some false := by
  cases h with
  | non => exact O.snon
  | bl b => exact O.sbool
  | int i => exact O.sint
  | str x => exact O.sstr
  | lst e => exact O.slst
  | tup e => exact O.stup
  | dK e => exact O.sdct
section
variable {X : Cx} {pins : List (Addr × Obj)} {σ : St} {H : Hp} {s : Shared}
theorem Fo.typ {x : V} {u : Value} {T : String} (h : Fo X.K H x T) (I : Inv X pins σ H s) (r : RelV x u) : s.TypeIs u T := by
  cases h with
  | non => cases (show u = Value.none from r); rfl
  | bl b => cases (show u = Value.bool b from r); rfl
  | int i => obtain ⟨t, q⟩ := (show ∃ t, u = Value.int i t from r); cases q; rfl
  | str x => obtain ⟨t, q⟩ := (show ∃ t, u = Value.str x t from r); cases q; rfl
  | @lst a xs e =>
    cases (show u = Value.ref a from r)
    obtain ⟨_, _, n, _, h1⟩ := (show ObjOk X.prog X.w H s.heap a (.lst xs) from I.hok a _ e)
    exact ⟨_, h1, rfl⟩
  | @tup a xs e =>
    cases (show u = Value.ref a from r)
    obtain ⟨_, _, _, o, h1, h2, _⟩ := (show ObjOk X.prog X.w H s.heap a (.tup xs) from I.hok a _ e)
    exact ⟨o, h1, h2⟩
  | @dK a kvs e =>
    cases (show u = Value.ref a from r)
    obtain ⟨_, _, vs, _, o, es, ep, h1, h2, _⟩ := (show ObjOk X.prog X.w H s.heap a (.dK kvs) from I.hok a _ e)
    exact ⟨o, h1, h2.1⟩
theorem Fo.looks {x : V} {u : Value} {T : String} (h : Fo X.K H x T) (I : Inv X pins σ H s) (r : RelV x u) : PySem.W.Looks (model X.prog X.w) s.heap (typeOf u) (.type T) := by
  cases h with
  | non => cases (show u = Value.none from r); exact .of_pure rfl
  | bl b => cases (show u = Value.bool b from r); exact .of_pure rfl
  | int i => obtain ⟨t, q⟩ := (show ∃ t, u = Value.int i t from r); cases q; exact .of_pure rfl
  | str x => obtain ⟨t, q⟩ := (show ∃ t, u = Value.str x t from r); cases q; exact .of_pure rfl
  | @lst a xs e =>
    cases (show u = Value.ref a from r)
    obtain ⟨_, _, n, _, h1⟩ := (show ObjOk X.prog X.w H s.heap a (.lst xs) from I.hok a _ e)
    exact (PySem.W.Looks.ld h1).andThen .now
  | @tup a xs e =>
    cases (show u = Value.ref a from r)
    obtain ⟨_, _, _, o, h1, h2, _⟩ := (show ObjOk X.prog X.w H s.heap a (.tup xs) from I.hok a _ e)
    rw [← h2]
    exact (PySem.W.Looks.ld h1).andThen .now
  | @dK a kvs e =>
    cases (show u = Value.ref a from r)
    obtain ⟨_, _, vs, _, o, es, ep, h1, h2, _⟩ := (show ObjOk X.prog X.w H s.heap a (.dK kvs) from I.hok a _ e)
    rw [← h2.1]
    exact (PySem.W.Looks.ld h1).andThen .now
theorem Fo.one {x : V} {u : Value} {T : String} {op : CmpOp} {c : Addr} (h : Fo X.K H x T) (r : RelV x u) : oneThing? op u (.ref c) = none := by
  cases h with
  | non => cases (show u = Value.none from r); rfl
  | bl b => cases (show u = Value.bool b from r); rfl
  | int i => obtain ⟨t, q⟩ := (show ∃ t, u = Value.int i t from r); cases q; rfl
  | str x => obtain ⟨t, q⟩ := (show ∃ t, u = Value.str x t from r); cases q; rfl
  | @lst a xs e => cases (show u = Value.ref a from r); rfl
  | @tup a xs e => cases (show u = Value.ref a from r); rfl
  | @dK a kvs e => cases (show u = Value.ref a from r); rfl
theorem Fo.decl {A : Around} {x : V} {u : Value} {T : String} {op : CmpOp} {c C f : Addr} {ox : Obj} {od : Option Obj} (ho : OC.Is2 op) (h : Fo X.K H x T) (O : OwnT X.K C f) (I : Inv X pins σ H s) (r : RelV x u) (J : PySem.W.InstAt s.heap c ox C od) (hd : ox.data = .plain) :
    OC.Decl X.prog X.w A s op u (.ref c) := by
  cases h with
  | non => cases (show u = Value.none from r); exact OC.decl_none ho
  | bl b => cases (show u = Value.bool b from r); exact OC.decl_bool ho b J.at_ hd
  | int i => obtain ⟨t, q⟩ := (show ∃ t, u = Value.int i t from r); cases q; exact OC.decl_int ho i t J.at_ hd
  | str x => obtain ⟨t, q⟩ := (show ∃ t, u = Value.str x t from r); cases q; exact OC.decl_str ho x t J.at_ hd
  | @lst a xs e =>
    cases (show u = Value.ref a from r)
    obtain ⟨_, its, n, _, h1⟩ := (show ObjOk X.prog X.w H s.heap a (.lst xs) from I.hok a _ e)
    intro Q E hq
    rcases ho with rfl | rfl
    · exact wpAny_tryCompare_declines ⟨_, h1, rfl⟩ F.slot_list_eq (call_meets F.slot_list_eq ⟨_, h1, rfl⟩ F.entry_list_eq (F.args_list_eq_2 _ _) (OC.list_ref_eq a _ n _ _ c) ⟨fun M => OC.not_inst I.kIn J O.slst, h1, rfl, hq⟩)
    · exact wpAny_tryCompare_declines ⟨_, h1, rfl⟩ F.slot_list_ne (call_meets F.slot_list_ne ⟨_, h1, rfl⟩ F.entry_list_ne (F.args_list_ne_2 _ _) (OC.list_ref_ne a _ n _ _ c) ⟨fun M => OC.not_inst I.kIn J O.slst, h1, rfl, hq⟩)
  | @tup a xs e =>
    cases (show u = Value.ref a from r)
    obtain ⟨_, its, _, o, h1, h2, n, h3⟩ := (show ObjOk X.prog X.w H s.heap a (.tup xs) from I.hok a _ e)
    obtain ⟨oc, odd, dt, sl⟩ := o
    simp only at h2 h3
    subst h2 h3
    intro Q E hq
    rcases ho with rfl | rfl
    · exact wpAny_tryCompare_declines ⟨_, h1, rfl⟩ F.slot_tuple_eq (call_meets F.slot_tuple_eq ⟨_, h1, rfl⟩ F.entry_tuple_eq (F.args_tuple_eq_2 _ _) (OC.tup_ref_eq a _ n _ _ c) ⟨fun M => OC.not_inst I.kIn J O.stup, h1, rfl, hq⟩)
    · exact wpAny_tryCompare_declines ⟨_, h1, rfl⟩ F.slot_tuple_ne (call_meets F.slot_tuple_ne ⟨_, h1, rfl⟩ F.entry_tuple_ne (F.args_tuple_ne_2 _ _) (OC.tup_ref_ne a _ n _ _ c) ⟨fun M => OC.not_inst I.kIn J O.stup, h1, rfl, hq⟩)
  | @dK a kvs e =>
    cases (show u = Value.ref a from r)
    obtain ⟨_, _, vs, _, o, es, ep, h1, h2, _⟩ := (show ObjOk X.prog X.w H s.heap a (.dK kvs) from I.hok a _ e)
    intro Q E hq
    rcases ho with rfl | rfl
    · exact wpAny_tryCompare_declines ⟨_, h1, h2.1⟩ F.slot_dict_eq (call_meets F.slot_dict_eq ⟨_, h1, h2.1⟩ F.entry_dict_eq (F.args_dict_eq_2 _ _) (OC.dict_ref_eq a c h2) ⟨fun M => OC.not_inst I.kIn J O.sdct, h1, rfl, hq⟩)
    · exact wpAny_tryCompare_declines ⟨_, h1, h2.1⟩ F.slot_dict_ne (call_meets F.slot_dict_ne ⟨_, h1, h2.1⟩ F.entry_dict_ne (F.args_dict_ne_2 _ _) (OC.dict_ref_ne a c h2) ⟨fun M => OC.not_inst I.kIn J O.sdct, h1, rfl, hq⟩)
/-- what the own == promises: R tells its answer; nothing changes -/
def spOwn (R : Addr → V → Bool → Hp → Prop) : Sp := fun vs H Q _ => ∃ (a : Addr) (y : V) (b : Bool), vs = [.ref a, y] ∧ R a y b H ∧ Q (.bl b) H
/-- x == y, x != y, one of both an instance of the class at C -/
def rOwnB (K : PySem.W.Frag) (C : Addr) (R : Addr → V → Bool → Hp → Prop) (op : CmpOp) : R2 := fun x y H Q => ∃ b : Bool,
  ((∃ a dx fs, x = .ref a ∧ H a = some (.ins C dx fs) ∧ R a y b H ∧ ((∃ T, Fo K H y T) ∨ ∃ c dy gs, y = .ref c ∧ H c = some (.ins C dy gs))) ∨
    (∃ c dy gs T, y = .ref c ∧ H c = some (.ins C dy gs) ∧ Fo K H x T ∧ R c x b H)) ∧ Q (.bl (OC.turn op b)) H
theorem op_ownB {CX : CXT} {C f : Addr} {fd : FuncData} {ps : List Str} {n : Nat} {R : Addr → V → Bool → Hp → Prop} {E : XK} {op : CmpOp} (ho : OC.Is2 op) (F : FnOk X.prog X.w X.K X.mg X.base CX n f fd ps (spOwn R))
    (O : OwnT X.K C f) (hb : Binds X.K fd ps []) (hx : Passes CX X E) (hr : Room (n + 1) X.A) : OpR X (compareOp op) (rOwnB X.K C R op) := by
  intro pins s σ H x y v u Q I rx ry hq
  obtain ⟨b, hc, q⟩ := hq
  rw [OC.compareOp2 ho]
  have hu : X.A.units + 1 < cLine := hu_of hr
  -- the call of __eq__
  have run : ∀ (a : Addr) (y : V) (u : Value) (A' : Around), RelV y u → R a y b H → (A' = X.A ∨ A' = X.A.in1) →
      wpAny (model X.prog X.w) A' (call (.ref f) [.ref a, u]) (fun v s' => ∃ b, v = .bool b ∧ EP X pins σ Q (.bool (OC.turn op b)) s') X.xe s := by
    intro a y u A' ry hR hA
    have sb : Room n A' ∧ A'.frames = X.A.frames := by
      rcases hA with rfl | rfl
      · exact ⟨hr.mono (Nat.le_succ n), rfl⟩
      · exact ⟨hr.in1, rfl⟩
    have hsp : spOwn R [.ref a, y] H (fun v H' => v = .bl b ∧ H' = H) E := ⟨a, y, b, rfl, hR, rfl, rfl⟩
    have e0 : Env0 X.prog X.w X.K X.mg X.base A' X.stack s H := by
      have e := I.env0
      exact ⟨by rw [sb.2]; exact e.frames, e.mod, e.bs, e.bsz, e.funs, e.frf, e.hok, e.bare⟩
    have hl := F.len _ _ _ _ hsp
    have r2 : Vals [V.ref a, y] [Value.ref a, u] := .cons rfl (.cons ry .nil)
    refine wpAny_call (codeAny_mono (F.run A' X.stack s H ⟨[.ref a, u], []⟩ [.ref a, u] [.ref a, y] _ E sb.1 e0 (by
      have := hb s [.ref a, u] I.kIn (by simpa using hl)
      simpa using this) r2 hsp) fun r s' hq => ?_)
    cases r with
    | error e => exact hx pins σ H s e s' I hq
    | ok fl =>
      cases fl with
      | ret w =>
        obtain ⟨z, H', I', rz, ez, ex⟩ := I.after hq
        subst ez ex
        cases rz
        exact ⟨b, rfl, .bl (OC.turn op b), H', I', rfl, q⟩
      | next => exact False.elim hq
      | brk => exact False.elim hq
      | cont => exact False.elim hq
  rcases hc with ⟨a, dx, fs, rfl, ha, hR, hy⟩ | ⟨c, dy, gs, T, rfl, hc, hT, hR⟩
  · cases rx
    obtain ⟨mA, J, _⟩ := ins_get I.hok ha
    obtain ⟨od, J, _⟩ := J.look
    rcases hy with ⟨T, hT⟩ | ⟨c, dy, gs, rfl, hc⟩
    · exact OC.rc_left ho hu I.kIn J O.q (hT.looks I ry) hT.nf fun A' hA => run a y u A' ry hR hA
    · cases ry
      obtain ⟨mB, J', _⟩ := ins_get I.hok hc
      obtain ⟨od', J', _⟩ := J'.look
      exact OC.rc_left ho hu I.kIn J O.q J'.type (by simp [PySem.W.notFirst]) fun A' hA => run a (.ref c) _ A' rfl hR hA
  · cases ry
    obtain ⟨mA, J, _⟩ := ins_get I.hok hc
    obtain ⟨od, J, _⟩ := J.look
    exact OC.rc_right ho hu I.kIn J O.q (hT.typ I rx) (hT.sub O) (hT.one rx) (hT.decl ho O I rx J rfl) fun A' hA => run c x v A' rx hR hA
end
end L2
set_option Elab.async false
set_option linter.all false
set_option maxRecDepth 100000
set_option maxHeartbeats 4000000
namespace KG
open PySem L2
def top (i : Nat) : Stmt := PySem.Challenge.pw_bothwalks_k71_stuck_pairs_and_their_judg.main.body.getD i (.Pass ⟨0, 0, 0, 0⟩)
/-- a def of the text that stands, is kept and keeps its promise; nothing leaves it -/
structure Cal (P : Program) (w : World) (K : PySem.W.Frag) (mg : Str → Option Value) (base : Heap) (k : Nat) (x : Str) (ps : List Str) (sp : Sp) : Prop where
  ex : ∃ (f : Addr) (fd : FuncData), mg x = some (.ref f) ∧ PySem.W.keepIn K (.ref f) = true ∧ FnOk P w K mg base CX0 k f fd ps sp ∧ Binds K fd ps []
section
variable {X : Cx} {k : Nat} {ps : List Str} {sp : Sp} {x : Str} {p pos : Pos} {e : Expr} {es : List Expr} {t : TA}
theorem pe_cal (c : Cal X.prog X.w X.K X.mg X.base k x ps sp) (hr : Room k X.A) (hg : Gl X x) (ha : PA X (e :: es) t) (hdb : (x == ("__debug__" : Str)) = false := by decide)
    (he : starEach (e :: es) X.env = (false, eval e X.env) :: starEach es X.env := by rfl) (hpl : (backTo pos (starEach es X.env)).any (·.1) = false := by rfl) :
    PE X (.Call (.Name x p) (e :: es) [] pos) (tCall sp [] E0 t) := by
  obtain ⟨f, fd, hm, hk, F, hb⟩ := c.ex
  exact pe_call F hr hg hm hk hb .nil pass0 ha hdb he hpl
end
/-- a thing: a foreign one, or an instance of the class at C -/
inductive Thing (K : PySem.W.Frag) (C : Addr) (H : Hp) : V → Prop where
  | fo {x : V} {T : String} (h : Fo K H x T) : Thing K C H x
  | ins {a dx : Addr} {fs : List (Str × V)} (e : H a = some (.ins C dx fs)) : Thing K C H (.ref a)
def isI : V → Bool
  | .int _ => true
  | _ => false
/-- what isinstance asks of the class at C -/
structure InsT (K : PySem.W.Frag) (C : Addr) : Prop where
  cl : Cls K C
  ha : PySem.W.findIn K (.ref C) "__class__" = some (some (.builtin "object.__class__"))
  hn : PySem.W.specialIn K (.builtin "object.__class__") "__get__" = some (some (.builtin "getset_descriptor.__get__"))
  htk : PySem.W.takesIn K (.builtin "object.__class__") = some true
  hm : PySem.W.mroIn K C (.type "object") = some true
  kint : PySem.W.kitOne K (.ref C) (.type "int") = some false
  kbool : PySem.W.kitOne K (.ref C) (.type "bool") = some false
  kself : PySem.W.kitOne K (.ref C) (.ref C) = some true
  oint : PySem.W.kitOne K (.type "int") (.ref C) = some false
  obool : PySem.W.kitOne K (.type "bool") (.ref C) = some false
  onon : PySem.W.kitOne K (.type "NoneType") (.ref C) = some false
  ostr : PySem.W.kitOne K (.type "str") (.ref C) = some false
  olst : PySem.W.kitOne K (.type "list") (.ref C) = some false
  otup : PySem.W.kitOne K (.type "tuple") (.ref C) = some false
  odct : PySem.W.kitOne K (.type "dict") (.ref C) = some false
theorem InsT.ty {K : PySem.W.Frag} {C : Addr} {H : Hp} {a dx : Addr} {fs : List (Str × V)} (I : InsT K C) (e : H a = some (.ins C dx fs)) : TyX K H (.ref a) (.ref C) :=
  .base (.ins e I.cl I.ha I.hn I.htk I.hm)
theorem InsT.fo {K : PySem.W.Frag} {C : Addr} {H : Hp} {x : V} {T : String} (I : InsT K C) (h : Fo K H x T) : PySem.W.kitOne K (.type T) (.ref C) = some false := by
  cases h with
  | non => exact I.onon
  | bl b => exact I.obool
  | int i => exact I.oint
  | str x => exact I.ostr
  | lst e => exact I.olst
  | tup e => exact I.otup
  | dK e => exact I.odct
/-- isinstance(x, int) of a thing -/
def isIB : V → Bool
  | .int _ => true
  | .bl _ => true
  | _ => false
def isB : V → Bool
  | .bl _ => true
  | _ => false
theorem Thing.isInt {K : PySem.W.Frag} {C : Addr} {H : Hp} {x : V} (I : InsT K C) (h : Thing K C H x) : ∃ t, TyX K H x t ∧ PySem.W.kitOne K t (.type "int") = some (isIB x) ∧ PySem.W.kitOne K t (.type "bool") = some (isB x) := by
  cases h with
  | ins e => exact ⟨_, I.ty e, I.kint, I.kbool⟩
  | fo h =>
    refine ⟨_, h.ty, ?_⟩
    cases h with
    | non => exact ⟨by exact kit_ty (r := false) (by decide +kernel), by exact kit_ty (r := false) (by decide +kernel)⟩
    | bl b => exact ⟨by exact kit_ty (r := true) (by decide +kernel), by exact kit_ty (r := true) (by decide +kernel)⟩
    | int i => exact ⟨by exact kit_ty (r := true) (by decide +kernel), by exact kit_ty (r := false) (by decide +kernel)⟩
    | str x => exact ⟨by exact kit_ty (r := false) (by decide +kernel), by exact kit_ty (r := false) (by decide +kernel)⟩
    | lst e => exact ⟨by exact kit_ty (r := false) (by decide +kernel), by exact kit_ty (r := false) (by decide +kernel)⟩
    | tup e => exact ⟨by exact kit_ty (r := false) (by decide +kernel), by exact kit_ty (r := false) (by decide +kernel)⟩
    | dK e => exact ⟨by exact kit_ty (r := false) (by decide +kernel), by exact kit_ty (r := false) (by decide +kernel)⟩
/-- is_whole(x) -/
def spWhole (K : PySem.W.Frag) (C : Addr) : Sp := fun vs H Q _ => ∃ x, vs = [x] ∧ Thing K C H x ∧ Q (.bl (isI x)) H
/-- the built-in names that stand as they are -/
structure Bn (mg : Str → Option Value) : Prop where
  n_isinstance : mg "isinstance" = none
  n_int : mg "int" = none
  n_bool : mg "bool" = none
  n_abs : mg "abs" = none
  n_len : mg "len" = none
  n_str : mg "str" = none
  n_divmod : mg "divmod" = none
  n_ValueError : mg "ValueError" = none
section
variable {P : Program} {w : World} {K : PySem.W.Frag} {mg : Str → Option Value} {base : Heap} {C : Addr}
abbrev s_is_whole : Stmt := top 11
theorem sc_is_whole : FnScope ["thing"] ["thing"] (defScope s_is_whole) := ⟨rfl, rfl, rfl, by decide +kernel, rfl, by decide +kernel, by decide +kernel⟩
theorem ok_is_whole {f : Addr} {fd : FuncData} (F : Fun K "is_whole" "is_whole" s_is_whole f fd) (T : Bn mg) (I : InsT K C) : FnOk P w K mg base CX0 1 f fd ["thing"] (spWhole K C) := by
  refine F.ok sc_is_whole (fun vs H Q E h => ?_) (fun cdv A outer s H vs Q E hr h => ?_)
  · obtain ⟨x, rfl, _⟩ := h
    rfl
  · obtain ⟨x, rfl, h, k⟩ := h
    refine ⟨_, (pss_one (ps_ret (pe_and (pe_callB call_isi (by rfl) T.n_isinstance (by decide +kernel) (pa_cons (pv 0) (pa_cons (pe_bltn (v := .ty "int") rfl T.n_int (by decide +kernel) rfl) pa_nil))) (pe_one (pe_not (pe_callB call_isi (by rfl) T.n_isinstance (by decide +kernel) (pa_cons (pv 0) (pa_cons (pe_bltn (v := .ty "bool") rfl T.n_bool (by decide +kernel) rfl) pa_nil)))))))), ?_⟩
    obtain ⟨t, ty, k1, k2⟩ := h.isInt I
    refine ⟨_, rfl, x, .ty "int", t, _, _, rfl, .ty _, ty, k1, _, rfl, ?_⟩
    cases e : isIB x with
    | true =>
      refine iteT ⟨_, rfl, x, .ty "bool", t, _, _, rfl, .ty _, ty, k2, _, rfl, ?_⟩
      have : (!isB x) = isI x := by cases x <;> first | rfl | (simp [isIB] at e)
      rw [this]
      exact k
    | false =>
      refine iteF ?_
      have : isI x = false := by cases x <;> first | rfl | (simp [isIB] at e)
      rw [this] at k
      exact k
end
end KG
set_option Elab.async false
set_option linter.all false
set_option maxRecDepth 100000
set_option maxHeartbeats 4000000
namespace L2
open PySem PySem.Spec PyProof.Rows
/-- C.m(e, ..), C a class of the text by its global name, m a plain def of it, read off the class -/
structure ClsFn (K : PySem.W.Frag) (C : Addr) (mc : Value) (m : Str) (g : Addr) : Prop where
  rd : PySem.W.readsIn K C mc = true
  ga : PySem.W.specialIn K (.ref C) "__getattribute__" = some (some (.builtin "type.__getattribute__"))
  at_ : PySem.W.findCls K (.ref C) mc m = some (.val (.ref g))
  kp : PySem.W.keepIn K (.ref g) = true
theorem pe_clsfn {X : Cx} {CX : CXT} {k : Nat} {C g : Addr} {mc : Value} {fd : FuncData} {ps : List Str} {sp : Sp} {E : XK} {x m : Str} {p1 p2 pos : Pos} {e : Expr} {es : List Expr} {t : TA} {pl : Sem Bool}
    (c : ClsFn X.K C mc m g) (F : FnOk X.prog X.w X.K X.mg X.base CX k g fd ps sp) (hr : Room k X.A) (hg : Gl X x) (hm : X.mg x = some (.ref C)) (hb : Binds X.K fd ps []) (hx : Passes CX X E) (ha : PA X (e :: es) t) (hdb : (x == ("__debug__" : Str)) = false := by decide)
    (hc : eval (.Call (.Attribute (.Name x p1) m p2) (e :: es) [] pos) X.env = (do
      let ov ← eval (.Name x p1) X.env
      standAt p2.atName
      let (f, first) ← holding [ov] (getMethod ov m pl)
      callWith pos f first (backTo pos (starEach (e :: es) X.env)) (backToKw pos (keywordEach [] X.env))) := by rfl)
    (he : starEach (e :: es) X.env = (false, eval e X.env) :: starEach es X.env := by rfl) (hpl : (backTo pos (starEach es X.env)).any (·.1) = false := by rfl) :
    PE X (.Call (.Attribute (.Name x p1) m p2) (e :: es) [] pos) (tCall sp [] E t) := by
  refine ⟨fun pins s σ H Q I h => ?_⟩
  refine PySem.W.methodCall_KW (ld_glob I hg hm ?_ hdb) hc
  refine PySem.W.method_cls I.kIn c.ga (PySem.W.cls_value I.kIn c.rd c.at_ rfl ?_)
  have J := I.tok (s.toks + 1)
  show wpAny _ _ (callWith pos (Value.ref g) [] (backTo pos (starEach (e :: es) X.env)) []) _ _ _
  refine PySem.W.callWith_K (h₀ := X.base) J.ok.mod.kin c.kp (thn (ha.run pos pins _ σ H _ J h) fun us s1 ⟨vs, H1, I1, r, q⟩ => ⟨I1.kIn, ?_⟩) he hpl
  exact run_fn F hr hb .nil hx I1 r q
end L2
namespace KG
open PySem L2
section
variable {P : Program} {w : World} {K : PySem.W.Frag} {mg : Str → Option Value} {base : Heap}
/-- WalkError.__init__, of an exception that is being made -/
def spWE (K : PySem.W.Frag) : Sp := fun vs H Q _ => ∃ (a C : Addr) (y : V), vs = [.ref a, y] ∧ OexC K C ∧ H a = some (exo a C none) ∧ Q .non H
abbrev s_WE : Stmt := inClass (top 3) 0
theorem sc_WE : FnScope ["self", "words"] ["self", "words"] (defScope s_WE) := ⟨rfl, rfl, rfl, by decide +kernel, rfl, by decide +kernel, by decide +kernel⟩
theorem ok_WE {f : Addr} {fd : FuncData} {dvs : List V} (F : FunD K "__init__" "WalkError.__init__" (defArgs s_WE) (defBody s_WE) (defScope s_WE) dvs [] f fd) (T : Bn mg) (vV : PySem.W.findCls K (.type "ValueError") (.type "type") "__init__" = some (.val (.builtin "ValueError.__init__"))) :
    FnOk P w K mg base CX0 1 f fd ["self", "words"] (spWE K) := by
  refine F.ok sc_WE (fun vs H Q E h => ?_) (fun cdv A outer s H vs Q E hr h => ?_)
  · obtain ⟨a, C, y, rfl, _⟩ := h
    rfl
  · obtain ⟨a, C, y, rfl, O, ha, k⟩ := h
    refine ⟨_, pss_one (ps_expr (pe_veinit rfl T.n_ValueError vV (pa_cons (pv 0) (pa_cons (pv 1) pa_nil)))), ?_⟩
    exact ⟨_, rfl, _, rfl, a, C, [y], rfl, by show 1 ≤ 1000; decide, O, ha, k⟩
/-- BadShare.__init__: the two things are kept -/
def spBS (K : PySem.W.Frag) (B : Addr) : Sp := fun vs H Q _ => ∃ (a : Addr) (y z : V), vs = [.ref a, y, z] ∧ OexC K B ∧ PySem.W.findIn K (.ref B) "top" = some none ∧ PySem.W.findIn K (.ref B) "bottom" = some none ∧ H a = some (exo a B none) ∧
  ∀ dx, H dx = none → dx ≠ a → Q .non (upd (upd (upd H dx (exd dx [("top", y)])) a (exo a B (some dx))) dx (exd dx [("bottom", z), ("top", y)]))
abbrev s_BS : Stmt := inClass (top 4) 0
theorem sc_BS : FnScope ["self", "top", "bottom"] ["self", "top", "bottom"] (defScope s_BS) := ⟨rfl, rfl, rfl, by decide +kernel, rfl, by decide +kernel, by decide +kernel⟩
theorem ok_BS {f g W B : Addr} {mc : Value} {fd fdW : FuncData} (F : Fun K "__init__" "BadShare.__init__" s_BS f fd) (gW : mg "WalkError" = some (.ref W)) (c : ClsFn K W mc "__init__" g) (FW : FnOk P w K mg base CX0 1 g fdW ["self", "words"] (spWE K)) (bW : Binds K fdW ["self", "words"] []) :
    FnOk P w K mg base CX0 2 f fd ["self", "top", "bottom"] (spBS K B) := by
  refine F.ok sc_BS (fun vs H Q E h => ?_) (fun cdv A outer s H vs Q E hr h => ?_)
  · obtain ⟨a, y, z, rfl, _⟩ := h
    rfl
  · obtain ⟨a, y, z, rfl, O, nt, nb, ha, k⟩ := h
    refine ⟨_, pss_cons (ps_expr (pe_clsfn c FW hr rfl gW bW pass0 (pa_cons (pv 0) (pa_cons pe_str pa_nil))))
      (pss_cons (ps_ost (pv 0) (pv 1)) (pss_one (ps_ost (pv 0) (pv 2)))), ?_⟩
    refine ⟨_, rfl, a, B, _, rfl, O, ha, ?_⟩
    refine ⟨_, rfl, _, rfl, a, B, rfl, O, nt, .inl ⟨ha, fun dx hd ne => ?_⟩⟩
    refine ⟨_, rfl, _, rfl, a, B, rfl, O, nb, .inr ⟨dx, [("top", y)], upd_same, ?_, by show 1 ≤ 900; decide, ?_⟩⟩
    · rw [upd_ne ne, upd_same]
    · exact k dx hd ne
end
end KG
set_option Elab.async false
set_option linter.all false
set_option maxRecDepth 100000
set_option maxHeartbeats 4000000
namespace L2
open PySem PySem.Spec PyProof.Rows
/-- // by any divisor but 0 below 2 ^ 9000 -/
def CDivG (_ j : Int) : Prop := j ≠ 0 ∧ j.natAbs.log2 < 9000
theorem op_fdivG {X : Cx} : OpR X (binaryOp .FloorDiv) (rI CDivG fun i j => .int (i.fdiv j)) := opI fun _ _ _ _ _ _ _ hc q => floordiv_int hc.1 q (.inl (PyProof.noPylong_of_log2 hc.2))
end L2
namespace KG
open PySem L2
/-! ### a share's numbers -/
theorem kTB : ¬ (("top" : Str) = "bottom") := by decide +kernel
def shF (t n : Int) : List (Str × V) := putF "bottom" (.int n) (putF "top" (.int t) [])
theorem shF_top (t n : Int) : (shF t n).lookup ("top" : Str) = some (.int t) := by
  unfold shF
  rw [lookup_putF, if_neg kTB, lookup_putF, if_pos rfl]
theorem shF_bottom (t n : Int) : (shF t n).lookup ("bottom" : Str) = some (.int n) := by
  unfold shF
  rw [lookup_putF, if_pos rfl]
/-- the divisor: the greatest common one, with the bottom's sign -/
def sg (a b : Int) : Int := if 0 < b then ((Nat.gcd a.natAbs b.natAbs : Nat) : Int) else -((Nat.gcd a.natAbs b.natAbs : Nat) : Int)
def lowT (a b : Int) : Int := a.fdiv (sg a b)
def lowB (a b : Int) : Int := b.fdiv (sg a b)
theorem sg_abs (a b : Int) : (sg a b).natAbs = Nat.gcd a.natAbs b.natAbs := by
  unfold sg
  split
  · exact Int.natAbs_natCast _
  · rw [Int.natAbs_neg]
    exact Int.natAbs_natCast _
theorem gcd_pos {a b : Int} (hb : b ≠ 0) : 0 < Nat.gcd a.natAbs b.natAbs := Nat.gcd_pos_of_pos_right _ (Int.natAbs_pos.mpr hb)
theorem gcd_le {a b : Int} (hb : b ≠ 0) : Nat.gcd a.natAbs b.natAbs ≤ b.natAbs := Nat.gcd_le_right _ (Int.natAbs_pos.mpr hb)
theorem sg_ne {a b : Int} (hb : b ≠ 0) : sg a b ≠ 0 := fun z => by
  have h := sg_abs a b
  rw [z] at h
  have := gcd_pos (a := a) hb
  have h0 : (0 : Int).natAbs = 0 := rfl
  omega
theorem log2_mono {m n : Nat} (h : m ≤ n) : m.log2 ≤ n.log2 := by
  by_cases hm : m = 0
  · subst hm
    exact Nat.zero_le _
  · have hn : n ≠ 0 := by omega
    exact (Nat.le_log2 hn).mpr (Nat.le_trans (Nat.log2_self_le hm) h)
theorem sg_div {a b : Int} (hb : b ≠ 0) (hl : b.natAbs.log2 < 9000) (i : Int) : CDivG i (sg a b) :=
  ⟨sg_ne hb, by rw [sg_abs]; exact Nat.lt_of_le_of_lt (log2_mono (gcd_le hb)) hl⟩
/-! ### Share.__init__ -/
def bad (p q : V) : Prop := isI p = false ∨ isI q = false ∨ q = .int 0
def xF (p q : V) : List (Str × V) := [("bottom", q), ("top", p)]
def spSI (K : PySem.W.Frag) (C B : Addr) : Sp := fun vs H Q E => ∃ (x dx : Addr) (p q : V), vs = [.ref x, p, q] ∧ H x = some (.ins C dx []) ∧ Thing K C H p ∧ Thing K C H q ∧
  ((∃ a b : Int, p = .int a ∧ q = .int b ∧ b ≠ 0 ∧ b.natAbs.log2 < 9000 ∧ Q .non (upd H x (.ins C dx (shF (lowT a b) (lowB a b))))) ∨
    (bad p q ∧ ∀ (d : Addr) (H' : Hp), H d = none → Same H H' → H' d = some (.xd (xF p q)) → E (.ref B) (some d) H'))
/-- what the walk asks of the class Share -/
structure ShT (K : PySem.W.Frag) (mg : Str → Option Value) (C : Addr) : Prop where
  bn : Bn mg
  it : InsT K C
  nT : NoAttr K C "top"
  nB : NoAttr K C "bottom"
  g_gcd : mg "gcd" = some (.builtin "math.gcd")
  g_Share : mg "Share" = some (.ref C)
/-- .. of the class BadShare -/
structure BsT (P : Program) (w : World) (K : PySem.W.Frag) (mg : Str → Option Value) (base : Heap) (B : Addr) : Prop where
  O : OexC K B
  nt : PySem.W.findIn K (.ref B) "top" = some none
  nb : PySem.W.findIn K (.ref B) "bottom" = some none
  gB : mg "BadShare" = some (.ref B)
  made : ∃ (fI : Addr) (fd : FuncData), PySem.W.findIn K (.ref B) "__init__" = some (some (.ref fI)) ∧ PySem.W.typeIn K (.ref fI) = some (.type "function") ∧ FnOk P w K mg base CX0 2 fI fd ["self", "top", "bottom"] (spBS K B) ∧ Binds K fd ["self", "top", "bottom"] []
section
variable {P : Program} {w : World} {K : PySem.W.Frag} {mg : Str → Option Value} {base : Heap} {C B : Addr}
theorem iteB {c : Bool} {A B : Prop} (h1 : c = true → A) (h2 : c = false → B) : if c = true then A else B := by
  cases c
  · rw [if_neg (by decide)]
    exact h2 rfl
  · rw [if_pos rfl]
    exact h1 rfl
/-- the exception's dict behind the call of its class -/
theorem bs_end {H : Hp} {a dx : Addr} {p q : V} {B : Addr} (ha : H a = none) (hd : (upd H a (exo a B none)) dx = none) (ne : dx ≠ a) :
    Same H (upd (L2.del (upd (upd (upd (upd H a (exo a B none)) dx (exd dx [("top", p)])) a (exo a B (some dx))) dx (exd dx (xF p q))) a) dx (.xd (xF p q))) := fun b o h => by
  have nb : b ≠ a := ne_of_none h ha
  have nd : b ≠ dx := fun z => by rw [upd_ne ne] at hd; rw [z, hd] at h; cases h
  rw [upd_ne nd, del_ne nb, upd_ne nd, upd_ne nb, upd_ne nd, upd_ne nb]
  exact h
theorem isI_int {p : V} (h : isI p = true) : ∃ a, p = .int a := by cases p <;> first | exact ⟨_, rfl⟩ | cases h
abbrev s_SI : Stmt := inClass (top 25) 0
theorem sc_SI : FnScope ["self", "top", "bottom", "common"] ["self", "top", "bottom"] (defScope s_SI) := ⟨rfl, rfl, rfl, by decide +kernel, rfl, by decide +kernel, by decide +kernel⟩
theorem ok_SI {f : Addr} {fd : FuncData} {dvs : List V} (F : FunD K "__init__" "Share.__init__" (defArgs s_SI) (defBody s_SI) (defScope s_SI) dvs [] f fd) (T : ShT K mg C) (Bt : BsT P w K mg base B) (c_is_whole : Cal P w K mg base 1 "is_whole" ["thing"] (spWhole K C)) :
    FnOk P w K mg base (L2.CX P w) 4 f fd ["self", "top", "bottom"] (spSI K C B) := by
  obtain ⟨fI, fdI, iC, tI, FI, bI⟩ := Bt.made
  refine F.ok sc_SI (fun vs H Q E h => ?_) (fun cdv A outer s H vs Q E hr h => ?_)
  · obtain ⟨x, dx, p, q, rfl, _⟩ := h
    rfl
  · obtain ⟨x, dx, p, q, rfl, hx, hp, hq, k⟩ := h
    refine ⟨_, (pss_cons (ps_if (PW.pt (pw_or (pt_not (pt_val (pe_cal c_is_whole (hr.mono (by decide)) rfl (pa_cons (pv 1) pa_nil)))) (pw_or (pt_not (pt_val (pe_cal c_is_whole (hr.mono (by decide)) rfl (pa_cons (pv 2) pa_nil)))) (pw_or1 (pt_cmpR op_eq (pv 2) pe_int (nomark _))))))
        (pss_one (ps_raise (W := fun cls d _ H => E cls d H) rfl (takes_of rfl rfl rfl rfl) (pmk_oex Bt.O iC tI FI hr bI .nil pass0 rfl Bt.gB (pa_cons (pv 1) (pa_cons (pv 2) pa_nil)))))
        pss_nil)
      (pss_cons (ps_set (i := 3) sc_SI.nd rfl (Or.inl rfl) (pe_ifExp (pt_cmpR op_gt (pv 2) pe_int (nomark _)) (pe_callBfun cr_gcd rfl T.g_gcd (pa_cons (pv 1) (pa_cons (pv 2) pa_nil))) (pe_un un_neg (pe_callBfun cr_gcd rfl T.g_gcd (pa_cons (pv 1) (pa_cons (pv 2) pa_nil))))))
      (pss_cons (ps_fld (pv 0) (pe_op op_fdivG (pv 1) (pv 3)) rfl)
      (pss_one (ps_fld (pv 0) (pe_op op_fdivG (pv 2) (pv 3)) rfl))))), ?_⟩
    -- BadShare(top, bottom)
    have raise : bad p q → ∀ (σ : St), σ[1]? = some (some p) → σ[2]? = some (some q) →
        tMkO B (spBS K B) [] (tCons (tVar 1) (tCons (tVar 2) tNil)) σ H (fun cls d H' => E cls d H') := by
      intro hb σ h1 h2
      rcases k with ⟨a, b, rfl, rfl, nz, _⟩ | ⟨_, k⟩
      · rcases hb with z | z | z
        · cases z
        · cases z
        · exact absurd (V.int.inj z) nz
      · refine ⟨p, h1, q, h2, by show 2 ≤ 1000; decide, fun a ha => ?_⟩
        refine ⟨a, p, q, rfl, Bt.O, Bt.nt, Bt.nb, upd_same, fun d hd ne => ⟨rfl, d, xF p q, ?_, upd_same, ?_, ?_⟩⟩
        · rw [upd_ne ne.symm, upd_same]
        · rw [upd_ne ne] at hd
          exact hd
        · refine k d _ ?_ (bs_end ha hd ne) upd_same
          rw [upd_ne ne] at hd
          exact hd
    refine ⟨_, rfl, p, rfl, hp, _, rfl, iteB (fun z => ?_) (fun z => ?_)⟩
    · refine iteT (raise (.inl ?_) _ rfl rfl)
      simpa using z
    · refine ⟨_, rfl, q, rfl, hq, _, rfl, iteB (fun z2 => ?_) (fun z2 => ?_)⟩
      · refine iteT (raise (.inr (.inl ?_)) _ rfl rfl)
        simpa using z2
      · obtain ⟨a, rfl⟩ := isI_int (p := p) (by simpa using z)
        obtain ⟨b, rfl⟩ := isI_int (p := q) (by simpa using z2)
        refine ⟨_, rfl, rfl, _, rfl, ?_⟩
        refine ite2 (fun e => ?_) (fun e => ?_)
        · have e' : V.int b = V.int 0 := of_decide_eq_true e
          exact raise (.inr (.inr e')) _ rfl rfl
        · have nz : b ≠ 0 := fun z => e (by rw [z]; exact decide_eq_true rfl)
          rcases k with ⟨a', b', ea, eb, _, hl, k⟩ | ⟨hb, _⟩
          · cases ea
            cases eb
            -- common
            refine ⟨_, rfl, _, _, rfl, rfl, _, rfl, ?_⟩
            have rest : ∀ c : Int, c = sg a b → (tSeq (sFld K (tVar 0) (tOp (rI CDivG fun i j => .int (i.fdiv j)) (tVar 1) (tVar 3)) "top") (sFld K (tVar 0) (tOp (rI CDivG fun i j => .int (i.fdiv j)) (tVar 2) (tVar 3)) "bottom"))
                { nx := fun _ H' => Q .non H', rt := Q } [some (.ref x), some (.int a), some (.int b), some (.int c)] H := by
              rintro c rfl
              refine ⟨_, rfl, _, rfl, a, sg a b, rfl, rfl, sg_div nz hl a, ?_⟩
              refine ⟨_, rfl, x, C, dx, [], rfl, hx, T.it.cl, T.nT, by show 0 < 1000; decide, ?_⟩
              refine ⟨_, rfl, _, rfl, b, sg a b, rfl, rfl, sg_div nz hl b, ?_⟩
              refine ⟨_, rfl, x, C, dx, _, rfl, upd_same, T.it.cl, T.nB, by show 1 < 1000; decide, ?_⟩
              rw [upd_upd]
              exact k
            refine ite2 (fun e2 => ?_) (fun e2 => ?_)
            · refine ⟨_, rfl, _, rfl, a, b, rfl, ?_⟩
              refine rest _ ?_
              unfold sg
              rw [if_pos (of_decide_eq_true e2)]
            · refine ⟨_, rfl, _, rfl, a, b, rfl, _, rfl, ?_⟩
              refine rest _ ?_
              unfold sg
              rw [if_neg (fun z => e2 (decide_eq_true z))]
          · rcases hb with z | z | z
            · cases z
            · cases z
            · exact absurd (V.int.inj z) nz
end
end KG
set_option Elab.async false
set_option linter.all false
set_option maxRecDepth 100000
set_option maxHeartbeats 4000000
namespace KG
open PySem L2
/-- == of a share at a and y -/
def EqS (K : PySem.W.Frag) (C : Addr) (a : Addr) (y : V) (b : Bool) (H : Hp) : Prop := ∃ (dx : Addr) (t n : Int), H a = some (.ins C dx (shF t n)) ∧
  ((∃ (c dy : Addr) (t' n' : Int), y = .ref c ∧ H c = some (.ins C dy (shF t' n')) ∧ b = (decide (V.int t = V.int t') && decide (V.int n = V.int n'))) ∨
    (∃ T, Fo K H y T) ∧ b = (isI y && (decide (V.int n = V.int 1) && decide (V.int t = y))))
section
variable {P : Program} {w : World} {K : PySem.W.Frag} {mg : Str → Option Value} {base : Heap} {C B : Addr}
abbrev s_eq : Stmt := inClass (top 25) 8
theorem sc_eq : FnScope ["self", "other"] ["self", "other"] (defScope s_eq) := ⟨rfl, rfl, rfl, by decide +kernel, rfl, by decide +kernel, by decide +kernel⟩
theorem ok_eq {f : Addr} {fd : FuncData} (F : Fun K "__eq__" "Share.__eq__" s_eq f fd) (T : ShT K mg C) (c_is_whole : Cal P w K mg base 1 "is_whole" ["thing"] (spWhole K C)) :
    FnOk P w K mg base CX0 2 f fd ["self", "other"] (spOwn (EqS K C)) := by
  refine F.ok sc_eq (fun vs H Q E h => ?_) (fun cdv A outer s H vs Q E hr h => ?_)
  · obtain ⟨a, y, b, rfl, _⟩ := h
    rfl
  · obtain ⟨a, y, b, rfl, ⟨dx, t, n, ha, hy⟩, k⟩ := h
    refine ⟨_, (pss_cons (ps_if (pt_val (pe_callB call_isi (by rfl) T.bn.n_isinstance (by decide +kernel) (pa_cons (pv 1) (pa_cons (pe_glob (v := .ref C) rfl T.g_Share rfl) pa_nil))))
        (pss_one (ps_ret (pe_and (pe_cmpR op_eq (pe_fld (pv 0) rfl) (pe_fld (pv 1) rfl) (nomark _)) (pe_one (pe_cmpR op_eq (pe_fld (pv 0) rfl) (pe_fld (pv 1) rfl) (nomark _))))))
        pss_nil)
      (pss_one (ps_ret (pe_and (pe_cal c_is_whole (hr.mono (by decide)) rfl (pa_cons (pv 1) pa_nil)) (pe_and (pe_cmpR op_eq (pe_fld (pv 0) rfl) pe_int (nomark _)) (pe_one (pe_cmpR op_eq (pe_fld (pv 0) rfl) (pv 1) (nomark _)))))))), ?_⟩
    rcases hy with ⟨c, dy, t', n', rfl, hc, rfl⟩ | ⟨⟨T', hT⟩, rfl⟩
    · refine ⟨_, rfl, .ref c, .ref C, _, _, true, rfl, .own C, T.it.ty hc, T.it.kself, _, rfl, iteT ?_⟩
      refine ⟨_, rfl, a, C, dx, _, _, rfl, ha, T.it.cl, T.nT, shF_top _ _, _, rfl, c, C, dy, _, _, rfl, hc, T.it.cl, T.nT, shF_top _ _, rfl, _, rfl, iteB (fun z => ?_) (fun z => ?_)⟩
      · refine ⟨_, rfl, a, C, dx, _, _, rfl, ha, T.it.cl, T.nB, shF_bottom _ _, _, rfl, c, C, dy, _, _, rfl, hc, T.it.cl, T.nB, shF_bottom _ _, rfl, ?_⟩
        rw [z, Bool.true_and] at k
        exact k
      · rw [z, Bool.false_and] at k
        exact k
    · refine ⟨_, rfl, y, .ref C, _, _, false, rfl, .own C, hT.ty, T.it.fo hT, _, rfl, iteF ?_⟩
      refine ⟨_, rfl, y, rfl, .fo hT, _, rfl, iteB (fun z => ?_) (fun z => ?_)⟩
      · rw [z, Bool.true_and] at k
        obtain ⟨i, rfl⟩ := isI_int z
        refine ⟨_, rfl, a, C, dx, _, _, rfl, ha, T.it.cl, T.nB, shF_bottom _ _, rfl, _, rfl, iteB (fun z => ?_) (fun z => ?_)⟩
        · refine ⟨_, rfl, a, C, dx, _, _, rfl, ha, T.it.cl, T.nT, shF_top _ _, _, rfl, rfl, ?_⟩
          rw [z, Bool.true_and] at k
          exact k
        · rw [z, Bool.false_and] at k
          exact k
      · rw [z, Bool.false_and] at k
        exact k
end
end KG
set_option Elab.async false
set_option linter.all false
set_option maxRecDepth 100000
set_option maxHeartbeats 4000000
namespace KG
open PySem L2
/-! ### the pool of the draws -/
/-- its list: a number below 2 ^ 64, and what is left of the greatest cell -/
def PoolL (o : HO) : Prop := ∃ n g : Int, o = .lst [.int n, .int g] ∧ 0 ≤ n ∧ n < 2 ^ 64 ∧ 0 ≤ g
def PoolAt (H : Hp) (a : Addr) : Prop := ∃ o, H a = some o ∧ PoolL o
theorem PoolAt.put {H : Hp} {a : Addr} {o : HO} (h : PoolL o) : PoolAt (upd H a o) a := ⟨o, upd_same, h⟩
/-- all that was tracked, but the pool, stands -/
def Keep (a : Addr) (H H' : Hp) : Prop := ∀ b o, H b = some o → b ≠ a → H' b = some o
theorem Keep.refl (a : Addr) (H : Hp) : Keep a H H := fun _ _ h _ => h
theorem Keep.trans {a : Addr} {H H1 H2 : Hp} (x : Keep a H H1) (y : Keep a H1 H2) : Keep a H H2 := fun b o h n => y b o (x b o h n) n
theorem Keep.put {a : Addr} {H : Hp} (o : HO) : Keep a H (upd H a o) := fun b u h n => by rw [upd_ne n]; exact h
theorem Keep.of {a : Addr} {H H' : Hp} (s : Same H H') : Keep a H H' := fun b o h _ => s b o h
theorem Same.put {H : Hp} {p : Addr} {o : HO} (h : H p = none) : Same H (upd H p o) := fun b u e => by rw [upd_ne (ne_of_none e h)]; exact e
theorem PoolAt.new {H : Hp} {a p : Addr} {o : HO} (h : PoolAt H a) (hp : H p = none) : PoolAt (upd H p o) a := by
  obtain ⟨u, e, q⟩ := h
  exact ⟨u, by rw [upd_ne (ne_of_none e hp)]; exact e, q⟩
theorem PoolAt.same {H H' : Hp} {a : Addr} (h : PoolAt H a) (s : Same H H') : PoolAt H' a := by
  obtain ⟨u, e, q⟩ := h
  exact ⟨u, s _ _ e, q⟩
theorem PoolAt.ne {H : Hp} {a b : Addr} {xs : List V} (h : PoolAt H a) (e : H b = some (.tup xs)) : b ≠ a := fun z => by
  obtain ⟨u, e2, n, g, q, _⟩ := h
  rw [z, e2, q] at e
  cases e
theorem PoolAt.nei {H : Hp} {a b C dx : Addr} {fs : List (Str × V)} (h : PoolAt H a) (e : H b = some (.ins C dx fs)) : b ≠ a := fun z => by
  obtain ⟨u, e2, n, g, q, _⟩ := h
  rw [z, e2, q] at e
  cases e
theorem SqT.put {K : PySem.W.Frag} {H : Hp} {a t : Addr} {xs : List V} {o : HO} (h : PoolAt H a) (s : SqT K H t xs) : SqT K (upd H a o) t xs := by
  obtain ⟨u, e2, n, g, q, _⟩ := h
  rcases s with (s | ⟨ob, s⟩) | s
  · refine .inl (.inl ?_)
    rw [upd_ne (fun z => by rw [z, e2, q] at s; cases s)]
    exact s
  · refine .inl (.inr ⟨ob, ?_⟩)
    rw [upd_ne (fun z => by rw [z, e2, q] at s; cases s)]
    exact s
  · exact .inr s
/-- the next number of the pool -/
def nextN (n : Int) : Int := ((n + 7919) * 6364136223846793005 + 1442695040888963407).fmod ((2 : Int) ^ (64 : Int).toNat)
theorem nextN_ok (n : Int) : 0 ≤ nextN n ∧ nextN n < 2 ^ 64 := by
  have e2 : ((2 : Int) ^ (64 : Int).toNat) = 18446744073709551616 := by decide +kernel
  unfold nextN
  rw [e2, Int.fmod_eq_emod_of_nonneg _ (by decide)]
  exact ⟨Int.emod_nonneg _ (by decide), Int.emod_lt_of_pos _ (by decide)⟩
def spDraw : Sp := fun vs H Q _ => ∃ (a : Addr) (m : Int), vs = [.ref a, .int m] ∧ PoolAt H a ∧ 0 < m ∧ m.natAbs.log2 < 9000 ∧ ∀ (r : Int) (o : HO), 0 ≤ r → r < m → PoolL o → Q (.int r) (upd H a o)
theorem log_small {m : Int} {b : Nat} (h : m.natAbs < 2 ^ b) (h0 : 0 < b) (hb : b ≤ 9000) : m.natAbs.log2 < 9000 := Nat.lt_of_lt_of_le (PySem.Flt.log2_lt_of h0 h) hb
theorem at0 {x y : V} : atI [x, y] 0 = some x := by
  have h : ([x, y] : List V)[0]? = some x := rfl
  exact atI_nat h
theorem at1 {x y : V} : atI [x, y] 1 = some y := by
  have h : ([x, y] : List V)[1]? = some y := rfl
  exact atI_nat h
section
variable {P : Program} {w : World} {K : PySem.W.Frag} {mg : Str → Option Value} {base : Heap} {C B : Addr}
abbrev s_draw : Stmt := top 61
theorem sc_draw : FnScope ["_law_pool_here", "_law_many", "_law_digit"] ["_law_pool_here", "_law_many"] (defScope s_draw) := ⟨rfl, rfl, rfl, by decide +kernel, rfl, by decide +kernel, by decide +kernel⟩
theorem ok_draw {f : Addr} {fd : FuncData} (F : Fun K "_law_draw" "_law_draw" s_draw f fd) (T : Bn mg) : FnOk P w K mg base CX0 1 f fd ["_law_pool_here", "_law_many"] spDraw := by
  refine F.ok sc_draw (fun vs H Q E h => ?_) (fun cdv A outer s H vs Q E hr h => ?_)
  · obtain ⟨a, m, rfl, _⟩ := h
    rfl
  · obtain ⟨a, m, rfl, ⟨_, ha, n, g, rfl, n0, n1, g0⟩, m0, ml, k⟩ := h
    have ia : ∀ {H' : Hp} {n g : Int}, H' a = some (.lst [.int n, .int g]) → SqL K H' a [.int n, .int g] := fun h => SqL.of h
    refine ⟨_, (pss_cons (ps_if (pt_cmpR op_ge (pe_ix ix_list (pv 0) pe_int (fun _ _ => rfl)) (pe_op op_pow pe_int pe_int) (nomark _))
        (pss_cons (ps_set (i := 2) sc_draw.nd rfl (Or.inl rfl) (pe_op op_modN (pe_callTy call_int1 (by rfl) T.n_int (by decide +kernel) (pa_cons (pe_ix ix_list (pv 0) pe_int (fun _ _ => rfl)) pa_nil)) (pv 1)))
          (pss_cons (ps_asg (pe_op op_fdivW (pe_ix ix_list (pv 0) pe_int (fun _ _ => rfl)) (pv 1)) (pg_sub (pv 0) pe_int set_list))
          (pss_one (ps_ret (pv 2)))))
        pss_nil)
      (pss_cons (ps_asg (pe_op op_modN (pe_callTy call_int1 (by rfl) T.n_int (by decide +kernel) (pa_cons (pe_op op_add (pe_op op_mul (pe_callTy call_int1 (by rfl) T.n_int (by decide +kernel) (pa_cons (pe_op op_add (pe_ix ix_list (pv 0) pe_int (fun _ _ => rfl)) pe_int) pa_nil)) pe_int) pe_int) pa_nil)) (pe_op op_pow pe_int pe_int)) (pg_sub (pv 0) pe_int set_list))
      (pss_one (ps_ret (pe_op op_modN (pe_callTy call_int1 (by rfl) T.n_int (by decide +kernel) (pa_cons (pe_op op_fdivW (pe_ix ix_list (pv 0) pe_int (fun _ _ => rfl)) pe_int) pa_nil)) (pv 1)))))), ?_⟩
    refine ⟨_, rfl, a, _, 1, _, rfl, rfl, ia ha, at1, 10, 9, rfl, rfl, ⟨by decide, by decide, by decide⟩, g, _, rfl, rfl, _, rfl, ite2 (fun e => ?_) (fun e => ?_)⟩
    · refine ⟨_, rfl, a, _, 1, _, rfl, rfl, ia ha, at1, .inl ⟨g, rfl, _, rfl, g, m, rfl, rfl, by omega, ?_⟩⟩
      refine ⟨_, rfl, a, _, 1, _, rfl, rfl, ia ha, at1, _, rfl, g, m, rfl, rfl, ⟨m0, ml⟩, ?_⟩
      refine ⟨_, rfl, a, _, 1, 1, rfl, rfl, ha, rfl, _, rfl, ?_⟩
      have e1 : g.fmod m = g % m := Int.fmod_eq_emod_of_nonneg g (by omega)
      show Q (.int (g.fmod m)) (upd H a (.lst [.int n, .int (g / m)]))
      rw [e1]
      exact k _ _ (Int.emod_nonneg g (by omega)) (Int.emod_lt_of_pos g m0) ⟨n, g / m, rfl, n0, n1, Int.ediv_nonneg g0 (by omega)⟩
    · refine ⟨_, rfl, a, _, 0, _, rfl, rfl, ia ha, at0, n, 7919, rfl, rfl, .inl ⟨n + 7919, rfl, _, _, rfl, rfl, .inr ⟨by decide, by decide⟩, _, _, rfl, rfl, .inl ⟨_, rfl, ?_⟩⟩⟩
      refine ⟨2, 64, rfl, rfl, ⟨by decide, by decide, by decide⟩, _, _, rfl, rfl, (by show ((2 : Int) ^ (64 : Int).toNat) ≠ 0; decide +kernel), ?_⟩
      refine ⟨_, rfl, a, _, 0, 0, rfl, rfl, ha, rfl, ?_⟩
      obtain ⟨z0, z1⟩ := nextN_ok n
      refine ⟨_, rfl, a, _, 0, _, rfl, rfl, ia (n := nextN n) (g := g) upd_same, at0, nextN n, 65536, rfl, rfl, ⟨by decide, by decide⟩, .inl ⟨_, rfl, _, rfl, _, m, rfl, rfl, by omega, ?_⟩⟩
      have e1 : (nextN n / 65536).fmod m = (nextN n / 65536) % m := Int.fmod_eq_emod_of_nonneg _ (by omega)
      show Q (.int ((nextN n / 65536).fmod m)) (upd H a (.lst [.int (nextN n), .int g]))
      rw [e1]
      exact k _ _ (Int.emod_nonneg _ (by omega)) (Int.emod_lt_of_pos _ m0) ⟨nextN n, g, rfl, z0, z1, g0⟩
abbrev s_pick : Stmt := top 62
theorem sc_pick : FnScope ["_law_pool_here", "_law_things"] ["_law_pool_here", "_law_things"] (defScope s_pick) := ⟨rfl, rfl, rfl, by decide +kernel, rfl, by decide +kernel, by decide +kernel⟩
end
end KG
set_option Elab.async false
set_option linter.all false
set_option maxRecDepth 100000
set_option maxHeartbeats 4000000
namespace KG
open PySem L2
theorem take_more {α : Type} : ∀ {l : List α} {i : Nat} {x : α}, l[i]? = some x → l.take (i + 1) = l.take i ++ [x]
  | [], i, x, h => by simp at h
  | a :: l, 0, x, h => by
    have e : a = x := Option.some.inj h
    subst e
    rfl
  | a :: l, i + 1, x, h => by
    have ih := take_more (l := l) (i := i) (x := x) h
    show a :: l.take (i + 1) = a :: l.take i ++ [x]
    rw [ih]
    rfl
theorem at_map {ms : List Int} {i : Nat} {x : V} (h : (ms.map V.int)[i]? = some x) : ∃ z, ms[i]? = some z ∧ x = .int z := by
  rw [List.getElem?_map] at h
  cases e : ms[i]? with
  | none => rw [e] at h; cases h
  | some z => rw [e] at h; exact ⟨z, rfl, (Option.some.inj h).symm⟩
theorem cut_map (ns : List Int) (lo hi : Option Int) : ∃ ms : List Int, cutV (ns.map V.int) lo hi = ms.map V.int ∧ ms.length ≤ ns.length := by
  refine ⟨(ns.drop (HT.sIx (ns.map V.int).length 0 lo)).take (HT.sIx (ns.map V.int).length (ns.map V.int).length hi - HT.sIx (ns.map V.int).length 0 lo), ?_, ?_⟩
  · unfold cutV
    rw [List.map_take, List.map_drop]
  · rw [List.length_take, List.length_drop]
    omega
theorem yes_of {σ : St} {H : Hp} {A B : Hp → Prop} (h : A H) : tYes σ H (fun b H3 => if b = true then A H3 else B H3) := by
  show (if true = true then A H else B H)
  rw [if_pos rfl]
  exact h
def spPool (K : PySem.W.Frag) : Sp := fun vs H Q _ => ∃ (a : Addr) (ns : List Int), vs = [.ref a] ∧ SqL K H a (ns.map V.int) ∧ ns.length ≤ 63 ∧ ∀ (p : Addr) (H' : Hp), Same H H' → H p = none → PoolAt H' p → Q (.ref p) H'
theorem sml {n : Nat} (h : n ≤ 1000) : n < sizeLine := small1000 h
section
variable {P : Program} {w : World} {K : PySem.W.Frag} {mg : Str → Option Value} {base : Heap} {C B : Addr}
abbrev s_pool : Stmt := top 60
theorem sc_pool : FnScope ["_law_script", "_law_cells", "_law_number", "_law_cell", "_law_great"] ["_law_script"] (defScope s_pool) := ⟨rfl, rfl, rfl, by decide +kernel, rfl, by decide +kernel, by decide +kernel⟩
theorem ok_pool {f : Addr} {fd : FuncData} (F : Fun K "_law_pool" "_law_pool" s_pool f fd) (T : Bn mg) : FnOk P w K mg base CX0 1 f fd ["_law_script"] (spPool K) := by
  refine F.ok sc_pool (fun vs H Q E h => ?_) (fun cdv A outer s H vs Q E hr h => ?_)
  · obtain ⟨a, ns, rfl, _⟩ := h
    rfl
  · obtain ⟨a, ns, rfl, ha, hl, k⟩ := h
    refine ⟨_, (pss_cons (ps_set (i := 1) sc_pool.nd rfl (Or.inl rfl) (pe_op op_cat (pe_lc (own := [("_law_cell", 3)]) rfl sc_pool.nd (pi_list (pe_slice sl_list (pv 0) po_none (po_some pe_int))) (blkOk_by (N := ["_law_script", "_law_cells", "_law_number", "_law_cell", "_law_great"]) (sc := defScope s_pool) (by decide +kernel)) (fun _ _ _ _ _ => (pg_name (i := 3) sc_pool.nd rfl (Or.inl rfl))) (fun _ _ _ _ _ => pts_nil) (fun _ _ _ _ _ => (pe_callTy call_int1 (by rfl) T.n_int (by decide +kernel) (pa_cons (pv 3) pa_nil)))) (pe_lst (pa_cons (pe_callB call_len_seq (by rfl) T.n_len PySem.boot_len (pa_cons (pe_slice sl_list (pv 0) po_none (po_some pe_int)) pa_nil)) pa_nil))))
      (pss_cons (ps_set (i := 2) sc_pool.nd rfl (Or.inl rfl) pe_int)
      (pss_cons (ps_for PassesOwn.never rfl (pi_list (pv 1)) (pg_name (i := 3) sc_pool.nd rfl (Or.inl rfl))
        (pss_one (ps_set (i := 2) sc_pool.nd rfl (Or.inl rfl) (pe_op op_modN (pe_callTy call_int1 (by rfl) T.n_int (by decide +kernel) (pa_cons (pe_op op_add (pe_op op_add (pe_op op_mul (pv 2) pe_int) (pv 3)) pe_int) pa_nil)) (pe_op op_sub (pe_op op_pow pe_int pe_int) pe_int)))))
      (pss_cons (ps_setLc (i := 4) (own := [("_law_cell", 3)]) rfl sc_pool.nd rfl rfl (sw_true rfl rfl rfl (by decide +kernel)) (pi_list (pv 1)) (blkOk_by (N := ["_law_script", "_law_cells", "_law_number", "_law_cell", "_law_great"]) (sc := defScope s_pool) (by decide +kernel)) (fun _ _ _ _ _ => (pg_name (i := 3) sc_pool.nd rfl (Or.inl rfl))) (fun _ _ _ _ _ => (pts_one (pt_cmpR op_ge (pe_callB call_abs (by rfl) T.n_abs (by decide +kernel) (pa_cons (pv 3) pa_nil)) (pe_op op_pow pe_int pe_int) (nomark _)))) (fun _ _ _ _ _ => (pe_callB call_abs (by rfl) T.n_abs (by decide +kernel) (pa_cons (pv 3) pa_nil))))
      (pss_one (ps_ret (pe_lst (pa_cons (pv 2) (pa_cons (pe_ix ix_list (pe_op op_cat (pv 4) (pe_lst (pa_cons pe_int pa_nil))) pe_int (fun _ _ => rfl)) pa_nil))))))))), ?_⟩
    obtain ⟨ms, hms, hml⟩ := cut_map ns none (some 60)
    -- the cells
    refine ⟨_, rfl, _, rfl, a, _, rfl, ha, fun p1 np1 => ?_⟩
    rw [hms]
    refine ⟨p1, rfl, ⟨_, SqL.of upd_same⟩, fun D nD => ?_⟩
    refine lc_list (K := K) (a := p1) (xs := ms.map V.int) (fun i H' => H' = upd (upd H p1 (.lst (ms.map V.int))) D (.lst ((ms.take i).map V.int))) rfl (fun i H' hi e => ?_) ?_ ?_
    · rw [e]
      have ne : p1 ≠ D := fun z => by rw [← z, upd_same] at nD; cases nD
      exact SqL.of (by rw [upd_ne ne, upd_same])
    · rintro i x H' hi rfl
      obtain ⟨z, hz, rfl⟩ := at_map hi
      refine ⟨rfl, yes_of ?_⟩
      refine ⟨_, rfl, .inl ⟨z, rfl, _, upd_same, ?_, ?_⟩⟩
      · rw [List.length_map, List.length_take]
        exact sml (by omega)
      · rw [upd_upd, take_more hz, List.map_append]
        rfl
    · rintro H' rfl
      rw [List.length_map, List.take_length]
      have s1 : Same H (upd (upd H p1 (.lst (ms.map V.int))) D (.lst (ms.map V.int))) := (Same.put np1).trans (Same.put nD)
      have eD : (upd (upd H p1 (.lst (ms.map V.int))) D (.lst (ms.map V.int))) D = some (.lst (ms.map V.int)) := upd_same
      generalize (upd (upd H p1 (.lst (ms.map V.int))) D (.lst (ms.map V.int))) = H1 at s1 eD ⊢
      refine ⟨_, rfl, _, rfl, a, _, rfl, s1.seq ha, fun p2 np2 => ?_⟩
      rw [hms]
      refine ⟨p2, _, rfl, .inl (SqL.of upd_same), by show 1 ≤ sizeLine; decide, fun p3 np3 => ?_⟩
      rw [List.length_map]
      have s2 : Same H1 (upd (upd H1 p2 (.lst (ms.map V.int))) p3 (.lst [V.int (ms.length : Int)])) := (Same.put np2).trans (Same.put np3)
      refine ⟨D, p3, ms.map V.int, [V.int (ms.length : Int)], rfl, rfl, s2 _ _ eD, upd_same, ?_, fun p4 np4 => ?_⟩
      · rw [List.length_map]
        exact Nat.le_of_lt (sml (by show ms.length + 1 ≤ 1000; omega))
      have s3 : Same H (upd (upd (upd H1 p2 (.lst (ms.map V.int))) p3 (.lst [V.int (ms.length : Int)])) p4 (.lst ((ms ++ [(ms.length : Int)]).map V.int))) := (s1.trans s2).trans (Same.put np4)
      have e4 : (ms.map V.int ++ [V.int (ms.length : Int)]) = (ms ++ [(ms.length : Int)]).map V.int := by rw [List.map_append]; rfl
      rw [e4]
      have eC : (upd (upd (upd H1 p2 (.lst (ms.map V.int))) p3 (.lst [V.int (ms.length : Int)])) p4 (.lst ((ms ++ [(ms.length : Int)]).map V.int))) p4 = some (.lst ((ms ++ [(ms.length : Int)]).map V.int)) := upd_same
      have hcl : (ms ++ [(ms.length : Int)]).length ≤ 64 := by
        rw [List.length_append]
        show ms.length + 1 ≤ 64
        omega
      generalize (upd (upd (upd H1 p2 (.lst (ms.map V.int))) p3 (.lst [V.int (ms.length : Int)])) p4 (.lst ((ms ++ [(ms.length : Int)]).map V.int))) = H4 at s3 eC ⊢
      generalize ms ++ [(ms.length : Int)] = cs at eC hcl ⊢
      -- the number
      refine ⟨_, rfl, p4, rfl, ⟨_, SqL.of eC⟩, for_list (K := K) (a := p4) (xs := cs.map V.int) (fun i σ H' => H' = H4 ∧ ∃ (n : Int) (v : Option V), 0 ≤ n ∧ n < 2 ^ 64 ∧ σ = [some (.ref a), some (.ref p4), some (.int n), v, none]) ⟨rfl, 7, none, by decide, by decide, rfl⟩ (fun i σ H' _ h => by rw [h.1]; exact SqL.of eC) ?_ ?_⟩
      · rintro i x σ H' hi ⟨rfl, n, v, n0, n1, rfl⟩
        obtain ⟨z, hz, rfl⟩ := at_map hi
        refine ⟨_, rfl, _, _, rfl, rfl, .inr ⟨by decide, by decide⟩, _, rfl, _, _, rfl, rfl, _, _, rfl, rfl, .inl ⟨_, rfl, 2, 61, rfl, rfl, ⟨by decide, by decide, by decide⟩, _, _, rfl, rfl, _, _, rfl, rfl, ?_, rfl, ?_⟩⟩
        · show ((2 : Int) ^ (61 : Int).toNat - 1) ≠ 0
          decide +kernel
        · have e : ((2 : Int) ^ (61 : Int).toNat - 1) = 2305843009213693951 := by decide +kernel
          refine ⟨(n * 48271 + z + 11).fmod ((2 : Int) ^ (61 : Int).toNat - 1), some (.int z), ?_, ?_, rfl⟩
          · rw [e, Int.fmod_eq_emod_of_nonneg _ (by decide)]
            exact Int.emod_nonneg _ (by decide)
          · rw [e, Int.fmod_eq_emod_of_nonneg _ (by decide)]
            exact Int.lt_trans (Int.emod_lt_of_pos _ (by decide)) (by decide)
      · rintro σ H4 ⟨rfl, n, v, n0, n1, rfl⟩
        -- the great cells
        refine ⟨_, rfl, p4, rfl, ⟨_, SqL.of eC⟩, fun G nG => ?_⟩
        refine lc_list (K := K) (a := p4) (xs := cs.map V.int) (fun i H' => ∃ gs : List Int, H' = upd H4 G (.lst (gs.map V.int)) ∧ gs.length ≤ i ∧ ∀ g ∈ gs, 0 ≤ g) ⟨[], rfl, Nat.le_refl _, fun _ h => by cases h⟩ (fun i H' hi h => ?_) ?_ ?_
        · obtain ⟨gs, e, _⟩ := h
          rw [e]
          exact SqL.of (by rw [upd_ne (ne_of_none eC nG)]; exact eC)
        · rintro i x H' hi ⟨gs, rfl, gl, g0⟩
          obtain ⟨z, hz, rfl⟩ := at_map hi
          have hi2 : i < cs.length := (List.getElem?_eq_some_iff.mp hz).1
          refine ⟨rfl, _, rfl, z, rfl, 10, 18, rfl, rfl, ⟨by decide, by decide, by decide⟩, _, _, rfl, rfl, _, rfl, iteB (fun _ => ?_) (fun _ => ?_)⟩
          · refine ⟨_, rfl, z, rfl, _, upd_same, ?_, gs ++ [if z < 0 then -z else z], ?_, ?_, ?_⟩
            · rw [List.length_map]
              exact sml (by omega)
            · rw [upd_upd, List.map_append]
              rfl
            · rw [List.length_append]
              show gs.length + 1 ≤ i + 1
              omega
            · intro g hg
              rcases List.mem_append.mp hg with h | h
              · exact g0 g h
              · have e := List.mem_singleton.mp h
                rw [e]
                split <;> omega
          · exact ⟨gs, rfl, Nat.le_succ_of_le gl, g0⟩
        · rintro H' ⟨gs, rfl, gl, g0⟩
          rw [List.length_map] at gl
          have s4 : Same H (upd H4 G (.lst (gs.map V.int))) := s3.trans (Same.put nG)
          have eG : (upd H4 G (.lst (gs.map V.int))) G = some (.lst (gs.map V.int)) := upd_same
          generalize (upd H4 G (.lst (gs.map V.int))) = H5 at s4 eG ⊢
          refine ⟨_, rfl, _, rfl, by show 1 ≤ sizeLine; decide, fun p5 np5 => ?_⟩
          refine ⟨G, p5, gs.map V.int, [.int 0], rfl, rfl, Same.put np5 _ _ eG, upd_same, ?_, fun p6 np6 => ?_⟩
          · rw [List.length_map]
            exact Nat.le_of_lt (sml (by show gs.length + 1 ≤ 1000; omega))
          have hd : ∃ g : Int, (gs.map V.int ++ [V.int 0])[0]? = some (V.int g) ∧ 0 ≤ g := by
            cases gs with
            | nil => exact ⟨0, rfl, Int.le_refl _⟩
            | cons g r => exact ⟨g, rfl, g0 g (List.mem_cons_self ..)⟩
          obtain ⟨g, hg, gg⟩ := hd
          refine ⟨p6, _, 0, .int g, rfl, rfl, SqL.of upd_same, atI_nat hg, by show 2 ≤ sizeLine; decide, fun p7 np7 => ?_⟩
          have s5 := ((s4.trans (Same.put np5)).trans (Same.put np6)).trans (Same.put (o := .lst [.int n, .int g]) np7)
          exact k p7 _ s5 (((s4.trans (Same.put np5)).trans (Same.put np6)).free np7) ⟨_, upd_same, n, g, rfl, n0, n1, gg⟩
end
end KG
set_option Elab.async false
set_option linter.all false
set_option maxRecDepth 100000
set_option maxHeartbeats 4000000
/-! + - * with an instance of an own class: its own methods, on the left and on the right -/
namespace OA
open PySem PySem.SeqAt PySem.W Builtin PySem.Calls PyProof.Rows
section
variable {prog : Program} {w : World} {A : Around} {E : Value → Shared → Prop} {s : Shared} {K : Frag} {x C f g : Addr} {ox : Obj} {od : Option Obj} {nm sym : String}
/-- both of one class: the left one's method -/
theorem bin_twins {op : Operator} {b : Value} {Q : Value → Shared → Prop} (hi : op.info = (sym, nm)) (X : K.In s.heap) (I : InstAt s.heap x ox C od) (hc : selfFirst K C = true) (hs : findIn K (.ref C) (PySem.dunder nm) = some (some (.ref f))) (hf : isFn K (.ref f) = true)
    (hb : Looks (model prog w) s.heap (typeOf b) (.ref C)) (h : wpAny (model prog w) A (call (.ref f) [.ref x, b]) (PySem.W.CmpBack Q) E s) : wpAny (model prog w) A (binaryOp op (.ref x) b) Q E s := by
  obtain ⟨cd, rest, hcd, hm⟩ := ksp_first hc
  have one := ksp_try X I hs hf h
  obtain ⟨hp, gs, dd, tk, os⟩ := s
  have T1 : Looks (model prog w) hp (typeOf (.ref x)) (.ref C) := I.type
  have T2 : Looks (model prog w) hp (fillsNumberSlot (.ref C) nm) true := fills_K X hcd hm hs
  simp only [binaryOp, hi]
  refine wpAny_holding (wpAny_bind ?_)
  unfold binaryOp1
  refine wpAny_bind (T1.at (wpAny_bind (hb.at (wpAny_bind (T2.at ?_)))))
  have self : (Value.ref C == Value.ref C) = true := beq_iff_eq.mpr rfl
  simp only [self, if_true]
  ksp_lk
  refine wpAny_mono one (fun r s' hr => ?_) fun _ _ e => e
  obtain ⟨v, rfl, hq⟩ := hr
  ksp_lk
  exact hq
/-- an int on the right of an instance: the instance's method -/
theorem bin_left_int {op : Operator} {i : Int} {ti : Tok} {ro : Option Value} {Q : Value → Shared → Prop} (hi : op.info = (sym, nm)) (X : K.In s.heap) (I : InstAt s.heap x ox C od) (hc : selfFirst K C = true) (hs : findIn K (.ref C) (PySem.dunder nm) = some (some (.ref f))) (hf : isFn K (.ref f) = true)
    (hr : findIn K (.ref C) (dunderR nm) = some (some (.ref g))) (ho : findIn K (.type "int") (dunderR nm) = some ro) (hn : fillsNumberSlot (.type "int") nm = pure true) (hsub : subIn K (.type "int") (.ref C) = some false)
    (h : wpAny (model prog w) A (call (.ref f) [.ref x, .int i ti]) (PySem.W.CmpBack Q) E s) : wpAny (model prog w) A (binaryOp op (.ref x) (.int i ti)) Q E s := by
  obtain ⟨cd, rest, hcd, hm⟩ := ksp_first hc
  have one := ksp_try X I hs hf h
  obtain ⟨hp, gs, dd, tk, os⟩ := s
  have T1 : Looks (model prog w) hp (typeOf (.ref x)) (.ref C) := I.type
  have T2 : Looks (model prog w) hp (fillsNumberSlot (.ref C) nm) true := fills_K X hcd hm hs
  have T3 : Looks (model prog w) hp (typeOf (.int i ti)) (.type "int") := Looks.of_pure rfl
  have T4 : Looks (model prog w) hp (fillsNumberSlot (.type "int") nm) true := Looks.of_pure hn
  have T5 : Looks (model prog w) hp (isSubtype (.type "int") (.ref C)) false := looks_subIn X hsub
  have T6 : Looks (model prog w) hp (numberSlotInPython (.ref C) nm) true := ksp_inPy X hs hr (.inr ⟨_, rfl⟩)
  have T7 : Looks (model prog w) hp (numberSlotInPython (.type "int") nm) false := Looks.of_pure rfl
  have T8 : Looks (model prog w) hp (typeLookup (.type "int") (dunderR nm)) ro := looks_findIn X ho
  have other : (Value.ref C == Value.type "int") = false := Bool.eq_false_iff.mpr fun q => by cases beq_iff_eq.mp q
  simp only [binaryOp, hi]
  refine wpAny_holding (wpAny_bind ?_)
  unfold binaryOp1
  refine wpAny_bind (T1.at (wpAny_bind (T3.at (wpAny_bind (T2.at ?_)))))
  simp only [other, Bool.false_eq_true, if_false]
  ksp_lk
  refine wpAny_mono one (fun r s' hr => ?_) fun _ _ e => e
  obtain ⟨v, rfl, hq⟩ := hr
  ksp_lk
  exact hq
/-- an int on the left: its own method declines, then the instance's reflected one -/
theorem bin_right_int {op : Operator} {i : Int} {ti : Tok} {id : String} {Q : Value → Shared → Prop} (hi : op.info = (sym, nm)) (X : K.In s.heap) (I : InstAt s.heap x ox C od) (hc : selfFirst K C = true) (hs : findIn K (.ref C) (PySem.dunder nm) = some (some (.ref f)))
    (hr : findIn K (.ref C) (dunderR nm) = some (some (.ref g))) (hg : isFn K (.ref g) = true) (hn : fillsNumberSlot (.type "int") nm = pure true) (hsub : subIn K (.ref C) (.type "int") = some false) (sl : Slot "int" (PySem.dunder nm) id)
    (hd : ∀ (Q' : Value → Shared → Prop) (E' : Value → Shared → Prop), Q' .notImplemented s → wpAny (model prog w) A (call (.builtin id) [.int i ti, .ref x]) Q' E' s)
    (h : wpAny (model prog w) A (call (.ref g) [.ref x, .int i ti]) (PySem.W.CmpBack Q) E s) : wpAny (model prog w) A (binaryOp op (.int i ti) (.ref x)) Q E s := by
  obtain ⟨cd, rest, hcd, hm⟩ := ksp_first hc
  have two := ksp_try X I hr hg h
  have one : ∀ (Q' : Option Value → Shared → Prop) (E' : Value → Shared → Prop), Q' none s → wpAny (model prog w) A (tryMethod (.int i ti) (PySem.dunder nm) (.ref x)) Q' E' s := fun Q' E' q => wpAny_tryMethod_declines (typeIs_int s i ti) sl (hd _ _ ⟨rfl, q⟩)
  obtain ⟨hp, gs, dd, tk, os⟩ := s
  have T1 : Looks (model prog w) hp (typeOf (.ref x)) (.ref C) := I.type
  have T2 : Looks (model prog w) hp (fillsNumberSlot (.ref C) nm) true := fills_K X hcd hm hs
  have T3 : Looks (model prog w) hp (typeOf (.int i ti)) (.type "int") := Looks.of_pure rfl
  have T4 : Looks (model prog w) hp (fillsNumberSlot (.type "int") nm) true := Looks.of_pure hn
  have T5 : Looks (model prog w) hp (isSubtype (.ref C) (.type "int")) false := looks_subIn X hsub
  have T7 : Looks (model prog w) hp (numberSlotInPython (.type "int") nm) false := Looks.of_pure rfl
  have other : (Value.type "int" == Value.ref C) = false := Bool.eq_false_iff.mpr fun q => by cases beq_iff_eq.mp q
  simp only [binaryOp, hi]
  refine wpAny_holding (wpAny_bind ?_)
  unfold binaryOp1
  refine wpAny_bind (T3.at (wpAny_bind (T1.at (wpAny_bind (T4.at ?_)))))
  simp only [other, Bool.false_eq_true, if_false]
  ksp_lk
  refine one _ _ ?_
  ksp_lk
  refine wpAny_mono two (fun r s' hr => ?_) fun _ _ e => e
  obtain ⟨v, rfl, hq⟩ := hr
  ksp_lk
  exact hq
end
end OA
set_option Elab.async false
set_option linter.all false
set_option maxRecDepth 100000
set_option maxHeartbeats 4000000
namespace OA
open PySem PySem.SeqAt PySem.W Builtin
open AutoSeq1 (wpAny_loadPart')
open MeetsSeq MeetsSeq2 MeetsSeq3 SeqRoads2
section
variable {prog : Program} {w : World} {A : Around} {E : Value → Shared → Prop} {s : Shared} {x : Addr} {ox : Obj}
/-- the int's own method hands back NotImplemented at an instance -/
def Declines (id : String) : Prop := ∀ (prog : Program) (w : World) (A : Around) (s : Shared) (i : Int) (ti : Tok) (x : Addr) (ox : Obj), s.heap.get? x = some ox → ox.data = .plain → ∀ (Q E : Value → Shared → Prop), Q .notImplemented s → wpAny (model prog w) A (call (.builtin id) [.int i ti, .ref x]) Q E s
theorem at_add (b : Int) (u : Tok) {o : Obj} (hd : o.data = .plain) (l : Addr) : Meets (Builtin.«int.__add__» ⟨[.int b u, .ref l], []⟩) (fun _ R s => s.heap.get? l = some o ∧ R (.ok (.ret .notImplemented)) s) :=
  .of_wp fun prog w A R s h => by obtain ⟨cls, dd, data, sl⟩ := o; obtain ⟨hp, g, d, tk, os⟩ := s; obtain ⟨hl, h⟩ := h; simp only at hd; subst hd; wp_walk using wpAny_loadPart' hl, wpAny_load hl; exact ⟨_, rfl, h⟩
theorem dec_add : Declines "int.__add__" := fun prog w A s i ti x ox hx hd Q E q => call_meets F.slot_int_add (typeIs_int s i ti) F.entry_int_add (F.args_int_add_2 _ _) (at_add i ti hd x) ⟨hx, q⟩
end
end OA
set_option Elab.async false
set_option linter.all false
set_option maxRecDepth 100000
set_option maxHeartbeats 4000000
namespace L2
open PySem PySem.Spec PyProof.Rows
/-- the class's own method for op, at f -/
structure ArL (K : PySem.W.Frag) (C : Addr) (op : Operator) (sym nm : String) (f : Addr) : Prop where
  hi : op.info = (sym, nm)
  hc : PySem.W.selfFirst K C = true
  hs : PySem.W.findIn K (.ref C) (PySem.dunder nm) = some (some (.ref f))
  hf : PySem.W.isFn K (.ref f) = true
/-- its reflected one, at g, and what int says of the op -/
structure ArR (K : PySem.W.Frag) (C : Addr) (nm : String) (g : Addr) : Prop where
  hr : PySem.W.findIn K (.ref C) (dunderR nm) = some (some (.ref g))
  hg : PySem.W.isFn K (.ref g) = true
  ho : ∃ ro, PySem.W.findIn K (.type "int") (dunderR nm) = some ro
  hn : fillsNumberSlot (.type "int") nm = pure true
  up : PySem.W.subIn K (.type "int") (.ref C) = some false
  dn : PySem.W.subIn K (.ref C) (.type "int") = some false
  dec : ∃ id, Slot "int" (PySem.dunder nm) id ∧ OA.Declines id
theorem back_of {z : V} {u : Value} {Q : Value → Shared → Prop} {s : Shared} (r : RelV z u) (q : Q u s) : PySem.W.CmpBack Q u s := by
  cases z with
  | non => cases (show u = Value.none from r); exact q
  | bl b => cases (show u = Value.bool b from r); exact q
  | int i => obtain ⟨t, e⟩ := (show ∃ t, u = Value.int i t from r); cases e; exact q
  | str x => obtain ⟨t, e⟩ := (show ∃ t, u = Value.str x t from r); cases e; exact q
  | byt b => obtain ⟨t, e⟩ := (show ∃ t, u = Value.bytes b t from r); cases e; exact q
  | flt b => obtain ⟨t, e⟩ := (show ∃ t, u = Value.float b t from r); cases e; exact q
  | ref a => cases (show u = Value.ref a from r); exact q
  | ty n => cases (show u = Value.type n from r); exact q
/-- x op y: one of both at least an instance of the class at C, the other one too, or an int -/
def rAr (C : Addr) (spF spG : Sp) : R2 := fun x y H Q =>
  (∃ a dx fs, x = .ref a ∧ H a = some (.ins C dx fs) ∧ ((∃ i, y = .int i) ∨ ∃ c dy gs, y = .ref c ∧ H c = some (.ins C dy gs)) ∧ spF [x, y] H Q E0) ∨
    (∃ i c dy gs, x = .int i ∧ y = .ref c ∧ H c = some (.ins C dy gs) ∧ spG [y, x] H Q E0)
section
variable {X : Cx} {C f g : Addr} {sym nm : String} {fd gd : FuncData} {ps qs : List Str} {n n' : Nat} {spF spG : Sp} {op : Operator}
/-- a def of the text is called by an operator -/
theorem run_two {E : Value → Shared → Prop} {pins : List (Addr × Obj)} {s : Shared} {σ : St} {H : Hp} {x y : V} {v u : Value} {Q : VK} (F : FnOk X.prog X.w X.K X.mg X.base CX0 n f fd ps spF) (hb : Binds X.K fd ps []) (hr : Room n X.A) (I : Inv X pins σ H s) (rx : RelV x v) (ry : RelV y u) (hsp : spF [x, y] H Q E0) :
    wpAny (model X.prog X.w) X.A (call (.ref f) [v, u]) (PySem.W.CmpBack (EP X pins σ Q)) E s := by
  have hl := F.len _ _ _ _ hsp
  have r2 : Vals [x, y] [v, u] := .cons rx (.cons ry .nil)
  refine wpAny_call (codeAny_mono (F.run X.A X.stack s H ⟨[v, u], []⟩ [v, u] [x, y] _ E0 hr I.env0 (by
    have := hb s [v, u] I.kIn (by simpa using hl)
    simpa using this) r2 hsp) fun r s' hq => ?_)
  cases r with
  | error e => exact hq.elim
  | ok fl =>
    cases fl with
    | ret w =>
      obtain ⟨z, H', I', rz, q⟩ := I.after hq
      exact back_of rz ⟨z, H', I', rz, q⟩
    | next => exact False.elim hq
    | brk => exact False.elim hq
    | cont => exact False.elim hq
/-- an operator that lets nothing out -/
def OpN (X : Cx) (f : Value → Value → Sem Value) (r : R2) : Prop := ∀ (E : Value → Shared → Prop) (pins : List (Addr × Obj)) (s : Shared) (σ : St) (H : Hp) (x y : V) (v u : Value) (Q : VK), Inv X pins σ H s → RelV x v → RelV y u → r x y H Q → wpAny (model X.prog X.w) X.A (f v u) (EP X pins σ Q) E s
theorem OpN.toR {f : Value → Value → Sem Value} {r : R2} (h : OpN X f r) : OpR X f r := fun pins s σ H x y v u Q I rx ry q => h _ pins s σ H x y v u Q I rx ry q
theorem op_ar (L : ArL X.K C op sym nm f) (R : ArR X.K C nm g) (F : FnOk X.prog X.w X.K X.mg X.base CX0 n f fd ps spF) (hb : Binds X.K fd ps []) (hr : Room n X.A)
    (G : FnOk X.prog X.w X.K X.mg X.base CX0 n' g gd qs spG) (hbG : Binds X.K gd qs []) (hrG : Room n' X.A) : OpN X (binaryOp op) (rAr C spF spG) := by
  intro E pins s σ H x y v u Q I rx ry hq
  rcases hq with ⟨a, dx, fs, rfl, ha, hy, hsp⟩ | ⟨i, c, dy, gs, rfl, rfl, hc, hsp⟩
  · cases (show v = Value.ref a from rx)
    obtain ⟨mA, J, _⟩ := ins_get I.hok ha
    obtain ⟨od, J, _⟩ := J.look
    have go := run_two (E := E) F hb hr I rx ry hsp
    rcases hy with ⟨i, rfl⟩ | ⟨c, dy, gs, rfl, hc⟩
    · obtain ⟨ti, e⟩ := (show ∃ t, u = Value.int i t from ry)
      subst e
      obtain ⟨ro, ho⟩ := R.ho
      exact OA.bin_left_int L.hi I.kIn J L.hc L.hs L.hf R.hr ho R.hn R.up go
    · cases (show u = Value.ref c from ry)
      obtain ⟨mB, J', _⟩ := ins_get I.hok hc
      obtain ⟨od', J', _⟩ := J'.look
      exact OA.bin_twins L.hi I.kIn J L.hc L.hs L.hf J'.type go
  · cases (show u = Value.ref c from ry)
    obtain ⟨ti, e⟩ := (show ∃ t, v = Value.int i t from rx)
    subst e
    obtain ⟨mA, J, _⟩ := ins_get I.hok hc
    obtain ⟨od, J, _⟩ := J.look
    obtain ⟨id, sl, dec⟩ := R.dec
    exact OA.bin_right_int L.hi I.kIn J L.hc L.hs R.hr R.hg R.hn R.dn sl (fun Q' E' q => dec _ _ _ _ _ _ _ _ J.at_ rfl Q' E' q) (run_two G hbG hrG I ry rx hsp)
end
end L2
set_option Elab.async false
set_option linter.all false
set_option maxRecDepth 100000
set_option maxHeartbeats 4000000
/-! sum(row, start=share): a row of numbers of which some are instances of an own class -/
namespace L2
open PySem PySem.Spec PyProof.Rows
def Cx.inn (X : Cx) : Cx := { X with A := X.A.in1 }
section
variable {X : Cx} {pins : List (Addr × Obj)} {σ : St} {H : Hp} {s : Shared}
theorem Inv.inn (I : Inv X pins σ H s) : Inv X.inn pins σ H s :=
  ⟨⟨I.ok.mod, I.ok.kind, I.ok.glob, I.ok.blt, I.ok.above, I.ok.inj, I.ok.has, I.ok.cab, I.ok.hd, I.ok.frames, I.ok.stk, I.ok.exf, I.ok.bs, I.ok.bsz, I.ok.noex, I.ok.exfs, I.ok.funs, I.ok.frf⟩, I.os, I.bare, I.base, I.loc, I.cell, I.free, I.freeC, I.pin, I.hok, I.len⟩
theorem Inv.outn (I : Inv X.inn pins σ H s) (ok : X.Ok) : Inv X pins σ H s := ⟨ok, I.os, I.bare, I.base, I.loc, I.cell, I.free, I.freeC, I.pin, I.hok, I.len⟩
/-- the state of the sum: a list of the one total -/
def sumSt (v : Value) (c : Nat) : Obj := { cls := .type "list", dict := none, data := .seq #[v] c, slots := #[] }
theorem sum_turns {rA : R2} {l it S : Addr} {xs : List V} {Q : VK} (hc : X.calm = true) (op : OpN X.inn (binaryOp .Add) rA) (Pv : Nat → V → Hp → Prop) (own : ∀ i acc H, Pv i acc H → ∃ a, acc = .ref a) (row : ∀ i acc H, i ≤ xs.length → Pv i acc H → SqT X.K H l xs)
    (step : ∀ i acc x H, xs[i]? = some x → Pv i acc H → rA acc x H (Pv (i + 1))) (fin : ∀ acc H, Pv xs.length acc H → Q acc H) (ne : it ≠ S) :
    ∀ (k i : Nat) (acc : V) (v : Value) (c : Nat) (H : Hp) (s : Shared), xs.length - i = k → i ≤ xs.length → Inv X pins σ H s → RelV acc v → Pv i acc H → s.heap.IsTupleIter it l i → s.heap.get? S = some (sumSt v c) → FpOk X pins H it → FpOk X pins H S →
      codeAny (model X.prog X.w) X.A (.builtin "sum.loop" ⟨[.ref it, .ref S, rawInt 2, rawInt 0], []⟩) (fun r s' => match r with | .ok (.ret v) => EP X pins σ Q v s' | .ok _ => False | .error e => X.xe e s') s := by
  intro k
  induction k with
  | zero =>
    intro i acc v c H s hk hi I rv pv st hS fi fS
    have e : i = xs.length := by omega
    subst e
    obtain ⟨a, rfl⟩ := own _ _ _ pv
    obtain rfl : v = Value.ref a := rv
    obtain ⟨its, ri, pl, hz⟩ := I.tuple (row _ _ _ hi pv)
    have hl := ri.length
    obtain ⟨f0, f1, f2, f3, f4, f5⟩ := fi
    refine codeAny_builtin F.entry_sum_loop ?_
    rw [Around.under_plainId F.plain_sum_loop _]
    show wpAny _ X.A.in1 (seqItems? (.ref S) >>= _) _ _ s
    refine wpAny_bind (wpAny_seqItems hS rfl ?_)
    show wpAny _ X.A.in1 (tryCatch (pyNext (.ref it)) _ >>= _) _ _ s
    refine wpAny_bind (wpAny_tryCatch (wpAny_pyNext_tuple_end (I.ok.hd hc) st (show s.heap.IsTuple l its.toArray from pl) (by simp; omega) fun h' eb => ?_))
    exact wpAny_pure ⟨.ref a, H, I.turned (t' := s.toks) (fun b o hb e => eb b o hb e) f0 f1 f3 f4 f5, rfl, fin _ _ pv⟩
  | succ k ih =>
    intro i acc v c H s hk hi I rv pv st hS fi fS
    have hlt : i < xs.length := by omega
    obtain ⟨a, rfl⟩ := own _ _ _ pv
    obtain rfl : v = Value.ref a := rv
    have hx : xs[i]? = some xs[i] := by simp [hlt]
    obtain ⟨its, ri, pl, hz⟩ := I.tuple (row _ _ _ hi pv)
    obtain ⟨u, hu, ru⟩ := ri.get hx
    have go := step i (.ref a) xs[i] H hx pv
    generalize xs[i] = x at go ru
    obtain ⟨f0, f1, f2, f3, f4, f5⟩ := id fi
    obtain ⟨g0, g1, g2, g3, g4, g5⟩ := id fS
    refine codeAny_builtin F.entry_sum_loop ?_
    rw [Around.under_plainId F.plain_sum_loop _]
    show wpAny _ X.A.in1 (seqItems? (.ref S) >>= _) _ _ s
    refine wpAny_bind (wpAny_seqItems hS rfl ?_)
    show wpAny _ X.A.in1 (tryCatch (pyNext (.ref it)) _ >>= _) _ _ s
    refine wpAny_bind (wpAny_tryCatch (wpAny_pyNext_tuple_item st (show s.heap.IsTuple l its.toArray from pl) (x := u) (by simpa using hu) fun h' st' sb => ?_))
    have I1 : Inv X pins σ H { s with heap := h' } := I.turned (t' := s.toks) (fun b o hb e => (sb.2 b hb).trans e) f0 f1 f3 f4 f5
    have hS1 : h'.get? S = some (sumSt (.ref a) c) := (sb.2 S (Ne.symm ne)).trans hS
    obtain ⟨oi, ei, ci, di⟩ := id st'
    have I2 : Inv X (pins ++ [(it, oi), (S, sumSt (.ref a) c)]) σ H { s with heap := h' } := I1.pins_of fun p hp => by
      rcases List.mem_append.mp hp with hp | hp
      · exact I1.pin p (List.mem_append_right _ hp)
      · rcases List.mem_cons.mp hp with rfl | hp
        · exact ⟨ei, f0, f1, f2, fun v z => by rw [di] at z; cases z⟩
        · rw [List.mem_singleton.mp hp]
          exact ⟨hS1, g0, g1, g2, fun v z => by cases z⟩
    show wpAny _ X.A.in1 ((holding [u] (binaryOp .Add (.ref a) u)).attempt >>= _) _ _ _
    refine wpAny_bind (wpAny_attempt (wpAny_holding (wpAny_mono (op (fun _ _ => False) _ _ σ H (.ref a) x (.ref a) u _ I2.inn rfl ru go) (fun w s2 q => ?_) (fun e s2 z => z.elim))))
    obtain ⟨z, H2, I3, rz, pv2⟩ := q
    have I4 : Inv X (pins ++ [(it, oi), (S, sumSt (.ref a) c)]) σ H2 s2 := I3.outn I.ok
    obtain ⟨ki, ni, _⟩ := I4.pin (it, oi) (List.mem_append_right _ (List.mem_append_right _ List.mem_cons_self))
    obtain ⟨kS, nS, _⟩ := I4.pin (S, sumSt (.ref a) c) (List.mem_append_right _ (List.mem_append_right _ (List.mem_cons_of_mem _ List.mem_cons_self)))
    obtain ⟨a2, rfl⟩ := own _ _ _ pv2
    obtain rfl : w = Value.ref a2 := rz
    have I5 : Inv X pins σ H2 s2 := I4.unpinned
    show wpAny _ X.A.in1 (updateSeq S (fun _ => #[Value.ref a2]) >>= _) _ _ _
    refine wpAny_bind (wpAny_updateSeq kS rfl ?_)
    have hS₂ := Heap.get?_update_self (Obj.mapSeq fun _ => #[Value.ref a2]) kS rfl
    refine wpAny_bind (wpAny_letGo ?_)
    refine wpAny_bind (wpAny_updateSeq hS₂ rfl ?_)
    have hS3 := Heap.get?_update_self (Obj.mapSeq fun _ => #[Value.ref a2]) hS₂ rfl
    have oth : ∀ (b : Addr) (o : Obj), b ≠ S → s2.heap.get? b = some o → ((s2.heap.update S (Obj.mapSeq fun _ => #[Value.ref a2])).update S (Obj.mapSeq fun _ => #[Value.ref a2])).get? b = some o := fun b o hb e =>
      (Heap.get?_update_other _ _ (Ne.symm hb)).trans ((Heap.get?_update_other _ _ (Ne.symm hb)).trans e)
    have I6 : Inv X pins σ H2 { s2 with heap := (s2.heap.update S (Obj.mapSeq fun _ => #[Value.ref a2])).update S (Obj.mapSeq fun _ => #[Value.ref a2]) } := I5.turned (t' := s2.toks) oth nS g1 g3 g4 g5
    refine wpAny_pure ⟨plainId_quiet F.plain_sum_loop _, ih (i + 1) (.ref a2) (.ref a2) c H2 _ (by omega) hlt I6 rfl pv2 ⟨oi, oth it oi ne ki, by obtain ⟨o', e', c', d'⟩ := st'; rw [ei] at e'; cases e'; exact ⟨c', d'⟩⟩ hS3 ⟨ni, f1, f2, f3, f4, f5⟩ ⟨nS, g1, g2, g3, g4, g5⟩⟩
/-- a class that is no text -/
structure NoTxt (K : PySem.W.Frag) (C : Addr) : Prop where
  str : PySem.W.subIn K (.ref C) (.type "str") = some false
  byt : PySem.W.subIn K (.ref C) (.type "bytes") = some false
  bar : PySem.W.subIn K (.ref C) (.type "bytearray") = some false
/-- sum(row, start=an instance): Pv tells the total behind i items -/
def rSumO (K : PySem.W.Frag) (rA : R2) : List V → List V → Hp → VK → Prop := fun xs zs H Q => ∃ (l a C dx : Addr) (fs : List (Str × V)) (row : List V), xs = [.ref l] ∧ zs = [.ref a] ∧ H a = some (.ins C dx fs) ∧ NoTxt K C ∧
  ∃ Pv : Nat → V → Hp → Prop, Pv 0 (.ref a) H ∧ (∀ i acc H', Pv i acc H' → ∃ b, acc = .ref b) ∧ (∀ i acc H', i ≤ row.length → Pv i acc H' → SqT K H' l row) ∧ (∀ i acc x H', row[i]? = some x → Pv i acc H' → rA acc x H' (Pv (i + 1))) ∧ ∀ acc H', Pv row.length acc H' → Q acc H'
theorem argsOk_sum (a b : Value) : argsOk "sum" ⟨[a], [(Str.ofString "start", b)]⟩ := by
  unfold argsOk
  kernel_rfl
theorem cr_sumO {rA : R2} (hc : X.calm = true) (op : OpN X.inn (binaryOp .Add) rA) : CallRK X (.builtin "sum") [Str.ofString "start"] (rSumO X.K rA) := by
  intro pins s σ H xs zs us ws Q I r rz h
  obtain ⟨l, a, C, dx, fs, row, rfl, rfl, ha, nt, Pv, p0, own, kept, step, fin⟩ := h
  obtain rfl := Vals.ref1 r
  obtain rfl := Vals.ref1 rz
  obtain ⟨its, ri, pl, hz⟩ := I.tuple (kept 0 _ _ (Nat.zero_le _) p0)
  obtain ⟨mA, J, _⟩ := ins_get I.hok ha
  obtain ⟨od, J, _⟩ := J.look
  have n1 : ∀ M : Model, PySem.W.Looks M s.heap (isInstance (.ref a) (.type "str")) false := fun M => OC.not_inst I.kIn J nt.str
  have n2 : ∀ M : Model, PySem.W.Looks M s.heap (isInstance (.ref a) (.type "bytes")) false := fun M => OC.not_inst I.kIn J nt.byt
  have n3 : ∀ M : Model, PySem.W.Looks M s.heap (isInstance (.ref a) (.type "bytearray")) false := fun M => OC.not_inst I.kIn J nt.bar
  refine wpAny_call (codeAny_call_builtin F.plain_sum F.entry_sum ?_)
  have body : wpAny (model X.prog X.w) X.A.in1 (Builtin.«sum» ⟨[.ref l], [(Str.ofString "start", .ref a)]⟩) (fun fin s' => match fin with
      | .done f => (match (Except.ok f : Result) with | .ok (.ret v) => EP X pins σ Q v s' | .ok _ => False | .error e => X.xe e s')
      | .again c' => c'.quiet = true ∧ codeAny (model X.prog X.w) X.A c' (fun r s' => match r with | .ok (.ret v) => EP X pins σ Q v s' | .ok _ => False | .error e => X.xe e s') s') X.xe s := by
    unfold Builtin.«sum»
    simp only [List.length_cons, List.length_nil]
    rw [if_neg (by decide)]
    refine wpAny_bind (wpAny_of_eq (show Builtin.Builtins.bindParams "sum" ["start"] 0 ⟨[], [(Str.ofString "start", .ref a)]⟩ = pure [some (.ref a)] from rfl) ?_)
    refine wpAny_bind (wpAny_pyIter_tuple (show s.heap.IsTuple l its.toArray from pl) ?_)
    have up : ∀ b o, s.heap.get? b = some o → (s.heap.push { cls := .type "tuple_iterator", data := .fields #[.ref l, .int 0 0] }).get? b = some o := fun b o e => Heap.get?_push_of_some _ e
    refine wpAny_bind (wpAny_pure ?_)
    simp only [List.forIn_cons, List.forIn_nil]
    refine wpAny_bind (wpAny_bind (wpAny_bind (n1 _ _ _ _ _ up ?_)))
    simp only [Bool.false_eq_true, if_false]
    refine wpAny_pure (wpAny_bind (wpAny_bind (n2 _ _ _ _ _ up ?_)))
    simp only [Bool.false_eq_true, if_false]
    refine wpAny_pure (wpAny_bind (wpAny_bind (n3 _ _ _ _ _ up ?_)))
    simp only [Bool.false_eq_true, if_false]
    refine wpAny_pure (wpAny_pure ?_)
    refine wpAny_bind (wpAny_newObj_type ?_)
    have I1 : Inv X pins σ H { s with heap := s.heap.push { cls := .type "tuple_iterator", data := .fields #[.ref l, .int 0 0] } } := I.kept (t' := s.toks) up
    have sz1 : (s.heap.push { cls := .type "tuple_iterator", data := .fields #[.ref l, .int 0 0] }).objs.size = s.heap.objs.size + 1 := Heap.size_push ..
    have up2 : ∀ b o, (s.heap.push { cls := .type "tuple_iterator", data := .fields #[.ref l, .int 0 0] }).get? b = some o → ((s.heap.push { cls := .type "tuple_iterator", data := .fields #[.ref l, .int 0 0] }).push { cls := .type "list", dict := none, data := .seq #[.ref a] 0 }).get? b = some o := fun b o e => Heap.get?_push_of_some _ e
    have I2 := I1.kept (t' := s.toks) up2
    have le1 : s.heap.objs.size ≤ (s.heap.push { cls := .type "tuple_iterator", data := .fields #[.ref l, .int 0 0] }).objs.size := by rw [sz1]; exact Nat.le_succ _
    exact wpAny_pure ⟨plainId_quiet F.plain_sum_loop _, sum_turns hc op Pv own kept step fin (by show s.heap.objs.size ≠ _; rw [sz1]; exact Nat.ne_of_lt (Nat.lt_succ_self _)) row.length 0 (.ref a) (.ref a) 0 H _ rfl (Nat.zero_le _) I2 rfl p0
      ⟨_, up2 _ _ (Heap.get?_push_size _ rfl), rfl, rfl⟩ (Heap.get?_push_size _ rfl) (I.fpOk (Nat.le_refl _) (I.hok.fresh (Nat.le_refl _))) (I.fpOk le1 (I.hok.fresh le1))⟩
  simp only [checkBuiltinCall, F.kind_sum]
  cases hsig : Manifest.signature? "sum" with
  | none => exact wpAny_pure body
  | some sig =>
    have ha' : Bind.checkArgs "sum" sig ⟨[.ref l], [(Str.ofString "start", .ref a)]⟩ = pure () := by simpa only [argsOk, hsig] using argsOk_sum (.ref l) (.ref a)
    simp only [List.zip_cons_cons, List.zip_nil_right, ha']
    exact wpAny_pure body
end
end L2
set_option Elab.async false
set_option linter.all false
set_option maxRecDepth 100000
set_option maxHeartbeats 4000000
namespace KG
open PySem L2
/-- how == of the two is told: one of both a share -/
def Cmp (K : PySem.W.Frag) (C : Addr) (H : Hp) (x y : V) (b : Bool) : Prop :=
  (∃ a dx fs, x = .ref a ∧ H a = some (.ins C dx fs) ∧ EqS K C a y b H ∧ ((∃ T, Fo K H y T) ∨ ∃ c dy gs, y = .ref c ∧ H c = some (.ins C dy gs))) ∨
    (∃ c dy gs T, y = .ref c ∧ H c = some (.ins C dy gs) ∧ Fo K H x T ∧ EqS K C c x b H)
theorem i0 {x y : V} {xs : List V} : atI (x :: xs) 0 = some x := by
  have h : (x :: xs)[0]? = some x := rfl
  exact atI_nat h
theorem i1 {x y : V} {xs : List V} : atI (x :: y :: xs) 1 = some y := by
  have h : (x :: y :: xs)[1]? = some y := rfl
  exact atI_nat h
theorem i2 {x y z : V} {xs : List V} : atI (x :: y :: z :: xs) 2 = some z := by
  have h : (x :: y :: z :: xs)[2]? = some z := rfl
  exact atI_nat h
/-- __eq__ of the class -/
structure EqT (P : Program) (w : World) (K : PySem.W.Frag) (mg : Str → Option Value) (base : Heap) (C : Addr) : Prop where
  ex : ∃ (f : Addr) (fd : FuncData), OwnT K C f ∧ FnOk P w K mg base CX0 2 f fd ["self", "other"] (spOwn (EqS K C)) ∧ Binds K fd ["self", "other"] []
/-- x == y: by a share, or of plain data -/
theorem EqT.op {X : Cx} {C : Addr} {op : CmpOp} (ho : OC.Is2 op) (c : EqT X.prog X.w X.K X.mg X.base C) (hr : Room 3 X.A) : ∃ r : R2, OpR X (compareOp op) r ∧ ∀ x y b H Q, Cmp X.K C H x y b → Q (.bl (OC.turn op b)) H → r x y H Q := by
  obtain ⟨f, fd, O, F, hb⟩ := c.ex
  exact ⟨_, op_ownB ho F O hb pass0 hr, fun x y b H Q h q => ⟨b, h, q⟩⟩
theorem is_eq : OC.Is2 .Eq := .inl rfl
theorem is_ne : OC.Is2 .NotEq := .inr rfl
theorem passX {X : Cx} : Passes (L2.CX X.prog X.w) X E0 := fun _ _ _ _ _ _ _ ⟨_, _, _, _, _, _, _, _, _, _, _, _, h⟩ => h.elim
/-- Share(p, q) and Share(p) -/
structure MkT (P : Program) (w : World) (K : PySem.W.Frag) (mg : Str → Option Value) (base : Heap) (C B : Addr) : Prop where
  ex : ∃ (f : Addr) (fd : FuncData) (ds : List Value), Mk K C f ∧ FnOk P w K mg base (L2.CX P w) 4 f fd ["self", "top", "bottom"] (spSI K C B) ∧ Binds K fd ["self", "top", "bottom"] [] ∧ Vals [.int 1] ds ∧ Binds K fd ["self", "top", "bottom"] ds
  gS : mg "Share" = some (.ref C)
section
variable {X : Cx} {C B : Addr} {p pos : Pos} {e : Expr} {es : List Expr} {t : TA}
theorem pe_share2 (m : MkT X.prog X.w X.K X.mg X.base C B) (hr : Room 5 X.A) (hg : Gl X "Share") (ha : PA X (e :: es) t)
    (he : starEach (e :: es) X.env = (false, eval e X.env) :: starEach es X.env := by rfl) (hpl : (backTo pos (starEach es X.env)).any (·.1) = false := by rfl) :
    PE X (.Call (.Name "Share" p) (e :: es) [] pos) (tMake C (spSI X.K C B) [] E0 t) := by
  obtain ⟨f, fd, ds, M, F, b0, v1, b1⟩ := m.ex
  exact pe_make M F hr hg m.gS b0 .nil passX ha (by decide) he hpl
theorem pe_share1 (m : MkT X.prog X.w X.K X.mg X.base C B) (hr : Room 5 X.A) (hg : Gl X "Share") (ha : PA X (e :: es) t)
    (he : starEach (e :: es) X.env = (false, eval e X.env) :: starEach es X.env := by rfl) (hpl : (backTo pos (starEach es X.env)).any (·.1) = false := by rfl) :
    PE X (.Call (.Name "Share" p) (e :: es) [] pos) (tMake C (spSI X.K C B) [.int 1] E0 t) := by
  obtain ⟨f, fd, ds, M, F, b0, v1, b1⟩ := m.ex
  exact pe_make M F hr hg m.gS b1 v1 passX ha (by decide) he hpl
end
/-- a share is made -/
theorem mk_ok {K : PySem.W.Frag} {C B : Addr} {a b : Int} {H : Hp} {Q : VK} {E : XK} (nz : b ≠ 0) (hl : b.natAbs.log2 < 9000)
    (k : ∀ (x dx : Addr) (H' : Hp), Same H H' → H' x = some (.ins C dx (shF (lowT a b) (lowB a b))) → Q (.ref x) H') :
    ∀ x dx, H x = none → H dx = none → dx ≠ x → spSI K C B [.ref x, .int a, .int b] (upd (upd H dx (.own x)) x (.ins C dx [])) (fun v H2 => v = .non ∧ Q (.ref x) H2) E :=
  fun x dx hx hd ne => ⟨x, dx, .int a, .int b, rfl, upd_same, .fo (.int a), .fo (.int b), .inl ⟨a, b, rfl, rfl, nz, hl, rfl, k x dx _ (by
    rw [upd_upd]
    exact (Same.put hd).trans (Same.put (by rw [upd_ne ne.symm]; exact hx))) upd_same⟩⟩
theorem mk_same {C : Addr} {H : Hp} {x dx : Addr} {o : HO} (hx : H x = none) (hd : H dx = none) (ne : dx ≠ x) : Same H (upd (upd (upd H dx (.own x)) x (.ins C dx [])) x o) := by
  rw [upd_upd]
  exact (Same.put hd).trans (Same.put (by rw [upd_ne ne.symm]; exact hx))
/-! ### lowest terms, once more -/
theorem sg_dvdT (a b : Int) : sg a b ∣ a := by
  have h : ((Nat.gcd a.natAbs b.natAbs : Nat) : Int) ∣ a := Int.ofNat_dvd_left.mpr (Nat.gcd_dvd_left _ _)
  unfold sg
  split
  · exact h
  · exact Int.neg_dvd.mpr h
theorem sg_dvdB (a b : Int) : sg a b ∣ b := by
  have h : ((Nat.gcd a.natAbs b.natAbs : Nat) : Int) ∣ b := Int.ofNat_dvd_left.mpr (Nat.gcd_dvd_right _ _)
  unfold sg
  split
  · exact h
  · exact Int.neg_dvd.mpr h
theorem low_mulT (a b : Int) : lowT a b * sg a b = a := by
  unfold lowT
  exact Int.fdiv_mul_cancel (sg_dvdT a b)
theorem low_mulB (a b : Int) : lowB a b * sg a b = b := by
  unfold lowB
  exact Int.fdiv_mul_cancel (sg_dvdB a b)
theorem abs_le {x g y : Int} (h : x * g = y) (hg : g ≠ 0) : x.natAbs ≤ y.natAbs := by
  rw [← h, Int.natAbs_mul]
  exact Nat.le_mul_of_pos_right _ (Int.natAbs_pos.mpr hg)
theorem lowT_le {a b : Int} (hb : b ≠ 0) : (lowT a b).natAbs ≤ a.natAbs := abs_le (low_mulT a b) (sg_ne hb)
theorem lowB_le {a b : Int} (hb : b ≠ 0) : (lowB a b).natAbs ≤ b.natAbs := abs_le (low_mulB a b) (sg_ne hb)
theorem lowB_pos {a b : Int} (hb : b ≠ 0) : 0 < lowB a b := by
  have e := low_mulB a b
  by_cases h : 0 < b
  · have hs : 0 < sg a b := by
      unfold sg
      rw [if_pos h]
      exact Int.ofNat_lt.mpr (gcd_pos hb)
    by_cases z : 0 < lowB a b
    · exact z
    · have : lowB a b * sg a b ≤ 0 := Int.mul_nonpos_of_nonpos_of_nonneg (by omega) (by omega)
      omega
  · have hs : sg a b < 0 := by
      unfold sg
      rw [if_neg h]
      have := Int.ofNat_lt.mpr (gcd_pos (a := a) hb)
      omega
    by_cases z : 0 < lowB a b
    · exact z
    · have : 0 ≤ lowB a b * sg a b := Int.mul_nonneg_of_nonpos_of_nonpos (by omega) (by omega)
      omega
theorem low_gcd {a b : Int} (hb : b ≠ 0) : Nat.gcd (lowT a b).natAbs (lowB a b).natAbs = 1 := by
  have e1 : (lowT a b).natAbs * Nat.gcd a.natAbs b.natAbs = a.natAbs := by
    rw [← sg_abs, ← Int.natAbs_mul, low_mulT]
  have e2 : (lowB a b).natAbs * Nat.gcd a.natAbs b.natAbs = b.natAbs := by
    rw [← sg_abs, ← Int.natAbs_mul, low_mulB]
  have h : Nat.gcd ((lowT a b).natAbs * Nat.gcd a.natAbs b.natAbs) ((lowB a b).natAbs * Nat.gcd a.natAbs b.natAbs) = Nat.gcd (lowT a b).natAbs (lowB a b).natAbs * Nat.gcd a.natAbs b.natAbs := Nat.gcd_mul_right _ _ _
  rw [e1, e2] at h
  have hp := gcd_pos (a := a) hb
  exact Nat.eq_of_mul_eq_mul_right hp (by rw [← h, Nat.one_mul])
theorem sg_one {x y : Int} (hy : 0 < y) (h : Nat.gcd x.natAbs y.natAbs = 1) : sg x y = 1 := by
  unfold sg
  rw [if_pos hy, h]
  rfl
theorem low_one {x y : Int} (hy : 0 < y) (h : Nat.gcd x.natAbs y.natAbs = 1) : lowT x y = x ∧ lowB x y = y := by
  unfold lowT lowB
  rw [sg_one hy h]
  exact ⟨Int.fdiv_one x, Int.fdiv_one y⟩
theorem low_int (i : Int) : lowT i 1 = i ∧ lowB i 1 = 1 := low_one (by decide) (by show Nat.gcd i.natAbs 1 = 1; exact Nat.gcd_one_right _)
/-! ### how shares and things compare -/
theorem cmp_fo {K : PySem.W.Frag} {C a dx : Addr} {t n : Int} {H : Hp} {y : V} {T : String} (e : H a = some (.ins C dx (shF t n))) (h : Fo K H y T) {b : Bool} (hb : b = (isI y && (decide (V.int n = V.int 1) && decide (V.int t = y)))) : Cmp K C H (.ref a) y b ∧ Cmp K C H y (.ref a) b :=
  have eq : EqS K C a y b H := ⟨dx, t, n, e, .inr ⟨⟨T, h⟩, hb⟩⟩
  ⟨.inl ⟨a, dx, _, rfl, e, eq, .inl ⟨T, h⟩⟩, .inr ⟨a, dx, _, T, rfl, e, h, eq⟩⟩
theorem si_ok {K : PySem.W.Frag} {C B : Addr} {a b : Int} {H : Hp} {x dx : Addr} {Q : VK} {E : XK} (hx : H x = none) (hd : H dx = none) (ne : dx ≠ x) (nz : b ≠ 0) (hl : b.natAbs.log2 < 9000)
    (k : ∀ H', Same H H' → H' x = some (.ins C dx (shF (lowT a b) (lowB a b))) → Q .non H') : spSI K C B [.ref x, .int a, .int b] (upd (upd H dx (.own x)) x (.ins C dx [])) Q E :=
  ⟨x, dx, .int a, .int b, rfl, upd_same, .fo (.int a), .fo (.int b), .inl ⟨a, b, rfl, rfl, nz, hl, k _ (mk_same hx hd ne) upd_same⟩⟩
theorem fo_same {K : PySem.W.Frag} {H H' : Hp} {x : V} {T : String} (h : Fo K H x T) (s : Same H H') : Fo K H' x T := by
  cases h with
  | non => exact .non
  | bl b => exact .bl b
  | int i => exact .int i
  | str x => exact .str x
  | lst e => exact .lst (s _ _ e)
  | tup e => exact .tup (s _ _ e)
  | dK e => exact .dK (s _ _ e)
end KG
set_option Elab.async false
set_option linter.all false
set_option maxRecDepth 100000
set_option maxHeartbeats 4000000
namespace L2
open PySem PySem.Spec PyProof.Rows
def rArL (C : Addr) (spF : Sp) : R2 := fun x y H Q => ∃ a dx fs, x = .ref a ∧ H a = some (.ins C dx fs) ∧ ((∃ i, y = .int i) ∨ ∃ c dy gs, y = .ref c ∧ H c = some (.ins C dy gs)) ∧ spF [x, y] H Q E0
section
variable {X : Cx} {C f g : Addr} {sym nm : String} {fd : FuncData} {ps : List Str} {n : Nat} {spF : Sp} {op : Operator}
/-- the same with the instance on the left -/
theorem op_arL (L : ArL X.K C op sym nm f) (R : ArR X.K C nm g) (F : FnOk X.prog X.w X.K X.mg X.base CX0 n f fd ps spF) (hb : Binds X.K fd ps []) (hr : Room n X.A) : OpN X (binaryOp op) (rArL C spF) := by
  intro E pins s σ H x y v u Q I rx ry ⟨a, dx, fs, ex, ha, hy, hsp⟩
  subst ex
  cases (show v = Value.ref a from rx)
  obtain ⟨mA, J, _⟩ := ins_get I.hok ha
  obtain ⟨od, J, _⟩ := J.look
  have go := run_two (E := E) F hb hr I rx ry hsp
  rcases hy with ⟨i, rfl⟩ | ⟨c, dy, gs, rfl, hc⟩
  · obtain ⟨ti, e⟩ := (show ∃ t, u = Value.int i t from ry)
    subst e
    obtain ⟨ro, ho⟩ := R.ho
    exact OA.bin_left_int L.hi I.kIn J L.hc L.hs L.hf R.hr ho R.hn R.up go
  · cases (show u = Value.ref c from ry)
    obtain ⟨mB, J', _⟩ := ins_get I.hok hc
    obtain ⟨od', J', _⟩ := J'.look
    exact OA.bin_twins L.hi I.kIn J L.hc L.hs L.hf J'.type go
end
end L2
set_option Elab.async false
set_option linter.all false
set_option maxRecDepth 100000
set_option maxHeartbeats 4000000
namespace KG
open PySem L2
/-- a number: an integer, or a share with these fields -/
def Nm (C : Addr) (H : Hp) (v : V) (t n : Int) : Prop := (v = .int t ∧ n = 1) ∨ ∃ a dx, v = .ref a ∧ H a = some (.ins C dx (shF t n))
/-- lowest terms, of a moderate size -/
structure Low (t n : Int) : Prop where
  pos : 0 < n
  gcd : Nat.gcd t.natAbs n.natAbs = 1
  tb : t.natAbs < 2 ^ 4000
  nb : n.natAbs < 2 ^ 4000
theorem Nm.same {C : Addr} {H H' : Hp} {v : V} {t n : Int} (h : Nm C H v t n) (s : Same H H') : Nm C H' v t n := by
  rcases h with h | ⟨a, dx, e, h⟩
  · exact .inl h
  · exact .inr ⟨a, dx, e, s _ _ h⟩
theorem mul_lt {a b : Int} {i j : Nat} (h : a.natAbs < 2 ^ i) (h' : b.natAbs < 2 ^ j) : (a * b).natAbs < 2 ^ (i + j) := by
  rw [Int.natAbs_mul, Nat.pow_add]
  exact Nat.mul_lt_mul'' h h'
theorem log_of {a : Int} {i : Nat} (h : a.natAbs < 2 ^ i) (h0 : 0 < i) (hi : i ≤ 9000) : a.natAbs.log2 < 9000 := Nat.lt_of_lt_of_le (PySem.Flt.log2_lt_of h0 h) hi
section
variable {P : Program} {w : World} {K : PySem.W.Frag} {mg : Str → Option Value} {base : Heap} {C B : Addr}
/-- is_share(thing) -/
def spIsShare (K : PySem.W.Frag) (C : Addr) : Sp := fun vs H Q _ => ∃ x, vs = [x] ∧ ((∃ t n, Nm C H x t n ∧ Q (.bl true) H) ∨ ∃ T, Fo K H x T ∧ isI x = false ∧ Q (.bl false) H)
abbrev s_is_share : Stmt := top 26
theorem sc_is_share : FnScope ["thing"] ["thing"] (defScope s_is_share) := ⟨rfl, rfl, rfl, by decide +kernel, rfl, by decide +kernel, by decide +kernel⟩
theorem ok_is_share {f : Addr} {fd : FuncData} (F : Fun K "is_share" "is_share" s_is_share f fd) (T : ShT K mg C) (c_is_whole : Cal P w K mg base 1 "is_whole" ["thing"] (spWhole K C)) : FnOk P w K mg base CX0 2 f fd ["thing"] (spIsShare K C) := by
  refine F.ok sc_is_share (fun vs H Q E h => ?_) (fun cdv A outer s H vs Q E hr h => ?_)
  · obtain ⟨x, rfl, _⟩ := h
    rfl
  · obtain ⟨x, rfl, h⟩ := h
    refine ⟨_, (pss_one (ps_ret (pe_or (pe_callB call_isi (by rfl) T.bn.n_isinstance (by decide +kernel) (pa_cons (pv 0) (pa_cons (pe_glob (v := .ref C) rfl T.g_Share rfl) pa_nil))) (pe_one (pe_cal c_is_whole (hr.mono (by decide)) rfl (pa_cons (pv 0) pa_nil)))))), ?_⟩
    rcases h with ⟨t, n, ⟨rfl, rfl⟩ | ⟨a, dx, rfl, e⟩, k⟩ | ⟨T', fo, ix, k⟩
    · refine ⟨_, rfl, .int t, .ref C, _, _, false, rfl, .own C, (Fo.int t).ty, T.it.fo (H := H) (.int t), _, rfl, iteF ?_⟩
      exact ⟨_, rfl, .int t, rfl, .fo (.int t), k⟩
    · exact ⟨_, rfl, .ref a, .ref C, _, _, true, rfl, .own C, T.it.ty e, T.it.kself, _, rfl, iteT k⟩
    · refine ⟨_, rfl, x, .ref C, _, _, false, rfl, .own C, fo.ty, T.it.fo fo, _, rfl, iteF ?_⟩
      refine ⟨_, rfl, x, rfl, .fo fo, ?_⟩
      rw [ix]
      exact k
/-- share_of(number) -/
def spShareOf (C : Addr) : Sp := fun vs H Q _ => ∃ x t n, vs = [x] ∧ Nm C H x t n ∧ ∀ (a dx : Addr) (H' : Hp), Same H H' → H' a = some (.ins C dx (shF t n)) → Q (.ref a) H'
abbrev s_share_of : Stmt := top 27
theorem sc_share_of : FnScope ["thing"] ["thing"] (defScope s_share_of) := ⟨rfl, rfl, rfl, by decide +kernel, rfl, by decide +kernel, by decide +kernel⟩
theorem ok_share_of {f : Addr} {fd : FuncData} (F : Fun K "share_of" "share_of" s_share_of f fd) (T : ShT K mg C) (m : MkT P w K mg base C B) : FnOk P w K mg base CX0 6 f fd ["thing"] (spShareOf C) := by
  refine F.ok sc_share_of (fun vs H Q E h => ?_) (fun cdv A outer s H vs Q E hr h => ?_)
  · obtain ⟨x, t, n, rfl, _⟩ := h
    rfl
  · obtain ⟨x, t, n, rfl, h, k⟩ := h
    refine ⟨_, (pss_cons (ps_if (pt_val (pe_callB call_isi (by rfl) T.bn.n_isinstance (by decide +kernel) (pa_cons (pv 0) (pa_cons (pe_glob (v := .ref C) rfl T.g_Share rfl) pa_nil))))
        (pss_one (ps_ret (pv 0)))
        pss_nil)
      (pss_one (ps_ret (pe_share1 m hr rfl (pa_cons (pv 0) pa_nil))))), ?_⟩
    rcases h with ⟨rfl, rfl⟩ | ⟨a, dx, rfl, e⟩
    · refine ⟨_, rfl, .int t, .ref C, _, _, false, rfl, .own C, (Fo.int t).ty, T.it.fo (H := H) (.int t), _, rfl, iteF ?_⟩
      refine ⟨_, rfl, fun z dz hz hd ne => si_ok hz hd ne (a := t) (b := 1) (by decide) (by decide +kernel) fun H' s e => ⟨rfl, ?_⟩⟩
      rw [(low_int t).1, (low_int t).2] at e
      exact k z dz _ s e
    · exact ⟨_, rfl, .ref a, .ref C, _, _, true, rfl, .own C, T.it.ty e, T.it.kself, _, rfl, iteT ⟨_, rfl, k a dx H (Same.refl H) e⟩⟩
/-- share.less(number) -/
def spLess (C : Addr) : Sp := fun vs H Q _ => ∃ (a dx : Addr) (y : V) (t n t' n' : Int), vs = [.ref a, y] ∧ H a = some (.ins C dx (shF t n)) ∧ Nm C H y t' n' ∧ Low t n ∧ Low t' n' ∧ ∀ H', Same H H' → Q (.bl (decide (t * n' < t' * n))) H'
abbrev s_sless : Stmt := inClass (top 25) 12
theorem sc_sless : FnScope ["self", "other", "beside"] ["self", "other"] (defScope s_sless) := ⟨rfl, rfl, rfl, by decide +kernel, rfl, by decide +kernel, by decide +kernel⟩
theorem ok_sless {f : Addr} {fd : FuncData} (F : Fun K "less" "Share.less" s_sless f fd) (T : ShT K mg C) (c_of : Cal P w K mg base 6 "share_of" ["thing"] (spShareOf C)) : FnOk P w K mg base CX0 7 f fd ["self", "other"] (spLess C) := by
  refine F.ok sc_sless (fun vs H Q E h => ?_) (fun cdv A outer s H vs Q E hr h => ?_)
  · obtain ⟨a, dx, y, t, n, t', n', rfl, _⟩ := h
    rfl
  · obtain ⟨a, dx, y, t, n, t', n', rfl, ha, hy, l1, l2, k⟩ := h
    refine ⟨_, (pss_cons (ps_set (i := 2) sc_sless.nd rfl (Or.inl rfl) (pe_cal c_of hr rfl (pa_cons (pv 1) pa_nil)))
      (pss_one (ps_ret (pe_cmpR op_lt (pe_op op_mulW (pe_fld (pv 0) rfl) (pe_fld (pv 2) rfl)) (pe_op op_mulW (pe_fld (pv 2) rfl) (pe_fld (pv 0) rfl)) (nomark _))))), ?_⟩
    refine ⟨_, rfl, y, t', n', rfl, hy, fun b db H1 s1 e1 => ?_⟩
    have ha1 := s1 _ _ ha
    refine ⟨_, rfl, a, C, dx, _, _, rfl, ha1, T.it.cl, T.nT, shF_top _ _, _, rfl, b, C, db, _, _, rfl, e1, T.it.cl, T.nB, shF_bottom _ _, t, n', rfl, rfl, wide_mul l1.tb l2.nb (by decide) (by decide) (by decide), ?_⟩
    refine ⟨_, rfl, b, C, db, _, _, rfl, e1, T.it.cl, T.nT, shF_top _ _, _, rfl, a, C, dx, _, _, rfl, ha1, T.it.cl, T.nB, shF_bottom _ _, t', n, rfl, rfl, wide_mul l2.tb l1.nb (by decide) (by decide) (by decide), ?_⟩
    exact ⟨_, _, rfl, rfl, k _ s1⟩
end
end KG
set_option Elab.async false
set_option linter.all false
set_option maxRecDepth 100000
set_option maxHeartbeats 4000000
namespace KG
open PySem L2
theorem Low.one {i : Int} (h : i.natAbs < 2 ^ 4000) : Low i 1 := ⟨by decide, by show Nat.gcd i.natAbs 1 = 1; exact Nat.gcd_one_right _, h, by decide +kernel⟩
/-- the methods for + and - are where they should be -/
structure ArT (P : Program) (w : World) (K : PySem.W.Frag) (mg : Str → Option Value) (base : Heap) (C : Addr) (op : Operator) (sym nm : String) (k k' : Nat) (sp spR : Sp) : Prop where
  ex : ∃ (f g : Addr) (fd gd : FuncData), ArL K C op sym nm f ∧ ArR K C nm g ∧ FnOk P w K mg base CX0 k f fd ["self", "other"] sp ∧ Binds K fd ["self", "other"] [] ∧ FnOk P w K mg base CX0 k' g gd ["self", "other"] spR ∧ Binds K gd ["self", "other"] []
/-- the left method alone -/
structure ArTL (P : Program) (w : World) (K : PySem.W.Frag) (mg : Str → Option Value) (base : Heap) (C : Addr) (op : Operator) (sym nm : String) (k : Nat) (sp : Sp) : Prop where
  ex : ∃ (f g : Addr) (fd : FuncData), ArL K C op sym nm f ∧ ArR K C nm g ∧ FnOk P w K mg base CX0 k f fd ["self", "other"] sp ∧ Binds K fd ["self", "other"] []
theorem ArTL.op {X : Cx} {C : Addr} {op : Operator} {sym nm : String} {k : Nat} {sp : Sp} (c : ArTL X.prog X.w X.K X.mg X.base C op sym nm k sp) (hr : Room k X.A) : OpN X (binaryOp op) (rArL C sp) := by
  obtain ⟨f, g, fd, L, R, F, b⟩ := c.ex
  exact op_arL L R F b hr
theorem ArT.op {X : Cx} {C : Addr} {op : Operator} {sym nm : String} {k k' : Nat} {sp spR : Sp} (c : ArT X.prog X.w X.K X.mg X.base C op sym nm k k' sp spR) (hr : Room k X.A) (hr' : Room k' X.A) : OpN X (binaryOp op) (rAr C sp spR) := by
  obtain ⟨f, g, fd, gd, L, R, F, b, G, b'⟩ := c.ex
  exact op_ar L R F b hr G b' hr'
theorem other_of {C : Addr} {H : Hp} {y : V} {t n : Int} (h : Nm C H y t n) : (∃ i, y = .int i) ∨ ∃ c dy gs, y = .ref c ∧ H c = some (.ins C dy gs) := by
  rcases h with ⟨rfl, _⟩ | ⟨a, dx, rfl, e⟩
  · exact .inl ⟨t, rfl⟩
  · exact .inr ⟨a, dx, _, rfl, e⟩
/-- a new share with the lowest terms of a over b -/
def NewSh (C : Addr) (H : Hp) (Q : VK) (a b : Int) : Prop := ∀ (z dz : Addr) (H' : Hp), Same H H' → H' z = some (.ins C dz (shF (lowT a b) (lowB a b))) → Q (.ref z) H'
def spAdd (C : Addr) : Sp := fun vs H Q _ => ∃ (a dx : Addr) (y : V) (t n t' n' : Int), vs = [.ref a, y] ∧ H a = some (.ins C dx (shF t n)) ∧ Nm C H y t' n' ∧ Low t n ∧ Low t' n' ∧ NewSh C H Q (t * n' + t' * n) (n * n')
def spRadd (C : Addr) : Sp := fun vs H Q _ => ∃ (a dx : Addr) (i t n : Int), vs = [.ref a, .int i] ∧ H a = some (.ins C dx (shF t n)) ∧ Low t n ∧ Low i 1 ∧ NewSh C H Q (t * 1 + i * n) (n * 1)
section
variable {P : Program} {w : World} {K : PySem.W.Frag} {mg : Str → Option Value} {base : Heap} {C B : Addr}
abbrev s_add : Stmt := inClass (top 25) 1
theorem sc_add : FnScope ["self", "other", "beside"] ["self", "other"] (defScope s_add) := ⟨rfl, rfl, rfl, by decide +kernel, rfl, by decide +kernel, by decide +kernel⟩
theorem ok_add {f : Addr} {fd : FuncData} (F : Fun K "__add__" "Share.__add__" s_add f fd) (T : ShT K mg C) (m : MkT P w K mg base C B) (c_is : Cal P w K mg base 2 "is_share" ["thing"] (spIsShare K C)) (c_of : Cal P w K mg base 6 "share_of" ["thing"] (spShareOf C)) :
    FnOk P w K mg base CX0 7 f fd ["self", "other"] (spAdd C) := by
  refine F.ok sc_add (fun vs H Q E h => ?_) (fun cdv A outer s H vs Q E hr h => ?_)
  · obtain ⟨a, dx, y, t, n, t', n', rfl, _⟩ := h
    rfl
  · obtain ⟨a, dx, y, t, n, t', n', rfl, ha, hy, l1, l2, k⟩ := h
    refine ⟨_, (pss_cons (ps_if (pt_not (pt_val (pe_cal c_is (hr.mono (by decide)) rfl (pa_cons (pv 1) pa_nil))))
        pss_never
        pss_nil)
      (pss_cons (ps_set (i := 2) sc_add.nd rfl (Or.inl rfl) (pe_cal c_of hr rfl (pa_cons (pv 1) pa_nil)))
      (pss_one (ps_ret (pe_share2 m (hr.mono (by decide)) rfl (pa_cons (pe_op op_add (pe_op op_mulW (pe_fld (pv 0) rfl) (pe_fld (pv 2) rfl)) (pe_op op_mulW (pe_fld (pv 2) rfl) (pe_fld (pv 0) rfl))) (pa_cons (pe_op op_mulW (pe_fld (pv 0) rfl) (pe_fld (pv 2) rfl)) pa_nil))))))), ?_⟩
    refine ⟨_, rfl, y, rfl, .inl ⟨t', n', hy, _, rfl, iteF ?_⟩⟩
    refine ⟨_, rfl, y, t', n', rfl, hy, fun b db H1 s1 e1 => ?_⟩
    have ha1 := s1 _ _ ha
    refine ⟨_, rfl, a, C, dx, _, _, rfl, ha1, T.it.cl, T.nT, shF_top _ _, _, rfl, b, C, db, _, _, rfl, e1, T.it.cl, T.nB, shF_bottom _ _, t, n', rfl, rfl, wide_mul l1.tb l2.nb (by decide) (by decide) (by decide), ?_⟩
    refine ⟨_, rfl, b, C, db, _, _, rfl, e1, T.it.cl, T.nT, shF_top _ _, _, rfl, a, C, dx, _, _, rfl, ha1, T.it.cl, T.nB, shF_bottom _ _, t', n, rfl, rfl, wide_mul l2.tb l1.nb (by decide) (by decide) (by decide), ?_⟩
    refine ⟨_, _, rfl, rfl, _, rfl, a, C, dx, _, _, rfl, ha1, T.it.cl, T.nB, shF_bottom _ _, _, rfl, b, C, db, _, _, rfl, e1, T.it.cl, T.nB, shF_bottom _ _, n, n', rfl, rfl, wide_mul l1.nb l2.nb (by decide) (by decide) (by decide), ?_⟩
    have p1 := l1.pos
    have p2 := l2.pos
    have pp : 0 < n * n' := Int.mul_pos p1 p2
    refine fun z dz hz hd ne => si_ok hz hd ne (a := t * n' + t' * n) (b := n * n') (by omega) (log_of (mul_lt l1.nb l2.nb) (by decide) (by decide)) fun H' s e => ⟨rfl, ?_⟩
    exact k z dz H' (s1.trans s) e
abbrev s_radd : Stmt := inClass (top 25) 2
theorem sc_radd : FnScope ["self", "other"] ["self", "other"] (defScope s_radd) := ⟨rfl, rfl, rfl, by decide +kernel, rfl, by decide +kernel, by decide +kernel⟩
theorem ok_radd {f : Addr} {fd : FuncData} (F : Fun K "__radd__" "Share.__radd__" s_radd f fd) (c_is_whole : Cal P w K mg base 1 "is_whole" ["thing"] (spWhole K C)) (ad : ArTL P w K mg base C .Add "+" "add" 7 (spAdd C)) :
    FnOk P w K mg base CX0 8 f fd ["self", "other"] (spRadd C) := by
  refine F.ok sc_radd (fun vs H Q E h => ?_) (fun cdv A outer s H vs Q E hr h => ?_)
  · obtain ⟨a, dx, i, t, n, rfl, _⟩ := h
    rfl
  · obtain ⟨a, dx, i, t, n, rfl, ha, l1, l2, k⟩ := h
    have o := (ArTL.op (X := (cxOf CX0 P w K mg base ["self", "other"] "Share.__radd__" (defScope s_radd) f cdv A outer s H E).nox) ad hr).toR
    refine ⟨_, (pss_cons (ps_if (pt_not (pt_val (pe_cal c_is_whole (hr.mono (by decide)) rfl (pa_cons (pv 1) pa_nil))))
        pss_never
        pss_nil)
      (pss_one (ps_ret (pe_op o (pv 0) (pv 1))))), ?_⟩
    refine ⟨_, rfl, .int i, rfl, .fo (.int i), _, rfl, iteF ?_⟩
    exact ⟨_, rfl, _, rfl, a, dx, _, rfl, ha, .inl ⟨i, rfl⟩, a, dx, .int i, t, n, i, 1, rfl, ha, .inl ⟨rfl, rfl⟩, l1, l2, k⟩
end
end KG
set_option Elab.async false
set_option linter.all false
set_option maxRecDepth 100000
set_option maxHeartbeats 4000000
namespace KG
open PySem L2
theorem low_cross (S D : Int) : lowT S D * D = S * lowB S D := by
  have h1 := low_mulT S D
  have h2 := low_mulB S D
  calc lowT S D * D = lowT S D * (lowB S D * sg S D) := by rw [h2]
    _ = (lowT S D * sg S D) * lowB S D := by rw [Int.mul_comm (lowB S D), Int.mul_assoc]
    _ = S * lowB S D := by rw [h1]
/-- lowest terms are told by the ratio -/
theorem low_unique {p q p' q' : Int} (hq : 0 < q) (hq' : 0 < q') (g : Nat.gcd p.natAbs q.natAbs = 1) (g' : Nat.gcd p'.natAbs q'.natAbs = 1) (e : p * q' = p' * q) : p = p' ∧ q = q' := by
  have ea : p.natAbs * q'.natAbs = p'.natAbs * q.natAbs := by rw [← Int.natAbs_mul, ← Int.natAbs_mul, e]
  have d1 : q.natAbs ∣ q'.natAbs := by
    have c : Nat.Coprime q.natAbs p.natAbs := by
      show Nat.gcd q.natAbs p.natAbs = 1
      rw [Nat.gcd_comm]
      exact g
    exact c.dvd_of_dvd_mul_left ⟨p'.natAbs, by rw [ea, Nat.mul_comm]⟩
  have d2 : q'.natAbs ∣ q.natAbs := by
    have c : Nat.Coprime q'.natAbs p'.natAbs := by
      show Nat.gcd q'.natAbs p'.natAbs = 1
      rw [Nat.gcd_comm]
      exact g'
    exact c.dvd_of_dvd_mul_left ⟨p.natAbs, by rw [← ea, Nat.mul_comm]⟩
  have eq : q = q' := by
    have := Nat.dvd_antisymm d1 d2
    omega
  subst eq
  exact ⟨Int.eq_of_mul_eq_mul_right (by omega) e, rfl⟩
theorem low_ratio {a b c d : Int} (hb : b ≠ 0) (hd : d ≠ 0) (e : a * d = c * b) : lowT a b = lowT c d ∧ lowB a b = lowB c d := by
  refine low_unique (lowB_pos hb) (lowB_pos hd) (low_gcd hb) (low_gcd hd) ?_
  have h1 := low_cross a b
  have h2 := low_cross c d
  have key : (lowT a b * lowB c d) * (b * d) = (lowT c d * lowB a b) * (b * d) := by
    calc (lowT a b * lowB c d) * (b * d) = (lowT a b * b) * (d * lowB c d) := by ac_rfl
      _ = (a * lowB a b) * (d * lowB c d) := by rw [h1]
      _ = (a * d) * (lowB a b * lowB c d) := by ac_rfl
      _ = (c * b) * (lowB a b * lowB c d) := by rw [e]
      _ = (c * lowB c d) * (lowB a b * b) := by ac_rfl
      _ = (lowT c d * d) * (lowB a b * b) := by rw [← h2]
      _ = (lowT c d * lowB a b) * (b * d) := by ac_rfl
  exact Int.eq_of_mul_eq_mul_right (Int.mul_ne_zero hb hd) key
/-- v is the number S over D -/
def Num (C : Addr) (H : Hp) (v : V) (S D : Int) : Prop := Nm C H v (lowT S D) (lowB S D)
theorem Num.same {C : Addr} {H H' : Hp} {v : V} {S D : Int} (h : Num C H v S D) (s : Same H H') : Num C H' v S D := Nm.same h s
theorem low_of {S D : Int} (hD : 0 < D) (hS : S.natAbs < 2 ^ 4000) (hDb : D.natAbs < 2 ^ 4000) : Low (lowT S D) (lowB S D) :=
  ⟨lowB_pos (by omega), low_gcd (by omega), Nat.lt_of_le_of_lt (lowT_le (by omega)) hS, Nat.lt_of_le_of_lt (lowB_le (by omega)) hDb⟩
theorem low_sum {S S' D : Int} (hD : 0 < D) : lowT (lowT S D * lowB S' D + lowT S' D * lowB S D) (lowB S D * lowB S' D) = lowT (S + S') D ∧ lowB (lowT S D * lowB S' D + lowT S' D * lowB S D) (lowB S D * lowB S' D) = lowB (S + S') D := by
  have p1 := lowB_pos (a := S) (b := D) (by omega)
  have p2 := lowB_pos (a := S') (b := D) (by omega)
  refine low_ratio (Int.mul_ne_zero (by omega) (by omega)) (by omega) ?_
  have h1 := low_cross S D
  have h2 := low_cross S' D
  rw [Int.add_mul, Int.add_mul]
  congr 1
  · calc lowT S D * lowB S' D * D = (lowT S D * D) * lowB S' D := by ac_rfl
      _ = S * (lowB S D * lowB S' D) := by rw [h1]; ac_rfl
  · calc lowT S' D * lowB S D * D = (lowT S' D * D) * lowB S D := by ac_rfl
      _ = S' * (lowB S D * lowB S' D) := by rw [h2]; ac_rfl
theorem low_lt {S S' D : Int} (hD : 0 < D) : (lowT S D * lowB S' D < lowT S' D * lowB S D) ↔ S < S' := by
  have p1 := lowB_pos (a := S) (b := D) (by omega)
  have p2 := lowB_pos (a := S') (b := D) (by omega)
  have h1 := low_cross S D
  have h2 := low_cross S' D
  have e1 : (lowT S D * lowB S' D) * D = S * (lowB S D * lowB S' D) := by
    calc lowT S D * lowB S' D * D = (lowT S D * D) * lowB S' D := by ac_rfl
      _ = S * (lowB S D * lowB S' D) := by rw [h1]; ac_rfl
  have e2 : (lowT S' D * lowB S D) * D = S' * (lowB S D * lowB S' D) := by
    calc lowT S' D * lowB S D * D = (lowT S' D * D) * lowB S D := by ac_rfl
      _ = S' * (lowB S D * lowB S' D) := by rw [h2]; ac_rfl
  have pp : 0 < lowB S D * lowB S' D := Int.mul_pos p1 p2
  constructor
  · intro h
    have := Int.mul_lt_mul_of_pos_right h hD
    rw [e1, e2] at this
    exact Int.lt_of_mul_lt_mul_right this (Int.le_of_lt pp)
  · intro h
    have := Int.mul_lt_mul_of_pos_right h pp
    rw [← e1, ← e2] at this
    exact Int.lt_of_mul_lt_mul_right this (Int.le_of_lt hD)
theorem low_whole {i D : Int} (hD : 0 < D) : lowT (i * D) D = i ∧ lowB (i * D) D = 1 := by
  have h := low_ratio (a := i * D) (b := D) (c := i) (d := 1) (by omega) (by decide) (by rw [Int.mul_one])
  rw [h.1, h.2]
  exact low_int i
theorem Num.int {C : Addr} {H : Hp} {D : Int} (hD : 0 < D) (i : Int) : Num C H (.int i) (i * D) D := by
  unfold Num
  rw [(low_whole hD).1, (low_whole hD).2]
  exact .inl ⟨rfl, rfl⟩
theorem low_one_iff {S D : Int} (hD : 0 < D) : (lowT S D = 1 ∧ lowB S D = 1) ↔ S = D := by
  have h := low_cross S D
  constructor
  · rintro ⟨h1, h2⟩
    rw [h1, h2] at h
    omega
  · rintro rfl
    have := low_whole (i := 1) hD
    rw [Int.one_mul] at this
    exact this
end KG
set_option Elab.async false
set_option linter.all false
set_option maxRecDepth 100000
set_option maxHeartbeats 4000000
namespace KG
open PySem L2
theorem sum_bound {B : Nat} : ∀ (l : List Int), (∀ S ∈ l, S.natAbs ≤ B) → l.sum.natAbs ≤ l.length * B
  | [], _ => by simp
  | a :: r, h => by
    have h1 := sum_bound r fun S hS => h S (List.mem_cons_of_mem _ hS)
    have h2 := h a List.mem_cons_self
    rw [List.sum_cons, List.length_cons, Nat.succ_mul]
    have := Int.natAbs_add_le a r.sum
    omega
theorem sum_small {l : List Int} (hl : l.length ≤ 1000) (h : ∀ S ∈ l, S.natAbs < 2 ^ 3000) : l.sum.natAbs < 2 ^ 4000 := by
  have h1 := sum_bound (B := 2 ^ 3000) l fun S hS => Nat.le_of_lt (h S hS)
  have h2 : l.length * 2 ^ 3000 ≤ 1000 * 2 ^ 3000 := Nat.mul_le_mul_right _ hl
  exact Nat.lt_of_le_of_lt (Nat.le_trans h1 h2) (by decide +kernel)
theorem mem_of_at {α : Type} {l : List α} {i : Nat} {x : α} (h : l[i]? = some x) : x ∈ l := List.mem_of_getElem? h
/-- numbers over D -/
def Nums (C : Addr) (D : Int) (H : Hp) (xs : List V) (Ss : List Int) : Prop := xs.length = Ss.length ∧ ∀ (i : Nat) (x : V), xs[i]? = some x → ∃ S : Int, Ss[i]? = some S ∧ Num C H x S D
theorem Nums.same {C : Addr} {D : Int} {H H' : Hp} {xs : List V} {Ss : List Int} (h : Nums C D H xs Ss) (s : Same H H') : Nums C D H' xs Ss := ⟨h.1, fun i x e => let ⟨S, e2, n⟩ := h.2 i x e; ⟨S, e2, n.same s⟩⟩
theorem SqT.same {K : PySem.W.Frag} {H H' : Hp} {a : Addr} {xs : List V} (h : SqT K H a xs) (e : Same H H') : SqT K H' a xs := by
  rcases h with (h | ⟨o, h⟩) | h
  · exact .inl (.inl (e _ _ h))
  · exact .inl (.inr ⟨o, e _ _ h⟩)
  · exact .inr h
abbrev AddT (P : Program) (w : World) (K : PySem.W.Frag) (mg : Str → Option Value) (base : Heap) (C : Addr) : Prop := ArT P w K mg base C .Add "+" "add" 7 8 (spAdd C) (spRadd C)
/-- total(row) -/
def spTotal (K : PySem.W.Frag) (C : Addr) : Sp := fun vs H Q _ => ∃ (l : Addr) (xs : List V) (Ss : List Int) (D : Int), vs = [.ref l] ∧ SqT K H l xs ∧ Nums C D H xs Ss ∧ 0 < D ∧ D.natAbs < 2 ^ 4000 ∧ Ss.length ≤ 1000 ∧ (∀ S ∈ Ss, S.natAbs < 2 ^ 3000) ∧
  ∀ (a dx : Addr) (H' : Hp), Same H H' → H' a = some (.ins C dx (shF (lowT Ss.sum D) (lowB Ss.sum D))) → Q (.ref a) H'
section
variable {P : Program} {w : World} {K : PySem.W.Frag} {mg : Str → Option Value} {base : Heap} {C B : Addr}
abbrev s_total : Stmt := top 29
theorem sc_total : FnScope ["row"] ["row"] (defScope s_total) := ⟨rfl, rfl, rfl, by decide +kernel, rfl, by decide +kernel, by decide +kernel⟩
theorem ok_total {f : Addr} {fd : FuncData} (F : Fun K "total" "total" s_total f fd) (m : MkT P w K mg base C B) (nt : NoTxt K C) (n_sum : mg "sum" = none) (ad : AddT P w K mg base C) : FnOk P w K mg base CX0 10 f fd ["row"] (spTotal K C) := by
  refine F.ok sc_total (fun vs H Q E h => ?_) (fun cdv A outer s H vs Q E hr h => ?_)
  · obtain ⟨l, xs, Ss, D, rfl, _⟩ := h
    rfl
  · obtain ⟨l, xs, Ss, D, rfl, hl, hn, hD, hDb, hlen, hS, k⟩ := h
    have o := ArT.op (X := (cxOf CX0 P w K mg base ["row"] "total" (defScope s_total) f cdv A outer s H E).nox.inn) ad (hr.in1.mono (by decide)) (hr.in1.mono (by decide))
    refine ⟨_, pss_one (ps_ret (pe_callBK (cr_sumO rfl o) rfl n_sum PyProof.Rows.boot_sum (pa_cons (pv 0) pa_nil) (pk_cons (pe_share1 m (hr.mono (by decide)) rfl (pa_cons pe_int pa_nil)) pk_nil))), ?_⟩
    refine ⟨_, rfl, fun z dz hz hd ne => si_ok hz hd ne (a := 0) (b := 1) (by decide) (by decide +kernel) fun H1 s1 e1 => ⟨rfl, ?_⟩⟩
    have e0 : shF (lowT 0 1) (lowB 0 1) = shF (lowT (Ss.take 0).sum D) (lowB (Ss.take 0).sum D) := by
      have h1 := low_whole (i := 0) hD
      have h2 := low_int 0
      rw [Int.zero_mul] at h1
      rw [h2.1, h2.2, List.take_zero, List.sum_nil, h1.1, h1.2]
    rw [e0] at e1
    refine ⟨l, z, C, dz, _, xs, rfl, rfl, e1, nt, fun i acc H' => Same H1 H' ∧ ∃ a dx, acc = .ref a ∧ H' a = some (.ins C dx (shF (lowT (Ss.take i).sum D) (lowB (Ss.take i).sum D))),
      ⟨Same.refl _, z, dz, rfl, e1⟩, fun i acc H' ⟨_, a, _, e, _⟩ => ⟨a, e⟩, fun i acc H' _ ⟨s2, _⟩ => SqT.same hl (s1.trans s2), ?_, ?_⟩
    · rintro i acc x H' hx ⟨s2, a, dx, rfl, ea⟩
      obtain ⟨S, hSi, nx⟩ := (hn.same (s1.trans s2)).2 i x hx
      have hi : i < Ss.length := (List.getElem?_eq_some_iff.mp hSi).1
      have b1 : (Ss.take i).sum.natAbs < 2 ^ 4000 := sum_small (by rw [List.length_take]; omega) fun S hm => hS S (List.mem_of_mem_take hm)
      have b2 : S.natAbs < 2 ^ 4000 := Nat.lt_trans (hS S (mem_of_at hSi)) (by decide +kernel)
      refine .inl ⟨a, dx, _, rfl, ea, other_of nx, a, dx, x, _, _, _, _, rfl, ea, nx, low_of hD b1 hDb, low_of hD b2 hDb, fun z2 dz2 H2 s3 e3 => ?_⟩
      rw [(low_sum hD).1, (low_sum hD).2] at e3
      refine ⟨s2.trans s3, z2, dz2, rfl, ?_⟩
      rw [take_more hSi, List.sum_append, List.sum_cons, List.sum_nil, Int.add_zero]
      exact e3
    · rintro acc H' ⟨s2, a, dx, rfl, ea⟩
      rw [hn.1, List.take_length] at ea
      exact k a dx H' (s1.trans s2) ea
/-- is_from_zero(thing) -/
def spFrom0 (K : PySem.W.Frag) (C : Addr) : Sp := fun vs H Q _ => ∃ x, vs = [x] ∧ ((∃ S D, Num C H x S D ∧ 0 < D ∧ S.natAbs < 2 ^ 4000 ∧ D.natAbs < 2 ^ 4000 ∧ ∀ H', Same H H' → Q (.bl (decide (0 ≤ S))) H') ∨ ∃ T, Fo K H x T ∧ isI x = false ∧ ∀ H', Same H H' → Q (.bl false) H')
/-- the method less -/
structure LsT (P : Program) (w : World) (K : PySem.W.Frag) (mg : Str → Option Value) (base : Heap) (C : Addr) : Prop where
  ex : ∃ (f : Addr) (fd : FuncData), Meth K C "less" f ∧ FnOk P w K mg base CX0 7 f fd ["self", "other"] (spLess C) ∧ Binds K fd ["self", "other"] []
theorem less_none (t n : Int) : (shF t n).lookup ("less" : Str) = none := by
  unfold shF
  rw [lookup_putF, if_neg (by decide +kernel), lookup_putF, if_neg (by decide +kernel)]
  rfl
end
end KG
set_option Elab.async false
set_option linter.all false
set_option maxRecDepth 100000
set_option maxHeartbeats 4000000
namespace KG
open PySem L2
/-- a thing that is no tuple -/
inductive NotTup (K : PySem.W.Frag) (C : Addr) (H : Hp) : V → Prop where
  | fo {x : V} {T : String} (h : Fo K H x T) (ne : T ≠ "tuple") : NotTup K C H x
  | ins {a dx : Addr} {fs : List (Str × V)} (e : H a = some (.ins C dx fs)) : NotTup K C H (.ref a)
theorem NotTup.kit {K : PySem.W.Frag} {C : Addr} {H : Hp} {x : V} (I : InsT K C) (tu : PySem.W.kitOne K (.ref C) (.type "tuple") = some false) (h : NotTup K C H x) : ∃ t, TyX K H x t ∧ PySem.W.kitOne K t (.type "tuple") = some false := by
  cases h with
  | ins e => exact ⟨_, I.ty e, tu⟩
  | fo h ne =>
    refine ⟨_, h.ty, ?_⟩
    cases h with
    | non => exact kit_ty (r := false) (by decide +kernel)
    | bl b => exact kit_ty (r := false) (by decide +kernel)
    | int i => exact kit_ty (r := false) (by decide +kernel)
    | str x => exact kit_ty (r := false) (by decide +kernel)
    | lst e => exact kit_ty (r := false) (by decide +kernel)
    | tup e => exact absurd rfl ne
    | dK e => exact kit_ty (r := false) (by decide +kernel)
/-- an item: a number over D, or a thing that is none -/
def Item (K : PySem.W.Frag) (C : Addr) (D : Int) (H : Hp) (x : V) : Option Int → Prop
  | some S => Num C H x S D ∧ S.natAbs < 2 ^ 3000
  | none => ∃ T, Fo K H x T ∧ isI x = false
theorem Item.same {K : PySem.W.Frag} {C : Addr} {D : Int} {H H' : Hp} {x : V} {o : Option Int} (h : Item K C D H x o) (s : Same H H') : Item K C D H' x o := by
  cases o with
  | some S => exact ⟨h.1.same s, h.2⟩
  | none =>
    obtain ⟨T, fo, ix⟩ := h
    exact ⟨T, fo_same fo s, ix⟩
def Items (K : PySem.W.Frag) (C : Addr) (D : Int) (H : Hp) (xs : List V) (os : List (Option Int)) : Prop := xs.length = os.length ∧ ∀ (i : Nat) (x : V), xs[i]? = some x → ∃ o : Option Int, os[i]? = some o ∧ Item K C D H x o
theorem Items.same {K : PySem.W.Frag} {C : Addr} {D : Int} {H H' : Hp} {xs : List V} {os : List (Option Int)} (h : Items K C D H xs os) (s : Same H H') : Items K C D H' xs os := ⟨h.1, fun i x e => let ⟨o, e2, n⟩ := h.2 i x e; ⟨o, e2, n.same s⟩⟩
def from0 : Option Int → Bool
  | some S => decide (0 ≤ S)
  | none => false
/-- a spread over D -/
def sprB (D : Int) (os : List (Option Int)) : Bool := (os.map from0).all id && decide ((os.map (·.getD 0)).sum = D)
theorem Items.nums {K : PySem.W.Frag} {C : Addr} {D : Int} {H : Hp} {xs : List V} {os : List (Option Int)} (h : Items K C D H xs os) (a : (os.map from0).all id = true) : Nums C D H xs (os.map (·.getD 0)) ∧ ∀ S ∈ os.map (·.getD 0), S.natAbs < 2 ^ 3000 := by
  have each : ∀ o ∈ os, ∃ S, o = some S := fun o ho => by
    have := List.all_eq_true.mp a (from0 o) (List.mem_map_of_mem ho)
    cases o with
    | some S => exact ⟨S, rfl⟩
    | none => cases this
  have bound : ∀ (i : Nat) (o : Option Int), os[i]? = some o → ∃ x, xs[i]? = some x := fun i o e => by
    have hi := (List.getElem?_eq_some_iff.mp e).1
    rw [← h.1] at hi
    exact ⟨xs[i], List.getElem?_eq_getElem hi⟩
  refine ⟨⟨by rw [List.length_map]; exact h.1, fun i x e => ?_⟩, fun S hS => ?_⟩
  · obtain ⟨o, e2, n⟩ := h.2 i x e
    obtain ⟨S, rfl⟩ := each o (mem_of_at e2)
    exact ⟨S, by rw [List.getElem?_map, e2]; rfl, n.1⟩
  · obtain ⟨o, ho, rfl⟩ := List.mem_map.mp hS
    obtain ⟨S, rfl⟩ := each o ho
    obtain ⟨i, hi⟩ := List.getElem?_of_mem ho
    obtain ⟨x, hx⟩ := bound i _ hi
    obtain ⟨o2, e2, n⟩ := h.2 i x hx
    rw [hi] at e2
    cases e2
    exact n.2
def spTupOf (K : PySem.W.Frag) (C : Addr) : Sp := fun vs H Q _ => ∃ (many : Int) (x : V), vs = [.int many, x] ∧ ((∃ t xs, x = .ref t ∧ H t = some (.tup xs) ∧ Q (.bl (decide (V.int (xs.length : Int) = V.int many))) H) ∨ (NotTup K C H x ∧ Q (.bl false) H))
def spSpread (K : PySem.W.Frag) (C : Addr) : Sp := fun vs H Q _ => ∃ (many : Int) (x : V), vs = [.int many, x] ∧ ((∃ t xs os D, x = .ref t ∧ H t = some (.tup xs) ∧ Items K C D H xs os ∧ 0 < D ∧ D.natAbs < 2 ^ 4000 ∧ os.length ≤ 1000 ∧
  ∀ H', Same H H' → Q (.bl (decide (V.int (xs.length : Int) = V.int many) && sprB D os)) H') ∨ (NotTup K C H x ∧ ∀ H', Same H H' → Q (.bl false) H'))
section
variable {P : Program} {w : World} {K : PySem.W.Frag} {mg : Str → Option Value} {base : Heap} {C B : Addr}
abbrev s_tupOf : Stmt := top 17
theorem sc_tupOf : FnScope ["many", "thing"] ["many", "thing"] (defScope s_tupOf) := ⟨rfl, rfl, rfl, by decide +kernel, rfl, by decide +kernel, by decide +kernel⟩
theorem ok_tupOf {f : Addr} {fd : FuncData} (F : Fun K "is_tuple_of" "is_tuple_of" s_tupOf f fd) (T : ShT K mg C) (n_tuple : mg "tuple" = none) (tu : PySem.W.kitOne K (.ref C) (.type "tuple") = some false) : FnOk P w K mg base CX0 1 f fd ["many", "thing"] (spTupOf K C) := by
  refine F.ok sc_tupOf (fun vs H Q E h => ?_) (fun cdv A outer s H vs Q E hr h => ?_)
  · obtain ⟨many, x, rfl, _⟩ := h
    rfl
  · obtain ⟨many, x, rfl, h⟩ := h
    refine ⟨_, (pss_one (ps_ret (pe_and (pe_callB call_isi (by rfl) T.bn.n_isinstance (by decide +kernel) (pa_cons (pv 1) (pa_cons (pe_bltn (v := .ty "tuple") rfl n_tuple (by decide +kernel) rfl) pa_nil))) (pe_one (pe_cmpR op_eq (pe_callB call_len_seq (by rfl) T.bn.n_len PySem.boot_len (pa_cons (pv 1) pa_nil)) (pv 0) (nomark _)))))), ?_⟩
    rcases h with ⟨t, xs, rfl, e, k⟩ | ⟨nt, k⟩
    · refine ⟨_, rfl, .ref t, .ty "tuple", _, _, true, rfl, .ty _, (Fo.tup e).ty, kit_ty (r := true) (by decide +kernel), _, rfl, iteT ?_⟩
      exact ⟨_, rfl, t, xs, rfl, .inr (.inl (.inl e)), _, rfl, rfl, k⟩
    · obtain ⟨ty, h1, h2⟩ := nt.kit T.it tu
      exact ⟨_, rfl, x, .ty "tuple", ty, _, false, rfl, .ty _, h1, h2, _, rfl, iteF k⟩
end
end KG
set_option Elab.async false
set_option linter.all false
set_option maxRecDepth 100000
set_option maxHeartbeats 4000000
/-! raise C(), C an own exception whose __init__ takes nothing and keeps nothing -/
namespace L2
open PySem PySem.Spec PyProof.Rows
end L2
set_option Elab.async false
set_option linter.all false
set_option maxRecDepth 100000
set_option maxHeartbeats 4000000
namespace KG
open PySem L2
/-! ### things, a chain among them -/
inductive Th2 (K : PySem.W.Frag) (C CC : Addr) (H : Hp) : V → Prop
  | th {x : V} (h : Thing K C H x) : Th2 K C CC H x
  | ch {a dx : Addr} {fs : List (Str × V)} (e : H a = some (.ins CC dx fs)) : Th2 K C CC H (.ref a)
theorem Thing.same {K : PySem.W.Frag} {C : Addr} {H H' : Hp} {x : V} (h : Thing K C H x) (s : Same H H') : Thing K C H' x := by
  cases h with
  | fo h => exact .fo (fo_same h s)
  | ins e => exact .ins (s _ _ e)
theorem Th2.same {K : PySem.W.Frag} {C CC : Addr} {H H' : Hp} {x : V} (h : Th2 K C CC H x) (s : Same H H') : Th2 K C CC H' x := by
  cases h with
  | th h => exact .th (h.same s)
  | ch e => exact .ch (s _ _ e)
theorem Th2.isInt {K : PySem.W.Frag} {C CC : Addr} {H : Hp} {x : V} (I : InsT K C) (J : InsT K CC) (h : Th2 K C CC H x) : ∃ t, TyX K H x t ∧ PySem.W.kitOne K t (.type "int") = some (isIB x) ∧ PySem.W.kitOne K t (.type "bool") = some (isB x) := by
  cases h with
  | th h => exact h.isInt I
  | ch e => exact ⟨_, J.ty e, J.kint, J.kbool⟩
theorem isI_IB (x : V) : (isIB x && !isB x) = isI x := by cases x <;> rfl
def btw (a b : Int) : V → Bool
  | .int i => decide (a ≤ i) && decide (i ≤ b)
  | _ => false
theorem btw_no {a b : Int} {x : V} (h : isI x = false) : btw a b x = false := by
  cases x <;> first | rfl | cases h
theorem int_btw {n s : Nat} (h : s < n) : btw 0 ((n : Int) - 1) (.int (s : Int)) = true := by
  show (decide (0 ≤ (s : Int)) && decide ((s : Int) ≤ (n : Int) - 1)) = true
  rw [Bool.and_eq_true, decide_eq_true_eq, decide_eq_true_eq]
  omega
def spWhole2 (K : PySem.W.Frag) (C CC : Addr) : Sp := fun vs H Q _ => ∃ x, vs = [x] ∧ Th2 K C CC H x ∧ Q (.bl (isI x)) H
def spBetween (K : PySem.W.Frag) (C CC : Addr) : Sp := fun vs H Q _ => ∃ (a b : Int) (x : V), vs = [.int a, .int b, x] ∧ Th2 K C CC H x ∧ Q (.bl (btw a b x)) H
def spIndex (K : PySem.W.Frag) (C CC : Addr) : Sp := fun vs H Q _ => ∃ (n : Int) (x : V), vs = [.int n, x] ∧ Th2 K C CC H x ∧ Q (.bl (btw 0 (n - 1) x)) H
section
variable {P : Program} {w : World} {K : PySem.W.Frag} {mg : Str → Option Value} {base : Heap} {C CC B : Addr}
theorem ok_is_whole2 {f : Addr} {fd : FuncData} (F : Fun K "is_whole" "is_whole" s_is_whole f fd) (T : Bn mg) (I : InsT K C) (J : InsT K CC) : FnOk P w K mg base CX0 1 f fd ["thing"] (spWhole2 K C CC) := by
  refine F.ok sc_is_whole (fun vs H Q E h => ?_) (fun cdv A outer s H vs Q E hr h => ?_)
  · obtain ⟨x, rfl, _⟩ := h
    rfl
  · obtain ⟨x, rfl, h, k⟩ := h
    refine ⟨_, (pss_one (ps_ret (pe_and (pe_callB call_isi (by rfl) T.n_isinstance (by decide +kernel) (pa_cons (pv 0) (pa_cons (pe_bltn (v := .ty "int") rfl T.n_int (by decide +kernel) rfl) pa_nil))) (pe_one (pe_not (pe_callB call_isi (by rfl) T.n_isinstance (by decide +kernel) (pa_cons (pv 0) (pa_cons (pe_bltn (v := .ty "bool") rfl T.n_bool (by decide +kernel) rfl) pa_nil)))))))), ?_⟩
    obtain ⟨t, ty, k1, k2⟩ := h.isInt I J
    have e := isI_IB x
    refine ⟨_, rfl, x, .ty "int", t, _, _, rfl, .ty _, ty, k1, _, rfl, iteB (fun z => ?_) (fun z => ?_)⟩
    · refine ⟨_, rfl, x, .ty "bool", t, _, _, rfl, .ty _, ty, k2, _, rfl, ?_⟩
      rw [z, Bool.true_and] at e
      rw [e]
      exact k
    · rw [z, Bool.false_and] at e
      rw [← e] at k
      exact k
abbrev s_is_between : Stmt := top 12
theorem sc_is_between : FnScope ["least", "most", "thing"] ["least", "most", "thing"] (defScope s_is_between) := ⟨rfl, rfl, rfl, by decide +kernel, rfl, by decide +kernel, by decide +kernel⟩
theorem ok_is_between {f : Addr} {fd : FuncData} (F : Fun K "is_between" "is_between" s_is_between f fd) (c_is_whole : Cal P w K mg base 1 "is_whole" ["thing"] (spWhole2 K C CC)) : FnOk P w K mg base CX0 2 f fd ["least", "most", "thing"] (spBetween K C CC) := by
  refine F.ok sc_is_between (fun vs H Q E h => ?_) (fun cdv A outer s H vs Q E hr h => ?_)
  · obtain ⟨a, b, x, rfl, _⟩ := h
    rfl
  · obtain ⟨a, b, x, rfl, h, k⟩ := h
    refine ⟨_, (pss_one (ps_ret (pe_and (pe_cal c_is_whole (hr.mono (by decide)) rfl (pa_cons (pv 2) pa_nil)) (pe_one (pe_chain op_le op_le (pv 0) (pv 2) (pv 1)))))), ?_⟩
    refine ⟨_, rfl, x, rfl, h, _, rfl, iteB (fun z => ?_) (fun z => ?_)⟩
    · obtain ⟨i, rfl⟩ := isI_int z
      refine ⟨_, rfl, _, rfl, a, i, rfl, rfl, _, rfl, iteB (fun z2 => ?_) (fun z2 => ?_)⟩
      · refine ⟨_, rfl, i, b, rfl, rfl, ?_⟩
        show Q (.bl (decide (i ≤ b))) H
        have k : Q (.bl (decide (a ≤ i) && decide (i ≤ b))) H := k
        rw [z2, Bool.true_and] at k
        exact k
      · have k : Q (.bl (decide (a ≤ i) && decide (i ≤ b))) H := k
        rw [z2, Bool.false_and] at k
        exact k
    · rw [btw_no z] at k
      exact k
abbrev s_is_index : Stmt := top 13
theorem sc_is_index : FnScope ["many", "thing"] ["many", "thing"] (defScope s_is_index) := ⟨rfl, rfl, rfl, by decide +kernel, rfl, by decide +kernel, by decide +kernel⟩
theorem ok_is_index {f : Addr} {fd : FuncData} (F : Fun K "is_index" "is_index" s_is_index f fd) (c_is_between : Cal P w K mg base 2 "is_between" ["least", "most", "thing"] (spBetween K C CC)) : FnOk P w K mg base CX0 3 f fd ["many", "thing"] (spIndex K C CC) := by
  refine F.ok sc_is_index (fun vs H Q E h => ?_) (fun cdv A outer s H vs Q E hr h => ?_)
  · obtain ⟨n, x, rfl, _⟩ := h
    rfl
  · obtain ⟨n, x, rfl, h, k⟩ := h
    refine ⟨_, (pss_one (ps_ret (pe_cal c_is_between (hr.mono (by decide)) rfl (pa_cons pe_int (pa_cons (pe_op op_sub (pv 0) pe_int) (pa_cons (pv 1) pa_nil)))))), ?_⟩
    exact ⟨_, rfl, _, _, rfl, rfl, _, rfl, 0, n - 1, x, rfl, h, k⟩
end
end KG
set_option Elab.async false
set_option linter.all false
set_option maxRecDepth 100000
set_option maxHeartbeats 4000000
/-! a dict comprehension whose keys are tuples; x in a tuple of data; a block that is never reached -/
namespace L2
open PySem PySem.Spec PyProof.Rows
/-- the new dict D takes a pair -/
theorem putT_set {Y : Cx} {ps : List (Addr × Obj)} {τ : St} {G : Hp} {z : Shared} {Er : Value → Shared → Prop} {D b : Addr} {kvs : List (List Key × V)} {k : List Key} {v : V} {u r : Value} {Q : Unit → Shared → Prop} (hu : Y.A.units + 1 < cLine)
    (I : Inv Y ps τ G z) (eD : G D = some (.dT kvs)) (room : kvs.length < sizeLine) (eb : G b = some (.tup (k.map kV))) (ry : RelV (.ref b) u) (rv : RelV v r) (go : ∀ z', Inv Y ps τ (upd G D (.dT (putK kvs k v))) z' → Q () z') :
    wpAny (model Y.prog Y.w) Y.A (dictSet D u r) Q Er z := by
  obtain rfl : u = Value.ref b := ry
  obtain ⟨sz, hd, xs, rel, dd⟩ := dt_of I.hok eD
  have sz1 : xs.length ≤ sizeLine := (Paired.length rel) ▸ sz
  have sz2 : (putK kvs k v).length ≤ sizeLine := by
    have := length_putK kvs k v
    omega
  refine wpAny_dictSet_heap (hsz := sz1) (knd := tupleKind (mixKind Y.prog Y.w)) (by first | exact Nat.lt_of_succ_lt hu | exact hu) (key_of I.hok eb) dd fun h1 d1 same => go _ ?_
  obtain ⟨ob, es, ep, g1, g2, g3, g4, _, g6⟩ := d1
  refine d_write I (by rw [eD]; trivial) same ⟨ob, g1⟩ ⟨sz2, hd, _, KT.keeps (rel.put k eb rv) fun c ys ec => ?_, ob, es, ep, g1, g2, g3, g4, g6⟩
  rw [upd_ne (ne_of ec eD (by intro q; cases q))]
  exact ec
/-- {k: v for target in iter if ..}, keys tuples of ints and texts -/
def tDcT (wi : TI) (g : TG) (tt : TT) (tk tv : TE) (vs : List Nat) : TE := fun σ H Q => wi σ H fun J H1 => ∀ D, H1 D = none → ∃ W : Nat → Nat → Hp → Prop, (∃ m, W 0 m (upd H1 D (.dT []))) ∧
  ∀ i m H, W i m H → (J.stop i H ∧ Q (.ref D) H) ∨ (J.go i H ∧ ∃ Nx : Hp → Prop, (∀ H', Nx H' → ∃ m', m' < m ∧ W (i + 1) m' H') ∧
    ∀ x H', J.yld i H x H' → g x (wipe σ vs) H' fun σ2 H2 => wipe σ2 vs = wipe σ vs ∧ tt σ2 H2 fun b H3 => if b = true then tk σ2 H3 fun y H4 => tv σ2 H4 fun z H5 =>
      ∃ kvs k c, y = .ref c ∧ H5 c = some (.tup (k.map kV)) ∧ H5 D = some (.dT kvs) ∧ kvs.length < sizeLine ∧ Nx (upd H5 D (.dT (putK kvs k z))) else Nx H3)
section
variable {X : Cx}
theorem pe_dcT {kx vx tg iter : Expr} {ifs : List Expr} {scope : Scope} {own : List (Str × Nat)} {pos : Pos} {wi : TI} {g : TG} {tt : TT} {tk tv : TE} (hc : X.calm = true) (hu : X.A.units + 1 < cLine) (hN : X.N.Nodup) (hi : PI X tg iter wi) (ok : BlkOk X.N X.env.scope scope own)
    (hg : ∀ (z : Shared) (G : Hp) (C : Addr) (cl : List (Str × Addr)) (fp : List Addr), PG (X.blk z G scope (compEnvC scope cl C X.env) fp) tg g)
    (ht : ∀ (z : Shared) (G : Hp) (C : Addr) (cl : List (Str × Addr)) (fp : List Addr), PTs (X.blk z G scope (compEnvC scope cl C X.env) fp) ifs tt)
    (hk : ∀ (z : Shared) (G : Hp) (C : Addr) (cl : List (Str × Addr)) (fp : List Addr), PE (X.blk z G scope (compEnvC scope cl C X.env) fp) kx tk)
    (hv : ∀ (z : Shared) (G : Hp) (C : Addr) (cl : List (Str × Addr)) (fp : List Addr), PE (X.blk z G scope (compEnvC scope cl C X.env) fp) vx tv) (hf : ∀ x, foldedSetIterable iter X.env x = pure x := by intro _; rfl) :
    PE X (.DictComp kx vx [⟨tg, iter, ifs, 0⟩] scope pos) (tDcT wi g tt tk tv (own.map (·.2))) := by
  refine ⟨fun ps z0 σ G Q I want => ?_⟩
  rw [arm_eval_DictComp]
  have cells : ∀ y ∈ scope.names, y.2 = .free → ∃ c, X.env.cells.lookup y.1 = some c := fun y hy e => by
    rcases ok.free y hy e with q | q
    · exact I.ok.has _ (.inl q)
    · exact I.ok.has _ (.inr q)
  refine wpAny_comprehension_free rfl hf (closure_ok cells) ok.kind (fun y hy e => by rw [ok.uniq y hy, e])
    (thn (hi.run ps z0 σ G _ I want) fun xv z1 hx => thn hx fun itv z2 got => ?_)
  obtain ⟨it, fp, tn, J, G2, e, I2, T, at2, fresh2, plan⟩ := got
  subst e
  refine wpAny_newObj_type (newEnv_comp ?_)
  generalize eD : z2.heap.objs.size = D
  have noD : G2 D = none := I2.hok.fresh (Nat.le_of_eq eD)
  obtain ⟨W, ⟨m0, start⟩, turn⟩ := plan D noD
  generalize e3 : ({ z2 with heap := z2.heap.push { cls := .type "dict", data := .dict #[] } } : Shared) = z3
  have I3 : Inv X ps σ (upd G2 D (.dT [])) z3 := by
    subst e3
    refine I2.laid (t' := z2.toks) (fun b o q => Heap.get?_push_of_some _ q) (Nat.le_of_eq eD) ?_
    subst eD
    exact dt_empty z2.heap I2.big
  have heap3 : z3.heap = z2.heap.push { cls := .type "dict", data := .dict #[] } := by subst e3; rfl
  have low : ∀ b ∈ fp, b < z2.heap.objs.size := fun b hb => let ⟨_, q, _⟩ := T.obj _ _ at2 b hb; Heap.lt_size q
  have fresh3 : ∀ b ∈ fp, FpOk X ps (upd G2 D (.dT [])) b ∧ b < z3.heap.objs.size := fun b hb => by
    have lb := low b hb
    have nb : (upd G2 D (.dT [])) b = none := by
      rw [upd_ne (by subst eD; exact Nat.ne_of_lt lb)]
      exact (fresh2 b hb).1
    exact ⟨⟨nb, (fresh2 b hb).2⟩, by rw [heap3, Heap.size_push]; exact Nat.lt_succ_of_lt lb⟩
  have at3 : tn 0 z3.heap := T.keep _ _ _ at2 fun b _ o q => by rw [heap3]; exact Heap.get?_push_of_some _ q
  have I4 := block_start I3 ok hN fresh3
  generalize eH : upd G2 D (.dT []) = G3 at I3 I4 start fresh3
  show codeAny _ _ (.compStart _ 0 (.ref it) (.ref D) (compEnvC scope (cellsFrom (z3.heap.objs.size + 1) scope.names (cloFrom X.env.cells scope.names [])) z3.heap.objs.size X.env)) (compPost (model X.prog X.w) X.A X.xe none _ (.ref D) z3.heap.objs.size) { z3 with heap := pushCells (z3.heap.push { cls := .type "dict", data := .dict #[] }) scope.names }
  have ppg := hg z3 G3 z3.heap.objs.size (cellsFrom (z3.heap.objs.size + 1) scope.names (cloFrom X.env.cells scope.names [])) fp
  have ppt := ht z3 G3 z3.heap.objs.size (cellsFrom (z3.heap.objs.size + 1) scope.names (cloFrom X.env.cells scope.names [])) fp
  have ppk := hk z3 G3 z3.heap.objs.size (cellsFrom (z3.heap.objs.size + 1) scope.names (cloFrom X.env.cells scope.names [])) fp
  have ppv := hv z3 G3 z3.heap.objs.size (cellsFrom (z3.heap.objs.size + 1) scope.names (cloFrom X.env.cells scope.names [])) fp
  generalize eE : compEnvC scope (cellsFrom (z3.heap.objs.size + 1) scope.names (cloFrom X.env.cells scope.names [])) z3.heap.objs.size X.env = ce at I4 ppg ppt ppk ppv ⊢
  have loc : ce.locals = z3.heap.objs.size := by subst eE; rfl
  generalize e4 : ({ z3 with heap := pushCells (z3.heap.push { cls := .type "dict", data := .dict #[] }) scope.names } : Shared) = z4 at I4 ⊢
  have at4 : tn 0 z4.heap := T.keep _ _ _ at3 fun b _ o q => by subst e4; exact pushCells_keeps _ _ _ _ (Heap.get?_push_of_some _ q)
  let B : Cx := X.blk z3 G3 scope ce fp
  have calmB : B.calm = true := hc
  -- what is the same at each turn's begin
  let At : Nat → Nat → Hp → Shared → Prop := fun i m G' z' => Inv B [] (wipe σ (own.map (·.2))) G' z' ∧ tn i z'.heap ∧ (∀ b ∈ fp, G' b = none) ∧ W i m G'
  have fps : ∀ {τ : St} {G' : Hp} {z' : Shared}, Inv B [] τ G' z' → (∀ b ∈ fp, G' b = none) → ∀ b ∈ fp, FpOk B [] G' b := fun {τ G' z'} I' no b hb =>
    ⟨no b hb, (I'.ok.exf b hb).1, I'.ok.exfs b hb, .inl hb, fun _ c q => (I'.ok.exf b hb).2 _ c q, fun p hp => absurd (show p ∈ (([] : List (Addr × Obj)) ++ ([] : List (Addr × Obj))) from hp) List.not_mem_nil⟩
  have whole : codeAny (model X.prog X.w) X.A (.compLoop (.DictComp kx vx [⟨tg, iter, ifs, 0⟩] scope pos) 0 (.ref it) (.ref D) ce) (compPost (model X.prog X.w) X.A X.xe none (EP X ps σ Q) (.ref D) z3.heap.objs.size) z4 := by
    refine compLoop_anyD (fun m z' => ∃ i G', At i m G' z') (fun m z' ⟨i, G', I', at', no, w'⟩ => ?_) m0 ⟨0, G3, I4, at4, fun b hb => (fresh3 b hb).1.1, start⟩
    rcases turn i m G' w' with ⟨stop, won⟩ | ⟨more, Nx, next, step⟩
    · refine thnF (T.done B rfl rfl rfl calmB i [] z' _ G' (fun _ _ => False) I' (fps I' no) at' stop) fun r z5 ⟨er, I5⟩ => ?_
      subst er
      have outer : Inv X ps σ G' z5 := I3.call' (ch := fp) I5.os I5.base I5.hok I5.bare fun b hb =>
        let q := (fresh3 b hb).1.2
        ⟨q.2.2.1, q.1, q.2.2.2.1, q.2.2.2.2⟩
      have freeC : G' z3.heap.objs.size = none := loc ▸ (show G' ce.locals = none from I5.free)
      obtain ⟨mm, ns, _⟩ := I5.loc
      have ns : z5.heap.Ns z3.heap.objs.size mm := loc ▸ (show z5.heap.Ns ce.locals mm from ns)
      obtain ⟨f0, f1, f2, f3, f4, f5⟩ := I3.fpOk (Nat.le_refl _) freeC
      exact ⟨mm, ns, fun h2 sb => ⟨.ref D, G', outer.turned (t' := z5.toks) (fun b o hb q => (sb.2 b hb).trans q) f0 f1 f3 f4 f5, rfl, won⟩⟩
    · refine thnF (T.item B rfl rfl rfl calmB i [] z' _ G' (fun _ _ => False) I' (fps I' no) at' more) fun r z5 ⟨u, er, then5⟩ => ?_
      subst er
      refine thnF then5 fun _ z6 ⟨x, G6, I6, r6, y6, at6, no6⟩ => ?_
      refine thnF (ppg.run _ z6 _ G6 x u _ (I6.pinned (fps I6 no6) (T.obj _ _ at6)) r6 (step x G6 y6)) fun _ z7 ⟨τ, G7, I7, wiped, q7⟩ => ?_
      refine thnF (ppt.run _ z7 τ G7 _ I7 q7) fun b z8 ⟨G8, I8, q8⟩ => ?_
      have onward : ∀ {z9 : Shared} {G9 : Hp}, Inv B ([] ++ pinsAt fp z6.heap) τ G9 z9 → Nx G9 → ∃ m', m' < m ∧ ∃ i G', At i m' G' z9 := fun {z9 G9} I9 nx => by
        obtain ⟨m', lt, w9⟩ := next G9 nx
        have held : ∀ b ∈ fp, ∀ o, z6.heap.get? b = some o → z9.heap.get? b = some o ∧ G9 b = none := fun b hb o q =>
          have pin := I9.pin (b, o) (List.mem_append_right _ (List.mem_append_right _ (mem_pinsAt hb q)))
          ⟨pin.1, pin.2.1⟩
        have len : (wipe σ (own.map (·.2))).length = τ.length := by rw [← wiped, wipe_length]
        refine ⟨m', lt, i + 1, G9, (I9.unpinned (pins := [])).weak len (fun j v q => (wipe_some (wiped.symm ▸ q : (wipe τ (own.map (·.2)))[j]? = some (some v))).1), T.keep _ _ _ at6 fun b hb o q => (held b hb o q).1, fun b hb => ?_, w9⟩
        obtain ⟨o, q, _⟩ := T.obj _ _ at6 b hb
        exact (held b hb o q).2
      cases b with
      | false =>
        rw [if_neg (by decide)] at q8 ⊢
        exact onward I8 q8
      | true =>
        rw [if_pos rfl] at q8 ⊢
        refine thnF (ppk.run _ z8 τ G8 _ I8 q8) fun ku z9 ⟨y, G9, I9, r9, q9⟩ => ?_
        refine thnF (ppv.run _ z9 τ G9 _ I9 q9) fun vu z10 ⟨v, G10, I10, r10, kvs, k, c, ec, e1, e2, e3', nx⟩ => ?_
        subst ec
        exact putT_set (Y := B) hu I10 e2 e3' e1 r9 r10 fun z11 I11 => onward I11 nx
  exact codeAny_compStart_dict whole (T.self X.A 0 _ _ _ at4 whole)
/-- over a list that stays -/
theorem dcT_list {K : PySem.W.Frag} {a : Addr} {xs : List V} {g : TG} {tt : TT} {tk tv : TE} {vs : List Nat} {σ : St} {H1 : Hp} {D : Addr} {Qd : Hp → Prop} (Pv : Nat → Hp → Prop) (h0 : Pv 0 (upd H1 D (.dT []))) (stays : ∀ i H, i ≤ xs.length → Pv i H → SqL K H a xs)
    (hs : ∀ i x H, xs[i]? = some x → Pv i H → g x (wipe σ vs) H fun σ2 H2 => wipe σ2 vs = wipe σ vs ∧ tt σ2 H2 fun b H3 => if b = true then tk σ2 H3 fun y H4 => tv σ2 H4 fun z H5 =>
      ∃ kvs k c, y = .ref c ∧ H5 c = some (.tup (k.map kV)) ∧ H5 D = some (.dT kvs) ∧ kvs.length < sizeLine ∧ Pv (i + 1) (upd H5 D (.dT (putK kvs k z))) else Pv (i + 1) H3) (hd : ∀ H, Pv xs.length H → Qd H) :
    ∃ W : Nat → Nat → Hp → Prop, (∃ m, W 0 m (upd H1 D (.dT []))) ∧ ∀ i m H, W i m H → ((Itl K a).stop i H ∧ Qd H) ∨ ((Itl K a).go i H ∧ ∃ Nx : Hp → Prop, (∀ H', Nx H' → ∃ m', m' < m ∧ W (i + 1) m' H') ∧
      ∀ x H', (Itl K a).yld i H x H' → g x (wipe σ vs) H' fun σ2 H2 => wipe σ2 vs = wipe σ vs ∧ tt σ2 H2 fun b H3 => if b = true then tk σ2 H3 fun y H4 => tv σ2 H4 fun z H5 =>
        ∃ kvs k c, y = .ref c ∧ H5 c = some (.tup (k.map kV)) ∧ H5 D = some (.dT kvs) ∧ kvs.length < sizeLine ∧ Nx (upd H5 D (.dT (putK kvs k z))) else Nx H3) := by
  refine ⟨fun i m H => m + i = xs.length ∧ Pv i H, ⟨xs.length, by omega, h0⟩, fun i m H ⟨em, p⟩ => ?_⟩
  have q := stays i H (by omega) p
  cases m with
  | zero =>
    obtain rfl : i = xs.length := by omega
    exact .inl ⟨⟨xs, q, Nat.le_refl _⟩, hd H p⟩
  | succ m =>
    have lt : i < xs.length := by omega
    refine .inr ⟨⟨xs, xs[i], q, by simp [lt]⟩, Pv (i + 1), fun H' p' => ⟨m, Nat.lt_succ_self m, by omega, p'⟩, fun x H' y => ?_⟩
    obtain ⟨e, y⟩ := y
    subst e
    exact hs i x _ (y xs q) p
def rInDT (K : PySem.W.Frag) : R2 := fun x y H Q => ∃ d ds, Dp K H x d ∧ Dp K H y (.tuple ds) ∧ SeqAt.shaped d = true ∧ SeqAt.shaped (.tuple ds) = true ∧ Q (.bl (ds.any fun z => PyData.eqv z d)) H
/-- x in t, t a tuple of data -/
theorem op_inDT (hu : X.A.units + 65 < cLine) : OpR X (compareOp .In) (rInDT X.K) := by
  intro ps z σ G x y v u Q I rx ry ⟨d, ds, hd, he, sd, se, q⟩
  obtain ⟨as, r1⟩ := Dp.reads I d x v hd rx
  obtain ⟨bs, r2⟩ := Dp.reads I (.tuple ds) y u he ry
  exact SeqAt.in_tuple_reads r2 r1 (SeqAt.canLay_of_shaped se) (SeqAt.canLay_of_shaped sd) (room_in_shaped sd hu) ⟨.bl _, G, I, rfl, q⟩
end
end L2
set_option Elab.async false
set_option linter.all false
set_option maxRecDepth 100000
set_option maxHeartbeats 4000000
/-! a sequence that may be a list or a tuple, gone through -/
namespace L2
open PySem PySem.Spec PyProof.Rows
def Sq (H : Hp) (a : Addr) (xs : List V) : Prop := H a = some (.lst xs) ∨ H a = some (.tup xs)
theorem Sq.same {H H' : Hp} {a : Addr} {xs : List V} (h : Sq H a xs) (s : ∀ o, H a = some o → H' a = some o) : Sq H' a xs := h.elim (fun e => .inl (s _ e)) fun e => .inr (s _ e)
end L2
set_option Elab.async false
set_option linter.all false
set_option maxRecDepth 100000
set_option maxHeartbeats 4000000
/-! sum(t), t a tuple of ints; t * k, k from 1 on -/
namespace L2
open PySem PySem.Spec PyProof.Rows
theorem preSum_take (ns : List Int) : ∀ n, preSum (fun j => ns.getD j 0) n = (ns.take n).sum
  | 0 => by simp [preSum]
  | n + 1 => by
    rw [preSum, preSum_take ns n]
    rcases Nat.lt_or_ge n ns.length with h | h
    · rw [List.take_succ_eq_append_getElem h, List.sum_append, List.sum_cons, List.sum_nil, Int.add_zero]
      simp [h]
    · rw [List.take_of_length_le h, List.take_of_length_le (by omega)]
      simp [List.getD, List.getElem?_eq_none h]
theorem intsAre_at {its : List Value} {ns : List Int} (h : IntsAre its ns) : ∀ (i : Nat) (v : Value), its[i]? = some v → ∃ t, v = .int (ns.getD i 0) t := by
  induction h with
  | nil => intro i v e; simp at e
  | cons n t h ih =>
    intro i v e
    cases i with
    | zero =>
      have e2 : Value.int n t = v := Option.some.inj e
      exact ⟨t, e2.symm⟩
    | succ i => exact ih i v e
section
variable {prog : Program} {w : World} {A : Around} {E : Value → Shared → Prop} {s : Shared} {l : Addr} {its : List Value} {ns : List Int} {Q : Value → Shared → Prop}
theorem sum_rawT (hh : A.in1.handled = none) (hl : s.heap.IsTuple l its.toArray) (hi : IntsAre its ns)
    (h : ∀ h' tk t', (∀ b o, s.heap.get? b = some o → h'.get? b = some o) → Q (.int ns.sum t') { s with heap := h', toks := tk }) : wpAny (model prog w) A (call (.builtin "sum") [.ref l]) Q E s := by
  refine call_sum_walkAnyS (PySem.W.iter_tupleW (A := A.in1) hh hl fun s₂ e W st fp _ _ => ⟨_, _, _, _, _, _, _, fun j => ns.getD j 0, rfl, W, st, fp, fun i v hv => ?_, fun s' t' hm => ?_⟩)
  · exact intsAre_at hi i v (by simpa using hv)
  · obtain ⟨h', tk, rfl, old⟩ := PySem.W.moved_old e rfl hm
    have hlen : its.toArray.size = ns.length := by rw [List.size_toArray]; exact hi.length
    rw [preSum_take, hlen, List.take_length]
    exact h h' tk t' old
end
section
variable {X : Cx}
def rSumT (K : PySem.W.Frag) : List V → Hp → VK → Prop := fun vs H Q => ∃ (a : Addr) (ns : List Int), vs = [V.ref a] ∧ SqT K H a (ns.map V.int) ∧ Q (.int ns.sum) H
theorem cr_sumT (hc : X.calm = true) : CallR X (.builtin "sum") (rSumT X.K) := by
  intro pins s σ H vs us Q I r h
  obtain ⟨a, ns, rfl, hs, q⟩ := h
  obtain ⟨its, rv, hl, _⟩ := I.tuple hs
  rw [Vals.ref1 r]
  exact sum_rawT (I.ok.hd hc) hl rv.ints fun h' tk t' hk => ⟨.int _, H, I.kept hk, ⟨_, rfl⟩, q⟩
end
end L2
set_option Elab.async false
set_option linter.all false
set_option maxRecDepth 100000
set_option maxHeartbeats 4000000
/-! t * k, t a tuple that is not empty, k from 1 on: for k = 1 it is t itself -/
namespace L2
open PySem PySem.Spec PyProof.Rows
theorem tuple_mul1 (l : Addr) (items : Array Value) (n : Nat) (dd : Option Addr) (sl : Array (Option Value)) (u : Tok) :
    Meets (Builtin.«tuple.__mul__» ⟨[.ref l, .int 1 u], []⟩) (fun _ R s => s.heap.get? l = some { cls := .type "tuple", dict := dd, data := .seq items n, slots := sl } ∧ R (.ok (.ret (Value.ref l))) s) :=
  .of_wp fun prog w A R s h => by
    obtain ⟨hp, g, d, tk, os⟩ := s
    obtain ⟨hl, h⟩ := h
    have f1 := AutoSeq1.idx_int
    have c1 : (items.isEmpty || (1 : Int) == 1) = true := by rw [show ((1 : Int) == 1) = true from rfl, Bool.or_true]
    wp_walk using wpAny_loadPart' hl
    repeat (first
      | (refine wpAny_ite_false (decide_eq_false (by decide)) ?_; wp_walk using wpAny_loadPart' hl)
      | (refine wpAny_ite_true (decide_eq_true (by rw [c1])) ?_; wp_walk using wpAny_loadPart' hl))
    exact ⟨_, rfl, h⟩
def rRepT1 (K : PySem.W.Frag) : R2 := fun x y H Q => ∃ l xs, x = .ref l ∧ y = .int 1 ∧ SqT K H l xs ∧ Q (.ref l) H
section
variable {X : Cx}
theorem op_repT1 : OpR X (binaryOp .Mult) (rRepT1 X.K) := by
  intro pins s σ H x y v u Q I rx ry h
  obtain ⟨l, xs, rfl, rfl, hT, q⟩ := h
  cases rx
  obtain ⟨t, rfl⟩ := ry
  obtain ⟨its, r, ⟨⟨cls, dd, data, sl⟩, ho, hc, n, hd⟩, hs⟩ := I.tuple hT
  simp only at hc hd
  subst hc hd
  refine wpAny_binaryOp_repeat_ref (T := "tuple") (U := "int") (by decide) ⟨_, ho, rfl⟩ (fun s' => typeIs_int s' 1 t) noFill_tuple_mul F.fills_int_mul F.slot_int_rmul repeat_tuple F.slot_int_index.lookup
    (call_meets F.slot_int_rmul (typeIs_int s 1 t) F.entry_int_rmul (F.args_int_rmul_2 _ _) (int_rmul_tuple 1 t l its.toArray n dd sl)
      ⟨ho, rfl, ⟨_, ho, rfl⟩, call_meets F.slot_tuple_mul ⟨_, ho, rfl⟩ F.entry_tuple_mul (F.args_tuple_mul_2 _ _) (tuple_mul1 l its.toArray n dd sl t) ⟨ho, ?_⟩⟩)
  exact ⟨.ref l, H, I, rfl, q⟩
end
end L2
set_option Elab.async false
set_option linter.all false
set_option maxRecDepth 100000
set_option maxHeartbeats 4000000
namespace L2
open PySem PySem.Spec PyProof.Rows
section
variable {X : Cx}
theorem op_orR {f : Value → Value → Sem Value} {r1 r2 : R2} (h1 : OpR X f r1) (h2 : OpR X f r2) : OpR X f (fun x y H Q => r1 x y H Q ∨ r2 x y H Q) :=
  fun ps s σ H x y v u Q I rx ry h => h.elim (h1 ps s σ H x y v u Q I rx ry) (h2 ps s σ H x y v u Q I rx ry)
end
end L2
namespace KG
open PySem L2
/-! ### what all of the texts want -/
theorem iteTe {c : Bool} {A D : Prop} (e : c = true) (h : A) : if c = true then A else D := by
  rw [if_pos e]
  exact h
theorem iteN {α : Type} [DecidableEq α] {x : α} {A B : Prop} (h : B) : if (!decide (x = x)) = true then A else B := by
  rw [decide_eq_true rfl]
  exact h
abbrev rfs {α : Type} (ts : List (Addr × α)) : List V := ts.map fun t => V.ref t.1
theorem rfs_snoc {α : Type} {ts : List (Addr × α)} {t : Addr × α} : rfs (ts ++ [t]) = rfs ts ++ [V.ref t.1] := by rw [rfs, List.map_append]; rfl
theorem rfs_len {α : Type} {ts : List (Addr × α)} : (rfs ts).length = ts.length := List.length_map _
theorem rfs_at {α : Type} {ts : List (Addr × α)} {i : Nat} {x : V} (h : (rfs ts)[i]? = some x) : ∃ t, ts[i]? = some t ∧ t ∈ ts ∧ x = .ref t.1 := by
  rw [rfs, List.getElem?_map] at h
  cases e : ts[i]? with
  | none => rw [e] at h; cases h
  | some t => rw [e] at h; exact ⟨t, rfl, List.mem_of_getElem? e, (Option.some.inj h).symm⟩
theorem Same.but {H H' : Hp} {D : Addr} {o : HO} (h : ∀ b u, H b = some u → H' b = some u) (n : H D = none) : ∀ b u, H b = some u → (upd H' D o) b = some u := fun b u e => by
  rw [upd_ne (ne_of_none e n)]
  exact h b u e
/-- the same, beside the pool -/
theorem Keep.but {a D : Addr} {H H' : Hp} {o : HO} (h : Keep a H H') (n : H D = none) : Keep a H (upd H' D o) := fun b u e ne => by
  rw [upd_ne (ne_of_none e n)]
  exact h b u e ne
theorem new_ne {H : Hp} {a t : Addr} (h : PoolAt H a) (n : H t = none) : t ≠ a := fun z => by
  obtain ⟨o, e, _⟩ := h
  rw [z, e] at n
  cases n
theorem PoolAt.other {H : Hp} {a D : Addr} {u : HO} (h : PoolAt H a) (ne : a ≠ D) : PoolAt (upd H D u) a := by
  obtain ⟨o, e, q⟩ := h
  exact ⟨o, by rw [upd_ne ne]; exact e, q⟩
abbrev cV (l : List Nat) : List V := l.map fun k : Nat => V.int (k : Int)
theorem cV_at {l : List Nat} {i : Nat} {x : Nat} (h : l[i]? = some x) : (cV l)[i]? = some (V.int (x : Int)) := by rw [List.getElem?_map, h]; rfl
theorem cV_of {l : List Nat} {i : Nat} {x : V} (h : (cV l)[i]? = some x) : ∃ k, l[i]? = some k ∧ x = V.int (k : Int) := by
  rw [List.getElem?_map] at h
  cases e : l[i]? with
  | none => rw [e] at h; cases h
  | some k => rw [e] at h; exact ⟨k, rfl, (Option.some.inj h).symm⟩
theorem cV_set (l : List Nat) (i x : Nat) : (cV l).set i (V.int (x : Int)) = cV (l.set i x) := by
  rw [cV, cV, List.map_set]
theorem cV_ints (l : List Nat) : cV l = (l.map fun k : Nat => (k : Int)).map V.int := by rw [List.map_map]; rfl
theorem sum_ints : ∀ l : List Nat, (l.map fun k : Nat => (k : Int)).sum = ((l.sum : Nat) : Int)
  | [] => rfl
  | a :: l => by
    rw [List.map_cons, List.sum_cons, List.sum_cons, sum_ints l]
    omega
theorem small_len {n : Nat} (h : n ≤ 1000) : n < sizeLine := small1000 h
theorem nsm {n : Nat} (h : n ≤ 1000) : ((n : Int)).natAbs.log2 < 9000 := log_small (b := 10) (by show ((n : Int)).natAbs < 2 ^ 10; omega) (by decide) (by decide)
theorem nat_of {r : Int} (h : 0 ≤ r) : ∃ j : Nat, r = (j : Int) := ⟨r.toNat, by omega⟩
/-- a draw, at what stands -/
theorem drawn {a : Addr} {H0 H : Hp} {o : HO} (hp : PoolAt H a) (k : Keep a H0 H) (ho : PoolL o) : PoolAt (upd H a o) a ∧ Keep a H0 (upd H a o) := ⟨.put ho, k.trans (Keep.put o)⟩
/-- one of the things -/
def spPickQ : Sp := fun vs H Q _ => ∃ (a l : Addr) (xs : List V), vs = [.ref a, .ref l] ∧ PoolAt H a ∧ Sq H l xs ∧ l ≠ a ∧ 0 < xs.length ∧ xs.length ≤ 200 ∧ ∀ (x : V) (o : HO), x ∈ xs → PoolL o → Q x (upd H a o)
section
variable {P : Program} {w : World} {K : PySem.W.Frag} {mg : Str → Option Value} {base : Heap} {C : Addr}
theorem ok_pickQ {f : Addr} {fd : FuncData} (F : Fun K "_law_pick" "_law_pick" s_pick f fd) (T : Bn mg) (c_draw : Cal P w K mg base 1 "_law_draw" ["_law_pool_here", "_law_many"] spDraw) : FnOk P w K mg base CX0 2 f fd ["_law_pool_here", "_law_things"] spPickQ := by
  refine F.ok sc_pick (fun vs H Q E h => ?_) (fun cdv A outer s H vs Q E hr h => ?_)
  · obtain ⟨a, l, xs, rfl, _⟩ := h
    rfl
  · obtain ⟨a, l, xs, rfl, hp, hl, ne, h0, h1, k⟩ := h
    refine ⟨_, (pss_one (ps_ret (pe_ix (show IxR _ (rIx K) from ix_seq) (pv 1) (pe_cal c_draw (hr.mono (by decide)) rfl (pa_cons (pv 0) (pa_cons (pe_callB call_len_seq (by rfl) T.n_len PySem.boot_len (pa_cons (pv 1) pa_nil)) pa_nil))) (fun _ _ => rfl)))), ?_⟩
    refine ⟨_, rfl, _, rfl, _, rfl, l, xs, rfl, hl.elim (fun e => .inl (SqL.of e)) (fun e => .inr (SqT.of e)), a, _, rfl, hp, by omega, nsm (by omega), fun r o r0 r1 ho => ?_⟩
    obtain ⟨j, rfl⟩ := nat_of r0
    have hj : j < xs.length := by omega
    have gj : xs[j]? = some xs[j] := List.getElem?_eq_getElem hj
    have hl2 : Sq (upd H a o) l xs := hl.elim (fun e => .inl (by rw [upd_ne ne]; exact e)) fun e => .inr (by rw [upd_ne ne]; exact e)
    rcases hl2 with e | e
    · exact .inl ⟨l, _, _, _, rfl, rfl, SqL.of e, atI_nat gj, k _ o (List.mem_of_getElem? gj) ho⟩
    · exact .inr (.inl ⟨l, _, _, _, rfl, rfl, SqT.of e, atI_nat gj, k _ o (List.mem_of_getElem? gj) ho⟩)
end
/-! ### rows, as lists of tops -/
def Tps (n : Nat) (ws : List Nat) : Prop := ws.length = n ∧ 0 < ws.sum ∧ ∀ w ∈ ws, w < 2 ^ 40
def TpsAt (n : Nat) (H : Hp) (r : Addr × List Nat) : Prop := H r.1 = some (.tup (cV r.2)) ∧ Tps n r.2
def Rws (n : Nat) (H : Hp) (rs : List (Addr × List Nat)) : Prop := ∀ r ∈ rs, TpsAt n H r
theorem Rws.same {n : Nat} {H H' : Hp} {rs : List (Addr × List Nat)} (h : Rws n H rs) (s : Same H H') : Rws n H' rs := fun r m => ⟨s _ _ (h r m).1, (h r m).2⟩
theorem Rws.keep {n : Nat} {a : Addr} {H H' : Hp} {rs : List (Addr × List Nat)} (h : Rws n H rs) (k : Keep a H H') (hp : PoolAt H a) : Rws n H' rs := fun r m => ⟨k _ _ (h r m).1 (hp.ne (h r m).1), (h r m).2⟩
theorem Rws.lstU {n : Nat} {H : Hp} {D : Addr} {ys : List V} {rs : List (Addr × List Nat)} {o : HO} (h : Rws n H rs) (e : H D = some (.lst ys)) : Rws n (upd H D o) rs := fun r m => by
  have q := (h r m).1
  exact ⟨by rw [upd_ne (fun z => by rw [z, e] at q; cases q)]; exact q, (h r m).2⟩
theorem Rws.snoc {n : Nat} {H : Hp} {rs : List (Addr × List Nat)} {r : Addr × List Nat} (h : Rws n H rs) (e : TpsAt n H r) : Rws n H (rs ++ [r]) := fun u m => by
  rcases List.mem_append.mp m with m | m
  · exact h u m
  · rw [List.mem_singleton.mp m]; exact e
theorem Rws.nil {n : Nat} {H : Hp} : Rws n H [] := fun _ m => by cases m
end KG
set_option Elab.async false
set_option linter.all false
set_option maxRecDepth 100000
set_option maxHeartbeats 4000000
namespace KG
open PySem L2
/-! ### built-ins; things in another order; whole numbers -/
structure Bm (mg : Str → Option Value) : Prop where
  b : Bn mg
  n_list : mg "list" = none
  n_tuple : mg "tuple" = none
  n_range : mg "range" = none
  n_sum : mg "sum" = none
  n_min : mg "min" = none
  n_max : mg "max" = none
  n_all : mg "all" = none
  n_any : mg "any" = none
  n_set : mg "set" = none
  n_sorted : mg "sorted" = none
  n_enumerate : mg "enumerate" = none
theorem cV_snoc (ws : List Nat) (x : Nat) : cV ws ++ [V.int (x : Int)] = cV (ws ++ [x]) := by rw [cV, cV, List.map_append]; rfl
/-- two places exchanged -/
theorem swap_perm {α : Type} [DecidableEq α] {l : List α} {i j : Nat} {a b : α} (hi : l[i]? = some a) (hj : l[j]? = some b) : ((l.set i b).set j a).Perm l := by
  have li := (List.getElem?_eq_some_iff.mp hi).1
  have lj := (List.getElem?_eq_some_iff.mp hj).1
  rw [List.perm_iff_count]
  intro x
  have e1 : (l.set i b)[j]? = some (if i = j then b else b) := by
    rw [List.getElem?_set]
    by_cases e : i = j
    · rw [if_pos e, if_pos (by omega), if_pos e]
    · rw [if_neg e, hj, if_neg e]
  have e2 : j < (l.set i b).length := by rw [List.length_set]; exact lj
  have g1 : (l.set i b)[j] = b := by
    have := (List.getElem?_eq_some_iff.mp e1).2
    rw [this]
    split <;> rfl
  have g2 : l[i] = a := (List.getElem?_eq_some_iff.mp hi).2
  have g3 : l[j] = b := (List.getElem?_eq_some_iff.mp hj).2
  rw [List.count_set e2, List.count_set li, g1, g2]
  have m1 : l.count a ≥ 1 := List.one_le_count_iff.mpr (List.mem_of_getElem? hi)
  by_cases xa : a = x
  · subst xa
    by_cases xb : b = a
    · simp [xb]
      omega
    · simp [xb]
      omega
  · by_cases xb : b = x
    · subst xb
      simp [xa]
    · simp [xa, xb]
theorem perm_map {α β : Type} {f : α → β} : ∀ {l : List α} {ys : List β}, ys.Perm (l.map f) → ∃ us : List α, ys = us.map f ∧ us.Perm l
  | [], ys, h => ⟨[], by rw [List.Perm.eq_nil h]; rfl, List.Perm.refl _⟩
  | x :: l, ys, h => by
    have hm : f x ∈ ys := h.mem_iff.mpr List.mem_cons_self
    obtain ⟨s, t, rfl⟩ := List.append_of_mem hm
    have h2 : (s ++ t).Perm (l.map f) := by
      have := List.perm_middle.symm.trans h
      exact (List.perm_cons _).mp this
    obtain ⟨us, e, p⟩ := perm_map h2
    obtain ⟨u1, u2, rfl, e1, e2⟩ := List.map_eq_append_iff.mp e.symm
    refine ⟨u1 ++ x :: u2, by rw [List.map_append, List.map_cons, e1, e2], ?_⟩
    exact List.perm_middle.trans ((List.perm_cons x).mpr p)
/-- the items in another order -/
def spTurnAbout : Sp := fun vs H Q _ => ∃ (a l : Addr) (xs : List V), vs = [.ref a, .ref l] ∧ PoolAt H a ∧ xs.length ≤ 200 ∧ H l = some (.lst xs) ∧
  ∀ (r : Addr) (ys : List V) (H' : Hp), Keep a H H' → PoolAt H' a → r ≠ a → H r = none → H' r = some (.lst ys) → ys.Perm xs → Q (.ref r) H'
section
variable {P : Program} {w : World} {K : PySem.W.Frag} {mg : Str → Option Value} {base : Heap} {C : Addr}
abbrev s_turn : Stmt := top 63
theorem sc_turn : FnScope ["_law_pool_here", "_law_things", "_law_found", "_law_k", "_law_at", "_law_kept"] ["_law_pool_here", "_law_things"] (defScope s_turn) := ⟨rfl, rfl, rfl, by decide +kernel, rfl, by decide +kernel, by decide +kernel⟩
theorem ok_turn {f : Addr} {fd : FuncData} (F : Fun K "_law_turned_about" "_law_turned_about" s_turn f fd) (T : Bm mg) (c_draw : Cal P w K mg base 1 "_law_draw" ["_law_pool_here", "_law_many"] spDraw) : FnOk P w K mg base CX0 2 f fd ["_law_pool_here", "_law_things"] spTurnAbout := by
  refine F.ok sc_turn (fun vs H Q E h => ?_) (fun cdv A outer s H vs Q E hr h => ?_)
  · obtain ⟨a, l, xs, rfl, _⟩ := h
    rfl
  · obtain ⟨a, l, xs, rfl, hp, hn, el, k⟩ := h
    generalize hxl : xs.length = n at hn
    refine ⟨_, (pss_cons (ps_set (i := 2) sc_turn.nd rfl (Or.inl rfl) (pe_callTy call_list_of (by rfl) T.n_list (by decide +kernel) (pa_cons (pv 1) pa_nil)))
      (pss_cons (ps_for PassesOwn.never rfl (pi_range1 (by rfl) T.n_range (pa_cons (pe_callB call_len_seq (by rfl) T.b.n_len PySem.boot_len (pa_cons (pv 2) pa_nil)) pa_nil)) (pg_name (i := 3) sc_turn.nd rfl (Or.inl rfl))
        (pss_cons (ps_set (i := 4) sc_turn.nd rfl (Or.inl rfl) (pe_cal c_draw (hr.mono (by decide)) rfl (pa_cons (pv 0) (pa_cons (pe_callB call_len_seq (by rfl) T.b.n_len PySem.boot_len (pa_cons (pv 2) pa_nil)) pa_nil))))
          (pss_cons (ps_set (i := 5) sc_turn.nd rfl (Or.inl rfl) (pe_ix ix_list (pv 2) (pv 3) (fun _ _ => rfl)))
          (pss_cons (ps_asg (pe_ix ix_list (pv 2) (pv 4) (fun _ _ => rfl)) (pg_sub (pv 2) (pv 3) set_list))
          (pss_one (ps_asg (pv 5) (pg_sub (pv 2) (pv 4) set_list)))))))
      (pss_one (ps_ret (pv 2))))), ?_⟩
    refine ⟨_, rfl, l, _, rfl, .inl (SqL.of el), fun r nr => ?_⟩
    have s1 := Same.put (o := .lst xs) nr
    have e1 : (upd H r (.lst xs)) r = some (.lst xs) := upd_same
    have p1 := hp.new (o := .lst xs) nr
    have nra : r ≠ a := fun z => by
      obtain ⟨o, e, _⟩ := hp
      rw [z, e] at nr
      cases nr
    generalize (upd H r (.lst xs)) = H1 at s1 e1 p1 ⊢
    have len0 : xs.length = n := hxl
    refine ⟨_, rfl, r, _, rfl, .inl (SqL.of e1), _, rfl, by rw [len0]; omega, by rw [len0]; omega, ?_⟩
    rw [len0, Int.toNat_natCast]
    refine for_range (fun i σ H' => ∃ v3 v4 v5 ns, σ = [some (.ref a), some (.ref l), some (.ref r), v3, v4, v5] ∧ Keep a H H' ∧ PoolAt H' a ∧ H' r = some (.lst ns) ∧ ns.Perm xs) ⟨none, none, none, xs, rfl, Keep.of s1, p1, e1, List.Perm.refl _⟩ ?_ ?_
    · rintro i σ H2 hi ⟨v3, v4, v5, ns, rfl, k2, p2, e2, pm⟩
      rw [Int.zero_add]
      have len : ns.length = n := by rw [pm.length_eq, hxl]
      have lenV : ns.length = n := len
      refine ⟨_, rfl, _, rfl, r, _, rfl, .inl (SqL.of e2), a, _, rfl, p2, by rw [lenV]; omega, ?_, fun x o x0 x1 ho => ?_⟩
      · exact log_small (b := 10) (by rw [lenV]; show ((n : Int)).natAbs < 2 ^ 10; omega) (by decide) (by decide)
      rw [lenV] at x1
      have e3 : (upd H2 a o) r = some (.lst ns) := by rw [upd_ne nra]; exact e2
      have k3 := k2.trans (Keep.put (H := H2) o)
      have p3 : PoolAt (upd H2 a o) a := .put ho
      generalize (upd H2 a o) = H3 at e3 k3 p3 ⊢
      obtain ⟨j, rfl⟩ : ∃ j : Nat, x = (j : Int) := ⟨x.toNat, by omega⟩
      have hj : j < n := by omega
      have gi : ns[i]? = some ns[i] := List.getElem?_eq_getElem (by omega)
      have gj : ns[j]? = some ns[j] := List.getElem?_eq_getElem (by omega)
      have ix : ∀ {q : Nat}, q < n → ixN n (q : Int) = some q := fun {q} hq => by
        unfold ixN
        rw [if_pos (by omega), if_pos (by omega)]
        rfl
      refine ⟨_, rfl, _, rfl, r, _, _, _, rfl, rfl, SqL.of e3, atI_nat gi, ?_⟩
      refine ⟨_, rfl, _, rfl, r, _, _, _, rfl, rfl, SqL.of e3, atI_nat gj, ?_⟩
      refine ⟨_, rfl, _, rfl, r, _, _, i, rfl, rfl, e3, by rw [lenV]; exact ix hi, ?_⟩
      have e4 : (upd H3 r (.lst (ns.set i ns[j]))) r = some (.lst (ns.set i ns[j])) := upd_same
      have len4 : (ns.set i ns[j]).length = n := by rw [List.length_set, len]
      refine ⟨_, rfl, _, rfl, _, rfl, r, _, _, j, rfl, rfl, e4, by rw [len4]; exact ix hj, ?_⟩
      rw [upd_upd]
      refine ⟨_, _, _, _, rfl, fun b u e ne => ?_, ?_, upd_same, (swap_perm gi gj).trans pm⟩
      · have nb : b ≠ r := ne_of_none e nr
        rw [upd_ne nb]
        exact k3 b u e ne
      · obtain ⟨u, e, q⟩ := p3
        exact ⟨u, by rw [upd_ne (Ne.symm nra)]; exact e, q⟩
    · rintro σ H2 ⟨v3, v4, v5, ns, rfl, k2, p2, e2, pm⟩
      exact ⟨_, rfl, k r ns H2 k2 p2 nra nr e2 pm⟩
abbrev s_lint : Stmt := top 68
theorem sc_lint : FnScope ["_law_thing"] ["_law_thing"] (defScope s_lint) := ⟨rfl, rfl, rfl, by decide +kernel, rfl, by decide +kernel, by decide +kernel⟩
end
end KG
set_option Elab.async false
set_option linter.all false
set_option maxRecDepth 100000
set_option maxHeartbeats 4000000
/-! for k, v in d.items(), the keys tuples -/
namespace L2
open PySem PySem.Spec PyProof.Rows
/-- the bookkeeping of a dict comprehension with tuple keys over a walk -/
theorem dcT_it {J : It} {n : Nat} {G : Hp → Prop} {Y : Nat → Hp → V → Hp → Prop} (w : Walk J n G Y) {g : TG} {tt : TT} {tk tv : TE} {vs : List Nat} {σ : St} {H1 : Hp} {D : Addr} {Qd : Hp → Prop} (Pv : Nat → Hp → Prop) (h0 : Pv 0 (upd H1 D (.dT []))) (hG : ∀ i H, i ≤ n → Pv i H → G H)
    (hs : ∀ i x H H', i < n → Pv i H → Y i H x H' → g x (wipe σ vs) H' fun σ2 H2 => wipe σ2 vs = wipe σ vs ∧ tt σ2 H2 fun b H3 =>
      if b = true then tk σ2 H3 fun y H4 => tv σ2 H4 fun z H5 => ∃ kvs k c, y = .ref c ∧ H5 c = some (.tup (k.map kV)) ∧ H5 D = some (.dT kvs) ∧ kvs.length < sizeLine ∧ Pv (i + 1) (upd H5 D (.dT (putK kvs k z))) else Pv (i + 1) H3) (hd : ∀ H, Pv n H → Qd H) :
    ∃ W : Nat → Nat → Hp → Prop, (∃ m, W 0 m (upd H1 D (.dT []))) ∧ ∀ i m H, W i m H →
      (J.stop i H ∧ Qd H) ∨ (J.go i H ∧ ∃ Nx : Hp → Prop, (∀ H', Nx H' → ∃ m', m' < m ∧ W (i + 1) m' H') ∧ ∀ x H', J.yld i H x H' → g x (wipe σ vs) H' fun σ2 H2 => wipe σ2 vs = wipe σ vs ∧ tt σ2 H2 fun b H3 =>
        if b = true then tk σ2 H3 fun y H4 => tv σ2 H4 fun z H5 => ∃ kvs k c, y = .ref c ∧ H5 c = some (.tup (k.map kV)) ∧ H5 D = some (.dT kvs) ∧ kvs.length < sizeLine ∧ Nx (upd H5 D (.dT (putK kvs k z))) else Nx H3) := by
  refine ⟨fun i m H => m = n - i ∧ i ≤ n ∧ Pv i H, ⟨n, by simp, Nat.zero_le _, h0⟩, ?_⟩
  rintro i m H ⟨rfl, hi, p⟩
  have q := hG i H hi p
  by_cases hlt : i < n
  · exact .inr ⟨w.goes i H hlt q, Pv (i + 1), fun H' p' => ⟨n - (i + 1), by omega, rfl, hlt, p'⟩, fun x H' y => hs i x H H' hlt p (w.yields i H x H' hlt q y)⟩
  · have e : i = n := by omega
    subst e
    exact .inl ⟨w.stops H q, hd H p⟩
end L2
set_option Elab.async false
set_option linter.all false
set_option maxRecDepth 100000
set_option maxHeartbeats 4000000
namespace KG
open PySem L2
/-! ### lists of pairs, each in a tuple of its own -/
abbrev Pt := Addr × Nat × Nat
abbrev prV (p : Nat × Nat) : List V := [.int (p.1 : Int), .int (p.2 : Int)]
abbrev kp (p : Nat × Nat) : List L2.Key := [.inl (p.1 : Int), .inl (p.2 : Int)]
def Pts (H : Hp) (ts : List Pt) : Prop := ∀ t ∈ ts, H t.1 = some (.tup (prV t.2))
theorem Pts.same {H H' : Hp} {ts : List Pt} (h : Pts H ts) (s : Same H H') : Pts H' ts := fun t m => s _ _ (h t m)
theorem Pts.snoc {H : Hp} {ts : List Pt} {t : Pt} (h : Pts H ts) (e : H t.1 = some (.tup (prV t.2))) : Pts H (ts ++ [t]) := fun u m => by
  rcases List.mem_append.mp m with m | m
  · exact h u m
  · rw [List.mem_singleton.mp m]; exact e
theorem Pts.lstU {H : Hp} {D : Addr} {ys : List V} {ts : List Pt} {o : HO} (h : Pts H ts) (e : H D = some (.lst ys)) : Pts (upd H D o) ts := fun t m => by
  have q := h t m
  rw [upd_ne (fun z => by rw [z, e] at q; cases q)]
  exact q
def prs (n : Nat) : List (Nat × Nat) := (List.range n).flatMap fun s => (List.range n).map fun t => (s, t)
theorem mem_prs {n : Nat} {p : Nat × Nat} : p ∈ prs n ↔ p.1 < n ∧ p.2 < n := by
  unfold prs
  simp only [List.mem_flatMap, List.mem_map, List.mem_range]
  constructor
  · rintro ⟨s, h1, t, h2, rfl⟩; exact ⟨h1, h2⟩
  · rintro ⟨h1, h2⟩; exact ⟨p.1, h1, p.2, h2, rfl⟩
/-- index_pairs(n) -/
def spIxPrs : Sp := fun vs H Q _ => ∃ n : Nat, vs = [.int (n : Int)] ∧ n ≤ 8 ∧ ∀ (l : Addr) (ts : List Pt) (H' : Hp), Same H H' → H' l = some (.lst (rfs ts)) → Pts H' ts → ts.map (·.2) = prs n → Q (.ref l) H'
theorem prs_len : ∀ n : Nat, n ≤ 8 → (prs n).length ≤ 64 := by
  have h : ∀ n : Fin 9, (prs n).length ≤ 64 := by decide +kernel
  intro n hn
  exact h ⟨n, by omega⟩
def rowsTo (n i : Nat) : List (Nat × Nat) := (List.range i).flatMap fun s => (List.range n).map fun t => (s, t)
theorem rowsTo_succ (n i : Nat) : rowsTo n (i + 1) = rowsTo n i ++ (List.range n).map fun t => (i, t) := by
  unfold rowsTo
  rw [List.range_succ, List.flatMap_append]
  congr 1
  simp
theorem rowsTo_len (n : Nat) : ∀ i, (rowsTo n i).length = i * n
  | 0 => by simp [rowsTo]
  | i + 1 => by rw [rowsTo_succ, List.length_append, rowsTo_len n i, List.length_map, List.length_range, Nat.succ_mul]
section
variable {P : Program} {w : World} {K : PySem.W.Frag} {mg : Str → Option Value} {base : Heap} {C CC B : Addr}
abbrev s_index_pairs : Stmt := top 21
theorem sc_index_pairs : FnScope ["many", "one", "other"] ["many"] (defScope s_index_pairs) := ⟨rfl, rfl, rfl, by decide +kernel, rfl, by decide +kernel, by decide +kernel⟩
theorem ok_index_pairs {f : Addr} {fd : FuncData} (F : Fun K "index_pairs" "index_pairs" s_index_pairs f fd) (T : Bm mg) : FnOk P w K mg base CX0 1 f fd ["many"] spIxPrs := by
  refine F.ok sc_index_pairs (fun vs H Q E h => ?_) (fun cdv A outer s H vs Q E hr h => ?_)
  · obtain ⟨n, rfl, _⟩ := h
    rfl
  · obtain ⟨n, rfl, hn, k⟩ := h
    refine ⟨_, (pss_one (ps_ret (pe_lc2 (own := [("one", 1), ("other", 2)]) (vs1 := [2]) rfl sc_index_pairs.nd (pi_range1 (by rfl) T.n_range (pa_cons (pv 0) pa_nil)) (blkOk_by (N := ["many", "one", "other"]) (sc := defScope s_index_pairs) (by decide +kernel)) (by decide)
      (fun _ _ _ _ _ => (pg_name (i := 1) sc_index_pairs.nd rfl (Or.inl rfl))) (fun _ _ _ _ _ => pts_nil) (fun _ _ _ _ _ => (pi_range1 (by rfl) T.n_range (pa_cons (pv 0) pa_nil))) (fun _ _ _ _ _ => (pg_name (i := 2) sc_index_pairs.nd rfl (Or.inl rfl))) (fun _ _ _ _ _ => pts_nil)
      (fun _ _ _ _ _ => (pe_tup (pa_cons (pv 1) (pa_cons (pv 2) pa_nil))))))), ?_⟩
    refine ⟨_, rfl, _, rfl, by omega, by omega, fun D nD => ?_⟩
    rw [Int.toNat_natCast]
    let Pv : Nat → Nat → Hp → Prop := fun i j H' => ∃ ts : List Pt, Same H H' ∧ H' D = some (.lst (rfs ts)) ∧ Pts H' ts ∧ ts.map (·.2) = rowsTo n i ++ (List.range j).map fun t => (i, t)
    refine ⟨fun i m H' => m + i = n ∧ Pv i 0 H', ⟨n, rfl, [], Same.put nD, upd_same, fun _ m => (by cases m), rfl⟩, fun i m H1 ⟨em, p⟩ => ?_⟩
    cases m with
    | zero =>
      obtain rfl : i = n := by omega
      obtain ⟨ts, s1, e1, p1, q1⟩ := p
      refine .inl ⟨Nat.le_refl _, k D ts H1 s1 e1 p1 ?_⟩
      rw [q1]
      simp [rowsTo, prs]
    | succ m =>
      refine .inr ⟨show i < n by omega, Pv (i + 1) 0, fun H' p' => ⟨m, Nat.lt_succ_self m, by omega, p'⟩, fun x H' y => ?_⟩
      obtain ⟨e, y⟩ := y
      subst e y
      refine ⟨rfl, yes_of ?_⟩
      refine ⟨_, rfl, _, rfl, by omega, by omega, ?_⟩
      rw [Int.toNat_natCast]
      refine ⟨fun j m' H' => m' + j = n ∧ Pv i j H', ⟨n, rfl, p⟩, fun j m' H2 ⟨em', p'⟩ => ?_⟩
      cases m' with
      | zero =>
        obtain rfl : j = n := by omega
        obtain ⟨ts, s1, e1, p1, q1⟩ := p'
        refine .inl ⟨Nat.le_refl _, ts, s1, e1, p1, ?_⟩
        rw [q1, rowsTo_succ]
        simp
      | succ m' =>
        refine .inr ⟨show j < n by omega, Pv i (j + 1), fun H' p' => ⟨m', Nat.lt_succ_self m', by omega, p'⟩, fun x H' y => ?_⟩
        obtain ⟨e, y⟩ := y
        subst e y
        refine ⟨rfl, yes_of ?_⟩
        obtain ⟨ts, s1, e1, p1, q1⟩ := p'
        refine ⟨_, rfl, _, rfl, by show 2 ≤ sizeLine; decide, fun t nt => ?_⟩
        have len : ts.length ≤ 64 := by
          have := congrArg List.length q1
          rw [List.length_map, List.length_append, rowsTo_len, List.length_map, List.length_range] at this
          have h1 : (i + 1) * n ≤ n * n := Nat.mul_le_mul_right n (by omega)
          have h2 : n * n ≤ 8 * 8 := Nat.mul_le_mul hn hn
          rw [Nat.succ_mul] at h1
          omega
        refine ⟨rfs ts, Same.put nt _ _ e1, by rw [rfs_len]; exact small_len (by omega), ts ++ [(t, i, j)], ?_, ?_, ?_, ?_⟩
        · exact Same.but (fun b u e => Same.put nt _ _ (s1 b u e)) nD
        · rw [upd_same, rfs_snoc]
        · have ne : ∀ b u, H' b = some u → u ≠ HO.lst (rfs ts) → b ≠ D := fun b u e z q => z (by rw [q, e1] at e; exact (Option.some.inj e).symm)
          refine Pts.snoc (fun u m => ?_) ?_
          · rw [upd_ne (ne _ _ (p1 u m) (by intro z; cases z))]
            exact Same.put nt _ _ (p1 u m)
          · have nDt : t ≠ D := fun z => by rw [z, e1] at nt; cases nt
            rw [upd_ne nDt, upd_same]
            simp
        · rw [List.map_append, q1, List.range_succ, List.map_append, List.append_assoc]
          rfl
end
end KG
set_option Elab.async false
set_option linter.all false
set_option maxRecDepth 100000
set_option maxHeartbeats 4000000
namespace KG
open PySem L2
/-! ### maps of states, each a tuple -/
def IsMap (n : Nat) (ws : List Nat) : Prop := ws.length = n ∧ ∀ x ∈ ws, x < n
def MapAt (n : Nat) (H : Hp) (t : Addr) (ws : List Nat) : Prop := H t = some (.tup (cV ws)) ∧ IsMap n ws
theorem MapAt.same {n : Nat} {H H' : Hp} {t : Addr} {ws : List Nat} (h : MapAt n H t ws) (s : Same H H') : MapAt n H' t ws := ⟨s _ _ h.1, h.2⟩
theorem MapAt.keep {n : Nat} {a : Addr} {H H' : Hp} {t : Addr} {ws : List Nat} (h : MapAt n H t ws) (k : Keep a H H') (p : PoolAt H a) : MapAt n H' t ws := ⟨k _ _ h.1 (p.ne h.1), h.2⟩
theorem rg_cV (n : Nat) : rgV 0 (n : Int) = cV (List.range n) := by
  unfold rgV
  rw [show ((n : Int) - 0).toNat = n by omega, cV]
  refine List.map_congr_left fun k hk => ?_
  rw [Int.zero_add]
theorem isMap_range (n : Nat) : IsMap n (List.range n) := ⟨List.length_range, fun x m => List.mem_range.mp m⟩
theorem isMap_perm {n : Nat} {ws us : List Nat} (h : IsMap n ws) (p : us.Perm ws) : IsMap n us := ⟨by rw [p.length_eq]; exact h.1, fun x m => h.2 x (p.mem_iff.mp m)⟩
theorem isMap_set {n : Nat} {ws : List Nat} (h : IsMap n ws) {i x : Nat} (hx : x < n) : IsMap n (ws.set i x) := ⟨by rw [List.length_set]; exact h.1, fun y m => by
  rcases List.mem_or_eq_of_mem_set m with m | rfl
  · exact h.2 y m
  · exact hx⟩
theorem iteA {c : Bool} {A B : Prop} (h1 : A) (h2 : B) : if c = true then A else B := iteB (fun _ => h1) fun _ => h2
theorem free_of {a : Addr} {H H' : Hp} {D : Addr} (k : Keep a H H') (ne : D ≠ a) (n : H' D = none) : H D = none := by
  cases e : H D with
  | none => rfl
  | some o => rw [k D o e ne] at n; cases n
/-- a map of n states, drawn -/
def spMap : Sp := fun vs H Q _ => ∃ (a : Addr) (n : Nat), vs = [.ref a, .int (n : Int)] ∧ PoolAt H a ∧ 1 ≤ n ∧ n ≤ 8 ∧ ∀ (t : Addr) (ws : List Nat) (H' : Hp), Keep a H H' → PoolAt H' a → MapAt n H' t ws → Q (.ref t) H'
section
variable {P : Program} {w : World} {K : PySem.W.Frag} {mg : Str → Option Value} {base : Heap} {C : Addr}
abbrev s_map : Stmt := top 70
abbrev nMa : List Str := ["_law_pool_here", "_law_size", "_law_way", "_law_led", "_law_s"]
theorem sc_map : FnScope nMa ["_law_pool_here", "_law_size"] (defScope s_map) := ⟨rfl, rfl, rfl, by decide +kernel, rfl, by decide +kernel, by decide +kernel⟩
theorem ok_map {f : Addr} {fd : FuncData} (F : Fun K "_law_map" "_law_map" s_map f fd) (T : Bm mg) (c_draw : Cal P w K mg base 1 "_law_draw" ["_law_pool_here", "_law_many"] spDraw)
    (c_turn : Cal P w K mg base 2 "_law_turned_about" ["_law_pool_here", "_law_things"] spTurnAbout) : FnOk P w K mg base CX0 3 f fd ["_law_pool_here", "_law_size"] spMap := by
  refine F.ok sc_map (fun vs H Q E h => ?_) (fun cdv A outer s H vs Q E hr h => ?_)
  · obtain ⟨a, n, rfl, _⟩ := h
    rfl
  · obtain ⟨a, n, rfl, hp, n1, n8, k⟩ := h
    refine ⟨_, (pss_cons (ps_set (i := 2) sc_map.nd rfl (Or.inl rfl) (pe_cal c_draw (hr.mono (by decide)) rfl (pa_cons (pv 0) (pa_cons pe_int pa_nil))))
      (pss_cons (ps_if (pt_cmpR op_eq (pv 2) pe_int (nomark _))
        (pss_one (ps_ret (pe_op (op_orR op_repT op_repT1) (pe_tup (pa_cons (pe_cal c_draw (hr.mono (by decide)) rfl (pa_cons (pv 0) (pa_cons (pv 1) pa_nil))) pa_nil)) (pv 1))))
        pss_nil)
      (pss_cons (ps_set (i := 3) sc_map.nd rfl (Or.inl rfl) (pe_listRg rfl (by rfl) T.n_list (prg_1 (by rfl) T.n_range (pv 1))))
      (pss_cons (ps_if (pt_cmpR op_eq (pv 2) pe_int (nomark _))
        (pss_one (ps_ret (pe_callTy call_tuple_of (by rfl) T.n_tuple (by decide +kernel) (pa_cons (pe_cal c_turn (hr.mono (by decide)) rfl (pa_cons (pv 0) (pa_cons (pv 3) pa_nil))) pa_nil))))
        pss_nil)
      (pss_cons (ps_if (pt_cmpR op_eq (pv 2) pe_int (nomark _))
        (pss_cons (ps_asg (pe_cal c_draw (hr.mono (by decide)) rfl (pa_cons (pv 0) (pa_cons (pv 1) pa_nil))) (pg_sub (pv 3) (pe_cal c_draw (hr.mono (by decide)) rfl (pa_cons (pv 0) (pa_cons (pv 1) pa_nil))) set_list))
          (pss_one (ps_ret (pe_callTy call_tuple_of (by rfl) T.n_tuple (by decide +kernel) (pa_cons (pv 3) pa_nil)))))
        pss_nil)
      (pss_one (ps_ret (pe_callTy call_tuple_of (by rfl) T.n_tuple (by decide +kernel) (pa_cons (pe_lc (own := [("_law_s", 4)]) rfl sc_map.nd (pi_list (pv 3)) (blkOk_by (N := nMa) (sc := defScope s_map) (by decide +kernel)) (fun _ _ _ _ _ => (pg_name (i := 4) sc_map.nd rfl (Or.inl rfl))) (fun _ _ _ _ _ => pts_nil)
        (fun _ _ _ _ _ => (pe_cal c_draw (hr.mono (by decide)) rfl (pa_cons (pv 0) (pa_cons (pv 1) pa_nil))))) pa_nil))))))))), ?_⟩
    refine ⟨_, rfl, a, 5, rfl, hp, by decide, by decide, fun y o y0 y1 ho => ?_⟩
    obtain ⟨p1, k1⟩ := drawn hp (Keep.refl a H) ho
    generalize (upd H a o) = H1 at p1 k1 ⊢
    refine ⟨_, rfl, rfl, _, rfl, iteA ?_ ?_⟩
    · refine ⟨_, rfl, _, rfl, a, (n : Int), rfl, p1, by omega, nsm (by omega), fun r o2 r0 r1 ho2 => ?_⟩
      obtain ⟨p2, k2⟩ := drawn p1 k1 ho2
      generalize (upd H1 a o2) = H2 at p2 k2 ⊢
      obtain ⟨r, rfl⟩ := nat_of r0
      refine ⟨by show 1 ≤ sizeLine; decide, fun t nt => ?_⟩
      have st := Same.put (o := .tup (cV [r])) nt
      have et : (upd H2 t (.tup (cV [r]))) t = some (.tup (cV [r])) := upd_same
      have p3 := p2.same st
      have k3 := k2.trans (Keep.of st)
      by_cases e1 : n = 1
      · subst e1
        exact ⟨_, rfl, .inr ⟨t, _, rfl, rfl, SqT.of et, k t [r] _ k3 p3 ⟨et, rfl, fun x m => by rw [List.mem_singleton.mp m]; omega⟩⟩⟩
      · refine ⟨_, rfl, .inl ⟨t, (n : Int), _, rfl, rfl, SqT.of et, by simp, by omega, by omega, by show 1 ≤ 1000; decide, fun u nu => ?_⟩⟩
        have er : (List.replicate (n : Int).toNat (cV [r])).flatten = cV (List.replicate n r) := by
          rw [Int.toNat_natCast, cV, cV, List.map_replicate]
          exact List.flatten_replicate_singleton
        rw [er]
        exact k u _ _ (k3.trans (Keep.of (Same.put nu))) (p3.new nu) ⟨upd_same, List.length_replicate, fun x m => by rw [List.eq_of_mem_replicate m]; omega⟩
    refine ⟨_, rfl, (n : Int), rfl, RgOk.of_le (by omega) (by omega) (by omega) (by omega), fun l nl => ?_⟩
    rw [rg_cV]
    have la := new_ne p1 nl
    have el : (upd H1 l (.lst (cV (List.range n)))) l = some (.lst (cV (List.range n))) := upd_same
    have p2 := p1.new (o := .lst (cV (List.range n))) nl
    have k2 := k1.trans (Keep.of (Same.put (o := .lst (cV (List.range n))) nl))
    have nlH := free_of k1 la nl
    generalize (upd H1 l (.lst (cV (List.range n)))) = H2 at el p2 k2 ⊢
    have tup : ∀ (ws : List Nat) (l' : Addr) (H' : Hp), Keep a H H' → PoolAt H' a → H' l' = some (.lst (cV ws)) → IsMap n ws → ∀ t, H' t = none → Q (.ref t) (upd H' t (.tup (cV ws))) := fun ws l' H' k' p' e' m' t nt =>
      k t ws _ (k'.trans (Keep.of (Same.put nt))) (p'.new nt) ⟨upd_same, m'⟩
    refine ⟨_, rfl, rfl, _, rfl, iteA ?_ ?_⟩
    · refine ⟨_, rfl, _, rfl, a, l, _, rfl, p2, by rw [List.length_map, List.length_range]; omega, el, fun r ys H3 k3 p3 ra nr er pm => ?_⟩
      obtain ⟨us, rfl, pu⟩ := perm_map pm
      exact ⟨r, _, rfl, .inl ⟨SqL.of er, tup us r H3 (k2.trans k3) p3 er (isMap_perm (isMap_range n) pu)⟩⟩
    refine ⟨_, rfl, rfl, _, rfl, iteA ?_ ?_⟩
    · refine ⟨_, rfl, _, rfl, a, (n : Int), rfl, p2, by omega, nsm (by omega), fun x o3 x0 x1 ho3 => ?_⟩
      obtain ⟨p3, k3⟩ := drawn p2 k2 ho3
      have e3 : (upd H2 a o3) l = some (.lst (cV (List.range n))) := by rw [upd_ne la]; exact el
      generalize (upd H2 a o3) = H3 at p3 k3 e3 ⊢
      obtain ⟨x, rfl⟩ := nat_of x0
      refine ⟨_, rfl, _, rfl, _, rfl, a, (n : Int), rfl, p3, by omega, nsm (by omega), fun i o4 i0 i1 ho4 => ?_⟩
      obtain ⟨p4, k4⟩ := drawn p3 k3 ho4
      have e4 : (upd H3 a o4) l = some (.lst (cV (List.range n))) := by rw [upd_ne la]; exact e3
      generalize (upd H3 a o4) = H4 at p4 k4 e4 ⊢
      obtain ⟨i, rfl⟩ := nat_of i0
      refine ⟨l, _, _, i, rfl, rfl, e4, ?_, ?_⟩
      · unfold ixN
        rw [if_pos (by omega), if_pos (by rw [List.length_map, List.length_range]; omega), Int.toNat_natCast]
      · have e1 : (cV (List.range n)).set i (V.int (x : Int)) = cV ((List.range n).set i x) := cV_set _ i x
        rw [e1]
        refine ⟨_, rfl, l, _, rfl, .inl ⟨SqL.of upd_same, ?_⟩⟩
        exact tup _ l _ (k4.but nlH) (p4.other (Ne.symm la)) upd_same (isMap_set (isMap_range n) (by omega))
    · refine ⟨_, rfl, l, rfl, ⟨_, SqL.of el⟩, fun D nD => ?_⟩
      have Da := new_ne p2 nD
      have nDH := free_of k2 Da nD
      refine lc_list (K := K) (a := l) (xs := cV (List.range n)) (fun i H' => Keep a H H' ∧ PoolAt H' a ∧ H' l = some (.lst (cV (List.range n))) ∧ D ≠ l ∧ ∃ ws : List Nat, H' D = some (.lst (cV ws)) ∧ ws.length = i ∧ ∀ x ∈ ws, x < n)
        ⟨k2.but nDH, p2.new nD, by rw [upd_ne (fun z => by rw [z, nD] at el; cases el)]; exact el, (fun z => by rw [z, el] at nD; cases nD), [], upd_same, rfl, fun _ m => (by cases m)⟩ (fun i H' _ h => SqL.of h.2.2.1) ?_ ?_
      · rintro i x H3 hx ⟨k3, p3, e3, Dl, ws, eD, lw, sw⟩
        have il := (List.getElem?_eq_some_iff.mp hx).1
        rw [List.length_map, List.length_range] at il
        refine ⟨rfl, yes_of ?_⟩
        refine ⟨_, rfl, _, rfl, a, (n : Int), rfl, p3, by omega, nsm (by omega), fun y o4 y0 y1 ho4 => ?_⟩
        obtain ⟨p4, k4⟩ := drawn p3 k3 ho4
        have e4 : (upd H3 a o4) l = some (.lst (cV (List.range n))) := by rw [upd_ne la]; exact e3
        have eD4 : (upd H3 a o4) D = some (.lst (cV ws)) := by rw [upd_ne Da]; exact eD
        generalize (upd H3 a o4) = H4 at p4 k4 e4 eD4 ⊢
        obtain ⟨y, rfl⟩ := nat_of y0
        refine ⟨_, eD4, by rw [List.length_map]; exact small_len (by omega), k4.but nDH, p4.other (Ne.symm Da), by rw [upd_ne (Ne.symm Dl)]; exact e4, Dl, ws ++ [y], by rw [upd_same, cV_snoc], by rw [List.length_append, lw]; rfl, fun z m => ?_⟩
        rcases List.mem_append.mp m with m | m
        · exact sw z m
        · rw [List.mem_singleton.mp m]; omega
      · rintro H3 ⟨k3, p3, e3, Dl, ws, eD, lw, sw⟩
        rw [List.length_map, List.length_range] at lw
        exact ⟨D, _, rfl, .inl ⟨SqL.of eD, tup ws D H3 k3 p3 eD ⟨lw, sw⟩⟩⟩
end
end KG
set_option Elab.async false
set_option linter.all false
set_option maxRecDepth 100000
set_option maxHeartbeats 4000000
namespace KG
open PySem L2
def MapsIn (n : Nat) (H : Hp) (ts : List (Addr × List Nat)) : Prop := ∀ t ∈ ts, MapAt n H t.1 t.2
theorem MapsIn.same {n : Nat} {H H' : Hp} {ts : List (Addr × List Nat)} (h : MapsIn n H ts) (s : Same H H') : MapsIn n H' ts := fun t m => (h t m).same s
theorem MapsIn.keep {n : Nat} {a : Addr} {H H' : Hp} {ts : List (Addr × List Nat)} (h : MapsIn n H ts) (k : Keep a H H') (p : PoolAt H a) : MapsIn n H' ts := fun t m => (h t m).keep k p
theorem MapsIn.lstU {n : Nat} {H : Hp} {D : Addr} {ys : List V} {ts : List (Addr × List Nat)} {o : HO} (h : MapsIn n H ts) (e : H D = some (.lst ys)) : MapsIn n (upd H D o) ts := fun t m => ⟨by rw [upd_ne (fun z => by have := (h t m).1; rw [z, e] at this; cases this)]; exact (h t m).1, (h t m).2⟩
theorem MapsIn.snoc {n : Nat} {H : Hp} {ts : List (Addr × List Nat)} {t : Addr × List Nat} (h : MapsIn n H ts) (e : MapAt n H t.1 t.2) : MapsIn n H (ts ++ [t]) := fun u m => by
  rcases List.mem_append.mp m with m | m
  · exact h u m
  · rw [List.mem_singleton.mp m]; exact e
theorem ixN_nat {n j : Nat} (h : j < n) : ixN n (j : Int) = some j := by
  unfold ixN
  rw [if_pos (by omega), if_pos (by omega), Int.toNat_natCast]
/-- two maps in a list -/
def spRing : Sp := fun vs H Q _ => ∃ (a : Addr) (n : Nat), vs = [.ref a, .int (n : Int)] ∧ PoolAt H a ∧ 1 ≤ n ∧ n ≤ 8 ∧ ∀ (l : Addr) (ts : List (Addr × List Nat)) (H' : Hp), Keep a H H' → PoolAt H' a → l ≠ a → H' l = some (.lst (rfs ts)) → MapsIn n H' ts → 1 ≤ ts.length → ts.length ≤ 4 → Q (.ref l) H'
section
variable {P : Program} {w : World} {K : PySem.W.Frag} {mg : Str → Option Value} {base : Heap} {C : Addr}
abbrev s_ring : Stmt := top 75
theorem sc_ring : FnScope ["_law_pool_here", "_law_size", "_law_names", "_law_led", "_law_k", "_law_one"] ["_law_pool_here", "_law_size"] (defScope s_ring) := ⟨rfl, rfl, rfl, by decide +kernel, rfl, by decide +kernel, by decide +kernel⟩
theorem ok_ring {f : Addr} {fd : FuncData} (F : Fun K "_law_ring" "_law_ring" s_ring f fd) (T : Bm mg)
    (c_turn : Cal P w K mg base 2 "_law_turned_about" ["_law_pool_here", "_law_things"] spTurnAbout) : FnOk P w K mg base CX0 3 f fd ["_law_pool_here", "_law_size"] spRing := by
  refine F.ok sc_ring (fun vs H Q E h => ?_) (fun cdv A outer s H vs Q E hr h => ?_)
  · obtain ⟨a, n, rfl, _⟩ := h
    rfl
  · obtain ⟨a, n, rfl, hp, n1, n8, k⟩ := h
    refine ⟨_, (pss_cons (ps_set (i := 2) sc_ring.nd rfl (Or.inl rfl) (pe_cal c_turn (hr.mono (by decide)) rfl (pa_cons (pv 0) (pa_cons (pe_listRg rfl (by rfl) T.n_list (prg_1 (by rfl) T.n_range (pv 1))) pa_nil))))
      (pss_cons (ps_set (i := 3) sc_ring.nd rfl (Or.inl rfl) (pe_listRg rfl (by rfl) T.n_list (prg_1 (by rfl) T.n_range (pv 1))))
      (pss_cons (ps_for PassesOwn.never rfl (pi_range1 (by rfl) T.n_range (pa_cons (pv 1) pa_nil)) (pg_name (i := 4) sc_ring.nd rfl (Or.inl rfl))
        (pss_one (ps_asg (pe_ix ix_list (pv 2) (pe_op op_modN (pe_callTy call_int1 (by rfl) T.b.n_int (by decide +kernel) (pa_cons (pe_op op_add (pv 4) pe_int) pa_nil)) (pv 1)) (fun _ _ => rfl)) (pg_sub (pv 3) (pe_ix ix_list (pv 2) (pv 4) (fun _ _ => rfl)) set_list))))
      (pss_cons (ps_set (i := 5) sc_ring.nd rfl (Or.inl rfl) (pe_listRg rfl (by rfl) T.n_list (prg_1 (by rfl) T.n_range (pv 1))))
      (pss_cons (ps_asg (pe_ix ix_list (pv 2) pe_int (fun _ _ => rfl)) (pg_sub (pv 5) (pe_ix ix_list (pv 2) (pe_op op_sub (pv 1) pe_int) (fun _ _ => rfl)) set_list))
      (pss_one (ps_ret (pe_lst (pa_cons (pe_callTy call_tuple_of (by rfl) T.n_tuple (by decide +kernel) (pa_cons (pv 3) pa_nil)) (pa_cons (pe_callTy call_tuple_of (by rfl) T.n_tuple (by decide +kernel) (pa_cons (pv 5) pa_nil)) pa_nil)))))))))), ?_⟩
    refine ⟨_, rfl, _, rfl, (n : Int), rfl, RgOk.of_le (by omega) (by omega) (by omega) (by omega), fun l0 nl0 => ?_⟩
    rw [rg_cV]
    have e0 : (upd H l0 (.lst (cV (List.range n)))) l0 = some (.lst (cV (List.range n))) := upd_same
    have p0 := hp.new (o := .lst (cV (List.range n))) nl0
    have k0 := Keep.of (a := a) (Same.put (o := .lst (cV (List.range n))) nl0)
    generalize (upd H l0 (.lst (cV (List.range n)))) = H0 at e0 p0 k0 ⊢
    refine ⟨a, l0, _, rfl, p0, by rw [List.length_map, List.length_range]; omega, e0, fun r ys H1 k1 p1 ra nr er pm => ?_⟩
    obtain ⟨us, rfl, pu⟩ := perm_map pm
    have mu := isMap_perm (isMap_range n) pu
    have k01 := k0.trans k1
    refine ⟨_, rfl, (n : Int), rfl, RgOk.of_le (by omega) (by omega) (by omega) (by omega), fun l nl => ?_⟩
    rw [rg_cV]
    have la := new_ne p1 nl
    have rl : r ≠ l := fun z => by rw [z, nl] at er; cases er
    have el : (upd H1 l (.lst (cV (List.range n)))) l = some (.lst (cV (List.range n))) := upd_same
    have er2 : (upd H1 l (.lst (cV (List.range n)))) r = some (.lst (cV us)) := by rw [upd_ne rl]; exact er
    have p2 := p1.new (o := .lst (cV (List.range n))) nl
    have k02 := k01.trans (Keep.of (Same.put (o := .lst (cV (List.range n))) nl))
    have nlH := free_of k01 la nl
    generalize (upd H1 l (.lst (cV (List.range n)))) = H2 at el er2 p2 k02 ⊢
    refine ⟨_, rfl, _, rfl, by omega, by omega, ?_⟩
    rw [Int.toNat_natCast]
    refine for_range (fun i σ H' => ∃ (v4 : Option V) (ws : List Nat), σ = [some (.ref a), some (.int (n : Int)), some (.ref r), some (.ref l), v4, none] ∧ Keep a H H' ∧ PoolAt H' a ∧ H' r = some (.lst (cV us)) ∧ H' l = some (.lst (cV ws)) ∧ IsMap n ws) ⟨none, _, rfl, k02, p2, er2, el, isMap_range n⟩ ?_ ?_
    · rintro i σ H3 hi ⟨v4, ws, rfl, k3, p3, er3, el3, mw⟩
      rw [Int.zero_add]
      have hm : (i + 1) % n < n := Nat.mod_lt _ (by omega)
      have g1 : us[(i + 1) % n]? = some (us[(i + 1) % n]'(by rw [mu.1]; exact hm)) := List.getElem?_eq_getElem _
      have g0 : us[i]? = some (us[i]'(by rw [mu.1]; exact hi)) := List.getElem?_eq_getElem _
      have b1 := mu.2 _ (List.mem_of_getElem? g1)
      have b0 := mu.2 _ (List.mem_of_getElem? g0)
      generalize us[(i + 1) % n]'(by rw [mu.1]; exact hm) = x at g1 b1
      generalize us[i]'(by rw [mu.1]; exact hi) = y at g0 b0
      have fm : ((i : Int) + 1).fmod (n : Int) = (((i + 1) % n : Nat) : Int) := by rw [Int.fmod_eq_emod_of_nonneg _ (by omega)]; rfl
      refine ⟨_, rfl, _, rfl, (i : Int), 1, rfl, rfl, .inl ⟨_, rfl, _, rfl, _, (n : Int), rfl, rfl, by omega, ?_⟩⟩
      dsimp only
      rw [fm]
      refine ⟨r, _, _, _, rfl, rfl, SqL.of er3, atI_nat (cV_at g1), ?_⟩
      refine ⟨_, rfl, _, rfl, _, rfl, r, _, _, _, rfl, rfl, SqL.of er3, atI_nat (cV_at g0), ?_⟩
      refine ⟨l, _, _, y, rfl, rfl, el3, ixN_nat (by rw [List.length_map, mw.1]; exact b0), ?_⟩
      have e1 : (cV ws).set y (V.int (x : Int)) = cV (ws.set y x) := cV_set _ y x
      rw [e1]
      exact ⟨_, _, rfl, k3.but nlH, p3.other (Ne.symm la), by rw [upd_ne rl]; exact er3, upd_same, isMap_set mw b1⟩
    · rintro σ H3 ⟨v4, ws, rfl, k3, p3, er3, el3, mw⟩
      refine ⟨_, rfl, (n : Int), rfl, RgOk.of_le (by omega) (by omega) (by omega) (by omega), fun m nm => ?_⟩
      rw [rg_cV]
      have ma := new_ne p3 nm
      have rm : r ≠ m := fun z => by rw [z, nm] at er3; cases er3
      have lm : l ≠ m := fun z => by rw [z, nm] at el3; cases el3
      have em : (upd H3 m (.lst (cV (List.range n)))) m = some (.lst (cV (List.range n))) := upd_same
      have er4 : (upd H3 m (.lst (cV (List.range n)))) r = some (.lst (cV us)) := by rw [upd_ne rm]; exact er3
      have el4 : (upd H3 m (.lst (cV (List.range n)))) l = some (.lst (cV ws)) := by rw [upd_ne lm]; exact el3
      have p4 := p3.new (o := .lst (cV (List.range n))) nm
      have k4 := k3.trans (Keep.of (Same.put (o := .lst (cV (List.range n))) nm))
      have nmH := free_of k3 ma nm
      generalize (upd H3 m (.lst (cV (List.range n)))) = H4 at em er4 el4 p4 k4 ⊢
      have g0 : us[0]? = some (us[0]'(by rw [mu.1]; exact n1)) := List.getElem?_eq_getElem _
      have gl : us[n - 1]? = some (us[n - 1]'(by rw [mu.1]; omega)) := List.getElem?_eq_getElem _
      have b0 := mu.2 _ (List.mem_of_getElem? g0)
      have bl := mu.2 _ (List.mem_of_getElem? gl)
      generalize us[0]'(by rw [mu.1]; exact n1) = x at g0 b0
      generalize us[n - 1]'(by rw [mu.1]; omega) = y at gl bl
      refine ⟨_, rfl, r, _, _, _, rfl, rfl, SqL.of er4, atI_nat (j := 0) (cV_at g0), ?_⟩
      refine ⟨_, rfl, _, rfl, _, rfl, (n : Int), 1, rfl, rfl, r, _, _, _, rfl, rfl, SqL.of er4, (by rw [show (n : Int) - 1 = ((n - 1 : Nat) : Int) by omega]; exact atI_nat (cV_at gl)), ?_⟩
      refine ⟨m, _, _, y, rfl, rfl, em, ixN_nat (by rw [List.length_map, List.length_range]; exact bl), ?_⟩
      have e1 : (cV (List.range n)).set y (V.int (x : Int)) = cV ((List.range n).set y x) := cV_set _ y x
      rw [e1]
      have m1 : IsMap n ((List.range n).set y x) := isMap_set (isMap_range n) b0
      have em5 : (upd H4 m (.lst (cV ((List.range n).set y x)))) m = some (.lst (cV ((List.range n).set y x))) := upd_same
      have el5 : (upd H4 m (.lst (cV ((List.range n).set y x)))) l = some (.lst (cV ws)) := by rw [upd_ne lm]; exact el4
      have p5 : PoolAt (upd H4 m (.lst (cV ((List.range n).set y x)))) a := p4.other (Ne.symm ma)
      have k5 : Keep a H (upd H4 m (.lst (cV ((List.range n).set y x)))) := k4.but nmH
      generalize (List.range n).set y x = us2 at m1 em5 el5 p5 k5
      generalize (upd H4 m (.lst (cV us2))) = H5 at em5 el5 p5 k5 ⊢
      refine ⟨_, rfl, l, _, rfl, .inl ⟨SqL.of el5, fun t nt => ?_⟩⟩
      have st := Same.put (o := .tup (cV ws)) nt
      have et : MapAt n (upd H5 t (.tup (cV ws))) t ws := ⟨upd_same, mw⟩
      have em6 := st _ _ em5
      have p6 := p5.same st
      have k6 := k5.trans (Keep.of st)
      generalize (upd H5 t (.tup (cV ws))) = H6 at et em6 p6 k6 ⊢
      refine ⟨_, rfl, m, _, rfl, .inl ⟨SqL.of em6, fun u nu => ?_⟩⟩
      have su := Same.put (o := .tup (cV us2)) nu
      have eu : MapAt n (upd H6 u (.tup (cV us2))) u us2 := ⟨upd_same, m1⟩
      have et7 := et.same su
      have p7 := p6.same su
      have k7 := k6.trans (Keep.of su)
      generalize (upd H6 u (.tup (cV us2))) = H7 at eu et7 p7 k7 ⊢
      refine ⟨by show 2 ≤ sizeLine; decide, fun z nz => ?_⟩
      have sz := Same.put (o := .lst (rfs [(t, ws), (u, us2)])) nz
      exact k z [(t, ws), (u, us2)] _ (k7.trans (Keep.of sz)) (p7.same sz) (new_ne p7 nz) upd_same (fun v mv => by
        rcases List.mem_cons.mp mv with rfl | mv
        · exact et7.same sz
        · rw [List.mem_singleton.mp mv]; exact eu.same sz) (by show 1 ≤ 2; omega) (by show 2 ≤ 4; omega)
end
end KG
set_option Elab.async false
set_option linter.all false
set_option maxRecDepth 100000
set_option maxHeartbeats 4000000
namespace KG
open PySem L2 TL
/-! ### names -/
def Nam (x : Str) : Prop := 1 ≤ x.cps.toList.length ∧ x.cps.toList.length ≤ 8 ∧ ∀ c ∈ x.cps.toList, 97 ≤ c ∧ c ≤ 122
def abc : Str := "abcdefghijklmnopqrstuvwxyz"
theorem abc_tl : abc.cps.toList = (List.range 26).map (97 + ·) := by decide +kernel
theorem abc_mem {c : Nat} (h : 97 ≤ c ∧ c ≤ 122) : c ∈ abc.cps.toList := by
  rw [abc_tl]
  exact List.mem_map.mpr ⟨c - 97, List.mem_range.mpr (by omega), by omega⟩
abbrev one (c : Nat) : Str := ⟨#[c]⟩
/-- all but the pool and the list of names so far -/
def Keep2 (a tk : Addr) (H H' : Hp) : Prop := ∀ b o, H b = some o → b ≠ a → b ≠ tk → H' b = some o
abbrev sV (ws : List Str) : List V := ws.map V.str
theorem sV_len {ws : List Str} : (sV ws).length = ws.length := List.length_map _
def spIsName : Sp := fun vs H Q _ => ∃ x : Str, vs = [.str x] ∧ Nam x ∧ ∀ H', Same H H' → Q (.bl true) H'
section
variable {P : Program} {w : World} {K : PySem.W.Frag} {mg : Str → Option Value} {base : Heap} {C : Addr}
abbrev s_is_name : Stmt := top 16
theorem sc_is_name : FnScope ["thing", "letter"] ["thing"] (defScope s_is_name) := ⟨rfl, rfl, rfl, by decide +kernel, rfl, by decide +kernel, by decide +kernel⟩
theorem ok_is_name {f : Addr} {fd : FuncData} (F : Fun K "is_name" "is_name" s_is_name f fd) (T : Bm mg) (gL : ∃ t, mg "LETTERS" = some (.str abc t)) : FnOk P w K mg base CX0 1 f fd ["thing"] spIsName := by
  obtain ⟨tL, gL⟩ := gL
  refine F.ok sc_is_name (fun vs H Q E h => ?_) (fun cdv A outer s H vs Q E hr h => ?_)
  · obtain ⟨x, rfl, _⟩ := h
    rfl
  · obtain ⟨x, rfl, ⟨h1, h2, h3⟩, k⟩ := h
    refine ⟨_, (pss_cons (ps_if (PW.pt (pw_or (pt_not (pt_val (pe_callB call_isi (by rfl) T.b.n_isinstance (by decide +kernel) (pa_cons (pv 0) (pa_cons (pe_bltn (v := .ty "str") rfl T.b.n_str (by decide +kernel) rfl) pa_nil))))) (pw_or1 (pt_not (pt_chain op_le op_le pe_int (pe_callB call_len_str (by rfl) T.b.n_len PySem.boot_len (pa_cons (pv 0) pa_nil)) pe_int)))))
        (pss_one (ps_ret pe_bl))
        pss_nil)
      (pss_one (ps_ret (pe_callB (cr_all rfl) (by rfl) T.n_all PyProof.Rows.boot_all (pa_cons (pe_lc (own := [("letter", 1)]) rfl sc_is_name.nd (pi_str (pv 0)) (blkOk_by (N := ["thing", "letter"]) (sc := defScope s_is_name) (by decide +kernel)) (fun _ _ _ _ _ => (pg_name (i := 1) sc_is_name.nd rfl (Or.inl rfl))) (fun _ _ _ _ _ => pts_nil) (fun _ _ _ _ _ => (pe_cmpR op_in_sign (pv 1) (pe_glob (v := .str abc) rfl gL ⟨_, rfl⟩) (by rfl)))) pa_nil))))), ?_⟩
    have hl : x.length = x.cps.toList.length := (Array.length_toList).symm
    refine ⟨_, rfl, .str x, .ty "str", _, _, true, rfl, .ty _, .base (.str x), kit_ty (r := true) (by decide +kernel), _, rfl, iteF ?_⟩
    refine ⟨_, rfl, x, rfl, Nat.le_of_lt (small_len (by omega)), 1, (x.length : Int), rfl, rfl, _, rfl, iteTe (decide_eq_true (by omega)) ?_⟩
    refine ⟨(x.length : Int), 8, rfl, rfl, true, congrArg V.bl (decide_eq_true (by omega)), iteF ?_⟩
    refine ⟨_, rfl, x, rfl, fun D nD => ?_⟩
    let Pv : Nat → Hp → Prop := fun i H' => Same H H' ∧ H' D = some (.lst ((List.replicate i true).map V.bl))
    refine ⟨fun i m H' => m + i = x.cps.size ∧ Pv i H', ⟨x.cps.size, rfl, Same.put nD, upd_same⟩, fun i m H1 ⟨em, p⟩ => ?_⟩
    have hs : x.cps.size = x.cps.toList.length := (Array.length_toList).symm
    cases m with
    | zero =>
      refine .inl ⟨show x.cps.size ≤ i by omega, D, _, rfl, SqL.of p.2, ?_⟩
      have e : (List.replicate i true).all id = true := List.all_eq_true.mpr fun b m => List.eq_of_mem_replicate m
      rw [e]
      exact k H1 p.1
    | succ m =>
      refine .inr ⟨show i < x.cps.size by omega, Pv (i + 1), fun H' p' => ⟨m, Nat.lt_succ_self m, by omega, p'⟩, fun v H' y => ?_⟩
      obtain ⟨e, c, hc, rfl⟩ := y
      subst e
      have mc : c ∈ x.cps.toList := by
        have := Array.mem_of_getElem? hc
        exact Array.mem_toList_iff.mpr this
      refine ⟨rfl, yes_of ?_⟩
      refine ⟨_, rfl, c, abc, rfl, rfl, ?_⟩
      rw [decide_eq_true (abc_mem (h3 c mc))]
      refine ⟨_, p.2, by rw [List.length_map, List.length_replicate]; exact small_len (by omega), Same.but (fun b u e => p.1 _ _ e) nD, ?_⟩
      rw [upd_same, List.replicate_succ', List.map_append]
      rfl
end
end KG
set_option Elab.async false
set_option linter.all false
set_option maxRecDepth 100000
set_option maxHeartbeats 4000000
namespace KG
open PySem L2 TL
theorem Keep2.of {a tk : Addr} {H H' : Hp} (k : Keep a H H') : Keep2 a tk H H' := fun b o h n _ => k b o h n
theorem Keep2.put {a tk : Addr} {H H' : Hp} {o : HO} (k : Keep2 a tk H H') : Keep2 a tk H (upd H' tk o) := fun b u h n n2 => by rw [upd_ne n2]; exact k b u h n n2
end KG
set_option Elab.async false
set_option linter.all false
set_option maxRecDepth 100000
set_option maxHeartbeats 4000000
namespace KG
open PySem L2 TL
/-- labels: a tuple of names -/
def Lbs (n : Nat) (ls : List Str) : Prop := ls.length = n ∧ ∀ x ∈ ls, Nam x
section
variable {P : Program} {w : World} {K : PySem.W.Frag} {mg : Str → Option Value} {base : Heap} {C : Addr}
abbrev nLb : List Str := ["_law_pool_here", "_law_size_here", "_law_taken", "_law_words", "_law_way", "_law_odd_here", "_law_k"]
end
end KG
set_option Elab.async false
set_option linter.all false
set_option maxRecDepth 100000
set_option maxHeartbeats 4000000
namespace KG
open PySem L2
abbrev iW (ws : List Nat) : List Int := ws.map fun k : Nat => (k : Int)
/-- a row of numbers over their sum -/
def RowIn (C : Addr) (H : Hp) (n : Nat) (r : Addr × List Nat) : Prop := ∃ xs, H r.1 = some (.tup xs) ∧ Nums C (r.2.sum : Int) H xs (iW r.2) ∧ Tps n r.2
/-- a row of shares -/
def RowSh (C : Addr) (H : Hp) (n : Nat) (r : Addr × List Nat) : Prop := ∃ as : List Addr, H r.1 = some (.tup (as.map V.ref)) ∧ as.length = n ∧ Tps n r.2 ∧
  ∀ (i : Nat) (a : Addr), as[i]? = some a → ∃ (dx : Addr) (w : Nat), r.2[i]? = some w ∧ H a = some (.ins C dx (shF (lowT (w : Int) (r.2.sum : Int)) (lowB (w : Int) (r.2.sum : Int))))
theorem RowIn.same {C : Addr} {H H' : Hp} {n : Nat} {r : Addr × List Nat} (h : RowIn C H n r) (s : Same H H') : RowIn C H' n r := by
  obtain ⟨xs, h1, h2, h3⟩ := h
  exact ⟨xs, s _ _ h1, h2.same s, h3⟩
theorem RowSh.same {C : Addr} {H H' : Hp} {n : Nat} {r : Addr × List Nat} (h : RowSh C H n r) (s : Same H H') : RowSh C H' n r := by
  obtain ⟨as, h1, h2, h3, h4⟩ := h
  exact ⟨as, s _ _ h1, h2, h3, fun i a e => let ⟨dx, w, q1, q2⟩ := h4 i a e; ⟨dx, w, q1, s _ _ q2⟩⟩
theorem refs_at {as : List Addr} {i : Nat} {x : V} (h : (as.map V.ref)[i]? = some x) : ∃ a, as[i]? = some a ∧ x = .ref a := by
  rw [List.getElem?_map] at h
  cases e : as[i]? with
  | none => rw [e] at h; cases h
  | some a => rw [e] at h; exact ⟨a, rfl, (Option.some.inj h).symm⟩
theorem RowSh.inn {C : Addr} {H : Hp} {n : Nat} {r : Addr × List Nat} (h : RowSh C H n r) : RowIn C H n r := by
  obtain ⟨as, h1, h2, h3, h4⟩ := h
  refine ⟨_, h1, ⟨by rw [List.length_map, List.length_map, h2, h3.1], fun i x e => ?_⟩, h3⟩
  obtain ⟨a, ha, rfl⟩ := refs_at e
  obtain ⟨dx, w, q1, q2⟩ := h4 i a ha
  exact ⟨(w : Int), by rw [List.getElem?_map, q1]; rfl, .inr ⟨a, dx, rfl, q2⟩⟩
theorem RowSh.keep {C p : Addr} {H H' : Hp} {n : Nat} {r : Addr × List Nat} (h : RowSh C H n r) (k : Keep p H H') (hp : PoolAt H p) : RowSh C H' n r := by
  obtain ⟨as, h1, h2, h3, h4⟩ := h
  exact ⟨as, k _ _ h1 (hp.ne h1), h2, h3, fun i a e => let ⟨dx, w, q1, q2⟩ := h4 i a e; ⟨dx, w, q1, k _ _ q2 (hp.nei q2)⟩⟩
theorem tps_low {n : Nat} {ws : List Nat} (h : Tps n ws) (n8 : n ≤ 8) : 0 < (ws.sum : Int) ∧ ((ws.sum : Int)).natAbs < 2 ^ 4000 ∧ ∀ w ∈ ws, ((w : Int)).natAbs < 2 ^ 3000 := by
  have b : ∀ w ∈ ws, w ≤ 2 ^ 40 := fun w m => Nat.le_of_lt (h.2.2 w m)
  have sb : ∀ l : List Nat, (∀ w ∈ l, w ≤ 2 ^ 40) → l.sum ≤ l.length * 2 ^ 40 := fun l => by
    induction l with
    | nil => intro _; simp
    | cons x l ih =>
      intro hl
      rw [List.sum_cons, List.length_cons]
      have := ih fun w m => hl w (List.mem_cons_of_mem _ m)
      have := hl x List.mem_cons_self
      omega
  have := sb ws b
  rw [h.1] at this
  have s1 : ws.sum ≤ 8 * 2 ^ 40 := Nat.le_trans this (Nat.mul_le_mul_right _ n8)
  refine ⟨by have := h.2.1; omega, ?_, fun w m => ?_⟩
  · rw [Int.natAbs_natCast]
    exact Nat.lt_of_le_of_lt s1 (by decide +kernel)
  · rw [Int.natAbs_natCast]
    exact Nat.lt_trans (h.2.2 w m) (by decide +kernel)
def spSharesOf (C : Addr) : Sp := fun vs H Q _ => ∃ (b : Addr) (n : Nat) (ws : List Nat), vs = [.ref b] ∧ n ≤ 8 ∧ RowIn C H n (b, ws) ∧ ∀ (t : Addr) (H' : Hp), Same H H' → RowSh C H' n (t, ws) → Q (.ref t) H'
section
variable {P : Program} {w : World} {K : PySem.W.Frag} {mg : Str → Option Value} {base : Heap} {C CC B : Addr}
abbrev s_shares_of : Stmt := top 28
theorem sc_shares_of : FnScope ["row", "part"] ["row"] (defScope s_shares_of) := ⟨rfl, rfl, rfl, by decide +kernel, rfl, by decide +kernel, by decide +kernel⟩
theorem ok_shares_of {f : Addr} {fd : FuncData} (F : Fun K "shares_of" "shares_of" s_shares_of f fd) (T : Bm mg) (c_of : Cal P w K mg base 6 "share_of" ["thing"] (spShareOf C)) : FnOk P w K mg base CX0 7 f fd ["row"] (spSharesOf C) := by
  refine F.ok sc_shares_of (fun vs H Q E h => ?_) (fun cdv A outer s H vs Q E hr h => ?_)
  · obtain ⟨b, n, ws, rfl, _⟩ := h
    rfl
  · obtain ⟨b, n, ws, rfl, n8, ⟨xs, eb, nu, tp⟩, k⟩ := h
    refine ⟨_, (pss_one (ps_ret (pe_callTy call_tuple_of (by rfl) T.n_tuple (by decide +kernel) (pa_cons (pe_lc (own := [("part", 1)]) rfl sc_shares_of.nd (pi_tup (pv 0)) (blkOk_by (N := ["row", "part"]) (sc := defScope s_shares_of) (by decide +kernel)) (fun _ _ _ _ _ => (pg_name (i := 1) sc_shares_of.nd rfl (Or.inl rfl))) (fun _ _ _ _ _ => pts_nil) (fun _ _ _ _ _ => (pe_cal c_of (hr.mono (by decide)) rfl (pa_cons (pv 1) pa_nil)))) pa_nil)))), ?_⟩
    have eb : H b = some (.tup xs) := eb
    have lx : xs.length = n := by rw [nu.1, List.length_map, tp.1]
    refine ⟨_, rfl, b, rfl, ⟨_, SqT.of eb⟩, fun D nD => ?_⟩
    refine lc_tup (K := K) (a := b) (xs := xs) (fun i H' => Same H H' ∧ ∃ as : List Addr, H' D = some (.lst (as.map V.ref)) ∧ as.length = i ∧
      ∀ (j : Nat) (a : Addr), as[j]? = some a → ∃ (dx : Addr) (w : Nat), ws[j]? = some w ∧ H' a = some (.ins C dx (shF (lowT (w : Int) (ws.sum : Int)) (lowB (w : Int) (ws.sum : Int))))) ⟨Same.put nD, [], upd_same, rfl, fun j a e => by simp at e⟩ (fun i H' _ h => SqT.of (h.1 _ _ eb)) ?_ ?_
    · rintro i x H' hx ⟨s1, as, eD, la, fa⟩
      obtain ⟨S, hS, nx⟩ := (nu.same s1).2 i x hx
      obtain ⟨w, hw, rfl⟩ : ∃ w, ws[i]? = some w ∧ S = (w : Int) := by
        have hS : (ws.map fun k : Nat => (k : Int))[i]? = some S := hS
        rw [List.getElem?_map] at hS
        cases e : ws[i]? with
        | none => rw [e] at hS; cases hS
        | some w => rw [e] at hS; exact ⟨w, rfl, (Option.some.inj hS).symm⟩
      have il := (List.getElem?_eq_some_iff.mp hx).1
      refine ⟨rfl, yes_of ?_⟩
      refine ⟨_, rfl, x, _, _, rfl, nx, fun a dx H2 s2 ea => ?_⟩
      have aD : ∀ {c dy : Addr} {fs : List (Str × V)}, H2 c = some (.ins C dy fs) → c ≠ D := fun e z => by
        rw [z, s2 _ _ eD] at e
        cases e
      refine ⟨_, s2 _ _ eD, by rw [List.length_map]; exact small_len (by omega), Same.but (fun b u e => s2 _ _ (s1 _ _ e)) nD, as ++ [a], by rw [upd_same, List.map_append]; rfl, by rw [List.length_append, la]; rfl, fun j c hc => ?_⟩
      rcases Nat.lt_or_ge j as.length with h | h
      · rw [List.getElem?_append_left h] at hc
        obtain ⟨dy, v, q1, q2⟩ := fa j c hc
        exact ⟨dy, v, q1, by rw [upd_ne (aD (s2 _ _ q2))]; exact s2 _ _ q2⟩
      · rw [List.getElem?_append_right h] at hc
        have hz : j - as.length = 0 := by
          have := (List.getElem?_eq_some_iff.mp hc).1
          simpa using this
        rw [hz] at hc
        have e : a = c := by simpa using hc
        have ej : j = i := by omega
        rw [← e, ej]
        exact ⟨dx, w, hw, by rw [upd_ne (aD ea)]; exact ea⟩
    · rintro H1 ⟨s1, as, eD, la, fa⟩
      refine ⟨D, _, rfl, .inl ⟨SqL.of eD, fun t nt => ?_⟩⟩
      have st := Same.put (o := .tup (as.map V.ref)) nt
      exact k t _ (s1.trans st) ⟨as, upd_same, by omega, tp, fun j c hc => let ⟨dx, w, q1, q2⟩ := fa j c hc; ⟨dx, w, q1, st _ _ q2⟩⟩
end
/-! ### chains -/
def chF (n : Nat) (T lb : Addr) : List (Str × V) := putF "_labels" (.ref lb) (putF "_rows" (.ref T) (putF "size" (.int (n : Int)) []))
/-- a chain of these rows and labels -/
def IsCh (C CC : Addr) (H : Hp) (o : Addr) (n : Nat) (rws : List (List Nat)) (ls : List Str) : Prop := ∃ (dx T lb : Addr) (rs : List (Addr × List Nat)), H o = some (.ins CC dx (chF n T lb)) ∧ H T = some (.tup (rfs rs)) ∧ rs.length = n ∧ (∀ r ∈ rs, RowSh C H n r) ∧ rs.map (·.2) = rws ∧ H lb = some (.tup (sV ls)) ∧ Lbs n ls
theorem IsCh.same {C CC : Addr} {H H' : Hp} {o : Addr} {n : Nat} {rws : List (List Nat)} {ls : List Str} (h : IsCh C CC H o n rws ls) (s : Same H H') : IsCh C CC H' o n rws ls := by
  obtain ⟨dx, T, lb, rs, h1, h2, h3, h4, h5, h6, h7⟩ := h
  exact ⟨dx, T, lb, rs, s _ _ h1, s _ _ h2, h3, fun r m => (h4 r m).same s, h5, s _ _ h6, h7⟩
theorem IsCh.keep {C CC p : Addr} {H H' : Hp} {o : Addr} {n : Nat} {rws : List (List Nat)} {ls : List Str} (h : IsCh C CC H o n rws ls) (k : Keep p H H') (hp : PoolAt H p) : IsCh C CC H' o n rws ls := by
  obtain ⟨dx, T, lb, rs, h1, h2, h3, h4, h5, h6, h7⟩ := h
  exact ⟨dx, T, lb, rs, k _ _ h1 (hp.nei h1), k _ _ h2 (hp.ne h2), h3, fun r m => (h4 r m).keep k hp, h5, k _ _ h6 (hp.ne h6), h7⟩
structure ChT (K : PySem.W.Frag) (mg : Str → Option Value) (CC : Addr) : Prop where
  it : InsT K CC
  nS : NoAttr K CC "size"
  nR : NoAttr K CC "_rows"
  nL : NoAttr K CC "_labels"
  gC : mg "Chain" = some (.ref CC)
  gM : ∃ t, mg "MOST_STATES" = some (.int 8 t)
/-- Chain.__init__(rows, labels) -/
def spCI (C CC : Addr) : Sp := fun vs H Q _ => ∃ (x dx T lb : Addr) (n : Nat) (rs : List (Addr × List Nat)) (ls : List Str), vs = [.ref x, .ref T, .ref lb] ∧ H x = some (.ins CC dx []) ∧ 1 ≤ n ∧ n ≤ 8 ∧ H T = some (.tup (rfs rs)) ∧ rs.length = n ∧ (∀ r ∈ rs, RowIn C H n r) ∧ H lb = some (.tup (sV ls)) ∧ Lbs n ls ∧
  ∀ (T2 : Addr) (rs2 : List (Addr × List Nat)) (H2 : Hp), Same H H2 → H2 T2 = some (.tup (rfs rs2)) → rs2.length = n → (∀ r ∈ rs2, RowSh C H2 n r) → rs2.map (·.2) = rs.map (·.2) → Q .non (upd H2 x (.ins CC dx (chF n T2 lb)))
end KG
set_option Elab.async false
set_option linter.all false
set_option maxRecDepth 100000
set_option maxHeartbeats 4000000
namespace KG
open PySem L2
theorem un65 {k : Nat} {A : Around} (r : Room k A) : A.units + 65 < cLine := by
  have := r.un
  omega
/-! ### tuples of ints as data -/
def dI (ns : List Int) : PyData := .tuple (ns.map PyData.int)
theorem eqvAll_ints : ∀ ns ms : List Int, PyData.eqvAll (ns.map PyData.int) (ms.map PyData.int) = decide (ns = ms)
  | [], [] => rfl
  | [], _ :: _ => rfl
  | _ :: _, [] => rfl
  | a :: ns, b :: ms => by
    show (PyData.eqv (.int a) (.int b) && PyData.eqvAll (ns.map PyData.int) (ms.map PyData.int)) = _
    rw [eqvAll_ints ns ms, Bool.eq_iff_iff, Bool.and_eq_true, decide_eq_true_eq, decide_eq_true_eq, List.cons.injEq]
    have e : PyData.eqv (.int a) (.int b) = (a == b) := by simp [PyData.eqv]
    rw [e, beq_iff_eq]
theorem eqv_dI (ns ms : List Int) : PyData.eqv (dI ns) (dI ms) = decide (ns = ms) := by
  unfold dI
  rw [PyData.eqv]
  exact eqvAll_ints ns ms
theorem lay_ints : ∀ ns : List Int, PyData.canLayAll0 (ns.map PyData.int) = true ∧ PyData.depthAll (ns.map PyData.int) = 0
  | [] => ⟨rfl, rfl⟩
  | a :: ns => by
    obtain ⟨h1, h2⟩ := lay_ints ns
    refine ⟨?_, ?_⟩
    · show ((PyData.int a).canLay0 && PyData.canLayAll0 (ns.map PyData.int)) = true
      rw [h1]
      rfl
    · show max (PyData.depth (.int a)) (PyData.depthAll (ns.map PyData.int)) = 0
      rw [h2]
      rfl
theorem lay_dI (ns : List Int) : (dI ns).canLay0 = true ∧ (dI ns).depth = 1 := by
  obtain ⟨h1, h2⟩ := lay_ints ns
  exact ⟨h1, by show PyData.depthAll (ns.map PyData.int) + 1 = 1; rw [h2]⟩
theorem lay_dIs : ∀ L : List (List Int), PyData.canLayAll0 (L.map dI) = true ∧ PyData.depthAll (L.map dI) ≤ 1
  | [] => ⟨rfl, Nat.zero_le _⟩
  | a :: L => by
    obtain ⟨h1, h2⟩ := lay_dIs L
    obtain ⟨h3, h4⟩ := lay_dI a
    refine ⟨?_, ?_⟩
    · show ((dI a).canLay0 && PyData.canLayAll0 (L.map dI)) = true
      rw [h1, h3]
      rfl
    · show max (dI a).depth (PyData.depthAll (L.map dI)) ≤ 1
      omega
theorem sh_dI (ns : List Int) : SeqAt.shaped (dI ns) = true := by
  obtain ⟨h1, h2⟩ := lay_dI ns
  unfold SeqAt.shaped
  rw [h1, h2]
  rfl
theorem sh_list (L : List (List Int)) : SeqAt.shaped (.list (L.map dI)) = true := by
  obtain ⟨h1, h2⟩ := lay_dIs L
  unfold SeqAt.shaped
  rw [Bool.and_eq_true, decide_eq_true_eq]
  refine ⟨h1, ?_⟩
  show PyData.depthAll (L.map dI) + 1 ≤ 64
  omega
theorem sh_tup (L : List (List Int)) : SeqAt.shaped (.tuple (L.map dI)) = true := by
  obtain ⟨h1, h2⟩ := lay_dIs L
  unfold SeqAt.shaped
  rw [Bool.and_eq_true, decide_eq_true_eq]
  refine ⟨h1, ?_⟩
  show PyData.depthAll (L.map dI) + 1 ≤ 64
  omega
theorem dp_ints {K : PySem.W.Frag} {H : Hp} : ∀ ns : List Int, DpAll K H (ns.map V.int) (ns.map PyData.int)
  | [] => .nil
  | a :: ns => .cons (.int a) (dp_ints ns)
theorem dp_tup {K : PySem.W.Frag} {H : Hp} {a : Addr} {ns : List Int} (h : SqT K H a (ns.map V.int)) : Dp K H (.ref a) (dI ns) := .tup h (dp_ints ns)
theorem iW_inj {a b : List Nat} (h : iW a = iW b) : a = b := by
  have := congrArg (List.map Int.toNat) h
  rw [List.map_map, List.map_map] at this
  have e : (Int.toNat ∘ fun k : Nat => (k : Int)) = id := by
    funext k
    exact Int.toNat_natCast k
  rw [e, List.map_id, List.map_id] at this
  exact this
theorem dp_tupN {K : PySem.W.Frag} {H : Hp} {a : Addr} {ws : List Nat} (h : SqT K H a (cV ws)) : Dp K H (.ref a) (dI (iW ws)) := dp_tup (by rw [← cV_ints]; exact h)
theorem Tups.dp {K : PySem.W.Frag} {H : Hp} : ∀ {ts : List (Addr × List Nat)}, (∀ r ∈ ts, H r.1 = some (.tup (cV r.2))) → DpAll K H (rfs ts) (((ts.map (·.2)).map iW).map dI)
  | [], _ => .nil
  | t :: ts, h => .cons (dp_tupN (SqT.of (h t List.mem_cons_self))) (Tups.dp fun u m => h u (List.mem_cons_of_mem _ m))
theorem any_dN (ws : List Nat) : ∀ Ls : List (List Nat), ((Ls.map iW).map dI).any (fun z => PyData.eqv z (dI (iW ws))) = decide (ws ∈ Ls)
  | [] => rfl
  | q :: Ls => by
    rw [List.map_cons, List.map_cons, List.any_cons, any_dN ws Ls, eqv_dI, Bool.eq_iff_iff, Bool.or_eq_true, decide_eq_true_eq, decide_eq_true_eq, decide_eq_true_eq, List.mem_cons]
    exact or_congr ⟨fun h => (iW_inj h).symm, fun h => by rw [h]⟩ Iff.rfl
end KG
set_option Elab.async false
set_option linter.all false
set_option maxRecDepth 100000
set_option maxHeartbeats 4000000
namespace KG
open PySem L2
/-- a part: a number over a map -/
abbrev Prt := Addr × (Nat × (Addr × List Nat))
def PrtAt (n : Nat) (H : Hp) (t : Prt) : Prop := H t.1 = some (.tup [.int (t.2.1 : Int), .ref t.2.2.1]) ∧ MapAt n H t.2.2.1 t.2.2.2 ∧ 1 ≤ t.2.1 ∧ t.2.1 ≤ 4
def PrtsIn (n : Nat) (H : Hp) (ts : List Prt) : Prop := ∀ t ∈ ts, PrtAt n H t
abbrev mps (ts : List Prt) : List (List Nat) := ts.map fun t => t.2.2.2
abbrev mpA (ts : List Prt) : List (Addr × List Nat) := ts.map fun t => t.2.2
theorem PrtAt.same {n : Nat} {H H' : Hp} {t : Prt} (h : PrtAt n H t) (s : Same H H') : PrtAt n H' t := ⟨s _ _ h.1, h.2.1.same s, h.2.2⟩
theorem PrtAt.keep {n : Nat} {a : Addr} {H H' : Hp} {t : Prt} (h : PrtAt n H t) (k : Keep a H H') (p : PoolAt H a) : PrtAt n H' t := ⟨k _ _ h.1 (p.ne h.1), h.2.1.keep k p, h.2.2⟩
theorem PrtAt.lstU {n : Nat} {H : Hp} {D : Addr} {ys : List V} {t : Prt} {o : HO} (h : PrtAt n H t) (e : H D = some (.lst ys)) : PrtAt n (upd H D o) t := ⟨by rw [upd_ne (fun z => by have := h.1; rw [z, e] at this; cases this)]; exact h.1, ⟨by rw [upd_ne (fun z => by have := h.2.1.1; rw [z, e] at this; cases this)]; exact h.2.1.1, h.2.1.2⟩, h.2.2⟩
theorem PrtsIn.same {n : Nat} {H H' : Hp} {ts : List Prt} (h : PrtsIn n H ts) (s : Same H H') : PrtsIn n H' ts := fun t m => (h t m).same s
theorem PrtsIn.keep {n : Nat} {a : Addr} {H H' : Hp} {ts : List Prt} (h : PrtsIn n H ts) (k : Keep a H H') (p : PoolAt H a) : PrtsIn n H' ts := fun t m => (h t m).keep k p
theorem PrtsIn.lstU {n : Nat} {H : Hp} {D : Addr} {ys : List V} {ts : List Prt} {o : HO} (h : PrtsIn n H ts) (e : H D = some (.lst ys)) : PrtsIn n (upd H D o) ts := fun t m => (h t m).lstU e
theorem PrtsIn.snoc {n : Nat} {H : Hp} {ts : List Prt} {t : Prt} (h : PrtsIn n H ts) (e : PrtAt n H t) : PrtsIn n H (ts ++ [t]) := fun u m => by
  rcases List.mem_append.mp m with m | m
  · exact h u m
  · rw [List.mem_singleton.mp m]; exact e
/-- what the drawn parts are -/
def spPrts (Q : VK) (H : Hp) (a : Addr) (n : Nat) : Prop := ∀ (l : Addr) (ts : List Prt) (H' : Hp), Keep a H H' → PoolAt H' a → l ≠ a → H' l = some (.lst (rfs ts)) → PrtsIn n H' ts → (mps ts).Nodup → 1 ≤ ts.length → ts.length ≤ 4 → Q (.ref l) H'
def spWeighed : Sp := fun vs H Q _ => ∃ (a l : Addr) (n : Nat) (ms : List (Addr × List Nat)), vs = [.ref a, .ref l] ∧ PoolAt H a ∧ l ≠ a ∧ H l = some (.lst (rfs ms)) ∧ MapsIn n H ms ∧ 1 ≤ ms.length ∧ ms.length ≤ 4 ∧ spPrts Q H a n
def spInHalf : Sp := fun vs H Q _ => ∃ (a l : Addr) (hs : List Nat) (h : Int) (st n : Nat), vs = [.ref a, .ref l, .int h, .int (st : Int)] ∧ PoolAt H a ∧ l ≠ a ∧ H l = some (.lst (cV hs)) ∧ hs.length = n ∧ st < n ∧ n ≤ 8 ∧ ∀ (r : Nat) (H' : Hp), Keep a H H' → PoolAt H' a → r < n → Q (.int (r : Int)) H'
section
variable {P : Program} {w : World} {K : PySem.W.Frag} {mg : Str → Option Value} {base : Heap} {C : Addr}
abbrev s_in_half : Stmt := top 77
abbrev nIH : List Str := ["_law_pool_here", "_law_halves", "_law_half", "_law_s", "_law_goals", "_law_t"]
theorem sc_in_half : FnScope nIH ["_law_pool_here", "_law_halves", "_law_half", "_law_s"] (defScope s_in_half) := ⟨rfl, rfl, rfl, by decide +kernel, rfl, by decide +kernel, by decide +kernel⟩
theorem ok_in_half {f : Addr} {fd : FuncData} (F : Fun K "_law_in_half" "_law_in_half" s_in_half f fd) (T : Bm mg)
    (c_pick : Cal P w K mg base 2 "_law_pick" ["_law_pool_here", "_law_things"] spPickQ) : FnOk P w K mg base CX0 3 f fd ["_law_pool_here", "_law_halves", "_law_half", "_law_s"] spInHalf := by
  refine F.ok sc_in_half (fun vs H Q E h => ?_) (fun cdv A outer s H vs Q E hr h => ?_)
  · obtain ⟨a, l, hs, h, st, n, rfl, _⟩ := h
    rfl
  · obtain ⟨a, l, hs, h, st, n, rfl, hp, la, el, lh, ln, n8, k⟩ := h
    refine ⟨_, (pss_cons (ps_setLc (i := 4) (own := [("_law_t", 5)]) rfl sc_in_half.nd rfl rfl (sw_true rfl rfl rfl (by decide +kernel)) (pi_range1 (by rfl) T.n_range (pa_cons (pe_callB call_len_seq (by rfl) T.b.n_len PySem.boot_len (pa_cons (pv 1) pa_nil)) pa_nil)) (blkOk_by (N := nIH) (sc := defScope s_in_half) (by decide +kernel)) (fun _ _ _ _ _ => (pg_name (i := 5) sc_in_half.nd rfl (Or.inl rfl)))
        (fun _ _ _ _ _ => (pts_one (pt_cmpR op_eq (pe_ix (show IxR _ (rIxL K) from ix_list) (pv 1) (pv 5) (fun _ _ => rfl)) (pv 2) (nomark _)))) (fun _ _ _ _ _ => (pv 5)))
      (pss_cons (ps_if (pt_cmpR op_eq (pe_callB call_len_seq (by rfl) T.b.n_len PySem.boot_len (pa_cons (pv 4) pa_nil)) pe_int (nomark _))
        (pss_one (ps_ret (pv 3)))
        pss_nil)
      (pss_one (ps_ret (pe_cal c_pick (hr.mono (by decide)) rfl (pa_cons (pv 0) (pa_cons (pv 4) pa_nil))))))), ?_⟩
    have lenl : (cV hs).length = n := by rw [List.length_map, lh]
    refine ⟨_, rfl, l, _, rfl, .inl (SqL.of el), _, rfl, by rw [lenl]; omega, by rw [lenl]; omega, fun D nD => ?_⟩
    rw [lenl, Int.toNat_natCast]
    have Da := new_ne hp nD
    have lD : l ≠ D := fun z => by rw [z, nD] at el; cases el
    refine lc_range (fun i H' => Same H H' ∧ ∃ gs : List Nat, H' D = some (.lst (cV gs)) ∧ gs.length ≤ i ∧ ∀ x ∈ gs, x < n) ⟨Same.put nD, [], upd_same, Nat.le_refl _, fun _ m => (by cases m)⟩ ?_ ?_
    · rintro i H' hi ⟨s1, gs, eD, lg, bg⟩
      rw [Int.zero_add]
      refine ⟨rfl, ?_⟩
      have gi : hs[i]? = some (hs[i]'(by omega)) := List.getElem?_eq_getElem _
      refine ⟨_, rfl, _, rfl, l, _, _, _, rfl, rfl, SqL.of (s1 _ _ el), atI_nat (cV_at gi), _, rfl, rfl, _, rfl, iteA ?_ ⟨s1, gs, eD, by omega, bg⟩⟩
      refine ⟨_, rfl, _, eD, by rw [List.length_map]; exact small_len (by omega), Same.but s1 nD, gs ++ [i], by rw [upd_same, cV_snoc], by rw [List.length_append]; show gs.length + 1 ≤ i + 1; omega, fun x m => ?_⟩
      rcases List.mem_append.mp m with m | m
      · exact bg x m
      · rw [List.mem_singleton.mp m]; exact hi
    · rintro H1 ⟨s1, gs, eD, lg, bg⟩
      have p1 := hp.same s1
      refine ⟨_, rfl, D, _, rfl, .inl (SqL.of eD), rfl, _, rfl, iteB (fun z => ?_) (fun z => ?_)⟩
      · exact ⟨_, rfl, k st H1 (Keep.of s1) p1 ln⟩
      · have pos : 0 < gs.length := by
          rcases Nat.eq_zero_or_pos gs.length with q | q
          · rw [List.length_map, q] at z; cases z
          · exact q
        refine ⟨_, rfl, _, rfl, a, D, cV gs, rfl, p1, .inl eD, Da, by rw [List.length_map]; exact pos, by rw [List.length_map]; omega, fun x o mx ho => ?_⟩
        obtain ⟨y, my, rfl⟩ := List.mem_map.mp mx
        obtain ⟨p2, k2⟩ := drawn p1 (Keep.of (a := a) s1) ho
        exact k y _ k2 p2 (bg y my)
end
end KG
set_option Elab.async false
set_option linter.all false
set_option maxRecDepth 100000
set_option maxHeartbeats 4000000
namespace KG
open PySem L2
theorem iteFe {c : Bool} {A D : Prop} (e : c = false) (h : D) : if c = true then A else D := by
  rw [e]
  exact h
theorem prs_mp {n : Nat} {H : Hp} {ts : List Prt} (h : PrtsIn n H ts) : ∀ r ∈ mpA ts, H r.1 = some (.tup (cV r.2)) := fun r m => by
  obtain ⟨t, mt, rfl⟩ := List.mem_map.mp m
  exact (h t mt).2.1.1
section
variable {P : Program} {w : World} {K : PySem.W.Frag} {mg : Str → Option Value} {base : Heap} {C : Addr}
abbrev s_weighed : Stmt := top 76
abbrev nWe : List Str := ["_law_pool_here", "_law_maps", "_law_found", "_law_led", "_law_part"]
theorem sc_weighed : FnScope nWe ["_law_pool_here", "_law_maps"] (defScope s_weighed) := ⟨rfl, rfl, rfl, by decide +kernel, rfl, by decide +kernel, by decide +kernel⟩
theorem ok_weighed {f : Addr} {fd : FuncData} (F : Fun K "_law_weighed" "_law_weighed" s_weighed f fd) (T : Bm mg) (c_draw : Cal P w K mg base 1 "_law_draw" ["_law_pool_here", "_law_many"] spDraw) : FnOk P w K mg base CX0 2 f fd ["_law_pool_here", "_law_maps"] spWeighed := by
  refine F.ok sc_weighed (fun vs H Q E h => ?_) (fun cdv A outer s H vs Q E hr h => ?_)
  · obtain ⟨a, l, n, ms, rfl, _⟩ := h
    rfl
  · obtain ⟨a, l, n, ms, rfl, hp, la, el, mi, m1, m4, k⟩ := h
    refine ⟨_, (pss_cons (ps_set (i := 2) sc_weighed.nd rfl (Or.inl rfl) (pe_lst pa_nil))
      (pss_cons (ps_for PassesOwn.never rfl (pi_list (pv 1)) (pg_name (i := 3) sc_weighed.nd rfl (Or.inl rfl))
        (pss_one (ps_if (pt_cmpR (show OpR _ _ (rNotInD K) from op_notInD (un65 hr)) (pv 3) (pe_lc (own := [("_law_part", 4)]) rfl sc_weighed.nd (pi_list (pv 2)) (blkOk_by (N := nWe) (sc := defScope s_weighed) (by decide +kernel)) (fun _ _ _ _ _ => (pg_name (i := 4) sc_weighed.nd rfl (Or.inl rfl))) (fun _ _ _ _ _ => pts_nil)
            (fun _ _ _ _ _ => (pe_ix (show IxR _ (rIx K) from ix_seq) (pv 4) pe_int (fun _ _ => rfl)))) (by rfl))
          (pss_one (ps_expr (pe_bm PySem.F.plainAttrs_list PySem.F.slot_list_append PySem.F.type_list_append mt_append (pv 2) (pa_cons (pe_tup (pa_cons (pe_op op_add pe_int (pe_cal c_draw (hr.mono (by decide)) rfl (pa_cons (pv 0) (pa_cons pe_int pa_nil)))) (pa_cons (pv 3) pa_nil))) pa_nil))))
          pss_nil)))
      (pss_one (ps_ret (pv 2))))), ?_⟩
    refine ⟨by show 0 ≤ sizeLine; decide, fun g ng => ?_⟩
    have ga := new_ne hp ng
    have eg : (upd H g (.lst [])) g = some (.lst (rfs ([] : List Prt))) := upd_same
    have s0 := Same.put (o := .lst []) ng
    have p0 := hp.same s0
    have k0 := Keep.of (a := a) s0
    have gl : g ≠ l := fun z => by rw [z, el] at ng; cases ng
    have el0 := s0 _ _ el
    have mi0 := mi.same s0
    generalize (upd H g (.lst [])) = H0 at eg p0 k0 el0 mi0 ⊢
    refine ⟨_, rfl, l, rfl, ⟨_, SqL.of el0⟩, ?_⟩
    refine for_it (walk_list (K := K) (a := l) (xs := rfs ms)) (fun i σ H' => ∃ (v3 : Option V) (ts : List Prt), σ = [some (.ref a), some (.ref l), some (.ref g), v3, none] ∧ Keep a H H' ∧ PoolAt H' a ∧ H' l = some (.lst (rfs ms)) ∧ MapsIn n H' ms ∧ H' g = some (.lst (rfs ts)) ∧ PrtsIn n H' ts ∧ (mps ts).Nodup ∧ ts.length ≤ i ∧ (1 ≤ i → 1 ≤ ts.length))
      ⟨none, [], rfl, k0, p0, el0, mi0, eg, fun _ m => (by cases m), List.nodup_nil, Nat.le_refl _, fun h => (by omega)⟩ (fun i σ H' _ h => by obtain ⟨_, _, _, _, _, h, _⟩ := h; exact SqL.of h) ?_ ?_
    · rintro i x σ H3' H3 hi ⟨v3, ts, rfl, k3, p3, el3, mi3, eg3, pi3, nd3, lt3, ge3⟩ ⟨rfl, hx⟩
      obtain ⟨t, ht, mt, rfl⟩ := rfs_at hx
      have il := (List.getElem?_eq_some_iff.mp ht).1
      have mt3 := mi3 t mt
      refine ⟨_, rfl, _, rfl, g, rfl, ⟨_, SqL.of eg3⟩, fun D nD => ?_⟩
      have Da := new_ne p3 nD
      have gD : g ≠ D := fun z => by rw [z, nD] at eg3; cases eg3
      skip
      refine lc_list (K := K) (a := g) (xs := rfs ts) (fun j H7 => Same H3 H7 ∧ H7 D = some (.lst (rfs ((mpA ts).take j)))) ⟨Same.put nD, upd_same⟩ (fun j H' _ h => SqL.of (h.1 _ _ eg3)) ?_ ?_
      · rintro j x H4 hx ⟨s4, eD⟩
        obtain ⟨u, hu, mu, rfl⟩ := rfs_at hx
        have jl := (List.getElem?_eq_some_iff.mp hu).1
        refine ⟨rfl, yes_of ?_⟩
        refine ⟨_, rfl, .inr (.inl ⟨u.1, _, _, _, rfl, rfl, SqT.of (s4 _ _ (pi3 u mu).1), atI_nat (j := 1) (by rfl), ?_⟩)⟩
        refine ⟨_, eD, by rw [rfs_len]; exact small_len (by rw [List.length_take]; omega), Same.but s4 nD, ?_⟩
        rw [upd_same]
        have hu2 : (mpA ts)[j]? = some u.2.2 := by rw [List.getElem?_map, hu]; rfl
        rw [take_more hu2, rfs_snoc]
      · rintro H4 ⟨s4, eD⟩
        have eD : H4 D = some (.lst (rfs (mpA ts))) := by
          rw [rfs_len, show ts.length = (mpA ts).length from (List.length_map _).symm, List.take_length] at eD; exact eD
        have p4 := p3.same s4
        have pi4 := pi3.same s4
        have eg4 := s4 _ _ eg3
        have dp : Dp K H4 (.ref D) (.list ((((mpA ts).map (·.2)).map iW).map dI)) := .lst (SqL.of eD) (Tups.dp (prs_mp pi4))
        refine ⟨dI (iW t.2), _, dp_tupN (SqT.of (mt3.same s4).1), dp, sh_dI _, sh_list _, _, rfl, ?_⟩
        rw [any_dN, show (mpA ts).map (·.2) = mps ts by rw [mpA, List.map_map]; rfl]
        have k4 := k3.trans (Keep.of s4)
        by_cases c : t.2 ∈ mps ts
        · refine iteFe (by rw [decide_eq_true c]; rfl) ?_
          exact ⟨_, ts, rfl, k4, p4, s4 _ _ el3, mi3.same s4, eg4, pi4, nd3, by omega, fun _ => by
            have := List.length_pos_of_mem c
            rwa [List.length_map] at this⟩
        · refine iteTe (by rw [decide_eq_false c]; rfl) ?_
          refine ⟨_, rfl, .inl ⟨rfl, _, SqL.of eg4⟩, _, rfl, a, 4, rfl, p4, by decide, by decide, fun r o r0 r1 ho => ?_⟩
          obtain ⟨p5, k5⟩ := drawn p4 (Keep.refl a H4) ho
          have pi5 := pi4.keep k5 p4
          have eg5 := k5 _ _ eg4 ga
          have el5 := k5 _ _ (s4 _ _ el3) la
          have mi5 := (mi3.same s4).keep k5 p4
          have k05 := k4.trans k5
          generalize (upd H4 a o) = H5 at p5 pi5 eg5 el5 mi5 k05 ⊢
          obtain ⟨r, rfl⟩ := nat_of r0
          refine ⟨_, _, rfl, rfl, _, rfl, by show 2 ≤ sizeLine; decide, fun b nb => ?_⟩
          have sb := Same.put (o := .tup [.int ((1 : Int) + (r : Int)), .ref t.1]) nb
          have eb : (upd H5 b (.tup [.int ((1 : Int) + (r : Int)), .ref t.1])) b = some (.tup [.int ((1 : Int) + (r : Int)), .ref t.1]) := upd_same
          have p6 := p5.same sb
          have pi6 := pi5.same sb
          have eg6 := sb _ _ eg5
          have el6 := sb _ _ el5
          have mi6 := mi5.same sb
          have k06 := k05.trans (Keep.of sb)
          generalize (upd H5 b (.tup [.int ((1 : Int) + (r : Int)), .ref t.1])) = H6 at eb p6 pi6 eg6 el6 mi6 k06 ⊢
          have pb : PrtAt n H6 (b, (1 + r, t)) := ⟨by rw [eb, show ((1 : Int) + (r : Int)) = ((1 + r : Nat) : Int) by omega], mi6 t mt, by show 1 ≤ 1 + r; omega, by show 1 + r ≤ 4; omega⟩
          refine ⟨g, _, _, rfl, rfl, eg6, by rw [rfs_len]; exact small_len (by omega), ?_⟩
          refine ⟨_, ts ++ [(b, (1 + r, t))], rfl, k06.but ng, p6.other (Ne.symm ga), by rw [upd_ne (Ne.symm gl)]; exact el6, mi6.lstU eg6, by rw [upd_same, rfs_snoc], (pi6.snoc pb).lstU eg6, ?_, by rw [List.length_append]; show ts.length + 1 ≤ i + 1; omega, fun _ => by rw [List.length_append]; show 1 ≤ ts.length + 1; omega⟩
          rw [mps, List.map_append, List.nodup_append]
          refine ⟨nd3, by simp, fun x hx y hy => ?_⟩
          simp at hy
          subst hy
          exact fun z => c (z ▸ hx)
    · rintro σ H3 ⟨v3, ts, rfl, k3, p3, el3, mi3, eg3, pi3, nd3, lt3, ge3⟩
      rw [rfs_len] at lt3 ge3
      exact ⟨_, rfl, k g ts H3 k3 p3 ga eg3 pi3 nd3 (ge3 m1) (by omega)⟩
end
end KG
set_option Elab.async false
set_option linter.all false
set_option maxRecDepth 100000
set_option maxHeartbeats 4000000
namespace KG
open PySem L2
theorem mpA_mps (ts : List Prt) : (mpA ts).map (·.2) = mps ts := by rw [mpA, List.map_map]; rfl
theorem mps_snoc {ts : List Prt} {t : Prt} (nd : (mps ts).Nodup) (c : t.2.2.2 ∉ mps ts) : (mps (ts ++ [t])).Nodup := by
  rw [mps, List.map_append, List.nodup_append]
  refine ⟨nd, by simp, fun x hx y hy => ?_⟩
  simp at hy
  subst hy
  exact fun z => c (z ▸ hx)
def spDrawParts : Sp := fun vs H Q _ => ∃ (a : Addr) (n : Nat), vs = [.ref a, .int (n : Int), .int 4] ∧ PoolAt H a ∧ 1 ≤ n ∧ n ≤ 8 ∧ spPrts Q H a n
section
variable {P : Program} {w : World} {K : PySem.W.Frag} {mg : Str → Option Value} {base : Heap} {C : Addr}
abbrev s_draw_parts : Stmt := top 71
abbrev nDP : List Str := ["_law_pool_here", "_law_size", "_law_most", "_law_found", "_law_maps", "_law_k", "_law_led"]
theorem sc_draw_parts : FnScope nDP ["_law_pool_here", "_law_size", "_law_most"] (defScope s_draw_parts) := ⟨rfl, rfl, rfl, by decide +kernel, rfl, by decide +kernel, by decide +kernel⟩
theorem ok_draw_parts {f : Addr} {fd : FuncData} (F : Fun K "_law_draw_parts" "_law_draw_parts" s_draw_parts f fd) (T : Bm mg) (c_draw : Cal P w K mg base 1 "_law_draw" ["_law_pool_here", "_law_many"] spDraw)
    (c_map : Cal P w K mg base 3 "_law_map" ["_law_pool_here", "_law_size"] spMap) : FnOk P w K mg base CX0 4 f fd ["_law_pool_here", "_law_size", "_law_most"] spDrawParts := by
  refine F.ok sc_draw_parts (fun vs H Q E h => ?_) (fun cdv A outer s H vs Q E hr h => ?_)
  · obtain ⟨a, n, rfl, _⟩ := h
    rfl
  · obtain ⟨a, n, rfl, hp, n1, n8, k⟩ := h
    refine ⟨_, (pss_cons (ps_set (i := 3) sc_draw_parts.nd rfl (Or.inl rfl) (pe_lst pa_nil))
      (pss_cons (ps_set (i := 4) sc_draw_parts.nd rfl (Or.inl rfl) (pe_lst pa_nil))
      (pss_cons (ps_for PassesOwn.never rfl (pi_range1 (by rfl) T.n_range (pa_cons (pe_op op_add pe_int (pe_cal c_draw (hr.mono (by decide)) rfl (pa_cons (pv 0) (pa_cons (pv 2) pa_nil)))) pa_nil)) (pg_name (i := 5) sc_draw_parts.nd rfl (Or.inl rfl))
        (pss_cons (ps_set (i := 6) sc_draw_parts.nd rfl (Or.inl rfl) (pe_cal c_map (hr.mono (by decide)) rfl (pa_cons (pv 0) (pa_cons (pv 1) pa_nil))))
          (pss_one (ps_if (pt_cmpR (show OpR _ _ (rNotInD K) from op_notInD (un65 hr)) (pv 6) (pv 4) (by rfl))
            (pss_cons (ps_expr (pe_bm PySem.F.plainAttrs_list PySem.F.slot_list_append PySem.F.type_list_append mt_append (pv 4) (pa_cons (pv 6) pa_nil)))
              (pss_one (ps_expr (pe_bm PySem.F.plainAttrs_list PySem.F.slot_list_append PySem.F.type_list_append mt_append (pv 3) (pa_cons (pe_tup (pa_cons (pe_op op_add pe_int (pe_cal c_draw (hr.mono (by decide)) rfl (pa_cons (pv 0) (pa_cons pe_int pa_nil)))) (pa_cons (pv 6) pa_nil))) pa_nil)))))
            pss_nil))))
      (pss_one (ps_ret (pv 3)))))), ?_⟩
    refine ⟨by show 0 ≤ sizeLine; decide, fun g ng => ?_⟩
    have ga := new_ne hp ng
    have eg : (upd H g (.lst [])) g = some (.lst (rfs ([] : List Prt))) := upd_same
    have p0 := hp.new (o := .lst []) ng
    have k0 := Keep.of (a := a) (Same.put (o := .lst []) ng)
    generalize (upd H g (.lst [])) = H0 at eg p0 k0 ⊢
    refine ⟨by show 0 ≤ sizeLine; decide, fun m nm => ?_⟩
    have ma := new_ne p0 nm
    have gm : g ≠ m := fun z => by rw [z, nm] at eg; cases eg
    have em : (upd H0 m (.lst [])) m = some (.lst (rfs (mpA ([] : List Prt)))) := upd_same
    have eg1 : (upd H0 m (.lst [])) g = some (.lst (rfs ([] : List Prt))) := by rw [upd_ne gm]; exact eg
    have p1 := p0.new (o := .lst []) nm
    have k1 := k0.trans (Keep.of (Same.put (o := .lst []) nm))
    have nmH := free_of k0 ma nm
    generalize (upd H0 m (.lst [])) = H1 at em eg1 p1 k1 ⊢
    refine ⟨_, rfl, _, rfl, a, 4, rfl, p1, by decide, by decide, fun c o c0 c1 ho => ?_⟩
    obtain ⟨p2, k2⟩ := drawn p1 k1 ho
    have em2 : (upd H1 a o) m = some (.lst (rfs (mpA ([] : List Prt)))) := by rw [upd_ne ma]; exact em
    have eg2 : (upd H1 a o) g = some (.lst (rfs ([] : List Prt))) := by rw [upd_ne ga]; exact eg1
    generalize (upd H1 a o) = H2 at em2 eg2 p2 k2 ⊢
    obtain ⟨c, rfl⟩ := nat_of c0
    refine ⟨_, _, rfl, rfl, _, rfl, by omega, by omega, ?_⟩
    rw [show ((1 : Int) + (c : Int)) = ((1 + c : Nat) : Int) by omega, Int.toNat_natCast]
    refine for_range (fun i σ H' => ∃ (v5 v6 : Option V) (ts : List Prt), σ = [some (.ref a), some (.int (n : Int)), some (.int 4), some (.ref g), some (.ref m), v5, v6] ∧ Keep a H H' ∧ PoolAt H' a ∧ H' g = some (.lst (rfs ts)) ∧ H' m = some (.lst (rfs (mpA ts))) ∧ PrtsIn n H' ts ∧ (mps ts).Nodup ∧ ts.length ≤ i ∧ (1 ≤ i → 1 ≤ ts.length))
      ⟨none, none, [], rfl, k2, p2, eg2, em2, fun _ m => (by cases m), List.nodup_nil, Nat.le_refl _, fun h => (by omega)⟩ ?_ ?_
    · rintro i σ H3 hi ⟨v5, v6, ts, rfl, k3, p3, eg3, em3, pi3, nd3, lt3, ge3⟩
      refine ⟨_, rfl, _, rfl, a, n, rfl, p3, n1, n8, fun t ws H4 k34 p4 mt => ?_⟩
      have k4 := k3.trans k34
      have eg4 := k34 _ _ eg3 ga
      have em4 := k34 _ _ em3 ma
      have pi4 := pi3.keep k34 p3
      have dp : Dp K H4 (.ref m) (.list ((((mpA ts).map (·.2)).map iW).map dI)) := .lst (SqL.of em4) (Tups.dp (prs_mp pi4))
      refine ⟨_, rfl, _, rfl, dI (iW ws), _, dp_tupN (SqT.of mt.1), dp, sh_dI _, sh_list _, _, rfl, ?_⟩
      rw [any_dN, mpA_mps]
      by_cases cc : ws ∈ mps ts
      · refine iteFe (by rw [decide_eq_true cc]; rfl) ?_
        exact ⟨_, _, ts, rfl, k4, p4, eg4, em4, pi4, nd3, by omega, fun _ => by
          have := List.length_pos_of_mem cc
          rwa [List.length_map] at this⟩
      · refine iteTe (by rw [decide_eq_false cc]; rfl) ?_
        refine ⟨_, rfl, .inl ⟨rfl, _, SqL.of em4⟩, _, rfl, m, _, _, rfl, rfl, em4, by rw [rfs_len, List.length_map]; exact small_len (by omega), ?_⟩
        have em5 : (upd H4 m (.lst (rfs (mpA ts) ++ [.ref t]))) m = some (.lst (rfs (mpA ts ++ [(t, ws)]))) := by rw [upd_same, rfs_snoc]
        have eg5 : (upd H4 m (.lst (rfs (mpA ts) ++ [.ref t]))) g = some (.lst (rfs ts)) := by rw [upd_ne gm]; exact eg4
        have p5 : PoolAt (upd H4 m (.lst (rfs (mpA ts) ++ [.ref t]))) a := p4.other (Ne.symm ma)
        have k5 : Keep a H (upd H4 m (.lst (rfs (mpA ts) ++ [.ref t]))) := k4.but nmH
        have pi5 := pi4.lstU (o := .lst (rfs (mpA ts) ++ [.ref t])) em4
        have mt5 : MapAt n (upd H4 m (.lst (rfs (mpA ts) ++ [.ref t]))) t ws := ⟨by rw [upd_ne (fun z => by have := mt.1; rw [z, em4] at this; cases this)]; exact mt.1, mt.2⟩
        generalize (upd H4 m (.lst (rfs (mpA ts) ++ [.ref t]))) = H5 at em5 eg5 p5 k5 pi5 mt5 ⊢
        refine ⟨_, rfl, .inl ⟨rfl, _, SqL.of eg5⟩, _, rfl, a, 4, rfl, p5, by decide, by decide, fun r o2 r0 r1 ho2 => ?_⟩
        obtain ⟨p6, k56⟩ := drawn p5 (Keep.refl a H5) ho2
        have em6 := k56 _ _ em5 ma
        have eg6 := k56 _ _ eg5 ga
        have pi6 := pi5.keep k56 p5
        have mt6 := mt5.keep k56 p5
        have k6 := k5.trans k56
        generalize (upd H5 a o2) = H6 at p6 em6 eg6 pi6 mt6 k6 ⊢
        obtain ⟨r, rfl⟩ := nat_of r0
        refine ⟨_, _, rfl, rfl, _, rfl, by show 2 ≤ sizeLine; decide, fun b nb => ?_⟩
        have sb := Same.put (o := .tup [.int ((1 : Int) + (r : Int)), .ref t]) nb
        have eb : (upd H6 b (.tup [.int ((1 : Int) + (r : Int)), .ref t])) b = some (.tup [.int ((1 : Int) + (r : Int)), .ref t]) := upd_same
        have p7 := p6.same sb
        have pi7 := pi6.same sb
        have eg7 := sb _ _ eg6
        have em7 := sb _ _ em6
        have mt7 := mt6.same sb
        have k7 := k6.trans (Keep.of sb)
        generalize (upd H6 b (.tup [.int ((1 : Int) + (r : Int)), .ref t])) = H7 at eb p7 pi7 eg7 em7 mt7 k7 ⊢
        have pb : PrtAt n H7 (b, (1 + r, (t, ws))) := ⟨by rw [eb, show ((1 : Int) + (r : Int)) = ((1 + r : Nat) : Int) by omega], mt7, by show 1 ≤ 1 + r; omega, by show 1 + r ≤ 4; omega⟩
        refine ⟨g, _, _, rfl, rfl, eg7, by rw [rfs_len]; exact small_len (by omega), ?_⟩
        refine ⟨_, _, ts ++ [(b, (1 + r, (t, ws)))], rfl, k7.but ng, p7.other (Ne.symm ga), by rw [upd_same, rfs_snoc], by rw [upd_ne (Ne.symm gm), em7, mpA, mpA, List.map_append]; rfl, (pi7.snoc pb).lstU eg7, mps_snoc nd3 cc, by rw [List.length_append]; show ts.length + 1 ≤ i + 1; omega, fun _ => by rw [List.length_append]; show 1 ≤ ts.length + 1; omega⟩
    · rintro σ H3 ⟨v5, v6, ts, rfl, k3, p3, eg3, em3, pi3, nd3, lt3, ge3⟩
      exact ⟨_, rfl, k g ts H3 k3 p3 ga eg3 pi3 nd3 (ge3 (by omega)) (by omega)⟩
end
end KG
set_option Elab.async false
set_option linter.all false
set_option maxRecDepth 100000
set_option maxHeartbeats 4000000
namespace KG
open PySem L2
def rTO (K : PySem.W.Frag) : List V → Hp → VK → Prop := fun xs H Q => ∃ p ys, xs = [.ref p] ∧ ((SqL K H p ys ∧ ∀ l, H l = none → Q (.ref l) (upd H l (.tup ys))) ∨ (SqT K H p ys ∧ Q (.ref p) H))
theorem spPrts.on {Q : VK} {H H' : Hp} {a : Addr} {n : Nat} (h : spPrts Q H a n) (k : Keep a H H') : spPrts Q H' a n := fun l ts H2 k2 => h l ts H2 (k.trans k2)
def spGather : Sp := fun vs H Q _ => ∃ (a : Addr) (n : Nat), vs = [.ref a, .int (n : Int)] ∧ PoolAt H a ∧ 1 ≤ n ∧ n ≤ 8 ∧ spPrts Q H a n
section
variable {P : Program} {w : World} {K : PySem.W.Frag} {mg : Str → Option Value} {base : Heap} {C : Addr}
abbrev s_gather : Stmt := top 74
abbrev nGP : List Str := ["_law_pool_here", "_law_size", "_law_way", "_law_maps", "_law_halves", "_law_k", "_law_turn", "_law_s"]
theorem sc_gather : FnScope nGP ["_law_pool_here", "_law_size"] (defScope s_gather) := ⟨rfl, rfl, rfl, by decide +kernel, rfl, by decide +kernel, by decide +kernel⟩
theorem ok_gather {f : Addr} {fd : FuncData} (F : Fun K "_law_gather_parts" "_law_gather_parts" s_gather f fd) (T : Bm mg) (c_draw : Cal P w K mg base 1 "_law_draw" ["_law_pool_here", "_law_many"] spDraw)
    (c_turn : Cal P w K mg base 2 "_law_turned_about" ["_law_pool_here", "_law_things"] spTurnAbout) (c_dp : Cal P w K mg base 4 "_law_draw_parts" ["_law_pool_here", "_law_size", "_law_most"] spDrawParts)
    (c_ring : Cal P w K mg base 3 "_law_ring" ["_law_pool_here", "_law_size"] spRing) (c_we : Cal P w K mg base 2 "_law_weighed" ["_law_pool_here", "_law_maps"] spWeighed)
    (c_ih : Cal P w K mg base 3 "_law_in_half" ["_law_pool_here", "_law_halves", "_law_half", "_law_s"] spInHalf) : FnOk P w K mg base CX0 5 f fd ["_law_pool_here", "_law_size"] spGather := by
  refine F.ok sc_gather (fun vs H Q E h => ?_) (fun cdv A outer s H vs Q E hr h => ?_)
  · obtain ⟨a, n, rfl, _⟩ := h
    rfl
  · obtain ⟨a, n, rfl, hp, n1, n8, k⟩ := h
    refine ⟨_, (pss_cons (ps_set (i := 2) sc_gather.nd rfl (Or.inl rfl) (pe_cal c_draw (hr.mono (by decide)) rfl (pa_cons (pv 0) (pa_cons pe_int pa_nil))))
      (pss_cons (ps_if (pt_cmpR op_gt (pv 2) pe_int (nomark _))
        (pss_one (ps_ret (pe_cal c_dp (hr.mono (by decide)) rfl (pa_cons (pv 0) (pa_cons (pv 1) (pa_cons pe_int pa_nil))))))
        pss_nil)
      (pss_cons (ps_set (i := 3) sc_gather.nd rfl (Or.inl rfl) (pe_lst pa_nil))
      (pss_cons (ps_if (pt_cmpR op_eq (pv 2) pe_int (nomark _))
        (pss_one (ps_set (i := 3) sc_gather.nd rfl (Or.inl rfl) (pe_cal c_ring (hr.mono (by decide)) rfl (pa_cons (pv 0) (pa_cons (pv 1) pa_nil)))))
        (pss_one (ps_if (pt_cmpR op_eq (pv 2) pe_int (nomark _))
          (pss_one (ps_setLc (i := 3) (own := [("_law_k", 5)]) rfl sc_gather.nd rfl rfl (sw_true rfl rfl rfl (by decide +kernel)) (pi_range1 (by rfl) T.n_range (pa_cons (pe_op op_add pe_int (pe_cal c_draw (hr.mono (by decide)) rfl (pa_cons (pv 0) (pa_cons pe_int pa_nil)))) pa_nil)) (blkOk_by (N := nGP) (sc := defScope s_gather) (by decide +kernel)) (fun _ _ _ _ _ => (pg_name (i := 5) sc_gather.nd rfl (Or.inl rfl))) (fun _ _ _ _ _ => pts_nil)
            (fun _ _ _ _ _ => (pe_callTy (show CallR _ (.type "tuple") (rTO K) from call_tuple_of) (by rfl) T.n_tuple (by decide +kernel) (pa_cons (pe_cal c_turn (hr.mono (by decide)) rfl (pa_cons (pv 0) (pa_cons (pe_listRg rfl (by rfl) T.n_list (prg_1 (by rfl) T.n_range (pv 1))) pa_nil))) pa_nil)))))
          (pss_cons (ps_set (i := 4) sc_gather.nd rfl (Or.inr rfl) (pe_lc (own := [("_law_s", 7)]) rfl sc_gather.nd (pi_range1 (by rfl) T.n_range (pa_cons (pv 1) pa_nil)) (blkOk_by (N := nGP) (sc := defScope s_gather) (by decide +kernel)) (fun _ _ _ _ _ => (pg_name (i := 7) sc_gather.nd rfl (Or.inl rfl))) (fun _ _ _ _ _ => pts_nil) (fun _ _ _ _ _ => (pe_cal c_draw (hr.mono (by decide)) rfl (pa_cons (pv 0) (pa_cons pe_int pa_nil))))))
            (pss_one (ps_for PassesOwn.never rfl (pi_range1 (by rfl) T.n_range (pa_cons (pe_op op_add pe_int (pe_cal c_draw (hr.mono (by decide)) rfl (pa_cons (pv 0) (pa_cons pe_int pa_nil)))) pa_nil)) (pg_name (i := 5) sc_gather.nd rfl (Or.inl rfl))
              (pss_cons (ps_set (i := 6) sc_gather.nd rfl (Or.inr rfl) (pe_cal c_draw (hr.mono (by decide)) rfl (pa_cons (pv 0) (pa_cons pe_int pa_nil))))
                (pss_one (ps_expr (pe_bm PySem.F.plainAttrs_list PySem.F.slot_list_append PySem.F.type_list_append mt_append (pv 3) (pa_cons (pe_callTy call_tuple_of (by rfl) T.n_tuple (by decide +kernel) (pa_cons (pe_lc (own := [("_law_s", 7)]) rfl sc_gather.nd (pi_range1 (by rfl) T.n_range (pa_cons (pv 1) pa_nil)) (blkOk_by (N := nGP) (sc := defScope s_gather) (by decide +kernel)) (fun _ _ _ _ _ => (pg_name (i := 7) sc_gather.nd rfl (Or.inl rfl))) (fun _ _ _ _ _ => pts_nil)
                  (fun _ _ _ _ _ => (pe_cal c_ih (hr.mono (by decide)) rfl (pa_cons (pv 0) (pa_cons (pv 4) (pa_cons (pe_op op_xor (pe_ix (show IxR _ (rIxL K) from ix_list) (pv 4) (pv 7) (fun _ _ => rfl)) (pv 6)) (pa_cons (pv 7) pa_nil))))))) pa_nil)) pa_nil)))))))))))
      (pss_one (ps_ret (pe_cal c_we (hr.mono (by decide)) rfl (pa_cons (pv 0) (pa_cons (pv 3) pa_nil))))))))), ?_⟩
    refine ⟨_, rfl, a, 6, rfl, hp, by decide, by decide, fun y o y0 y1 ho => ?_⟩
    obtain ⟨p1, k1⟩ := drawn hp (Keep.refl a H) ho
    generalize (upd H a o) = H1 at p1 k1 ⊢
    refine ⟨_, rfl, _, _, rfl, rfl, _, rfl, iteA ?_ ?_⟩
    · exact ⟨_, rfl, _, rfl, a, n, rfl, p1, n1, n8, k.on k1⟩
    refine ⟨by show 0 ≤ sizeLine; decide, fun g ng => ?_⟩
    have ga := new_ne p1 ng
    have eg : (upd H1 g (.lst [])) g = some (.lst (rfs ([] : List (Addr × List Nat)))) := upd_same
    have p2 := p1.new (o := .lst []) ng
    have k2 := k1.trans (Keep.of (Same.put (o := .lst []) ng))
    have ngH := free_of k1 ga ng
    generalize (upd H1 g (.lst [])) = H2 at eg p2 k2 ⊢
    refine ⟨_, rfl, rfl, _, rfl, iteA ?_ ?_⟩
    · refine ⟨_, rfl, _, rfl, a, n, rfl, p2, n1, n8, fun l ts H3 k3 p3 la el mi t1 t4 => ?_⟩
      exact ⟨_, rfl, _, rfl, a, l, n, ts, rfl, p3, la, el, mi, t1, t4, k.on (k2.trans k3)⟩
    refine ⟨_, rfl, rfl, _, rfl, iteA ?_ ?_⟩
    · refine ⟨_, rfl, a, 3, rfl, p2, by decide, by decide, fun c o c0 c1 ho => ?_⟩
      obtain ⟨p3, k3⟩ := drawn p2 k2 ho
      generalize (upd H2 a o) = H3 at p3 k3 ⊢
      obtain ⟨c, rfl⟩ := nat_of c0
      refine ⟨_, _, rfl, rfl, _, rfl, by omega, by omega, fun D nD => ?_⟩
      rw [show ((1 : Int) + (c : Int)) = ((1 + c : Nat) : Int) by omega, Int.toNat_natCast]
      have Da := new_ne p3 nD
      have nDH := free_of k3 Da nD
      refine lc_range (fun i H' => Keep a H H' ∧ PoolAt H' a ∧ ∃ ms : List (Addr × List Nat), H' D = some (.lst (rfs ms)) ∧ MapsIn n H' ms ∧ ms.length = i) ⟨k3.trans (Keep.of (Same.put nD)), p3.new nD, [], upd_same, fun _ m => (by cases m), rfl⟩ ?_ ?_
      · rintro i H4 hi ⟨k4, p4, ms, eD, mi, lm⟩
        refine ⟨rfl, yes_of ?_⟩
        refine ⟨_, rfl, _, rfl, (n : Int), rfl, RgOk.of_le (by omega) (by omega) (by omega) (by omega), fun l nl => ?_⟩
        rw [rg_cV]
        have s5 := Same.put (o := .lst (cV (List.range n))) nl
        have el : (upd H4 l (.lst (cV (List.range n)))) l = some (.lst (cV (List.range n))) := upd_same
        have p5 := p4.same s5
        have k5 := k4.trans (Keep.of s5)
        have eD5 := s5 _ _ eD
        have mi5 := mi.same s5
        generalize (upd H4 l (.lst (cV (List.range n)))) = H5 at el p5 k5 eD5 mi5 ⊢
        refine ⟨a, l, _, rfl, p5, by rw [List.length_map, List.length_range]; omega, el, fun r ys H6 k56 p6 ra nr er pm => ?_⟩
        obtain ⟨us, rfl, pu⟩ := perm_map pm
        have mu := isMap_perm (isMap_range n) pu
        have eD6 := k56 _ _ eD5 Da
        have mi6 := mi5.keep k56 p5
        have k6 := k5.trans k56
        refine ⟨r, _, rfl, .inl ⟨SqL.of er, fun t nt => ?_⟩⟩
        have st := Same.put (o := .tup (cV us)) nt
        have et : MapAt n (upd H6 t (.tup (cV us))) t us := ⟨upd_same, mu⟩
        refine ⟨_, st _ _ eD6, by rw [rfs_len]; exact small_len (by omega), (k6.trans (Keep.of st)).but nDH, (p6.same st).other (Ne.symm Da), ms ++ [(t, us)], by rw [upd_same, rfs_snoc], ((mi6.same st).snoc et).lstU (st _ _ eD6), by rw [List.length_append, lm]; rfl⟩
      · rintro H4 ⟨k4, p4, ms, eD, mi, lm⟩
        exact ⟨_, rfl, _, rfl, a, D, n, ms, rfl, p4, Da, eD, mi, by omega, by omega, k.on k4⟩
    · refine ⟨_, rfl, _, rfl, by omega, by omega, fun D nD => ?_⟩
      rw [Int.toNat_natCast]
      have Da := new_ne p2 nD
      have gD : g ≠ D := fun z => by rw [z, nD] at eg; cases eg
      have nDH := free_of k2 Da nD
      refine lc_range (fun i H' => Keep a H H' ∧ PoolAt H' a ∧ H' g = some (.lst (rfs ([] : List (Addr × List Nat)))) ∧ ∃ hs : List Nat, H' D = some (.lst (cV hs)) ∧ hs.length = i) ⟨k2.trans (Keep.of (Same.put nD)), p2.new nD, by rw [upd_ne gD]; exact eg, [], upd_same, rfl⟩ ?_ ?_
      · rintro i H3 hi ⟨k3, p3, eg3, hs, eD, lh⟩
        refine ⟨rfl, yes_of ?_⟩
        refine ⟨_, rfl, a, 2, rfl, p3, by decide, by decide, fun x o x0 x1 ho => ?_⟩
        obtain ⟨p4, k4⟩ := drawn p3 k3 ho
        have eg4 : (upd H3 a o) g = some (.lst (rfs ([] : List (Addr × List Nat)))) := by rw [upd_ne ga]; exact eg3
        have eD4 : (upd H3 a o) D = some (.lst (cV hs)) := by rw [upd_ne Da]; exact eD
        generalize (upd H3 a o) = H4 at p4 k4 eg4 eD4 ⊢
        obtain ⟨x, rfl⟩ := nat_of x0
        exact ⟨_, eD4, by rw [List.length_map]; exact small_len (by omega), k4.but nDH, p4.other (Ne.symm Da), by rw [upd_ne gD]; exact eg4, hs ++ [x], by rw [upd_same, cV_snoc], by rw [List.length_append, lh]; rfl⟩
      rintro H3 ⟨k3, p3, eg3, hs, eD, lh⟩
      refine ⟨_, rfl, a, 3, rfl, p3, by decide, by decide, fun c o c0 c1 ho => ?_⟩
      obtain ⟨p4, k4⟩ := drawn p3 k3 ho
      have eg4 : (upd H3 a o) g = some (.lst (rfs ([] : List (Addr × List Nat)))) := by rw [upd_ne ga]; exact eg3
      have eD4 : (upd H3 a o) D = some (.lst (cV hs)) := by rw [upd_ne Da]; exact eD
      generalize (upd H3 a o) = H4 at p4 k4 eg4 eD4 ⊢
      obtain ⟨c, rfl⟩ := nat_of c0
      refine ⟨_, _, rfl, rfl, _, rfl, by omega, by omega, ?_⟩
      rw [show ((1 : Int) + (c : Int)) = ((1 + c : Nat) : Int) by omega, Int.toNat_natCast]
      refine for_range (fun i σ H' => ∃ (v2 v5 v6 : Option V) (ms : List (Addr × List Nat)), σ = [some (.ref a), some (.int (n : Int)), v2, some (.ref g), some (.ref D), v5, v6, none] ∧ Keep a H H' ∧ PoolAt H' a ∧ H' D = some (.lst (cV hs)) ∧ H' g = some (.lst (rfs ms)) ∧ MapsIn n H' ms ∧ ms.length = i)
        ⟨_, none, none, [], rfl, k4, p4, eD4, eg4, fun _ m => (by cases m), rfl⟩ ?_ ?_
      · rintro i σ H5 hi ⟨v2, v5, v6, ms, rfl, k5, p5, eD5, eg5, mi, lm⟩
        refine ⟨_, rfl, a, 2, rfl, p5, by decide, by decide, fun x o x0 x1 ho => ?_⟩
        obtain ⟨p6, k56⟩ := drawn p5 (Keep.refl a H5) ho
        have k6 := k5.trans k56
        have eD6 := k56 _ _ eD5 Da
        have eg6 := k56 _ _ eg5 ga
        have mi6 := mi.keep k56 p5
        generalize (upd H5 a o) = H6 at p6 k6 eD6 eg6 mi6 ⊢
        refine ⟨_, rfl, .inl ⟨rfl, _, SqL.of eg6⟩, _, rfl, _, rfl, by omega, by omega, fun B nB => ?_⟩
        rw [Int.toNat_natCast]
        have Ba := new_ne p6 nB
        have gB : g ≠ B := fun z => by rw [z, nB] at eg6; cases eg6
        have DB : D ≠ B := fun z => by rw [z, nB] at eD6; cases eD6
        refine lc_range (fun j H' => Keep a H6 H' ∧ PoolAt H' a ∧ ∃ ws : List Nat, H' B = some (.lst (cV ws)) ∧ ws.length = j ∧ ∀ x ∈ ws, x < n) ⟨Keep.of (Same.put nB), p6.new nB, [], upd_same, rfl, fun _ m => (by cases m)⟩ ?_ ?_
        · rintro j H7 hj ⟨k7, p7, ws, eB, lw, bw⟩
          rw [Int.zero_add]
          refine ⟨rfl, yes_of ?_⟩
          have gj : hs[j]? = some (hs[j]'(by omega)) := List.getElem?_eq_getElem _
          refine ⟨_, rfl, _, rfl, _, rfl, _, rfl, D, _, _, _, rfl, rfl, SqL.of (k7 _ _ eD6 Da), atI_nat (cV_at gj), _, rfl, _, _, rfl, rfl, _, rfl, a, D, hs, _, j, n, rfl, p7, Da, k7 _ _ eD6 Da, lh, hj, n8, fun r H8 k8 p8 rn => ?_⟩
          have k68 : Keep a H6 H8 := k7.trans k8
          have eB8 := k8 _ _ eB Ba
          refine ⟨_, eB8, by rw [List.length_map]; exact small_len (by omega), k68.but nB, p8.other (Ne.symm Ba), ws ++ [r], by rw [upd_same, cV_snoc], by rw [List.length_append, lw]; rfl, fun x m => ?_⟩
          rcases List.mem_append.mp m with m | m
          · exact bw x m
          · rw [List.mem_singleton.mp m]; exact rn
        · rintro H7 ⟨k7, p7, ws, eB, lw, bw⟩
          refine ⟨B, _, rfl, .inl ⟨SqL.of eB, fun t nt => ?_⟩⟩
          have st := Same.put (o := .tup (cV ws)) nt
          have et : MapAt n (upd H7 t (.tup (cV ws))) t ws := ⟨upd_same, lw, bw⟩
          have k07 := (k6.trans k7).trans (Keep.of st)
          have eg8 := st _ _ (k7 _ _ eg6 ga)
          have eD8 := st _ _ (k7 _ _ eD6 Da)
          have mi8 := (mi6.keep k7 p6).same st
          have p8 := p7.same st
          generalize (upd H7 t (.tup (cV ws))) = H8 at et k07 eg8 eD8 mi8 p8 ⊢
          refine ⟨g, _, _, rfl, rfl, eg8, by rw [rfs_len]; exact small_len (by omega), ?_⟩
          exact ⟨_, _, _, ms ++ [(t, ws)], rfl, k07.but ngH, p8.other (Ne.symm ga), by rw [upd_ne (Ne.symm gD)]; exact eD8, by rw [upd_same, rfs_snoc], (mi8.snoc et).lstU eg8, by rw [List.length_append, lm]; rfl⟩
      · rintro σ H5 ⟨v2, v5, v6, ms, rfl, k5, p5, eD5, eg5, mi, lm⟩
        exact ⟨_, rfl, _, rfl, a, g, n, ms, rfl, p5, ga, eg5, mi, by omega, by omega, k.on k5⟩
end
end KG
set_option Elab.async false
set_option linter.all false
set_option maxRecDepth 100000
set_option maxHeartbeats 4000000
namespace KG
open PySem L2
theorem low_self {d : Int} (h : 0 < d) : lowT d d = 1 ∧ lowB d d = 1 := by
  obtain ⟨h1, h2⟩ := low_ratio (a := d) (b := d) (c := 1) (d := 1) (by omega) (by decide) (by omega)
  rw [h1, h2]
  exact ⟨by decide +kernel, by decide +kernel⟩
def spWholeP (C : Addr) : Sp := fun vs H Q _ => ∃ (t W : Nat), vs = [.int (t : Int), .int (W : Int)] ∧ 1 ≤ t ∧ t ≤ W ∧ W ≤ 1000 ∧ ∀ (x : V) (H' : Hp), Same H H' → Num C H' x (t : Int) (W : Int) → Q x H'
/-- a given part: a number over W, as a share or an int -/
def GivAt (C : Addr) (n W : Nat) (H : Hp) (t : Prt) : Prop := ∃ x, H t.1 = some (.tup [x, .ref t.2.2.1]) ∧ Num C H x (t.2.1 : Int) (W : Int) ∧ MapAt n H t.2.2.1 t.2.2.2 ∧ 1 ≤ t.2.1
theorem GivAt.same {C : Addr} {n W : Nat} {H H' : Hp} {t : Prt} (h : GivAt C n W H t) (s : Same H H') : GivAt C n W H' t := let ⟨x, h1, h2, h3, h4⟩ := h; ⟨x, s _ _ h1, h2.same s, h3.same s, h4⟩
theorem Num.lstU {C : Addr} {H : Hp} {x : V} {S D : Int} {l : Addr} {ys : List V} {o : HO} (h : Num C H x S D) (e : H l = some (.lst ys)) : Num C (upd H l o) x S D := by
  rcases h with h | ⟨a, dx, rfl, h⟩
  · exact .inl h
  · exact .inr ⟨a, dx, rfl, by rw [upd_ne (fun z => by rw [z, e] at h; cases h)]; exact h⟩
theorem GivAt.lstU {C : Addr} {n W : Nat} {H : Hp} {t : Prt} {l : Addr} {ys : List V} {o : HO} (h : GivAt C n W H t) (e : H l = some (.lst ys)) : GivAt C n W (upd H l o) t := by
  obtain ⟨x, h1, h2, h3, h4⟩ := h
  exact ⟨x, by rw [upd_ne (fun z => by rw [z, e] at h1; cases h1)]; exact h1, h2.lstU e, ⟨by rw [upd_ne (fun z => by have := h3.1; rw [z, e] at this; cases this)]; exact h3.1, h3.2⟩, h4⟩
abbrev topsOf (ts : List Prt) : List Nat := ts.map fun t => t.2.1
def spGiven (C : Addr) : Sp := fun vs H Q _ => ∃ (a l : Addr) (n : Nat) (ts : List Prt), vs = [.ref a, .ref l] ∧ PoolAt H a ∧ l ≠ a ∧ H l = some (.lst (rfs ts)) ∧ PrtsIn n H ts ∧ 1 ≤ ts.length ∧ ts.length ≤ 4 ∧
  ∀ (g : Addr) (gs : List Prt) (H' : Hp), Keep a H H' → PoolAt H' a → H' g = some (.tup (rfs gs)) → gs.map (·.2) = ts.map (·.2) → (∀ u ∈ gs, GivAt C n (topsOf ts).sum H' u) → Q (.ref g) H'
section
variable {P : Program} {w : World} {K : PySem.W.Frag} {mg : Str → Option Value} {base : Heap} {C B : Addr}
abbrev s_whole : Stmt := top 65
theorem sc_whole : FnScope ["_law_top", "_law_whole_here"] ["_law_top", "_law_whole_here"] (defScope s_whole) := ⟨rfl, rfl, rfl, by decide +kernel, rfl, by decide +kernel, by decide +kernel⟩
theorem ok_whole {f : Addr} {fd : FuncData} (F : Fun K "_law_whole" "_law_whole" s_whole f fd) (m : MkT P w K mg base C B) : FnOk P w K mg base CX0 6 f fd ["_law_top", "_law_whole_here"] (spWholeP C) := by
  refine F.ok sc_whole (fun vs H Q E h => ?_) (fun cdv A outer s H vs Q E hr h => ?_)
  · obtain ⟨t, W, rfl, _⟩ := h
    rfl
  · obtain ⟨t, W, rfl, t1, tW, W1, k⟩ := h
    refine ⟨_, (pss_cons (ps_if (pt_cmpR op_eq (pv 0) pe_int (nomark _))
        (pss_one (ps_ret pe_int))
        pss_nil)
      (pss_cons (ps_if (pt_cmpR op_eq (pv 0) (pv 1) (nomark _))
        (pss_one (ps_ret pe_int))
        pss_nil)
      (pss_one (ps_ret (pe_share2 m (hr.mono (by decide)) rfl (pa_cons (pv 0) (pa_cons (pv 1) pa_nil))))))), ?_⟩
    refine ⟨_, rfl, rfl, _, rfl, iteFe (decide_eq_false (by rw [V.int.injEq]; omega)) ?_⟩
    refine ⟨_, rfl, _, rfl, rfl, _, rfl, ite2 (fun z => ?_) (fun z => ?_)⟩
    · have z := of_decide_eq_true z
      rw [V.int.injEq] at z
      obtain rfl : t = W := by omega
      obtain ⟨h1, h2⟩ := low_self (d := (t : Int)) (by omega)
      exact k _ H (Same.refl H) (.inl ⟨by rw [h1], h2⟩)
    · refine ⟨_, rfl, _, rfl, ?_⟩
      exact mk_ok (K := K) (by omega) (nsm W1) fun x dx H' s e => k _ H' s (.inr ⟨x, dx, rfl, e⟩)
end
end KG
set_option Elab.async false
set_option linter.all false
set_option maxRecDepth 100000
set_option maxHeartbeats 4000000
namespace KG
open PySem L2
theorem tops_le : ∀ {ts : List Prt} {n : Nat} {H : Hp}, PrtsIn n H ts → (topsOf ts).sum ≤ 4 * ts.length ∧ ∀ t ∈ ts, t.2.1 ≤ (topsOf ts).sum
  | [], _, _, _ => ⟨Nat.le_refl _, fun _ m => by cases m⟩
  | t :: ts, n, H, h => by
    obtain ⟨h1, h2⟩ := tops_le (ts := ts) (fun u m => h u (List.mem_cons_of_mem _ m))
    have ht := (h t List.mem_cons_self).2.2
    rw [topsOf, List.map_cons, List.sum_cons, List.length_cons]
    refine ⟨?_, fun u m => ?_⟩
    · have : ((ts.map fun t => t.2.1)).sum ≤ 4 * ts.length := h1
      omega
    · rcases List.mem_cons.mp m with rfl | m
      · omega
      · have : u.2.1 ≤ (ts.map fun t => t.2.1).sum := h2 u m
        omega
theorem GivAt.new {C : Addr} {n W : Nat} {H : Hp} {t : Prt} {D : Addr} {o : HO} (h : GivAt C n W H t) (nD : H D = none) : GivAt C n W (upd H D o) t := h.same (Same.put nD)
section
variable {P : Program} {w : World} {K : PySem.W.Frag} {mg : Str → Option Value} {base : Heap} {C B : Addr}
abbrev s_given : Stmt := top 72
abbrev nGi : List Str := ["_law_pool_here", "_law_parts", "_law_whole_here", "_law_top", "_law_led"]
theorem sc_given : FnScope nGi ["_law_pool_here", "_law_parts"] (defScope s_given) := ⟨rfl, rfl, rfl, by decide +kernel, rfl, by decide +kernel, by decide +kernel⟩
/-- what holds while the given parts are made -/
def PvG (C : Addr) (a D : Addr) (n W : Nat) (ts : List Prt) (H : Hp) (i : Nat) (H' : Hp) : Prop := Keep a H H' ∧ PoolAt H' a ∧ ∃ gs : List Prt, H' D = some (.lst (rfs gs)) ∧ gs.map (·.2) = (ts.take i).map (·.2) ∧ ∀ u ∈ gs, GivAt C n W H' u
theorem PvG.step {C a D : Addr} {n W : Nat} {ts : List Prt} {H H' H2 : Hp} {i : Nat} {t : Prt} {x : V} (h : PvG C a D n W ts H i H') (ht : ts[i]? = some t) (Da : D ≠ a) (nD : H D = none) (l4 : ts.length ≤ 4) (pt : PrtAt n H' t) (s : Same H' H2) (hx : Num C H2 x (t.2.1 : Int) (W : Int)) :
    ∀ p, H2 p = none → ∃ acc, (upd H2 p (.tup [x, .ref t.2.2.1])) D = some (.lst acc) ∧ acc.length < sizeLine ∧ PvG C a D n W ts H (i + 1) (upd (upd H2 p (.tup [x, .ref t.2.2.1])) D (.lst (acc ++ [.ref p]))) := by
  intro p np
  obtain ⟨k1, p1, gs, eD, qg, ig⟩ := h
  have sp := Same.put (o := .tup [x, .ref t.2.2.1]) np
  have eD2 := sp _ _ (s _ _ eD)
  have lg : gs.length ≤ 4 := by
    have := congrArg List.length qg
    rw [List.length_map, List.length_map, List.length_take] at this
    omega
  refine ⟨rfs gs, eD2, by rw [rfs_len]; exact small_len (by omega), (k1.trans (Keep.of (s.trans sp))).but nD, ((p1.same s).same sp).other (Ne.symm Da), gs ++ [(p, t.2)], by rw [upd_same, rfs_snoc], ?_, fun u m => ?_⟩
  · rw [List.map_append, qg, take_more ht, List.map_append]
    rfl
  · rcases List.mem_append.mp m with m | m
    · exact (((ig u m).same s).same sp).lstU eD2
    · rw [List.mem_singleton.mp m]
      exact GivAt.lstU ⟨x, upd_same, hx.same sp, ((pt.2.1.same s).same sp), pt.2.2.1⟩ eD2
theorem ok_given {f : Addr} {fd : FuncData} (F : Fun K "_law_given" "_law_given" s_given f fd) (T : Bm mg) (m : MkT P w K mg base C B) (c_draw : Cal P w K mg base 1 "_law_draw" ["_law_pool_here", "_law_many"] spDraw)
    (c_whole : Cal P w K mg base 6 "_law_whole" ["_law_top", "_law_whole_here"] (spWholeP C)) : FnOk P w K mg base CX0 7 f fd ["_law_pool_here", "_law_parts"] (spGiven C) := by
  refine F.ok sc_given (fun vs H Q E h => ?_) (fun cdv A outer s H vs Q E hr h => ?_)
  · obtain ⟨a, l, n, ts, rfl, _⟩ := h
    rfl
  · obtain ⟨a, l, n, ts, rfl, hp, la, el, pi, t1, t4, k⟩ := h
    refine ⟨_, (pss_cons (ps_set (i := 2) sc_given.nd rfl (Or.inr rfl) (pe_callB (cr_sum rfl) (by rfl) T.n_sum PyProof.Rows.boot_sum (pa_cons (pe_lc (own := [("_law_top", 3), ("_law_led", 4)]) (g := gTup K 2 (gCons (gName 3) (gCons (gName 4) gNil))) rfl sc_given.nd (pi_list (pv 1)) (blkOk_by (N := nGi) (sc := defScope s_given) (by decide +kernel)) (fun _ _ _ _ _ => (pg_tup (by rfl) (pgs_cons (pg_name (i := 3) sc_given.nd rfl (Or.inl rfl)) (pgs_cons (pg_name (i := 4) sc_given.nd rfl (Or.inl rfl)) pgs_nil)))) (fun _ _ _ _ _ => pts_nil) (fun _ _ _ _ _ => (pv 3))) pa_nil)))
      (pss_cons (ps_if (pt_cmpR op_eq (pe_cal c_draw (hr.mono (by decide)) rfl (pa_cons (pv 0) (pa_cons pe_int pa_nil))) pe_int (nomark _))
        (pss_one (ps_ret (pe_callTy call_tuple_of (by rfl) T.n_tuple (by decide +kernel) (pa_cons (pe_lc (own := [("_law_top", 3), ("_law_led", 4)]) (g := gTup K 2 (gCons (gName 3) (gCons (gName 4) gNil))) rfl sc_given.nd (pi_list (pv 1)) (blkOk_by (N := nGi) (sc := defScope s_given) (by decide +kernel)) (fun _ _ _ _ _ => (pg_tup (by rfl) (pgs_cons (pg_name (i := 3) sc_given.nd rfl (Or.inl rfl)) (pgs_cons (pg_name (i := 4) sc_given.nd rfl (Or.inl rfl)) pgs_nil)))) (fun _ _ _ _ _ => pts_nil)
          (fun _ _ _ _ _ => (pe_tup (pa_cons (pe_cal c_whole (hr.mono (by decide)) rfl (pa_cons (pv 3) (pa_cons (pv 2) pa_nil))) (pa_cons (pv 4) pa_nil))))) pa_nil))))
        pss_nil)
      (pss_one (ps_ret (pe_callTy call_tuple_of (by rfl) T.n_tuple (by decide +kernel) (pa_cons (pe_lc (own := [("_law_top", 3), ("_law_led", 4)]) (g := gTup K 2 (gCons (gName 3) (gCons (gName 4) gNil))) rfl sc_given.nd (pi_list (pv 1)) (blkOk_by (N := nGi) (sc := defScope s_given) (by decide +kernel)) (fun _ _ _ _ _ => (pg_tup (by rfl) (pgs_cons (pg_name (i := 3) sc_given.nd rfl (Or.inl rfl)) (pgs_cons (pg_name (i := 4) sc_given.nd rfl (Or.inl rfl)) pgs_nil)))) (fun _ _ _ _ _ => pts_nil)
          (fun _ _ _ _ _ => (pe_tup (pa_cons (show PE _ _ (tMake C (spSI K C B) [] E0 (tCons (tVar 3) (tCons (tVar 2) tNil))) from pe_share2 m (hr.mono (by decide)) rfl (pa_cons (pv 3) (pa_cons (pv 2) pa_nil))) (pa_cons (pv 4) pa_nil))))) pa_nil)))))), ?_⟩
    obtain ⟨tl, tle⟩ := tops_le pi
    refine ⟨_, rfl, l, rfl, ⟨_, SqL.of el⟩, fun D0 nD0 => ?_⟩
    refine lc_list (K := K) (a := l) (xs := rfs ts) (fun i H' => Same H H' ∧ H' D0 = some (.lst (cV ((topsOf ts).take i)))) ⟨Same.put nD0, upd_same⟩ (fun i H' _ h => SqL.of (h.1 _ _ el)) ?_ ?_
    · rintro i x H' hx ⟨s1, eD⟩
      obtain ⟨t, ht, mt, rfl⟩ := rfs_at hx
      have il := (List.getElem?_eq_some_iff.mp ht).1
      refine ⟨t.1, _, rfl, SqT.of (s1 _ _ (pi t mt).1), rfl, _, _, rfl, _, _, rfl, rfl, rfl, yes_of ?_⟩
      refine ⟨_, rfl, _, eD, by rw [List.length_map, List.length_take]; exact small_len (by omega), Same.but s1 nD0, ?_⟩
      have hh : (topsOf ts)[i]? = some t.2.1 := by rw [List.getElem?_map, ht]; rfl
      rw [upd_same, take_more hh, cV_snoc]
    · rintro H1 ⟨s1, eD⟩
      have eD : H1 D0 = some (.lst (cV (topsOf ts))) := by
        rw [rfs_len, show ts.length = (topsOf ts).length from (List.length_map _).symm, List.take_length] at eD; exact eD
      rw [cV_ints] at eD
      have p1 := hp.same s1
      have el1 := s1 _ _ el
      have pi1 := pi.same s1
      have k1 := Keep.of (a := a) s1
      refine ⟨D0, _, rfl, SqL.of eD, ?_⟩
      rw [sum_ints]
      generalize hW : (topsOf ts).sum = W at tl tle k ⊢
      have W1 : 1 ≤ W := by
        have m0 : ts[0]? = some (ts[0]'(by omega)) := List.getElem?_eq_getElem _
        have mm := List.mem_of_getElem? m0
        have := tle _ mm
        have := (pi _ mm).2.2.1
        omega
      refine ⟨_, rfl, a, 3, rfl, p1, by decide, by decide, fun y o y0 y1 ho => ?_⟩
      obtain ⟨p2, k12⟩ := drawn p1 (Keep.refl a H1) ho
      have k2 := k1.trans k12
      have el2 := k12 _ _ el1 la
      have pi2 := pi1.keep k12 p1
      generalize (upd H1 a o) = H2 at p2 k2 el2 pi2 ⊢
      have fin : ∀ D, D ≠ a → H D = none → ∀ H', PvG C a D n W ts H (rfs ts).length H' → ∃ x, V.ref D = V.ref x ∧ ∃ ys, (SqL K H' x ys ∧ ∀ l, H' l = none → Q (.ref l) (upd H' l (.tup ys))) ∨ (SqT K H' x ys ∧ Q (.ref x) H') := by
        intro D Da nDH H' ⟨k3, p3, gs, eDD, qg, ig⟩
        rw [rfs_len, List.take_length] at qg
        refine ⟨D, rfl, _, .inl ⟨SqL.of eDD, fun g ng => ?_⟩⟩
        have sg := Same.put (o := .tup (rfs gs)) ng
        exact k g gs _ (k3.trans (Keep.of sg)) (p3.same sg) upd_same qg fun u m => (ig u m).same sg
      refine ⟨rfl, _, rfl, iteA ?_ ?_⟩
      · refine ⟨_, rfl, l, rfl, ⟨_, SqL.of el2⟩, fun D nD => ?_⟩
        have Da := new_ne p2 nD
        have nDH := free_of k2 Da nD
        refine lc_list (K := K) (a := l) (xs := rfs ts) (fun i H' => Same H2 H' ∧ PvG C a D n W ts H i H') ⟨Same.put nD, k2.trans (Keep.of (Same.put nD)), p2.new nD, [], upd_same, rfl, fun _ m => by cases m⟩ (fun i H' _ h => SqL.of (h.1 _ _ el2)) ?_ ?_
        · rintro i x H' hx ⟨s1, pv⟩
          obtain ⟨t, ht, mt, rfl⟩ := rfs_at hx
          refine ⟨t.1, _, rfl, SqT.of (s1 _ _ (pi2 t mt).1), rfl, _, _, rfl, _, _, rfl, rfl, rfl, yes_of ?_⟩
          refine ⟨_, rfl, _, rfl, t.2.1, W, rfl, (pi t mt).2.2.1, tle t mt, by omega, fun x H3 s3 hn => ?_⟩
          refine ⟨_, rfl, by show 2 ≤ sizeLine; decide, fun p np => ?_⟩
          obtain ⟨acc, e1, e2, e3⟩ := pv.step ht Da nDH t4 ((pi2 t mt).same s1) s3 hn p np
          exact ⟨acc, e1, e2, Same.but (fun b u e => Same.put np _ _ (s3 _ _ (s1 _ _ e))) nD, e3⟩
        · rintro H' ⟨_, pv⟩
          obtain ⟨x, e, ys, q⟩ := fin D Da nDH H' pv
          exact ⟨x, ys, by rw [e], q⟩
      · refine ⟨_, rfl, l, rfl, ⟨_, SqL.of el2⟩, fun D nD => ?_⟩
        have Da := new_ne p2 nD
        have nDH := free_of k2 Da nD
        refine lc_list (K := K) (a := l) (xs := rfs ts) (fun i H' => Same H2 H' ∧ PvG C a D n W ts H i H') ⟨Same.put nD, k2.trans (Keep.of (Same.put nD)), p2.new nD, [], upd_same, rfl, fun _ m => by cases m⟩ (fun i H' _ h => SqL.of (h.1 _ _ el2)) ?_ ?_
        · rintro i x H' hx ⟨s1, pv⟩
          obtain ⟨t, ht, mt, rfl⟩ := rfs_at hx
          refine ⟨t.1, _, rfl, SqT.of (s1 _ _ (pi2 t mt).1), rfl, _, _, rfl, _, _, rfl, rfl, rfl, yes_of ?_⟩
          refine ⟨_, rfl, _, rfl, ?_⟩
          intro x dx hx hd ne
          refine si_ok hx hd ne (by omega) (nsm (by omega)) fun H3 s3 ex => ?_
          refine ⟨rfl, _, rfl, by show 2 ≤ sizeLine; decide, fun p np => ?_⟩
          obtain ⟨acc, e1, e2, e3⟩ := pv.step ht Da nDH t4 ((pi2 t mt).same s1) s3 (.inr ⟨x, dx, rfl, ex⟩) p np
          exact ⟨acc, e1, e2, Same.but (fun b u e => Same.put np _ _ (s3 _ _ (s1 _ _ e))) nD, e3⟩
        · rintro H' ⟨_, pv⟩
          obtain ⟨x, e, ys, q⟩ := fin D Da nDH H' pv
          exact ⟨x, ys, by rw [e], q⟩
end
end KG
set_option linter.all false
/-! words by breadth: the machine, its mirror on other keys, what its answers mean; pure -/
namespace Dw
section
variable {σ : Type} [DecidableEq σ]
def ex1 (f : σ → Nat → σ) (x : σ) (w : List Nat) (L : List (σ × List Nat)) (a : Nat) : List (σ × List Nat) := if f x a ∈ L.map (·.1) then L else L ++ [(f x a, w ++ [a])]
def exs (f : σ → Nat → σ) (k : Nat) (x : σ) (w : List Nat) (L : List (σ × List Nat)) : List (σ × List Nat) := (List.range k).foldl (ex1 f x w) L
def go (f : σ → Nat → σ) (lone : σ → Bool) (k : Nat) : Nat → Nat → List (σ × List Nat) → Option (List Nat)
  | 0, _, _ => none
  | n + 1, i, L => match L[i]? with
    | none => none
    | some e => if lone e.1 then some e.2 else go f lone k n (i + 1) (exs f k e.1 e.2 L)
/-- what holds of all keys -/
structure Ok (f : σ → Nat → σ) (k : Nat) (P : σ → Prop) (x0 : σ) (L : List (σ × List Nat)) : Prop where
  p : ∀ e ∈ L, P e.1
  nd : (L.map (·.1)).Nodup
  w : ∀ e ∈ L, e.1 = e.2.foldl f x0 ∧ ∀ a ∈ e.2, a < k
end
/-! the same on other keys -/
end Dw
set_option linter.all false
/-! ascending sets of states, their masks; pairs that can be led together -/
namespace Dw
/-! masks -/
theorem sub_len : ∀ (S pl : List Nat), S.Nodup → (∀ x ∈ S, x ∈ pl) → S.length ≤ pl.length
  | [], _, _, _ => Nat.zero_le _
  | a :: r, pl, nd, h => by
    rw [List.nodup_cons] at nd
    have ma := h a List.mem_cons_self
    have ih := sub_len r (pl.erase a) nd.2 fun x m => (List.mem_erase_of_ne (fun e => nd.1 (by rw [← e]; exact m))).mpr (h x (List.mem_cons_of_mem _ m))
    rw [List.length_erase_of_mem ma] at ih
    have := List.length_pos_of_mem ma
    rw [List.length_cons]
    omega
theorem few_below (N : Nat) (X : List Nat) (nd : X.Nodup) (h : ∀ x ∈ X, x < N) : X.length ≤ N := by
  have := sub_len X (List.range N) nd fun x m => List.mem_range.mpr (h x m)
  rwa [List.length_range] at this
theorem nodup_map {α : Type} {P : α → Prop} {g : α → Nat} (inj : ∀ x y, P x → P y → g x = g y → x = y) : ∀ {X : List α}, X.Nodup → (∀ x ∈ X, P x) → (X.map g).Nodup
  | [], _, _ => List.nodup_nil
  | a :: X, nd, h => by
    rw [List.nodup_cons] at nd
    rw [List.map_cons, List.nodup_cons]
    refine ⟨fun m => ?_, nodup_map inj nd.2 fun x mx => h x (List.mem_cons_of_mem _ mx)⟩
    obtain ⟨y, my, e⟩ := List.mem_map.mp m
    exact nd.1 (inj _ _ (h y (List.mem_cons_of_mem _ my)) (h a List.mem_cons_self) e ▸ my)
/-! lone: one state -/
def lone (x : List Nat) : Bool := x.length == 1
end Dw
set_option linter.all false
/-! pairs that can be led together -/
namespace Dw
abbrev half (a b : Nat) : Nat × Nat := (min a b, max a b)
structure AbleS (n k : Nat) (m : Nat → Nat → Nat) (S : List (Nat × Nat)) : Prop where
  rk : ∀ (A : List (Nat × Nat)) (p : Nat × Nat) (B : List (Nat × Nat)), S = A ++ p :: B → ∃ a, a < k ∧ ((half (m a p.1) (m a p.2)).1 = (half (m a p.1) (m a p.2)).2 ∨ half (m a p.1) (m a p.2) ∈ A)
  cl : ∀ p : Nat × Nat, p.1 < p.2 → p.2 < n → p ∉ S → ∀ a, a < k → (half (m a p.1) (m a p.2)).1 ≠ (half (m a p.1) (m a p.2)).2 ∧ half (m a p.1) (m a p.2) ∉ S
theorem half_eq {a b : Nat} : (half a b).1 = (half a b).2 ↔ a = b := by
  show min a b = max a b ↔ a = b
  omega
end Dw
set_option Elab.async false
set_option linter.all false
set_option maxRecDepth 100000
set_option maxHeartbeats 4000000
namespace KG
open PySem L2
theorem hu_of {k : Nat} {A : Around} (r : Room k A) : A.units + 1 < cLine := by
  have := r.un
  omega
abbrev mW (ws : List Nat) : Nat → Nat := fun s => ws.getD s 0
theorem mW_lt {n : Nat} {ws : List Nat} (h : IsMap n ws) (s : Nat) (hs : s < n) : mW ws s < n := by
  have g : ws[s]? = some (ws[s]'(by rw [h.1]; exact hs)) := List.getElem?_eq_getElem _
  show ws.getD s 0 < n
  rw [List.getD, g]
  exact h.2 _ (List.mem_of_getElem? g)
/-- the map of a part -/
abbrev mA (wss : List (List Nat)) : Nat → Nat → Nat := fun a => mW (wss.getD a [])
theorem mA_lt {n : Nat} {wss : List (List Nat)} (mw : ∀ ws ∈ wss, IsMap n ws) (a s : Nat) (ha : a < wss.length) (hs : s < n) : mA wss a s < n := by
  have m : wss.getD a [] ∈ wss := by
    rw [List.getD, List.getElem?_eq_getElem ha]
    exact List.getElem_mem _
  exact mW_lt (mw _ m) s hs
end KG
set_option Elab.async false
set_option linter.all false
set_option maxRecDepth 100000
set_option maxHeartbeats 4000000
/-! {k: v}, one pair, the key a tuple of ints and texts -/
namespace L2
open PySem PySem.Spec PyProof.Rows
def tDispT1 (tk tv : TE) : TE := fun σ H Q => ∀ D, H D = none → tk σ (upd H D (.dT [])) fun x H1 => tv σ H1 fun y H2 => ∃ k c, x = .ref c ∧ H2 c = some (.tup (k.map kV)) ∧ H2 D = some (.dT []) ∧ Q (.ref D) (upd H2 D (.dT (putK [] k y)))
theorem pe_dispT1 {X : Cx} {pos : Pos} {k v : Expr} {tk tv : TE} (hu : X.A.units + 1 < cLine) (hk : PE X k tk) (hv : PE X v tv) : PE X (.Dict [some k] [v] pos) (tDispT1 tk tv) := by
  refine ⟨fun pins s σ H Q I q => ?_⟩
  have hn := I.hok.fresh (Nat.le_refl s.heap.objs.size)
  have I1 := I.laid (a := s.heap.objs.size) (o := .dT []) (h' := s.heap.push { cls := .type "dict", data := .dict #[] }) (t' := s.toks) (fun _ _ q => Heap.get?_push_of_some _ q) (Nat.le_refl _) (dt_empty s.heap I.big)
  have q1 := q _ hn
  have hsh : (evalEachOpt [some k] X.env).zip ((evalEach [v] X.env).map fun v => do let x ← v; standAt pos; pure x) = (pairTrees [some k] [v] X.env pos).map fun p => (some p.1, p.2) := zip_pairTrees [some k] [v] X.env pos rfl rfl
  rw [arm_eval_Dict, hsh, dictDisplay_pairs (pairTrees [some k] [v] X.env pos) (by intro e; cases e) (by show 1 < 17; decide)]
  refine wpAny_bind (wpAny_standAt (wpAny_bind ?_))
  unfold subDict
  refine wpAny_bind (wpAny_alloc ?_)
  refine wpAny_bind (wpAny_holding ?_)
  rw [if_pos (show (pairTrees [some k] [v] X.env pos).length ≤ 15 from by show 1 ≤ 15; decide)]
  refine wpAny_bind (pairTrees_cons_walk (thn (hk.run pins _ σ _ _ I1 q1) fun u s1 ⟨x, H1, I2, rx, q2⟩ => thn (hv.run pins s1 σ H1 _ I2 q2) fun w2 s2 ⟨y, H2, I3, ry, q3⟩ => pairTrees_nil_walk ?_))
  obtain ⟨ks, c, rfl, ec, eD, q4⟩ := q3
  refine wpAny_holding ?_
  refine wpAny_bind ?_
  rw [List.forIn_cons]
  refine wpAny_bind (wpAny_bind (putT_set hu I3 eD (by decide) ec rx ry fun z' I4 => wpAny_pure ?_))
  dsimp only
  rw [List.forIn_nil]
  exact wpAny_pure (wpAny_pure (wpAny_pure (wpAny_pure ⟨.ref s.heap.objs.size, _, I4, rfl, q4⟩)))
end L2
set_option Elab.async false
set_option linter.all false
set_option maxRecDepth 100000
set_option maxHeartbeats 4000000
/-! enumerate(t), t a tuple -/
namespace PySem
open AutoSeq1 (wpAny_loadPart')
theorem meets_enumerate_newT (l : Addr) (items : Array Value) (n : Nat) (dct : Option Addr) (sl : Array (Option Value)) :
    Meets (Builtin.«enumerate.__new__» ⟨[.type "enumerate", .ref l], []⟩) (fun _ R s => s.heap.get? l = some { cls := .type "tuple", dict := dct, data := .seq items n, slots := sl } ∧
      R (.ok (.ret (.ref (s.heap.push { cls := .type "tuple_iterator", data := .fields #[.ref l, .int 0 0] }).objs.size)))
        { s with heap := (s.heap.push { cls := .type "tuple_iterator", data := .fields #[.ref l, .int 0 0] }).push { cls := .type "enumerate", data := .fields #[.none, .bool false, .ref s.heap.objs.size, rawInt 0, .none, .none] } }) :=
  .of_wp fun prog w A R s h => by
    obtain ⟨hp, g, d, tk, os⟩ := s; obtain ⟨hl, h⟩ := h
    have hsub := sub_enumerate
    have hL : Heap.IsTuple (Shared.heap ⟨hp, g, d, tk, os⟩) l items := ⟨_, hl, rfl, n, rfl⟩
    wp_walk using wpAny_loadPart' hl
    refine wpAny_stack_any fun st => wpAny_pure ?_
    split
    · rename_i c _ _ _ _ _
      cases (c == Value.type "enumerate")
      · wp_walk using wpAny_loadPart' hl, wpAny_pyIter_tuple hL
        exact ⟨_, rfl, h⟩
      · wp_walk using wpAny_loadPart' hl, wpAny_pyIter_tuple hL
        exact ⟨_, rfl, h⟩
    · wp_walk using wpAny_loadPart' hl, wpAny_pyIter_tuple hL
      exact ⟨_, rfl, h⟩
section
variable {prog : Program} {w : World} {A : Around} {E : Value → Shared → Prop} {s : Shared}
theorem call_enumerate_tuple {l : Addr} {items : Array Value} {Q : Value → Shared → Prop} (hL : s.heap.IsTuple l items)
    (h : ∀ h', IsEnum h' (s.heap.objs.size + 1) s.heap.objs.size 0 .none → h'.IsTupleIter s.heap.objs.size l 0 → h'.objs.size = s.heap.objs.size + 2 →
      (∀ b o, s.heap.get? b = some o → h'.get? b = some o) → Q (.ref (s.heap.objs.size + 1)) { s with heap := h' }) :
    wpAny (model prog w) A (call (.type "enumerate") [.ref l]) Q E s := by
  obtain ⟨⟨c, dct, dt, sl⟩, hl, hc, n, hd⟩ := hL
  replace hc : c = .type "tuple" := hc
  replace hd : dt = .seq items n := hd
  subst hc hd
  refine callType_new F.called_enumerate (by decide) (F.typeCall_enumerate_1 _) (F.newCall_enumerate_1 _) (fun obj => F.args_object_init_2 obj _) F.entry_enumerate_new
    (meets_enumerate_newT l items n dct sl) ⟨hl, ?_⟩
  have hz : (s.heap.push { cls := .type "tuple_iterator", data := .fields #[.ref l, .int 0 0] }).objs.size = s.heap.objs.size + 1 := Heap.size_push ..
  show _ ∧ _
  rw [hz]
  have he : IsEnum ((s.heap.push { cls := .type "tuple_iterator", data := .fields #[.ref l, .int 0 0] }).push
      { cls := .type "enumerate", data := .fields #[.none, .bool false, .ref s.heap.objs.size, rawInt 0, .none, .none] }) (s.heap.objs.size + 1) s.heap.objs.size 0 .none := by
    have := Heap.get?_push_size (s.heap.push { cls := .type "tuple_iterator", data := .fields #[.ref l, .int 0 0] })
      (o := { cls := .type "enumerate", data := .fields #[.none, .bool false, .ref s.heap.objs.size, rawInt 0, .none, .none] }) rfl
    rw [hz] at this; exact this
  refine ⟨⟨_, he, rfl⟩, h _ he ⟨_, Heap.get?_push_of_some _ (Heap.get?_push_size _ rfl), rfl, rfl⟩ (by rw [Heap.size_push, hz]) fun b o x => Heap.get?_push_of_some _ (Heap.get?_push_of_some _ x)⟩
end
end PySem
namespace L2
open PySem PySem.Spec PyProof.Rows
/-- the tuple at a, each item in a new pair -/
def IteT (K : PySem.W.Frag) (a : Addr) : It :=
  ⟨fun i H => ∃ (xs : List V) (x : V), SqT K H a xs ∧ xs[i]? = some x, fun i H v H' => ∃ T x, v = .ref T ∧ H T = none ∧ H' = upd H T (.tup [.int (i : Nat), x]) ∧ ∀ xs, SqT K H a xs → xs[i]? = some x, fun i H => ∃ xs : List V, SqT K H a xs ∧ xs.length ≤ i⟩
theorem turn_enumT {P : Program} {w : World} {K : PySem.W.Frag} {elts : List Expr} {kk : Nat} {tpos : Pos} (a e it : Addr) :
    Turn P w K (.Tuple elts kk tpos) (IteT K a) [e, it] e (fun i h => (∃ old, IsEnum h e it ((i : Nat) : Int) old) ∧ h.IsTupleIter it a i ∧ e ≠ it) where
  mem := by simp
  obj := fun i h st b hb => by
    obtain ⟨⟨old, he⟩, ⟨o, ho, hc, hd⟩, _⟩ := st
    have e' : b = e ∨ b = it := by simpa using hb
    rcases e' with z | z
    · rw [z]; exact ⟨_, he, fun v q => nomatch q⟩
    · rw [z]; exact ⟨o, ho, fun v q => by rw [hd] at q; cases q⟩
  keep := fun i h h' st k => let ⟨⟨old, he⟩, hi, hne⟩ := st; ⟨⟨old, k e (by simp) _ he⟩, hi.at fun o q => k it (by simp) o q, hne⟩
  item := by
    intro X hP hw hK hc i pins s σ H E I hf st hg
    subst hP hw hK
    obtain ⟨⟨old, he⟩, hit, hne⟩ := st
    obtain ⟨xs, x, hq, hx⟩ := hg
    obtain ⟨its, rv, p, hz⟩ := I.tuple hq
    obtain ⟨u, hu, ru⟩ := rv.get hx
    have hel : e < s.heap.objs.size := Heap.lt_size he
    have hil : it < s.heap.objs.size := by obtain ⟨_, q, _⟩ := hit; exact Heap.lt_size q
    have p : s.heap.IsTuple a its.toArray := p
    have hil2 : i < its.toArray.size := by
      have := (List.getElem?_eq_some_iff.mp hu).1
      simpa using this
    have hai : a ≠ it := fun z => by
      obtain ⟨o, e1, c1, _⟩ := p
      obtain ⟨o2, e2, c2, _⟩ := hit
      rw [z, e2] at e1
      cases e1
      rw [c2] at c1
      exact absurd (Value.type.inj c1) (by decide)
    have hae : e ≠ a := fun z => by
      obtain ⟨o, e1, c1, _⟩ := p
      rw [← z] at e1
      have e2 : s.heap.get? e = _ := he
      rw [e2] at e1
      cases e1
      exact absurd (Value.type.inj c1) (by decide)
    refine wpAny_pyNext_enum_itemD (PySem.Draws.tuple (A := X.A.in1) (by exact I.ok.hd hc) it a hai its.toArray) he ⟨hit, p⟩ hil2 hne (by simp [hne, hae]) fun x2 h' tk hx2 ho st' hT hsz hk => ?_
    have ex2 : x2 = u := by
      have h1 : its[i]? = some x2 := by simpa using hx2
      rw [hu] at h1
      exact (Option.some.inj h1).symm
    subst ex2
    obtain ⟨hit', _⟩ := st'
    refine ⟨_, rfl, wpAny_letOwnedTupleGo_enum (s := { s with heap := h', toks := tk + 1 }) ho fun h'' he' sb => ?_⟩
    have hT2 : h''.get? s.heap.objs.size = some { cls := .type "tuple", data := .seq #[.int i tk, x2] } := (sb.2 _ (Nat.ne_of_gt hel)).trans hT
    have new : ObjOk X.prog X.w (upd H s.heap.objs.size (.tup [.int (i : Nat), x])) h'' s.heap.objs.size (.tup [.int (i : Nat), x]) :=
      ⟨by show 2 ≤ sizeLine; decide, [.int i tk, x2], .cons ⟨_, rfl⟩ (.cons ru .nil), ⟨_, hT2, rfl, _, rfl⟩⟩
    have I1 : Inv X pins σ (upd H s.heap.objs.size (.tup [.int (i : Nat), x])) { s with heap := h'', toks := tk + 1 } :=
      I.turnedNew (ch := [e, it]) (fun b ob hb q => (sb.2 b (fun z => hb (by simp [z]))).trans (hk b ob (fun z => hb (by simp [z])) (fun z => hb (by simp [z])) q)) hf (Nat.le_refl _) new
    refine ⟨.ref s.heap.objs.size, _, I1, rfl, ⟨_, x, rfl, I.hok.fresh (Nat.le_refl _), rfl, fun ys hy => by rw [I.tuple_inj hy hq]; exact hx⟩, ⟨⟨x2, ?_⟩, hit'.at fun o q => (sb.2 it (Ne.symm hne)).trans q, hne⟩, fun b hb => ?_⟩
    · have e1 : ((i + 1 : Nat) : Int) = (i : Int) + 1 := by omega
      rw [e1]; exact he'
    · have hb' : b < s.heap.objs.size := by
        have e' : b = e ∨ b = it := by simpa using hb
        rcases e' with z | z
        · rw [z]; exact hel
        · rw [z]; exact hil
      rw [upd_ne (Nat.ne_of_lt hb')]
      exact (hf b hb).1
  done := by
    intro X hP hw hK hc i pins s σ H E I hf st hg
    subst hP hw hK
    obtain ⟨⟨old, he⟩, hit, hne⟩ := st
    obtain ⟨xs, hq, hx⟩ := hg
    obtain ⟨its, rv, p, hz⟩ := I.tuple hq
    obtain ⟨f0, f1, f2, f3, f4, f5⟩ := hf it (by simp)
    have hl := rv.length
    have p : s.heap.IsTuple a its.toArray := p
    have hh : X.A.in1.handled = none := by exact I.ok.hd hc
    have hT : s.TypeIs (.ref e) "enumerate" := ⟨_, he, rfl⟩
    unfold pyNext
    refine wpAny_bind (wpAny_attempt (wpAny_callSpecial?_slot (name := Str.ofString "__next__") hT F.slot_enumerate_next
      (wpAny_call_entry F.slot_enumerate_next hT F.entry_enumerate_next ?_ (F.args_enumerate_next_1 _))))
    show wpAny _ _ (field (.ref e) 2 >>= _) _ _ _
    refine wpAny_bind (wpAny_field he rfl (x := .ref it) rfl ?_)
    refine wpAny_bind (wpAny_nextOf_tuple_end hh hit p (by simp; omega) fun h' x he' hx' => ?_)
    obtain ⟨o, ho, hc'⟩ := hx'
    refine wpAny_bind (wpAny_isInstance (T := "StopIteration") (b := true) ⟨o, ho, hc'⟩ isSubtype_stop ?_)
    exact wpAny_pure ⟨rfl, I.turned (t' := s.toks) (fun b o hb q => he' b o hb q) f0 f1 f3 f4 f5⟩
  self := fun A i s Q E st h => let ⟨⟨_, he⟩, _⟩ := st; wpAny_pyIter_enum he h
def iEnumT (K : PySem.W.Frag) (ta : TA) : TI := fun σ H R => ta σ H fun vs H1 => ∃ a xs, vs = [.ref a] ∧ SqT K H1 a xs ∧ R (IteT K a) H1
theorem pi_enumT {X : Cx} {e : Expr} {ta : TA} {p pos tpos : Pos} {elts : List Expr} {kk : Nat} (hg : Gl X "enumerate") (hm : X.mg "enumerate" = none) (ha : PA X [e] ta) (hs : starEach [e] X.env = [(false, eval e X.env)] := by rfl) :
    PI X (.Tuple elts kk tpos) (.Call (.Name "enumerate" p) [e] [] pos) (iEnumT X.K ta) := by
  refine ⟨fun pins s σ H R I h => ?_⟩
  refine Call_ (ld_blt I hg hm boot_enumerate (PyProof.Rows.callWith_type1 (thn (ha.run pos pins s σ H _ I h) fun us s1 ⟨vs, H1, I1, r1, q1⟩ => ?_) hs rfl))
  obtain ⟨a, xs, ex, hq, q⟩ := q1
  subst ex
  cases r1 with
  | cons r rr =>
    cases rr
    cases r
    obtain ⟨its, rv, p', hz⟩ := I1.tuple hq
    refine call_enumerate_tuple p' fun h' he hit hsz hk => wpAny_pyIter_enum he ?_
    have I2 : Inv X pins σ H1 { s1 with heap := h' } := I1.kept (t' := s1.toks) hk
    refine ⟨s1.heap.objs.size + 1, [s1.heap.objs.size + 1, s1.heap.objs.size], _, _, H1, rfl, I2, turn_enumT a (s1.heap.objs.size + 1) s1.heap.objs.size, ⟨⟨.none, he⟩, hit, Nat.succ_ne_self _⟩, fun b hb => ?_, q⟩
    have e' : b = s1.heap.objs.size + 1 ∨ b = s1.heap.objs.size := by simpa using hb
    have hle : s1.heap.objs.size ≤ b := by
      rcases e' with z | z
      · rw [z]; exact Nat.le_add_right _ _
      · rw [z]; exact Nat.le_refl _
    exact I1.fpOk hle (I1.hok.fresh hle)
end L2
set_option Elab.async false
set_option linter.all false
set_option maxRecDepth 100000
set_option maxHeartbeats 4000000
namespace KG
open PySem L2
/-! ### draws -/
def drF (n : Nat) (pt : Addr) : List (Str × V) := putF "parts" (.ref pt) (putF "size" (.int (n : Int)) [])
theorem drF_size (n : Nat) (pt : Addr) : (drF n pt).lookup ("size" : Str) = some (.int (n : Int)) := by
  unfold drF
  rw [lookup_putF, if_neg (by decide), lookup_putF, if_pos (by decide)]
theorem drF_parts (n : Nat) (pt : Addr) : (drF n pt).lookup ("parts" : Str) = some (.ref pt) := by
  unfold drF
  rw [lookup_putF, if_pos (by decide)]
structure DrT (K : PySem.W.Frag) (mg : Str → Option Value) (DC : Addr) : Prop where
  it : InsT K DC
  nS : NoAttr K DC "size"
  nP : NoAttr K DC "parts"
  gD : mg "Draw" = some (.ref DC)
/-- a part of a draw: its tuple, its share, its map -/
abbrev Dp3 := Addr × (Addr × (Addr × List Nat))
def DpAt (n : Nat) (H : Hp) (p : Dp3) : Prop := H p.1 = some (.tup [.ref p.2.1, .ref p.2.2.1]) ∧ MapAt n H p.2.2.1 p.2.2.2
theorem DpAt.same {n : Nat} {H H' : Hp} {p : Dp3} (h : DpAt n H p) (s : Same H H') : DpAt n H' p := ⟨s _ _ h.1, h.2.same s⟩
def IsDraw (DC : Addr) (H : Hp) (x : Addr) (n : Nat) (ps : List Dp3) : Prop := ∃ dx pt, H x = some (.ins DC dx (drF n pt)) ∧ H pt = some (.tup (rfs ps)) ∧ ∀ p ∈ ps, DpAt n H p
theorem IsDraw.same {DC : Addr} {H H' : Hp} {x : Addr} {n : Nat} {ps : List Dp3} (h : IsDraw DC H x n ps) (s : Same H H') : IsDraw DC H' x n ps := let ⟨dx, pt, h1, h2, h3⟩ := h; ⟨dx, pt, s _ _ h1, s _ _ h2, fun p m => (h3 p m).same s⟩
abbrev mpD (ps : List Dp3) : List (List Nat) := ps.map fun p => p.2.2.2
/-! ### the keys of its search -/
abbrev kx (x : List Nat) : List L2.Key := x.map fun k : Nat => (Sum.inl (k : Int) : L2.Key)
theorem kx_V (x : List Nat) : (kx x).map kV = cV x := by rw [kx, List.map_map]; rfl
theorem kx_inj : ∀ {x y : List Nat}, kx x = kx y → x = y
  | [], [], _ => rfl
  | [], _ :: _, h => by cases h
  | _ :: _, [], h => by cases h
  | a :: x, b :: y, h => by
    rw [kx, kx, List.map_cons, List.map_cons] at h
    injection h with h1 h2
    injection h1 with h1
    rw [kx_inj (x := x) (y := y) h2, show a = b by omega]
abbrev Ent := List Nat × (Addr × List Nat)
abbrev kvX (es : List Ent) : List (List L2.Key × V) := es.map fun e => (kx e.1, V.ref e.2.1)
theorem kvX_none {es : List Ent} {x : List Nat} (h : x ∉ es.map (·.1)) : valV (kvX es) (kx x) = none := by
  induction es with
  | nil => rfl
  | cons e es ih =>
    rw [List.map_cons, List.mem_cons, not_or] at h
    rw [kvX, List.map_cons, valV_neg (fun z => h.1 (kx_inj z).symm)]
    exact ih h.2
theorem kvX_at : ∀ {es : List Ent}, (es.map (·.1)).Nodup → ∀ {e : Ent}, e ∈ es → valV (kvX es) (kx e.1) = some (.ref e.2.1)
  | x :: es, nd, e, m => by
    rw [List.map_cons, List.nodup_cons] at nd
    rcases List.mem_cons.mp m with rfl | m
    · exact valV_pos rfl
    · rw [kvX, List.map_cons, valV_neg (fun z => nd.1 (by rw [kx_inj z]; exact List.mem_map_of_mem m))]
      exact kvX_at nd.2 m
theorem kvX_some {es : List Ent} (nd : (es.map (·.1)).Nodup) (x : List Nat) : (valV (kvX es) (kx x)).isSome = decide (x ∈ es.map (·.1)) := by
  by_cases h : x ∈ es.map (·.1)
  · obtain ⟨e, me, rfl⟩ := List.mem_map.mp h
    rw [kvX_at nd me, decide_eq_true h]
    rfl
  · rw [kvX_none h, decide_eq_false h]
    rfl
theorem kvX_put {es : List Ent} {x : List Nat} {c : Addr} {w : List Nat} (h : x ∉ es.map (·.1)) : putK (kvX es) (kx x) (.ref c) = kvX (es ++ [(x, (c, w))]) := by
  rw [putK_new _ (kvX_none h), kvX, kvX, List.map_append]
  rfl
end KG
set_option Elab.async false
set_option linter.all false
set_option maxRecDepth 100000
set_option maxHeartbeats 4000000
namespace KG
open PySem L2
def hvs (n : Nat) : List (Nat × Nat) := (prs n).filter fun p => decide (p.1 < p.2)
theorem mem_hvs {n : Nat} {p : Nat × Nat} : p ∈ hvs n ↔ p.1 < p.2 ∧ p.2 < n := by
  unfold hvs
  rw [List.mem_filter, mem_prs, decide_eq_true_eq]
  omega
def spHalves : Sp := fun vs H Q _ => ∃ n : Nat, vs = [.int (n : Int)] ∧ n ≤ 8 ∧ ∀ (l : Addr) (ts : List Pt) (H' : Hp), Same H H' → H' l = some (.lst (rfs ts)) → Pts H' ts → ts.map (·.2) = hvs n → Q (.ref l) H'
section
variable {P : Program} {w : World} {K : PySem.W.Frag} {mg : Str → Option Value} {base : Heap} {C CC B : Addr}
abbrev s_halves : Stmt := top 47
theorem sc_halves : FnScope ["many", "s", "t"] ["many"] (defScope s_halves) := ⟨rfl, rfl, rfl, by decide +kernel, rfl, by decide +kernel, by decide +kernel⟩
theorem ok_halves {f : Addr} {fd : FuncData} (F : Fun K "halves" "halves" s_halves f fd) (c_index_pairs : Cal P w K mg base 1 "index_pairs" ["many"] spIxPrs) : FnOk P w K mg base CX0 2 f fd ["many"] spHalves := by
  refine F.ok sc_halves (fun vs H Q E h => ?_) (fun cdv A outer s H vs Q E hr h => ?_)
  · obtain ⟨n, rfl, _⟩ := h
    rfl
  · obtain ⟨n, rfl, hn, k⟩ := h
    refine ⟨_, (pss_one (ps_ret (pe_lc (own := [("s", 1), ("t", 2)]) (g := gTup K 2 (gCons (gName 1) (gCons (gName 2) gNil))) rfl sc_halves.nd (pi_list (pe_cal c_index_pairs (hr.mono (by decide)) rfl (pa_cons (pv 0) pa_nil))) (blkOk_by (N := ["many", "s", "t"]) (sc := defScope s_halves) (by decide +kernel)) (fun _ _ _ _ _ => (pg_tup (by rfl) (pgs_cons (pg_name (i := 1) sc_halves.nd rfl (Or.inl rfl)) (pgs_cons (pg_name (i := 2) sc_halves.nd rfl (Or.inl rfl)) pgs_nil)))) (fun _ _ _ _ _ => (pts_one (pt_cmpR op_lt (pv 1) (pv 2) (nomark _)))) (fun _ _ _ _ _ => (pe_tup (pa_cons (pv 1) (pa_cons (pv 2) pa_nil))))))), ?_⟩
    refine ⟨_, rfl, n, rfl, hn, fun l ts H1 s1 el pt qt => ?_⟩
    have lt : ts.length ≤ 64 := by
      have := congrArg List.length qt
      rw [List.length_map] at this
      rw [this]; exact prs_len n hn
    refine ⟨l, rfl, ⟨_, SqL.of el⟩, fun D nD => ?_⟩
    refine lc_list (K := K) (a := l) (xs := rfs ts) (fun i H' => Same H1 H' ∧ ∃ us : List Pt, H' D = some (.lst (rfs us)) ∧ Pts H' us ∧ us.map (·.2) = ((ts.take i).map (·.2)).filter fun p => decide (p.1 < p.2)) ⟨Same.put nD, [], upd_same, fun _ m => (by cases m), rfl⟩ (fun i H' _ h => SqL.of (h.1 _ _ el)) ?_ ?_
    · rintro i y H' hy ⟨s2, us, eD, pu, qu⟩
      obtain ⟨r, hr2, mr, rfl⟩ := rfs_at hy
      have il := (List.getElem?_eq_some_iff.mp hr2).1
      refine ⟨r.1, prV r.2, rfl, SqT.of (s2 _ _ (pt r mr)), rfl, _, _, rfl, _, _, rfl, rfl, rfl, ?_⟩
      refine ⟨_, rfl, _, rfl, _, _, rfl, rfl, _, rfl, ?_⟩
      have take : (ts.take (i + 1)).map (·.2) = (ts.take i).map (·.2) ++ [r.2] := by rw [take_more hr2, List.map_append]; rfl
      by_cases e : ¬ r.2.1 < r.2.2
      · refine iteFe (decide_eq_false (by omega)) ⟨s2, us, eD, pu, ?_⟩
        rw [take, List.filter_append, qu, List.filter_cons, if_neg (by simp [e])]
        simp
      · have e : r.2.1 < r.2.2 := by omega
        refine iteTe (decide_eq_true (by omega)) ?_
        refine ⟨_, rfl, _, rfl, by show 2 ≤ sizeLine; decide, fun t nt => ?_⟩
        have st := Same.put (o := .tup (prV r.2)) nt
        have ul : us.length ≤ 64 := by
          have := congrArg List.length qu
          rw [List.length_map] at this
          have h2 := List.length_filter_le (fun p : Nat × Nat => decide (p.1 < p.2)) ((ts.take i).map (·.2))
          rw [List.length_map, List.length_take] at h2
          omega
        have eD2 := st _ _ eD
        refine ⟨rfs us, eD2, by rw [rfs_len]; exact small_len (by omega), Same.but (fun b u e => st _ _ (s2 _ _ e)) nD, us ++ [(t, r.2)], by rw [upd_same, rfs_snoc], ?_, ?_⟩
        · refine Pts.lstU (Pts.snoc (pu.same st) ?_) eD2
          exact upd_same
        · rw [List.map_append, qu, take, List.filter_append, List.filter_cons, if_pos (by simp [e])]
          rfl
    · rintro H2 ⟨s2, us, eD, pu, qu⟩
      refine k D us H2 (s1.trans s2) eD pu ?_
      rw [qu, rfs_len, List.take_length, qt]
      rfl
end
end KG
set_option Elab.async false
set_option linter.all false
set_option maxRecDepth 100000
set_option maxHeartbeats 4000000
namespace KG
open PySem L2
/-! ### dicts from pairs -/
abbrev kvE {α : Type} (es : List (Addr × (Nat × Nat) × α)) : List (List L2.Key × V) := es.map fun e => (kp e.2.1, V.ref e.1)
theorem kp_inj {p q : Nat × Nat} (h : kp p = kp q) : p = q := by
  injection h with h1 h2
  injection h2 with h2 _
  injection h1 with h1
  injection h2 with h2
  exact Prod.ext (by omega) (by omega)
theorem val_new {α : Type} {es : List (Addr × (Nat × Nat) × α)} {p : Nat × Nat} (h : p ∉ es.map fun e => e.2.1) : valV (kvE es) (kp p) = none := by
  induction es with
  | nil => rfl
  | cons e es ih =>
    rw [List.map_cons, List.mem_cons, not_or] at h
    rw [kvE, List.map_cons, valV_neg (fun z => h.1 (kp_inj z).symm)]
    exact ih h.2
theorem val_at {α : Type} {es : List (Addr × (Nat × Nat) × α)} (nd : (es.map fun e => e.2.1).Nodup) {e : Addr × (Nat × Nat) × α} (m : e ∈ es) : valV (kvE es) (kp e.2.1) = some (.ref e.1) := by
  induction es with
  | nil => cases m
  | cons x es ih =>
    rw [List.map_cons, List.nodup_cons] at nd
    rcases List.mem_cons.mp m with rfl | m
    · exact valV_pos rfl
    · rw [kvE, List.map_cons, valV_neg (fun z => nd.1 (by rw [kp_inj z]; exact List.mem_map.mpr ⟨e, m, rfl⟩))]
      exact ih nd.2 m
theorem put_new {α : Type} {es : List (Addr × (Nat × Nat) × α)} {p : Nat × Nat} {c : Addr} {x : α} (h : p ∉ es.map fun e => e.2.1) : putK (kvE es) (kp p) (.ref c) = kvE (es ++ [(c, p, x)]) := by
  rw [putK_new _ (val_new h), kvE, kvE, List.map_append]
  rfl
theorem kvE_len {α : Type} {es : List (Addr × (Nat × Nat) × α)} : (kvE es).length = es.length := List.length_map _
theorem notin_take {α β : Type} {es : List α} {f : α → β} {i : Nat} {e : α} (nd : (es.map f).Nodup) (he : es[i]? = some e) : f e ∉ (es.take i).map f := by
  have h : ((es.take (i + 1)).map f).Nodup := nd.sublist ((List.take_sublist _ _).map f)
  rw [take_more he, List.map_append, List.nodup_append] at h
  intro m
  exact h.2.2 _ m _ (by simp) rfl
/-- pairs found so far, as a dict -/
abbrev fndP (S : List (Nat × Nat)) : List (List L2.Key × V) := S.map fun p => (kp p, V.bl true)
theorem fndP_none {S : List (Nat × Nat)} {p : Nat × Nat} (h : p ∉ S) : valV (fndP S) (kp p) = none := by
  induction S with
  | nil => rfl
  | cons q S ih =>
    rw [List.mem_cons, not_or] at h
    rw [fndP, List.map_cons, valV_neg (fun z => h.1 (kp_inj z).symm)]
    exact ih h.2
theorem fndP_some (S : List (Nat × Nat)) (p : Nat × Nat) : (valV (fndP S) (kp p)).isSome = decide (p ∈ S) := by
  induction S with
  | nil => rfl
  | cons q S ih =>
    by_cases e : q = p
    · subst e
      rw [fndP, List.map_cons, valV_pos rfl, decide_eq_true List.mem_cons_self]
      rfl
    · rw [fndP, List.map_cons, valV_neg (fun z => e (kp_inj z))]
      rw [show (valV (List.map (fun p => (kp p, V.bl true)) S) (kp p)).isSome = decide (p ∈ S) from ih, decide_eq_decide, List.mem_cons]
      exact ⟨fun h => .inr h, fun h => h.resolve_left fun z => e z.symm⟩
theorem fndP_add {S : List (Nat × Nat)} {p : Nat × Nat} (h : p ∉ S) : putK (fndP S) (kp p) (V.bl true) = fndP (S ++ [p]) := by
  rw [putK_new _ (fndP_none h), fndP, fndP, List.map_append]
  rfl
def pN (p : Nat × Nat) : List Nat := [p.1, p.2]
theorem pN_inj {p q : Nat × Nat} (h : pN p = pN q) : p = q := by
  unfold pN at h
  injection h with h1 h2
  injection h2 with h2 _
  exact Prod.ext h1 h2
theorem Pts.dp {K : PySem.W.Frag} {H : Hp} : ∀ {ts : List Pt}, Pts H ts → DpAll K H (rfs ts) ((((ts.map (·.2)).map pN).map iW).map dI)
  | [], _ => .nil
  | t :: ts, h => .cons (dp_tupN (ws := pN t.2) (SqT.of (h t List.mem_cons_self))) (Pts.dp fun u m => h u (List.mem_cons_of_mem _ m))
theorem pN_mem {p : Nat × Nat} {L : List (Nat × Nat)} : pN p ∈ L.map pN ↔ p ∈ L := ⟨fun m => by obtain ⟨q, mq, e⟩ := List.mem_map.mp m; exact pN_inj e ▸ mq, fun m => List.mem_map_of_mem m⟩
theorem any_dP (p : Nat × Nat) (L : List (Nat × Nat)) : (((L.map pN).map iW).map dI).any (fun z => PyData.eqv z (dI (iW (pN p)))) = decide (p ∈ L) := by
  rw [any_dN, decide_eq_decide]
  exact pN_mem
/-- where each pair is led -/
def MvP (H : Hp) (d : Addr) (ps : List (Nat × Nat)) (f : Nat × Nat → List (Nat × Nat)) : Prop := ∃ ms : List (Addr × (Nat × Nat) × List Pt), H d = some (.dT (kvE ms)) ∧ (ms.map fun e => e.2.1).Nodup ∧ ∀ p ∈ ps, ∃ e ∈ ms, e.2.1 = p ∧ H e.1 = some (.lst (rfs e.2.2)) ∧ Pts H e.2.2 ∧ e.2.2.map (·.2) = f p
theorem MvP.same {H H' : Hp} {d : Addr} {ps : List (Nat × Nat)} {f : Nat × Nat → List (Nat × Nat)} (h : MvP H d ps f) (s : Same H H') : MvP H' d ps f := by
  obtain ⟨ms, h1, h2, h3⟩ := h
  exact ⟨ms, s _ _ h1, h2, fun p m => let ⟨e, me, q1, q2, q3, q4⟩ := h3 p m; ⟨e, me, q1, s _ _ q2, q3.same s, q4⟩⟩
def goP (f : Nat × Nat → List (Nat × Nat)) (gs S : List (Nat × Nat)) (p : Nat × Nat) : Bool := (f p).any fun q => decide (q ∈ gs) || decide (q ∈ S)
def RkP (f : Nat × Nat → List (Nat × Nat)) (ps gs S : List (Nat × Nat)) : Prop := ∀ (A : List (Nat × Nat)) (p : Nat × Nat) (B : List (Nat × Nat)), S = A ++ p :: B → p ∈ ps ∧ ∃ q ∈ f p, q ∈ gs ∨ q ∈ A
theorem RkP.snoc {f : Nat × Nat → List (Nat × Nat)} {ps gs S : List (Nat × Nat)} {p : Nat × Nat} (h : RkP f ps gs S) (mp : p ∈ ps) (g : goP f gs S p = true) : RkP f ps gs (S ++ [p]) := by
  intro A t B e
  rcases List.eq_nil_or_concat B with rfl | ⟨B', b, rfl⟩
  · have e2 := List.append_inj' e rfl
    obtain ⟨rfl, e3⟩ := e2
    cases e3
    unfold goP at g
    rw [List.any_eq_true] at g
    obtain ⟨q, m, c⟩ := g
    rw [Bool.or_eq_true, decide_eq_true_eq, decide_eq_true_eq] at c
    exact ⟨mp, q, m, c⟩
  · rw [List.concat_eq_append, ← List.cons_append, ← List.append_assoc] at e
    have e2 := List.append_inj' e rfl
    exact h A t B' e2.1
def spAbleP : Sp := fun vs H Q _ => ∃ (d l g : Addr) (pl gl : List Pt) (f : Nat × Nat → List (Nat × Nat)), vs = [.ref d, .ref l, .ref g] ∧ MvP H d (pl.map (·.2)) f ∧ H l = some (.lst (rfs pl)) ∧ Pts H pl ∧ (pl.map (·.2)).Nodup ∧ pl.length ≤ 64 ∧ (∀ p ∈ pl, (f p.2).length ≤ 64) ∧ H g = some (.lst (rfs gl)) ∧ Pts H gl ∧
  ∀ (r : Addr) (us : List Pt) (S : List (Nat × Nat)) (H' : Hp), Same H H' → H' r = some (.lst (rfs us)) → Pts H' us → us.map (·.2) = (pl.map (·.2)).filter (fun p => decide (p ∈ S)) → RkP f (pl.map (·.2)) (gl.map (·.2)) S → (∀ p ∈ pl.map (·.2), p ∉ S → goP f (gl.map (·.2)) S p = false) → Q (.ref r) H'
end KG
set_option Elab.async false
set_option linter.all false
set_option maxRecDepth 100000
set_option maxHeartbeats 4000000
namespace KG
open PySem L2
theorem nd_pairs : ∀ (S pl : List (Nat × Nat)), S.Nodup → (∀ x ∈ S, x ∈ pl) → S.length ≤ pl.length
  | [], _, _, _ => Nat.zero_le _
  | a :: r, pl, nd, h => by
    rw [List.nodup_cons] at nd
    have ma := h a List.mem_cons_self
    have ih := nd_pairs r (pl.erase a) nd.2 fun x m => (List.mem_erase_of_ne (fun e => nd.1 (by rw [← e]; exact m))).mpr (h x (List.mem_cons_of_mem _ m))
    rw [List.length_erase_of_mem ma] at ih
    have := List.length_pos_of_mem ma
    rw [List.length_cons]
    omega
section
variable {P : Program} {w : World} {K : PySem.W.Frag} {mg : Str → Option Value} {base : Heap} {C CC B : Addr}
abbrev s_able : Stmt := top 50
abbrev nAb : List Str := ["moves", "places", "goals", "able", "grown", "place", "to"]
theorem sc_able : FnScope nAb ["moves", "places", "goals"] (defScope s_able) := ⟨rfl, rfl, rfl, by decide +kernel, rfl, by decide +kernel, by decide +kernel⟩
def AbW (H0 : Hp) (d l g F : Addr) (pl gl : List Pt) (f : Nat × Nat → List (Nat × Nat)) (m : Nat) (σ : St) (H' : Hp) : Prop := ∃ (b : Bool) (v5 v6 : Option V) (S : List (Nat × Nat)), σ = [some (.ref d), some (.ref l), some (.ref g), some (.ref F), some (.bl b), v5, v6] ∧ Same H0 H' ∧ H' F = some (.dT (fndP S)) ∧ S.Nodup ∧ RkP f (pl.map (·.2)) (gl.map (·.2)) S ∧
  (∀ x ∈ S, x ∈ pl.map (·.2)) ∧ (b = false → ∀ p ∈ pl.map (·.2), p ∉ S → goP f (gl.map (·.2)) S p = false) ∧ m = 2 * (pl.length - S.length) + (if b = true then 1 else 0)
theorem ok_able {fa : Addr} {fd : FuncData} (F : Fun K "able_places" "able_places" s_able fa fd) (T : Bm mg) : FnOk P w K mg base CX0 2 fa fd ["moves", "places", "goals"] spAbleP := by
  refine F.ok sc_able (fun vs H Q E h => ?_) (fun cdv A' outer s H vs Q E hr h => ?_)
  · obtain ⟨d, l, g, pl, gl, f, rfl, _⟩ := h
    rfl
  · obtain ⟨d, l, g, pl, gl, f, rfl, mv, el, ppl, nd, l64, f64, eg, pgl, q⟩ := h
    have hu := hu_of hr
    refine ⟨_, (pss_cons (ps_set (i := 3) sc_able.nd rfl (Or.inr rfl) pe_dnewT)
      (pss_cons (ps_set (i := 4) sc_able.nd rfl (Or.inl rfl) pe_bl)
      (pss_cons (ps_while PassesOwn.never (pt_truth (pv 4) (by intro _; rfl))
        (pss_cons (ps_set (i := 4) sc_able.nd rfl (Or.inl rfl) pe_bl)
          (pss_one (ps_for PassesOwn.never rfl (pi_list (pv 1)) (pg_name (i := 5) sc_able.nd rfl (Or.inl rfl))
            (pss_one (ps_if (PW.pt (pw_and (pt_cmp (pc_dnotin (by exact hu) (pv 5) (pv 3)) (by rfl)) (pw_and1 (pt_val (pe_callB (show CallR _ _ (rAny K) from cr_any rfl) (by rfl) T.n_any PyProof.Rows.boot_any (pa_cons (pe_lc (own := [("to", 6)]) rfl sc_able.nd (pi_list (pe_dget (by exact hu) (pv 0) (pv 5) (by intro _ _; rfl))) (blkOk_by (N := nAb) (sc := defScope s_able) (by decide +kernel)) (fun _ _ _ _ _ => (pg_name (i := 6) sc_able.nd rfl (Or.inl rfl))) (fun _ _ _ _ _ => pts_nil)
                (fun _ _ _ _ _ => (pe_or (pe_cmpR (show OpR _ _ (rInD K) from op_inD (by exact un65 hr)) (pv 6) (pv 2) (by rfl)) (pe_one (pe_cmp (pc_din (by exact hu) (pv 6) (pv 3)) (by rfl)))))) pa_nil))))))
                (pss_cons (ps_dput (by exact hu) (pv 3) (pv 5) pe_bl rfl)
                  (pss_one (ps_set (i := 4) sc_able.nd rfl (Or.inl rfl) pe_bl)))
                pss_nil))))))
      (pss_one (ps_ret (pe_lc (own := [("place", 5)]) rfl sc_able.nd (pi_list (pv 1)) (blkOk_by (N := nAb) (sc := defScope s_able) (by decide +kernel)) (fun _ _ _ _ _ => (pg_name (i := 5) sc_able.nd rfl (Or.inl rfl))) (fun _ _ _ _ _ => (pts_one (pt_cmp (pc_din (by exact hu) (pv 5) (pv 3)) (by rfl)))) (fun _ _ _ _ _ => (pv 5)))))))), ?_⟩
    intro FA nF
    refine ⟨AbW H d l g FA pl gl f, ⟨_, true, none, none, [], rfl, Same.put nF, upd_same, List.nodup_nil, fun A t B e => (by simp at e), fun _ m => (by cases m), fun h => (by cases h), rfl⟩, ?_⟩
    rintro m σ H2 ⟨b, v5, v6, S, rfl, s2, eF, ndS, rk, sub, clo, rfl⟩
    refine ⟨_, rfl, b, rfl, ?_⟩
    have dgF : ∀ (G : Hp) (S : List (Nat × Nat)) (a : Addr) (p : Nat × Nat), G FA = some (.dT (fndP S)) → G a = some (.tup (prV p)) → DGet G FA (.ref a) (valV (fndP S) (kp p)) := fun G S a p h1 h2 => .inr ⟨fndP S, kp p, a, .inl h1, rfl, h2, rfl⟩
    cases b with
    | false =>
      refine iteFe rfl ?_
      refine ⟨_, rfl, l, rfl, ⟨_, SqL.of (s2 _ _ el)⟩, fun D nD => ?_⟩
      have nDH := s2.free nD
      have FD : FA ≠ D := fun z => by rw [z, nD] at eF; cases eF
      refine lc_list (K := K) (a := l) (xs := rfs pl) (fun i H' => Same H2 H' ∧ ∃ us : List Pt, H' D = some (.lst (rfs us)) ∧ Pts H' us ∧ us.map (·.2) = ((pl.take i).map (·.2)).filter fun p => decide (p ∈ S)) ⟨Same.put nD, [], upd_same, fun _ m => (by cases m), rfl⟩ (fun i H' _ h => SqL.of (h.1 _ _ (s2 _ _ el))) ?_ ?_
      · rintro i y H' hy ⟨s3, us, eD, pu, qu⟩
        obtain ⟨r, hr2, mr, rfl⟩ := rfs_at hy
        have il := (List.getElem?_eq_some_iff.mp hr2).1
        refine ⟨rfl, ?_⟩
        refine ⟨_, rfl, _, rfl, FA, _, rfl, dgF _ _ _ _ (s3 _ _ eF) (s3 _ _ (s2 _ _ (ppl r mr))), _, rfl, ?_⟩
        rw [fndP_some]
        have take : (pl.take (i + 1)).map (·.2) = (pl.take i).map (·.2) ++ [r.2] := by rw [take_more hr2, List.map_append]; rfl
        by_cases c : r.2 ∈ S
        · refine iteTe (decide_eq_true c) ?_
          have ul : us.length ≤ 64 := by
            have := congrArg List.length qu
            rw [List.length_map] at this
            have h2 := List.length_filter_le (fun p : Nat × Nat => decide (p ∈ S)) ((pl.take i).map (·.2))
            rw [List.length_map, List.length_take] at h2
            omega
          refine ⟨_, rfl, _, eD, by rw [rfs_len]; exact small_len (by omega), Same.but s3 nD, us ++ [r], by rw [upd_same, rfs_snoc], Pts.lstU (Pts.snoc pu (s3 _ _ (s2 _ _ (ppl r mr)))) eD, ?_⟩
          rw [List.map_append, qu, take, List.filter_append]
          simp [c]
        · refine iteFe (decide_eq_false c) ⟨s3, us, eD, pu, ?_⟩
          rw [qu, take, List.filter_append]
          simp [c]
      · rintro H3 ⟨s3, us, eD, pu, qu⟩
        rw [rfs_len, List.take_length] at qu
        exact q D us S H3 (s2.trans s3) eD pu qu rk (clo rfl)
    | true =>
      refine iteTe rfl ⟨fun σ' H' => ∃ m', m' < 2 * (pl.length - S.length) + (if true = true then 1 else 0) ∧ AbW H d l g FA pl gl f m' σ' H', fun _ _ h => h, ?_⟩
      refine ⟨_, rfl, l, rfl, ⟨_, SqL.of (s2 _ _ el)⟩, ?_⟩
      refine for_it (walk_list (K := K) (a := l) (xs := rfs pl)) (fun i σ H' => ∃ (b2 : Bool) (v5 v6 : Option V) (S2 : List (Nat × Nat)), σ = [some (.ref d), some (.ref l), some (.ref g), some (.ref FA), some (.bl b2), v5, v6] ∧ Same H H' ∧ H' FA = some (.dT (fndP S2)) ∧ S2.Nodup ∧ RkP f (pl.map (·.2)) (gl.map (·.2)) S2 ∧ (∀ x ∈ S2, x ∈ pl.map (·.2)) ∧
        ((b2 = false ∧ S2 = S ∧ ∀ p ∈ (pl.take i).map (·.2), p ∉ S → goP f (gl.map (·.2)) S p = false) ∨ (b2 = true ∧ S.length < S2.length)))
        ⟨false, v5, v6, S, rfl, s2, eF, ndS, rk, sub, .inl ⟨rfl, rfl, fun t m => by simp at m⟩⟩ (fun i σ H' _ ⟨_, _, _, _, _, h, _⟩ => SqL.of (h _ _ el)) ?_ ?_
      · rintro i x σ H3' H3 hi ⟨b2, v5, v6, S2, rfl, s3, eF3, nd3, rk3, sub3, stt⟩ ⟨rfl, hx⟩
        obtain ⟨r, hr2, mr, rfl⟩ := rfs_at hx
        have mp : r.2 ∈ pl.map (·.2) := List.mem_map_of_mem mr
        have er := s3 _ _ (ppl r mr)
        have take : (pl.take (i + 1)).map (·.2) = (pl.take i).map (·.2) ++ [r.2] := by rw [take_more hr2, List.map_append]; rfl
        refine ⟨_, rfl, _, rfl, FA, _, rfl, dgF _ _ _ _ eF3 er, _, rfl, ?_⟩
        rw [fndP_some]
        by_cases c : r.2 ∈ S2
        · refine iteFe (by rw [decide_eq_true c]; rfl) (iteF ?_)
          refine ⟨b2, _, _, S2, rfl, s3, eF3, nd3, rk3, sub3, ?_⟩
          rcases stt with ⟨q1, q2, q3⟩ | stt
          · refine .inl ⟨q1, q2, fun t2 m nt => ?_⟩
            rw [take] at m
            rcases List.mem_append.mp m with m | m
            · exact q3 t2 m nt
            · rw [List.mem_singleton.mp m, ← q2] at nt; exact absurd c nt
          · exact .inr stt
        · refine iteTe (by rw [decide_eq_false c]; rfl) ?_
          obtain ⟨ms, em, ndm, mvs⟩ := mv.same s3
          obtain ⟨e, me, q1, q2, q3, q4⟩ := mvs r.2 mp
          have fl : e.2.2.length ≤ 64 := by
            have := congrArg List.length q4
            rw [List.length_map] at this
            have := f64 r mr
            omega
          refine ⟨_, rfl, _, rfl, d, .ref e.1, rfl, .inr ⟨kvE ms, kp r.2, r.1, .inl em, rfl, er, by rw [← q1]; exact (val_at ndm me).symm⟩, e.1, rfl, ⟨_, SqL.of q2⟩, fun D nD => ?_⟩
          refine lc_list (K := K) (a := e.1) (xs := rfs e.2.2) (fun j H' => Same H3 H' ∧ H' D = some (.lst ((((e.2.2.map (·.2)).map fun q => decide (q ∈ gl.map (·.2)) || decide (q ∈ S2)).take j).map V.bl))) ⟨Same.put nD, upd_same⟩ (fun j H' _ h => SqL.of (h.1 _ _ q2)) ?_ ?_
          · rintro j y H4 hy ⟨s4, eD⟩
            obtain ⟨u, hu2, mu, rfl⟩ := rfs_at hy
            have jl := (List.getElem?_eq_some_iff.mp hu2).1
            refine ⟨rfl, yes_of ?_⟩
            have eu := s4 _ _ (q3 u mu)
            have s04 := s3.trans s4
            have fin : ∃ acc, H4 D = some (.lst acc) ∧ acc.length < sizeLine ∧ Same H3 (upd H4 D (.lst (acc ++ [V.bl (decide (u.2 ∈ gl.map (·.2)) || decide (u.2 ∈ S2))]))) ∧ (upd H4 D (.lst (acc ++ [V.bl (decide (u.2 ∈ gl.map (·.2)) || decide (u.2 ∈ S2))]))) D = some (.lst ((((e.2.2.map (·.2)).map fun q => decide (q ∈ gl.map (·.2)) || decide (q ∈ S2)).take (j + 1)).map V.bl)) := by
              refine ⟨_, eD, small_len (by rw [List.length_map, List.length_take]; omega), Same.but s4 nD, ?_⟩
              have hh : ((e.2.2.map (·.2)).map fun q => decide (q ∈ gl.map (·.2)) || decide (q ∈ S2))[j]? = some (decide (u.2 ∈ gl.map (·.2)) || decide (u.2 ∈ S2)) := by rw [List.getElem?_map, List.getElem?_map, hu2]; rfl
              rw [upd_same, take_more hh, List.map_append]
              rfl
            refine ⟨_, rfl, _, rfl, dI (iW (pN u.2)), _, dp_tupN (ws := pN u.2) (SqT.of eu), .lst (SqL.of (s04 _ _ eg)) (Pts.dp (pgl.same s04)), sh_dI _, sh_list _, _, rfl, ?_⟩
            rw [any_dP]
            by_cases c1 : u.2 ∈ gl.map (·.2)
            · rw [decide_eq_true c1, Bool.true_or] at fin
              exact iteTe (decide_eq_true c1) fin
            · rw [decide_eq_false c1, Bool.false_or] at fin
              refine iteFe (decide_eq_false c1) ?_
              refine ⟨_, rfl, _, rfl, FA, _, rfl, dgF _ _ _ _ (s4 _ _ eF3) eu, ?_⟩
              rw [fndP_some]
              exact fin
          · rintro H4 ⟨s4, eD⟩
            have ll : (rfs e.2.2).length = ((e.2.2.map (·.2)).map fun q => decide (q ∈ gl.map (·.2)) || decide (q ∈ S2)).length := by rw [rfs_len, List.length_map, List.length_map]
            rw [ll, List.take_length, q4] at eD
            refine ⟨D, _, rfl, SqL.of eD, _, rfl, ?_⟩
            have eg2 : ((f r.2).map fun q => decide (q ∈ gl.map (·.2)) || decide (q ∈ S2)).any id = goP f (gl.map (·.2)) S2 r.2 := by
              unfold goP
              rw [List.any_map]
              rfl
            rw [eg2]
            have s04 := s3.trans s4
            have eF5 := s4 _ _ eF3
            have er5 := s4 _ _ er
            have lS : S2.length ≤ 64 := by
              have := nd_pairs S2 _ nd3 sub3
              rw [List.length_map] at this
              omega
            by_cases gg : goP f (gl.map (·.2)) S2 r.2 = true
            · refine iteTe gg ?_
              refine ⟨_, rfl, _, rfl, FA, _, rfl, DPut.t (k := kp r.2) eF5 er5 (by rw [fndP, List.length_map]; exact small_len (by omega)), ?_⟩
              rw [fndP_add c]
              refine ⟨true, _, _, S2 ++ [r.2], rfl, Same.but s04 nF, upd_same, ?_, rk3.snoc mp gg, fun x m => ?_, .inr ⟨rfl, ?_⟩⟩
              · refine List.nodup_append.mpr ⟨nd3, by simp, fun x hx y hy => ?_⟩
                rw [List.mem_singleton.mp hy]
                exact fun z => c (z ▸ hx)
              · rcases List.mem_append.mp m with m | m
                · exact sub3 x m
                · rw [List.mem_singleton.mp m]; exact mp
              · rw [List.length_append, List.length_singleton]
                rcases stt with ⟨_, q2, _⟩ | ⟨_, q2⟩
                · rw [q2]; omega
                · omega
            · refine iteFe (Bool.eq_false_iff.mpr gg) ?_
              refine ⟨b2, _, _, S2, rfl, s04, eF5, nd3, rk3, sub3, ?_⟩
              rcases stt with ⟨z1, z2, z3⟩ | stt
              · refine .inl ⟨z1, z2, fun t2 m nt => ?_⟩
                rw [take] at m
                rcases List.mem_append.mp m with m | m
                · exact z3 t2 m nt
                · rw [List.mem_singleton.mp m, ← z2]; exact Bool.eq_false_iff.mpr gg
              · exact .inr stt
      · rintro σ H3 ⟨b2, v5, v6, S2, rfl, s3, eF3, nd3, rk3, sub3, stt⟩
        have lS : S2.length ≤ pl.length := by
          have := nd_pairs S2 _ nd3 sub3
          rwa [List.length_map] at this
        have lS0 : S.length ≤ pl.length := by
          have := nd_pairs S _ ndS sub
          rwa [List.length_map] at this
        rcases stt with ⟨rfl, rfl, z3⟩ | ⟨rfl, z2⟩
        · refine ⟨_, ?_, false, _, _, S2, rfl, s3, eF3, nd3, rk3, sub3, fun _ p m nt => z3 p (by rw [rfs_len, List.take_length]; exact m) nt, rfl⟩
          simp
        · refine ⟨_, ?_, true, _, _, S2, rfl, s3, eF3, nd3, rk3, sub3, fun h => (by cases h), rfl⟩
          simp
          omega
end
end KG
set_option Elab.async false
set_option linter.all false
set_option maxRecDepth 100000
set_option maxHeartbeats 4000000
/-! min(t), max(t), t a tuple of ints -/
namespace L2
open PySem PySem.Spec PyProof.Rows
section
variable {prog : Program} {w : World} {A : Around} {E : Value → Shared → Prop} {s : Shared} {l : Addr} {its : List Value} {ns : List Int} {Q : Value → Shared → Prop}
theorem best_mem {ns : List Int} {k : Nat} (h : k < ns.length) : ns.getD k 0 ∈ ns := by
  rw [List.getD, List.getElem?_eq_getElem h]
  exact List.getElem_mem h
theorem mem_at {ns : List Int} {a : Int} (h : a ∈ ns) : ∃ j, j < ns.length ∧ ns.getD j 0 = a := by
  obtain ⟨j, hj, e⟩ := List.getElem_of_mem h
  exact ⟨j, hj, by rw [List.getD, List.getElem?_eq_getElem hj]; exact e⟩
theorem min_rawT (hh : A.in1.handled = none) (hl : s.heap.IsTuple l its.toArray) (hi : IntsAre its ns) (hne : 0 < ns.length)
    (h : ∀ h' tk m t', (∀ b o, s.heap.get? b = some o → h'.get? b = some o) → m ∈ ns → (∀ a ∈ ns, m ≤ a) → Q (.int m t') { s with heap := h', toks := tk }) : wpAny (model prog w) A (call (.builtin "min") [.ref l]) Q E s := by
  have hlen : its.toArray.size = ns.length := by rw [List.size_toArray]; exact hi.length
  refine call_min_walkS (PySem.W.iter_tupleW (A := A.in1) hh hl fun s₂ e W st fp _ _ => ⟨_, _, _, _, _, _, _, fun i j => decide (ns.getD i 0 < ns.getD j 0), rfl, W, st, fp, by rw [hlen]; exact hne, CmpOf.ints_lt (fun i => ns.getD i 0) fun i v hv => intsAre_at hi i v (by simpa using hv), fun v s' hv hm => ?_⟩)
  obtain ⟨t', rfl⟩ := intsAre_at hi (argBest (fun i j => decide (ns.getD i 0 < ns.getD j 0)) (its.toArray.size - 1)) v (by have q := hv; rwa [List.getElem?_toArray] at q)
  obtain ⟨h', tk, rfl, old⟩ := PySem.W.moved_old e rfl hm
  obtain ⟨b1, b2⟩ := argBest_lt (fun i => ns.getD i 0) (its.toArray.size - 1)
  refine h h' tk _ t' old (best_mem (by omega)) fun a ma => ?_
  obtain ⟨j, hj, rfl⟩ := mem_at ma
  exact b2 j (by omega)
theorem max_rawT (hh : A.in1.handled = none) (hl : s.heap.IsTuple l its.toArray) (hi : IntsAre its ns) (hne : 0 < ns.length)
    (h : ∀ h' tk m t', (∀ b o, s.heap.get? b = some o → h'.get? b = some o) → m ∈ ns → (∀ a ∈ ns, a ≤ m) → Q (.int m t') { s with heap := h', toks := tk }) : wpAny (model prog w) A (call (.builtin "max") [.ref l]) Q E s := by
  have hlen : its.toArray.size = ns.length := by rw [List.size_toArray]; exact hi.length
  refine call_max_walkS (PySem.W.iter_tupleW (A := A.in1) hh hl fun s₂ e W st fp _ _ => ⟨_, _, _, _, _, _, _, fun i j => decide (ns.getD i 0 > ns.getD j 0), rfl, W, st, fp, by rw [hlen]; exact hne, CmpOf.ints_gt (fun i => ns.getD i 0) fun i v hv => intsAre_at hi i v (by simpa using hv), fun v s' hv hm => ?_⟩)
  obtain ⟨t', rfl⟩ := intsAre_at hi (argBest (fun i j => decide (ns.getD i 0 > ns.getD j 0)) (its.toArray.size - 1)) v (by have q := hv; rwa [List.getElem?_toArray] at q)
  obtain ⟨h', tk, rfl, old⟩ := PySem.W.moved_old e rfl hm
  obtain ⟨b1, b2⟩ := argBest_gt (fun i => ns.getD i 0) (its.toArray.size - 1)
  refine h h' tk _ t' old (best_mem (by omega)) fun a ma => ?_
  obtain ⟨j, hj, rfl⟩ := mem_at ma
  exact b2 j (by omega)
end
section
variable {X : Cx}
def rMinT (K : PySem.W.Frag) : List V → Hp → VK → Prop := fun vs H Q => ∃ (a : Addr) (ns : List Int), vs = [V.ref a] ∧ SqT K H a (ns.map V.int) ∧ 0 < ns.length ∧ ∀ m, m ∈ ns → (∀ y ∈ ns, m ≤ y) → Q (.int m) H
def rMaxT (K : PySem.W.Frag) : List V → Hp → VK → Prop := fun vs H Q => ∃ (a : Addr) (ns : List Int), vs = [V.ref a] ∧ SqT K H a (ns.map V.int) ∧ 0 < ns.length ∧ ∀ m, m ∈ ns → (∀ y ∈ ns, y ≤ m) → Q (.int m) H
theorem cr_minT (hc : X.calm = true) : CallR X (.builtin "min") (rMinT X.K) := by
  intro pins s σ H vs us Q I r h
  obtain ⟨a, ns, rfl, hs, hne, q⟩ := h
  obtain ⟨its, rv, hl, _⟩ := I.tuple hs
  rw [Vals.ref1 r]
  exact min_rawT (I.ok.hd hc) hl rv.ints hne fun h' tk m t' hk m1 m2 => ⟨.int _, H, I.kept hk, ⟨_, rfl⟩, q m m1 m2⟩
theorem cr_maxT (hc : X.calm = true) : CallR X (.builtin "max") (rMaxT X.K) := by
  intro pins s σ H vs us Q I r h
  obtain ⟨a, ns, rfl, hs, hne, q⟩ := h
  obtain ⟨its, rv, hl, _⟩ := I.tuple hs
  rw [Vals.ref1 r]
  exact max_rawT (I.ok.hd hc) hl rv.ints hne fun h' tk m t' hk m1 m2 => ⟨.int _, H, I.kept hk, ⟨_, rfl⟩, q m m1 m2⟩
end
end L2
set_option Elab.async false
set_option linter.all false
set_option maxRecDepth 100000
set_option maxHeartbeats 4000000
namespace KG
open PySem L2
def spHalf : Sp := fun vs H Q _ => ∃ (t : Addr) (p : Nat × Nat), vs = [.ref t] ∧ H t = some (.tup (prV p)) ∧ ∀ (u : Addr) (H' : Hp), Same H H' → H' u = some (.tup (prV (Dw.half p.1 p.2))) → Q (.ref u) H'
section
variable {P : Program} {w : World} {K : PySem.W.Frag} {mg : Str → Option Value} {base : Heap} {C CC B : Addr}
abbrev s_half : Stmt := top 48
theorem sc_half : FnScope ["pair"] ["pair"] (defScope s_half) := ⟨rfl, rfl, rfl, by decide +kernel, rfl, by decide +kernel, by decide +kernel⟩
theorem ok_half {f : Addr} {fd : FuncData} (F : Fun K "half" "half" s_half f fd) (T : Bm mg) : FnOk P w K mg base CX0 1 f fd ["pair"] spHalf := by
  refine F.ok sc_half (fun vs H Q E h => ?_) (fun cdv A outer s H vs Q E hr h => ?_)
  · obtain ⟨t, p, rfl, _⟩ := h
    rfl
  · obtain ⟨t, p, rfl, et, k⟩ := h
    refine ⟨_, (pss_one (ps_ret (pe_tup (pa_cons (pe_callB (cr_minT rfl) (by rfl) T.n_min (by decide +kernel) (pa_cons (pv 0) pa_nil)) (pa_cons (pe_callB (cr_maxT rfl) (by rfl) T.n_max (by decide +kernel) (pa_cons (pv 0) pa_nil)) pa_nil))))), ?_⟩
    have sq : SqT K H t ([(p.1 : Int), (p.2 : Int)].map V.int) := SqT.of et
    refine ⟨_, rfl, t, [(p.1 : Int), (p.2 : Int)], rfl, sq, by show 0 < 2; omega, fun a ma la => ?_⟩
    refine ⟨_, rfl, t, [(p.1 : Int), (p.2 : Int)], rfl, sq, by show 0 < 2; omega, fun b mb lb => ?_⟩
    refine ⟨by show 2 ≤ sizeLine; decide, fun u nu => ?_⟩
    have l1 := la _ List.mem_cons_self
    have l2 := la (p.2 : Int) (List.mem_cons_of_mem _ List.mem_cons_self)
    have g1 := lb _ List.mem_cons_self
    have g2 := lb (p.2 : Int) (List.mem_cons_of_mem _ List.mem_cons_self)
    have ea : a = ((min p.1 p.2 : Nat) : Int) := by
      rcases List.mem_cons.mp ma with rfl | m
      · omega
      · have e := List.mem_singleton.mp m
        omega
    have eb : b = ((max p.1 p.2 : Nat) : Int) := by
      rcases List.mem_cons.mp mb with rfl | m
      · omega
      · have e := List.mem_singleton.mp m
        omega
    refine k u _ (Same.put nu) ?_
    rw [upd_same, ea, eb]
end
end KG
set_option Elab.async false
set_option linter.all false
set_option maxRecDepth 100000
set_option maxHeartbeats 4000000
namespace KG
open PySem L2
/-- where the maps lead a pair; the pairs of a state with itself -/
def ldP (wss : List (List Nat)) (p : Nat × Nat) : List (Nat × Nat) := (List.range wss.length).map fun a => Dw.half (mA wss a p.1) (mA wss a p.2)
def dgP (n : Nat) : List (Nat × Nat) := (List.range n).map fun s => (s, s)
theorem mem_dgP {n : Nat} {q : Nat × Nat} : q ∈ dgP n ↔ q.1 = q.2 ∧ q.1 < n := by
  unfold dgP
  rw [List.mem_map]
  constructor
  · rintro ⟨s, m, rfl⟩; exact ⟨rfl, List.mem_range.mp m⟩
  · rintro ⟨e, l⟩; exact ⟨q.1, List.mem_range.mpr l, Prod.ext rfl e⟩
theorem able_of {n : Nat} {wss : List (List Nat)} (mw : ∀ ws ∈ wss, IsMap n ws) {S : List (Nat × Nat)} (rk : RkP (ldP wss) (hvs n) (dgP n) S) (cl : ∀ p ∈ hvs n, p ∉ S → goP (ldP wss) (dgP n) S p = false) : Dw.AbleS n wss.length (mA wss) S := by
  refine ⟨fun A p B e => ?_, fun p l ln ns a ha => ?_⟩
  · obtain ⟨_, q, mq, c⟩ := rk A p B e
    unfold ldP at mq
    obtain ⟨a, ma, rfl⟩ := List.mem_map.mp mq
    refine ⟨a, List.mem_range.mp ma, ?_⟩
    rcases c with c | c
    · exact .inl (mem_dgP.mp c).1
    · exact .inr c
  · have h := cl p (mem_hvs.mpr ⟨l, ln⟩) ns
    unfold goP at h
    rw [List.any_eq_false] at h
    have mq : Dw.half (mA wss a p.1) (mA wss a p.2) ∈ ldP wss p := List.mem_map.mpr ⟨a, List.mem_range.mpr ha, rfl⟩
    have h2 := h _ mq
    rw [Bool.or_eq_true, decide_eq_true_eq, decide_eq_true_eq, not_or] at h2
    have b1 := mA_lt mw a p.1 ha (by omega)
    have b2 := mA_lt mw a p.2 ha ln
    refine ⟨fun e => h2.1 (mem_dgP.mpr ⟨e, ?_⟩), h2.2⟩
    show min (mA wss a p.1) (mA wss a p.2) < n
    omega
/-- stuck(draw): the pairs that can't be led together -/
def spStuck (DC : Addr) : Sp := fun vs H Q _ => ∃ (x : Addr) (n : Nat) (ps : List Dp3), vs = [.ref x] ∧ 1 ≤ n ∧ n ≤ 8 ∧ ps.length ≤ 4 ∧ IsDraw DC H x n ps ∧
  ∀ (r : Addr) (us : List Pt) (S : List (Nat × Nat)) (H' : Hp), Same H H' → H r = none → H' r = some (.lst (rfs us)) → Pts H' us → Dw.AbleS n ps.length (mA (mpD ps)) S → us.map (·.2) = (hvs n).filter (fun p => !decide (p ∈ S)) → Q (.ref r) H'
end KG
set_option Elab.async false
set_option linter.all false
set_option maxRecDepth 100000
set_option maxHeartbeats 4000000
/-! name = {k: v for ..} on one line, the name a local, the keys tuples -/
namespace L2
open PySem PySem.Spec PyProof.Rows
section
variable {X : Cx}
theorem dcT_core {ps : List (Addr × Obj)} {z0 : Shared} {σ : St} {G : Hp} {Q : VK} {kx vx tg iter : Expr} {ifs : List Expr} {scope : Scope} {own : List (Str × Nat)} {pos pos' : Pos} {wi : TI} {g : TG} {tt : TT} {tk tv : TE} {use : Option (Value → Sem Unit)} {Qf : Value → Shared → Prop} {mk : Sem Value}
    (hmk : mk = newObj (.type "dict") (.dict #[]))
    (hc : X.calm = true) (hu : X.A.units + 1 < cLine) (hN : X.N.Nodup) (I : Inv X ps σ G z0) (hi : PI X tg iter wi) (ok : BlkOk X.N X.env.scope scope own)
    (hg : ∀ (z : Shared) (G : Hp) (C : Addr) (cl : List (Str × Addr)) (fp : List Addr), PG (X.blk z G scope (compEnvC scope cl C X.env) fp) tg g)
    (ht : ∀ (z : Shared) (G : Hp) (C : Addr) (cl : List (Str × Addr)) (fp : List Addr), PTs (X.blk z G scope (compEnvC scope cl C X.env) fp) ifs tt)
    (hk : ∀ (z : Shared) (G : Hp) (C : Addr) (cl : List (Str × Addr)) (fp : List Addr), PE (X.blk z G scope (compEnvC scope cl C X.env) fp) kx tk)
    (hv : ∀ (z : Shared) (G : Hp) (C : Addr) (cl : List (Str × Addr)) (fp : List Addr), PE (X.blk z G scope (compEnvC scope cl C X.env) fp) vx tv) (hf : ∀ x, foldedSetIterable iter X.env x = pure x)
    (want : tDcT wi g tt tk tv (own.map (·.2)) σ G Q)
    (hRR : ∀ D C s' m H', Inv X ps σ H' s' → Q (.ref D) H' → s'.heap.Ns C m → FpOk X ps H' C → compPost (model X.prog X.w) X.A X.xe use Qf (.ref D) C (.ok .next) s') :
    wpAny (model X.prog X.w) X.A (comprehension (.DictComp kx vx [⟨tg, iter, ifs, 0⟩] scope pos) scope X.env pos' mk false (eval iter X.env) use) Qf X.xe z0 := by
  subst hmk
  have cells : ∀ y ∈ scope.names, y.2 = .free → ∃ c, X.env.cells.lookup y.1 = some c := fun y hy e => by
    rcases ok.free y hy e with q | q
    · exact I.ok.has _ (.inl q)
    · exact I.ok.has _ (.inr q)
  refine wpAny_comprehension_free (use := use) rfl hf (closure_ok cells) ok.kind (fun y hy e => by rw [ok.uniq y hy, e])
    (thn (hi.run ps z0 σ G _ I want) fun xv z1 hx => thn hx fun itv z2 got => ?_)
  obtain ⟨it, fp, tn, J, G2, e, I2, T, at2, fresh2, plan⟩ := got
  subst e
  refine wpAny_newObj_type (newEnv_comp ?_)
  generalize eD : z2.heap.objs.size = D
  have noD : G2 D = none := I2.hok.fresh (Nat.le_of_eq eD)
  obtain ⟨W, ⟨m0, start⟩, turn⟩ := plan D noD
  generalize e3 : ({ z2 with heap := z2.heap.push { cls := .type "dict", data := .dict #[] } } : Shared) = z3
  have I3 : Inv X ps σ (upd G2 D (.dT [])) z3 := by
    subst e3
    refine I2.laid (t' := z2.toks) (fun b o q => Heap.get?_push_of_some _ q) (Nat.le_of_eq eD) ?_
    subst eD
    exact dt_empty z2.heap I2.big
  have heap3 : z3.heap = z2.heap.push { cls := .type "dict", data := .dict #[] } := by subst e3; rfl
  have low : ∀ b ∈ fp, b < z2.heap.objs.size := fun b hb => let ⟨_, q, _⟩ := T.obj _ _ at2 b hb; Heap.lt_size q
  have fresh3 : ∀ b ∈ fp, FpOk X ps (upd G2 D (.dT [])) b ∧ b < z3.heap.objs.size := fun b hb => by
    have lb := low b hb
    have nb : (upd G2 D (.dT [])) b = none := by
      rw [upd_ne (by subst eD; exact Nat.ne_of_lt lb)]
      exact (fresh2 b hb).1
    exact ⟨⟨nb, (fresh2 b hb).2⟩, by rw [heap3, Heap.size_push]; exact Nat.lt_succ_of_lt lb⟩
  have at3 : tn 0 z3.heap := T.keep _ _ _ at2 fun b _ o q => by rw [heap3]; exact Heap.get?_push_of_some _ q
  have I4 := block_start I3 ok hN fresh3
  generalize eH : upd G2 D (.dT []) = G3 at I3 I4 start fresh3
  show codeAny _ _ (.compStart _ 0 (.ref it) (.ref D) (compEnvC scope (cellsFrom (z3.heap.objs.size + 1) scope.names (cloFrom X.env.cells scope.names [])) z3.heap.objs.size X.env)) (compPost (model X.prog X.w) X.A X.xe use Qf (.ref D) z3.heap.objs.size) { z3 with heap := pushCells (z3.heap.push { cls := .type "dict", data := .dict #[] }) scope.names }
  have ppg := hg z3 G3 z3.heap.objs.size (cellsFrom (z3.heap.objs.size + 1) scope.names (cloFrom X.env.cells scope.names [])) fp
  have ppt := ht z3 G3 z3.heap.objs.size (cellsFrom (z3.heap.objs.size + 1) scope.names (cloFrom X.env.cells scope.names [])) fp
  have ppk := hk z3 G3 z3.heap.objs.size (cellsFrom (z3.heap.objs.size + 1) scope.names (cloFrom X.env.cells scope.names [])) fp
  have ppv := hv z3 G3 z3.heap.objs.size (cellsFrom (z3.heap.objs.size + 1) scope.names (cloFrom X.env.cells scope.names [])) fp
  generalize eE : compEnvC scope (cellsFrom (z3.heap.objs.size + 1) scope.names (cloFrom X.env.cells scope.names [])) z3.heap.objs.size X.env = ce at I4 ppg ppt ppk ppv ⊢
  have loc : ce.locals = z3.heap.objs.size := by subst eE; rfl
  generalize e4 : ({ z3 with heap := pushCells (z3.heap.push { cls := .type "dict", data := .dict #[] }) scope.names } : Shared) = z4 at I4 ⊢
  have at4 : tn 0 z4.heap := T.keep _ _ _ at3 fun b _ o q => by subst e4; exact pushCells_keeps _ _ _ _ (Heap.get?_push_of_some _ q)
  let B : Cx := X.blk z3 G3 scope ce fp
  have calmB : B.calm = true := hc
  -- what is the same at each turn's begin
  let At : Nat → Nat → Hp → Shared → Prop := fun i m G' z' => Inv B [] (wipe σ (own.map (·.2))) G' z' ∧ tn i z'.heap ∧ (∀ b ∈ fp, G' b = none) ∧ W i m G'
  have fps : ∀ {τ : St} {G' : Hp} {z' : Shared}, Inv B [] τ G' z' → (∀ b ∈ fp, G' b = none) → ∀ b ∈ fp, FpOk B [] G' b := fun {τ G' z'} I' no b hb =>
    ⟨no b hb, (I'.ok.exf b hb).1, I'.ok.exfs b hb, .inl hb, fun _ c q => (I'.ok.exf b hb).2 _ c q, fun p hp => absurd (show p ∈ (([] : List (Addr × Obj)) ++ ([] : List (Addr × Obj))) from hp) List.not_mem_nil⟩
  have whole : codeAny (model X.prog X.w) X.A (.compLoop (.DictComp kx vx [⟨tg, iter, ifs, 0⟩] scope pos) 0 (.ref it) (.ref D) ce) (compPost (model X.prog X.w) X.A X.xe use Qf (.ref D) z3.heap.objs.size) z4 := by
    refine compLoop_anyD (fun m z' => ∃ i G', At i m G' z') (fun m z' ⟨i, G', I', at', no, w'⟩ => ?_) m0 ⟨0, G3, I4, at4, fun b hb => (fresh3 b hb).1.1, start⟩
    rcases turn i m G' w' with ⟨stop, won⟩ | ⟨more, Nx, next, step⟩
    · refine thnF (T.done B rfl rfl rfl calmB i [] z' _ G' (fun _ _ => False) I' (fps I' no) at' stop) fun r z5 ⟨er, I5⟩ => ?_
      subst er
      have outer : Inv X ps σ G' z5 := I3.call' (ch := fp) I5.os I5.base I5.hok I5.bare fun b hb =>
        let q := (fresh3 b hb).1.2
        ⟨q.2.2.1, q.1, q.2.2.2.1, q.2.2.2.2⟩
      have freeC : G' z3.heap.objs.size = none := loc ▸ (show G' ce.locals = none from I5.free)
      obtain ⟨mm, ns, _⟩ := I5.loc
      have ns : z5.heap.Ns z3.heap.objs.size mm := loc ▸ (show z5.heap.Ns ce.locals mm from ns)
      exact hRR D z3.heap.objs.size z5 mm G' outer won ns (I3.fpOk (Nat.le_refl _) freeC |> fun f => f)
    · refine thnF (T.item B rfl rfl rfl calmB i [] z' _ G' (fun _ _ => False) I' (fps I' no) at' more) fun r z5 ⟨u, er, then5⟩ => ?_
      subst er
      refine thnF then5 fun _ z6 ⟨x, G6, I6, r6, y6, at6, no6⟩ => ?_
      refine thnF (ppg.run _ z6 _ G6 x u _ (I6.pinned (fps I6 no6) (T.obj _ _ at6)) r6 (step x G6 y6)) fun _ z7 ⟨τ, G7, I7, wiped, q7⟩ => ?_
      refine thnF (ppt.run _ z7 τ G7 _ I7 q7) fun b z8 ⟨G8, I8, q8⟩ => ?_
      have onward : ∀ {z9 : Shared} {G9 : Hp}, Inv B ([] ++ pinsAt fp z6.heap) τ G9 z9 → Nx G9 → ∃ m', m' < m ∧ ∃ i G', At i m' G' z9 := fun {z9 G9} I9 nx => by
        obtain ⟨m', lt, w9⟩ := next G9 nx
        have held : ∀ b ∈ fp, ∀ o, z6.heap.get? b = some o → z9.heap.get? b = some o ∧ G9 b = none := fun b hb o q =>
          have pin := I9.pin (b, o) (List.mem_append_right _ (List.mem_append_right _ (mem_pinsAt hb q)))
          ⟨pin.1, pin.2.1⟩
        have len : (wipe σ (own.map (·.2))).length = τ.length := by rw [← wiped, wipe_length]
        refine ⟨m', lt, i + 1, G9, (I9.unpinned (pins := [])).weak len (fun j v q => (wipe_some (wiped.symm ▸ q : (wipe τ (own.map (·.2)))[j]? = some (some v))).1), T.keep _ _ _ at6 fun b hb o q => (held b hb o q).1, fun b hb => ?_, w9⟩
        obtain ⟨o, q, _⟩ := T.obj _ _ at6 b hb
        exact (held b hb o q).2
      cases b with
      | false =>
        rw [if_neg (by decide)] at q8 ⊢
        exact onward I8 q8
      | true =>
        rw [if_pos rfl] at q8 ⊢
        refine thnF (ppk.run _ z8 τ G8 _ I8 q8) fun ku z9 ⟨y, G9, I9, r9, q9⟩ => ?_
        refine thnF (ppv.run _ z9 τ G9 _ I9 q9) fun vu z10 ⟨v, G10, I10, r10, kvs, k, c, ec, e1, e2, e3', nx⟩ => ?_
        subst ec
        exact putT_set (Y := B) hu I10 e2 e3' e1 r9 r10 fun z11 I11 => onward I11 nx
  exact codeAny_compStart_dict whole (T.self X.A 0 _ _ _ at4 whole)
theorem sw_trueD {kx vx : Expr} {gs : List Comprehension} {scope : Scope} {pos py : Pos} {y : Str} {l : Nat} {env : Env} (hk : env.scope.kind = .function) (hy : env.scope.names.lookup y = some .local) (hl : (py.line == pos.line) = true)
    (ha : (scope.names.any fun (n, k) => n == y && (k == .local || k == .cell)) = false) : swapsWith (.DictComp kx vx gs scope pos) (some (.Name y py)) l env = pure true := by
  have ky : env.kindOf y = some .local := hy
  have hb : env.blockKind = .function := by unfold Env.blockKind; rw [hk]; rfl
  unfold swapsWith
  simp only [hb, ky, ha, Expr.pos, hl]
  rfl
theorem ps_setDcT {i : Nat} {y : Str} {py : Pos} {kx vx tg iter : Expr} {ifs : List Expr} {scope : Scope} {own : List (Str × Nat)} {pos spos : Pos} {wi : TI} {g : TG} {tt : TT} {tk tv : TE} (hc : X.calm = true) (hu : X.A.units + 1 < cLine) (hN : X.N.Nodup) (hy : X.N[i]? = some y) (hyl : X.env.scope.names.lookup y = some .local)
    (hsw : swapsWith (.DictComp kx vx [⟨tg, iter, ifs, 0⟩] scope pos) (some (.Name y py)) spos.line X.env = pure true) (hi : PI X tg iter wi) (ok : BlkOk X.N X.env.scope scope own)
    (hg : ∀ (z : Shared) (G : Hp) (C : Addr) (cl : List (Str × Addr)) (fp : List Addr), PG (X.blk z G scope (compEnvC scope cl C X.env) fp) tg g)
    (ht : ∀ (z : Shared) (G : Hp) (C : Addr) (cl : List (Str × Addr)) (fp : List Addr), PTs (X.blk z G scope (compEnvC scope cl C X.env) fp) ifs tt)
    (hk : ∀ (z : Shared) (G : Hp) (C : Addr) (cl : List (Str × Addr)) (fp : List Addr), PE (X.blk z G scope (compEnvC scope cl C X.env) fp) kx tk)
    (hv : ∀ (z : Shared) (G : Hp) (C : Addr) (cl : List (Str × Addr)) (fp : List Addr), PE (X.blk z G scope (compEnvC scope cl C X.env) fp) vx tv) (hf : ∀ x, foldedSetIterable iter X.env x = pure x := by intro _; rfl) :
    PS X (.Assign [.Name y py] (.DictComp kx vx [⟨tg, iter, ifs, 0⟩] scope pos) spos) (tAsg (tDcT wi g tt tk tv (own.map (·.2))) (gName i)) := by
  refine ⟨fun pins s σ H D I h => ?_⟩
  rw [exec_Assign_Name_used _ _ _ _ hsw]
  refine wpAny_bind (wpAny_standAt (wpAny_bind ?_))
  have h : tDcT wi g tt tk tv (own.map (·.2)) σ H (fun x H1 => gName i x σ H1 D.nx) := h
  show wpAny _ X.A (do let _ ← comprehension (.DictComp kx vx [⟨tg, iter, ifs, 0⟩] scope pos) scope X.env (firstIterPos [⟨tg, iter, ifs, 0⟩] pos) (newObj (.type "dict") (.dict #[])) false (eval iter X.env) (some (assign (.Name y py) X.env))) _ _ s
  refine wpAny_bind (thn (dcT_core (Qf := fun _ s' => SP X pins D .next s') rfl hc hu hN I hi ok hg ht hk hv hf h fun L C s' m H' I' q hn f => ?_) fun _ s' hq => wpAny_pure (wpAny_pure hq))
  show wpAny _ _ (assign (.Name y py) X.env (.ref L)) _ _ _
  refine wpAny_assign_Name (store_ok2 (v := V.ref L) I' hN hy (.inl hyl) rfl (fun s2 I2 ⟨a, sb, ha⟩ => ?_) (.inr hyl))
  obtain ⟨f0, f1, f2, f3, f4, f5⟩ := f
  have haC : C ≠ a := by
    rcases ha with z | z
    · rw [z]; exact f1
    · exact fun e => f4 y a z e.symm
  refine ⟨m, hn.sameBut sb haC, fun h3 sb3 => ?_⟩
  exact ⟨_, H', I2.turned (t' := s2.toks) (fun b o hb e => (sb3.2 b hb).trans e) f0 f1 f3 f4 f5, q⟩
end
end L2
set_option Elab.async false
set_option linter.all false
set_option maxRecDepth 100000
set_option maxHeartbeats 4000000
namespace KG
open PySem L2
section
variable {P : Program} {w : World} {K : PySem.W.Frag} {mg : Str → Option Value} {base : Heap} {C DC : Addr}
abbrev s_stuck : Stmt := top 52
abbrev nSt : List Str := ["draw", "pairs", "moves", "able", "s", "t", "pair", "_", "leads", "state"]
theorem sc_stuck : FnScope nSt ["draw"] (defScope s_stuck) := ⟨rfl, rfl, rfl, by decide +kernel, rfl, by decide +kernel, by decide +kernel⟩
theorem ok_stuck {f : Addr} {fd : FuncData} (F : Fun K "stuck" "stuck" s_stuck f fd) (T : Bm mg) (t : DrT K mg DC) (c_halves : Cal P w K mg base 2 "halves" ["many"] spHalves) (c_half : Cal P w K mg base 1 "half" ["pair"] spHalf) (c_able : Cal P w K mg base 2 "able_places" ["moves", "places", "goals"] spAbleP) : FnOk P w K mg base CX0 3 f fd ["draw"] (spStuck DC) := by
  refine F.ok sc_stuck (fun vs H Q E h => ?_) (fun cdv A outer s H vs Q E hr h => ?_)
  · obtain ⟨x, n, ps, rfl, _⟩ := h
    rfl
  · obtain ⟨x, n, ps, rfl, n1, n8, p4, dr, k⟩ := h
    have hu := hu_of hr
    refine ⟨_, (pss_cons (ps_set (i := 1) sc_stuck.nd rfl (Or.inl rfl) (pe_cal c_halves (hr.mono (by decide)) rfl (pa_cons (pe_fld (pv 0) rfl) pa_nil)))
      (pss_cons (ps_setDcT (i := 2) (own := [("s", 4), ("t", 5)]) (g := gTup K 2 (gCons (gName 4) (gCons (gName 5) gNil))) rfl (by exact hu) sc_stuck.nd rfl rfl (sw_trueD rfl rfl rfl (by decide +kernel)) (pi_list (pv 1)) (blkOk_by (N := nSt) (sc := defScope s_stuck) (by decide +kernel)) (fun _ _ _ _ _ => (pg_tup (by rfl) (pgs_cons (pg_name (i := 4) sc_stuck.nd rfl (Or.inr rfl)) (pgs_cons (pg_name (i := 5) sc_stuck.nd rfl (Or.inr rfl)) pgs_nil))))
          (fun _ _ _ _ _ => pts_nil) (fun _ _ _ _ _ => (pe_tup (pa_cons (pv 4) (pa_cons (pv 5) pa_nil))))
          (fun _ _ _ _ _ => (pe_lc (own := [("_", 7), ("leads", 8)]) (g := gTup K 2 (gCons (gName 7) (gCons (gName 8) gNil))) rfl sc_stuck.nd (show PI _ _ _ (iTup K (tFld K (tVar 0) "parts")) from pi_tup (pe_fld (pv 0) rfl)) (blkOk_by (by rfl)) (fun _ _ _ _ _ => (pg_tup (by rfl) (pgs_cons (pg_name (i := 7) sc_stuck.nd rfl (Or.inl rfl)) (pgs_cons (pg_name (i := 8) sc_stuck.nd rfl (Or.inl rfl)) pgs_nil)))) (fun _ _ _ _ _ => pts_nil)
            (fun _ _ _ _ _ => (pe_cal c_half (hr.mono (by decide)) rfl (pa_cons (pe_tup (pa_cons (pe_ix (show IxR _ (rIx K) from ix_seq) (pv 8) (pv 4) (fun _ _ => rfl)) (pa_cons (pe_ix (show IxR _ (rIx K) from ix_seq) (pv 8) (pv 5) (fun _ _ => rfl)) pa_nil))) pa_nil))))))
      (pss_cons (ps_set (i := 3) sc_stuck.nd rfl (Or.inr rfl) (pe_cal c_able (hr.mono (by decide)) rfl (pa_cons (pv 2) (pa_cons (pv 1) (pa_cons (pe_lc (own := [("state", 9)]) rfl sc_stuck.nd (pi_range1 (by rfl) T.n_range (pa_cons (pe_fld (pv 0) rfl) pa_nil)) (blkOk_by (N := nSt) (sc := defScope s_stuck) (by decide +kernel)) (fun _ _ _ _ _ => (pg_name (i := 9) sc_stuck.nd rfl (Or.inl rfl))) (fun _ _ _ _ _ => pts_nil) (fun _ _ _ _ _ => (pe_tup (pa_cons (pv 9) (pa_cons (pv 9) pa_nil))))) pa_nil)))))
      (pss_one (ps_ret (pe_lc (own := [("pair", 6)]) rfl sc_stuck.nd (pi_list (pv 1)) (blkOk_by (N := nSt) (sc := defScope s_stuck) (by decide +kernel)) (fun _ _ _ _ _ => (pg_name (i := 6) sc_stuck.nd rfl (Or.inl rfl))) (fun _ _ _ _ _ => (pts_one (pt_cmpR (show OpR _ _ (rNotInD K) from op_notInD (by exact un65 hr)) (pv 6) (pv 3) (by rfl)))) (fun _ _ _ _ _ => (pv 6)))))))), ?_⟩
    obtain ⟨dx, pt, ex, ep, ip⟩ := id dr
    refine ⟨_, rfl, x, DC, dx, _, _, rfl, ex, t.it.cl, t.nS, drF_size _ _, n, rfl, n8, fun l pl H1 s1 el ppl qpl => ?_⟩
    refine ⟨_, rfl, l, rfl, ⟨_, SqL.of el⟩, fun D nD => ?_⟩
    have nd : (pl.map (·.2)).Nodup := by
      rw [qpl]
      exact (by decide +kernel : ∀ n : Fin 9, (hvs n.1).Nodup) ⟨n, by omega⟩
    have l64 : pl.length ≤ 64 := by
      have := congrArg List.length qpl
      rw [List.length_map] at this
      rw [this]
      exact (by decide +kernel : ∀ n : Fin 9, (hvs n.1).length ≤ 64) ⟨n, by omega⟩
    generalize hws : mpD ps = wss at k
    have lw : wss.length = ps.length := by rw [← hws, List.length_map]
    have mw : ∀ ws ∈ wss, IsMap n ws := fun ws m => by
      rw [← hws] at m
      obtain ⟨p, mp, rfl⟩ := List.mem_map.mp m
      exact (ip p mp).2.2
    have nDH := s1.free nD
    refine dcT_it (walk_list (K := K) (a := l) (xs := rfs pl)) (fun i H' => Same H1 H' ∧ ∃ ms : List (Addr × (Nat × Nat) × List Pt), H' D = some (.dT (kvE ms)) ∧ (ms.map fun e => e.2.1) = (pl.take i).map (·.2) ∧ ∀ e ∈ ms, H' e.1 = some (.lst (rfs e.2.2)) ∧ Pts H' e.2.2 ∧ e.2.2.map (·.2) = ldP wss e.2.1)
      ⟨Same.put nD, [], upd_same, rfl, fun _ m => by cases m⟩ (fun i H' _ h => SqL.of (h.1 _ _ el)) ?_ ?_
    · rintro i y H'' H' hi ⟨s2, ms, eD, qm, im⟩ ⟨rfl, hy⟩
      obtain ⟨r, hr2, mr, rfl⟩ := rfs_at hy
      have il := (List.getElem?_eq_some_iff.mp hr2).1
      refine ⟨r.1, prV r.2, rfl, SqT.of (s2 _ _ (ppl r mr)), rfl, _, _, rfl, _, _, rfl, rfl, rfl, yes_of ?_⟩
      refine ⟨_, rfl, _, rfl, by show 2 ≤ sizeLine; decide, fun c nc => ?_⟩
      have sc := Same.put (o := .tup (prV r.2)) nc
      have ec : (upd H' c (.tup (prV r.2))) c = some (.tup (prV r.2)) := upd_same
      generalize (upd H' c (.tup (prV r.2))) = H3 at sc ec ⊢
      have s03 := (s1.trans s2).trans sc
      refine ⟨_, rfl, x, DC, dx, _, _, rfl, s03 _ _ ex, t.it.cl, t.nP, drF_parts _ _, pt, rfl, ⟨_, SqT.of (s03 _ _ ep)⟩, fun B nB => ?_⟩
      have mh := mem_hvs.mp (show r.2 ∈ hvs n by rw [← qpl]; exact List.mem_map_of_mem mr)
      refine lc_tup (K := K) (a := pt) (xs := rfs ps) (fun j H' => Same H3 H' ∧ ∃ vs : List Pt, H' B = some (.lst (rfs vs)) ∧ Pts H' vs ∧ vs.map (·.2) = (ldP wss r.2).take j) ⟨Same.put nB, [], upd_same, fun _ m => (by cases m), rfl⟩ (fun j H' _ h => SqT.of (h.1 _ _ (s03 _ _ ep))) ?_ ?_
      · rintro j y H4 hy ⟨s4, vs, eB, pvs, qv⟩
        obtain ⟨p, hp, mp, rfl⟩ := rfs_at hy
        have jl := (List.getElem?_eq_some_iff.mp hp).1
        have dp := (ip p mp).same (s03.trans s4)
        have gm : ∀ q, q < n → p.2.2.2[q]? = some (mA wss j q) := fun q hq => by
          have : q < p.2.2.2.length := by rw [dp.2.2.1]; exact hq
          show _ = some ((wss.getD j []).getD q 0)
          rw [← hws, show (mpD ps).getD j [] = p.2.2.2 by rw [List.getD, List.getElem?_map, hp]; rfl, List.getD, List.getElem?_eq_getElem this]
          rfl
        refine ⟨p.1, [.ref p.2.1, .ref p.2.2.1], rfl, SqT.of dp.1, rfl, _, _, rfl, _, _, rfl, rfl, rfl, yes_of ?_⟩
        refine ⟨_, rfl, _, rfl, .inr (.inl ⟨p.2.2.1, _, _, _, rfl, rfl, SqT.of dp.2.1, atI_nat (cV_at (gm r.2.1 (by omega))), _, rfl, _, rfl, .inr (.inl ⟨p.2.2.1, _, _, _, rfl, rfl, SqT.of dp.2.1, atI_nat (cV_at (gm r.2.2 mh.2)), ?_⟩)⟩)⟩
        refine ⟨by show 2 ≤ sizeLine; decide, fun b nb => ?_⟩
        have sb := Same.put (o := .tup (prV (mA wss j r.2.1, mA wss j r.2.2))) nb
        refine ⟨b, (mA wss j r.2.1, mA wss j r.2.2), rfl, upd_same, fun u H5 s5 eu => ?_⟩
        have s45 := sb.trans s5
        have eB5 := s45 _ _ eB
        have lv : vs.length ≤ 4 := by
          have := congrArg List.length qv
          rw [List.length_map, List.length_take] at this
          omega
        refine ⟨_, eB5, by rw [rfs_len]; exact small_len (by omega), Same.but (fun b u e => s45 _ _ (s4 _ _ e)) nB, vs ++ [(u, Dw.half (mA wss j r.2.1) (mA wss j r.2.2))], by rw [upd_same, rfs_snoc], Pts.lstU (Pts.snoc (pvs.same s45) eu) eB5, ?_⟩
        have hh : (ldP wss r.2)[j]? = some (Dw.half (mA wss j r.2.1) (mA wss j r.2.2)) := by
          unfold ldP
          rw [List.getElem?_map, List.getElem?_range (by omega)]
          rfl
        rw [List.map_append, qv, take_more hh]
        rfl
      · rintro H4 ⟨s4, vs, eB, pvs, qv⟩
        rw [rfs_len, ← lw, show wss.length = (ldP wss r.2).length by unfold ldP; rw [List.length_map, List.length_range], List.take_length] at qv
        have nin : r.2 ∉ ms.map fun e => e.2.1 := by rw [qm]; exact notin_take nd hr2
        have ml : ms.length ≤ 64 := by
          have := congrArg List.length qm
          rw [List.length_map, List.length_map, List.length_take] at this
          omega
        have eD4 := s4 _ _ (sc _ _ eD)
        have noD : ∀ {a : Addr} {u : HO}, H4 a = some u → (∀ kvs, u ≠ .dT kvs) → a ≠ D := fun e h z => by rw [z, eD4] at e; exact h _ (Option.some.inj e).symm
        refine ⟨kvE ms, kp r.2, c, rfl, s4 _ _ ec, eD4, by rw [kvE_len]; exact small_len (by omega), Same.but (fun b u e => s4 _ _ (sc _ _ (s2 _ _ e))) nD, ms ++ [(B, r.2, vs)], ?_, ?_, fun e m => ?_⟩
        · rw [upd_same]
          exact congrArg (fun x => some (HO.dT x)) (put_new nin)
        · rw [List.map_append, qm, take_more hr2, List.map_append]
          rfl
        · have k4 : H4 e.1 = some (.lst (rfs e.2.2)) ∧ Pts H4 e.2.2 ∧ e.2.2.map (·.2) = ldP wss e.2.1 := by
            rcases List.mem_append.mp m with m | m
            · obtain ⟨z1, z2, z3⟩ := im e m
              exact ⟨s4 _ _ (sc _ _ z1), (z2.same sc).same s4, z3⟩
            · rw [List.mem_singleton.mp m]; exact ⟨eB, pvs, qv⟩
          refine ⟨by rw [upd_ne (noD k4.1 (fun _ z => by cases z))]; exact k4.1, fun u mu => ?_, k4.2.2⟩
          rw [upd_ne (noD (k4.2.1 u mu) (fun _ z => by cases z))]
          exact k4.2.1 u mu
    · rintro H2 ⟨s2, ms, eD, qm, im⟩
      rw [rfs_len, List.take_length] at qm
      have s12 := s1.trans s2
      have mv : MvP H2 D (pl.map (·.2)) (ldP wss) := ⟨ms, eD, by rw [qm]; exact nd, fun p mp => by
        rw [← qm] at mp
        obtain ⟨e, me, rfl⟩ := List.mem_map.mp mp
        obtain ⟨z1, z2, z3⟩ := im e me
        exact ⟨e, me, rfl, z1, z2, z3⟩⟩
      refine ⟨_, rfl, _, rfl, _, rfl, x, DC, dx, _, _, rfl, s12 _ _ ex, t.it.cl, t.nS, drF_size _ _, _, rfl, by omega, by omega, fun G nG => ?_⟩
      rw [Int.toNat_natCast]
      refine lc_range (fun i H' => Same H2 H' ∧ ∃ gl : List Pt, H' G = some (.lst (rfs gl)) ∧ Pts H' gl ∧ gl.map (·.2) = (List.range i).map fun s => (s, s)) ⟨Same.put nG, [], upd_same, fun _ m => (by cases m), rfl⟩ ?_ ?_
      · rintro i H3 hi ⟨s3, gl, eG, pG, qG⟩
        rw [Int.zero_add]
        refine ⟨rfl, yes_of ?_⟩
        refine ⟨_, rfl, _, rfl, by show 2 ≤ sizeLine; decide, fun b nb => ?_⟩
        have sb := Same.put (o := .tup (prV (i, i))) nb
        have gll : gl.length ≤ 8 := by
          have := congrArg List.length qG
          rw [List.length_map, List.length_map, List.length_range] at this
          omega
        refine ⟨rfs gl, sb _ _ eG, by rw [rfs_len]; exact small_len (by omega), Same.but (fun b u e => sb _ _ (s3 _ _ e)) nG, gl ++ [(b, (i, i))], by rw [upd_same, rfs_snoc], Pts.lstU (Pts.snoc (pG.same sb) upd_same) (sb _ _ eG), ?_⟩
        rw [List.map_append, qG, List.range_succ, List.map_append]
        rfl
      · rintro H3 ⟨s3, gl, eG, pG, qG⟩
        have s13 := s2.trans s3
        refine ⟨D, l, G, pl, gl, ldP wss, rfl, mv.same s3, s13 _ _ el, ppl.same s13, nd, l64, fun p _ => ?_, eG, pG, fun r us S H4 s4 er pus qus rk cl => ?_⟩
        · unfold ldP
          rw [List.length_map, List.length_range]
          omega
        have hS : Dw.AbleS n wss.length (mA wss) S := able_of mw (by rw [qpl, qG] at rk; exact rk) (fun p mp ns => by rw [qpl, qG] at cl; exact cl p mp ns)
        have s14 := s13.trans s4
        refine ⟨_, rfl, l, rfl, ⟨_, SqL.of (s14 _ _ el)⟩, fun R nR => ?_⟩
        refine lc_list (K := K) (a := l) (xs := rfs pl) (fun i H' => Same H4 H' ∧ ∃ vs : List Pt, H' R = some (.lst (rfs vs)) ∧ Pts H' vs ∧ vs.map (·.2) = ((pl.take i).map (·.2)).filter fun p => !decide (p ∈ S)) ⟨Same.put nR, [], upd_same, fun _ m => (by cases m), rfl⟩ (fun i H' _ h => SqL.of (h.1 _ _ (s14 _ _ el))) ?_ ?_
        · rintro i y H5 hy ⟨s5, vs, eR, pvs, qv⟩
          obtain ⟨q, hq, mq, rfl⟩ := rfs_at hy
          have il := (List.getElem?_eq_some_iff.mp hq).1
          have eq := s5 _ _ (s14 _ _ (ppl q mq))
          have take : (pl.take (i + 1)).map (·.2) = (pl.take i).map (·.2) ++ [q.2] := by rw [take_more hq, List.map_append]; rfl
          have mqp : q.2 ∈ pl.map (·.2) := List.mem_map_of_mem mq
          refine ⟨rfl, ?_⟩
          refine ⟨_, rfl, _, rfl, dI (iW (pN q.2)), _, dp_tupN (ws := pN q.2) (SqT.of eq), .lst (SqL.of (s5 _ _ er)) (Pts.dp (pus.same s5)), sh_dI _, sh_list _, _, rfl, ?_⟩
          rw [any_dP, qus]
          have dd : decide (q.2 ∈ (pl.map (·.2)).filter fun p => decide (p ∈ S)) = decide (q.2 ∈ S) := by
            rw [decide_eq_decide, List.mem_filter, decide_eq_true_eq]
            exact ⟨fun h => h.2, fun h => ⟨mqp, h⟩⟩
          rw [dd]
          by_cases c : q.2 ∈ S
          · refine iteFe (by rw [decide_eq_true c]; rfl) ⟨s5, vs, eR, pvs, ?_⟩
            rw [qv, take, List.filter_append]
            simp [c]
          · refine iteTe (by rw [decide_eq_false c]; rfl) ?_
            have vl : vs.length ≤ 64 := by
              have := congrArg List.length qv
              rw [List.length_map] at this
              have h2 := List.length_filter_le (fun p : Nat × Nat => !decide (p ∈ S)) ((pl.take i).map (·.2))
              rw [List.length_map, List.length_take] at h2
              omega
            refine ⟨_, rfl, _, eR, by rw [rfs_len]; exact small_len (by omega), Same.but s5 nR, vs ++ [q], by rw [upd_same, rfs_snoc], Pts.lstU (Pts.snoc pvs eq) eR, ?_⟩
            rw [List.map_append, qv, take, List.filter_append]
            simp [c]
        · rintro H5 ⟨s5, vs, eR, pvs, qv⟩
          rw [rfs_len, List.take_length, qpl] at qv
          exact k R vs S H5 ((s1.trans s14).trans s5) ((s1.trans s14).free nR) eR pvs (by rw [← lw]; exact hS) qv
end
end KG
set_option Elab.async false
set_option linter.all false
set_option maxRecDepth 100000
set_option maxHeartbeats 4000000
namespace KG
open PySem L2
theorem all_true (n : Nat) : (List.replicate n true).all id = true := List.all_eq_true.mpr fun b m => List.eq_of_mem_replicate m
theorem refs_rep {i : Nat} : (List.replicate i true).map V.bl ++ [V.bl true] = (List.replicate (i + 1) true).map V.bl := by
  rw [List.replicate_succ', List.map_append]
  rfl
theorem spr_ok {ws : List Nat} : sprB (ws.sum : Int) (ws.map fun k : Nat => some (k : Int)) = true := by
  unfold sprB
  rw [Bool.and_eq_true]
  refine ⟨List.all_eq_true.mpr fun b m => ?_, decide_eq_true ?_⟩
  · rw [List.map_map] at m
    obtain ⟨k, _, rfl⟩ := List.mem_map.mp m
    show decide ((0 : Int) ≤ (k : Int)) = true
    exact decide_eq_true (by omega)
  · rw [List.map_map]
    exact sum_ints ws
theorem items_of {K : PySem.W.Frag} {C : Addr} {H : Hp} {n : Nat} {ws : List Nat} {xs : List V} (h : Nums C (ws.sum : Int) H xs (iW ws)) (t : Tps n ws) : Items K C (ws.sum : Int) H xs (ws.map fun k : Nat => some (k : Int)) := by
  refine ⟨by rw [h.1, List.length_map, List.length_map], fun i x e => ?_⟩
  obtain ⟨S, hS, nx⟩ := h.2 i x e
  have hS : (ws.map fun k : Nat => (k : Int))[i]? = some S := hS
  rw [List.getElem?_map] at hS
  cases q : ws[i]? with
  | none => rw [q] at hS; cases hS
  | some w =>
    rw [q] at hS
    cases Option.some.inj hS
    refine ⟨some (w : Int), by rw [List.getElem?_map, q]; rfl, nx, ?_⟩
    rw [Int.natAbs_natCast]
    exact Nat.lt_trans (t.2.2 w (List.mem_of_getElem? q)) (by decide +kernel)
theorem shF_top' (t n : Int) : (shF t n).lookup ("top" : Str) = some (.int t) := by
  unfold shF
  rw [lookup_putF, if_neg (by decide +kernel), lookup_putF, if_pos rfl]
theorem RowIn.upx {C CC x dx : Addr} {H : Hp} {fs : List (Str × V)} {n : Nat} {r : Addr × List Nat} {o : HO} (h : RowIn C H n r) (ex : H x = some (.ins CC dx fs)) (nf : fs.lookup ("top" : Str) = none) : RowIn C (upd H x o) n r := by
  obtain ⟨xs, h1, h2, h3⟩ := h
  refine ⟨xs, by rw [upd_ne (fun z => by rw [z, ex] at h1; cases h1)]; exact h1, ⟨h2.1, fun i v e => ?_⟩, h3⟩
  obtain ⟨S, e2, nx⟩ := h2.2 i v e
  refine ⟨S, e2, ?_⟩
  rcases nx with nx | ⟨a, dy, e3, nx⟩
  · exact .inl nx
  · refine .inr ⟨a, dy, e3, ?_⟩
    rw [upd_ne (fun z => ?_)]
    · exact nx
    · rw [z, ex] at nx
      have e4 := HO.ins.inj (Option.some.inj nx)
      rw [e4.2.2, shF_top'] at nf
      cases nf
theorem RowSh.upx {C CC x dx : Addr} {H : Hp} {fs : List (Str × V)} {n : Nat} {r : Addr × List Nat} {o : HO} (h : RowSh C H n r) (ex : H x = some (.ins CC dx fs)) (nf : fs.lookup ("top" : Str) = none) : RowSh C (upd H x o) n r := by
  obtain ⟨as, h1, h2, h3, h4⟩ := h
  refine ⟨as, by rw [upd_ne (fun z => by rw [z, ex] at h1; cases h1)]; exact h1, h2, h3, fun i a e => ?_⟩
  obtain ⟨dy, w, q1, q2⟩ := h4 i a e
  refine ⟨dy, w, q1, ?_⟩
  rw [upd_ne (fun z => ?_)]
  · exact q2
  · rw [z, ex] at q2
    have e4 := HO.ins.inj (Option.some.inj q2)
    rw [e4.2.2, shF_top'] at nf
    cases nf
section
variable {P : Program} {w : World} {K : PySem.W.Frag} {mg : Str → Option Value} {base : Heap} {C CC B : Addr}
abbrev s_CI : Stmt := inClass (top 35) 0
abbrev nCI : List Str := ["self", "rows", "labels", "row", "label"]
theorem sc_CI : FnScope nCI ["self", "rows", "labels"] (defScope s_CI) := ⟨rfl, rfl, rfl, by decide +kernel, rfl, by decide +kernel, by decide +kernel⟩
abbrev XCI (P : Program) (w : World) (K : PySem.W.Frag) (mg : Str → Option Value) (base : Heap) (f : Addr) (cdv : Value) (A : Around) (outer : List Env) (s : Shared) (H : Hp) (E : XK) : Cx :=
  (cxOf CX0 P w K mg base nCI "Chain.__init__" (defScope s_CI) f cdv A outer s H E).nox
/-- the fields -/
theorem segCI3 {f : Addr} {cdv : Value} {A : Around} {outer : List Env} {s : Shared} {H : Hp} {E : XK} {Q : VK} (T : Bm mg) (t : ChT K mg CC) (c_sh : Cal P w K mg base 7 "shares_of" ["row"] (spSharesOf C)) (hr : Room 7 (XCI P w K mg base f cdv A outer s H E).A) :
    ∃ u, PSs (XCI P w K mg base f cdv A outer s H E) ((defBody s_CI).drop 2) u ∧ ∀ (x dx T0 lb : Addr) (n : Nat) (rs : List (Addr × List Nat)) (G : Hp), G x = some (.ins CC dx []) → n ≤ 8 → G T0 = some (.tup (rfs rs)) → rs.length = n → (∀ r ∈ rs, RowIn C G n r) →
      (∀ (T2 : Addr) (rs2 : List (Addr × List Nat)) (H2 : Hp), Same G H2 → H2 T2 = some (.tup (rfs rs2)) → rs2.length = n → (∀ r ∈ rs2, RowSh C H2 n r) → rs2.map (·.2) = rs.map (·.2) → Q .non (upd H2 x (.ins CC dx (chF n T2 lb)))) →
      u { nx := fun _ H' => Q .non H', rt := Q } [some (.ref x), some (.ref T0), some (.ref lb), none, none] G := by
  refine ⟨_, (pss_cons (ps_fld (pv 0) (pe_callB call_len_seq (by rfl) T.b.n_len PySem.boot_len (pa_cons (pv 1) pa_nil)) rfl)
    (pss_cons (ps_fld (pv 0) (pe_callTy call_tuple_of (by rfl) T.n_tuple (by decide +kernel) (pa_cons (pe_lc (own := [("row", 3)]) rfl sc_CI.nd (pi_tup (pv 1)) (blkOk_by (N := nCI) (sc := defScope s_CI) (by decide +kernel)) (fun _ _ _ _ _ => (pg_name (i := 3) sc_CI.nd rfl (Or.inl rfl))) (fun _ _ _ _ _ => pts_nil) (fun _ _ _ _ _ => (pe_cal c_sh (hr.mono (by decide)) rfl (pa_cons (pv 3) pa_nil)))) pa_nil)) rfl)
    (pss_one (ps_fld (pv 0) (pv 2) rfl)))), ?_⟩
  intro x dx T0 lb n rs G ex n8 eT lr rw_ k
  refine ⟨_, rfl, T0, _, rfl, .inr (SqT.of eT), ?_⟩
  rw [rfs_len, lr]
  refine ⟨_, rfl, x, CC, dx, [], rfl, ex, t.it.cl, t.nS, by show 0 < 1000; decide, ?_⟩
  have eT1 : (upd G x (.ins CC dx (putF "size" (.int (n : Int)) []))) T0 = some (.tup (rfs rs)) := by rw [upd_ne (fun z => by rw [z, ex] at eT; cases eT)]; exact eT
  have rw1 : ∀ r ∈ rs, RowIn C (upd G x (.ins CC dx (putF "size" (.int (n : Int)) []))) n r := fun r m => (rw_ r m).upx ex rfl
  have ex1 : (upd G x (.ins CC dx (putF "size" (.int (n : Int)) []))) x = some (.ins CC dx (putF "size" (.int (n : Int)) [])) := upd_same
  refine ⟨_, rfl, T0, rfl, ⟨_, SqT.of eT1⟩, fun D nD => ?_⟩
  have nDG : G D = none := by
    by_cases e : D = x
    · rw [e, ex1] at nD; cases nD
    · rw [upd_ne e] at nD; exact nD
  have xD : x ≠ D := fun z => by rw [z, nDG] at ex; cases ex
  refine lc_tup (K := K) (a := T0) (xs := rfs rs) (fun i H' => Same (upd G x (.ins CC dx (putF "size" (.int (n : Int)) []))) H' ∧ ∃ r2 : List (Addr × List Nat), H' D = some (.lst (rfs r2)) ∧ r2.length = i ∧ (∀ r ∈ r2, RowSh C H' n r) ∧ r2.map (·.2) = (rs.take i).map (·.2)) ⟨Same.put nD, [], upd_same, rfl, fun _ m => (by cases m), rfl⟩ (fun i H' _ h => SqT.of (h.1 _ _ eT1)) ?_ ?_
  · rintro i y H' hy ⟨s1, r2, eD, l2, h2, q2⟩
    obtain ⟨r, hr2, mr, rfl⟩ := rfs_at hy
    have il := (List.getElem?_eq_some_iff.mp hr2).1
    refine ⟨rfl, yes_of ?_⟩
    refine ⟨_, rfl, r.1, n, r.2, rfl, n8, (rw1 r mr).same s1, fun t2 H3 s3 sh => ?_⟩
    have up : ∀ (q : Addr × List Nat), RowSh C H3 n q → RowSh C (upd H3 D (.lst (rfs r2 ++ [V.ref t2]))) n q := by
      rintro q ⟨as, h1, h2', h3, h4⟩
      have e3 := s3 _ _ eD
      exact ⟨as, by rw [upd_ne (fun z => by rw [z, e3] at h1; cases h1)]; exact h1, h2', h3, fun j c hc => let ⟨dy, v, q1, q2⟩ := h4 j c hc; ⟨dy, v, q1, by rw [upd_ne (fun z => by rw [z, e3] at q2; cases q2)]; exact q2⟩⟩
    refine ⟨_, s3 _ _ eD, by rw [rfs_len]; exact small_len (by omega), Same.but (fun b u e => s3 _ _ (s1 _ _ e)) nD, r2 ++ [(t2, r.2)], by rw [upd_same, rfs_snoc], by rw [List.length_append, l2]; rfl, fun q m => ?_, ?_⟩
    · rcases List.mem_append.mp m with m | m
      · exact up q ((h2 q m).same s3)
      · rw [List.mem_singleton.mp m]; exact up _ sh
    · rw [List.map_append, q2, take_more hr2, List.map_append]
      rfl
  · rintro H2 ⟨s2, r2, eD, l2, h2, q2⟩
    rw [rfs_len] at l2 q2
    rw [List.take_length] at q2
    refine ⟨D, _, rfl, .inl ⟨SqL.of eD, fun T2 nT2 => ?_⟩⟩
    have sT := Same.put (o := .tup (rfs r2)) nT2
    have eT2 : (upd H2 T2 (.tup (rfs r2))) T2 = some (.tup (rfs r2)) := upd_same
    have ex2 := sT _ _ (s2 _ _ ex1)
    have xT2 : T2 ≠ x := fun z => by rw [z, s2 _ _ ex1] at nT2; cases nT2
    refine ⟨_, rfl, x, CC, dx, _, rfl, ex2, t.it.cl, t.nR, by show 1 < 1000; decide, ?_⟩
    refine ⟨_, rfl, _, rfl, x, CC, dx, _, rfl, upd_same, t.it.cl, t.nL, by show 2 < 1000; decide, ?_⟩
    rw [upd_upd]
    -- the heap without the fields: as it stood before
    have sG : Same G (upd (upd H2 T2 (.tup (rfs r2))) x (.ins CC dx [])) := fun b u e => by
      by_cases q : b = x
      · subst q
        rw [upd_same]
        rw [ex] at e
        exact e
      · rw [upd_ne q]
        exact sT _ _ (s2 _ _ (by rw [upd_ne q]; exact e))
    have kk := k T2 r2 _ sG (by rw [upd_ne xT2]; exact eT2) (by omega) (fun r m => ((h2 r m).same sT).upx ex2 rfl) q2
    rw [upd_upd] at kk
    exact kk
/-- is_tuple_between(least, most, thing), of a tuple that is so -/
def spTupBet : Sp := fun vs H Q _ => ∃ (l m : Int) (t : Addr) (xs : List V), vs = [.int l, .int m, .ref t] ∧ H t = some (.tup xs) ∧ l ≤ (xs.length : Int) ∧ (xs.length : Int) ≤ m ∧ Q (.bl true) H
/-- is_name_row(many, thing), of a tuple of so many names -/
def spNameRow : Sp := fun vs H Q _ => ∃ (lb : Addr) (ls : List Str) (n : Nat), vs = [.int (n : Int), .ref lb] ∧ H lb = some (.tup (sV ls)) ∧ Lbs n ls ∧ ls.length ≤ 8 ∧ ∀ H', Same H H' → Q (.bl true) H'
abbrev s_tupBet : Stmt := top 18
theorem sc_tupBet : FnScope ["least", "most", "thing"] ["least", "most", "thing"] (defScope s_tupBet) := ⟨rfl, rfl, rfl, by decide +kernel, rfl, by decide +kernel, by decide +kernel⟩
theorem ok_tupBet {f : Addr} {fd : FuncData} (F : Fun K "is_tuple_between" "is_tuple_between" s_tupBet f fd) (T : Bm mg) : FnOk P w K mg base CX0 1 f fd ["least", "most", "thing"] spTupBet := by
  refine F.ok sc_tupBet (fun vs H Q E h => ?_) (fun cdv A outer s H vs Q E hr h => ?_)
  · obtain ⟨l, m, t, xs, rfl, _⟩ := h
    rfl
  · obtain ⟨l, m, t, xs, rfl, e, h1, h2, k⟩ := h
    refine ⟨_, (pss_one (ps_ret (pe_and (pe_callB call_isi (by rfl) T.b.n_isinstance (by decide +kernel) (pa_cons (pv 2) (pa_cons (pe_bltn (v := .ty "tuple") rfl T.n_tuple (by decide +kernel) rfl) pa_nil))) (pe_one (pe_chain op_le op_le (pv 0) (pe_callB call_len_seq (by rfl) T.b.n_len PySem.boot_len (pa_cons (pv 2) pa_nil)) (pv 1)))))), ?_⟩
    refine ⟨_, rfl, .ref t, .ty "tuple", _, _, true, rfl, .ty _, .base (.tup e), kit_ty (r := true) (by decide +kernel), _, rfl, iteT ?_⟩
    refine ⟨_, rfl, _, rfl, t, xs, rfl, .inr (SqT.of e), l, _, rfl, rfl, ?_⟩
    refine ⟨true, congrArg V.bl (decide_eq_true h1), iteT ⟨_, rfl, (xs.length : Int), m, rfl, rfl, ?_⟩⟩
    show Q (.bl (decide ((xs.length : Int) ≤ m))) H
    rw [decide_eq_true h2]
    exact k
abbrev s_nameRow : Stmt := top 19
theorem sc_nameRow : FnScope ["many", "thing", "part"] ["many", "thing"] (defScope s_nameRow) := ⟨rfl, rfl, rfl, by decide +kernel, rfl, by decide +kernel, by decide +kernel⟩
theorem ok_nameRow {f : Addr} {fd : FuncData} (F : Fun K "is_name_row" "is_name_row" s_nameRow f fd) (T : Bm mg) (c_tup : Cal P w K mg base 1 "is_tuple_of" ["many", "thing"] (spTupOf K C)) (c_name : Cal P w K mg base 1 "is_name" ["thing"] spIsName) : FnOk P w K mg base CX0 2 f fd ["many", "thing"] spNameRow := by
  refine F.ok sc_nameRow (fun vs H Q E h => ?_) (fun cdv A outer s H vs Q E hr h => ?_)
  · obtain ⟨lb, ls, n, rfl, _⟩ := h
    rfl
  · obtain ⟨lb, ls, n, rfl, el1, ⟨ll, nl⟩, l8, k⟩ := h
    refine ⟨_, (pss_one (ps_ret (pe_and (pe_cal c_tup (hr.mono (by decide)) rfl (pa_cons (pv 0) (pa_cons (pv 1) pa_nil))) (pe_one (pe_callB (cr_all rfl) (by rfl) T.n_all PyProof.Rows.boot_all (pa_cons (pe_lc (own := [("part", 2)]) rfl sc_nameRow.nd (pi_tup (pv 1)) (blkOk_by (N := ["many", "thing", "part"]) (sc := defScope s_nameRow) (by decide +kernel)) (fun _ _ _ _ _ => (pg_name (i := 2) sc_nameRow.nd rfl (Or.inl rfl))) (fun _ _ _ _ _ => pts_nil) (fun _ _ _ _ _ => (pe_cal c_name (hr.mono (by decide)) rfl (pa_cons (pv 2) pa_nil)))) pa_nil)))))), ?_⟩
    refine ⟨_, rfl, _, rfl, _, .ref lb, rfl, .inl ⟨lb, _, rfl, el1, true, congrArg V.bl (decide_eq_true (by rw [sV_len, ll])), iteT ?_⟩⟩
    refine ⟨_, rfl, lb, rfl, ⟨_, SqT.of el1⟩, fun G nG => ?_⟩
    refine lc_tup (K := K) (a := lb) (xs := sV ls) (fun i H' => Same H H' ∧ H' G = some (.lst ((List.replicate i true).map V.bl))) ⟨Same.put nG, upd_same⟩ (fun i H' _ h => SqT.of (h.1 _ _ el1)) ?_ ?_
    · rintro i y H' hy ⟨s2, eG⟩
      obtain ⟨z, hz, rfl⟩ : ∃ z, ls[i]? = some z ∧ y = .str z := by
        rw [sV, List.getElem?_map] at hy
        cases e : ls[i]? with
        | none => rw [e] at hy; cases hy
        | some z => rw [e] at hy; exact ⟨z, rfl, (Option.some.inj hy).symm⟩
      have il := (List.getElem?_eq_some_iff.mp hz).1
      refine ⟨rfl, yes_of ?_⟩
      refine ⟨_, rfl, z, rfl, nl z (List.mem_of_getElem? hz), fun H3 s3 => ?_⟩
      refine ⟨_, s3 _ _ eG, by rw [List.length_map, List.length_replicate]; exact small_len (by omega), Same.but (fun b u e => s3 _ _ (s2 _ _ e)) nG, ?_⟩
      rw [upd_same, refs_rep]
    rintro H2 ⟨s2, eG⟩
    refine ⟨G, _, rfl, SqL.of eG, ?_⟩
    rw [all_true]
    exact k H2 s2
theorem ok_CI {f : Addr} {fd : FuncData} (F : Fun K "__init__" "Chain.__init__" s_CI f fd) (T : Bm mg) (t : ChT K mg CC) (c_spread : Cal P w K mg base 11 "is_spread" ["many", "thing"] (spSpread K C)) (c_bet : Cal P w K mg base 1 "is_tuple_between" ["least", "most", "thing"] spTupBet) (c_nr : Cal P w K mg base 2 "is_name_row" ["many", "thing"] spNameRow) (c_sh : Cal P w K mg base 7 "shares_of" ["row"] (spSharesOf C)) : FnOk P w K mg base CX0 12 f fd ["self", "rows", "labels"] (spCI C CC) := by
  obtain ⟨tM, gM⟩ := t.gM
  refine F.ok sc_CI (fun vs H Q E h => ?_) (fun cdv A outer s H vs Q E hr h => ?_)
  · obtain ⟨x, dx, T0, lb, n, rs, ls, rfl, _⟩ := h
    rfl
  · obtain ⟨x, dx, T0, lb, n, rs, ls, rfl, ex, n1, n8, eT, lr, rw_, el, ⟨ll, nl⟩, k⟩ := h
    obtain ⟨u, hu, qu⟩ := segCI3 (P := P) (w := w) (K := K) (mg := mg) (base := base) (C := C) (f := f) (cdv := cdv) (A := A) (outer := outer) (s := s) (H := H) (E := E) (Q := Q) T t c_sh (hr.mono (by decide))
    refine ⟨_, (pss_cons (ps_if (PW.pt (pw_or (pt_not (pt_val (pe_cal c_bet (hr.mono (by decide)) rfl (pa_cons pe_int (pa_cons (pe_glob (v := .int 8) rfl gM ⟨_, rfl⟩) (pa_cons (pv 1) pa_nil)))))) (pw_or1 (pt_not (pt_val (pe_callB (cr_all rfl) (by rfl) T.n_all PyProof.Rows.boot_all (pa_cons (pe_lc (own := [("row", 3)]) rfl sc_CI.nd (pi_tup (pv 1)) (blkOk_by (N := nCI) (sc := defScope s_CI) (by decide +kernel)) (fun _ _ _ _ _ => (pg_name (i := 3) sc_CI.nd rfl (Or.inl rfl))) (fun _ _ _ _ _ => pts_nil) (fun _ _ _ _ _ => (pe_cal c_spread (hr.mono (by decide)) rfl (pa_cons (pe_callB (show CallR _ _ (fun xs H Q => ∃ p ys, xs = [.ref p] ∧ (SqL K H p ys ∨ SqT K H p ys) ∧ Q (.int ys.length) H) from call_len_seq) (by rfl) T.b.n_len PySem.boot_len (pa_cons (pv 1) pa_nil)) (pa_cons (pv 3) pa_nil))))) pa_nil)))))))
        pss_never
        pss_nil)
      (pss_cons (ps_if (pt_not (pt_val (pe_cal c_nr (hr.mono (by decide)) rfl (pa_cons (pe_callB call_len_seq (by rfl) T.b.n_len PySem.boot_len (pa_cons (pv 1) pa_nil)) (pa_cons (pv 2) pa_nil)))))
        pss_never
        pss_nil) hu)), ?_⟩
    refine ⟨_, rfl, 1, 8, T0, _, rfl, eT, by rw [rfs_len]; omega, by rw [rfs_len]; omega, true, rfl, iteF ?_⟩
    -- the rows are spreads
    refine ⟨_, rfl, T0, rfl, ⟨_, SqT.of eT⟩, fun D nD => ?_⟩
    refine lc_tup (K := K) (a := T0) (xs := rfs rs) (fun i H' => Same H H' ∧ H' D = some (.lst ((List.replicate i true).map V.bl))) ⟨Same.put nD, upd_same⟩ (fun i H' _ h => SqT.of (h.1 _ _ eT)) ?_ ?_
    · rintro i y H' hy ⟨s1, eD⟩
      obtain ⟨r, hr2, mr, rfl⟩ := rfs_at hy
      have il := (List.getElem?_eq_some_iff.mp hr2).1
      obtain ⟨xs, h1, h2, h3⟩ := (rw_ r mr).same s1
      obtain ⟨b1, b2, b3⟩ := tps_low h3 n8
      refine ⟨rfl, yes_of ?_⟩
      refine ⟨_, rfl, T0, _, rfl, .inr (SqT.of (s1 _ _ eT)), _, rfl, _, .ref r.1, rfl, .inl ⟨r.1, xs, _, (r.2.sum : Int), rfl, h1, items_of h2 h3, b1, b2, by rw [List.length_map]; have := h3.1; omega, fun H3 s3 => ?_⟩⟩
      have e : (decide (V.int (xs.length : Int) = V.int ((rfs rs).length : Int)) && sprB (r.2.sum : Int) (r.2.map fun k : Nat => some (k : Int))) = true := by
        rw [spr_ok, Bool.and_true]
        refine decide_eq_true ?_
        rw [rfs_len, h2.1, List.length_map, h3.1, lr]
      rw [e]
      refine ⟨_, s3 _ _ eD, by rw [List.length_map, List.length_replicate]; exact small_len (by omega), Same.but (fun b u e => s3 _ _ (s1 _ _ e)) nD, ?_⟩
      rw [upd_same, refs_rep]
    rintro H1 ⟨s1, eD⟩
    refine ⟨D, _, rfl, SqL.of eD, true, congrArg V.bl (all_true _), iteF ?_⟩
    -- the labels are names
    have el1 := s1 _ _ el
    refine ⟨_, rfl, T0, _, rfl, .inr (SqT.of (s1 _ _ eT)), _, rfl, lb, ls, n, by rw [rfs_len, lr]; rfl, el1, ⟨ll, nl⟩, by omega, fun H2 s2 => ⟨true, rfl, iteF ?_⟩⟩
    have s12 := s1.trans s2
    exact qu x dx T0 lb n rs H2 (s12 _ _ ex) n8 (s12 _ _ eT) lr (fun r m => (rw_ r m).same s12) fun T2 rs2 H3 s3 e2 l2 h2 q2 => k T2 rs2 H3 (s12.trans s3) e2 l2 h2 q2
end
end KG
set_option Elab.async false
set_option linter.all false
set_option maxRecDepth 100000
set_option maxHeartbeats 4000000
namespace L2
open PySem PySem.Spec PyProof.Rows
end L2
namespace KG
open PySem L2
/-- Chain(rows, labels) -/
structure MkC (P : Program) (w : World) (K : PySem.W.Frag) (mg : Str → Option Value) (base : Heap) (C CC : Addr) : Prop where
  ex : ∃ (f : Addr) (fd : FuncData), Mk K CC f ∧ FnOk P w K mg base CX0 12 f fd ["self", "rows", "labels"] (spCI C CC) ∧ Binds K fd ["self", "rows", "labels"] []
  gC : mg "Chain" = some (.ref CC)
section
variable {X : Cx} {C CC : Addr} {p pos : Pos} {e : Expr} {es : List Expr} {t : TA}
theorem pe_chn (m : MkC X.prog X.w X.K X.mg X.base C CC) (hr : Room 13 X.A) (hg : Gl X "Chain") (ha : PA X (e :: es) t)
    (he : starEach (e :: es) X.env = (false, eval e X.env) :: starEach es X.env := by rfl) (hpl : (backTo pos (starEach es X.env)).any (·.1) = false := by rfl) :
    PE X (.Call (.Name "Chain" p) (e :: es) [] pos) (tMake CC (spCI C CC) [] E0 t) := by
  obtain ⟨f, fd, M, F, b0⟩ := m.ex
  exact pe_make M F hr hg m.gC b0 .nil pass0 ha (by decide) he hpl
end
/-- a chain is made -/
theorem chn_go {C CC : Addr} {n : Nat} {T lb : Addr} {rs : List (Addr × List Nat)} {ls : List Str} {H : Hp} {Qv : VK} {E : XK} {x dx : Addr} (hx : H x = none) (hd : H dx = none) (ne : dx ≠ x) (n1 : 1 ≤ n) (n8 : n ≤ 8) (eT : H T = some (.tup (rfs rs))) (lr : rs.length = n) (rw_ : ∀ r ∈ rs, RowIn C H n r) (el : H lb = some (.tup (sV ls))) (hl : Lbs n ls)
    (k : ∀ (H' : Hp), Same H H' → IsCh C CC H' x n (rs.map (·.2)) ls → Qv .non H') : spCI C CC [.ref x, .ref T, .ref lb] (upd (upd H dx (.own x)) x (.ins CC dx [])) Qv E := by
  have s1 : Same H (upd (upd H dx (.own x)) x (.ins CC dx [])) := (Same.put hd).trans (Same.put (by rw [upd_ne ne.symm]; exact hx))
  refine ⟨x, dx, T, lb, n, rs, ls, rfl, upd_same, n1, n8, s1 _ _ eT, lr, fun r m => (rw_ r m).same s1, s1 _ _ el, hl, fun T2 rs2 H2 s2 e2 l2 h2 q2 => ?_⟩
  have ex := s2 _ _ (show (upd (upd H dx (.own x)) x (.ins CC dx [])) x = some (.ins CC dx []) from upd_same)
  refine k _ (fun b u e => ?_) ⟨dx, T2, lb, rs2, upd_same, ?_, l2, fun r m => (h2 r m).upx ex rfl, q2, ?_, hl⟩
  · rw [upd_ne (ne_of_none e hx)]
    exact s2 _ _ (s1 _ _ e)
  · rw [upd_ne (fun z => by rw [z, ex] at e2; cases e2)]
    exact e2
  · have := s2 _ _ (s1 _ _ el)
    rw [upd_ne (fun z => by rw [z, ex] at this; cases this)]
    exact this
abbrev kyI (t : Nat) : Key := Sum.inl (t : Int)
/-- a dict whose keys are these places, ascending -/
def KeysAt (H : Hp) (d : Addr) (ts : List Nat) : Prop := ∃ kvs : List (Key × V), H d = some (.dK kvs) ∧ kvs.map (·.1) = ts.map kyI
theorem KeysAt.same {H H' : Hp} {d : Addr} {ts : List Nat} (h : KeysAt H d ts) (s : Same H H') : KeysAt H' d ts := by
  obtain ⟨kvs, h1, h2⟩ := h
  exact ⟨kvs, s _ _ h1, h2⟩
end KG
set_option Elab.async false
set_option linter.all false
set_option maxRecDepth 100000
set_option maxHeartbeats 2000000
/-! sorted(d), d a dict whose keys are tuples of ints, all of one length -/
namespace L2
open PySem PySem.Spec PyProof.Rows
def rSortDT (d : Nat) (B : Int) : List V → Hp → VK → Prop := fun vs H Q => ∃ (a : Addr) (kvs : List (List Key × V)) (ks : List (List Int)), vs = [.ref a] ∧ Rd H a (.dT kvs) ∧ kvs.map (·.1) = ks.map (fun ns => ns.map Sum.inl) ∧ ks.length < 64 ∧ (∀ ns ∈ ks, ns.length = d ∧ TS.Bd B ns) ∧
  ∀ (ys : List (Addr × List Int)) (p : Addr), (ys.map (·.2)).Perm ks → ys.Pairwise (fun q r => TS.code B q.2 ≤ TS.code B r.2) → (∀ t ∈ ys, H t.1 = some (.tup (t.2.map V.int))) → H p = none → Q (.ref p) (upd H p (.lst (ys.map fun t => V.ref t.1)))
theorem dt_keys {H : Hp} : ∀ {kvs : List (List Key × V)} {kx : List (List Key × Addr × Value)} {ks : List (List Int)}, KT H kvs kx → kvs.map (·.1) = ks.map (fun ns => ns.map Sum.inl) →
    ∃ L : List (Addr × List Int), L.map (·.1) = kx.map (fun e => e.2.1) ∧ L.map (·.2) = ks ∧ ∀ t ∈ L, H t.1 = some (.tup (t.2.map V.int))
  | [], kx, ks, h, e => by
    cases h
    cases ks with
    | nil => exact ⟨[], rfl, rfl, fun _ m => by cases m⟩
    | cons a l => cases e
  | p :: kvs, kx, ks, h, e => by
    cases h with
    | cons h t =>
      cases ks with
      | nil => cases e
      | cons ns ks =>
        rw [List.map_cons, List.map_cons] at e
        obtain ⟨e1, e2⟩ := List.cons.inj e
        obtain ⟨L, l1, l2, l3⟩ := dt_keys t e2
        rename_i b _
        refine ⟨(b.2.1, ns) :: L, by rw [List.map_cons, List.map_cons, l1], by rw [List.map_cons, l2], fun t m => ?_⟩
        rcases List.mem_cons.mp m with rfl | m
        · have := h.2.1
          rw [e1, List.map_map] at this
          exact this
        · exact l3 t m
def dtAdr : Value → Addr
  | .ref a => a
  | _ => 0
theorem dt_vals : ∀ (ts : List (Addr × List Int)), Vals (ts.map fun t => V.ref t.1) (ts.map fun t => Value.ref t.1)
  | [] => .nil
  | t :: ts => .cons rfl (dt_vals ts)
theorem cr_sortDT {X : Cx} {d : Nat} {B : Int} (hc : X.calm = true) (hd : 1 ≤ d) : CallR X (.builtin "sorted") (rSortDT d B) := by
  intro pins s σ H xs us Q I r h
  obtain ⟨a, kvs, ks, rfl, hr, hk, h64, hB, q⟩ := h
  rw [Vals.ref1 r]
  obtain ⟨z, hs, kx, pr, o, es, ep, ho, hx, hdt, he, hn⟩ := (show ObjOk X.prog X.w H s.heap a (.dT kvs) from hr.ok I.hok)
  have l1 := PySem.size_of_entries he
  have l2 := Paired.length pr
  have lk : kvs.length = ks.length := by have := congrArg List.length hk; rw [List.length_map, List.length_map] at this; exact this
  obtain ⟨L, e1, e2, e3⟩ := dt_keys pr hk
  refine Calls.call_function_entry PyProof.Rows.kind_sorted PyProof.Rows.plain_sorted PyProof.Rows.entry_sorted (PyProof.Rows.args_sorted1 (Value.ref a)) ?_
  refine wpAny_bind (wpAny_pure (wpAny_bind (PySem.W.kdu_collect (kdl_raw hs hx hdt) (I.ok.hd hc) ho (by rw [sizeLine_eq]; omega) fun h' tk acc kp it => ?_)))
  have hl : acc.toList.length = kx.length := by rw [Array.length_toList, it.1, l1]
  have ea : acc.toList = kx.map fun e => Value.ref e.2.1 := by
    refine List.ext_getElem? fun j => ?_
    rw [List.getElem?_map]
    cases hj : acc.toList[j]? with
    | none =>
      have h1 := List.getElem?_eq_none_iff.mp hj
      rw [List.getElem?_eq_none (by omega)]
      rfl
    | some v =>
      obtain ⟨en, hen, hv⟩ := it.2 j v (by rw [← Array.getElem?_toList]; exact hj)
      have qe := PySem.entry_at he j
      rw [hen] at qe
      cases hb : kx[j]? with
      | none => rw [hb] at qe; cases qe
      | some b =>
        rw [hb] at qe
        have e2 := Option.some.inj qe
        show some v = some _
        rw [hv, e2]
        rfl
  have eL : acc.toList = L.map fun t => Value.ref t.1 := by
    rw [ea, show (L.map fun t => Value.ref t.1) = (L.map (·.1)).map Value.ref by rw [List.map_map]; rfl, e1, List.map_map]
    rfl
  have hvl : acc.toList.length < 64 := by omega
  have I1 : Inv X pins σ H { heap := h', gens := s.gens, drawn := s.drawn, toks := tk, os := s.os } := I.kept kp
  refine wpAny_bind (wpAny_newList ?_ (by rw [sizeLine_eq]; omega))
  have hoL : (h'.push (PyProof.Rows.seqObj "list" acc.toList.toArray 0)).get? h'.objs.size = some (PyProof.Rows.seqObj "list" acc.toList.toArray 0) := Heap.get?_push_size _ rfl
  have I2 : Inv X pins σ H { heap := h'.push (PyProof.Rows.seqObj "list" acc.toList.toArray 0), gens := s.gens, drawn := s.drawn, toks := tk, os := s.os } := I1.kept fun b u e => Heap.get?_push_of_some _ e
  have raw : ∀ t ∈ L, TS.TupInts (h'.push (PyProof.Rows.seqObj "list" acc.toList.toArray 0)) (.ref t.1) t.2 := fun t m => tupI_raw I2 (SqT.of (e3 t m))
  have ki : ∀ t ∈ L, TS.intsOf (h'.push (PyProof.Rows.seqObj "list" acc.toList.toArray 0)) (.ref t.1) = t.2 := fun t m => (raw t m).ints
  refine wpAny_bind (wpAny_holding (TS.call_sort_tups (B := B) (d := d) hoL hvl hd (fun v hv => ?_) fun out a1 a2 => ?_))
  · rw [eL] at hv
    obtain ⟨t, m, rfl⟩ := List.mem_map.mp hv
    have mk : t.2 ∈ ks := by rw [← e2]; exact List.mem_map_of_mem m
    exact ⟨t.2, raw t m, hB t.2 mk⟩
  · let g : Value → Addr × List Int := fun v => (dtAdr v, TS.intsOf (h'.push (PyProof.Rows.seqObj "list" acc.toList.toArray 0)) v)
    have back : acc.toList.map g = L := by
      rw [eL, List.map_map]
      refine (List.map_congr_left fun t hm => ?_).trans (List.map_id L)
      show (t.1, TS.intsOf _ (.ref t.1)) = t
      rw [ki t hm]
    have pm : (out.toList.map g).Perm L := by
      have := a1.map g
      rw [back] at this
      exact this
    have outr : (out.toList.map g).map (fun t => Value.ref t.1) = out.toList := by
      rw [List.map_map]
      refine (List.map_congr_left fun v hv => ?_).trans (List.map_id _)
      have := a1.mem_iff.mp hv
      rw [eL] at this
      obtain ⟨t, _, rfl⟩ := List.mem_map.mp this
      rfl
    obtain ⟨ep', he'⟩ := PyProof.Rows.sortedHeap_at (out := out) hoL
    have vo : Vals ((out.toList.map g).map fun t => V.ref t.1) out.toList := by
      have := dt_vals (out.toList.map g)
      rw [outr] at this
      exact this
    have hlen : ((out.toList.map g).map fun t => V.ref t.1).length ≤ sizeLine := by
      rw [List.length_map, List.length_map, a1.length_eq, sizeLine_eq]
      omega
    refine wpAny_pure ⟨.ref h'.objs.size, rfl, .ref h'.objs.size, upd H h'.objs.size (.lst ((out.toList.map g).map fun t => V.ref t.1)), I1.laid (t' := tk) (fun b u e => ?_) (Nat.le_refl _) ⟨hlen, out.toList, ep', vo, ?_⟩, rfl, q _ _ ?_ ?_ (fun t m => e3 t (pm.mem_iff.mp m)) (I1.hok.fresh (Nat.le_refl _))⟩
    · have hb := Heap.lt_size e
      rw [PyProof.Rows.sortedHeap_old (Nat.ne_of_lt hb) (by rw [PyProof.Rows.size_push']; exact Nat.lt_succ_of_lt hb)]
      exact Heap.get?_push_of_some _ e
    · rw [Array.toArray_toList]
      exact he'
    · have := pm.map (fun t : Addr × List Int => t.2)
      rw [e2] at this
      exact this
    · exact List.pairwise_map.mpr a2
end L2
set_option Elab.async false
set_option linter.all false
set_option maxRecDepth 100000
set_option maxHeartbeats 2000000
/-! list(d.values()), the keys tuples -/
namespace L2
open PySem PySem.Spec PyProof.Rows
theorem raw_keep {h h' : Heap} {d : Addr} {es : Array DictEntry} {ep : Nat} (m : h.DictRaw d es ep) (k : ∀ o, h.get? d = some o → h'.get? d = some o) : h'.DictRaw d es ep :=
  let ⟨o, h1, h2, h3⟩ := m; ⟨o, k o h1, h2, h3⟩
theorem walks_valsR {prog : Program} {w : World} {A : Around} {es : Array DictEntry} {ep : Nat} (hh : A.handled = none) (I d : Addr) (hne : d ≠ I) : Walks prog w A I [I, d] [I] es.size (fun i v => ∃ en, es[i]? = some en ∧ v = en.val) (fun i h => h.IsValIter I d i es.size ep ∧ h.DictRaw d es ep) where
  sub := fun b hb => by simp at hb ⊢; exact .inl hb
  frame := fun i h h' st hk => ⟨st.1.at fun o e => hk I (by simp) o e, raw_keep st.2 fun o e => hk d (by simp) o e⟩
  item := fun i s Q E hi st hQ => wpAny_pyNext_values_item_raw st.1 st.2 hi fun h' hit' hs' => hQ es[i].val h' s.toks ⟨es[i], Array.getElem?_eq_getElem hi, rfl⟩ ⟨hit', raw_keep st.2 fun o e => hs'.extBut d o hne e⟩ fun b o hb e => hs'.extBut b o (by simpa using hb) e
  done := fun s Q E st hQ => wpAny_pyNext_values_end_raw hh st.1 st.2 (Nat.le_refl _) fun h' he' => hQ h' s.toks fun b o hb e => he' b o (by simpa using hb) e
  self := fun _ _ _ _ st hQ => wpAny_pyIter_valiter st.1 hQ
theorem kdl_valsR {prog : Program} {w : World} {d r : Addr} {es : Array DictEntry} {ep : Nat} : PySem.W.KdlSrc prog w "dict_values" r d es.size (fun i v => ∃ en, es[i]? = some en ∧ v = en.val) (fun h => h.IsValuesView r d ∧ h.DictRaw d es ep) where
  type := fun x hm => hm.1.typeIs
  there := fun x hm => ⟨let ⟨_, ho, _⟩ := hm.1; Heap.lt_size ho, let ⟨_, ho, _⟩ := hm.2; Heap.lt_size ho⟩
  keep := fun h h' hm hk => ⟨let ⟨o, ho, x⟩ := hm.1; ⟨o, hk r (.inl rfl) o ho, x⟩, raw_keep hm.2 fun o e => hk d (.inr rfl) o e⟩
  notList := by decide
  notTuple := by decide
  hint := fun A E s Q hm hq => PySem.W.kdl_hint_values hm.1.typeIs hq
  iter := fun A s hh hm => ⟨{ cls := Value.type "dict_valueiterator", data := Data.fields #[Value.ref d, Value.int 0 0, Value.int (↑es.size) 0, Value.int (↑ep) 0] },
    fun i h => h.IsValIter s.heap.objs.size d i es.size ep ∧ h.DictRaw d es ep, fun E Q hq => wpAny_pyIter_values_raw hm.1 hm.2 hq,
    walks_valsR hh s.heap.objs.size d (let ⟨_, ho, _⟩ := hm.2; Nat.ne_of_lt (Heap.lt_size ho)),
    ⟨_, Heap.get?_push_size s.heap rfl, rfl, rfl⟩, raw_keep hm.2 fun o e => Heap.get?_push_of_some _ e⟩
def rValsLT : V → Hp → VK → Prop := fun x H Q => ∃ (d : Addr) (kvs : List (List Key × V)), x = .ref d ∧ H d = some (.dT kvs) ∧ ∀ (H' : Hp) (p : Addr), (∀ b o, H b = some o → H' b = some o) → H p = none → H' p = some (.lst (kvs.map (·.2))) → Q (.ref p) H'
def tListValsT (te : TE) : TE := fun σ H Q => te σ H fun x H1 => rValsLT x H1 Q
theorem kt_vals {H : Hp} : ∀ {kvs : List (List Key × V)} {kx : List (List Key × Addr × Value)}, KT H kvs kx → Vals (kvs.map (·.2)) (kx.map fun e => e.2.2)
  | [], kx, h => by cases h; exact .nil
  | p :: kvs, kx, h => by
    cases h with
    | cons h t => exact .cons h.2.2 (kt_vals t)
theorem pe_listValsT {X : Cx} {e : Expr} {te : TE} {p apos cpos pos : Pos} (hc : X.calm = true) (he : PE X e te) (hg : Gl X "list") (hm : X.mg "list" = none) (hv : bootBuiltins "list" = some (.type "list")) (hbase : attributeBase e "values" X.env (eval e X.env) = eval e X.env := by rfl) (hline : (apos.endLine == cpos.line) = true := by rfl)
    (hs : starEach [.Call (.Attribute e "values" apos) [] [] cpos] X.env = (false, eval (.Call (.Attribute e "values" apos) [] [] cpos) X.env) :: starEach [] X.env := by rfl) :
    PE X (.Call (.Name "list" p) [.Call (.Attribute e "values" apos) [] [] cpos] [] pos) (tListValsT te) := by
  refine ⟨fun pins s σ H Q I hq => ?_⟩
  refine wpAny_Call_Name_kw (ld_blt I hg hm hv ?_)
  refine PyProof.Rows.callWith_type1 ?_ hs rfl
  rw [hs]
  show wpAny _ _ (spliced ((false, eval (.Call (.Attribute e "values" apos) [] [] cpos) X.env) :: backTo pos (starEach [] X.env))) _ _ s
  refine Calls.spliced_cons ?_
  refine wpAny_Call_method (T := "dict") (id := "dict.values") hbase rfl hline F.plainAttrs_dict F.slot_dict_values F.type_dict_values (thn (he.run pins s σ H _ I hq) fun u s1 ⟨x, H1, I1, rx, d, kvs, ex, hd, q⟩ => ?_)
  subst ex
  obtain rfl : u = Value.ref d := rx
  obtain ⟨hz, hs0, kx, pr, ob, es, ep, ho, hx, hdt, hen, hn⟩ := (show ObjOk X.prog X.w H1 s1.heap d (.dT kvs) from I1.hok d _ hd)
  have l1 := PySem.size_of_entries hen
  have l2 := Paired.length pr
  have hm0 : s1.heap.DictRaw d es ep := ⟨_, ho, hx, hdt⟩
  have I2 : Inv X pins σ H1 { s1 with heap := s1.heap.push { cls := .type "dict_values", data := .fields #[.ref d] } } := I1.kept (t' := s1.toks) fun b ob q => Heap.get?_push_of_some _ q
  refine ⟨hm0.typeIs, ?_, ?_⟩
  · intro b q
    cases q
    obtain ⟨ob, h1, h2, _⟩ := id hm0
    exact ⟨ob, h1, h2.2.1⟩
  show wpAny _ _ (callWith cpos (.builtin "dict.values") [.ref d] [] []) _ X.xe s1
  refine method_meetsIn F.slot_dict_values F.entry_dict_values rfl (PySem.evalArgs_none ⟨rfl, hm0.typeIs, F.args_dict_values_1 _, _, meets_dict_values_raw d hs0, ⟨⟨_, _, hm0⟩, ?_⟩⟩)
  refine Calls.spliced_nil ?_
  refine PySem.W.kdl_call kdl_valsR (I1.ok.hd hc) ⟨⟨_, Heap.get?_push_size _ rfl, rfl, rfl⟩, raw_keep hm0 fun o e => Heap.get?_push_of_some _ e⟩ (by omega) fun h' tk acc c hkeep hS hacc => ?_
  refine ⟨.ref _, upd H1 _ (.lst (kvs.map (·.2))), I2.laid hkeep (Nat.le_refl _) (show ObjOk X.prog X.w _ _ _ (.lst (kvs.map (·.2))) from ⟨?_, acc.toList, c, ?_, ?_⟩), rfl, q _ _ (fun b o e => ?_) (I2.hok.fresh (Nat.le_refl _)) upd_same⟩
  · rw [List.length_map]; omega
  · have el : acc.toList.length = acc.size := by simp
    refine vals_of_at (by rw [List.length_map, el, hacc.1]; omega) fun j x w h1 h2 => ?_
    obtain ⟨en, hky, rfl⟩ := hacc.2 j w (by rw [← Array.getElem?_toList]; exact h2)
    obtain ⟨u2, e2, r2⟩ := (kt_vals pr).get h1
    have qe := PySem.entry_at hen j
    rw [hky] at qe
    rw [List.getElem?_map] at e2
    cases hb : kx[j]? with
    | none => rw [hb] at qe; cases qe
    | some b =>
      rw [hb] at qe e2
      have e3 := Option.some.inj qe
      have e4 := Option.some.inj e2
      rw [e3]
      rw [← e4] at r2
      exact r2
  · rw [Array.toArray_toList]; exact hS
  · rw [upd_ne (fun z => by rw [z, I2.hok.fresh (Nat.le_refl _)] at e; cases e)]
    exact e
end L2
set_option Elab.async false
set_option linter.all false
set_option maxRecDepth 100000
set_option maxHeartbeats 4000000
namespace KG
open PySem L2
/-! ### the parts of a draw are looked at -/
structure DrG (mg : Str → Option Value) : Prop where
  gP : ∃ t, mg "MOST_PARTS" = some (.int 300 t)
  gL : ∃ t, mg "MOST_LED" = some (.int 8 t)
/-- is_above_zero(thing) -/
def spAbove (K : PySem.W.Frag) (C : Addr) : Sp := fun vs H Q _ => ∃ x, vs = [x] ∧ ((∃ S D, Num C H x S D ∧ 0 < D ∧ S.natAbs < 2 ^ 4000 ∧ D.natAbs < 2 ^ 4000 ∧ ∀ H', Same H H' → Q (.bl (decide (0 < S))) H') ∨ ∃ T, Fo K H x T ∧ isI x = false ∧ ∀ H', Same H H' → Q (.bl false) H')
/-- map_length(part), of a part with a map -/
def spMapLen : Sp := fun vs H Q _ => ∃ (t m : Addr) (x : V) (ws : List Nat), vs = [.ref t] ∧ H t = some (.tup [x, .ref m]) ∧ H m = some (.tup (cV ws)) ∧ Q (.int (ws.length : Int)) H
/-- is_part(size, thing), of a part that is right -/
def spIsPart (C : Addr) : Sp := fun vs H Q _ => ∃ (n : Nat) (t m : Addr) (x : V) (ws : List Nat) (S D : Int), vs = [.int (n : Int), .ref t] ∧ 1 ≤ n ∧ n ≤ 8 ∧ H t = some (.tup [x, .ref m]) ∧ Num C H x S D ∧ 0 < S ∧ 0 < D ∧ S.natAbs < 2 ^ 4000 ∧ D.natAbs < 2 ^ 4000 ∧ MapAt n H m ws ∧ ∀ H', Same H H' → Q (.bl true) H'
section
variable {P : Program} {w : World} {K : PySem.W.Frag} {mg : Str → Option Value} {base : Heap} {C B DC : Addr}
abbrev s_above : Stmt := top 31
theorem sc_above : FnScope ["thing"] ["thing"] (defScope s_above) := ⟨rfl, rfl, rfl, by decide +kernel, rfl, by decide +kernel, by decide +kernel⟩
theorem ok_above {f : Addr} {fd : FuncData} (F : Fun K "is_above_zero" "is_above_zero" s_above f fd) (T : ShT K mg C) (c_is : Cal P w K mg base 2 "is_share" ["thing"] (spIsShare K C)) (c_of : Cal P w K mg base 6 "share_of" ["thing"] (spShareOf C)) (ls : LsT P w K mg base C) :
    FnOk P w K mg base CX0 8 f fd ["thing"] (spAbove K C) := by
  obtain ⟨g, gd, M, G, bG⟩ := ls.ex
  refine F.ok sc_above (fun vs H Q E h => ?_) (fun cdv A outer s H vs Q E hr h => ?_)
  · obtain ⟨x, rfl, _⟩ := h
    rfl
  · obtain ⟨x, rfl, h⟩ := h
    refine ⟨_, (pss_one (ps_ret (pe_and (pe_cal c_is (hr.mono (by decide)) rfl (pa_cons (pv 0) pa_nil)) (pe_one (pe_meth (pl := _) (pe_cal c_of (hr.mono (by decide)) rfl (pa_cons pe_int pa_nil)) T.it.cl M G hr bG .nil pass0 (pa_cons (pv 0) pa_nil)))))), ?_⟩
    rcases h with ⟨S, D, hx, hD, hS, hDb, k⟩ | ⟨T', fo, ix, k⟩
    · refine ⟨_, rfl, x, rfl, .inl ⟨_, _, hx, _, rfl, iteT ?_⟩⟩
      refine ⟨.int 0, 0, 1, rfl, .inl ⟨rfl, rfl⟩, fun a dx H1 s1 e1 => ⟨a, dx, _, rfl, e1, less_none _ _, _, rfl, a, dx, x, 0, 1, _, _, rfl, e1, hx.same s1, Low.one (by decide +kernel), low_of hD hS hDb, fun H2 s2 => ?_⟩⟩
      have h := low_lt (S := 0 * D) (S' := S) hD
      rw [(low_whole hD).1, (low_whole hD).2, Int.zero_mul] at h
      have e : decide (0 * lowB S D < lowT S D * 1) = decide (0 < S) := by
        rw [decide_eq_decide, Int.zero_mul, h, Int.zero_mul]
      rw [e]
      exact k H2 (s1.trans s2)
    · exact ⟨_, rfl, x, rfl, .inr ⟨T', fo, ix, _, rfl, iteF (k H (Same.refl H))⟩⟩
abbrev s_mlen : Stmt := top 43
theorem sc_mlen : FnScope ["part"] ["part"] (defScope s_mlen) := ⟨rfl, rfl, rfl, by decide +kernel, rfl, by decide +kernel, by decide +kernel⟩
theorem ok_mlen {f : Addr} {fd : FuncData} (F : Fun K "map_length" "map_length" s_mlen f fd) (T : Bm mg) (c_tup : Cal P w K mg base 1 "is_tuple_of" ["many", "thing"] (spTupOf K C)) : FnOk P w K mg base CX0 2 f fd ["part"] spMapLen := by
  refine F.ok sc_mlen (fun vs H Q E h => ?_) (fun cdv A outer s H vs Q E hr h => ?_)
  · obtain ⟨t, m, x, ws, rfl, _⟩ := h
    rfl
  · obtain ⟨t, m, x, ws, rfl, et, em, k⟩ := h
    refine ⟨_, (pss_cons (ps_if (PW.pt (pw_or (pt_not (pt_val (pe_cal c_tup (hr.mono (by decide)) rfl (pa_cons pe_int (pa_cons (pv 0) pa_nil))))) (pw_or1 (pt_not (pt_val (pe_callB call_isi (by rfl) T.b.n_isinstance (by decide +kernel) (pa_cons (pe_ix ix_tup (pv 0) pe_int (fun _ _ => rfl)) (pa_cons (pe_bltn (v := .ty "tuple") rfl T.n_tuple (by decide +kernel) rfl) pa_nil))))))))
        (pss_one (ps_ret pe_int))
        pss_nil)
      (pss_one (ps_ret (pe_callB call_len_seq (by rfl) T.b.n_len PySem.boot_len (pa_cons (pe_ix ix_tup (pv 0) pe_int (fun _ _ => rfl)) pa_nil))))), ?_⟩
    refine ⟨_, rfl, 2, .ref t, rfl, .inl ⟨t, _, rfl, et, true, congrArg V.bl (decide_eq_true rfl), iteF ?_⟩⟩
    refine ⟨_, rfl, t, _, 1, _, rfl, rfl, SqT.of et, i1, .ref m, .ty "tuple", _, _, true, rfl, .ty _, (Fo.tup em).ty, kit_ty (r := true) (by decide +kernel), _, rfl, iteF ?_⟩
    refine ⟨_, rfl, t, _, 1, _, rfl, rfl, SqT.of et, i1, m, _, rfl, .inr (SqT.of em), ?_⟩
    rw [List.length_map]
    exact k
abbrev s_part : Stmt := top 44
theorem sc_part : FnScope ["size", "thing", "state"] ["size", "thing"] (defScope s_part) := ⟨rfl, rfl, rfl, by decide +kernel, rfl, by decide +kernel, by decide +kernel⟩
theorem ok_part {f : Addr} {fd : FuncData} (F : Fun K "is_part" "is_part" s_part f fd) (T : Bm mg) (G : DrG mg) (c_tup : Cal P w K mg base 1 "is_tuple_of" ["many", "thing"] (spTupOf K C)) (c_ab : Cal P w K mg base 8 "is_above_zero" ["thing"] (spAbove K C)) (c_ix : Cal P w K mg base 3 "is_index" ["many", "thing"] (spIndex K C DC)) : FnOk P w K mg base CX0 9 f fd ["size", "thing"] (spIsPart C) := by
  obtain ⟨tL, gL⟩ := G.gL
  refine F.ok sc_part (fun vs H Q E h => ?_) (fun cdv A outer s H vs Q E hr h => ?_)
  · obtain ⟨n, t, m, x, ws, S, D, rfl, _⟩ := h
    rfl
  · obtain ⟨n, t, m, x, ws, S, D, rfl, n1, n8, et, hx, hS, hD, hSb, hDb, hm, k⟩ := h
    refine ⟨_, (pss_cons (ps_if (PW.pt (pw_or (pt_not (pt_chain op_le op_le pe_int (pv 0) (pe_glob (v := .int 8) rfl gL ⟨_, rfl⟩))) (pw_or (pt_not (pt_val (pe_cal c_tup (hr.mono (by decide)) rfl (pa_cons pe_int (pa_cons (pv 1) pa_nil))))) (pw_or1 (pt_not (pt_val (pe_cal c_ab (hr.mono (by decide)) rfl (pa_cons (pe_ix ix_tup (pv 1) pe_int (fun _ _ => rfl)) pa_nil))))))))
        (pss_one (ps_ret pe_bl))
        pss_nil)
      (pss_one (ps_ret (pe_and (pe_cal c_tup (hr.mono (by decide)) rfl (pa_cons (pv 0) (pa_cons (pe_ix ix_tup (pv 1) pe_int (fun _ _ => rfl)) pa_nil))) (pe_one (pe_callB (cr_all rfl) (by rfl) T.n_all PyProof.Rows.boot_all (pa_cons (pe_lc (own := [("state", 2)]) rfl sc_part.nd (pi_tup (pe_ix ix_tup (pv 1) pe_int (fun _ _ => rfl))) (blkOk_by (N := ["size", "thing", "state"]) (sc := defScope s_part) (by decide +kernel)) (fun _ _ _ _ _ => (pg_name (i := 2) sc_part.nd rfl (Or.inl rfl))) (fun _ _ _ _ _ => pts_nil) (fun _ _ _ _ _ => (pe_cal c_ix (hr.mono (by decide)) rfl (pa_cons (pv 0) (pa_cons (pv 2) pa_nil))))) pa_nil))))))), ?_⟩
    refine ⟨_, rfl, 1, n, rfl, rfl, true, congrArg V.bl (decide_eq_true (by omega)), iteT ⟨n, 8, rfl, rfl, true, congrArg V.bl (decide_eq_true (by omega)), iteF ?_⟩⟩
    refine ⟨_, rfl, 2, .ref t, rfl, .inl ⟨t, _, rfl, et, true, congrArg V.bl (decide_eq_true rfl), iteF ?_⟩⟩
    refine ⟨_, rfl, t, _, 0, _, rfl, rfl, SqT.of et, at0, x, rfl, .inl ⟨S, D, hx, hD, hSb, hDb, fun H1 s1 => ⟨true, congrArg V.bl (decide_eq_true hS), iteF ?_⟩⟩⟩
    have et1 := s1 _ _ et
    have hm1 := hm.same s1
    refine ⟨_, rfl, _, rfl, t, _, 1, _, rfl, rfl, SqT.of et1, i1, n, .ref m, rfl, .inl ⟨m, _, rfl, hm1.1, true, congrArg V.bl (decide_eq_true (by rw [List.length_map, hm.2.1])), iteT ?_⟩⟩
    refine ⟨_, rfl, t, _, 1, _, rfl, rfl, SqT.of et1, i1, m, rfl, ⟨_, SqT.of hm1.1⟩, fun G nG => ?_⟩
    refine lc_tup (K := K) (a := m) (xs := cV ws) (fun i H' => Same H1 H' ∧ H' G = some (.lst ((List.replicate i true).map V.bl))) ⟨Same.put nG, upd_same⟩ (fun i H' _ h => SqT.of (h.1 _ _ hm1.1)) ?_ ?_
    · rintro i y H' hy ⟨s2, eG⟩
      obtain ⟨z, hz, rfl⟩ := cV_of hy
      have il := (List.getElem?_eq_some_iff.mp hz).1
      have zn : z < n := hm.2.2 z (List.mem_of_getElem? hz)
      refine ⟨rfl, yes_of ?_⟩
      refine ⟨_, rfl, _, rfl, n, .int (z : Int), rfl, .th (.fo (.int _)), ?_⟩
      rw [int_btw zn]
      refine ⟨_, eG, by rw [List.length_map, List.length_replicate]; exact small_len (by have := hm.2.1; omega), Same.but s2 nG, ?_⟩
      rw [upd_same, refs_rep]
    · rintro H2 ⟨s2, eG⟩
      refine ⟨G, _, rfl, SqL.of eG, ?_⟩
      rw [all_true]
      exact k H2 (s1.trans s2)
end
end KG
set_option Elab.async false
set_option linter.all false
set_option maxRecDepth 100000
set_option maxHeartbeats 4000000
/-! sum(list, start=share) -/
namespace L2
open PySem PySem.Spec PyProof.Rows
section
variable {X : Cx} {pins : List (Addr × Obj)} {σ : St} {H : Hp} {s : Shared}
theorem sum_turnsL {rA : R2} {l it S : Addr} {xs : List V} {Q : VK} (hc : X.calm = true) (op : OpN X.inn (binaryOp .Add) rA) (Pv : Nat → V → Hp → Prop) (own : ∀ i acc H, Pv i acc H → ∃ a, acc = .ref a) (row : ∀ i acc H, i ≤ xs.length → Pv i acc H → SqL X.K H l xs)
    (step : ∀ i acc x H, xs[i]? = some x → Pv i acc H → rA acc x H (Pv (i + 1))) (fin : ∀ acc H, Pv xs.length acc H → Q acc H) (ne : it ≠ S) :
    ∀ (k i : Nat) (acc : V) (v : Value) (c : Nat) (H : Hp) (s : Shared), xs.length - i = k → i ≤ xs.length → Inv X pins σ H s → RelV acc v → Pv i acc H → s.heap.IsListIter it l i → s.heap.get? S = some (sumSt v c) → FpOk X pins H it → FpOk X pins H S →
      codeAny (model X.prog X.w) X.A (.builtin "sum.loop" ⟨[.ref it, .ref S, rawInt 2, rawInt 0], []⟩) (fun r s' => match r with | .ok (.ret v) => EP X pins σ Q v s' | .ok _ => False | .error e => X.xe e s') s := by
  intro k
  induction k with
  | zero =>
    intro i acc v c H s hk hi I rv pv st hS fi fS
    have e : i = xs.length := by omega
    subst e
    obtain ⟨a, rfl⟩ := own _ _ _ pv
    obtain rfl : v = Value.ref a := rv
    obtain ⟨its, ri, pl, hz⟩ := I.list (row _ _ _ hi pv)
    have hl := ri.length
    obtain ⟨f0, f1, f2, f3, f4, f5⟩ := fi
    refine codeAny_builtin F.entry_sum_loop ?_
    rw [Around.under_plainId F.plain_sum_loop _]
    show wpAny _ X.A.in1 (seqItems? (.ref S) >>= _) _ _ s
    refine wpAny_bind (wpAny_seqItems hS rfl ?_)
    show wpAny _ X.A.in1 (tryCatch (pyNext (.ref it)) _ >>= _) _ _ s
    refine wpAny_bind (wpAny_tryCatch (wpAny_pyNext_list_end (I.ok.hd hc) st (show s.heap.IsList l its.toArray from pl.isList) (by simp; omega) fun h' eb => ?_))
    exact wpAny_pure ⟨.ref a, H, I.turned (t' := s.toks) (fun b o hb e => eb b o hb e) f0 f1 f3 f4 f5, rfl, fin _ _ pv⟩
  | succ k ih =>
    intro i acc v c H s hk hi I rv pv st hS fi fS
    have hlt : i < xs.length := by omega
    obtain ⟨a, rfl⟩ := own _ _ _ pv
    obtain rfl : v = Value.ref a := rv
    have hx : xs[i]? = some xs[i] := by simp [hlt]
    obtain ⟨its, ri, pl, hz⟩ := I.list (row _ _ _ hi pv)
    obtain ⟨u, hu, ru⟩ := ri.get hx
    have go := step i (.ref a) xs[i] H hx pv
    generalize xs[i] = x at go ru
    obtain ⟨f0, f1, f2, f3, f4, f5⟩ := id fi
    obtain ⟨g0, g1, g2, g3, g4, g5⟩ := id fS
    refine codeAny_builtin F.entry_sum_loop ?_
    rw [Around.under_plainId F.plain_sum_loop _]
    show wpAny _ X.A.in1 (seqItems? (.ref S) >>= _) _ _ s
    refine wpAny_bind (wpAny_seqItems hS rfl ?_)
    show wpAny _ X.A.in1 (tryCatch (pyNext (.ref it)) _ >>= _) _ _ s
    refine wpAny_bind (wpAny_tryCatch (wpAny_pyNext_list_item st (show s.heap.IsList l its.toArray from pl.isList) (x := u) (by simpa using hu) fun h' st' sb => ?_))
    have I1 : Inv X pins σ H { s with heap := h' } := I.turned (t' := s.toks) (fun b o hb e => (sb.2 b hb).trans e) f0 f1 f3 f4 f5
    have hS1 : h'.get? S = some (sumSt (.ref a) c) := (sb.2 S (Ne.symm ne)).trans hS
    obtain ⟨oi, ei, ci, di⟩ := id st'
    have I2 : Inv X (pins ++ [(it, oi), (S, sumSt (.ref a) c)]) σ H { s with heap := h' } := I1.pins_of fun p hp => by
      rcases List.mem_append.mp hp with hp | hp
      · exact I1.pin p (List.mem_append_right _ hp)
      · rcases List.mem_cons.mp hp with rfl | hp
        · exact ⟨ei, f0, f1, f2, fun v z => by rw [di] at z; cases z⟩
        · rw [List.mem_singleton.mp hp]
          exact ⟨hS1, g0, g1, g2, fun v z => by cases z⟩
    show wpAny _ X.A.in1 ((holding [u] (binaryOp .Add (.ref a) u)).attempt >>= _) _ _ _
    refine wpAny_bind (wpAny_attempt (wpAny_holding (wpAny_mono (op (fun _ _ => False) _ _ σ H (.ref a) x (.ref a) u _ I2.inn rfl ru go) (fun w s2 q => ?_) (fun e s2 z => z.elim))))
    obtain ⟨z, H2, I3, rz, pv2⟩ := q
    have I4 : Inv X (pins ++ [(it, oi), (S, sumSt (.ref a) c)]) σ H2 s2 := I3.outn I.ok
    obtain ⟨ki, ni, _⟩ := I4.pin (it, oi) (List.mem_append_right _ (List.mem_append_right _ List.mem_cons_self))
    obtain ⟨kS, nS, _⟩ := I4.pin (S, sumSt (.ref a) c) (List.mem_append_right _ (List.mem_append_right _ (List.mem_cons_of_mem _ List.mem_cons_self)))
    obtain ⟨a2, rfl⟩ := own _ _ _ pv2
    obtain rfl : w = Value.ref a2 := rz
    have I5 : Inv X pins σ H2 s2 := I4.unpinned
    show wpAny _ X.A.in1 (updateSeq S (fun _ => #[Value.ref a2]) >>= _) _ _ _
    refine wpAny_bind (wpAny_updateSeq kS rfl ?_)
    have hS₂ := Heap.get?_update_self (Obj.mapSeq fun _ => #[Value.ref a2]) kS rfl
    refine wpAny_bind (wpAny_letGo ?_)
    refine wpAny_bind (wpAny_updateSeq hS₂ rfl ?_)
    have hS3 := Heap.get?_update_self (Obj.mapSeq fun _ => #[Value.ref a2]) hS₂ rfl
    have oth : ∀ (b : Addr) (o : Obj), b ≠ S → s2.heap.get? b = some o → ((s2.heap.update S (Obj.mapSeq fun _ => #[Value.ref a2])).update S (Obj.mapSeq fun _ => #[Value.ref a2])).get? b = some o := fun b o hb e =>
      (Heap.get?_update_other _ _ (Ne.symm hb)).trans ((Heap.get?_update_other _ _ (Ne.symm hb)).trans e)
    have I6 : Inv X pins σ H2 { s2 with heap := (s2.heap.update S (Obj.mapSeq fun _ => #[Value.ref a2])).update S (Obj.mapSeq fun _ => #[Value.ref a2]) } := I5.turned (t' := s2.toks) oth nS g1 g3 g4 g5
    refine wpAny_pure ⟨plainId_quiet F.plain_sum_loop _, ih (i + 1) (.ref a2) (.ref a2) c H2 _ (by omega) hlt I6 rfl pv2 ⟨oi, oth it oi ne ki, by obtain ⟨o', e', c', d'⟩ := st'; rw [ei] at e'; cases e'; exact ⟨c', d'⟩⟩ hS3 ⟨ni, f1, f2, f3, f4, f5⟩ ⟨nS, g1, g2, g3, g4, g5⟩⟩
/-- sum(row, start=an instance): Pv tells the total behind i items -/
def rSumOL (K : PySem.W.Frag) (rA : R2) : List V → List V → Hp → VK → Prop := fun xs zs H Q => ∃ (l a C dx : Addr) (fs : List (Str × V)) (row : List V), xs = [.ref l] ∧ zs = [.ref a] ∧ H a = some (.ins C dx fs) ∧ NoTxt K C ∧
  ∃ Pv : Nat → V → Hp → Prop, Pv 0 (.ref a) H ∧ (∀ i acc H', Pv i acc H' → ∃ b, acc = .ref b) ∧ (∀ i acc H', i ≤ row.length → Pv i acc H' → SqL K H' l row) ∧ (∀ i acc x H', row[i]? = some x → Pv i acc H' → rA acc x H' (Pv (i + 1))) ∧ ∀ acc H', Pv row.length acc H' → Q acc H'
theorem cr_sumOL {rA : R2} (hc : X.calm = true) (op : OpN X.inn (binaryOp .Add) rA) : CallRK X (.builtin "sum") [Str.ofString "start"] (rSumOL X.K rA) := by
  intro pins s σ H xs zs us ws Q I r rz h
  obtain ⟨l, a, C, dx, fs, row, rfl, rfl, ha, nt, Pv, p0, own, kept, step, fin⟩ := h
  obtain rfl := Vals.ref1 r
  obtain rfl := Vals.ref1 rz
  obtain ⟨its, ri, pl, hz⟩ := I.list (kept 0 _ _ (Nat.zero_le _) p0)
  obtain ⟨mA, J, _⟩ := ins_get I.hok ha
  obtain ⟨od, J, _⟩ := J.look
  have n1 : ∀ M : Model, PySem.W.Looks M s.heap (isInstance (.ref a) (.type "str")) false := fun M => OC.not_inst I.kIn J nt.str
  have n2 : ∀ M : Model, PySem.W.Looks M s.heap (isInstance (.ref a) (.type "bytes")) false := fun M => OC.not_inst I.kIn J nt.byt
  have n3 : ∀ M : Model, PySem.W.Looks M s.heap (isInstance (.ref a) (.type "bytearray")) false := fun M => OC.not_inst I.kIn J nt.bar
  refine wpAny_call (codeAny_call_builtin F.plain_sum F.entry_sum ?_)
  have body : wpAny (model X.prog X.w) X.A.in1 (Builtin.«sum» ⟨[.ref l], [(Str.ofString "start", .ref a)]⟩) (fun fin s' => match fin with
      | .done f => (match (Except.ok f : Result) with | .ok (.ret v) => EP X pins σ Q v s' | .ok _ => False | .error e => X.xe e s')
      | .again c' => c'.quiet = true ∧ codeAny (model X.prog X.w) X.A c' (fun r s' => match r with | .ok (.ret v) => EP X pins σ Q v s' | .ok _ => False | .error e => X.xe e s') s') X.xe s := by
    unfold Builtin.«sum»
    simp only [List.length_cons, List.length_nil]
    rw [if_neg (by decide)]
    refine wpAny_bind (wpAny_of_eq (show Builtin.Builtins.bindParams "sum" ["start"] 0 ⟨[], [(Str.ofString "start", .ref a)]⟩ = pure [some (.ref a)] from rfl) ?_)
    refine wpAny_bind (wpAny_pyIter_list (show s.heap.IsList l its.toArray from pl.isList) ?_)
    have up : ∀ b o, s.heap.get? b = some o → (s.heap.push { cls := .type "list_iterator", data := .fields #[.ref l, .int 0 0] }).get? b = some o := fun b o e => Heap.get?_push_of_some _ e
    refine wpAny_bind (wpAny_pure ?_)
    simp only [List.forIn_cons, List.forIn_nil]
    refine wpAny_bind (wpAny_bind (wpAny_bind (n1 _ _ _ _ _ up ?_)))
    simp only [Bool.false_eq_true, if_false]
    refine wpAny_pure (wpAny_bind (wpAny_bind (n2 _ _ _ _ _ up ?_)))
    simp only [Bool.false_eq_true, if_false]
    refine wpAny_pure (wpAny_bind (wpAny_bind (n3 _ _ _ _ _ up ?_)))
    simp only [Bool.false_eq_true, if_false]
    refine wpAny_pure (wpAny_pure ?_)
    refine wpAny_bind (wpAny_newObj_type ?_)
    have I1 : Inv X pins σ H { s with heap := s.heap.push { cls := .type "list_iterator", data := .fields #[.ref l, .int 0 0] } } := I.kept (t' := s.toks) up
    have sz1 : (s.heap.push { cls := .type "list_iterator", data := .fields #[.ref l, .int 0 0] }).objs.size = s.heap.objs.size + 1 := Heap.size_push ..
    have up2 : ∀ b o, (s.heap.push { cls := .type "list_iterator", data := .fields #[.ref l, .int 0 0] }).get? b = some o → ((s.heap.push { cls := .type "list_iterator", data := .fields #[.ref l, .int 0 0] }).push { cls := .type "list", dict := none, data := .seq #[.ref a] 0 }).get? b = some o := fun b o e => Heap.get?_push_of_some _ e
    have I2 := I1.kept (t' := s.toks) up2
    have le1 : s.heap.objs.size ≤ (s.heap.push { cls := .type "list_iterator", data := .fields #[.ref l, .int 0 0] }).objs.size := by rw [sz1]; exact Nat.le_succ _
    exact wpAny_pure ⟨plainId_quiet F.plain_sum_loop _, sum_turnsL hc op Pv own kept step fin (by show s.heap.objs.size ≠ _; rw [sz1]; exact Nat.ne_of_lt (Nat.lt_succ_self _)) row.length 0 (.ref a) (.ref a) 0 H _ rfl (Nat.zero_le _) I2 rfl p0
      ⟨_, up2 _ _ (Heap.get?_push_size _ rfl), rfl, rfl⟩ (Heap.get?_push_size _ rfl) (I.fpOk (Nat.le_refl _) (I.hok.fresh (Nat.le_refl _))) (I.fpOk le1 (I.hok.fresh le1))⟩
  simp only [checkBuiltinCall, F.kind_sum]
  cases hsig : Manifest.signature? "sum" with
  | none => exact wpAny_pure body
  | some sig =>
    have ha' : Bind.checkArgs "sum" sig ⟨[.ref l], [(Str.ofString "start", .ref a)]⟩ = pure () := by simpa only [argsOk, hsig] using argsOk_sum (.ref l) (.ref a)
    simp only [List.zip_cons_cons, List.zip_nil_right, ha']
    exact wpAny_pure body
end
end L2
set_option Elab.async false
set_option linter.all false
set_option maxRecDepth 100000
set_option maxHeartbeats 4000000
namespace KG
open PySem L2
/-! ### maps in their order -/
def cle (x y : List Nat) : Prop := TS.code 8 (iW x) ≤ TS.code 8 (iW y)
theorem iW_len (x : List Nat) : (iW x).length = x.length := List.length_map _
theorem iW_bd {n : Nat} {x : List Nat} (n8 : n ≤ 8) (h : IsMap n x) : TS.Bd 8 (iW x) := fun m hm => by
  obtain ⟨k, mk, rfl⟩ := List.mem_map.mp hm
  have := h.2 k mk
  show (0 : Int) ≤ (k : Int) ∧ (k : Int) < 8
  omega
/-- total(row), of a list of numbers over D -/
def spTotalN (K : PySem.W.Frag) (C : Addr) : Sp := fun vs H Q _ => ∃ (l : Addr) (xs : List V) (Ss : List Int) (D : Int), vs = [.ref l] ∧ SqL K H l xs ∧ Nums C D H xs Ss ∧ 0 < D ∧ D.natAbs < 2 ^ 4000 ∧ Ss.length ≤ 1000 ∧ (∀ S ∈ Ss, S.natAbs < 2 ^ 3000) ∧
  ∀ (a dx : Addr) (H' : Hp), Same H H' → H' a = some (.ins C dx (shF (lowT Ss.sum D) (lowB Ss.sum D))) → Q (.ref a) H'
section
variable {P : Program} {w : World} {K : PySem.W.Frag} {mg : Str → Option Value} {base : Heap} {C B : Addr}
theorem ok_totalN {f : Addr} {fd : FuncData} (F : Fun K "total" "total" s_total f fd) (m : MkT P w K mg base C B) (nt : NoTxt K C) (n_sum : mg "sum" = none) (ad : AddT P w K mg base C) : FnOk P w K mg base CX0 10 f fd ["row"] (spTotalN K C) := by
  refine F.ok sc_total (fun vs H Q E h => ?_) (fun cdv A outer s H vs Q E hr h => ?_)
  · obtain ⟨l, xs, Ss, D, rfl, _⟩ := h
    rfl
  · obtain ⟨l, xs, Ss, D, rfl, hl, hn, hD, hDb, hlen, hS, k⟩ := h
    have o := ArT.op (X := (cxOf CX0 P w K mg base ["row"] "total" (defScope s_total) f cdv A outer s H E).nox.inn) ad (hr.in1.mono (by decide)) (hr.in1.mono (by decide))
    refine ⟨_, pss_one (ps_ret (pe_callBK (cr_sumOL rfl o) rfl n_sum PyProof.Rows.boot_sum (pa_cons (pv 0) pa_nil) (pk_cons (pe_share1 m (hr.mono (by decide)) rfl (pa_cons pe_int pa_nil)) pk_nil))), ?_⟩
    refine ⟨_, rfl, fun z dz hz hd ne => si_ok hz hd ne (a := 0) (b := 1) (by decide) (by decide +kernel) fun H1 s1 e1 => ⟨rfl, ?_⟩⟩
    have e0 : shF (lowT 0 1) (lowB 0 1) = shF (lowT (Ss.take 0).sum D) (lowB (Ss.take 0).sum D) := by
      have h1 := low_whole (i := 0) hD
      have h2 := low_int 0
      rw [Int.zero_mul] at h1
      rw [h2.1, h2.2, List.take_zero, List.sum_nil, h1.1, h1.2]
    rw [e0] at e1
    refine ⟨l, z, C, dz, _, xs, rfl, rfl, e1, nt, fun i acc H' => Same H1 H' ∧ ∃ a dx, acc = .ref a ∧ H' a = some (.ins C dx (shF (lowT (Ss.take i).sum D) (lowB (Ss.take i).sum D))),
      ⟨Same.refl _, z, dz, rfl, e1⟩, fun i acc H' ⟨_, a, _, e, _⟩ => ⟨a, e⟩, fun i acc H' _ ⟨s2, _⟩ => (s1.trans s2).seq hl, ?_, ?_⟩
    · rintro i acc x H' hx ⟨s2, a, dx, rfl, ea⟩
      obtain ⟨S, hSi, nx⟩ := (hn.same (s1.trans s2)).2 i x hx
      have hi : i < Ss.length := (List.getElem?_eq_some_iff.mp hSi).1
      have b1 : (Ss.take i).sum.natAbs < 2 ^ 4000 := sum_small (by rw [List.length_take]; omega) fun S hm => hS S (List.mem_of_mem_take hm)
      have b2 : S.natAbs < 2 ^ 4000 := Nat.lt_trans (hS S (mem_of_at hSi)) (by decide +kernel)
      refine .inl ⟨a, dx, _, rfl, ea, other_of nx, a, dx, x, _, _, _, _, rfl, ea, nx, low_of hD b1 hDb, low_of hD b2 hDb, fun z2 dz2 H2 s3 e3 => ?_⟩
      rw [(low_sum hD).1, (low_sum hD).2] at e3
      refine ⟨s2.trans s3, z2, dz2, rfl, ?_⟩
      rw [take_more hSi, List.sum_append, List.sum_cons, List.sum_nil, Int.add_zero]
      exact e3
    · rintro acc H' ⟨s2, a, dx, rfl, ea⟩
      rw [hn.1, List.take_length] at ea
      exact k a dx H' (s1.trans s2) ea
end
end KG
set_option Elab.async false
set_option linter.all false
set_option maxRecDepth 100000
set_option maxHeartbeats 4000000
namespace KG
open PySem L2
theorem walk_enumT {K : PySem.W.Frag} {a : Addr} {xs : List V} : Walk (IteT K a) xs.length (fun H => SqT K H a xs) (YPair (fun i => some (V.int (i : Nat))) fun i => xs[i]?) :=
  ⟨fun i _ hi q => ⟨xs, xs[i], q, List.getElem?_eq_getElem hi⟩, fun _ q => ⟨xs, q, Nat.le_refl _⟩, fun i _ _ _ _ q ⟨T, x, h1, h2, h3, h4⟩ => ⟨T, .int (i : Nat), x, h1, h2, h3, rfl, h4 xs q⟩⟩
/-! ### a draw is made -/
theorem notin_takeL {α : Type} : ∀ {l : List α} {i : Nat} {x : α}, l.Nodup → l[i]? = some x → x ∉ l.take i
  | [], i, x, _, h => by simp at h
  | a :: l, 0, x, _, _ => by simp
  | a :: l, i + 1, x, nd, h => by
    rw [List.nodup_cons] at nd
    have h : l[i]? = some x := h
    rw [List.take_succ_cons, List.mem_cons, not_or]
    exact ⟨fun z => nd.1 (z ▸ List.mem_of_getElem? h), notin_takeL nd.2 h⟩
/-- the share at a is t over W -/
def ShAt (C : Addr) (W : Nat) (H : Hp) (a : Addr) (t : Nat) : Prop := ∃ dx, H a = some (.ins C dx (shF (lowT (t : Int) (W : Int)) (lowB (t : Int) (W : Int))))
theorem ShAt.same {C : Addr} {W : Nat} {H H' : Hp} {a : Addr} {t : Nat} (h : ShAt C W H a t) (s : Same H H') : ShAt C W H' a t := let ⟨dx, e⟩ := h; ⟨dx, s _ _ e⟩
theorem ShAt.upx {C CC x dx : Addr} {W : Nat} {H : Hp} {a : Addr} {t : Nat} {fs : List (Str × V)} {o : HO} (h : ShAt C W H a t) (ex : H x = some (.ins CC dx fs)) (nf : fs.lookup ("top" : Str) = none) : ShAt C W (upd H x o) a t := by
  obtain ⟨dy, e⟩ := h
  refine ⟨dy, ?_⟩
  rw [upd_ne (fun z => ?_)]
  · exact e
  · rw [z, ex] at e
    have e4 := HO.ins.inj (Option.some.inj e)
    rw [e4.2.2, shF_top] at nf
    cases nf
theorem ShAt.lstU {C l : Addr} {W : Nat} {H : Hp} {a : Addr} {t : Nat} {ys : List V} {o : HO} (h : ShAt C W H a t) (e : H l = some (.lst ys)) : ShAt C W (upd H l o) a t := by
  obtain ⟨dy, h⟩ := h
  exact ⟨dy, by rw [upd_ne (fun z => by rw [z, e] at h; cases h)]; exact h⟩
theorem ShAt.dT {C d : Addr} {W : Nat} {H : Hp} {a : Addr} {t : Nat} {kvs : List (List L2.Key × V)} {o : HO} (h : ShAt C W H a t) (e : H d = some (.dT kvs)) : ShAt C W (upd H d o) a t := by
  obtain ⟨dy, h⟩ := h
  exact ⟨dy, by rw [upd_ne (fun z => by rw [z, e] at h; cases h)]; exact h⟩
/-- what is made: parts in their order, with the shares that were given -/
def DrMade (C : Addr) (n W : Nat) (H : Hp) (pt : Addr) (gs : List (Nat × List Nat)) (ps : List Dp3) : Prop := H pt = some (.tup (rfs ps)) ∧ (∀ p ∈ ps, DpAt n H p) ∧ (∀ p ∈ ps, ∃ t, (t, p.2.2.2) ∈ gs ∧ ShAt C W H p.2.1 t) ∧ (mpD ps).Pairwise cle ∧ (mpD ps).Perm (gs.map (·.2))
/-- Draw.__init__(parts), of parts that are right -/
def spDI (C DC : Addr) : Sp := fun vs H Q _ => ∃ (x dx g : Addr) (n W : Nat) (gs : List Prt), vs = [.ref x, .ref g] ∧ H x = some (.ins DC dx []) ∧ 1 ≤ n ∧ n ≤ 8 ∧ 1 ≤ W ∧ W ≤ 1000 ∧ H g = some (.tup (rfs gs)) ∧ (∀ u ∈ gs, GivAt C n W H u) ∧ (∀ u ∈ gs, u.2.1 ≤ W) ∧ (mps gs).Nodup ∧ (topsOf gs).sum = W ∧ 1 ≤ gs.length ∧ gs.length < 64 ∧
  ∀ (pt : Addr) (ps : List Dp3) (H2 : Hp), Same H H2 → DrMade C n W H2 pt (gs.map fun u => (u.2.1, u.2.2.2)) ps → Q .non (upd H2 x (.ins DC dx (drF n pt)))
theorem kx_iW (l : List Nat) : (iW l).map Sum.inl = kx l := by rw [kx, iW, List.map_map]; rfl
/-- what the dict holds behind the first parts -/
def DSt (C : Addr) (W : Nat) (H H' : Hp) (d : Addr) (gs : List Prt) (i : Nat) (es : List Ent) : Prop := Same H H' ∧ H' d = some (.dT (kvX es)) ∧ (es.map fun e => (e.1, e.2.2)) = (gs.take i).map (fun u => (u.2.2.2, [u.2.1])) ∧ ∀ e ∈ es, ∃ t, e.2.2 = [t] ∧ ShAt C W H' e.2.1 t
theorem DSt.keys {C : Addr} {W : Nat} {H H' : Hp} {d : Addr} {gs : List Prt} {i : Nat} {es : List Ent} (h : DSt C W H H' d gs i es) : es.map (·.1) = mps (gs.take i) := by
  have := congrArg (List.map fun p : List Nat × List Nat => p.1) h.2.2.1
  rw [List.map_map, List.map_map] at this
  exact this
theorem DSt.tops {C : Addr} {W : Nat} {H H' : Hp} {d : Addr} {gs : List Prt} {i : Nat} {es : List Ent} (h : DSt C W H H' d gs i es) : (es.map fun e => e.2.2.getD 0 0) = topsOf (gs.take i) := by
  have := congrArg (List.map fun p : List Nat × List Nat => p.2.getD 0 0) h.2.2.1
  rw [List.map_map, List.map_map] at this
  exact this
theorem DSt.len {C : Addr} {W : Nat} {H H' : Hp} {d : Addr} {gs : List Prt} {i : Nat} {es : List Ent} (h : DSt C W H H' d gs i es) : es.length ≤ gs.length := by
  have := congrArg List.length h.2.2.1
  rw [List.length_map, List.length_map, List.length_take] at this
  omega
section
variable {P : Program} {w : World} {K : PySem.W.Frag} {mg : Str → Option Value} {base : Heap} {C B DC : Addr}
abbrev s_DI : Stmt := inClass (top 42) 0
abbrev nDI : List Str := ["self", "parts", "size", "shares", "at", "part", "leads"]
theorem sc_DI : FnScope nDI ["self", "parts"] (defScope s_DI) := ⟨rfl, rfl, rfl, by decide +kernel, rfl, by decide +kernel, by decide +kernel⟩
theorem ok_DI {f : Addr} {fd : FuncData} (F : Fun K "__init__" "Draw.__init__" s_DI f fd) (T : Bm mg) (t : DrT K mg DC) (G : DrG mg) (c_ml : Cal P w K mg base 2 "map_length" ["part"] spMapLen) (c_part : Cal P w K mg base 9 "is_part" ["size", "thing"] (spIsPart C))
    (c_of : Cal P w K mg base 6 "share_of" ["thing"] (spShareOf C)) (c_total : Cal P w K mg base 10 "total" ["row"] (spTotalN K C)) (c_eq : EqT P w K mg base C) : FnOk P w K mg base CX0 12 f fd ["self", "parts"] (spDI C DC) := by
  obtain ⟨tP, gP⟩ := G.gP
  refine F.ok sc_DI (fun vs H Q E h => ?_) (fun cdv A outer s H vs Q E hr h => ?_)
  · obtain ⟨x, dx, g, n, W, gs, rfl, _⟩ := h
    rfl
  · obtain ⟨x, dx, g, n, W, gs, rfl, ex, n1, n8, W1, W9, eg, ig, tW, ndm, sW, g1, g64, k⟩ := h
    have hu := hu_of hr
    obtain ⟨r1, o1, q1⟩ := EqT.op (X := (cxOf CX0 P w K mg base nDI "Draw.__init__" (defScope s_DI) f cdv A outer s H E).nox) is_ne c_eq (hr.mono (by decide))
    refine ⟨_, (pss_cons (ps_if (PW.pt (pw_or (pt_not (pt_val (pe_callB call_isi (by rfl) T.b.n_isinstance (by decide +kernel) (pa_cons (pv 1) (pa_cons (pe_bltn (v := .ty "tuple") rfl T.n_tuple (by decide +kernel) rfl) pa_nil))))) (pw_or1 (pt_not (pt_chain op_le op_le pe_int (pe_callB call_len_seq (by rfl) T.b.n_len PySem.boot_len (pa_cons (pv 1) pa_nil)) (pe_glob (v := .int 300) rfl gP ⟨_, rfl⟩))))))
        pss_never
        pss_nil)
      (pss_cons (ps_set (i := 2) sc_DI.nd rfl (Or.inl rfl) (pe_cal c_ml (hr.mono (by decide)) rfl (pa_cons (pe_ix ix_tup (pv 1) pe_int (fun _ _ => rfl)) pa_nil)))
      (pss_cons (ps_set (i := 3) sc_DI.nd rfl (Or.inr rfl) pe_dnewT)
      (pss_cons (ps_for PassesOwn.never rfl (pi_enumT (by rfl) T.n_enumerate (pa_cons (pv 1) pa_nil)) (pg_tup (by rfl) (pgs_cons (pg_name (i := 4) sc_DI.nd rfl (Or.inl rfl)) (pgs_cons (pg_name (i := 5) sc_DI.nd rfl (Or.inl rfl)) pgs_nil)))
        (pss_cons (ps_if (PW.pt (pw_or (pt_not (pt_val (pe_cal c_part (hr.mono (by decide)) rfl (pa_cons (pv 2) (pa_cons (pv 5) pa_nil))))) (pw_or1 (pt_cmp (pc_din (by exact hu) (pe_ix ix_tup (pv 5) pe_int (fun _ _ => rfl)) (pv 3)) (by rfl)))))
            pss_never
            pss_nil)
          (pss_one (ps_dput (by exact hu) (pv 3) (pe_ix ix_tup (pv 5) pe_int (fun _ _ => rfl)) (pe_cal c_of (hr.mono (by decide)) rfl (pa_cons (pe_ix ix_tup (pv 5) pe_int (fun _ _ => rfl)) pa_nil)) rfl))))
      (pss_cons (ps_if (pt_cmpR o1 (pe_cal c_total (hr.mono (by decide)) rfl (pa_cons (pe_listValsT rfl (pv 3) rfl T.n_list (by decide +kernel)) pa_nil)) pe_int (nomark _))
        pss_never
        pss_nil)
      (pss_cons (ps_fld (pv 0) (pv 2) rfl)
      (pss_one (ps_fld (pv 0) (pe_callTy call_tuple_of (by rfl) T.n_tuple (by decide +kernel) (pa_cons (pe_lc (own := [("leads", 6)]) rfl sc_DI.nd (pi_list (pe_callB (cr_sortDT (d := n) (B := 8) rfl n1) (by rfl) T.n_sorted (by decide +kernel) (pa_cons (pv 3) pa_nil))) (blkOk_by (N := nDI) (sc := defScope s_DI) (by decide +kernel)) (fun _ _ _ _ _ => (pg_name (i := 6) sc_DI.nd rfl (Or.inl rfl))) (fun _ _ _ _ _ => pts_nil)
          (fun _ _ _ _ _ => (pe_tup (pa_cons (pe_dget (by exact hu) (pv 3) (pv 6) (by intro _ _; rfl)) (pa_cons (pv 6) pa_nil))))) pa_nil)) rfl)))))))), ?_⟩
    have ml : ∀ (u : Prt), u ∈ gs → (u.2.1 : Int).natAbs < 2 ^ 4000 := fun u m => by
      have := tW u m
      exact Nat.lt_of_le_of_lt (show (u.2.1 : Int).natAbs ≤ 1000 by omega) (by decide +kernel)
    have wl : (W : Int).natAbs < 2 ^ 4000 := Nat.lt_of_le_of_lt (show (W : Int).natAbs ≤ 1000 by omega) (by decide +kernel)
    refine ⟨_, rfl, .ref g, .ty "tuple", _, _, true, rfl, .ty _, (Fo.tup eg).ty, kit_ty (r := true) (by decide +kernel), _, rfl, iteF ?_⟩
    refine ⟨_, rfl, g, _, rfl, .inr (SqT.of eg), 1, _, rfl, rfl, true, congrArg V.bl (decide_eq_true (by rw [rfs_len]; omega)), iteT ⟨_, 300, rfl, rfl, true, congrArg V.bl (decide_eq_true (by rw [rfs_len]; omega)), iteF ?_⟩⟩
    -- the size
    obtain ⟨u0, hu0⟩ : ∃ u0, gs[0]? = some u0 := ⟨gs[0], List.getElem?_eq_getElem (by omega)⟩
    have mu0 := List.mem_of_getElem? hu0
    obtain ⟨x0, i1', i2', i3', i4'⟩ := ig u0 mu0
    refine ⟨_, rfl, g, _, 0, .ref u0.1, rfl, rfl, SqT.of eg, atI_nat (j := 0) (by rw [rfs, List.getElem?_map, hu0]; rfl), u0.1, u0.2.2.1, x0, u0.2.2.2, rfl, i1', i3'.1, ?_⟩
    rw [i3'.2.1]
    intro d nd
    have sd := Same.put (o := .dT []) nd
    have st0 : DSt C W H (upd H d (.dT [])) d gs 0 [] := ⟨sd, upd_same, rfl, fun _ m => by cases m⟩
    generalize (upd H d (.dT [])) = H1 at st0 ⊢
    refine ⟨_, rfl, g, rfs gs, rfl, SqT.of (st0.1 _ _ eg), ?_⟩
    refine for_it (walk_enumT (K := K) (a := g) (xs := rfs gs)) (fun i σ H' => ∃ (v4 v5 : Option V) (es : List Ent), σ = [some (.ref x), some (.ref g), some (.int (n : Int)), some (.ref d), v4, v5, none] ∧ DSt C W H H' d gs i es) ⟨none, none, [], rfl, st0⟩ (fun i σ H' _ h => by obtain ⟨_, _, _, _, h⟩ := h; exact SqT.of (h.1 _ _ eg)) ?_ ?_
    · rintro i y σ H2 H3 hi ⟨v4, v5, es, rfl, st⟩ ⟨Tn, x1, x2, rfl, nT, rfl, hx1, hx2⟩
      cases (Option.some.inj hx1)
      obtain ⟨u, hu1, mu, rfl⟩ := rfs_at hx2
      have il := (List.getElem?_eq_some_iff.mp hu1).1
      have sT := Same.put (o := .tup [.int ((i : Nat) : Int), .ref u.1]) nT
      have eT : (upd H2 Tn (.tup [.int ((i : Nat) : Int), .ref u.1])) Tn = some (.tup [.int ((i : Nat) : Int), .ref u.1]) := upd_same
      have nkm : u.2.2.2 ∉ es.map (·.1) := by
        rw [st.keys, mps, List.map_take]
        exact notin_takeL ndm (show (gs.map fun t => t.2.2.2)[i]? = some u.2.2.2 by rw [List.getElem?_map, hu1]; rfl)
      have lk := st.len
      have nde : (es.map (·.1)).Nodup := by rw [st.keys, mps, List.map_take]; exact ndm.sublist (List.take_sublist _ _)
      obtain ⟨s02, ed2, qe, ie⟩ := st
      have s03 := s02.trans sT
      have ed3 := sT _ _ ed2
      have ie3 : ∀ e ∈ es, ∃ t, e.2.2 = [t] ∧ ShAt C W (upd H2 Tn (.tup [.int ((i : Nat) : Int), .ref u.1])) e.2.1 t := fun e m => let ⟨t, h1, h2⟩ := ie e m; ⟨t, h1, h2.same sT⟩
      generalize (upd H2 Tn (.tup [.int ((i : Nat) : Int), .ref u.1])) = H3 at s03 ed3 eT ie3 ⊢
      refine ⟨Tn, [.int ((i : Nat) : Int), .ref u.1], rfl, SqT.of eT, rfl, _, _, rfl, _, _, rfl, rfl, ?_⟩
      obtain ⟨xu, g1', g2', g3', g4'⟩ := (ig u mu).same s03
      refine ⟨_, rfl, _, rfl, n, u.1, u.2.2.1, xu, u.2.2.2, (u.2.1 : Int), (W : Int), rfl, n1, n8, g1', g2', by omega, by omega, ml u mu, wl, g3', fun H4 s4 => ⟨true, rfl, iteF ?_⟩⟩
      have e4 := s4 _ _ g1'
      have em4 := s4 _ _ g3'.1
      have ed4 := s4 _ _ ed3
      refine ⟨_, rfl, u.1, _, 1, _, rfl, rfl, SqT.of e4, i1, _, rfl, d, valV (kvX es) (kx u.2.2.2), rfl, .inr ⟨kvX es, kx u.2.2.2, u.2.2.1, .inl ed4, rfl, by rw [kx_V]; exact em4, rfl⟩, _, rfl, ?_⟩
      rw [kvX_some nde]
      refine iteFe (decide_eq_false nkm) ?_
      refine ⟨_, rfl, u.1, _, 0, _, rfl, rfl, SqT.of e4, at0, xu, _, _, rfl, g2'.same s4, fun a da H5 s5 ea => ?_⟩
      have e5 := s5 _ _ e4
      have em5 := s5 _ _ em4
      have ed5 := s5 _ _ ed4
      refine ⟨_, rfl, _, rfl, u.1, _, 1, _, rfl, rfl, SqT.of e5, i1, d, _, rfl, DPut.t (k := kx u.2.2.2) ed5 (by rw [kx_V]; exact em5) (by rw [kvX, List.length_map]; exact small_len (by omega)), ?_⟩
      refine ⟨_, _, es ++ [(u.2.2.2, (a, [u.2.1]))], rfl, Same.but (fun b o e => s5 _ _ (s4 _ _ (s03 _ _ e))) nd, by rw [upd_same, kvX_put nkm], ?_, fun e m => ?_⟩
      · rw [List.map_append, qe, take_more hu1, List.map_append]
        rfl
      · rcases List.mem_append.mp m with m | m
        · obtain ⟨t, h1, h2⟩ := ie3 e m
          exact ⟨t, h1, ((h2.same s4).same s5).dT ed5⟩
        · rw [List.mem_singleton.mp m]
          exact ⟨u.2.1, rfl, ShAt.dT ⟨da, ea⟩ ed5⟩
    · rintro σ H2 ⟨v4, v5, es, rfl, st⟩
      rw [rfs_len] at st
      have kE := st.keys
      have tE := st.tops
      rw [List.take_length] at kE tE
      have lE : es.length = gs.length := by have := congrArg List.length kE; rw [List.length_map, List.length_map] at this; exact this
      have nde : (es.map (·.1)).Nodup := by rw [kE]; exact ndm
      obtain ⟨s02, ed2, qe, ie⟩ := st
      rw [List.take_length] at qe
      refine ⟨_, rfl, d, kvX es, rfl, ed2, fun H3 l s3 nl el => ?_⟩
      have s3 : Same H2 H3 := s3
      have ie3 : ∀ e ∈ es, ∃ t, e.2.2 = [t] ∧ ShAt C W H3 e.2.1 t := fun e m => let ⟨t, h1, h2⟩ := ie e m; ⟨t, h1, h2.same s3⟩
      refine ⟨l, _, iW (topsOf gs), (W : Int), rfl, SqL.of el, ⟨?_, fun i v hv => ?_⟩, by omega, wl, ?_, fun S hS => ?_, fun a da H4 s4 e4 => ?_⟩
      · rw [List.length_map, kvX, List.length_map, lE, iW_len, List.length_map]
      · rw [kvX, List.map_map, List.getElem?_map] at hv
        cases he : es[i]? with
        | none => rw [he] at hv; cases hv
        | some e =>
          rw [he] at hv
          obtain rfl := (Option.some.inj hv).symm
          obtain ⟨t, h1, dy, h2⟩ := ie3 e (List.mem_of_getElem? he)
          refine ⟨(t : Int), ?_, .inr ⟨e.2.1, dy, rfl, h2⟩⟩
          rw [iW, List.getElem?_map, ← tE, List.getElem?_map, he]
          show some (((e.2.2.getD 0 0 : Nat)) : Int) = _
          rw [h1]
          rfl
      · rw [iW_len, List.length_map]
        omega
      · obtain ⟨t, mt, rfl⟩ := List.mem_map.mp hS
        obtain ⟨u, mu, rfl⟩ := List.mem_map.mp mt
        have := tW u mu
        exact Nat.lt_of_le_of_lt (show (u.2.1 : Int).natAbs ≤ 1000 by omega) (by decide +kernel)
      have hs : (iW (topsOf gs)).sum = (W : Int) := by rw [← sW]; exact sum_ints _
      rw [hs] at e4
      obtain ⟨l1, l2⟩ := low_self (d := (W : Int)) (by omega)
      obtain ⟨c1, _⟩ := cmp_fo (K := K) (C := C) (y := .int 1) (b := true) e4 (.int 1) (by rw [l1, l2]; rfl)
      refine q1 _ _ _ _ _ c1 ?_
      refine ⟨_, rfl, iteF ?_⟩
      have s34 := s3.trans s4
      have s04 := s02.trans s34
      have ed4 := s34 _ _ ed2
      have ie4 : ∀ e ∈ es, ∃ t, e.2.2 = [t] ∧ ShAt C W H4 e.2.1 t := fun e m => let ⟨t, h1, h2⟩ := ie3 e m; ⟨t, h1, h2.same s4⟩
      have ex4 := s04 _ _ ex
      -- the fields
      refine ⟨_, rfl, _, rfl, x, DC, dx, [], rfl, ex4, t.it.cl, t.nS, by show 0 < 1000; decide, ?_⟩
      have ed5 : (upd H4 x (.ins DC dx (putF "size" (.int (n : Int)) []))) d = some (.dT (kvX es)) := by rw [upd_ne (fun z => by rw [z, ex4] at ed4; cases ed4)]; exact ed4
      have ie5 : ∀ e ∈ es, ∃ t, e.2.2 = [t] ∧ ShAt C W (upd H4 x (.ins DC dx (putF "size" (.int (n : Int)) []))) e.2.1 t := fun e m => let ⟨t, h1, h2⟩ := ie4 e m; ⟨t, h1, h2.upx ex4 rfl⟩
      have ex5 : (upd H4 x (.ins DC dx (putF "size" (.int (n : Int)) []))) x = some (.ins DC dx (putF "size" (.int (n : Int)) [])) := upd_same
      have back : ∀ (H' : Hp), Same (upd H4 x (.ins DC dx (putF "size" (.int (n : Int)) []))) H' → Same H (upd H' x (.ins DC dx [])) := fun H' s b o e => by
        by_cases q : b = x
        · subst q
          rw [upd_same]
          rw [ex] at e
          exact e
        · rw [upd_ne q]
          exact s _ _ (by rw [upd_ne q]; exact s04 _ _ e)
      have free : ∀ p, (upd H4 x (.ins DC dx (putF "size" (.int (n : Int)) []))) p = none → p ≠ x := fun p np z => by rw [z, ex5] at np; cases np
      generalize (upd H4 x (.ins DC dx (putF "size" (.int (n : Int)) []))) = H5 at ed5 ie5 ex5 back free ⊢
      refine ⟨_, rfl, d, kvX es, es.map (fun e => iW e.1), rfl, .inl ed5, ?_, by rw [List.length_map]; omega, fun ns hn => ?_, fun ys p py srt ey np => ?_⟩
      · rw [kvX, List.map_map, List.map_map]
        refine List.map_congr_left fun e _ => ?_
        exact (kx_iW e.1).symm
      · obtain ⟨e, me, rfl⟩ := List.mem_map.mp hn
        have : e.1 ∈ mps gs := by rw [← kE]; exact List.mem_map_of_mem me
        obtain ⟨u, mu, hue⟩ := List.mem_map.mp this
        have im := (ig u mu)
        obtain ⟨_, _, _, im, _⟩ := im
        rw [← hue]
        exact ⟨by rw [iW_len, im.2.1], iW_bd n8 im.2⟩
      rw [show (es.map fun e => iW e.1) = (es.map (·.1)).map iW by rw [List.map_map]; rfl] at py
      obtain ⟨us, eus, pus⟩ := perm_map py
      have ey2 : ∀ (i : Nat) (y : Addr × List Int), ys[i]? = some y → ∃ m, us[i]? = some m ∧ y.2 = iW m := fun i y e => by
        have h : (ys.map (·.2))[i]? = (us.map iW)[i]? := by rw [eus]
        rw [List.getElem?_map, List.getElem?_map, e] at h
        cases hm : us[i]? with
        | none => rw [hm] at h; cases h
        | some m => rw [hm] at h; exact ⟨m, rfl, Option.some.inj h⟩
      have lus : us.length = ys.length := by have := congrArg List.length eus; rw [List.length_map, List.length_map] at this; exact this.symm
      have lu : us.length = es.length := by have := pus.length_eq; rw [List.length_map] at this; exact this
      have sp := Same.put (o := .lst (ys.map fun t => V.ref t.1)) np
      have ep : (upd H5 p (.lst (ys.map fun t => V.ref t.1))) p = some (.lst (ys.map fun t => V.ref t.1)) := upd_same
      refine ⟨p, rfl, ⟨_, SqL.of ep⟩, fun D nD => ?_⟩
      have ed6 := sp _ _ ed5
      have ey6 : ∀ t ∈ ys, (upd H5 p (.lst (ys.map fun t => V.ref t.1))) t.1 = some (.tup (t.2.map V.int)) := fun t m => sp _ _ (ey t m)
      have ie6 : ∀ e ∈ es, ∃ t, e.2.2 = [t] ∧ ShAt C W (upd H5 p (.lst (ys.map fun t => V.ref t.1))) e.2.1 t := fun e m => let ⟨t, h1, h2⟩ := ie5 e m; ⟨t, h1, h2.same sp⟩
      generalize (upd H5 p (.lst (ys.map fun t => V.ref t.1))) = H6 at sp ep nD ed6 ey6 ie6 ⊢
      refine lc_list (K := K) (a := p) (xs := ys.map fun t => V.ref t.1) (fun i H' => Same H6 H' ∧ ∃ ps : List Dp3, H' D = some (.lst (rfs ps)) ∧ mpD ps = us.take i ∧ (∀ q ∈ ps, DpAt n H' q) ∧ ∀ q ∈ ps, ∃ t, (t, q.2.2.2) ∈ (gs.map fun u => (u.2.1, u.2.2.2)) ∧ ShAt C W H' q.2.1 t) ⟨Same.put nD, [], upd_same, rfl, fun _ m => (by cases m), fun _ m => (by cases m)⟩ (fun i H' _ h => SqL.of (h.1 _ _ ep)) ?_ ?_
      · rintro i v H' hv ⟨s7, ps, eD, qm, ip, isx⟩
        rw [List.getElem?_map] at hv
        cases hy : ys[i]? with
        | none => rw [hy] at hv; cases hv
        | some y =>
        rw [hy] at hv
        obtain rfl := (Option.some.inj hv).symm
        have my := List.mem_of_getElem? hy
        obtain ⟨m, hm, hym⟩ := ey2 i y hy
        have mm : m ∈ es.map (·.1) := pus.mem_iff.mp (List.mem_of_getElem? hm)
        obtain ⟨e, me, rfl⟩ := List.mem_map.mp mm
        have ety : H' y.1 = some (.tup (cV e.1)) := by
          have := s7 _ _ (ey6 y my)
          rw [hym, iW, List.map_map] at this
          exact this
        obtain ⟨tt, ht1, hsh⟩ := ie6 e me
        have hsh := hsh.same s7
        have imap : IsMap n e.1 := by
          have : e.1 ∈ mps gs := by rw [← kE]; exact List.mem_map_of_mem me
          obtain ⟨u, mu, hue⟩ := List.mem_map.mp this
          obtain ⟨_, _, _, im, _⟩ := ig u mu
          rw [← hue]
          exact im.2
        have mgs : (tt, e.1) ∈ (gs.map fun u => (u.2.1, u.2.2.2)) := by
          have : (e.1, e.2.2) ∈ gs.map (fun u => (u.2.2.2, [u.2.1])) := by rw [← qe]; exact List.mem_map_of_mem me
          obtain ⟨u, mu, hue⟩ := List.mem_map.mp this
          refine List.mem_map.mpr ⟨u, mu, ?_⟩
          rw [ht1] at hue
          have h1 := (Prod.mk.inj hue).1
          have h2 := (Prod.mk.inj hue).2
          rw [h1, (List.cons.inj h2).1]
        refine ⟨rfl, yes_of ?_⟩
        refine ⟨_, rfl, _, rfl, d, .ref e.2.1, rfl, .inr ⟨kvX es, kx e.1, y.1, .inl (s7 _ _ ed6), rfl, by rw [kx_V]; exact ety, (kvX_at nde me).symm⟩, _, rfl, by show 2 ≤ sizeLine; decide, fun b nb => ?_⟩
        have sb := Same.put (o := .tup [.ref e.2.1, .ref y.1]) nb
        have lps : ps.length ≤ 64 := by
          have := congrArg List.length qm
          rw [List.length_map, List.length_take] at this
          omega
        have eD2 := sb _ _ eD
        refine ⟨rfs ps, eD2, by rw [rfs_len]; exact small_len (by omega), Same.but (fun b o e => sb _ _ (s7 _ _ e)) nD, ps ++ [(b, (e.2.1, (y.1, e.1)))], by rw [upd_same, rfs_snoc], ?_, fun q mq => ?_, fun q mq => ?_⟩
        · rw [mpD, List.map_append, take_more hm, ← qm]
          rfl
        · have up : DpAt n (upd H' b (.tup [.ref e.2.1, .ref y.1])) q := by
            rcases List.mem_append.mp mq with mq | mq
            · exact (ip q mq).same sb
            · rw [List.mem_singleton.mp mq]
              exact ⟨upd_same, sb _ _ ety, imap⟩
          exact ⟨by rw [upd_ne (fun z => by have := up.1; rw [z, eD2] at this; cases this)]; exact up.1, by rw [upd_ne (fun z => by have := up.2.1; rw [z, eD2] at this; cases this)]; exact up.2.1, up.2.2⟩
        · rcases List.mem_append.mp mq with mq | mq
          · obtain ⟨t, h1, h2⟩ := isx q mq
            exact ⟨t, h1, (h2.same sb).lstU eD2⟩
          · rw [List.mem_singleton.mp mq]
            exact ⟨tt, mgs, (hsh.same sb).lstU eD2⟩
      · rintro H7 ⟨s7, ps, eD, qm, ip, isx⟩
        rw [List.length_map, ← lus, List.take_length] at qm
        refine ⟨D, _, rfl, .inl ⟨SqL.of eD, fun pt npt => ?_⟩⟩
        have spt := Same.put (o := .tup (rfs ps)) npt
        have ept : (upd H7 pt (.tup (rfs ps))) pt = some (.tup (rfs ps)) := upd_same
        have s58 := (sp.trans s7).trans spt
        have ip8 : ∀ q ∈ ps, DpAt n (upd H7 pt (.tup (rfs ps))) q := fun q m => (ip q m).same spt
        have is8 : ∀ q ∈ ps, ∃ t, (t, q.2.2.2) ∈ (gs.map fun u => (u.2.1, u.2.2.2)) ∧ ShAt C W (upd H7 pt (.tup (rfs ps))) q.2.1 t := fun q m => let ⟨t, h1, h2⟩ := isx q m; ⟨t, h1, h2.same spt⟩
        generalize (upd H7 pt (.tup (rfs ps))) = H8 at spt ept s58 ip8 is8 ⊢
        have ex8 := s58 _ _ ex5
        refine ⟨_, rfl, x, DC, dx, _, rfl, ex8, t.it.cl, t.nP, by show 1 < 1000; decide, ?_⟩
        have ntu : ∀ {a : Addr} {zs : List V}, H8 a = some (.tup zs) → a ≠ x := fun e z => by rw [z, ex8] at e; cases e
        have kk := k pt ps (upd H8 x (.ins DC dx [])) (back H8 s58) ⟨by rw [upd_ne (ntu ept)]; exact ept, fun q m => ?_, fun q m => ?_, ?_, ?_⟩
        · rw [upd_upd] at kk
          exact kk
        · obtain ⟨h1, h2, h3⟩ := ip8 q m
          exact ⟨by rw [upd_ne (ntu h1)]; exact h1, by rw [upd_ne (ntu h2)]; exact h2, h3⟩
        · obtain ⟨t, h1, h2⟩ := is8 q m
          exact ⟨t, h1, h2.upx ex8 rfl⟩
        · rw [qm]
          have h : (ys.map (·.2)).Pairwise fun a b => TS.code 8 a ≤ TS.code 8 b := List.pairwise_map.mpr srt
          rw [eus] at h
          rw [List.pairwise_map] at h
          exact h
        · rw [qm, List.map_map]
          refine pus.trans ?_
          rw [kE]
          exact List.Perm.refl _
end
end KG
set_option Elab.async false
set_option linter.all false
set_option maxRecDepth 100000
set_option maxHeartbeats 4000000
namespace KG
open PySem L2
theorem un64 {k : Nat} {A : Around} (r : Room k A) : A.units + 64 < cLine := by
  have := r.un
  omega
theorem eqvAll_dIs : ∀ L : List (List Int), PyData.eqvAll (L.map dI) (L.map dI) = true
  | [] => rfl
  | a :: L => by
    show (PyData.eqv (dI a) (dI a) && PyData.eqvAll (L.map dI) (L.map dI)) = true
    rw [eqvAll_dIs L, eqv_dI, decide_eq_true rfl]
    rfl
theorem eqv_ldIs (L : List (List Int)) : PyData.eqv (.list (L.map dI)) (.list (L.map dI)) = true := by
  rw [PyData.eqv]
  exact eqvAll_dIs L
/-- Draw(parts) -/
structure MkD (P : Program) (w : World) (K : PySem.W.Frag) (mg : Str → Option Value) (base : Heap) (C DC : Addr) : Prop where
  ex : ∃ (f : Addr) (fd : FuncData), Mk K DC f ∧ FnOk P w K mg base CX0 12 f fd ["self", "parts"] (spDI C DC) ∧ Binds K fd ["self", "parts"] []
  gD : mg "Draw" = some (.ref DC)
section
variable {X : Cx} {C DC : Addr} {p pos : Pos} {e : Expr} {es : List Expr} {t : TA}
theorem pe_drw (m : MkD X.prog X.w X.K X.mg X.base C DC) (hr : Room 13 X.A) (hg : Gl X "Draw") (ha : PA X (e :: es) t)
    (he : starEach (e :: es) X.env = (false, eval e X.env) :: starEach es X.env := by rfl) (hpl : (backTo pos (starEach es X.env)).any (·.1) = false := by rfl) :
    PE X (.Call (.Name "Draw" p) (e :: es) [] pos) (tMake DC (spDI C DC) [] E0 t) := by
  obtain ⟨f, fd, M, F, b0⟩ := m.ex
  exact pe_make M F hr hg m.gD b0 .nil pass0 ha (by decide) he hpl
end
theorem DrMade.upx {C DC x dx : Addr} {n W : Nat} {H : Hp} {pt : Addr} {gs : List (Nat × List Nat)} {ps : List Dp3} {fs : List (Str × V)} {o : HO} (h : DrMade C n W H pt gs ps) (ex : H x = some (.ins DC dx fs)) (nf : fs.lookup ("top" : Str) = none) : DrMade C n W (upd H x o) pt gs ps := by
  have ntu : ∀ {a : Addr} {zs : List V}, H a = some (.tup zs) → a ≠ x := fun e z => by rw [z, ex] at e; cases e
  obtain ⟨h1, h2, h3, h4, h5⟩ := h
  refine ⟨by rw [upd_ne (ntu h1)]; exact h1, fun q m => ?_, fun q m => ?_, h4, h5⟩
  · obtain ⟨a1, a2, a3⟩ := h2 q m
    exact ⟨by rw [upd_ne (ntu a1)]; exact a1, by rw [upd_ne (ntu a2)]; exact a2, a3⟩
  · obtain ⟨t, a1, a2⟩ := h3 q m
    exact ⟨t, a1, a2.upx ex nf⟩
/-- a draw is made -/
theorem drw_go {C DC : Addr} {n W : Nat} {g : Addr} {gs : List Prt} {H : Hp} {Qv : VK} {E : XK} {x dx : Addr} (hx : H x = none) (hd : H dx = none) (ne : dx ≠ x) (n1 : 1 ≤ n) (n8 : n ≤ 8) (W1 : 1 ≤ W) (W9 : W ≤ 1000) (eg : H g = some (.tup (rfs gs))) (ig : ∀ u ∈ gs, GivAt C n W H u) (tW : ∀ u ∈ gs, u.2.1 ≤ W) (nd : (mps gs).Nodup) (sW : (topsOf gs).sum = W) (g1 : 1 ≤ gs.length) (g64 : gs.length < 64)
    (k : ∀ (pt : Addr) (ps : List Dp3) (H' : Hp), Same H H' → H' x = some (.ins DC dx (drF n pt)) → DrMade C n W H' pt (gs.map fun u => (u.2.1, u.2.2.2)) ps → Qv .non H') : spDI C DC [.ref x, .ref g] (upd (upd H dx (.own x)) x (.ins DC dx [])) Qv E := by
  have s1 : Same H (upd (upd H dx (.own x)) x (.ins DC dx [])) := (Same.put hd).trans (Same.put (by rw [upd_ne ne.symm]; exact hx))
  refine ⟨x, dx, g, n, W, gs, rfl, upd_same, n1, n8, W1, W9, s1 _ _ eg, fun u m => (ig u m).same s1, tW, nd, sW, g1, g64, fun pt ps H2 s2 dm => ?_⟩
  have ex := s2 _ _ (show (upd (upd H dx (.own x)) x (.ins DC dx [])) x = some (.ins DC dx []) from upd_same)
  refine k pt ps _ (fun b u e => ?_) upd_same (dm.upx ex rfl)
  rw [upd_ne (ne_of_none e hx)]
  exact s2 _ _ (s1 _ _ e)
theorem DrMade.isDraw {C DC x dx : Addr} {n W : Nat} {H : Hp} {pt : Addr} {gs : List (Nat × List Nat)} {ps : List Dp3} (h : DrMade C n W H pt gs ps) (ex : H x = some (.ins DC dx (drF n pt))) : IsDraw DC H x n ps := ⟨dx, pt, ex, h.1, h.2.1⟩
end KG
set_option Elab.async false
set_option linter.all false
set_option maxRecDepth 100000
set_option maxHeartbeats 4000000
namespace KG
open PySem L2
/-! ### things of any kind; instances of these classes among them -/
inductive ThL (K : PySem.W.Frag) (Cs : List Addr) (H : Hp) : V → Prop
  | fo {x : V} {T : String} (h : Fo K H x T) : ThL K Cs H x
  | dT {a : Addr} {kvs : List (List L2.Key × V)} (e : H a = some (.dT kvs)) : ThL K Cs H (.ref a)
  | ins {C a dx : Addr} {fs : List (Str × V)} (m : C ∈ Cs) (e : H a = some (.ins C dx fs)) : ThL K Cs H (.ref a)
theorem ThL.same {K : PySem.W.Frag} {Cs : List Addr} {H H' : Hp} {x : V} (h : ThL K Cs H x) (s : Same H H') : ThL K Cs H' x := by
  cases h with
  | fo h => exact .fo (fo_same h s)
  | dT e => exact .dT (s _ _ e)
  | ins m e => exact .ins m (s _ _ e)
/-- the classes, as far as isinstance asks -/
structure InsL (K : PySem.W.Frag) (Cs : List Addr) : Prop where
  I : ∀ C ∈ Cs, InsT K C
  tu : ∀ C ∈ Cs, PySem.W.kitOne K (.ref C) (.type "tuple") = some false
/-- the items, of a tuple -/
def tupAt (H : Hp) : V → Option (List V)
  | .ref a => match H a with
    | some (.tup xs) => some xs
    | _ => none
  | _ => none
theorem tupAt_of {H : Hp} {a : Addr} {xs : List V} (e : H a = some (.tup xs)) : tupAt H (.ref a) = some xs := by
  simp only [tupAt, e]
theorem tupAt_at {H : Hp} {x : V} {xs : List V} (h : tupAt H x = some xs) : ∃ a, x = .ref a ∧ H a = some (.tup xs) := by
  cases x with
  | ref a =>
    cases e : H a with
    | none => simp only [tupAt, e] at h; cases h
    | some o =>
      cases o with
      | tup ys => simp only [tupAt, e] at h; cases h; exact ⟨a, rfl, e⟩
      | _ => simp only [tupAt, e] at h; cases h
  | _ => cases h
theorem tupAt_no {H : Hp} {a : Addr} {o : HO} (e : H a = some o) (no : ∀ xs, o ≠ .tup xs) : tupAt H (.ref a) = none := by
  cases h : tupAt H (.ref a) with
  | none => rfl
  | some xs =>
    obtain ⟨b, e1, e2⟩ := tupAt_at h
    cases e1
    rw [e] at e2
    exact absurd (Option.some.inj e2) (no xs)
theorem ThL.tupAt_same {K : PySem.W.Frag} {Cs : List Addr} {H H' : Hp} {x : V} (h : ThL K Cs H x) (s : Same H H') : tupAt H' x = tupAt H x := by
  cases h with
  | fo h =>
    cases h with
    | lst e => rw [tupAt_no e (fun _ z => by cases z), tupAt_no (s _ _ e) (fun _ z => by cases z)]
    | tup e => rw [tupAt_of e, tupAt_of (s _ _ e)]
    | dK e => rw [tupAt_no e (fun _ z => by cases z), tupAt_no (s _ _ e) (fun _ z => by cases z)]
    | _ => rfl
  | dT e => rw [tupAt_no e (fun _ z => by cases z), tupAt_no (s _ _ e) (fun _ z => by cases z)]
  | ins m e => rw [tupAt_no e (fun _ z => by cases z), tupAt_no (s _ _ e) (fun _ z => by cases z)]
theorem ThL.is {K : PySem.W.Frag} {Cs : List Addr} {H : Hp} {x : V} (I : InsL K Cs) (h : ThL K Cs H x) : ∃ t, TyX K H x t ∧ PySem.W.kitOne K t (.type "int") = some (isIB x) ∧ PySem.W.kitOne K t (.type "bool") = some (isB x) ∧ PySem.W.kitOne K t (.type "tuple") = some (tupAt H x).isSome := by
  cases h with
  | fo h =>
    refine ⟨_, h.ty, ?_⟩
    cases h with
    | non => exact ⟨by exact kit_ty (r := false) (by decide +kernel), by exact kit_ty (r := false) (by decide +kernel), by exact kit_ty (r := false) (by decide +kernel)⟩
    | bl b => exact ⟨by exact kit_ty (r := true) (by decide +kernel), by exact kit_ty (r := true) (by decide +kernel), by exact kit_ty (r := false) (by decide +kernel)⟩
    | int i => exact ⟨by exact kit_ty (r := true) (by decide +kernel), by exact kit_ty (r := false) (by decide +kernel), by exact kit_ty (r := false) (by decide +kernel)⟩
    | str x => exact ⟨by exact kit_ty (r := false) (by decide +kernel), by exact kit_ty (r := false) (by decide +kernel), by exact kit_ty (r := false) (by decide +kernel)⟩
    | lst e => exact ⟨by exact kit_ty (r := false) (by decide +kernel), by exact kit_ty (r := false) (by decide +kernel), by rw [tupAt_no e (fun _ z => by cases z)]; exact kit_ty (r := false) (by decide +kernel)⟩
    | tup e => exact ⟨by exact kit_ty (r := false) (by decide +kernel), by exact kit_ty (r := false) (by decide +kernel), by rw [tupAt_of e]; exact kit_ty (r := true) (by decide +kernel)⟩
    | dK e => exact ⟨by exact kit_ty (r := false) (by decide +kernel), by exact kit_ty (r := false) (by decide +kernel), by rw [tupAt_no e (fun _ z => by cases z)]; exact kit_ty (r := false) (by decide +kernel)⟩
  | dT e => exact ⟨_, .base (.dT e), by exact kit_ty (r := false) (by decide +kernel), by exact kit_ty (r := false) (by decide +kernel), by rw [tupAt_no e (fun _ z => by cases z)]; exact kit_ty (r := false) (by decide +kernel)⟩
  | ins m e =>
    have J := I.I _ m
    exact ⟨_, J.ty e, J.kint, J.kbool, by rw [tupAt_no e (fun _ z => by cases z)]; exact I.tu _ m⟩
def spWh3 (K : PySem.W.Frag) (Cs : List Addr) : Sp := fun vs H Q _ => ∃ x, vs = [x] ∧ ThL K Cs H x ∧ Q (.bl (isI x)) H
def spBt3 (K : PySem.W.Frag) (Cs : List Addr) : Sp := fun vs H Q _ => ∃ (a b : Int) (x : V), vs = [.int a, .int b, x] ∧ ThL K Cs H x ∧ Q (.bl (btw a b x)) H
def spIx3 (K : PySem.W.Frag) (Cs : List Addr) : Sp := fun vs H Q _ => ∃ (n : Int) (x : V), vs = [.int n, x] ∧ ThL K Cs H x ∧ Q (.bl (btw 0 (n - 1) x)) H
/-- is it a tuple of so many -/
def tupOf (H : Hp) (m : Int) (x : V) : Bool := match tupAt H x with
  | some xs => decide (V.int (xs.length : Int) = V.int m)
  | none => false
def spTo3 (K : PySem.W.Frag) (Cs : List Addr) : Sp := fun vs H Q _ => ∃ (m : Int) (x : V), vs = [.int m, x] ∧ ThL K Cs H x ∧ Q (.bl (tupOf H m x)) H
/-- is it a pair of indexes -/
def ixp (H : Hp) (n : Int) (x : V) : Bool := match tupAt H x with
  | some [y, z] => btw 0 (n - 1) y && btw 0 (n - 1) z
  | _ => false
def PairTh (K : PySem.W.Frag) (Cs : List Addr) (H : Hp) (x : V) : Prop := ∀ xs, tupAt H x = some xs → ∀ y ∈ xs, ThL K Cs H y
def spIp3 (K : PySem.W.Frag) (Cs : List Addr) : Sp := fun vs H Q _ => ∃ (n : Int) (x : V), vs = [.int n, x] ∧ ThL K Cs H x ∧ PairTh K Cs H x ∧ Q (.bl (ixp H n x)) H
theorem btw_cmp {n i : Int} : btw 0 (n - 1) (.int i) = (decide (0 ≤ i) && decide (i < n)) := by
  show (decide (0 ≤ i) && decide (i ≤ n - 1)) = _
  rw [decide_eq_decide.mpr (by omega : i ≤ n - 1 ↔ i < n)]
theorem ixp_no {H : Hp} {n : Int} {x : V} (h : ∀ y z, tupAt H x ≠ some [y, z]) : ixp H n x = false := by
  unfold ixp
  split
  · rename_i y z e
    exact absurd e (h y z)
  · rfl
section
variable {P : Program} {w : World} {K : PySem.W.Frag} {mg : Str → Option Value} {base : Heap} {Cs : List Addr}
theorem ok_wh3 {f : Addr} {fd : FuncData} (F : Fun K "is_whole" "is_whole" s_is_whole f fd) (T : Bn mg) (I : InsL K Cs) : FnOk P w K mg base CX0 1 f fd ["thing"] (spWh3 K Cs) := by
  refine F.ok sc_is_whole (fun vs H Q E h => ?_) (fun cdv A outer s H vs Q E hr h => ?_)
  · obtain ⟨x, rfl, _⟩ := h
    rfl
  · obtain ⟨x, rfl, h, k⟩ := h
    refine ⟨_, (pss_one (ps_ret (pe_and (pe_callB call_isi (by rfl) T.n_isinstance (by decide +kernel) (pa_cons (pv 0) (pa_cons (pe_bltn (v := .ty "int") rfl T.n_int (by decide +kernel) rfl) pa_nil))) (pe_one (pe_not (pe_callB call_isi (by rfl) T.n_isinstance (by decide +kernel) (pa_cons (pv 0) (pa_cons (pe_bltn (v := .ty "bool") rfl T.n_bool (by decide +kernel) rfl) pa_nil)))))))), ?_⟩
    obtain ⟨t, ty, k1, k2, _⟩ := h.is I
    have e := isI_IB x
    refine ⟨_, rfl, x, .ty "int", t, _, _, rfl, .ty _, ty, k1, _, rfl, iteB (fun z => ?_) (fun z => ?_)⟩
    · refine ⟨_, rfl, x, .ty "bool", t, _, _, rfl, .ty _, ty, k2, _, rfl, ?_⟩
      rw [z, Bool.true_and] at e
      rw [e]
      exact k
    · rw [z, Bool.false_and] at e
      rw [← e] at k
      exact k
theorem ok_lint3 {f : Addr} {fd : FuncData} (F : Fun K "_law_is_integer" "_law_is_integer" s_lint f fd) (T : Bn mg) (I : InsL K Cs) : FnOk P w K mg base CX0 1 f fd ["_law_thing"] (spWh3 K Cs) := by
  refine F.ok sc_lint (fun vs H Q E h => ?_) (fun cdv A outer s H vs Q E hr h => ?_)
  · obtain ⟨x, rfl, _⟩ := h
    rfl
  · obtain ⟨x, rfl, h, k⟩ := h
    refine ⟨_, (pss_one (ps_ret (pe_and (pe_callB call_isi (by rfl) T.n_isinstance (by decide +kernel) (pa_cons (pv 0) (pa_cons (pe_bltn (v := .ty "int") rfl T.n_int (by decide +kernel) rfl) pa_nil))) (pe_one (pe_not (pe_callB call_isi (by rfl) T.n_isinstance (by decide +kernel) (pa_cons (pv 0) (pa_cons (pe_bltn (v := .ty "bool") rfl T.n_bool (by decide +kernel) rfl) pa_nil)))))))), ?_⟩
    obtain ⟨t, ty, k1, k2, _⟩ := h.is I
    have e := isI_IB x
    refine ⟨_, rfl, x, .ty "int", t, _, _, rfl, .ty _, ty, k1, _, rfl, iteB (fun z => ?_) (fun z => ?_)⟩
    · refine ⟨_, rfl, x, .ty "bool", t, _, _, rfl, .ty _, ty, k2, _, rfl, ?_⟩
      rw [z, Bool.true_and] at e
      rw [e]
      exact k
    · rw [z, Bool.false_and] at e
      rw [← e] at k
      exact k
theorem ok_bt3 {f : Addr} {fd : FuncData} (F : Fun K "is_between" "is_between" s_is_between f fd) (c_is_whole : Cal P w K mg base 1 "is_whole" ["thing"] (spWh3 K Cs)) : FnOk P w K mg base CX0 2 f fd ["least", "most", "thing"] (spBt3 K Cs) := by
  refine F.ok sc_is_between (fun vs H Q E h => ?_) (fun cdv A outer s H vs Q E hr h => ?_)
  · obtain ⟨a, b, x, rfl, _⟩ := h
    rfl
  · obtain ⟨a, b, x, rfl, h, k⟩ := h
    refine ⟨_, (pss_one (ps_ret (pe_and (pe_cal c_is_whole (hr.mono (by decide)) rfl (pa_cons (pv 2) pa_nil)) (pe_one (pe_chain op_le op_le (pv 0) (pv 2) (pv 1)))))), ?_⟩
    refine ⟨_, rfl, x, rfl, h, _, rfl, iteB (fun z => ?_) (fun z => ?_)⟩
    · obtain ⟨i, rfl⟩ := isI_int z
      refine ⟨_, rfl, _, rfl, a, i, rfl, rfl, _, rfl, iteB (fun z2 => ?_) (fun z2 => ?_)⟩
      · refine ⟨_, rfl, i, b, rfl, rfl, ?_⟩
        show Q (.bl (decide (i ≤ b))) H
        have k : Q (.bl (decide (a ≤ i) && decide (i ≤ b))) H := k
        rw [z2, Bool.true_and] at k
        exact k
      · have k : Q (.bl (decide (a ≤ i) && decide (i ≤ b))) H := k
        rw [z2, Bool.false_and] at k
        exact k
    · rw [btw_no z] at k
      exact k
theorem ok_ix3 {f : Addr} {fd : FuncData} (F : Fun K "is_index" "is_index" s_is_index f fd) (c_is_between : Cal P w K mg base 2 "is_between" ["least", "most", "thing"] (spBt3 K Cs)) : FnOk P w K mg base CX0 3 f fd ["many", "thing"] (spIx3 K Cs) := by
  refine F.ok sc_is_index (fun vs H Q E h => ?_) (fun cdv A outer s H vs Q E hr h => ?_)
  · obtain ⟨n, x, rfl, _⟩ := h
    rfl
  · obtain ⟨n, x, rfl, h, k⟩ := h
    refine ⟨_, (pss_one (ps_ret (pe_cal c_is_between (hr.mono (by decide)) rfl (pa_cons pe_int (pa_cons (pe_op op_sub (pv 0) pe_int) (pa_cons (pv 1) pa_nil)))))), ?_⟩
    exact ⟨_, rfl, _, _, rfl, rfl, _, rfl, 0, n - 1, x, rfl, h, k⟩
theorem ok_to3 {f : Addr} {fd : FuncData} (F : Fun K "is_tuple_of" "is_tuple_of" s_tupOf f fd) (T : Bm mg) (I : InsL K Cs) : FnOk P w K mg base CX0 1 f fd ["many", "thing"] (spTo3 K Cs) := by
  refine F.ok sc_tupOf (fun vs H Q E h => ?_) (fun cdv A outer s H vs Q E hr h => ?_)
  · obtain ⟨many, x, rfl, _⟩ := h
    rfl
  · obtain ⟨many, x, rfl, h, k⟩ := h
    refine ⟨_, (pss_one (ps_ret (pe_and (pe_callB call_isi (by rfl) T.b.n_isinstance (by decide +kernel) (pa_cons (pv 1) (pa_cons (pe_bltn (v := .ty "tuple") rfl T.n_tuple (by decide +kernel) rfl) pa_nil))) (pe_one (pe_cmpR op_eq (pe_callB call_len_seq (by rfl) T.b.n_len PySem.boot_len (pa_cons (pv 1) pa_nil)) (pv 0) (nomark _)))))), ?_⟩
    obtain ⟨t, ty, _, _, k3⟩ := h.is I
    refine ⟨_, rfl, x, .ty "tuple", t, _, _, rfl, .ty _, ty, k3, _, rfl, ?_⟩
    unfold tupOf at k
    cases e : tupAt H x with
    | none =>
      rw [e] at k
      exact iteF k
    | some xs =>
      rw [e] at k
      obtain ⟨a, rfl, e2⟩ := tupAt_at e
      exact iteT ⟨_, rfl, a, xs, rfl, .inr (SqT.of e2), _, rfl, rfl, k⟩
abbrev s_ixp : Stmt := top 20
theorem sc_ixp : FnScope ["many", "thing"] ["many", "thing"] (defScope s_ixp) := ⟨rfl, rfl, rfl, by decide +kernel, rfl, by decide +kernel, by decide +kernel⟩
theorem two_of {H : Hp} {x : V} (h : tupOf H 2 x = true) : ∃ a y z, x = .ref a ∧ H a = some (.tup [y, z]) := by
  unfold tupOf at h
  cases e : tupAt H x with
  | none => rw [e] at h; cases h
  | some xs =>
    rw [e] at h
    obtain ⟨a, rfl, e2⟩ := tupAt_at e
    have h := of_decide_eq_true h
    rw [V.int.injEq] at h
    match xs, h, e2 with
    | [y, z], _, e => exact ⟨a, y, z, rfl, e⟩
    | [], h, _ => simp at h
    | [_], h, _ => simp at h
    | _ :: _ :: _ :: r, h, _ => simp at h; omega
theorem ixp_two {H : Hp} {n : Int} {x : V} (h : tupOf H 2 x = false) : ixp H n x = false := ixp_no fun y z e => by
  unfold tupOf at h
  rw [e] at h
  exact absurd rfl (of_decide_eq_false h)
theorem ok_ip3 {f : Addr} {fd : FuncData} (F : Fun K "is_index_pair" "is_index_pair" s_ixp f fd) (c_t : Cal P w K mg base 1 "is_tuple_of" ["many", "thing"] (spTo3 K Cs)) (c_i : Cal P w K mg base 3 "is_index" ["many", "thing"] (spIx3 K Cs)) : FnOk P w K mg base CX0 4 f fd ["many", "thing"] (spIp3 K Cs) := by
  refine F.ok sc_ixp (fun vs H Q E h => ?_) (fun cdv A outer s H vs Q E hr h => ?_)
  · obtain ⟨n, x, rfl, _⟩ := h
    rfl
  · obtain ⟨n, x, rfl, h, pt, k⟩ := h
    refine ⟨_, (pss_one (ps_ret (pe_and (pe_cal c_t (hr.mono (by decide)) rfl (pa_cons pe_int (pa_cons (pv 1) pa_nil))) (pe_and (pe_cal c_i (hr.mono (by decide)) rfl (pa_cons (pv 0) (pa_cons (pe_ix ix_tup (pv 1) pe_int (fun _ _ => rfl)) pa_nil))) (pe_one (pe_cal c_i (hr.mono (by decide)) rfl (pa_cons (pv 0) (pa_cons (pe_ix ix_tup (pv 1) pe_int (fun _ _ => rfl)) pa_nil)))))))), ?_⟩
    refine ⟨_, rfl, 2, x, rfl, h, _, rfl, iteB (fun tt => ?_) (fun z => ?_)⟩
    · obtain ⟨a, y, z, rfl, e⟩ := two_of tt
      have hy := pt _ (tupAt_of e) y (by simp)
      have hz := pt _ (tupAt_of e) z (by simp)
      have kk : ixp H n (.ref a) = (btw 0 (n - 1) y && btw 0 (n - 1) z) := by
        unfold ixp
        rw [tupAt_of e]
      rw [kk] at k
      refine ⟨_, rfl, _, rfl, a, _, 0, _, rfl, rfl, SqT.of e, at0, n, y, rfl, hy, _, rfl, iteB (fun q => ?_) (fun q => ?_)⟩
      · refine ⟨_, rfl, _, rfl, a, _, 1, _, rfl, rfl, SqT.of e, at1, n, z, rfl, hz, ?_⟩
        rw [q, Bool.true_and] at k
        exact k
      · rw [q, Bool.false_and] at k
        exact k
    · rw [ixp_two z] at k
      exact k
end
end KG
set_option Elab.async false
set_option linter.all false
set_option maxRecDepth 100000
set_option maxHeartbeats 2000000
/-! the bookkeeping of [e for a in xs for b in ys], over walks -/
namespace L2
open PySem PySem.Spec PyProof.Rows
/-- the inner walk, one turn of the outer one -/
theorem lc2_in {J1 : It} {m : Nat} {G1 : Hp → Prop} {Y1 : Nat → Hp → V → Hp → Prop} (w : Walk J1 m G1 Y1) {g1 : TG} {tt1 : TT} {te : TE} {vs1 : List Nat} {σ2 : St} {H4 : Hp} {D : Addr} {Nx : Hp → Prop} (Pw : Nat → Hp → Prop) (h0 : Pw 0 H4) (hG : ∀ j H, j ≤ m → Pw j H → G1 H)
    (hs : ∀ j x H H', j < m → Pw j H → Y1 j H x H' → g1 x (wipe σ2 vs1) H' fun σ3 H5 => wipe σ3 vs1 = wipe σ2 vs1 ∧ tt1 σ3 H5 fun b H6 => if b = true then te σ3 H6 fun y H7 => ∃ acc, H7 D = some (.lst acc) ∧ acc.length < sizeLine ∧ Pw (j + 1) (upd H7 D (.lst (acc ++ [y]))) else Pw (j + 1) H6) (hd : ∀ H, Pw m H → Nx H) :
    ∃ W1 : Nat → Nat → Hp → Prop, (∃ k, W1 0 k H4) ∧ ∀ j k H, W1 j k H → (J1.stop j H ∧ Nx H) ∨ (J1.go j H ∧ ∃ Nx1 : Hp → Prop, (∀ H', Nx1 H' → ∃ k', k' < k ∧ W1 (j + 1) k' H') ∧ ∀ x H', J1.yld j H x H' → g1 x (wipe σ2 vs1) H' fun σ3 H5 => wipe σ3 vs1 = wipe σ2 vs1 ∧ tt1 σ3 H5 fun b H6 =>
      if b = true then te σ3 H6 fun y H7 => ∃ acc, H7 D = some (.lst acc) ∧ acc.length < sizeLine ∧ Nx1 (upd H7 D (.lst (acc ++ [y]))) else Nx1 H6) := by
  refine ⟨fun j k H => k = m - j ∧ j ≤ m ∧ Pw j H, ⟨m, by simp, Nat.zero_le _, h0⟩, ?_⟩
  rintro j k H ⟨rfl, hj, p⟩
  have q := hG j H hj p
  by_cases hlt : j < m
  · exact .inr ⟨w.goes j H hlt q, Pw (j + 1), fun H' p' => ⟨m - (j + 1), by omega, rfl, hlt, p'⟩, fun x H' y => hs j x H H' hlt p (w.yields j H x H' hlt q y)⟩
  · have e : j = m := by omega
    subst e
    exact .inl ⟨w.stops H q, hd H p⟩
/-- the outer walk -/
theorem lc2_out {J : It} {n : Nat} {G : Hp → Prop} {Y : Nat → Hp → V → Hp → Prop} (w : Walk J n G Y) {g : TG} {tt : TT} {wi1 : TI} {g1 : TG} {tt1 : TT} {te : TE} {vs vs1 : List Nat} {σ : St} {H1 : Hp} {D : Addr} {Qd : Hp → Prop} (Pv : Nat → Hp → Prop) (h0 : Pv 0 (upd H1 D (.lst []))) (hG : ∀ i H, i ≤ n → Pv i H → G H)
    (hs : ∀ i x H H', i < n → Pv i H → Y i H x H' → g x (wipe σ vs) H' fun σ2 H2 => wipe σ2 vs = wipe σ vs ∧ tt σ2 H2 fun b H3 => if b = true then wi1 σ2 H3 fun J1 H4 => ∃ W1 : Nat → Nat → Hp → Prop, (∃ m, W1 0 m H4) ∧ ∀ j k H, W1 j k H → (J1.stop j H ∧ Pv (i + 1) H) ∨ (J1.go j H ∧ ∃ Nx1 : Hp → Prop, (∀ H', Nx1 H' → ∃ k', k' < k ∧ W1 (j + 1) k' H') ∧ ∀ x H', J1.yld j H x H' → g1 x (wipe σ2 vs1) H' fun σ3 H5 => wipe σ3 vs1 = wipe σ2 vs1 ∧ tt1 σ3 H5 fun b H6 =>
      if b = true then te σ3 H6 fun y H7 => ∃ acc, H7 D = some (.lst acc) ∧ acc.length < sizeLine ∧ Nx1 (upd H7 D (.lst (acc ++ [y]))) else Nx1 H6) else Pv (i + 1) H3) (hd : ∀ H, Pv n H → Qd H) :
    ∃ W : Nat → Nat → Hp → Prop, (∃ m, W 0 m (upd H1 D (.lst []))) ∧ ∀ i m H, W i m H → (J.stop i H ∧ Qd H) ∨ (J.go i H ∧ ∃ Nx : Hp → Prop, (∀ H', Nx H' → ∃ m', m' < m ∧ W (i + 1) m' H') ∧ ∀ x H', J.yld i H x H' → g x (wipe σ vs) H' fun σ2 H2 => wipe σ2 vs = wipe σ vs ∧ tt σ2 H2 fun b H3 => if b = true then wi1 σ2 H3 fun J1 H4 => ∃ W1 : Nat → Nat → Hp → Prop, (∃ m, W1 0 m H4) ∧ ∀ j k H, W1 j k H → (J1.stop j H ∧ Nx H) ∨ (J1.go j H ∧ ∃ Nx1 : Hp → Prop, (∀ H', Nx1 H' → ∃ k', k' < k ∧ W1 (j + 1) k' H') ∧ ∀ x H', J1.yld j H x H' → g1 x (wipe σ2 vs1) H' fun σ3 H5 => wipe σ3 vs1 = wipe σ2 vs1 ∧ tt1 σ3 H5 fun b H6 =>
      if b = true then te σ3 H6 fun y H7 => ∃ acc, H7 D = some (.lst acc) ∧ acc.length < sizeLine ∧ Nx1 (upd H7 D (.lst (acc ++ [y]))) else Nx1 H6) else Nx H3) := by
  refine ⟨fun i m H => m = n - i ∧ i ≤ n ∧ Pv i H, ⟨n, by simp, Nat.zero_le _, h0⟩, ?_⟩
  rintro i m H ⟨rfl, hi, p⟩
  have q := hG i H hi p
  by_cases hlt : i < n
  · exact .inr ⟨w.goes i H hlt q, Pv (i + 1), fun H' p' => ⟨n - (i + 1), by omega, rfl, hlt, p'⟩, fun x H' y => hs i x H H' hlt p (w.yields i H x H' hlt q y)⟩
  · have e : i = n := by omega
    subst e
    exact .inl ⟨w.stops H q, hd H p⟩
end L2
set_option Elab.async false
set_option linter.all false
set_option maxRecDepth 100000
set_option maxHeartbeats 4000000
namespace KG
open PySem L2
/-! ### pairs that are told as stuck: how they are judged -/
def toN : V → Nat
  | .int i => i.toNat
  | _ => 0
/-- the pair of states, of a thing that is one -/
def prOf (H : Hp) (n : Nat) (y : V) : Option (Nat × Nat) := match tupAt H y with
  | some [u, v] => if (btw 0 ((n : Int) - 1) u && btw 0 ((n : Int) - 1) v) = true then some (toN u, toN v) else none
  | _ => none
theorem btw_nat {n : Nat} {u : V} (h : btw 0 ((n : Int) - 1) u = true) : u = .int (toN u : Int) ∧ toN u < n := by
  cases u with
  | int i =>
    rw [btw_cmp, Bool.and_eq_true, decide_eq_true_eq, decide_eq_true_eq] at h
    refine ⟨?_, by show i.toNat < n; omega⟩
    show V.int i = V.int (i.toNat : Int)
    rw [Int.toNat_of_nonneg h.1]
  | _ => cases h
theorem prOf_some {H : Hp} {n : Nat} {y : V} {p : Nat × Nat} (h : prOf H n y = some p) : ∃ a, y = .ref a ∧ H a = some (.tup (prV p)) ∧ p.1 < n ∧ p.2 < n := by
  unfold prOf at h
  split at h
  · rename_i u v e
    by_cases c : (btw 0 ((n : Int) - 1) u && btw 0 ((n : Int) - 1) v) = true
    · rw [if_pos c] at h
      cases h
      obtain ⟨a, rfl, e2⟩ := tupAt_at e
      rw [Bool.and_eq_true] at c
      obtain ⟨u1, u2⟩ := btw_nat c.1
      obtain ⟨v1, v2⟩ := btw_nat c.2
      refine ⟨a, rfl, ?_, u2, v2⟩
      rw [e2]
      show some (HO.tup [u, v]) = some (HO.tup [V.int (toN u : Int), V.int (toN v : Int)])
      rw [← u1, ← v1]
    · rw [if_neg c] at h; cases h
  · cases h
theorem prOf_of {H : Hp} {n : Nat} {a : Addr} {p : Nat × Nat} (e : H a = some (.tup (prV p))) (h1 : p.1 < n) (h2 : p.2 < n) : prOf H n (.ref a) = some p := by
  unfold prOf
  rw [tupAt_of e]
  dsimp only
  rw [if_pos (by rw [int_btw h1, int_btw h2]; rfl)]
  rfl
theorem ixp_prOf {H : Hp} {n : Nat} {y : V} : ixp H (n : Int) y = (prOf H n y).isSome := by
  unfold ixp prOf
  cases e : tupAt H y with
  | none => rfl
  | some xs =>
    match xs with
    | [] => rfl
    | [_] => rfl
    | _ :: _ :: _ :: _ => rfl
    | [u, v] =>
      dsimp only
      cases c : (btw 0 ((n : Int) - 1) u && btw 0 ((n : Int) - 1) v) with
      | true => rw [if_pos rfl]; rfl
      | false => rw [if_neg (by decide)]; rfl
abbrev hf (p : Nat × Nat) : Nat × Nat := Dw.half p.1 p.2
/-- no states alike, and each map leads each pair to one of them -/
def clB (wss : List (List Nat)) (ps : List (Nat × Nat)) : Bool := (ps.all fun p => !decide (p.1 = p.2)) && (ps.map hf).all fun p => (List.range wss.length).all fun a => decide (Dw.half (mA wss a p.1) (mA wss a p.2) ∈ ps.map hf)
/-- what the judge tells -/
def judged (n : Nat) (wss : List (List Nat)) (H : Hp) (x : V) : Bool := match tupAt H x with
  | some xs => !xs.isEmpty && ((xs.all fun y => (prOf H n y).isSome) && clB wss (xs.filterMap (prOf H n)))
  | none => false
/-- a thing to be judged: its items, and what stands in them -/
def ThT (K : PySem.W.Frag) (Cs : List Addr) (H : Hp) (x : V) : Prop := ThL K Cs H x ∧ ∀ xs, tupAt H x = some xs → xs.length ≤ 200 ∧ ∀ y ∈ xs, ThL K Cs H y ∧ PairTh K Cs H y
def spIsStuck (K : PySem.W.Frag) (Cs : List Addr) (DC : Addr) : Sp := fun vs H Q _ => ∃ (x : Addr) (th : V) (n : Nat) (ps : List Dp3), vs = [.ref x, th] ∧ 1 ≤ n ∧ n ≤ 8 ∧ ps.length ≤ 4 ∧ IsDraw DC H x n ps ∧ ThT K Cs H th ∧ ∀ H', Same H H' → Q (.bl (judged n (mpD ps) H th)) H'
/-! the dict of the pairs -/
def kvB (qs : List (Nat × Nat)) : List (List L2.Key × V) := qs.map fun q => (kp q, V.bl true)
def addU (qs : List (Nat × Nat)) (q : Nat × Nat) : List (Nat × Nat) := if q ∈ qs then qs else qs ++ [q]
theorem kvB_any (qs : List (Nat × Nat)) (q : Nat × Nat) : ((kvB qs).any fun kv => decide (kv.1 = kp q)) = decide (q ∈ qs) := by
  rw [kvB, List.any_map, Bool.eq_iff_iff, List.any_eq_true, decide_eq_true_eq]
  constructor
  · rintro ⟨p, mp, h⟩
    rw [← kp_inj (of_decide_eq_true h)]
    exact mp
  · exact fun h => ⟨q, h, decide_eq_true rfl⟩
theorem putK_B (qs : List (Nat × Nat)) (q : Nat × Nat) : putK (kvB qs) (kp q) (.bl true) = kvB (addU qs q) := by
  unfold putK addU
  rw [kvB_any]
  by_cases c : q ∈ qs
  · rw [if_pos (decide_eq_true c), if_pos c, kvB, List.map_map]
    refine List.map_congr_left fun p _ => ?_
    show (if kp p = kp q then (kp p, V.bl true) else (kp p, V.bl true)) = (kp p, V.bl true)
    split <;> rfl
  · rw [if_neg (by rw [decide_eq_false c]; decide), if_neg c, kvB, kvB, List.map_append]
    rfl
theorem valV_B : ∀ (qs : List (Nat × Nat)) (q : Nat × Nat), (valV (kvB qs) (kp q)).isSome = decide (q ∈ qs)
  | [], q => rfl
  | p :: qs, q => by
    by_cases e : p = q
    · subst e
      rw [kvB, List.map_cons, valV_pos rfl, decide_eq_true List.mem_cons_self]
      rfl
    · rw [kvB, List.map_cons, valV_neg (fun z => e (kp_inj z))]
      show (valV (kvB qs) (kp q)).isSome = _
      rw [valV_B qs q, decide_eq_decide, List.mem_cons]
      exact ⟨.inr, fun h => h.resolve_left fun z => e z.symm⟩
theorem mem_addU {qs : List (Nat × Nat)} {q p : Nat × Nat} : p ∈ addU qs q ↔ p ∈ qs ∨ p = q := by
  unfold addU
  split
  · rename_i h
    exact ⟨.inl, fun h2 => h2.elim id fun e => e ▸ h⟩
  · rw [List.mem_append, List.mem_singleton]
theorem addU_len {qs : List (Nat × Nat)} {q : Nat × Nat} : (addU qs q).length ≤ qs.length + 1 := by
  unfold addU
  split
  · omega
  · rw [List.length_append]; exact Nat.le_refl _
theorem clB_iff {wss : List (List Nat)} {ps qs : List (Nat × Nat)} (h : ∀ q, q ∈ qs ↔ q ∈ ps.map hf) : clB wss ps = ((!(qs.any fun p => decide (p.1 = p.2))) && qs.all fun p => (List.range wss.length).all fun a => decide (Dw.half (mA wss a p.1) (mA wss a p.2) ∈ qs)) := by
  unfold clB
  have e1 : (ps.all fun p => !decide (p.1 = p.2)) = !(qs.any fun p => decide (p.1 = p.2)) := by
    rw [Bool.eq_iff_iff, List.all_eq_true, Bool.not_eq_true', List.any_eq_false]
    constructor
    · intro a q m
      obtain ⟨p, mp, rfl⟩ := List.mem_map.mp ((h q).mp m)
      have := a p mp
      rw [Bool.not_eq_true', decide_eq_false_iff_not] at this
      rw [decide_eq_true_eq]
      exact fun z => this (Dw.half_eq.mp z)
    · intro a p m
      have := a (hf p) ((h _).mpr (List.mem_map_of_mem m))
      rw [decide_eq_true_eq] at this
      rw [Bool.not_eq_true', decide_eq_false_iff_not]
      exact fun z => this (Dw.half_eq.mpr z)
  have e2 : ((ps.map hf).all fun p => (List.range wss.length).all fun a => decide (Dw.half (mA wss a p.1) (mA wss a p.2) ∈ ps.map hf)) = qs.all fun p => (List.range wss.length).all fun a => decide (Dw.half (mA wss a p.1) (mA wss a p.2) ∈ qs) := by
    rw [Bool.eq_iff_iff, List.all_eq_true, List.all_eq_true]
    constructor
    · intro a q m
      have := a q ((h q).mp m)
      rw [List.all_eq_true] at this ⊢
      intro b mb
      have t := this b mb
      rw [decide_eq_true_eq] at t ⊢
      exact (h _).mpr t
    · intro a q m
      have := a q ((h q).mpr m)
      rw [List.all_eq_true] at this ⊢
      intro b mb
      have t := this b mb
      rw [decide_eq_true_eq] at t ⊢
      exact (h _).mp t
  rw [e1, e2]
end KG
set_option Elab.async false
set_option linter.all false
set_option maxRecDepth 100000
set_option maxHeartbeats 4000000
namespace KG
open PySem L2
theorem ThT.same {K : PySem.W.Frag} {Cs : List Addr} {H H' : Hp} {x : V} (h : ThT K Cs H x) (s : Same H H') : ThT K Cs H' x := by
  refine ⟨h.1.same s, fun xs e => ?_⟩
  rw [h.1.tupAt_same s] at e
  obtain ⟨l, it⟩ := h.2 xs e
  refine ⟨l, fun y m => ?_⟩
  obtain ⟨a, b⟩ := it y m
  refine ⟨a.same s, fun zs ez u mu => ?_⟩
  rw [a.tupAt_same s] at ez
  exact (b zs ez u mu).same s
theorem prOf_same {K : PySem.W.Frag} {Cs : List Addr} {H H' : Hp} {n : Nat} {y : V} (h : ThL K Cs H y) (s : Same H H') : prOf H' n y = prOf H n y := by
  unfold prOf
  rw [h.tupAt_same s]
theorem fm_same {f g : V → Option (Nat × Nat)} : ∀ {xs : List V}, (∀ y ∈ xs, f y = g y) → xs.filterMap f = xs.filterMap g
  | [], _ => rfl
  | y :: xs, h => by
    rw [List.filterMap_cons, List.filterMap_cons, h y List.mem_cons_self, fm_same fun z m => h z (List.mem_cons_of_mem _ m)]
theorem judged_same {K : PySem.W.Frag} {Cs : List Addr} {H H' : Hp} {n : Nat} {wss : List (List Nat)} {x : V} (h : ThT K Cs H x) (s : Same H H') : judged n wss H' x = judged n wss H x := by
  unfold judged
  rw [h.1.tupAt_same s]
  cases e : tupAt H x with
  | none => rfl
  | some xs =>
    have it := fun y m => ((h.2 xs e).2 y m).1
    dsimp only
    rw [fm_same fun y m => prOf_same (it y m) s]
    congr 2
    rw [Bool.eq_iff_iff, List.all_eq_true, List.all_eq_true]
    exact ⟨fun a y m => by rw [← prOf_same (it y m) s]; exact a y m, fun a y m => by rw [prOf_same (it y m) s]; exact a y m⟩
theorem all_bl {α : Type} (f : α → Bool) (l : List α) : (l.map f).all id = l.all f := by
  rw [List.all_map]
  rfl
section
variable {P : Program} {w : World} {K : PySem.W.Frag} {mg : Str → Option Value} {base : Heap} {Cs : List Addr} {DC : Addr}
abbrev s_iss : Stmt := top 53
abbrev nIs : List Str := ["draw", "thing", "pairs", "pair", "s", "t", "_", "leads"]
theorem sc_iss : FnScope nIs ["draw", "thing"] (defScope s_iss) := ⟨rfl, rfl, rfl, by decide +kernel, rfl, by decide +kernel, by decide +kernel⟩
theorem ok_iss {f : Addr} {fd : FuncData} (F : Fun K "is_stuck" "is_stuck" s_iss f fd) (T : Bm mg) (t : DrT K mg DC) (I : InsL K Cs) (c_ip : Cal P w K mg base 4 "is_index_pair" ["many", "thing"] (spIp3 K Cs)) (c_half : Cal P w K mg base 1 "half" ["pair"] spHalf) : FnOk P w K mg base CX0 5 f fd ["draw", "thing"] (spIsStuck K Cs DC) := by
  refine F.ok sc_iss (fun vs H Q E h => ?_) (fun cdv A outer s H vs Q E hr h => ?_)
  · obtain ⟨x, th, n, ps, rfl, _⟩ := h
    rfl
  · obtain ⟨x, th, n, ps, rfl, n1, n8, p4, dr, ht, k⟩ := h
    have hu := hu_of hr
    refine ⟨_, (pss_cons (ps_if (PW.pt (pw_or (pt_not (pt_val (pe_callB call_isi (by rfl) T.b.n_isinstance (by decide +kernel) (pa_cons (pv 1) (pa_cons (pe_bltn (v := .ty "tuple") rfl T.n_tuple (by decide +kernel) rfl) pa_nil))))) (pw_or (pt_not (pt_truth (pv 1) (by intro _; rfl))) (pw_or1 (pt_not (pt_val (pe_callB (cr_all rfl) (by rfl) T.n_all PyProof.Rows.boot_all (pa_cons (pe_lc (own := [("pair", 3)]) rfl sc_iss.nd (pi_tup (pv 1)) (blkOk_by (N := nIs) (sc := defScope s_iss) (by decide +kernel)) (fun _ _ _ _ _ => (pg_name (i := 3) sc_iss.nd rfl (Or.inl rfl))) (fun _ _ _ _ _ => pts_nil) (fun _ _ _ _ _ => (pe_cal c_ip (hr.mono (by decide)) rfl (pa_cons (show PE _ _ (tFld K (tVar 0) "size") from pe_fld (pv 0) rfl) (pa_cons (pv 3) pa_nil))))) pa_nil))))))))
        (pss_one (ps_ret pe_bl))
        pss_nil)
      (pss_cons (ps_set (i := 2) sc_iss.nd rfl (Or.inr rfl) (pe_dcT (own := [("pair", 3)]) (g := gName 3) rfl (by exact hu) sc_iss.nd (pi_tup (pv 1)) (blkOk_by (N := nIs) (sc := defScope s_iss) (by decide +kernel)) (fun _ _ _ _ _ => (pg_name (i := 3) sc_iss.nd rfl (Or.inl rfl))) (fun _ _ _ _ _ => pts_nil)
          (fun _ _ _ _ _ => (pe_cal c_half (hr.mono (by decide)) rfl (pa_cons (pv 3) pa_nil))) (fun _ _ _ _ _ => pe_bl)))
      (pss_cons (ps_lock (ps_if (pt_val (pe_callB (cr_any rfl) (by rfl) T.n_any PyProof.Rows.boot_any (pa_cons (pe_lc (own := [("s", 4), ("t", 5)]) (g := gTup K 2 (gCons (gName 4) (gCons (gName 5) gNil))) rfl sc_iss.nd (pi_keys (pv 2)) (blkOk_by (N := nIs) (sc := defScope s_iss) (by decide +kernel)) (fun _ _ _ _ _ => (pg_tup (by rfl) (pgs_cons (pg_name (i := 4) sc_iss.nd rfl (Or.inl rfl)) (pgs_cons (pg_name (i := 5) sc_iss.nd rfl (Or.inl rfl)) pgs_nil)))) (fun _ _ _ _ _ => pts_nil) (fun _ _ _ _ _ => (pe_cmpR op_eq (pv 4) (pv 5) (nomark _)))) pa_nil)))
        (pss_one (ps_ret pe_bl))
        pss_nil))
      (pss_one (ps_lock (ps_ret (pe_callB (cr_all rfl) (by rfl) T.n_all PyProof.Rows.boot_all (pa_cons (pe_lc2 (own := [("s", 4), ("t", 5), ("_", 6), ("leads", 7)]) (vs1 := [6, 7]) (g := gTup K 2 (gCons (gName 4) (gCons (gName 5) gNil))) (g1 := gTup K 2 (gCons (gName 6) (gCons (gName 7) gNil))) rfl sc_iss.nd (pi_keys (pv 2)) (blkOk_by (N := nIs) (sc := defScope s_iss) (by decide +kernel)) (by decide)
          (fun _ _ _ _ _ => (pg_tup (by rfl) (pgs_cons (pg_name (i := 4) sc_iss.nd rfl (Or.inl rfl)) (pgs_cons (pg_name (i := 5) sc_iss.nd rfl (Or.inl rfl)) pgs_nil)))) (fun _ _ _ _ _ => pts_nil) (fun _ _ _ _ _ => (show PI _ _ _ (iTup K (tFld K (tVar 0) "parts")) from pi_tup (pe_fld (pv 0) rfl))) (fun _ _ _ _ _ => (pg_tup (by rfl) (pgs_cons (pg_name (i := 6) sc_iss.nd rfl (Or.inl rfl)) (pgs_cons (pg_name (i := 7) sc_iss.nd rfl (Or.inl rfl)) pgs_nil)))) (fun _ _ _ _ _ => pts_nil)
          (fun _ _ _ _ _ => (pe_cmp (pc_din (by exact hu) (pe_cal c_half (hr.mono (by decide)) rfl (pa_cons (pe_tup (pa_cons (pe_ix (show IxR _ (rIxT K) from ix_tup) (pv 7) (pv 4) (fun _ _ => rfl)) (pa_cons (pe_ix (show IxR _ (rIxT K) from ix_tup) (pv 7) (pv 5) (fun _ _ => rfl)) pa_nil))) pa_nil)) (pv 2)) (by rfl)))) pa_nil)))))))), ?_⟩
    obtain ⟨dx, pt, ex, ep, ip⟩ := id dr
    obtain ⟨ty, hty, _, _, k3⟩ := ht.1.is I
    refine ⟨_, rfl, th, .ty "tuple", ty, _, _, rfl, .ty _, hty, k3, _, rfl, ?_⟩
    unfold judged at k
    cases et : tupAt H th with
    | none =>
      rw [et] at k
      exact iteT (k H (Same.refl H))
    | some xs =>
      rw [et] at k
      dsimp only at k
      obtain ⟨l200, it⟩ := ht.2 xs et
      obtain ⟨ta, rfl, eta⟩ := tupAt_at et
      refine iteF ?_
      refine ⟨_, rfl, !xs.isEmpty, .inr (.inl ⟨_, SqT.of eta, rfl⟩), ?_⟩
      cases hx : xs.isEmpty with
      | true =>
        rw [hx] at k
        exact iteT (k H (Same.refl H))
      | false =>
        rw [hx] at k
        refine iteF ?_
        refine ⟨_, rfl, ta, rfl, ⟨_, SqT.of eta⟩, fun D nD => ?_⟩
        refine lc_tup (K := K) (a := ta) (xs := xs) (fun i H' => Same H H' ∧ H' D = some (.lst (((xs.take i).map fun y => (prOf H n y).isSome).map V.bl))) ⟨Same.put nD, upd_same⟩ (fun i H' _ h => SqT.of (h.1 _ _ eta)) ?_ ?_
        · rintro i y H' hy ⟨s1, eD⟩
          have my := List.mem_of_getElem? hy
          have il := (List.getElem?_eq_some_iff.mp hy).1
          obtain ⟨i1', i2'⟩ := it y my
          refine ⟨rfl, yes_of ?_⟩
          refine ⟨_, rfl, x, DC, dx, _, _, rfl, s1 _ _ ex, t.it.cl, t.nS, drF_size _ _, _, rfl, (n : Int), y, rfl, i1'.same s1, fun zs ez u mu => ?_, ?_⟩
          · rw [i1'.tupAt_same s1] at ez
            exact (i2' zs ez u mu).same s1
          rw [ixp_prOf, prOf_same i1' s1]
          refine ⟨_, eD, by rw [List.length_map, List.length_map, List.length_take]; exact small_len (by omega), Same.but s1 nD, ?_⟩
          rw [upd_same, take_more hy, List.map_append, List.map_append]
          rfl
        · rintro H1 ⟨s1, eD⟩
          rw [List.take_length] at eD
          refine ⟨D, _, rfl, SqL.of eD, _, rfl, ?_⟩
          rw [all_bl]
          cases ha : xs.all fun y => (prOf H n y).isSome with
          | false =>
            rw [ha] at k
            exact iteT (k H1 s1)
          | true =>
            rw [ha] at k
            refine iteF ?_
            have someP : ∀ (i : Nat) (y : V), xs[i]? = some y → ∃ p, prOf H n y = some p := fun i y e => by
              have := List.all_eq_true.mp ha y (List.mem_of_getElem? e)
              cases h : prOf H n y with
              | none => rw [h] at this; cases this
              | some p => exact ⟨p, rfl⟩
            -- the dict of the pairs
            refine ⟨_, rfl, ta, rfl, ⟨_, SqT.of (s1 _ _ eta)⟩, fun d nd => ?_⟩
            have ndH := s1.free nd
            refine dcT_it (walk_tup (K := K) (a := ta) (xs := xs)) (fun i H' => Same H1 H' ∧ ∃ qs : List (Nat × Nat), H' d = some (.dT (kvB qs)) ∧ (∀ q, q ∈ qs ↔ q ∈ ((xs.take i).filterMap (prOf H n)).map hf) ∧ qs.length ≤ i) ⟨Same.put nd, [], upd_same, fun q => (by simp), Nat.le_refl _⟩ (fun i H' _ h => SqT.of (h.1 _ _ (s1 _ _ eta))) ?_ ?_
            · rintro i y H'' H' hi ⟨s2, qs, ed, mq, lq⟩ ⟨rfl, hy⟩
              obtain ⟨p, hp⟩ := someP i y hy
              obtain ⟨a, rfl, ea, pn1, pn2⟩ := prOf_some hp
              refine ⟨rfl, yes_of ?_⟩
              refine ⟨_, rfl, a, p, rfl, s2 _ _ (s1 _ _ ea), fun u H3 s3 eu => ?_⟩
              have ed3 := s3 _ _ ed
              refine ⟨kvB qs, kp (hf p), u, rfl, eu, ed3, by rw [kvB, List.length_map]; exact small_len (by omega), Same.but (fun b o e => s3 _ _ (s2 _ _ e)) nd, addU qs (hf p), by rw [upd_same, putK_B], fun q => ?_, Nat.le_trans addU_len (by omega)⟩
              rw [mem_addU, mq, take_more hy, List.filterMap_append, List.map_append, List.mem_append]
              have : ([V.ref a].filterMap (prOf H n)).map hf = [hf p] := by
                rw [List.filterMap_cons, hp]
                rfl
              rw [this, List.mem_singleton]
            · rintro H2 ⟨s2, qs, ed, mq, lq⟩
              rw [List.take_length] at mq
              have s02 := s1.trans s2
              rw [clB_iff (qs := qs) mq] at k
              have fin : ∀ (H' : Hp) (u : HO), Keep d H2 H' → Same H (upd H' d u) := fun H' u kp => Same.but (fun b o e => kp b o (s02 _ _ e) (ne_of_none e ndH)) ndH
              have lps : (mpD ps).length = ps.length := List.length_map _
              refine ⟨d, _, ed, trivial, fun od => ?_⟩
              have kp3 : Keep d H2 (upd H2 d (.frz od (.dT (kvB qs)))) := Keep.put _
              have fz3 : (upd H2 d (.frz od (.dT (kvB qs)))) d = some (.frz od (.dT (kvB qs))) := upd_same
              generalize (upd H2 d (.frz od (.dT (kvB qs)))) = H3 at kp3 fz3 ⊢
              refine ⟨_, rfl, d, od, rfl, .inr ⟨kvB qs, fz3, fun G nG => ?_⟩⟩
              have Gd : G ≠ d := fun z => by rw [z, fz3] at nG; cases nG
              have nG2 : H2 G = none := by
                cases e : H2 G with
                | none => rfl
                | some o => rw [kp3 _ _ e Gd] at nG; cases nG
              refine lc_it walk_keysT (fun i H' => Keep d H2 H' ∧ H' d = some (.frz od (.dT (kvB qs))) ∧ H' G = some (.lst (((qs.take i).map fun p => decide (p.1 = p.2)).map V.bl))) ⟨kp3.but nG2, by rw [upd_ne (Ne.symm Gd)]; exact fz3, upd_same⟩ (fun i H' _ h => h.2.1) ?_ ?_
              · rintro i v H'' H' hi ⟨kp4, fz4, eG⟩ ⟨rfl, kk, vv, q, hkv, rfl, hq⟩
                rw [kvB, List.getElem?_map] at hkv
                cases hp : qs[i]? with
                | none => rw [hp] at hkv; cases hkv
                | some p =>
                  rw [hp] at hkv
                  cases (Option.some.inj hkv)
                  have il := (List.getElem?_eq_some_iff.mp hp).1
                  refine ⟨q, prV p, rfl, SqT.of hq, rfl, _, _, rfl, _, _, rfl, rfl, rfl, yes_of ?_⟩
                  refine ⟨_, rfl, _, rfl, rfl, ?_⟩
                  refine ⟨_, eG, by rw [List.length_map, List.length_map, List.length_take]; exact small_len (by omega), kp4.but nG2, by rw [upd_ne (Ne.symm Gd)]; exact fz4, ?_⟩
                  rw [upd_same, take_more hp, List.map_append, List.map_append]
                  refine congrArg (fun z => some (HO.lst (_ ++ [z]))) ?_
                  show V.bl (decide (V.int (p.1 : Int) = V.int (p.2 : Int))) = V.bl (decide (p.1 = p.2))
                  rw [decide_eq_decide.mpr (show V.int (p.1 : Int) = V.int (p.2 : Int) ↔ p.1 = p.2 by rw [V.int.injEq]; omega)]
              · rintro H4 ⟨kp4, fz4, eG⟩
                rw [kvB, List.length_map, List.take_length] at eG
                refine ⟨G, _, rfl, SqL.of eG, ?_⟩
                rw [show ((qs.map fun p => decide (p.1 = p.2)).any id) = qs.any fun p => decide (p.1 = p.2) by rw [List.any_map]; rfl]
                cases hany : qs.any fun p => decide (p.1 = p.2) with
                | true =>
                  rw [hany] at k
                  exact ⟨true, rfl, iteT ⟨fz4, k _ (fin _ _ kp4)⟩⟩
                | false =>
                  rw [hany] at k
                  refine ⟨false, rfl, iteF ⟨fz4, ?_⟩⟩
                  have kp5 : Keep d H2 (upd H4 d (.dT (kvB qs))) := kp4.trans (Keep.put _)
                  have ed5 : (upd H4 d (.dT (kvB qs))) d = some (.dT (kvB qs)) := upd_same
                  generalize (upd H4 d (.dT (kvB qs))) = H5 at kp5 ed5 ⊢
                  refine ⟨d, _, ed5, trivial, fun od2 => ?_⟩
                  have kp6 : Keep d H2 (upd H5 d (.frz od2 (.dT (kvB qs)))) := kp5.trans (Keep.put _)
                  have fz6 : (upd H5 d (.frz od2 (.dT (kvB qs)))) d = some (.frz od2 (.dT (kvB qs))) := upd_same
                  generalize (upd H5 d (.frz od2 (.dT (kvB qs)))) = H6 at kp6 fz6 ⊢
                  refine ⟨_, rfl, d, od2, rfl, .inr ⟨kvB qs, fz6, fun G2 nG6 => ?_⟩⟩
                  have G2d : G2 ≠ d := fun z => by rw [z, fz6] at nG6; cases nG6
                  have nG22 : H2 G2 = none := by
                    cases e : H2 G2 with
                    | none => rfl
                    | some o => rw [kp6 _ _ e G2d] at nG6; cases nG6
                  let rowB : Nat × Nat → List Bool := fun p => (List.range ps.length).map fun a => decide (Dw.half (mA (mpD ps) a p.1) (mA (mpD ps) a p.2) ∈ qs)
                  have lrow : ∀ p, (rowB p).length = ps.length := fun p => by rw [List.length_map, List.length_range]
                  have lfl : ∀ l : List (Nat × Nat), ((l.map rowB).flatten).length = l.length * ps.length := fun l => by
                    induction l with
                    | nil => simp
                    | cons p l ih => rw [List.map_cons, List.flatten_cons, List.length_append, lrow, ih, List.length_cons, Nat.succ_mul]; omega
                  have fl1 : ∀ (l : List (Nat × Nat)) (p : Nat × Nat), ((l ++ [p]).map rowB).flatten = (l.map rowB).flatten ++ rowB p := fun l p => by
                    rw [List.map_append, List.flatten_append, List.map_cons, List.map_nil, List.flatten_cons, List.flatten_nil, List.append_nil]
                  have old : ∀ {H' : Hp} {b : Addr} {o : HO}, Keep d H2 H' → H b = some o → H' b = some o := fun kp e => kp _ _ (s02 _ _ e) (ne_of_none e ndH)
                  refine lc2_out walk_keysT (fun i H' => Keep d H2 H' ∧ H' d = some (.frz od2 (.dT (kvB qs))) ∧ H' G2 = some (.lst ((((qs.take i).map rowB).flatten).map V.bl))) ⟨kp6.but nG22, by rw [upd_ne (Ne.symm G2d)]; exact fz6, upd_same⟩ (fun i H' _ h => h.2.1) ?_ ?_
                  · rintro i v H'' H7 hi ⟨kp7, fz7, eG7⟩ ⟨rfl, kk, vv, q, hkv, rfl, hq⟩
                    rw [kvB, List.getElem?_map] at hkv
                    cases hp : qs[i]? with
                    | none => rw [hp] at hkv; cases hkv
                    | some p =>
                      rw [hp] at hkv
                      cases (Option.some.inj hkv)
                      have il := (List.getElem?_eq_some_iff.mp hp).1
                      have mpq := List.mem_of_getElem? hp
                      have pn : p.1 < n ∧ p.2 < n := by
                        obtain ⟨r, mr, hr2⟩ := List.mem_map.mp ((mq p).mp mpq)
                        obtain ⟨y, _, hy⟩ := List.mem_filterMap.mp mr
                        obtain ⟨_, _, _, b1, b2⟩ := prOf_some hy
                        rw [← hr2]
                        show min r.1 r.2 < n ∧ max r.1 r.2 < n
                        omega
                      refine ⟨q, prV p, rfl, SqT.of hq, rfl, _, _, rfl, _, _, rfl, rfl, rfl, yes_of ?_⟩
                      refine ⟨_, rfl, x, DC, dx, _, _, rfl, old kp7 ex, t.it.cl, t.nP, drF_parts _ _, pt, rfl, ⟨_, SqT.of (old kp7 ep)⟩, ?_⟩
                      refine lc2_in (walk_tup (K := K) (a := pt) (xs := rfs ps)) (fun j H' => Keep d H2 H' ∧ H' d = some (.frz od2 (.dT (kvB qs))) ∧ H' G2 = some (.lst ((((qs.take i).map rowB).flatten ++ (rowB p).take j).map V.bl))) ⟨kp7, fz7, by rw [List.take_zero, List.append_nil]; exact eG7⟩ (fun j H' _ h => SqT.of (old h.1 ep)) ?_ ?_
                      · rintro j z H8' H8 hj ⟨kp8, fz8, eG8⟩ ⟨rfl, hz⟩
                        obtain ⟨r, hr2, mr, rfl⟩ := rfs_at hz
                        have jl := (List.getElem?_eq_some_iff.mp hr2).1
                        have dp := ip r mr
                        have e1 := old kp8 dp.1
                        have e2 := old kp8 dp.2.1
                        have gm : ∀ s, s < n → r.2.2.2[s]? = some (mA (mpD ps) j s) := fun s hs => by
                          have : s < r.2.2.2.length := by rw [dp.2.2.1]; exact hs
                          show _ = some (((mpD ps).getD j []).getD s 0)
                          rw [show (mpD ps).getD j [] = r.2.2.2 by rw [List.getD, List.getElem?_map, hr2]; rfl, List.getD, List.getElem?_eq_getElem this]
                          rfl
                        refine ⟨r.1, [.ref r.2.1, .ref r.2.2.1], rfl, SqT.of e1, rfl, _, _, rfl, _, _, rfl, rfl, rfl, yes_of ?_⟩
                        refine ⟨_, rfl, _, rfl, r.2.2.1, _, _, _, rfl, rfl, SqT.of e2, atI_nat (cV_at (gm p.1 pn.1)), _, rfl, _, rfl, r.2.2.1, _, _, _, rfl, rfl, SqT.of e2, atI_nat (cV_at (gm p.2 pn.2)), by show 2 ≤ sizeLine; decide, fun b nb => ?_⟩
                        have sb := Same.put (o := .tup (prV (mA (mpD ps) j p.1, mA (mpD ps) j p.2))) nb
                        refine ⟨b, (mA (mpD ps) j p.1, mA (mpD ps) j p.2), rfl, upd_same, fun u H9 s9 eu => ?_⟩
                        have sb9 := sb.trans s9
                        refine ⟨_, rfl, d, valV (kvB qs) (kp (hf (mA (mpD ps) j p.1, mA (mpD ps) j p.2))), rfl, .inr ⟨kvB qs, kp (hf (mA (mpD ps) j p.1, mA (mpD ps) j p.2)), u, .inr ⟨od2, sb9 _ _ fz8⟩, rfl, eu, rfl⟩, ?_⟩
                        rw [valV_B]
                        have jr : (rowB p)[j]? = some (decide (hf (mA (mpD ps) j p.1, mA (mpD ps) j p.2) ∈ qs)) := by
                          show ((List.range ps.length).map _)[j]? = _
                          rw [List.getElem?_map, List.getElem?_range jl]
                          rfl
                        refine ⟨_, sb9 _ _ eG8, ?_, (kp8.trans (Keep.of sb9)).but nG22, by rw [upd_ne (Ne.symm G2d)]; exact sb9 _ _ fz8, ?_⟩
                        · rw [List.length_map, List.length_append, lfl, List.length_take, List.length_take]
                          refine small_len ?_
                          have h1 : min i qs.length * ps.length ≤ 200 * 4 := Nat.mul_le_mul (by omega) p4
                          have h2 := lrow p
                          omega
                        · rw [upd_same, take_more jr, List.map_append, List.map_append, List.map_append, List.append_assoc]
                          rfl
                      · rintro H8 ⟨kp8, fz8, eG8⟩
                        refine ⟨kp8, fz8, ?_⟩
                        rw [rfs_len, ← lrow p, List.take_length] at eG8
                        rw [eG8, take_more hp, fl1]
                  · rintro H7 ⟨kp7, fz7, eG7⟩
                    rw [kvB, List.length_map, List.take_length] at eG7
                    refine ⟨G2, _, rfl, SqL.of eG7, fz7, ?_⟩
                    have e : ((qs.map rowB).flatten).all id = qs.all fun p => (List.range (mpD ps).length).all fun a => decide (Dw.half (mA (mpD ps) a p.1) (mA (mpD ps) a p.2) ∈ qs) := by
                      rw [List.all_flatten, List.all_map, lps]
                      refine congrArg (fun f => qs.all f) (funext fun p => ?_)
                      show ((List.range ps.length).map _).all id = _
                      rw [List.all_map]
                      rfl
                    rw [e]
                    exact k _ (fin _ _ kp7)
end
end KG
set_option Elab.async false
set_option linter.all false
set_option maxRecDepth 100000
set_option maxHeartbeats 4000000
namespace KG
open PySem L2
/-! ### rows of a draw's chain; the chain -/
/-- the tops of the maps that lead s to t -/
def wv (ts : List Prt) (s t : Nat) : Nat := (topsOf (ts.filter fun p => decide (p.2.2.2.getD s 0 = t))).sum
def wrow (n : Nat) (ts : List Prt) (s : Nat) : List Nat := (List.range n).map (wv ts s)
theorem sum_filter_le (f : Prt → Bool) : ∀ ts : List Prt, (topsOf (ts.filter f)).sum ≤ (topsOf ts).sum
  | [] => Nat.le_refl _
  | t :: ts => by
    have ih := sum_filter_le f ts
    rw [List.filter_cons]
    split
    · show t.2.1 + (topsOf (ts.filter f)).sum ≤ t.2.1 + (topsOf ts).sum
      omega
    · show (topsOf (ts.filter f)).sum ≤ t.2.1 + (topsOf ts).sum
      omega
theorem le_sum {x : Nat} : ∀ {l : List Nat}, x ∈ l → x ≤ l.sum
  | [], h => by cases h
  | a :: l, h => by
    rw [List.sum_cons]
    rcases List.mem_cons.mp h with rfl | h
    · omega
    · have := le_sum h
      omega
theorem wrow_tps {n : Nat} {H : Hp} {ts : List Prt} (pi : PrtsIn n H ts) (t1 : 1 ≤ ts.length) (t4 : ts.length ≤ 4) {s : Nat} (hs : s < n) : Tps n (wrow n ts s) := by
  obtain ⟨tl, _⟩ := tops_le pi
  refine ⟨by rw [wrow, List.length_map, List.length_range], ?_, fun w mw => ?_⟩
  · have g0 : ts[0]? = some (ts[0]'(by omega)) := List.getElem?_eq_getElem _
    have m0 := List.mem_of_getElem? g0
    generalize ts[0]'(by omega) = p at g0 m0
    have hp := pi p m0
    have lp : s < p.2.2.2.length := by rw [hp.2.1.2.1]; exact hs
    have hlt : p.2.2.2.getD s 0 < n := by
      rw [List.getD, List.getElem?_eq_getElem lp]
      exact hp.2.1.2.2 _ (List.getElem_mem lp)
    have h1 : p.2.1 ∈ topsOf (ts.filter fun q => decide (q.2.2.2.getD s 0 = p.2.2.2.getD s 0)) := List.mem_map.mpr ⟨p, List.mem_filter.mpr ⟨m0, decide_eq_true rfl⟩, rfl⟩
    have h2 : wv ts s (p.2.2.2.getD s 0) ∈ wrow n ts s := List.mem_map.mpr ⟨_, List.mem_range.mpr hlt, rfl⟩
    have h3 := le_sum h1
    have h4 := le_sum h2
    have h5 := hp.2.2.1
    unfold wv at h4
    omega
  · obtain ⟨t, _, rfl⟩ := List.mem_map.mp mw
    have := sum_filter_le (fun p => decide (p.2.2.2.getD s 0 = t)) ts
    have e : (2 : Nat) ^ 40 = 1099511627776 := by decide +kernel
    unfold wv
    omega
theorem wrow_sum {n : Nat} {H : Hp} {ts : List Prt} (pi : PrtsIn n H ts) (t4 : ts.length ≤ 4) (n8 : n ≤ 8) (s : Nat) : (wrow n ts s).sum ≤ 1000 := by
  obtain ⟨tl, _⟩ := tops_le pi
  have b : ∀ l : List Nat, (l.map (wv ts s)).sum ≤ l.length * 16 := fun l => by
    induction l with
    | nil => simp
    | cons t l ih =>
      have := sum_filter_le (fun p => decide (p.2.2.2.getD s 0 = t)) ts
      have h : wv ts s t ≤ 16 := by unfold wv; omega
      rw [List.map_cons, List.sum_cons, List.length_cons, Nat.succ_mul]
      omega
  have := b (List.range n)
  rw [List.length_range] at this
  unfold wrow
  omega
def spLedRows : Sp := fun vs H Q _ => ∃ (l : Addr) (n : Nat) (ts : List Prt), vs = [.ref l, .int (n : Int)] ∧ 1 ≤ n ∧ n ≤ 8 ∧ H l = some (.lst (rfs ts)) ∧ PrtsIn n H ts ∧ 1 ≤ ts.length ∧ ts.length ≤ 4 ∧
  ∀ (r : Addr) (rs : List (Addr × List Nat)) (H' : Hp), Same H H' → H r = none → H' r = some (.lst (rfs rs)) → Rws n H' rs → rs.length = n → (∀ q ∈ rs, q.2.sum ≤ 1000) → Q (.ref r) H'
/-- a number over W, 0 among them -/
def spWholeZ (C : Addr) : Sp := fun vs H Q _ => ∃ (t W : Nat), vs = [.int (t : Int), .int (W : Int)] ∧ t ≤ W ∧ 1 ≤ W ∧ W ≤ 1000 ∧ ∀ (x : V) (H' : Hp), Same H H' → Num C H' x (t : Int) (W : Int) → Q x H'
section
variable {P : Program} {w : World} {K : PySem.W.Frag} {mg : Str → Option Value} {base : Heap} {C B CC : Addr}
theorem ok_wholeZ {f : Addr} {fd : FuncData} (F : Fun K "_law_whole" "_law_whole" s_whole f fd) (m : MkT P w K mg base C B) : FnOk P w K mg base CX0 6 f fd ["_law_top", "_law_whole_here"] (spWholeZ C) := by
  refine F.ok sc_whole (fun vs H Q E h => ?_) (fun cdv A outer s H vs Q E hr h => ?_)
  · obtain ⟨t, W, rfl, _⟩ := h
    rfl
  · obtain ⟨t, W, rfl, tW, w1, W1, k⟩ := h
    refine ⟨_, (pss_cons (ps_if (pt_cmpR op_eq (pv 0) pe_int (nomark _))
        (pss_one (ps_ret pe_int))
        pss_nil)
      (pss_cons (ps_if (pt_cmpR op_eq (pv 0) (pv 1) (nomark _))
        (pss_one (ps_ret pe_int))
        pss_nil)
      (pss_one (ps_ret (pe_share2 m (hr.mono (by decide)) rfl (pa_cons (pv 0) (pa_cons (pv 1) pa_nil))))))), ?_⟩
    refine ⟨_, rfl, rfl, _, rfl, ite2 (fun z => ?_) (fun z => ?_)⟩
    · have z := of_decide_eq_true z
      rw [V.int.injEq] at z
      obtain rfl : t = 0 := by omega
      have h := Num.int (C := C) (H := H) (D := (W : Int)) (by omega) 0
      rw [Int.zero_mul] at h
      exact k _ H (Same.refl H) h
    refine ⟨_, rfl, _, rfl, rfl, _, rfl, ite2 (fun z => ?_) (fun z => ?_)⟩
    · have z := of_decide_eq_true z
      rw [V.int.injEq] at z
      obtain rfl : t = W := by omega
      obtain ⟨h1, h2⟩ := low_self (d := (t : Int)) (by omega)
      exact k _ H (Same.refl H) (.inl ⟨by rw [h1], h2⟩)
    · refine ⟨_, rfl, _, rfl, ?_⟩
      exact mk_ok (K := K) (by omega) (nsm W1) fun x dx H' s e => k _ H' s (.inr ⟨x, dx, rfl, e⟩)
abbrev s_ledr : Stmt := top 73
abbrev nLr : List Str := ["_law_parts", "_law_size", "_law_rows", "_law_s", "_law_t", "_law_top", "_law_led"]
theorem sc_ledr : FnScope nLr ["_law_parts", "_law_size"] (defScope s_ledr) := ⟨rfl, rfl, rfl, by decide +kernel, rfl, by decide +kernel, by decide +kernel⟩
theorem ok_ledr {f : Addr} {fd : FuncData} (F : Fun K "_law_led_rows" "_law_led_rows" s_ledr f fd) (T : Bm mg) : FnOk P w K mg base CX0 1 f fd ["_law_parts", "_law_size"] spLedRows := by
  refine F.ok sc_ledr (fun vs H Q E h => ?_) (fun cdv A outer s H vs Q E hr h => ?_)
  · obtain ⟨l, n, ts, rfl, _⟩ := h
    rfl
  · obtain ⟨l, n, ts, rfl, n1, n8, el, pi, t1, t4, k⟩ := h
    refine ⟨_, (pss_cons (ps_set (i := 2) sc_ledr.nd rfl (Or.inl rfl) (pe_lst pa_nil))
      (pss_cons (ps_for PassesOwn.never rfl (pi_range1 (by rfl) T.n_range (pa_cons (pv 1) pa_nil)) (pg_name (i := 3) sc_ledr.nd rfl (Or.inr rfl))
        (pss_one (ps_expr (pe_bm PySem.F.plainAttrs_list PySem.F.slot_list_append PySem.F.type_list_append mt_append (pv 2) (pa_cons (pe_callTy call_tuple_of (by rfl) T.n_tuple (by decide +kernel) (pa_cons (pe_lc (own := [("_law_t", 4)]) rfl sc_ledr.nd (pi_range1 (by rfl) T.n_range (pa_cons (pv 1) pa_nil)) (blkOk_by (N := nLr) (sc := defScope s_ledr) (by decide +kernel)) (fun _ _ _ _ _ => (pg_name (i := 4) sc_ledr.nd rfl (Or.inr rfl))) (fun _ _ _ _ _ => pts_nil)
          (fun _ _ _ _ _ => (pe_callB (show CallR _ _ (rSum K) from cr_sum rfl) (by rfl) T.n_sum PyProof.Rows.boot_sum (pa_cons (pe_lc (own := [("_law_top", 5), ("_law_led", 6)]) (g := gTup K 2 (gCons (gName 5) (gCons (gName 6) gNil))) rfl sc_ledr.nd (show PI _ _ _ (iList K (tVar 0)) from pi_list (pv 0)) (blkOk_by (by rfl)) (fun _ _ _ _ _ => (pg_tup (by rfl) (pgs_cons (pg_name (i := 5) sc_ledr.nd rfl (Or.inl rfl)) (pgs_cons (pg_name (i := 6) sc_ledr.nd rfl (Or.inl rfl)) pgs_nil))))
            (fun _ _ _ _ _ => (pts_one (pt_cmpR op_eq (pe_ix (show IxR _ (rIxT K) from ix_tup) (pv 6) (pv 3) (fun _ _ => rfl)) (pv 4) (nomark _)))) (fun _ _ _ _ _ => (pv 5))) pa_nil)))) pa_nil)) pa_nil)))))
      (pss_one (ps_ret (pv 2))))), ?_⟩
    refine ⟨by show 0 ≤ sizeLine; decide, fun r nr => ?_⟩
    have s1 := Same.put (o := .lst (rfs ([] : List (Addr × List Nat)))) nr
    have e1 : (upd H r (.lst (rfs ([] : List (Addr × List Nat))))) r = some (.lst (rfs ([] : List (Addr × List Nat)))) := upd_same
    show tSeq _ _ _ _ (upd H r (.lst (rfs ([] : List (Addr × List Nat)))))
    generalize (upd H r (.lst (rfs ([] : List (Addr × List Nat))))) = H1 at s1 e1 ⊢
    refine ⟨_, rfl, _, rfl, by omega, by omega, ?_⟩
    rw [Int.toNat_natCast]
    refine for_range (fun i σ H' => ∃ (v3 : Option V) (rs : List (Addr × List Nat)), σ = [some (.ref l), some (.int (n : Int)), some (.ref r), v3, none, none, none] ∧ Same H H' ∧ H' r = some (.lst (rfs rs)) ∧ Rws n H' rs ∧ rs.map (·.2) = (List.range i).map (wrow n ts)) ⟨none, [], rfl, s1, e1, Rws.nil, rfl⟩ ?_ ?_
    · rintro i σ H2 hi ⟨v3, rs, rfl, s2, e2, rw2, q2⟩
      rw [Int.zero_add]
      have lr : rs.length = i := by have := congrArg List.length q2; rw [List.length_map, List.length_map, List.length_range] at this; exact this
      refine ⟨_, rfl, .inl ⟨rfl, _, SqL.of e2⟩, ?_⟩
      refine ⟨_, rfl, _, rfl, by omega, by omega, fun D nD => ?_⟩
      rw [Int.toNat_natCast]
      refine lc_range (fun j H' => Same H2 H' ∧ H' D = some (.lst (cV ((List.range j).map (wv ts i))))) ⟨Same.put nD, upd_same⟩ ?_ ?_
      · rintro j H3 hj ⟨s3, eD⟩
        rw [Int.zero_add]
        refine ⟨rfl, yes_of ?_⟩
        have el3 := s3 _ _ (s2 _ _ el)
        have pi3 := (pi.same s2).same s3
        refine ⟨_, rfl, l, rfl, ⟨_, SqL.of el3⟩, fun D0 nD0 => ?_⟩
        refine lc_list (K := K) (a := l) (xs := rfs ts) (fun m H' => Same H3 H' ∧ H' D0 = some (.lst (cV (topsOf ((ts.take m).filter fun p => decide (p.2.2.2.getD i 0 = j)))))) ⟨Same.put nD0, upd_same⟩ (fun m H' _ h => SqL.of (h.1 _ _ el3)) ?_ ?_
        · rintro m y H4 hy ⟨s4, eD0⟩
          obtain ⟨p, hp, mp, rfl⟩ := rfs_at hy
          have ml := (List.getElem?_eq_some_iff.mp hp).1
          have hpt := pi3 p mp
          have lp : i < p.2.2.2.length := by rw [hpt.2.1.2.1]; exact hi
          have gi : p.2.2.2[i]? = some (p.2.2.2.getD i 0) := by rw [List.getD, List.getElem?_eq_getElem lp]; rfl
          refine ⟨p.1, _, rfl, SqT.of (s4 _ _ hpt.1), rfl, _, _, rfl, _, _, rfl, rfl, rfl, ?_⟩
          refine ⟨_, rfl, _, rfl, p.2.2.1, _, _, _, rfl, rfl, SqT.of (s4 _ _ hpt.2.1.1), atI_nat (cV_at gi), _, rfl, rfl, _, rfl, ?_⟩
          have e : decide (V.int ((p.2.2.2.getD i 0 : Nat) : Int) = V.int (j : Int)) = decide (p.2.2.2.getD i 0 = j) := decide_eq_decide.mpr (by rw [V.int.injEq]; omega)
          rw [e]
          by_cases c : p.2.2.2.getD i 0 = j
          · refine iteTe (decide_eq_true c) ?_
            refine ⟨_, rfl, _, eD0, ?_, Same.but s4 nD0, ?_⟩
            · rw [List.length_map, List.length_map]
              have := List.length_filter_le (fun p : Prt => decide (p.2.2.2.getD i 0 = j)) (ts.take m)
              rw [List.length_take] at this
              exact small_len (by omega)
            · rw [upd_same, cV_snoc, take_more hp, List.filter_append, List.filter_cons, if_pos (decide_eq_true c)]
              refine congrArg (fun z => some (HO.lst (cV z))) ?_
              rw [topsOf, topsOf, List.map_append]
              rfl
          · refine iteFe (decide_eq_false c) ⟨s4, ?_⟩
            rw [eD0, take_more hp, List.filter_append, List.filter_cons, if_neg (by rw [decide_eq_false c]; decide)]
            simp
        · rintro H4 ⟨s4, eD0⟩
          rw [rfs_len, List.take_length, cV_ints] at eD0
          refine ⟨D0, _, rfl, SqL.of eD0, ?_⟩
          rw [sum_ints]
          refine ⟨_, s4 _ _ eD, by rw [List.length_map, List.length_map, List.length_range]; exact small_len (by omega), Same.but (fun b u e => s4 _ _ (s3 _ _ e)) nD, ?_⟩
          rw [upd_same, List.range_succ, List.map_append, cV_snoc]
          rfl
      · rintro H3 ⟨s3, eD⟩
        refine ⟨D, _, rfl, .inl ⟨SqL.of eD, fun t nt => ?_⟩⟩
        have st := Same.put (o := .tup (cV (wrow n ts i))) nt
        have s23 := s3.trans st
        have e4 := s23 _ _ e2
        have nT : TpsAt n (upd H3 t (.tup (cV (wrow n ts i)))) (t, wrow n ts i) := ⟨upd_same, wrow_tps (pi.same s2) t1 t4 hi⟩
        refine ⟨r, _, _, rfl, rfl, e4, by rw [rfs_len]; exact small_len (by omega), ?_⟩
        refine ⟨_, rs ++ [(t, wrow n ts i)], rfl, Same.but (fun b u e => s23 _ _ (s2 _ _ e)) nr, by rw [upd_same, rfs_snoc], Rws.lstU ((rw2.same s23).snoc nT) e4, ?_⟩
        rw [List.map_append, q2, List.range_succ, List.map_append]
        rfl
    · rintro σ H2 ⟨v3, rs, rfl, s2, e2, rw2, q2⟩
      have lr : rs.length = n := by have := congrArg List.length q2; rw [List.length_map, List.length_map, List.length_range] at this; exact this
      refine ⟨_, rfl, k r rs H2 s2 nr e2 rw2 lr fun q mq => ?_⟩
      have : q.2 ∈ (List.range n).map (wrow n ts) := by rw [← q2]; exact List.mem_map_of_mem mq
      obtain ⟨i, _, e⟩ := List.mem_map.mp this
      rw [← e]
      exact wrow_sum pi t4 n8 i
end
end KG
set_option Elab.async false
set_option linter.all false
set_option maxRecDepth 100000
set_option maxHeartbeats 4000000
namespace KG
open PySem L2
def spSpreadP (C : Addr) : Sp := fun vs H Q _ => ∃ (a b : Addr) (n : Nat) (ws : List Nat), vs = [.ref a, .ref b] ∧ PoolAt H a ∧ n ≤ 8 ∧ TpsAt n H (b, ws) ∧ ws.sum ≤ 1000 ∧ ∀ (t : Addr) (H' : Hp), Keep a H H' → PoolAt H' a → RowIn C H' n (t, ws) → Q (.ref t) H'
def spChainP (CC : Addr) : Sp := fun vs H Q _ => ∃ (a l : Addr) (n : Nat) (rs : List (Addr × List Nat)), vs = [.ref a, .ref l] ∧ PoolAt H a ∧ l ≠ a ∧ 1 ≤ n ∧ n ≤ 8 ∧ H l = some (.lst (rfs rs)) ∧ Rws n H rs ∧ rs.length = n ∧ (∀ q ∈ rs, q.2.sum ≤ 1000) ∧
  ∀ (o dx : Addr) (fs : List (Str × V)) (H' : Hp), Keep a H H' → PoolAt H' a → H' o = some (.ins CC dx fs) → Q (.ref o) H'
theorem RowIn.keep {C a : Addr} {H H' : Hp} {n : Nat} {r : Addr × List Nat} (h : RowIn C H n r) (k : Keep a H H') (p : PoolAt H a) : RowIn C H' n r := by
  obtain ⟨xs, h1, h2, h3⟩ := h
  refine ⟨xs, k _ _ h1 (p.ne h1), ⟨h2.1, fun i v e => ?_⟩, h3⟩
  obtain ⟨S, e2, nx⟩ := h2.2 i v e
  refine ⟨S, e2, ?_⟩
  rcases nx with nx | ⟨c, dy, e3, nx⟩
  · exact .inl nx
  · exact .inr ⟨c, dy, e3, k _ _ nx (p.nei nx)⟩
theorem RowIn.lstU {C D : Addr} {H : Hp} {n : Nat} {r : Addr × List Nat} {ys : List V} {o : HO} (h : RowIn C H n r) (e : H D = some (.lst ys)) : RowIn C (upd H D o) n r := by
  obtain ⟨xs, h1, h2, h3⟩ := h
  refine ⟨xs, by rw [upd_ne (fun z => by rw [z, e] at h1; cases h1)]; exact h1, ⟨h2.1, fun i v e5 => ?_⟩, h3⟩
  obtain ⟨S, e2, nx⟩ := h2.2 i v e5
  exact ⟨S, e2, Num.lstU nx e⟩
section
variable {P : Program} {w : World} {K : PySem.W.Frag} {mg : Str → Option Value} {base : Heap} {C B CC : Addr}
abbrev s_spr : Stmt := top 66
abbrev nSp : List Str := ["_law_pool_here", "_law_tops", "_law_whole_here", "_law_top"]
theorem sc_spr : FnScope nSp ["_law_pool_here", "_law_tops"] (defScope s_spr) := ⟨rfl, rfl, rfl, by decide +kernel, rfl, by decide +kernel, by decide +kernel⟩
/-- what holds while the numbers are made -/
def PvS (C : Addr) (D : Addr) (ws : List Nat) (H : Hp) (i : Nat) (H' : Hp) : Prop := Same H H' ∧ ∃ xs : List V, H' D = some (.lst xs) ∧ Nums C (ws.sum : Int) H' xs (iW (ws.take i))
theorem Nums.snocU {C D : Addr} {W : Int} {H : Hp} {xs ys : List V} {Ss : List Int} {x : V} {S : Int} {o : HO} (h : Nums C W H xs Ss) (hx : Num C H x S W) (e : H D = some (.lst ys)) : Nums C W (upd H D o) (xs ++ [x]) (Ss ++ [S]) := by
  refine ⟨by rw [List.length_append, List.length_append, h.1]; rfl, fun i v hv => ?_⟩
  rcases Nat.lt_or_ge i xs.length with q | q
  · rw [List.getElem?_append_left q] at hv
    obtain ⟨S2, e2, nx⟩ := h.2 i v hv
    exact ⟨S2, by rw [List.getElem?_append_left (by rw [← h.1]; exact q)]; exact e2, nx.lstU e⟩
  · rw [List.getElem?_append_right q] at hv
    have z : i - xs.length = 0 := by
      have := (List.getElem?_eq_some_iff.mp hv).1
      simpa using this
    rw [z] at hv
    cases (Option.some.inj hv)
    exact ⟨S, by rw [List.getElem?_append_right (by rw [← h.1]; exact q), ← h.1, z]; rfl, hx.lstU e⟩
theorem ok_spr {f : Addr} {fd : FuncData} (F : Fun K "_law_spread" "_law_spread" s_spr f fd) (T : Bm mg) (m : MkT P w K mg base C B) (c_draw : Cal P w K mg base 1 "_law_draw" ["_law_pool_here", "_law_many"] spDraw) (c_wh : Cal P w K mg base 6 "_law_whole" ["_law_top", "_law_whole_here"] (spWholeZ C)) : FnOk P w K mg base CX0 7 f fd ["_law_pool_here", "_law_tops"] (spSpreadP C) := by
  refine F.ok sc_spr (fun vs H Q E h => ?_) (fun cdv A outer s H vs Q E hr h => ?_)
  · obtain ⟨a, b, n, ws, rfl, _⟩ := h
    rfl
  · obtain ⟨a, b, n, ws, rfl, hp, n8, ⟨eb, tp⟩, sm, k⟩ := h
    refine ⟨_, (pss_cons (ps_set (i := 2) sc_spr.nd rfl (Or.inr rfl) (pe_callB (show CallR _ _ (rSumT K) from cr_sumT rfl) (by rfl) T.n_sum PyProof.Rows.boot_sum (pa_cons (pv 1) pa_nil)))
      (pss_cons (ps_if (pt_cmpR op_eq (pe_cal c_draw (hr.mono (by decide)) rfl (pa_cons (pv 0) (pa_cons pe_int pa_nil))) pe_int (nomark _))
        (pss_one (ps_ret (pe_callTy call_tuple_of (by rfl) T.n_tuple (by decide +kernel) (pa_cons (pe_lc (own := [("_law_top", 3)]) rfl sc_spr.nd (pi_tup (pv 1)) (blkOk_by (N := nSp) (sc := defScope s_spr) (by decide +kernel)) (fun _ _ _ _ _ => (pg_name (i := 3) sc_spr.nd rfl (Or.inl rfl))) (fun _ _ _ _ _ => pts_nil)
          (fun _ _ _ _ _ => (pe_cal c_wh (hr.mono (by decide)) rfl (pa_cons (pv 3) (pa_cons (pv 2) pa_nil))))) pa_nil))))
        pss_nil)
      (pss_one (ps_ret (pe_callTy call_tuple_of (by rfl) T.n_tuple (by decide +kernel) (pa_cons (pe_lc (own := [("_law_top", 3)]) rfl sc_spr.nd (pi_tup (pv 1)) (blkOk_by (N := nSp) (sc := defScope s_spr) (by decide +kernel)) (fun _ _ _ _ _ => (pg_name (i := 3) sc_spr.nd rfl (Or.inl rfl))) (fun _ _ _ _ _ => pts_nil)
          (fun _ _ _ _ _ => (show PE _ _ (tMake C (spSI K C B) [] E0 (tCons (tVar 3) (tCons (tVar 2) tNil))) from pe_share2 m (hr.mono (by decide)) rfl (pa_cons (pv 3) (pa_cons (pv 2) pa_nil))))) pa_nil)))))), ?_⟩
    have eb : H b = some (.tup (cV ws)) := eb
    have W1 : 1 ≤ ws.sum := tp.2.1
    have lw : ws.length = n := tp.1
    refine ⟨_, rfl, b, iW ws, rfl, SqT.of (by rw [← cV_ints]; exact eb), ?_⟩
    rw [sum_ints]
    refine ⟨_, rfl, a, 3, rfl, hp, by decide, by decide, fun y o y0 y1 ho => ?_⟩
    obtain ⟨p1, k1⟩ := drawn hp (Keep.refl a H) ho
    have eb1 := k1 _ _ eb (hp.ne eb)
    generalize (upd H a o) = H1 at p1 k1 eb1 ⊢
    have fin : ∀ D H', PvS C D ws H1 (cV ws).length H' → ∃ x, V.ref D = V.ref x ∧ ∃ ys, (SqL K H' x ys ∧ ∀ l, H' l = none → Q (.ref l) (upd H' l (.tup ys))) ∨ (SqT K H' x ys ∧ Q (.ref x) H') := by
      intro D H' ⟨s2, xs, eD, nx⟩
      rw [List.length_map, List.take_length] at nx
      refine ⟨D, rfl, _, .inl ⟨SqL.of eD, fun g ng => ?_⟩⟩
      have sg := Same.put (o := .tup xs) ng
      have s3 := s2.trans sg
      exact k g _ (k1.trans (Keep.of s3)) (p1.same s3) ⟨xs, upd_same, nx.same sg, tp⟩
    have step : ∀ (D i w : Nat) (H' H3 : Hp) (x : V), H1 D = none → PvS C D ws H1 i H' → ws[i]? = some w → Same H' H3 → Num C H3 x (w : Int) (ws.sum : Int) → ∃ acc, H3 D = some (.lst acc) ∧ acc.length < sizeLine ∧ PvS C D ws H1 (i + 1) (upd H3 D (.lst (acc ++ [x]))) := by
      intro D i w H' H3 x nD ⟨s2, xs, eD, nx⟩ hw s3 hx
      have eD3 := s3 _ _ eD
      have lx : xs.length ≤ 8 := by
        have := nx.1
        rw [iW_len, List.length_take] at this
        omega
      refine ⟨xs, eD3, small_len (by omega), Same.but (fun b u e => s3 _ _ (s2 _ _ e)) nD, xs ++ [x], upd_same, ?_⟩
      rw [take_more hw, show iW (ws.take i ++ [w]) = iW (ws.take i) ++ [(w : Int)] from List.map_append]
      exact (nx.same s3).snocU hx eD3
    refine ⟨rfl, _, rfl, iteA ?_ ?_⟩
    · refine ⟨_, rfl, b, rfl, ⟨_, SqT.of eb1⟩, fun D nD => ?_⟩
      refine lc_tup (K := K) (a := b) (xs := cV ws) (PvS C D ws H1) ⟨Same.put nD, [], upd_same, rfl, fun i x e => by simp at e⟩ (fun i H' _ h => SqT.of (h.1 _ _ eb1)) ?_ ?_
      · rintro i x H' hx pv
        obtain ⟨w, hw, rfl⟩ := cV_of hx
        have wW : w ≤ ws.sum := le_sum (List.mem_of_getElem? hw)
        refine ⟨rfl, yes_of ?_⟩
        exact ⟨_, rfl, _, rfl, w, ws.sum, rfl, wW, W1, sm, fun x H3 s3 hn => step D i w H' H3 x nD pv hw s3 hn⟩
      · rintro H' pv
        obtain ⟨x, e, ys, q⟩ := fin D H' pv
        exact ⟨x, ys, by rw [e], q⟩
    · refine ⟨_, rfl, b, rfl, ⟨_, SqT.of eb1⟩, fun D nD => ?_⟩
      refine lc_tup (K := K) (a := b) (xs := cV ws) (PvS C D ws H1) ⟨Same.put nD, [], upd_same, rfl, fun i x e => by simp at e⟩ (fun i H' _ h => SqT.of (h.1 _ _ eb1)) ?_ ?_
      · rintro i x H' hx pv
        obtain ⟨w, hw, rfl⟩ := cV_of hx
        refine ⟨rfl, yes_of ?_⟩
        refine ⟨_, rfl, _, rfl, ?_⟩
        intro y dy hy hd ne
        refine si_ok hy hd ne (by omega) (nsm (by omega)) fun H3 s3 ey => ?_
        exact ⟨rfl, step D i w H' H3 (.ref y) nD pv hw s3 (.inr ⟨y, dy, rfl, ey⟩)⟩
      · rintro H' pv
        obtain ⟨x, e, ys, q⟩ := fin D H' pv
        exact ⟨x, ys, by rw [e], q⟩
abbrev s_chn : Stmt := top 67
abbrev nCh : List Str := ["_law_pool_here", "_law_rows", "_law_words", "_law_labels", "_law_tops"]
theorem sc_chn : FnScope nCh ["_law_pool_here", "_law_rows"] (defScope s_chn) := ⟨rfl, rfl, rfl, by decide +kernel, rfl, by decide +kernel, by decide +kernel⟩
def wordsL : List Str := ["a", "b", "zzzzzzzz"]
theorem words_nam : ∀ x ∈ wordsL, Nam x := by
  intro x m
  unfold wordsL at m
  rcases List.mem_cons.mp m with rfl | m
  · exact ⟨by decide +kernel, by decide +kernel, by decide +kernel⟩
  rcases List.mem_cons.mp m with rfl | m
  · exact ⟨by decide +kernel, by decide +kernel, by decide +kernel⟩
  rcases List.mem_cons.mp m with rfl | m
  · exact ⟨by decide +kernel, by decide +kernel, by decide +kernel⟩
  cases m
theorem ok_chn {f : Addr} {fd : FuncData} (F : Fun K "_law_chain" "_law_chain" s_chn f fd) (T : Bm mg) (m : MkC P w K mg base C CC) (c_pick : Cal P w K mg base 2 "_law_pick" ["_law_pool_here", "_law_things"] spPickQ) (c_spr : Cal P w K mg base 7 "_law_spread" ["_law_pool_here", "_law_tops"] (spSpreadP C)) : FnOk P w K mg base CX0 14 f fd ["_law_pool_here", "_law_rows"] (spChainP CC) := by
  refine F.ok sc_chn (fun vs H Q E h => ?_) (fun cdv A outer s H vs Q E hr h => ?_)
  · obtain ⟨a, l, n, rs, rfl, _⟩ := h
    rfl
  · obtain ⟨a, l, n, rs, rfl, hp, la, n1, n8, el, rw0, lr, sm, k⟩ := h
    refine ⟨_, (pss_cons (ps_set (i := 2) sc_chn.nd rfl (Or.inr rfl) (pe_tup (pa_cons pe_str (pa_cons pe_str (pa_cons pe_str pa_nil)))))
      (pss_cons (ps_set (i := 3) sc_chn.nd rfl (Or.inl rfl) (pe_callTy call_tuple_of (by rfl) T.n_tuple (by decide +kernel) (pa_cons (pe_lc (own := [("_law_tops", 4)]) rfl sc_chn.nd (pi_list (pv 1)) (blkOk_by (N := nCh) (sc := defScope s_chn) (by decide +kernel)) (fun _ _ _ _ _ => (pg_name (i := 4) sc_chn.nd rfl (Or.inl rfl))) (fun _ _ _ _ _ => pts_nil)
        (fun _ _ _ _ _ => (pe_cal c_pick (hr.mono (by decide)) rfl (pa_cons (pv 0) (pa_cons (pv 2) pa_nil))))) pa_nil)))
      (pss_one (ps_ret (pe_chn m hr rfl (pa_cons (pe_callTy call_tuple_of (by rfl) T.n_tuple (by decide +kernel) (pa_cons (pe_lc (own := [("_law_tops", 4)]) rfl sc_chn.nd (pi_list (pv 1)) (blkOk_by (N := nCh) (sc := defScope s_chn) (by decide +kernel)) (fun _ _ _ _ _ => (pg_name (i := 4) sc_chn.nd rfl (Or.inl rfl))) (fun _ _ _ _ _ => pts_nil)
        (fun _ _ _ _ _ => (pe_cal c_spr (hr.mono (by decide)) rfl (pa_cons (pv 0) (pa_cons (pv 4) pa_nil))))) pa_nil)) (pa_cons (pv 3) pa_nil))))))), ?_⟩
    refine ⟨by show 3 ≤ sizeLine; decide, fun wt nwt => ?_⟩
    have s1 := Same.put (o := .tup (sV wordsL)) nwt
    have ew : (upd H wt (.tup (sV wordsL))) wt = some (.tup (sV wordsL)) := upd_same
    have p1 := hp.same s1
    have k1 : Keep a H (upd H wt (.tup (sV wordsL))) := Keep.of s1
    show tSeq _ _ _ _ (upd H wt (.tup (sV wordsL)))
    generalize (upd H wt (.tup (sV wordsL))) = H1 at s1 ew p1 k1 ⊢
    have el1 := k1 _ _ el la
    have rw1 := rw0.same s1
    refine ⟨_, rfl, l, rfl, ⟨_, SqL.of el1⟩, fun D nD => ?_⟩
    have Da := new_ne p1 nD
    refine lc_list (K := K) (a := l) (xs := rfs rs) (fun i H' => Keep a H1 H' ∧ PoolAt H' a ∧ ∃ ls : List Str, H' D = some (.lst (sV ls)) ∧ ls.length = i ∧ ∀ x ∈ ls, Nam x) ⟨Keep.of (Same.put nD), p1.new nD, [], upd_same, rfl, fun _ m => by cases m⟩ (fun i H' _ h => SqL.of (h.1 _ _ el1 la)) ?_ ?_
    · rintro i y H' hy ⟨k2, p2, ls, eD, ll, nl⟩
      have il := (List.getElem?_eq_some_iff.mp hy).1
      rw [rfs_len] at il
      refine ⟨rfl, yes_of ?_⟩
      have ewa := p1.ne ew
      refine ⟨_, rfl, _, rfl, a, wt, sV wordsL, rfl, p2, .inr (k2 _ _ ew ewa), ewa, by decide, by decide, fun x o mx ho => ?_⟩
      obtain ⟨z, mz, rfl⟩ := List.mem_map.mp mx
      obtain ⟨p3, k3⟩ := drawn p2 k2 ho
      have eD3 : (upd H' a o) D = some (.lst (sV ls)) := by rw [upd_ne Da]; exact eD
      refine ⟨_, eD3, by rw [List.length_map]; exact small_len (by omega), k3.but nD, p3.other (Ne.symm Da), ls ++ [z], by rw [upd_same, sV, sV, List.map_append]; rfl, by rw [List.length_append, ll]; rfl, fun x m => ?_⟩
      rcases List.mem_append.mp m with m | m
      · exact nl x m
      · rw [List.mem_singleton.mp m]; exact words_nam z mz
    rintro H2 ⟨k2, p2, ls, eD, ll, nl⟩
    rw [rfs_len] at ll
    refine ⟨D, _, rfl, .inl ⟨SqL.of eD, fun lb nlb => ?_⟩⟩
    have sb := Same.put (o := .tup (sV ls)) nlb
    have elb : (upd H2 lb (.tup (sV ls))) lb = some (.tup (sV ls)) := upd_same
    have p3 := p2.same sb
    have k3 : Keep a H (upd H2 lb (.tup (sV ls))) := (k1.trans k2).trans (Keep.of sb)
    have el3 := sb _ _ (k2 _ _ el1 la)
    have rw3 := (rw1.keep k2 p1).same sb
    refine ⟨_, rfl, l, rfl, ⟨_, SqL.of el3⟩, fun D2 nD2 => ?_⟩
    have D2a := new_ne p3 nD2
    have nD2H := free_of k3 D2a nD2
    refine lc_list (K := K) (a := l) (xs := rfs rs) (fun i H' => Keep a (upd H2 lb (.tup (sV ls))) H' ∧ PoolAt H' a ∧ ∃ r2 : List (Addr × List Nat), H' D2 = some (.lst (rfs r2)) ∧ r2.length = i ∧ ∀ r ∈ r2, RowIn C H' n r) ⟨Keep.of (Same.put nD2), p3.new nD2, [], upd_same, rfl, fun _ m => by cases m⟩ (fun i H' _ h => SqL.of (h.1 _ _ el3 la)) ?_ ?_
    · rintro i y H' hy ⟨k4, p4, r2, eD, l2, h2⟩
      obtain ⟨r, hr2, mr, rfl⟩ := rfs_at hy
      have il := (List.getElem?_eq_some_iff.mp hr2).1
      refine ⟨rfl, yes_of ?_⟩
      refine ⟨_, rfl, _, rfl, a, r.1, n, r.2, rfl, p4, n8, (rw3.keep k4 p3) r mr, sm r mr, fun t H5 k5 p5 ri => ?_⟩
      have eD5 := k5 _ _ eD D2a
      refine ⟨_, eD5, by rw [rfs_len]; exact small_len (by omega), (k4.trans k5).but nD2, p5.other (Ne.symm D2a), r2 ++ [(t, r.2)], by rw [upd_same, rfs_snoc], by rw [List.length_append, l2]; rfl, fun q m => ?_⟩
      rcases List.mem_append.mp m with m | m
      · exact ((h2 q m).keep k5 p4).lstU eD5
      · rw [List.mem_singleton.mp m]; exact ri.lstU eD5
    rintro H4 ⟨k4, p4, r2, eD2, l2, h2⟩
    rw [rfs_len, lr] at l2
    refine ⟨D2, _, rfl, .inl ⟨SqL.of eD2, fun T0 nT0 => ?_⟩⟩
    have sT := Same.put (o := .tup (rfs r2)) nT0
    have k5 := k3.trans (k4.trans (Keep.of sT))
    have elb5 := sT _ _ (k4 _ _ elb (p3.ne elb))
    refine ⟨_, rfl, fun x dx hx hd ne => chn_go hx hd ne n1 n8 upd_same l2 (fun r m => (h2 r m).same sT) elb5 ⟨by rw [ll, lr], nl⟩ fun H5 s5 ic => ⟨rfl, ?_⟩⟩
    obtain ⟨dx2, T2, lb2, rs2, ex, _⟩ := ic
    exact k x dx2 _ H5 (k5.trans (Keep.of s5)) ((p4.same sT).same s5) ex
end
end KG
set_option Elab.async false
set_option linter.all false
set_option maxRecDepth 100000
set_option maxHeartbeats 4000000
namespace KG
open PySem L2
/-! ### the greatest closed set of pairs, by rounds -/
def goodP (wss : List (List Nat)) (L : List (Nat × Nat)) (p : Nat × Nat) : Bool := (List.range wss.length).all fun a => decide (Dw.half (mA wss a p.1) (mA wss a p.2) ∈ L)
def stepL (wss : List (List Nat)) (L : List (Nat × Nat)) : List (Nat × Nat) := L.filter (goodP wss L)
theorem goodP_iff {wss : List (List Nat)} {L : List (Nat × Nat)} {p : Nat × Nat} : goodP wss L p = true ↔ ∀ a, a < wss.length → Dw.half (mA wss a p.1) (mA wss a p.2) ∈ L := by
  unfold goodP
  rw [List.all_eq_true]
  exact ⟨fun h a ha => of_decide_eq_true (h a (List.mem_range.mpr ha)), fun h a ma => decide_eq_true (h a (List.mem_range.mp ma))⟩
structure GrL (n : Nat) (wss : List (List Nat)) (L : List (Nat × Nat)) : Prop where
  sub : L = (hvs n).filter fun p => decide (p ∈ L)
  big : ∀ C : List (Nat × Nat), (∀ p ∈ C, p ∈ hvs n) → (∀ p ∈ C, ∀ a, a < wss.length → Dw.half (mA wss a p.1) (mA wss a p.2) ∈ C) → ∀ p ∈ C, p ∈ L
theorem GrL.mem {n : Nat} {wss : List (List Nat)} {L : List (Nat × Nat)} (h : GrL n wss L) {p : Nat × Nat} (m : p ∈ L) : p ∈ hvs n := by
  have e := h.sub
  rw [e] at m
  exact (List.mem_filter.mp m).1
theorem GrL.start (n : Nat) (wss : List (List Nat)) : GrL n wss (hvs n) := ⟨by
  rw [List.filter_eq_self.mpr fun p m => decide_eq_true m], fun C h _ => h⟩
theorem GrL.step {n : Nat} {wss : List (List Nat)} {L : List (Nat × Nat)} (h : GrL n wss L) : GrL n wss (stepL wss L) := by
  refine ⟨?_, fun C hC cl p m => List.mem_filter.mpr ⟨h.big C hC cl p m, goodP_iff.mpr fun a ha => h.big C hC cl _ (cl p m a ha)⟩⟩
  have e := h.sub
  have e2 : stepL wss L = (hvs n).filter fun p => goodP wss L p && decide (p ∈ L) := by
    show L.filter (goodP wss L) = _
    calc L.filter (goodP wss L) = ((hvs n).filter fun p => decide (p ∈ L)).filter (goodP wss L) := by rw [← e]
      _ = _ := by rw [List.filter_filter]
  rw [e2]
  refine List.filter_congr fun p mp => ?_
  rw [Bool.eq_iff_iff, decide_eq_true_eq, List.mem_filter, Bool.and_eq_true, decide_eq_true_eq]
  exact ⟨fun q => ⟨mp, q⟩, fun q => q.2⟩
theorem GrL.fin {n : Nat} {wss : List (List Nat)} {L S : List (Nat × Nat)} (mw : ∀ ws ∈ wss, IsMap n ws) (h : GrL n wss L) (cl : ∀ p ∈ L, goodP wss L p = true) (hS : Dw.AbleS n wss.length (mA wss) S) : L = (hvs n).filter fun p => !decide (p ∈ S) := by
  have no : ∀ k, ∀ q ∈ S.take k, q ∉ L := fun k => by
    induction k with
    | zero => intro q m; simp at m
    | succ k ih =>
      intro q m
      cases e : S[k]? with
      | none =>
        rw [List.take_of_length_le (by have := List.getElem?_eq_none_iff.mp e; omega)] at m
        rw [List.take_of_length_le (by have := List.getElem?_eq_none_iff.mp e; omega)] at ih
        exact ih q m
      | some x =>
        rw [take_more e] at m
        rcases List.mem_append.mp m with m | m
        · exact ih q m
        · rw [List.mem_singleton.mp m]
          intro mL
          have lk := (List.getElem?_eq_some_iff.mp e).1
          have ex := (List.getElem?_eq_some_iff.mp e).2
          obtain ⟨a, ha, q2⟩ := hS.rk (S.take k) x (S.drop (k + 1)) (by
            conv => lhs; rw [← List.take_append_drop k S]
            rw [List.drop_eq_getElem_cons lk, ex])
          have g := goodP_iff.mp (cl x mL) a ha
          rcases q2 with q2 | q2
          · have := (mem_hvs.mp (h.mem g)).1
            omega
          · exact ih _ q2 g
  rw [h.sub]
  refine List.filter_congr fun p mp => ?_
  rw [Bool.eq_iff_iff, decide_eq_true_eq, Bool.not_eq_true', decide_eq_false_iff_not]
  constructor
  · intro m mS
    exact no S.length p (by rw [List.take_length]; exact mS) m
  · intro nS
    refine h.big ((hvs n).filter fun p => !decide (p ∈ S)) (fun q m => (List.mem_filter.mp m).1) (fun q m a ha => ?_) p (List.mem_filter.mpr ⟨mp, by rw [decide_eq_false nS]; rfl⟩)
    obtain ⟨m1, m2⟩ := List.mem_filter.mp m
    rw [Bool.not_eq_true', decide_eq_false_iff_not] at m2
    obtain ⟨q1, q2⟩ := mem_hvs.mp m1
    obtain ⟨c1, c2⟩ := hS.cl q q1 q2 m2 a ha
    have b1 := mA_lt mw a q.1 ha (by omega)
    have b2 := mA_lt mw a q.2 ha q2
    refine List.mem_filter.mpr ⟨mem_hvs.mpr ⟨?_, ?_⟩, by rw [decide_eq_false c2]; rfl⟩
    · have c1 : min (mA wss a q.1) (mA wss a q.2) ≠ max (mA wss a q.1) (mA wss a q.2) := c1
      show min (mA wss a q.1) (mA wss a q.2) < max (mA wss a q.1) (mA wss a q.2)
      omega
    · show max (mA wss a q.1) (mA wss a q.2) < n
      omega
/-- a closed set of pairs lies in it -/
theorem GrL.all {n : Nat} {wss : List (List Nat)} {L : List (Nat × Nat)} (h : GrL n wss L) {C : List (Nat × Nat)} (hC : ∀ p ∈ C, p ∈ hvs n) (cl : ∀ p ∈ C, ∀ a, a < wss.length → Dw.half (mA wss a p.1) (mA wss a p.2) ∈ C) : ∀ p ∈ C, p ∈ L := h.big C hC cl
theorem stepL_all {wss : List (List Nat)} {L : List (Nat × Nat)} (h : (stepL wss L).length = L.length) : ∀ p ∈ L, goodP wss L p = true := by
  unfold stepL at h
  exact List.length_filter_eq_length_iff.mp h
def allPs (n : Nat) : List (Nat × Nat) := (List.range (n * n)).map fun k => (k / n, k % n)
theorem allPs_hvs : ∀ n : Fin 9, ((allPs n.1).filter fun p => decide (p.1 < p.2)) = hvs n.1 := by decide +kernel
theorem hvs_len : ∀ n : Fin 9, (hvs n.1).length ≤ 28 ∧ (hvs n.1).length ≤ n.1 * n.1 := by decide +kernel
theorem allPs_len (n : Nat) : (allPs n).length = n * n := by rw [allPs, List.length_map, List.length_range]
def spLawPairs : Sp := fun vs H Q _ => ∃ n : Nat, vs = [.int (n : Int)] ∧ 1 ≤ n ∧ n ≤ 8 ∧ ∀ (l : Addr) (ts : List Pt) (H' : Hp), Same H H' → H' l = some (.lst (rfs ts)) → Pts H' ts → ts.map (·.2) = allPs n → Q (.ref l) H'
/-- _law_stuck(parts, size): the greatest closed set -/
def spLStuck : Sp := fun vs H Q _ => ∃ (l : Addr) (n : Nat) (ts : List Prt), vs = [.ref l, .int (n : Int)] ∧ 1 ≤ n ∧ n ≤ 8 ∧ H l = some (.lst (rfs ts)) ∧ PrtsIn n H ts ∧ ts.length ≤ 4 ∧
  ∀ (r : Addr) (us : List Pt) (H' : Hp), Same H H' → H r = none → H' r = some (.lst (rfs us)) → Pts H' us → GrL n (mps ts) (us.map (·.2)) → (∀ p ∈ us.map (·.2), goodP (mps ts) (us.map (·.2)) p = true) → us.length ≤ 28 → Q (.ref r) H'
section
variable {P : Program} {w : World} {K : PySem.W.Frag} {mg : Str → Option Value} {base : Heap}
abbrev s_lpairs : Stmt := top 64
theorem sc_lpairs : FnScope ["_law_size", "_law_k"] ["_law_size"] (defScope s_lpairs) := ⟨rfl, rfl, rfl, by decide +kernel, rfl, by decide +kernel, by decide +kernel⟩
theorem ok_lpairs {f : Addr} {fd : FuncData} (F : Fun K "_law_pairs" "_law_pairs" s_lpairs f fd) (T : Bm mg) : FnOk P w K mg base CX0 1 f fd ["_law_size"] spLawPairs := by
  refine F.ok sc_lpairs (fun vs H Q E h => ?_) (fun cdv A outer s H vs Q E hr h => ?_)
  · obtain ⟨n, rfl, _⟩ := h
    rfl
  · obtain ⟨n, rfl, n1, n8, k⟩ := h
    refine ⟨_, (pss_one (ps_ret (pe_lc (own := [("_law_k", 1)]) rfl sc_lpairs.nd (pi_range1 (by rfl) T.n_range (pa_cons (pe_op op_mul (pv 0) (pv 0)) pa_nil)) (blkOk_by (N := ["_law_size", "_law_k"]) (sc := defScope s_lpairs) (by decide +kernel)) (fun _ _ _ _ _ => (pg_name (i := 1) sc_lpairs.nd rfl (Or.inl rfl))) (fun _ _ _ _ _ => pts_nil)
      (fun _ _ _ _ _ => (pe_tup (pa_cons (pe_op op_fdivG (pv 1) (pv 0)) (pa_cons (pe_op op_modN (pe_callTy call_int1 (by rfl) T.b.n_int (by decide +kernel) (pa_cons (pv 1) pa_nil)) (pv 0)) pa_nil))))))), ?_⟩
    have nn : n * n ≤ 64 := Nat.mul_le_mul n8 n8
    have ez : ((n : Int) * (n : Int)) = ((n * n : Nat) : Int) := by rw [Int.natCast_mul]
    refine ⟨_, rfl, _, rfl, _, _, rfl, rfl, .inl ⟨by omega, by omega⟩, _, rfl, by rw [ez]; omega, by rw [ez]; omega, fun D nD => ?_⟩
    rw [ez, Int.toNat_natCast]
    refine lc_range (fun i H' => Same H H' ∧ ∃ us : List Pt, H' D = some (.lst (rfs us)) ∧ Pts H' us ∧ us.map (·.2) = (List.range i).map (fun k => (k / n, k % n)) ∧ us.length = i) ⟨Same.put nD, [], upd_same, fun _ m => (by cases m), rfl, rfl⟩ ?_ ?_
    · rintro i H' hi ⟨s1, us, eD, pD, qD, lD⟩
      rw [Int.zero_add]
      refine ⟨rfl, yes_of ?_⟩
      have lg : ((n : Int)).natAbs.log2 < 9000 := log_small (b := 10) (by show ((n : Int)).natAbs < 2 ^ 10; omega) (by decide) (by decide)
      refine ⟨_, rfl, _, rfl, (i : Int), (n : Int), rfl, rfl, ⟨by omega, lg⟩, _, rfl, .inl ⟨(i : Int), rfl, _, rfl, (i : Int), (n : Int), rfl, rfl, by omega, by show 2 ≤ sizeLine; decide, fun c nc => ?_⟩⟩
      have d1 : (i : Int).fdiv (n : Int) = ((i / n : Nat) : Int) := by rw [Int.fdiv_eq_ediv_of_nonneg _ (by omega)]; rfl
      have d2 : (i : Int).fmod (n : Int) = ((i % n : Nat) : Int) := by rw [Int.fmod_eq_emod_of_nonneg _ (by omega)]; rfl
      dsimp only
      rw [d1, d2]
      have sc := Same.put (o := .tup (prV (i / n, i % n))) nc
      refine ⟨rfs us, sc _ _ eD, by rw [rfs_len]; exact small_len (by omega), Same.but (fun b u e => sc _ _ (s1 _ _ e)) nD, us ++ [(c, i / n, i % n)], ?_, Pts.lstU (Pts.snoc (pD.same sc) upd_same) (sc _ _ eD), ?_, ?_⟩
      · rw [upd_same, rfs_snoc]
      · rw [List.map_append, qD, List.range_succ, List.map_append]
        rfl
      · rw [List.length_append, lD]
        rfl
    · rintro H1 ⟨s1, us, eD, pD, qD, lD⟩
      exact k D us H1 s1 eD pD qD
end
end KG
set_option Elab.async false
set_option linter.all false
set_option maxRecDepth 100000
set_option maxHeartbeats 4000000
namespace KG
open PySem L2
abbrev rMin2 : List V → Hp → VK → Prop := fun xs H Q => ∃ i j, xs = [.int i, .int j] ∧ Q (.int (if j < i then j else i)) H
abbrev rMax2 : List V → Hp → VK → Prop := fun xs H Q => ∃ i j, xs = [.int i, .int j] ∧ Q (.int (if j > i then j else i)) H
theorem min2 (a b : Nat) : (if (b : Int) < (a : Int) then (b : Int) else (a : Int)) = ((min a b : Nat) : Int) := by
  split <;> omega
theorem max2 (a b : Nat) : (if (b : Int) > (a : Int) then (b : Int) else (a : Int)) = ((max a b : Nat) : Int) := by
  split <;> omega
theorem mps_at {n : Nat} {H : Hp} {ts : List Prt} (pi : PrtsIn n H ts) {a s : Nat} {p : Prt} (h : ts[a]? = some p) (hs : s < n) : p.2.2.2[s]? = some (mA (mps ts) a s) := by
  have hp := pi p (List.mem_of_getElem? h)
  have lp : s < p.2.2.2.length := by rw [hp.2.1.2.1]; exact hs
  have g : (mps ts).getD a [] = p.2.2.2 := by rw [List.getD, List.getElem?_map, h]; rfl
  show _ = some (((mps ts).getD a []).getD s 0)
  rw [g, List.getElem?_eq_getElem lp, List.getD, List.getElem?_eq_getElem lp]
  rfl
theorem mps_maps {n : Nat} {H : Hp} {ts : List Prt} (pi : PrtsIn n H ts) : ∀ ws ∈ mps ts, IsMap n ws := fun ws m => by
  obtain ⟨t, mt, rfl⟩ := List.mem_map.mp m
  exact (pi t mt).2.1.2
theorem goodP_ld {wss : List (List Nat)} {L : List (Nat × Nat)} {p : Nat × Nat} : goodP wss L p = ((ldP wss p).map fun q => decide (q ∈ L)).all id := by
  unfold goodP ldP
  rw [List.map_map, List.all_map]
  rfl
section
variable {P : Program} {w : World} {K : PySem.W.Frag} {mg : Str → Option Value} {base : Heap}
abbrev s_lstk : Stmt := top 78
abbrev nSk : List Str := ["_law_parts", "_law_size", "_law_left", "_law_turn", "_law_kept", "_law_s", "_law_t", "_law_goals", "_law_pair", "_law_top", "_law_led", "_law_goal"]
theorem sc_lstk : FnScope nSk ["_law_parts", "_law_size"] (defScope s_lstk) := ⟨rfl, rfl, rfl, by decide +kernel, rfl, by decide +kernel, by decide +kernel⟩
theorem ok_lstk {f : Addr} {fd : FuncData} (F : Fun K "_law_stuck" "_law_stuck" s_lstk f fd) (T : Bm mg) (c_lp : Cal P w K mg base 1 "_law_pairs" ["_law_size"] spLawPairs) : FnOk P w K mg base CX0 2 f fd ["_law_parts", "_law_size"] spLStuck := by
  refine F.ok sc_lstk (fun vs H Q E h => ?_) (fun cdv A outer s H vs Q E hr h => ?_)
  · obtain ⟨l, n, ts, rfl, _⟩ := h
    rfl
  · obtain ⟨l, n, ts, rfl, n1, n8, el, pi, t4, k⟩ := h
    refine ⟨_, (pss_cons (ps_set (i := 2) sc_lstk.nd rfl (Or.inr rfl) (pe_lc (own := [("_law_pair", 8)]) rfl sc_lstk.nd (pi_list (pe_cal c_lp (hr.mono (by decide)) rfl (pa_cons (pv 1) pa_nil))) (blkOk_by (N := nSk) (sc := defScope s_lstk) (by decide +kernel)) (fun _ _ _ _ _ => (pg_name (i := 8) sc_lstk.nd rfl (Or.inl rfl)))
        (fun _ _ _ _ _ => (pts_one (pt_cmpR op_lt (pe_ix (show IxR _ (rIxT K) from ix_tup) (pv 8) pe_int (fun _ _ => rfl)) (pe_ix (show IxR _ (rIxT K) from ix_tup) (pv 8) pe_int (fun _ _ => rfl)) (nomark _)))) (fun _ _ _ _ _ => (pv 8))))
      (pss_cons (ps_for PassesOwn.never rfl (pi_range1 (by rfl) T.n_range (pa_cons (pe_op op_add (pe_op op_mul (pv 1) (pv 1)) pe_int) pa_nil)) (pg_name (i := 3) sc_lstk.nd rfl (Or.inl rfl))
        (pss_cons (ps_set (i := 4) sc_lstk.nd rfl (Or.inl rfl) (pe_lst pa_nil))
          (pss_cons (ps_for PassesOwn.never rfl (pi_list (pv 2)) (pg_tup (by rfl) (pgs_cons (pg_name (i := 5) sc_lstk.nd rfl (Or.inr rfl)) (pgs_cons (pg_name (i := 6) sc_lstk.nd rfl (Or.inr rfl)) pgs_nil)))
            (pss_cons (ps_setLc (i := 7) (own := [("_law_top", 9), ("_law_led", 10)]) (g := gTup K 2 (gCons (gName 9) (gCons (gName 10) gNil))) rfl sc_lstk.nd rfl rfl (sw_true rfl rfl rfl (by decide +kernel)) (pi_list (pv 0)) (blkOk_by (N := nSk) (sc := defScope s_lstk) (by decide +kernel)) (fun _ _ _ _ _ => (pg_tup (by rfl) (pgs_cons (pg_name (i := 9) sc_lstk.nd rfl (Or.inl rfl)) (pgs_cons (pg_name (i := 10) sc_lstk.nd rfl (Or.inl rfl)) pgs_nil)))) (fun _ _ _ _ _ => pts_nil)
                (fun _ _ _ _ _ => (pe_tup (pa_cons (pe_callB (show CallR _ _ rMin2 from call_min2 rfl) (by rfl) T.n_min (by decide +kernel) (pa_cons (pe_ix (show IxR _ (rIxT K) from ix_tup) (pv 10) (pv 5) (fun _ _ => rfl)) (pa_cons (pe_ix (show IxR _ (rIxT K) from ix_tup) (pv 10) (pv 6) (fun _ _ => rfl)) pa_nil))) (pa_cons (pe_callB (show CallR _ _ rMax2 from call_max2 rfl) (by rfl) T.n_max (by decide +kernel) (pa_cons (pe_ix (show IxR _ (rIxT K) from ix_tup) (pv 10) (pv 5) (fun _ _ => rfl)) (pa_cons (pe_ix (show IxR _ (rIxT K) from ix_tup) (pv 10) (pv 6) (fun _ _ => rfl)) pa_nil))) pa_nil)))))
              (pss_one (ps_if (pt_val (pe_callB (cr_all rfl) (by rfl) T.n_all PyProof.Rows.boot_all (pa_cons (pe_lc (own := [("_law_goal", 11)]) rfl sc_lstk.nd (pi_list (pv 7)) (blkOk_by (N := nSk) (sc := defScope s_lstk) (by decide +kernel)) (fun _ _ _ _ _ => (pg_name (i := 11) sc_lstk.nd rfl (Or.inl rfl))) (fun _ _ _ _ _ => pts_nil) (fun _ _ _ _ _ => (pe_cmpR (show OpR _ _ (rInD K) from op_inD (by exact un65 hr)) (pv 11) (pv 2) (by rfl)))) pa_nil)))
                (pss_one (ps_expr (pe_bm PySem.F.plainAttrs_list PySem.F.slot_list_append PySem.F.type_list_append mt_append (pv 4) (pa_cons (pe_tup (pa_cons (pv 5) (pa_cons (pv 6) pa_nil))) pa_nil))))
                pss_nil))))
          (pss_cons (ps_if (pt_cmpR op_eq (pe_callB call_len_seq (by rfl) T.b.n_len PySem.boot_len (pa_cons (pv 4) pa_nil)) (pe_callB call_len_seq (by rfl) T.b.n_len PySem.boot_len (pa_cons (pv 2) pa_nil)) (nomark _))
            (pss_one ps_break)
            pss_nil)
          (pss_one (ps_set (i := 2) sc_lstk.nd rfl (Or.inr rfl) (pv 4)))))))
      (pss_one (ps_ret (pv 2))))), ?_⟩
    have lw : (mps ts).length = ts.length := List.length_map _
    have mw := mps_maps pi
    generalize hws : mps ts = wss at k lw mw
    refine ⟨_, rfl, n, rfl, n1, n8, fun l0 qs H1 s1 e1 pq qq => ?_⟩
    have lq : qs.length ≤ 64 := by
      have := congrArg List.length qq
      rw [List.length_map, allPs_len] at this
      have h2 : n * n ≤ 64 := Nat.mul_le_mul n8 n8
      omega
    refine ⟨l0, rfl, ⟨_, SqL.of e1⟩, fun D nD => ?_⟩
    have nDH := s1.free nD
    refine lc_list (K := K) (a := l0) (xs := rfs qs) (fun i H' => Same H1 H' ∧ ∃ us : List Pt, H' D = some (.lst (rfs us)) ∧ Pts H' us ∧ us.map (·.2) = ((qs.take i).map (·.2)).filter fun p => decide (p.1 < p.2)) ⟨Same.put nD, [], upd_same, fun _ m => (by cases m), rfl⟩ (fun i H' _ h => SqL.of (h.1 _ _ e1)) ?_ ?_
    · rintro i y H' hy ⟨s2, us, eD, pu, qu⟩
      obtain ⟨q, hq, mq, rfl⟩ := rfs_at hy
      have il := (List.getElem?_eq_some_iff.mp hq).1
      have eq := s2 _ _ (pq q mq)
      refine ⟨rfl, ?_⟩
      refine ⟨_, rfl, q.1, _, 0, _, rfl, rfl, SqT.of eq, at0, _, rfl, q.1, _, 1, _, rfl, rfl, SqT.of eq, at1, (q.2.1 : Int), (q.2.2 : Int), rfl, rfl, _, rfl, ?_⟩
      have e : decide ((q.2.1 : Int) < (q.2.2 : Int)) = decide (q.2.1 < q.2.2) := decide_eq_decide.mpr (by omega)
      rw [e]
      have take : (qs.take (i + 1)).map (·.2) = (qs.take i).map (·.2) ++ [q.2] := by rw [take_more hq, List.map_append]; rfl
      by_cases c : q.2.1 < q.2.2
      · refine iteTe (decide_eq_true c) ?_
        have ul : us.length ≤ 64 := by
          have := congrArg List.length qu
          rw [List.length_map] at this
          have h2 := List.length_filter_le (fun p : Nat × Nat => decide (p.1 < p.2)) ((qs.take i).map (·.2))
          rw [List.length_map, List.length_take] at h2
          omega
        refine ⟨_, rfl, _, eD, by rw [rfs_len]; exact small_len (by omega), Same.but s2 nD, us ++ [q], by rw [upd_same, rfs_snoc], Pts.lstU (Pts.snoc pu eq) eD, ?_⟩
        rw [List.map_append, qu, take, List.filter_append]
        simp [c]
      · refine iteFe (decide_eq_false c) ⟨s2, us, eD, pu, ?_⟩
        rw [qu, take, List.filter_append]
        simp [c]
    rintro H2 ⟨s2, us, eD, pu, qu⟩
    rw [rfs_len, List.take_length, qq, allPs_hvs ⟨n, by omega⟩] at qu
    obtain ⟨h28, hnn⟩ := hvs_len ⟨n, by omega⟩
    have s02 := s1.trans s2
    have nn : n * n ≤ 64 := Nat.mul_le_mul n8 n8
    have ez : ((n : Int) * (n : Int) + 1) = ((n * n + 1 : Nat) : Int) := by rw [← Int.natCast_mul]; rfl
    have fin : ∀ (lf : Addr) (us : List Pt) (H' : Hp), Same H H' → H lf = none → H' lf = some (.lst (rfs us)) → Pts H' us → GrL n wss (us.map (·.2)) → (∀ p ∈ us.map (·.2), goodP wss (us.map (·.2)) p = true) → us.length ≤ 28 → ∀ v0 v1 v3 v4 v5 v6 v7 v8 v9 v10 v11 : Option V,
        tRet (tVar 2) { nx := fun _ H' => Q .non H', rt := Q } [v0, v1, some (.ref lf), v3, v4, v5, v6, v7, v8, v9, v10, v11] H' := fun lf us H' s e0 e p g c l v0 v1 v3 v4 v5 v6 v7 v8 v9 v10 v11 => ⟨_, rfl, k lf us H' s e0 e p g c l⟩
    refine ⟨_, rfl, _, rfl, _, _, rfl, rfl, .inl ⟨by omega, by omega⟩, _, _, rfl, rfl, _, rfl, by rw [ez]; omega, by rw [ez]; omega, ?_⟩
    rw [ez, Int.toNat_natCast]
    have us0 : us.length = (hvs n).length := by have := congrArg List.length qu; rw [List.length_map] at this; exact this
    refine for_range (fun i σ H' => ∃ (v3 v4 v5 v6 v7 v8 v9 v10 v11 : Option V) (lf : Addr) (us : List Pt), σ = [some (.ref l), some (.int (n : Int)), some (.ref lf), v3, v4, v5, v6, v7, v8, v9, v10, v11] ∧ Same H H' ∧ H lf = none ∧ H' lf = some (.lst (rfs us)) ∧ Pts H' us ∧ GrL n wss (us.map (·.2)) ∧ us.length + i ≤ n * n ∧ us.length ≤ 28)
      ⟨none, none, none, none, none, none, none, none, none, D, us, rfl, s02, nDH, eD, pu, by rw [qu]; exact GrL.start n wss, by rw [us0]; exact hnn, by rw [us0]; exact h28⟩ ?_ ?_
    · rintro i σ H3 hi ⟨v3, v4, v5, v6, v7, v8, v9, v10, v11, lf, us, rfl, s3, nlf, elf, pus, gr, lsm, l28⟩
      rw [Int.zero_add]
      generalize hL : us.map (·.2) = L at gr
      have mL : ∀ u ∈ us, u.2 ∈ hvs n := fun u mu => gr.mem (by rw [← hL]; exact List.mem_map_of_mem mu)
      refine ⟨by show 0 ≤ sizeLine; decide, fun kp nkp => ?_⟩
      have nkpH := s3.free nkp
      have skp := Same.put (o := .lst (rfs ([] : List Pt))) nkp
      have ekp : (upd H3 kp (.lst (rfs ([] : List Pt)))) kp = some (.lst (rfs ([] : List Pt))) := upd_same
      have s4 := s3.trans skp
      have elf4 := skp _ _ elf
      have pus4 := pus.same skp
      have lk : lf ≠ kp := fun z => by rw [z, nkp] at elf; cases elf
      show tSeq _ _ _ _ (upd H3 kp (.lst (rfs ([] : List Pt))))
      generalize (upd H3 kp (.lst (rfs ([] : List Pt)))) = H4 at ekp s4 elf4 pus4 ⊢
      refine ⟨_, rfl, lf, rfl, ⟨_, SqL.of elf4⟩, ?_⟩
      refine for_it (walk_list (K := K) (a := lf) (xs := rfs us)) (fun j σ H' => ∃ (v5 v6 v7 v8 v9 v10 v11 : Option V) (ks : List Pt), σ = [some (.ref l), some (.int (n : Int)), some (.ref lf), some (.int (i : Int)), some (.ref kp), v5, v6, v7, v8, v9, v10, v11] ∧ Same H H' ∧ H' lf = some (.lst (rfs us)) ∧ Pts H' us ∧ H' kp = some (.lst (rfs ks)) ∧ Pts H' ks ∧ ks.map (·.2) = ((us.take j).map (·.2)).filter (goodP wss L))
        ⟨_, _, _, _, _, _, _, [], rfl, s4, elf4, pus4, ekp, fun _ m => (by cases m), rfl⟩ (fun j σ H' _ h => by obtain ⟨_, _, _, _, _, _, _, _, _, _, h, _⟩ := h; exact SqL.of h) ?_ ?_
      · rintro j y σ H5' H5 hj ⟨w5, w6, w7, w8, w9, w10, w11, ks, rfl, s5, elf5, pus5, ekp5, pks, qks⟩ ⟨rfl, hy⟩
        obtain ⟨u, hu1, mu, rfl⟩ := rfs_at hy
        have jl := (List.getElem?_eq_some_iff.mp hu1).1
        obtain ⟨un1, un2⟩ := mem_hvs.mp (mL u mu)
        have lks : ks.length ≤ 28 := by
          have := congrArg List.length qks
          rw [List.length_map] at this
          have h2 := List.length_filter_le (goodP wss L) ((us.take j).map (·.2))
          rw [List.length_map, List.length_take] at h2
          omega
        refine ⟨u.1, prV u.2, rfl, SqT.of (pus5 u mu), rfl, _, _, rfl, _, _, rfl, rfl, ?_⟩
        -- where it is led
        have el5 := s5 _ _ el
        have pi5 := pi.same s5
        refine ⟨_, rfl, l, rfl, ⟨_, SqL.of el5⟩, fun G nG => ?_⟩
        refine lc_list (K := K) (a := l) (xs := rfs ts) (fun m H' => Same H5 H' ∧ ∃ gs : List Pt, H' G = some (.lst (rfs gs)) ∧ Pts H' gs ∧ gs.map (·.2) = (ldP wss u.2).take m) ⟨Same.put nG, [], upd_same, fun _ m => (by cases m), rfl⟩ (fun m H' _ h => SqL.of (h.1 _ _ el5)) ?_ ?_
        · rintro m y H6 hy6 ⟨s6, gs, eG, pgs, qgs⟩
          obtain ⟨t, ht, mt, rfl⟩ := rfs_at hy6
          have ml := (List.getElem?_eq_some_iff.mp ht).1
          have pt := (pi5 t mt).same s6
          have g1 := cV_at (mps_at pi ht (show u.2.1 < n by omega))
          have g2 := cV_at (mps_at pi ht un2)
          rw [hws] at g1 g2
          refine ⟨t.1, _, rfl, SqT.of pt.1, rfl, _, _, rfl, _, _, rfl, rfl, rfl, yes_of ?_⟩
          refine ⟨_, rfl, _, rfl, t.2.2.1, _, _, _, rfl, rfl, SqT.of pt.2.1.1, atI_nat g1, _, rfl, _, rfl, t.2.2.1, _, _, _, rfl, rfl, SqT.of pt.2.1.1, atI_nat g2, _, _, rfl, _, rfl, _, rfl, t.2.2.1, _, _, _, rfl, rfl, SqT.of pt.2.1.1, atI_nat g1, _, rfl, _, rfl, t.2.2.1, _, _, _, rfl, rfl, SqT.of pt.2.1.1, atI_nat g2, _, _, rfl, ?_⟩
          rw [min2, max2]
          refine ⟨by show 2 ≤ sizeLine; decide, fun b nb => ?_⟩
          have sb := Same.put (o := .tup (prV (Dw.half (mA wss m u.2.1) (mA wss m u.2.2)))) nb
          have lgs : gs.length ≤ 4 := by
            have := congrArg List.length qgs
            rw [List.length_map, List.length_take] at this
            omega
          have hh : (ldP wss u.2)[m]? = some (Dw.half (mA wss m u.2.1) (mA wss m u.2.2)) := by
            unfold ldP
            rw [List.getElem?_map, List.getElem?_range (by omega)]
            rfl
          refine ⟨_, sb _ _ eG, by rw [rfs_len]; exact small_len (by omega), Same.but (fun b u e => sb _ _ (s6 _ _ e)) nG, gs ++ [(b, Dw.half (mA wss m u.2.1) (mA wss m u.2.2))], by rw [upd_same, rfs_snoc], Pts.lstU (Pts.snoc (pgs.same sb) upd_same) (sb _ _ eG), ?_⟩
          rw [List.map_append, qgs, take_more hh]
          rfl
        rintro H6 ⟨s6, gs, eG, pgs, qgs⟩
        rw [rfs_len, ← lw, show wss.length = (ldP wss u.2).length by unfold ldP; rw [List.length_map, List.length_range], List.take_length] at qgs
        have elf6 := s6 _ _ elf5
        have pus6 := pus5.same s6
        have lgs : gs.length ≤ 4 := by
          have := congrArg List.length qgs
          unfold ldP at this
          rw [List.length_map, List.length_map, List.length_range] at this
          omega
        refine ⟨_, rfl, G, rfl, ⟨_, SqL.of eG⟩, fun Fl nFl => ?_⟩
        refine lc_list (K := K) (a := G) (xs := rfs gs) (fun m H' => Same H6 H' ∧ H' Fl = some (.lst ((((gs.take m).map (·.2)).map fun q => decide (q ∈ L)).map V.bl))) ⟨Same.put nFl, upd_same⟩ (fun m H' _ h => SqL.of (h.1 _ _ eG)) ?_ ?_
        · rintro m y H7 hy7 ⟨s7, eFl⟩
          obtain ⟨q, hq, mq, rfl⟩ := rfs_at hy7
          have ml := (List.getElem?_eq_some_iff.mp hq).1
          refine ⟨rfl, yes_of ?_⟩
          refine ⟨_, rfl, _, rfl, dI (iW (pN q.2)), _, dp_tupN (ws := pN q.2) (SqT.of (s7 _ _ (pgs q mq))), .lst (SqL.of (s7 _ _ elf6)) (Pts.dp (pus6.same s7)), sh_dI _, sh_list _, ?_⟩
          rw [any_dP, hL]
          refine ⟨_, eFl, by rw [List.length_map, List.length_map, List.length_map, List.length_take]; exact small_len (by omega), Same.but s7 nFl, ?_⟩
          rw [upd_same, take_more hq, List.map_append, List.map_append, List.map_append]
          rfl
        rintro H7 ⟨s7, eFl⟩
        rw [rfs_len, List.take_length, qgs] at eFl
        refine ⟨Fl, _, rfl, SqL.of eFl, _, rfl, ?_⟩
        rw [← goodP_ld]
        have s57 := s6.trans s7
        have s07 := s5.trans s57
        have elf7 := s57 _ _ elf5
        have ekp7 := s57 _ _ ekp5
        have pus7 := pus5.same s57
        have pks7 := pks.same s57
        have take : (us.take (j + 1)).map (·.2) = (us.take j).map (·.2) ++ [u.2] := by rw [take_more hu1, List.map_append]; rfl
        cases hg : goodP wss L u.2 with
        | true =>
          refine iteT ?_
          refine ⟨_, rfl, .inl ⟨rfl, _, SqL.of ekp7⟩, ?_⟩
          refine ⟨_, rfl, _, rfl, by show 2 ≤ sizeLine; decide, fun b nb => ?_⟩
          have sb := Same.put (o := .tup (prV u.2)) nb
          have ekp8 := sb _ _ ekp7
          refine ⟨kp, _, _, rfl, rfl, ekp8, by rw [rfs_len]; exact small_len (by omega), ?_⟩
          refine ⟨_, _, _, _, _, _, _, ks ++ [(b, u.2)], rfl, Same.but (fun b o e => sb _ _ (s07 _ _ e)) nkpH, by rw [upd_ne lk]; exact sb _ _ elf7, Pts.lstU (pus7.same sb) ekp8, by rw [upd_same, rfs_snoc], Pts.lstU (Pts.snoc (pks7.same sb) upd_same) ekp8, ?_⟩
          rw [List.map_append, qks, take, List.filter_append]
          simp [hg]
        | false =>
          refine iteF ⟨_, _, _, _, _, _, _, ks, rfl, s07, elf7, pus7, ekp7, pks7, ?_⟩
          rw [qks, take, List.filter_append]
          simp [hg]
      · rintro σ H5 ⟨w5, w6, w7, w8, w9, w10, w11, ks, rfl, s5, elf5, pus5, ekp5, pks, qks⟩
        rw [rfs_len, List.take_length, hL] at qks
        have qks : ks.map (·.2) = stepL wss L := qks
        have lL : us.length = L.length := by rw [← hL, List.length_map]
        have lK : ks.length = (stepL wss L).length := by rw [← qks, List.length_map]
        have le : (stepL wss L).length ≤ L.length := List.length_filter_le _ _
        refine ⟨_, rfl, kp, _, rfl, .inl (SqL.of ekp5), _, rfl, lf, _, rfl, .inl (SqL.of elf5), rfl, _, rfl, ite2 (fun z => ?_) (fun z => ?_)⟩
        · have z := of_decide_eq_true z
          rw [V.int.injEq, rfs_len, rfs_len] at z
          have al := stepL_all (wss := wss) (L := L) (by omega)
          exact fin lf us H5 s5 nlf elf5 pus5 (by rw [hL]; exact gr) (by rw [hL]; exact al) l28 _ _ _ _ _ _ _ _ _ _ _
        · have ne : ks.length ≠ us.length := fun e => z (decide_eq_true (by rw [rfs_len, rfs_len, e]))
          refine ⟨_, rfl, _, _, _, _, _, _, _, _, _, kp, ks, rfl, s5, nkpH, ekp5, pks, by rw [qks]; exact gr.step, by omega, by omega⟩
    · rintro σ H3 ⟨v3, v4, v5, v6, v7, v8, v9, v10, v11, lf, us, rfl, s3, nlf, elf, pus, gr, lsm, l28⟩
      omega
end
end KG
set_option Elab.async false
set_option linter.all false
set_option maxRecDepth 100000
set_option maxHeartbeats 4000000
namespace KG
open PySem L2
theorem pairs_few {n : Nat} {L : List (Nat × Nat)} (nd : L.Nodup) (h : ∀ p ∈ L, p.1 < n ∧ p.2 < n) : L.length ≤ n * n := by
  have nd2 := Dw.nodup_map (P := fun p : Nat × Nat => p.1 < n ∧ p.2 < n) (g := fun p => p.1 * n + p.2) (fun x y hx hy e => by
    have hn : 0 < n := by omega
    have d1 : (x.1 * n + x.2) / n = x.1 := by rw [Nat.mul_comm, Nat.mul_add_div hn, Nat.div_eq_of_lt hx.2, Nat.add_zero]
    have d2 : (y.1 * n + y.2) / n = y.1 := by rw [Nat.mul_comm, Nat.mul_add_div hn, Nat.div_eq_of_lt hy.2, Nat.add_zero]
    have e1 : x.1 = y.1 := by rw [← d1, ← d2, e]
    rw [e1] at e
    exact Prod.ext e1 (by omega)) nd h
  have := Dw.few_below (n * n) _ nd2 (fun x m => by
    obtain ⟨p, mp, rfl⟩ := List.mem_map.mp m
    obtain ⟨h1, h2⟩ := h p mp
    have : (p.1 + 1) * n ≤ n * n := Nat.mul_le_mul_right n (by omega)
    rw [Nat.succ_mul] at this
    show p.1 * n + p.2 < n * n
    omega)
  rw [List.length_map] at this
  exact this
/-- _law_coming(parts, pair, size): pairs of states -/
def spComing : Sp := fun vs H Q _ => ∃ (l t : Addr) (n : Nat) (ts : List Prt) (p : Nat × Nat), vs = [.ref l, .ref t, .int (n : Int)] ∧ n ≤ 8 ∧ H l = some (.lst (rfs ts)) ∧ PrtsIn n H ts ∧ ts.length ≤ 4 ∧ H t = some (.tup (prV p)) ∧ p.1 < n ∧ p.2 < n ∧
  ∀ (r : Addr) (us : List Pt) (H' : Hp), Same H H' → H' r = some (.tup (rfs us)) → Pts H' us → (∀ u ∈ us, u.2.1 < n ∧ u.2.2 < n) → 1 ≤ us.length → us.length ≤ 64 → Q (.ref r) H'
section
variable {P : Program} {w : World} {K : PySem.W.Frag} {mg : Str → Option Value} {base : Heap} {Cs : List Addr}
abbrev s_isp : Stmt := top 69
theorem sc_isp : FnScope ["_law_size", "_law_thing", "_law_state"] ["_law_size", "_law_thing"] (defScope s_isp) := ⟨rfl, rfl, rfl, by decide +kernel, rfl, by decide +kernel, by decide +kernel⟩
theorem ok_isp {f : Addr} {fd : FuncData} (F : Fun K "_law_is_pair" "_law_is_pair" s_isp f fd) (T : Bm mg) (I : InsL K Cs) (c_int : Cal P w K mg base 1 "_law_is_integer" ["_law_thing"] (spWh3 K Cs)) : FnOk P w K mg base CX0 2 f fd ["_law_size", "_law_thing"] (spIp3 K Cs) := by
  refine F.ok sc_isp (fun vs H Q E h => ?_) (fun cdv A outer s H vs Q E hr h => ?_)
  · obtain ⟨n, x, rfl, _⟩ := h
    rfl
  · obtain ⟨n, x, rfl, h, pt, k⟩ := h
    refine ⟨_, (pss_cons (ps_if (PW.pt (pw_or (pt_not (pt_val (pe_callB call_isi (by rfl) T.b.n_isinstance (by decide +kernel) (pa_cons (pv 1) (pa_cons (pe_bltn (v := .ty "tuple") rfl T.n_tuple (by decide +kernel) rfl) pa_nil))))) (pw_or1 (pt_cmpR op_ne (pe_callB call_len_seq (by rfl) T.b.n_len PySem.boot_len (pa_cons (pv 1) pa_nil)) pe_int (nomark _)))))
        (pss_one (ps_ret pe_bl))
        pss_nil)
      (pss_cons (ps_for PassesOwn.never rfl (pi_tup (pv 1)) (pg_name (i := 2) sc_isp.nd rfl (Or.inl rfl))
        (pss_one (ps_if (PW.pt (pw_or (pt_not (pt_val (pe_cal c_int (hr.mono (by decide)) rfl (pa_cons (pv 2) pa_nil)))) (pw_or1 (pt_not (pt_chain op_le op_lt pe_int (pv 2) (pv 0))))))
            (pss_one (ps_ret pe_bl))
            pss_nil)))
      (pss_one (ps_ret pe_bl)))), ?_⟩
    obtain ⟨t, ty, _, _, k4⟩ := h.is I
    refine ⟨_, rfl, x, .ty "tuple", t, _, _, rfl, .ty _, ty, k4, _, rfl, ?_⟩
    cases ex : tupAt H x with
    | none =>
      refine iteT ?_
      rw [ixp_no (fun y z q => by rw [ex] at q; cases q)] at k
      exact k
    | some xs =>
      refine iteF ?_
      obtain ⟨a, rfl, e⟩ := tupAt_at ex
      refine ⟨_, rfl, _, _, rfl, .inr (SqT.of e), rfl, _, rfl, ?_⟩
      by_cases hl : xs.length = 2
      · obtain ⟨y, z, rfl⟩ : ∃ y z, xs = [y, z] := by
          match xs, hl with
          | [y, z], _ => exact ⟨y, z, rfl⟩
        have hy := pt _ ex y (by simp)
        have hz := pt _ ex z (by simp)
        have kk : ixp H n (.ref a) = (btw 0 (n - 1) y && btw 0 (n - 1) z) := by
          unfold ixp
          rw [ex]
        rw [kk] at k
        refine iteN ?_
        refine ⟨_, rfl, a, rfl, ⟨_, SqT.of e⟩, for_tup (K := K) (a := a) (xs := [y, z]) (fun i σ H' => H = H' ∧ ∃ v2, σ = [some (.int n), some (.ref a), v2] ∧ (1 ≤ i → btw 0 (n - 1) y = true) ∧ (2 ≤ i → btw 0 (n - 1) z = true)) ⟨rfl, none, rfl, fun h => absurd h (by decide), fun h => absurd h (by decide)⟩ (fun i σ H' _ h => by rw [← h.1]; exact SqT.of e) ?_ ?_⟩
        · rintro i v σ H' hv ⟨rfl, v2, rfl, b1, b2⟩
          obtain ⟨hv2, no, yes⟩ : ThL K Cs H v ∧ (btw 0 (n - 1) v = false → (btw 0 (n - 1) y && btw 0 (n - 1) z) = false) ∧ (btw 0 (n - 1) v = true → (1 ≤ i + 1 → btw 0 (n - 1) y = true) ∧ (2 ≤ i + 1 → btw 0 (n - 1) z = true)) := by
            match i, hv with
            | 0, hv =>
              cases hv
              exact ⟨hy, fun e => by rw [e]; rfl, fun e => ⟨fun _ => e, fun h => absurd h (by decide)⟩⟩
            | 1, hv =>
              cases hv
              exact ⟨hz, fun e => by rw [e, Bool.and_false], fun e => ⟨fun _ => b1 (Nat.le_refl _), fun _ => e⟩⟩
            | i + 2, hv => simp at hv
          have bad : btw 0 (n - 1) v = false → Q (.bl false) H := fun e => by
            rw [no e] at k
            exact k
          refine ⟨_, rfl, v, rfl, hv2, _, rfl, ?_⟩
          cases hi : isI v with
          | false => exact iteT (bad (btw_no hi))
          | true =>
            obtain ⟨i2, rfl⟩ := isI_int hi
            refine iteF ?_
            refine ⟨_, rfl, 0, i2, rfl, rfl, _, rfl, iteB (fun q => ?_) (fun q => ?_)⟩
            · refine ⟨_, rfl, i2, n, rfl, rfl, _, rfl, ?_⟩
              have bt : btw 0 (n - 1) (.int i2) = decide (i2 < n) := by rw [btw_cmp, q, Bool.true_and]
              cases hlt : decide (i2 < n) with
              | false => exact iteT (bad (by rw [bt]; exact hlt))
              | true =>
                refine iteF ⟨rfl, _, rfl, yes (by rw [bt]; exact hlt)⟩
            · refine ⟨_, rfl, iteT (bad ?_)⟩
              rw [btw_cmp, q, Bool.false_and]
        · rintro σ H' ⟨rfl, v2, rfl, b1, b2⟩
          rw [b1 (show 1 ≤ 2 by decide), b2 (show 2 ≤ 2 by decide)] at k
          exact k
      · have no : ixp H n (.ref a) = false := ixp_no fun y z q => hl (by rw [ex] at q; rw [Option.some.inj q]; rfl)
        have ne : (!decide (V.int (xs.length : Int) = V.int 2)) = true := by
          rw [decide_eq_false (fun z => hl (by rw [V.int.injEq] at z; omega))]
          rfl
        rw [no] at k
        exact iteTe ne k
abbrev s_com : Stmt := top 79
abbrev nCo : List Str := ["_law_parts", "_law_pair", "_law_size", "_law_found", "_law_turn", "_law_top", "_law_led", "_law_goal"]
theorem sc_com : FnScope nCo ["_law_parts", "_law_pair", "_law_size"] (defScope s_com) := ⟨rfl, rfl, rfl, by decide +kernel, rfl, by decide +kernel, by decide +kernel⟩
theorem ok_com {f : Addr} {fd : FuncData} (F : Fun K "_law_coming" "_law_coming" s_com f fd) (T : Bm mg) : FnOk P w K mg base CX0 1 f fd ["_law_parts", "_law_pair", "_law_size"] spComing := by
  refine F.ok sc_com (fun vs H Q E h => ?_) (fun cdv A outer s H vs Q E hr h => ?_)
  · obtain ⟨l, t, n, ts, p, rfl, _⟩ := h
    rfl
  · obtain ⟨l, t, n, ts, p, rfl, n8, el, pi, t4, et, pn1, pn2, k⟩ := h
    refine ⟨_, (pss_cons (ps_set (i := 3) sc_com.nd rfl (Or.inl rfl) (pe_lst (pa_cons (pv 1) pa_nil)))
      (pss_cons (ps_for PassesOwn.never rfl (pi_range1 (by rfl) T.n_range (pa_cons (pe_op op_mul (pv 2) (pv 2)) pa_nil)) (pg_name (i := 4) sc_com.nd rfl (Or.inl rfl))
        (pss_cons (ps_if (pt_cmpR op_eq (pv 4) (pe_callB call_len_seq (by rfl) T.b.n_len PySem.boot_len (pa_cons (pv 3) pa_nil)) (nomark _))
          (pss_one ps_break)
          pss_nil)
        (pss_one (ps_for PassesOwn.never rfl (pi_list (pv 0)) (pg_tup (by rfl) (pgs_cons (pg_name (i := 5) sc_com.nd rfl (Or.inl rfl)) (pgs_cons (pg_name (i := 6) sc_com.nd rfl (Or.inl rfl)) pgs_nil)))
          (pss_cons (ps_set (i := 7) sc_com.nd rfl (Or.inl rfl) (pe_tup (pa_cons (pe_ix ix_tup (pv 6) (pe_ix ix_tup (pe_ix ix_list (pv 3) (pv 4) (fun _ _ => rfl)) pe_int (fun _ _ => rfl)) (fun _ _ => rfl)) (pa_cons (pe_ix ix_tup (pv 6) (pe_ix ix_tup (pe_ix ix_list (pv 3) (pv 4) (fun _ _ => rfl)) pe_int (fun _ _ => rfl)) (fun _ _ => rfl)) pa_nil))))
            (pss_one (ps_if (PW.pt (pw_and (pt_cmpR (op_notInD (by exact un65 hr)) (pv 7) (pv 3) (by rfl)) (pw_and1 (pt_cmpR (op_notInD (by exact un65 hr)) (pe_tup (pa_cons (pe_ix ix_tup (pv 7) pe_int (fun _ _ => rfl)) (pa_cons (pe_ix ix_tup (pv 7) pe_int (fun _ _ => rfl)) pa_nil))) (pv 3) (by rfl)))))
              (pss_one (ps_expr (pe_bm PySem.F.plainAttrs_list PySem.F.slot_list_append PySem.F.type_list_append mt_append (pv 3) (pa_cons (pv 7) pa_nil))))
              pss_nil)))))))
      (pss_one (ps_ret (pe_callTy call_tuple_of (by rfl) T.n_tuple (by decide +kernel) (pa_cons (pv 3) pa_nil)))))), ?_⟩
    have mw := mps_maps pi
    generalize hws : mps ts = wss at mw
    have lw : wss.length = ts.length := by rw [← hws]; exact List.length_map _
    have nn : n * n ≤ 64 := Nat.mul_le_mul n8 n8
    have ez : ((n : Int) * (n : Int)) = ((n * n : Nat) : Int) := by rw [Int.natCast_mul]
    refine ⟨_, rfl, by show 1 ≤ sizeLine; decide, fun g ng => ?_⟩
    have sg := Same.put (o := .lst (rfs [((t, p) : Pt)])) ng
    have eg0 : (upd H g (.lst (rfs [((t, p) : Pt)]))) g = some (.lst (rfs [((t, p) : Pt)])) := upd_same
    have et0 := sg _ _ et
    show tSeq _ _ _ _ (upd H g (.lst (rfs [((t, p) : Pt)])))
    generalize (upd H g (.lst (rfs [((t, p) : Pt)]))) = H0 at sg eg0 et0 ⊢
    have fin : ∀ (us : List Pt) (H' : Hp), Same H H' → H' g = some (.lst (rfs us)) → Pts H' us → (us.map (·.2)).Nodup → (∀ u ∈ us, u.2.1 < n ∧ u.2.2 < n) → 1 ≤ us.length → ∀ v0 v1 v2 v4 v5 v6 v7 : Option V,
        tRet (tCB (fun xs H Q => ∃ p ys, xs = [V.ref p] ∧ ((SqL K H p ys ∧ ∀ l, H l = none → Q (.ref l) (upd H l (.tup ys))) ∨ (SqT K H p ys ∧ Q (.ref p) H))) (tCons (tVar 3) tNil)) { nx := fun _ H' => Q .non H', rt := Q } [v0, v1, v2, some (.ref g), v4, v5, v6, v7] H' := by
      intro us H' s e pu nd lt l1 v0 v1 v2 v4 v5 v6 v7
      refine ⟨_, rfl, g, _, rfl, .inl ⟨SqL.of e, fun r nr => ?_⟩⟩
      have sr := Same.put (o := .tup (rfs us)) nr
      have := pairs_few nd (fun q m => by obtain ⟨u, mu, rfl⟩ := List.mem_map.mp m; exact lt u mu)
      rw [List.length_map] at this
      exact k r us _ (s.trans sr) upd_same (pu.same sr) lt l1 (by omega)
    refine ⟨_, rfl, _, rfl, _, _, rfl, rfl, .inl ⟨by omega, by omega⟩, _, rfl, by rw [ez]; omega, by rw [ez]; omega, ?_⟩
    rw [ez, Int.toNat_natCast]
    refine for_range (fun i σ H' => ∃ (v4 v5 v6 v7 : Option V) (us : List Pt), σ = [some (.ref l), some (.ref t), some (.int (n : Int)), some (.ref g), v4, v5, v6, v7] ∧ Same H H' ∧ H' g = some (.lst (rfs us)) ∧ Pts H' us ∧ (us.map (·.2)).Nodup ∧ (∀ u ∈ us, u.2.1 < n ∧ u.2.2 < n) ∧ 1 ≤ us.length ∧ i ≤ us.length)
      ⟨none, none, none, none, [(t, p)], rfl, sg, eg0, fun u m => (by rw [List.mem_singleton.mp m]; exact et0), by simp, fun u m => (by rw [List.mem_singleton.mp m]; exact ⟨pn1, pn2⟩), Nat.le_refl _, Nat.zero_le _⟩ ?_ ?_
    · rintro i σ H1 hi ⟨v4, v5, v6, v7, us, rfl, s1, eg, pus, nd, lt, l1, iu⟩
      rw [Int.zero_add]
      refine ⟨_, rfl, _, rfl, g, _, rfl, .inl (SqL.of eg), rfl, _, rfl, ite2 (fun z => ?_) (fun z => ?_)⟩
      · exact fin us H1 s1 eg pus nd lt l1 _ _ _ _ _ _ _
      · have ilt : i < us.length := by
          have : i ≠ us.length := fun e => z (decide_eq_true (by rw [rfs_len, e]))
          omega
        have gu : us[i]? = some us[i] := List.getElem?_eq_getElem ilt
        generalize us[i] = u at gu
        have mu := List.mem_of_getElem? gu
        have un := lt u mu
        have el1 := s1 _ _ el
        refine ⟨_, rfl, l, rfl, ⟨_, SqL.of el1⟩, ?_⟩
        refine for_it (walk_list (K := K) (a := l) (xs := rfs ts)) (fun m σ H' => ∃ (v5 v6 v7 : Option V) (us : List Pt), σ = [some (.ref l), some (.ref t), some (.int (n : Int)), some (.ref g), some (.int (i : Int)), v5, v6, v7] ∧ Same H H' ∧ H' g = some (.lst (rfs us)) ∧ Pts H' us ∧ (us.map (·.2)).Nodup ∧ (∀ u ∈ us, u.2.1 < n ∧ u.2.2 < n) ∧ 1 ≤ us.length ∧ i < us.length ∧ us[i]? = some u)
          ⟨v5, v6, v7, us, rfl, s1, eg, pus, nd, lt, l1, ilt, gu⟩ (fun m σ H' _ h => by obtain ⟨_, _, _, _, _, h, _⟩ := h; exact SqL.of (h _ _ el)) ?_ ?_
        · rintro m y σ H2' H2 hm ⟨v5, v6, v7, us, rfl, s2, eg2, pus2, nd2, lt2, l12, ilt2, gu2⟩ ⟨rfl, hy⟩
          obtain ⟨tp, ht, mt, rfl⟩ := rfs_at hy
          have ml := (List.getElem?_eq_some_iff.mp ht).1
          have pt := (pi tp mt).same s2
          have g1 := cV_at (mps_at pi ht un.1)
          have g2 := cV_at (mps_at pi ht un.2)
          rw [hws] at g1 g2
          have eu := pus2 u (List.mem_of_getElem? gu2)
          have gat : atI (rfs us) (i : Int) = some (.ref u.1) := atI_nat (by rw [rfs, List.getElem?_map, gu2]; rfl)
          have b1 := mA_lt mw m u.2.1 (by omega) un.1
          have b2 := mA_lt mw m u.2.2 (by omega) un.2
          generalize hq1 : mA wss m u.2.1 = q1 at g1 b1
          generalize hq2 : mA wss m u.2.2 = q2 at g2 b2
          have l64 : us.length ≤ 64 := by
            have := pairs_few nd2 (fun q m => by obtain ⟨u, mu, rfl⟩ := List.mem_map.mp m; exact lt2 u mu)
            rw [List.length_map] at this
            omega
          refine ⟨tp.1, _, rfl, SqT.of pt.1, rfl, _, _, rfl, _, _, rfl, rfl, ?_⟩
          refine ⟨_, rfl, _, rfl, _, rfl, g, rfs us, (i : Int), .ref u.1, rfl, rfl, SqL.of eg2, gat, u.1, prV u.2, 0, _, rfl, rfl, SqT.of eu, at0, tp.2.2.1, _, _, _, rfl, rfl, SqT.of pt.2.1.1, atI_nat g1, ?_⟩
          refine ⟨_, rfl, _, rfl, _, rfl, g, rfs us, (i : Int), .ref u.1, rfl, rfl, SqL.of eg2, gat, u.1, prV u.2, 1, _, rfl, rfl, SqT.of eu, at1, tp.2.2.1, _, _, _, rfl, rfl, SqT.of pt.2.1.1, atI_nat g2, by show 2 ≤ sizeLine; decide, fun b nb => ?_⟩
          have sb := Same.put (o := .tup (prV (q1, q2))) nb
          have eb : (upd H2 b (.tup (prV (q1, q2)))) b = some (.tup (prV (q1, q2))) := upd_same
          have s3 := s2.trans sb
          have eg3 := sb _ _ eg2
          have pus3 := pus2.same sb
          have ngH : ∀ {b : Addr} {o : HO}, H b = some o → b ≠ g := fun e => ne_of_none e ng
          refine ⟨_, rfl, _, rfl, dI (iW (pN (q1, q2))), _, dp_tupN (ws := pN (q1, q2)) (SqT.of eb), .lst (SqL.of eg3) (Pts.dp pus3), sh_dI _, sh_list _, _, rfl, ?_⟩
          rw [any_dP]
          by_cases c1 : (q1, q2) ∈ us.map (·.2)
          · rw [decide_eq_true c1]
            exact iteF (iteF ⟨_, _, _, us, rfl, s3, eg3, pus3, nd2, lt2, l12, ilt2, gu2⟩)
          · rw [decide_eq_false c1]
            refine iteT ?_
            refine ⟨_, rfl, b, _, 1, _, rfl, rfl, SqT.of eb, at1, _, rfl, b, _, 0, _, rfl, rfl, SqT.of eb, at0, by show 2 ≤ sizeLine; decide, fun c nc => ?_⟩
            have sc := Same.put (o := .tup (prV (q2, q1))) nc
            have s4 := s3.trans sc
            have eg4 := sc _ _ eg3
            have pus4 := pus3.same sc
            refine ⟨_, rfl, dI (iW (pN (q2, q1))), _, dp_tupN (ws := pN (q2, q1)) (SqT.of upd_same), .lst (SqL.of eg4) (Pts.dp pus4), sh_dI _, sh_list _, _, rfl, ?_⟩
            rw [any_dP]
            by_cases c2 : (q2, q1) ∈ us.map (·.2)
            · rw [decide_eq_true c2]
              exact iteF ⟨_, _, _, us, rfl, s4, eg4, pus4, nd2, lt2, l12, ilt2, gu2⟩
            · rw [decide_eq_false c2]
              refine iteT ?_
              refine ⟨_, rfl, .inl ⟨rfl, _, SqL.of eg4⟩, _, rfl, g, _, _, rfl, rfl, eg4, by rw [rfs_len]; exact small_len (by omega), ?_⟩
              refine ⟨_, _, _, us ++ [(b, (q1, q2))], rfl, Same.but (fun b o e => s4 _ _ e) ng, by rw [upd_same, rfs_snoc], Pts.lstU (Pts.snoc pus4 (sc _ _ eb)) eg4, ?_, fun u m => ?_, by rw [List.length_append]; omega, by rw [List.length_append]; omega, by rw [List.getElem?_append_left ilt2]; exact gu2⟩
              · rw [List.map_append, List.nodup_append]
                refine ⟨nd2, by simp, fun x hx y hy => ?_⟩
                simp at hy
                subst hy
                exact fun z => c1 (z ▸ hx)
              · rcases List.mem_append.mp m with m | m
                · exact lt2 u m
                · rw [List.mem_singleton.mp m]; exact ⟨b1, b2⟩
        · rintro σ H2 ⟨v5, v6, v7, us, rfl, s2, eg2, pus2, nd2, lt2, l12, ilt2, gu2⟩
          exact ⟨_, v5, v6, v7, us, rfl, s2, eg2, pus2, nd2, lt2, l12, ilt2⟩
    · rintro σ H1 ⟨v4, v5, v6, v7, us, rfl, s1, eg, pus, nd, lt, l1, iu⟩
      exact fin us H1 s1 eg pus nd lt l1 _ _ _ _ _ _ _
end
end KG
set_option Elab.async false
set_option linter.all false
set_option maxRecDepth 100000
set_option maxHeartbeats 4000000
namespace KG
open PySem L2
theorem half_mem {q1 q2 : Nat} {ps : List (Nat × Nat)} : Dw.half q1 q2 ∈ ps.map hf ↔ ((q1, q2) ∈ ps ∨ (q2, q1) ∈ ps) := by
  constructor
  · intro h
    obtain ⟨p, mp, e⟩ := List.mem_map.mp h
    have e1 : min p.1 p.2 = min q1 q2 := congrArg Prod.fst e
    have e2 : max p.1 p.2 = max q1 q2 := congrArg Prod.snd e
    by_cases c : p.1 = q1
    · refine .inl ?_
      have : p = (q1, q2) := Prod.ext c (by show p.2 = q2; omega)
      rw [← this]; exact mp
    · refine .inr ?_
      have : p = (q2, q1) := Prod.ext (by show p.1 = q2; omega) (by show p.2 = q1; omega)
      rw [← this]; exact mp
  · rintro (h | h)
    · exact List.mem_map.mpr ⟨_, h, rfl⟩
    · refine List.mem_map.mpr ⟨_, h, ?_⟩
      show (min q2 q1, max q2 q1) = (min q1 q2, max q1 q2)
      rw [Nat.min_comm, Nat.max_comm]
/-- whether the maps lead the pair to one of them, either way about -/
def goesB (wss : List (List Nat)) (ps : List (Nat × Nat)) (p : Nat × Nat) : Bool := (List.range wss.length).all fun a => decide ((mA wss a p.1, mA wss a p.2) ∈ ps) || decide ((mA wss a p.2, mA wss a p.1) ∈ ps)
theorem clB_goes {wss : List (List Nat)} {ps : List (Nat × Nat)} : clB wss ps = ((ps.all fun p => !decide (p.1 = p.2)) && ps.all (goesB wss ps)) := by
  unfold clB
  congr 1
  rw [List.all_map]
  refine congrArg (fun f => ps.all f) (funext fun p => ?_)
  unfold goesB
  show ((List.range wss.length).all fun a => decide (Dw.half (mA wss a (hf p).1) (mA wss a (hf p).2) ∈ ps.map hf)) = _
  refine congrArg (fun f => (List.range wss.length).all f) (funext fun a => ?_)
  have e : decide (Dw.half (mA wss a (hf p).1) (mA wss a (hf p).2) ∈ ps.map hf) = decide ((mA wss a p.1, mA wss a p.2) ∈ ps ∨ (mA wss a p.2, mA wss a p.1) ∈ ps) := by
    rw [decide_eq_decide, half_mem]
    by_cases c : p.1 ≤ p.2
    · have e1 : (hf p).1 = p.1 := Nat.min_eq_left c
      have e2 : (hf p).2 = p.2 := Nat.max_eq_right c
      rw [e1, e2]
    · have e1 : (hf p).1 = p.2 := Nat.min_eq_right (by omega)
      have e2 : (hf p).2 = p.1 := Nat.max_eq_left (by omega)
      rw [e1, e2]
      exact or_comm
  rw [e, Bool.eq_iff_iff, decide_eq_true_eq, Bool.or_eq_true, decide_eq_true_eq, decide_eq_true_eq]
theorem judged_no1 {n : Nat} {wss : List (List Nat)} {H : Hp} {x y : V} {xs : List V} (e : tupAt H x = some xs) (m : y ∈ xs) (h : prOf H n y = none) : judged n wss H x = false := by
  unfold judged
  rw [e]
  dsimp only
  have : (xs.all fun y => (prOf H n y).isSome) = false := by
    rw [List.all_eq_false]
    exact ⟨y, m, by rw [h]; decide⟩
  rw [this, Bool.false_and, Bool.and_false]
theorem judged_no2 {n : Nat} {wss : List (List Nat)} {H : Hp} {x y : V} {xs : List V} {p : Nat × Nat} (e : tupAt H x = some xs) (m : y ∈ xs) (h : prOf H n y = some p) (q : p.1 = p.2) : judged n wss H x = false := by
  unfold judged
  rw [e]
  dsimp only
  have : clB wss (xs.filterMap (prOf H n)) = false := by
    unfold clB
    have : ((xs.filterMap (prOf H n)).all fun p => !decide (p.1 = p.2)) = false := by
      rw [List.all_eq_false]
      exact ⟨p, List.mem_filterMap.mpr ⟨y, m, h⟩, by rw [decide_eq_true q]; decide⟩
    rw [this, Bool.false_and]
  rw [this, Bool.and_false, Bool.and_false]
theorem judged_pts {n : Nat} {wss : List (List Nat)} {H : Hp} {x : V} {us : List Pt} (e : tupAt H x = some (rfs us)) (pu : Pts H us) (lt : ∀ u ∈ us, u.2.1 < n ∧ u.2.2 < n) (l1 : 1 ≤ us.length) : judged n wss H x = clB wss (us.map (·.2)) := by
  unfold judged
  rw [e]
  dsimp only
  have pr : ∀ u ∈ us, prOf H n (.ref u.1) = some u.2 := fun u m => prOf_of (pu u m) (lt u m).1 (lt u m).2
  have h1 : (rfs us).isEmpty = false := by
    cases us with
    | nil => simp at l1
    | cons => rfl
  have h2 : ((rfs us).all fun y => (prOf H n y).isSome) = true := by
    rw [List.all_eq_true]
    intro y m
    obtain ⟨u, mu, rfl⟩ := List.mem_map.mp m
    rw [pr u mu]
    rfl
  have h3 : ∀ vs : List Pt, (∀ u ∈ vs, prOf H n (.ref u.1) = some u.2) → (rfs vs).filterMap (prOf H n) = vs.map (·.2) := fun vs => by
    induction vs with
    | nil => intro _; rfl
    | cons v vs ih =>
      intro h
      rw [rfs, List.map_cons, List.filterMap_cons, h v List.mem_cons_self, List.map_cons]
      exact congrArg _ (ih fun u m => h u (List.mem_cons_of_mem _ m))
  rw [h1, h2, h3 us pr]
  rfl
/-- the items, as pairs -/
theorem items_pts {n : Nat} {H : Hp} : ∀ {xs : List V}, (∀ y ∈ xs, ∃ p, prOf H n y = some p) → ∃ us : List Pt, xs = rfs us ∧ Pts H us ∧ ∀ u ∈ us, u.2.1 < n ∧ u.2.2 < n
  | [], _ => ⟨[], rfl, fun _ m => (by cases m), fun _ m => by cases m⟩
  | y :: xs, h => by
    obtain ⟨us, e, pu, lt⟩ := items_pts (xs := xs) fun z m => h z (List.mem_cons_of_mem _ m)
    obtain ⟨p, hp⟩ := h y List.mem_cons_self
    obtain ⟨a, rfl, ea, b1, b2⟩ := prOf_some hp
    refine ⟨(a, p) :: us, by rw [e]; rfl, fun u m => ?_, fun u m => ?_⟩
    · rcases List.mem_cons.mp m with rfl | m
      · exact ea
      · exact pu u m
    · rcases List.mem_cons.mp m with rfl | m
      · exact ⟨b1, b2⟩
      · exact lt u m
def spIsRight (K : PySem.W.Frag) (Cs : List Addr) : Sp := fun vs H Q _ => ∃ (l : Addr) (n : Nat) (ts : List Prt) (th : V), vs = [.ref l, .int (n : Int), th] ∧ 1 ≤ n ∧ n ≤ 8 ∧ H l = some (.lst (rfs ts)) ∧ PrtsIn n H ts ∧ ts.length ≤ 4 ∧ ThT K Cs H th ∧ ∀ H', Same H H' → Q (.bl (judged n (mps ts) H th)) H'
section
variable {P : Program} {w : World} {K : PySem.W.Frag} {mg : Str → Option Value} {base : Heap} {Cs : List Addr}
abbrev s_isr : Stmt := top 81
abbrev nIr : List Str := ["_law_parts", "_law_size", "_law_thing", "_law_pair", "_law_s", "_law_t", "_law_top", "_law_led"]
theorem sc_isr : FnScope nIr ["_law_parts", "_law_size", "_law_thing"] (defScope s_isr) := ⟨rfl, rfl, rfl, by decide +kernel, rfl, by decide +kernel, by decide +kernel⟩
theorem ok_isr {f : Addr} {fd : FuncData} (F : Fun K "_law_is_right" "_law_is_right" s_isr f fd) (T : Bm mg) (I : InsL K Cs) (c_ip : Cal P w K mg base 2 "_law_is_pair" ["_law_size", "_law_thing"] (spIp3 K Cs)) : FnOk P w K mg base CX0 3 f fd ["_law_parts", "_law_size", "_law_thing"] (spIsRight K Cs) := by
  refine F.ok sc_isr (fun vs H Q E h => ?_) (fun cdv A outer s H vs Q E hr h => ?_)
  · obtain ⟨l, n, ts, th, rfl, _⟩ := h
    rfl
  · obtain ⟨l, n, ts, th, rfl, n1, n8, el, pi, t4, ht, k⟩ := h
    refine ⟨_, (pss_cons (ps_if (PW.pt (pw_or (pt_not (pt_val (pe_callB call_isi (by rfl) T.b.n_isinstance (by decide +kernel) (pa_cons (pv 2) (pa_cons (pe_bltn (v := .ty "tuple") rfl T.n_tuple (by decide +kernel) rfl) pa_nil))))) (pw_or1 (pt_cmpR op_eq (pe_callB call_len_seq (by rfl) T.b.n_len PySem.boot_len (pa_cons (pv 2) pa_nil)) pe_int (nomark _)))))
        (pss_one (ps_ret pe_bl))
        pss_nil)
      (pss_cons (ps_for PassesOwn.never rfl (pi_tup (pv 2)) (pg_name (i := 3) sc_isr.nd rfl (Or.inl rfl))
        (pss_one (ps_if (PW.pt (pw_or (pt_not (pt_val (pe_cal c_ip (hr.mono (by decide)) rfl (pa_cons (pv 1) (pa_cons (pv 3) pa_nil))))) (pw_or1 (pt_cmpR op_eq (pe_ix ix_tup (pv 3) pe_int (fun _ _ => rfl)) (pe_ix ix_tup (pv 3) pe_int (fun _ _ => rfl)) (nomark _)))))
            (pss_one (ps_ret pe_bl))
            pss_nil)))
      (pss_cons (ps_for PassesOwn.never rfl (pi_tup (pv 2)) (pg_tup (by rfl) (pgs_cons (pg_name (i := 4) sc_isr.nd rfl (Or.inr rfl)) (pgs_cons (pg_name (i := 5) sc_isr.nd rfl (Or.inr rfl)) pgs_nil)))
        (pss_one (ps_if (pt_not (pt_val (pe_callB (cr_all rfl) (by rfl) T.n_all PyProof.Rows.boot_all (pa_cons (pe_lc (own := [("_law_top", 6), ("_law_led", 7)]) (g := gTup K 2 (gCons (gName 6) (gCons (gName 7) gNil))) rfl sc_isr.nd (pi_list (pv 0)) (blkOk_by (N := nIr) (sc := defScope s_isr) (by decide +kernel)) (fun _ _ _ _ _ => (pg_tup (by rfl) (pgs_cons (pg_name (i := 6) sc_isr.nd rfl (Or.inl rfl)) (pgs_cons (pg_name (i := 7) sc_isr.nd rfl (Or.inl rfl)) pgs_nil)))) (fun _ _ _ _ _ => pts_nil)
            (fun _ _ _ _ _ => (pe_or (pe_cmpR (show OpR _ _ (rInDT K) from op_inDT (by exact un65 hr)) (pe_tup (pa_cons (pe_ix (show IxR _ (rIxT K) from ix_tup) (pv 7) (pv 4) (fun _ _ => rfl)) (pa_cons (pe_ix (show IxR _ (rIxT K) from ix_tup) (pv 7) (pv 5) (fun _ _ => rfl)) pa_nil))) (pv 2) (by rfl))
              (pe_one (pe_cmpR (show OpR _ _ (rInDT K) from op_inDT (by exact un65 hr)) (pe_tup (pa_cons (pe_ix (show IxR _ (rIxT K) from ix_tup) (pv 7) (pv 5) (fun _ _ => rfl)) (pa_cons (pe_ix (show IxR _ (rIxT K) from ix_tup) (pv 7) (pv 4) (fun _ _ => rfl)) pa_nil))) (pv 2) (by rfl)))))) pa_nil))))
            (pss_one (ps_ret pe_bl))
            pss_nil)))
      (pss_one (ps_ret pe_bl))))), ?_⟩
    have lw : (mps ts).length = ts.length := List.length_map _
    have mw := mps_maps pi
    obtain ⟨ty, hty, _, _, k3⟩ := ht.1.is I
    refine ⟨_, rfl, th, .ty "tuple", ty, _, _, rfl, .ty _, hty, k3, _, rfl, ?_⟩
    cases et : tupAt H th with
    | none =>
      have : judged n (mps ts) H th = false := by unfold judged; rw [et]
      rw [this] at k
      exact iteT (k H (Same.refl H))
    | some xs =>
      obtain ⟨l200, it⟩ := ht.2 xs et
      obtain ⟨ta, rfl, eta⟩ := tupAt_at et
      refine iteF ?_
      refine ⟨_, rfl, ta, xs, rfl, .inr (SqT.of eta), rfl, _, rfl, ite2 (fun z => ?_) (fun z => ?_)⟩
      · have z := of_decide_eq_true z
        rw [V.int.injEq] at z
        have : judged n (mps ts) H (.ref ta) = false := by
          unfold judged
          rw [et]
          obtain rfl : xs = [] := List.eq_nil_of_length_eq_zero (by omega)
          rfl
        rw [this] at k
        exact k H (Same.refl H)
      have l1 : 1 ≤ xs.length := by
        have : xs.length ≠ 0 := fun e => z (decide_eq_true (by rw [e]; rfl))
        omega
      have bad : judged n (mps ts) H (.ref ta) = false → Q (.bl false) H := fun e => by
        rw [e] at k
        exact k H (Same.refl H)
      refine ⟨_, rfl, ta, rfl, ⟨_, SqT.of eta⟩, ?_⟩
      refine for_it (walk_tup (K := K) (a := ta) (xs := xs)) (fun i σ H' => H' = H ∧ ∃ v3, σ = [some (.ref l), some (.int (n : Int)), some (.ref ta), v3, none, none, none, none] ∧ ∀ y ∈ xs.take i, ∃ p, prOf H n y = some p ∧ p.1 ≠ p.2) ⟨rfl, none, rfl, fun _ m => by simp at m⟩ (fun i σ H' _ h => by rw [h.1]; exact SqT.of eta) ?_ ?_
      · rintro i y σ H'' H' hi ⟨e1, v3, rfl, al⟩ ⟨e2, hy⟩
        rw [e2, e1]
        have my := List.mem_of_getElem? hy
        obtain ⟨i1', i2'⟩ := it y my
        refine ⟨_, rfl, _, rfl, (n : Int), y, rfl, i1', i2', ?_⟩
        rw [ixp_prOf]
        cases hp : prOf H n y with
        | none => exact ⟨_, rfl, iteT (bad (judged_no1 et my hp))⟩
        | some p =>
          obtain ⟨a, rfl, ea, b1, b2⟩ := prOf_some hp
          refine ⟨_, rfl, iteF ?_⟩
          refine ⟨_, rfl, a, prV p, 0, _, rfl, rfl, SqT.of ea, at0, _, rfl, a, prV p, 1, _, rfl, rfl, SqT.of ea, at1, rfl, _, rfl, ite2 (fun z => ?_) (fun z => ?_)⟩
          · have z := of_decide_eq_true z
            rw [V.int.injEq] at z
            exact bad (judged_no2 et my hp (by omega))
          · refine ⟨rfl, _, rfl, fun y m => ?_⟩
            rw [take_more hy] at m
            rcases List.mem_append.mp m with m | m
            · exact al y m
            · rw [List.mem_singleton.mp m]
              exact ⟨p, hp, fun e => z (decide_eq_true (by rw [e]))⟩
      · rintro σ H' ⟨e, v3, rfl, al⟩
        rw [e]
        rw [List.take_length] at al
        obtain ⟨us, rfl, pu, lt⟩ := items_pts (fun y m => let ⟨p, h, _⟩ := al y m; ⟨p, h⟩)
        rw [rfs_len] at l1 l200
        have nes : (us.map (·.2)).all (fun p => !decide (p.1 = p.2)) = true := by
          rw [List.all_eq_true]
          intro p m
          obtain ⟨u, mu, rfl⟩ := List.mem_map.mp m
          obtain ⟨q, h1, h2⟩ := al (.ref u.1) (List.mem_map_of_mem (f := fun t : Pt => V.ref t.1) mu)
          rw [prOf_of (pu u mu) (lt u mu).1 (lt u mu).2] at h1
          cases h1
          rw [decide_eq_false h2]
          rfl
        rw [judged_pts et pu lt l1, clB_goes, nes, Bool.true_and] at k
        refine ⟨_, rfl, ta, rfl, ⟨_, SqT.of eta⟩, ?_⟩
        refine for_it (walk_tup (K := K) (a := ta) (xs := rfs us)) (fun j σ H' => Same H H' ∧ ∃ v3 v4 v5 v6 v7, σ = [some (.ref l), some (.int (n : Int)), some (.ref ta), v3, v4, v5, v6, v7] ∧ ((us.take j).map (·.2)).all (goesB (mps ts) (us.map (·.2))) = true) ⟨Same.refl H, _, _, _, _, _, rfl, rfl⟩ (fun j σ H' _ h => SqT.of (h.1 _ _ eta)) ?_ ?_
        · rintro j y σ H1' H1 hj ⟨s1, v3, v4, v5, v6, v7, rfl, al1⟩ ⟨rfl, hy⟩
          obtain ⟨u, hu, mu, rfl⟩ := rfs_at hy
          have jl := (List.getElem?_eq_some_iff.mp hu).1
          have un := lt u mu
          have pu1 := pu.same s1
          have el1 := s1 _ _ el
          refine ⟨u.1, prV u.2, rfl, SqT.of (pu1 u mu), rfl, _, _, rfl, _, _, rfl, rfl, ?_⟩
          refine ⟨_, rfl, l, rfl, ⟨_, SqL.of el1⟩, fun G nG => ?_⟩
          let rowG : List Bool := (List.range (mps ts).length).map fun a => decide ((mA (mps ts) a u.2.1, mA (mps ts) a u.2.2) ∈ us.map (·.2)) || decide ((mA (mps ts) a u.2.2, mA (mps ts) a u.2.1) ∈ us.map (·.2))
          have lrow : rowG.length = ts.length := by show ((List.range (mps ts).length).map _).length = _; rw [List.length_map, List.length_range, lw]
          refine lc_list (K := K) (a := l) (xs := rfs ts) (fun m H' => Same H1 H' ∧ H' G = some (.lst ((rowG.take m).map V.bl))) ⟨Same.put nG, upd_same⟩ (fun m H' _ h => SqL.of (h.1 _ _ el1)) ?_ ?_
          · rintro m y H2 hy2 ⟨s2, eG⟩
            obtain ⟨tp, ht2, mt, rfl⟩ := rfs_at hy2
            have ml := (List.getElem?_eq_some_iff.mp ht2).1
            have pt := ((pi tp mt).same s1).same s2
            have g1 := cV_at (mps_at pi ht2 un.1)
            have g2 := cV_at (mps_at pi ht2 un.2)
            have eth2 := s2 _ _ (s1 _ _ eta)
            have pu2 := pu1.same s2
            have jr : rowG[m]? = some (decide ((mA (mps ts) m u.2.1, mA (mps ts) m u.2.2) ∈ us.map (·.2)) || decide ((mA (mps ts) m u.2.2, mA (mps ts) m u.2.1) ∈ us.map (·.2))) := by
              show ((List.range (mps ts).length).map _)[m]? = _
              rw [List.getElem?_map, List.getElem?_range (by omega)]
              rfl
            have app : ∀ (H3 : Hp) (c : Bool), Same H2 H3 → (decide ((mA (mps ts) m u.2.1, mA (mps ts) m u.2.2) ∈ us.map (·.2)) || decide ((mA (mps ts) m u.2.2, mA (mps ts) m u.2.1) ∈ us.map (·.2))) = c → ∃ acc, H3 G = some (.lst acc) ∧ acc.length < sizeLine ∧ Same H1 (upd H3 G (.lst (acc ++ [V.bl c]))) ∧ (upd H3 G (.lst (acc ++ [V.bl c]))) G = some (.lst ((rowG.take (m + 1)).map V.bl)) := fun H3 c s3 hc => by
              refine ⟨_, s3 _ _ eG, by rw [List.length_map, List.length_take]; exact small_len (by omega), Same.but (fun b o e => s3 _ _ (s2 _ _ e)) nG, ?_⟩
              rw [upd_same, take_more jr, List.map_append, hc]
              rfl
            generalize mA (mps ts) m u.2.1 = q1 at g1 app
            generalize mA (mps ts) m u.2.2 = q2 at g2 app
            refine ⟨tp.1, _, rfl, SqT.of pt.1, rfl, _, _, rfl, _, _, rfl, rfl, rfl, yes_of ?_⟩
            refine ⟨_, rfl, _, rfl, tp.2.2.1, _, _, _, rfl, rfl, SqT.of pt.2.1.1, atI_nat g1, _, rfl, _, rfl, tp.2.2.1, _, _, _, rfl, rfl, SqT.of pt.2.1.1, atI_nat g2, by show 2 ≤ sizeLine; decide, fun b nb => ?_⟩
            have sb := Same.put (o := .tup (prV (q1, q2))) nb
            refine ⟨_, rfl, dI (iW (pN (q1, q2))), _, dp_tupN (ws := pN (q1, q2)) (SqT.of upd_same), .tup (SqT.of (sb _ _ eth2)) (Pts.dp (pu2.same sb)), sh_dI _, sh_tup _, ?_⟩
            rw [any_dP]
            by_cases c1 : (q1, q2) ∈ us.map (·.2)
            · rw [decide_eq_true c1]
              exact ⟨_, rfl, iteT (app _ true sb (by rw [decide_eq_true c1]; rfl))⟩
            · rw [decide_eq_false c1]
              refine ⟨_, rfl, iteF ?_⟩
              refine ⟨_, rfl, _, rfl, tp.2.2.1, _, _, _, rfl, rfl, SqT.of (sb _ _ pt.2.1.1), atI_nat g2, _, rfl, _, rfl, tp.2.2.1, _, _, _, rfl, rfl, SqT.of (sb _ _ pt.2.1.1), atI_nat g1, by show 2 ≤ sizeLine; decide, fun c nc => ?_⟩
              have sc := Same.put (o := .tup (prV (q2, q1))) nc
              refine ⟨_, rfl, dI (iW (pN (q2, q1))), _, dp_tupN (ws := pN (q2, q1)) (SqT.of upd_same), .tup (SqT.of (sc _ _ (sb _ _ eth2))) (Pts.dp ((pu2.same sb).same sc)), sh_dI _, sh_tup _, ?_⟩
              rw [any_dP]
              exact app _ _ (sb.trans sc) (by rw [decide_eq_false c1, Bool.false_or])
          · rintro H2 ⟨s2, eG⟩
            rw [rfs_len, ← lrow, List.take_length] at eG
            refine ⟨G, _, rfl, SqL.of eG, _, rfl, ?_⟩
            have er : rowG.all id = goesB (mps ts) (us.map (·.2)) u.2 := by
              unfold goesB
              show ((List.range (mps ts).length).map _).all id = _
              rw [List.all_map]
              rfl
            rw [er]
            have s02 := s1.trans s2
            cases hg : goesB (mps ts) (us.map (·.2)) u.2 with
            | false =>
              have : (us.map (·.2)).all (goesB (mps ts) (us.map (·.2))) = false := by
                rw [List.all_eq_false]
                exact ⟨u.2, List.mem_map_of_mem mu, by rw [hg]; decide⟩
              rw [this] at k
              exact iteT (k H2 s02)
            | true =>
              refine iteF ⟨s02, _, _, _, _, _, rfl, ?_⟩
              rw [take_more hu, List.map_append, List.all_append, al1, Bool.true_and]
              simp [hg]
        · rintro σ H1 ⟨s1, v3, v4, v5, v6, v7, rfl, al1⟩
          rw [rfs_len, List.take_length] at al1
          rw [al1] at k
          exact k H1 s1
end
end KG
set_option Elab.async false
set_option linter.all false
set_option maxRecDepth 100000
set_option maxHeartbeats 4000000
namespace KG
open PySem L2
theorem sl_any {K : PySem.W.Frag} {H : Hp} {Q : VK} {a : Addr} {xs : List V} {lo hi : Option Int} (e : H a = some (.tup xs)) (k : ∀ (p : Addr) (H' : Hp), Same H H' → H' p = some (.tup (cutV xs lo hi)) → Q (.ref p) H') : rSlA K (.ref a) lo hi H Q := by
  refine ⟨a, xs, rfl, SqT.of e, fun h => ?_, fun _ p np => k p _ (Same.put np) upd_same⟩
  have : cutV xs lo hi = xs := by
    unfold cutV
    rw [h.1, h.2, List.drop_zero, Nat.sub_zero, List.take_length]
  exact k a H (Same.refl H) (by rw [this]; exact e)
theorem cat_any {K : PySem.W.Frag} {H : Hp} {Q : VK} {a b : Addr} {xs ys : List V} (ea : H a = some (.tup xs)) (eb : H b = some (.tup ys)) (l : xs.length + ys.length ≤ sizeLine) (k : ∀ (p : Addr) (H' : Hp), Same H H' → H' p = some (.tup (xs ++ ys)) → Q (.ref p) H') : rCatA K (.ref a) (.ref b) H Q := by
  refine ⟨a, b, xs, ys, rfl, rfl, SqT.of ea, SqT.of eb, l, fun h => ?_, fun h1 h2 => ?_, fun _ _ p np => k p _ (Same.put np) upd_same⟩
  · subst h
    exact k b H (Same.refl H) eb
  · subst h2
    exact k a H (Same.refl H) (by rw [List.append_nil]; exact ea)
theorem cut_to' {xs : List V} {s : Nat} (h : s ≤ xs.length) : cutV xs none (some (s : Int)) = xs.take s := by
  unfold cutV
  rw [HT.sIx_nat, HT.sIx_none, Nat.min_eq_left h]
  rfl
theorem cut_from' {xs : List V} {s : Nat} (h : s ≤ xs.length) : cutV xs (some (s : Int)) none = xs.drop s := by
  unfold cutV
  rw [HT.sIx_nat, HT.sIx_none, Nat.min_eq_left h]
  exact List.take_of_length_le (by rw [List.length_drop]; exact Nat.le_refl _)
/-! ### things that outlive the pool's changes -/
def Tg (K : PySem.W.Frag) (Cs : List Addr) (a : Addr) (H : Hp) (y : V) : Prop := ThL K Cs H y ∧ y ≠ .ref a
def Itm (K : PySem.W.Frag) (Cs : List Addr) (a : Addr) (H : Hp) (y : V) : Prop := Tg K Cs a H y ∧ ∀ xs, tupAt H y = some xs → ∀ z ∈ xs, Tg K Cs a H z
def Tng (K : PySem.W.Frag) (Cs : List Addr) (a : Addr) (H : Hp) (x : V) : Prop := Tg K Cs a H x ∧ ∀ xs, tupAt H x = some xs → xs.length ≤ 200 ∧ ∀ y ∈ xs, Itm K Cs a H y
section
variable {K : PySem.W.Frag} {Cs : List Addr} {a : Addr} {H H' : Hp} {y : V}
theorem ref_ne {b : Addr} (h : (V.ref b) ≠ .ref a) : b ≠ a := fun z => h (by rw [z])
theorem Tg.keep (h : Tg K Cs a H y) (k : Keep a H H') : Tg K Cs a H' y := by
  obtain ⟨h, n⟩ := h
  refine ⟨?_, n⟩
  cases h with
  | fo h =>
    cases h with
    | non => exact .fo .non
    | bl b => exact .fo (.bl b)
    | int i => exact .fo (.int i)
    | str x => exact .fo (.str x)
    | lst e => exact .fo (.lst (k _ _ e (ref_ne n)))
    | tup e => exact .fo (.tup (k _ _ e (ref_ne n)))
    | dK e => exact .fo (.dK (k _ _ e (ref_ne n)))
  | dT e => exact .dT (k _ _ e (ref_ne n))
  | ins m e => exact .ins m (k _ _ e (ref_ne n))
theorem Tg.tupAt_keep (h : Tg K Cs a H y) (k : Keep a H H') : tupAt H' y = tupAt H y := by
  obtain ⟨h, n⟩ := h
  cases h with
  | fo h =>
    cases h with
    | lst e => rw [tupAt_no e (fun _ z => by cases z), tupAt_no (k _ _ e (ref_ne n)) (fun _ z => by cases z)]
    | tup e => rw [tupAt_of e, tupAt_of (k _ _ e (ref_ne n))]
    | dK e => rw [tupAt_no e (fun _ z => by cases z), tupAt_no (k _ _ e (ref_ne n)) (fun _ z => by cases z)]
    | _ => rfl
  | dT e => rw [tupAt_no e (fun _ z => by cases z), tupAt_no (k _ _ e (ref_ne n)) (fun _ z => by cases z)]
  | ins m e => rw [tupAt_no e (fun _ z => by cases z), tupAt_no (k _ _ e (ref_ne n)) (fun _ z => by cases z)]
theorem Itm.keep (h : Itm K Cs a H y) (k : Keep a H H') : Itm K Cs a H' y := ⟨h.1.keep k, fun xs e z m => (h.2 xs (by rw [← h.1.tupAt_keep k]; exact e) z m).keep k⟩
theorem Tng.keep (h : Tng K Cs a H y) (k : Keep a H H') : Tng K Cs a H' y := ⟨h.1.keep k, fun xs e => let ⟨l, it⟩ := h.2 xs (by rw [← h.1.tupAt_keep k]; exact e); ⟨l, fun z m => (it z m).keep k⟩⟩
theorem Tng.tht (h : Tng K Cs a H y) : ThT K Cs H y := ⟨h.1.1, fun xs e => let ⟨l, it⟩ := h.2 xs e; ⟨l, fun z m => ⟨(it z m).1.1, fun ws ez u mu => ((it z m).2 ws ez u mu).1⟩⟩⟩
theorem tg_fo {T : String} (h : Fo K H y T) (n : y ≠ .ref a) : Tg K Cs a H y := ⟨.fo h, n⟩
theorem tg_int (i : Int) : Tg K Cs a H (.int i) := tg_fo (.int i) (fun z => by cases z)
theorem tg_bl (b : Bool) : Tg K Cs a H (.bl b) := tg_fo (.bl b) (fun z => by cases z)
theorem tg_non : Tg K Cs a H .non := tg_fo .non (fun z => by cases z)
theorem tg_str (x : Str) : Tg K Cs a H (.str x) := tg_fo (.str x) (fun z => by cases z)
theorem tg_tup {b : Addr} {xs : List V} (hp : PoolAt H a) (e : H b = some (.tup xs)) : Tg K Cs a H (.ref b) := tg_fo (.tup e) (fun z => hp.ne e (V.ref.inj z))
theorem tg_lst {b : Addr} {xs : List V} (n : b ≠ a) (e : H b = some (.lst xs)) : Tg K Cs a H (.ref b) := tg_fo (.lst e) (fun z => n (V.ref.inj z))
theorem tg_ins {C b dx : Addr} {fs : List (Str × V)} (hp : PoolAt H a) (m : C ∈ Cs) (e : H b = some (.ins C dx fs)) : Tg K Cs a H (.ref b) := ⟨.ins m e, fun z => hp.nei e (V.ref.inj z)⟩
theorem itm_flat (h : Tg K Cs a H y) (e : tupAt H y = none) : Itm K Cs a H y := ⟨h, fun xs q => by rw [e] at q; cases q⟩
theorem itm_tup {b : Addr} {zs : List V} (hp : PoolAt H a) (e : H b = some (.tup zs)) (h : ∀ z ∈ zs, Tg K Cs a H z) : Itm K Cs a H (.ref b) := ⟨tg_tup hp e, fun xs q => by rw [tupAt_of e] at q; cases q; exact h⟩
theorem itm_two {b : Addr} {u v : V} (hp : PoolAt H a) (e : H b = some (.tup [u, v])) (h1 : Tg K Cs a H u) (h2 : Tg K Cs a H v) : Itm K Cs a H (.ref b) := itm_tup hp e fun z m => by
  rcases List.mem_cons.mp m with rfl | m
  · exact h1
  · rw [List.mem_singleton.mp m]; exact h2
theorem itm_pr {b : Addr} {p : Nat × Nat} (hp : PoolAt H a) (e : H b = some (.tup (prV p))) : Itm K Cs a H (.ref b) := itm_two hp e (tg_int _) (tg_int _)
theorem tng_pts {b : Addr} {us : List Pt} (hp : PoolAt H a) (e : H b = some (.tup (rfs us))) (pu : Pts H us) (l : us.length ≤ 200) : Tng K Cs a H (.ref b) := ⟨tg_tup hp e, fun xs q => by
  rw [tupAt_of e] at q
  cases q
  refine ⟨by rw [rfs_len]; exact l, fun y m => ?_⟩
  obtain ⟨u, mu, rfl⟩ := List.mem_map.mp m
  exact itm_pr hp (pu u mu)⟩
theorem tng_flat (h : Tg K Cs a H y) (e : tupAt H y = none) : Tng K Cs a H y := ⟨h, fun xs q => by rw [e] at q; cases q⟩
theorem tng_tup {b : Addr} {zs : List V} (hp : PoolAt H a) (e : H b = some (.tup zs)) (l : zs.length ≤ 200) (h : ∀ z ∈ zs, Itm K Cs a H z) : Tng K Cs a H (.ref b) := ⟨tg_tup hp e, fun xs q => by rw [tupAt_of e] at q; cases q; exact ⟨l, h⟩⟩
end
/-- an odd thing: None, or an instance -/
def Odd (Cs : List Addr) (H : Hp) (y : V) : Prop := y = .non ∨ ∃ C b dx fs, y = .ref b ∧ C ∈ Cs ∧ H b = some (.ins C dx fs)
theorem Odd.keep {Cs : List Addr} {a : Addr} {H H' : Hp} {y : V} (h : Odd Cs H y) (k : Keep a H H') (p : PoolAt H a) : Odd Cs H' y := by
  rcases h with h | ⟨C, b, dx, fs, h1, m, h2⟩
  · exact .inl h
  · exact .inr ⟨C, b, dx, fs, h1, m, k _ _ h2 (p.nei h2)⟩
theorem Odd.tg {K : PySem.W.Frag} {Cs : List Addr} {a : Addr} {H : Hp} {y : V} (h : Odd Cs H y) (p : PoolAt H a) : Tg K Cs a H y := by
  rcases h with rfl | ⟨C, b, dx, fs, rfl, m, h2⟩
  · exact tg_non
  · exact tg_ins p m h2
theorem Odd.flat {Cs : List Addr} {H : Hp} {y : V} (h : Odd Cs H y) : tupAt H y = none := by
  rcases h with rfl | ⟨C, b, dx, fs, rfl, m, h2⟩
  · rfl
  · exact tupAt_no h2 (fun _ z => by cases z)
def spSpoiled (K : PySem.W.Frag) (Cs : List Addr) : Sp := fun vs H Q _ => ∃ (a t : Addr) (n : Nat) (us : List Pt) (od : V), vs = [.ref a, .ref t, .int (n : Int), od] ∧ PoolAt H a ∧ 1 ≤ n ∧ n ≤ 8 ∧ H t = some (.tup (rfs us)) ∧ Pts H us ∧ us.length ≤ 100 ∧ Odd Cs H od ∧
  ∀ (r : Addr) (xs : List V) (H' : Hp), Keep a H H' → PoolAt H' a → H' r = some (.tup xs) → xs.length ≤ us.length + 1 → (∀ y ∈ xs, Itm K Cs a H' y) → Q (.ref r) H'
section
variable {P : Program} {w : World} {K : PySem.W.Frag} {mg : Str → Option Value} {base : Heap} {Cs : List Addr} {C B : Addr}
abbrev s_spo : Stmt := top 80
abbrev nSpo : List Str := ["_law_pool_here", "_law_pairs_here", "_law_size", "_law_odd", "_law_at", "_law_way", "_law_more"]
theorem sc_spo : FnScope nSpo ["_law_pool_here", "_law_pairs_here", "_law_size", "_law_odd"] (defScope s_spo) := ⟨rfl, rfl, rfl, by decide +kernel, rfl, by decide +kernel, by decide +kernel⟩
abbrev XSp (P : Program) (w : World) (K : PySem.W.Frag) (mg : Str → Option Value) (base : Heap) (f : Addr) (cdv : Value) (A : Around) (outer : List Env) (s : Shared) (H : Hp) (E : XK) : Cx :=
  (cxOf CX0 P w K mg base nSpo "_law_spoiled" (defScope s_spo) f cdv A outer s H E).nox
theorem segSp6 {f : Addr} {cdv : Value} {A : Around} {outer : List Env} {s : Shared} {H : Hp} {E : XK} {Q : VK} :
    ∃ u, PSs (XSp P w K mg base f cdv A outer s H E) ((defBody s_spo).drop 6) u ∧ ∀ (v0 v2 v3 v5 : Option V) (t : Addr) (k : Nat) (mv : V) (xs : List V) (G : Hp), G t = some (.tup xs) → k ≤ xs.length → xs.length ≤ 100 →
      (∀ (r : Addr) (H' : Hp), Same G H' → H' r = some (.tup (xs.take k ++ [mv] ++ xs.drop k)) → Q (.ref r) H') → u { nx := fun _ H' => Q .non H', rt := Q } [v0, some (.ref t), v2, v3, some (.int (k : Int)), v5, some mv] G := by
  refine ⟨_, (pss_one (ps_ret (pe_op op_catA (pe_op op_catA (pe_slice sl_tupA (pv 1) po_none (po_some (pv 4))) (pe_tup (pa_cons (pv 6) pa_nil))) (pe_slice sl_tupA (pv 1) (po_some (pv 4)) po_none)))), ?_⟩
  intro v0 v2 v3 v5 t k mv xs G et kl l100 go
  refine ⟨_, rfl, _, rfl, _, rfl, sl_any et fun p1 H1 s1 e1 => ?_⟩
  rw [cut_to' kl] at e1
  refine ⟨_, rfl, by (show 1 ≤ sizeLine; decide), fun p2 n2 => ?_⟩
  have s2 := Same.put (o := .tup [mv]) n2
  have e2 : (upd H1 p2 (.tup [mv])) p2 = some (.tup [mv]) := upd_same
  have s12 := s1.trans s2
  have e12 := s2 _ _ e1
  generalize (upd H1 p2 (.tup [mv])) = H2 at s12 e12 e2 ⊢
  refine cat_any e12 e2 (by rw [List.length_take]; show _ + 1 ≤ _; exact Nat.le_of_lt (small_len (by omega))) fun p3 H3 s3 e3 => ?_
  have s13 := s12.trans s3
  refine ⟨_, rfl, _, rfl, _, rfl, ?_⟩
  dsimp only [tNoPart]
  refine sl_any (s13 _ _ et) fun p4 H4 s4 e4 => ?_
  rw [cut_from' kl] at e4
  have s14 := s13.trans s4
  refine cat_any (s4 _ _ e3) e4 (by rw [List.length_append, List.length_take, List.length_drop]; show _ + 1 + _ ≤ _; exact Nat.le_of_lt (small_len (by omega))) fun p5 H5 s5 e5 => ?_
  exact go p5 H5 (s14.trans s5) e5
end
end KG
set_option Elab.async false
set_option linter.all false
set_option maxRecDepth 100000
set_option maxHeartbeats 4000000
namespace KG
open PySem L2
section
variable {P : Program} {w : World} {K : PySem.W.Frag} {mg : Str → Option Value} {base : Heap} {Cs : List Addr} {C B : Addr}
theorem segSp4 {f : Addr} {cdv : Value} {A : Around} {outer : List Env} {s : Shared} {H : Hp} {E : XK} {Q : VK} (T : Bm mg) (m : MkT P w K mg base C B) (hC : C ∈ Cs) (c_draw : Cal P w K mg base 1 "_law_draw" ["_law_pool_here", "_law_many"] spDraw) (c_pick : Cal P w K mg base 2 "_law_pick" ["_law_pool_here", "_law_things"] spPickQ) (hr : Room 5 (XSp P w K mg base f cdv A outer s H E).A) :
    ∃ u, PSs (XSp P w K mg base f cdv A outer s H E) ((defBody s_spo).drop 4) u ∧ ∀ (a t : Addr) (n k x : Nat) (od : V) (xs : List V) (G : Hp), PoolAt G a → 1 ≤ n → n ≤ 8 → G t = some (.tup xs) → k ≤ xs.length → xs.length ≤ 100 → Odd Cs G od →
      (∀ (mv : V) (r : Addr) (H' : Hp), Keep a G H' → PoolAt H' a → Itm K Cs a H' mv → H' r = some (.tup (xs.take k ++ [mv] ++ xs.drop k)) → Q (.ref r) H') → u { nx := fun _ H' => Q .non H', rt := Q } [some (.ref a), some (.ref t), some (.int (n : Int)), some od, some (.int (k : Int)), some (.int (x : Int)), none] G := by
  obtain ⟨u, hu6, qu⟩ := segSp6 (P := P) (w := w) (K := K) (mg := mg) (base := base) (f := f) (cdv := cdv) (A := A) (outer := outer) (s := s) (H := H) (E := E) (Q := Q)
  refine ⟨_, (pss_cons (ps_set (i := 6) sc_spo.nd rfl (Or.inl rfl) (pe_tup (pa_cons (pe_cal c_draw (hr.mono (by decide)) rfl (pa_cons (pv 0) (pa_cons (pv 2) pa_nil))) (pa_cons (pe_cal c_draw (hr.mono (by decide)) rfl (pa_cons (pv 0) (pa_cons (pv 2) pa_nil))) pa_nil))))
      (pss_cons (ps_if (pt_cmpR op_eq (pv 5) pe_int (nomark _))
        (pss_one (ps_set (i := 6) sc_spo.nd rfl (Or.inl rfl) (pe_cal c_pick (hr.mono (by decide)) rfl (pa_cons (pv 0) (pa_cons (pe_tup (pa_cons (pe_tup (pa_cons pe_int (pa_cons (pv 2) pa_nil))) (pa_cons (pe_tup (pa_cons (pe_un un_neg pe_int) (pa_cons pe_int pa_nil))) (pa_cons (pe_tup (pa_cons pe_int pa_nil)) (pa_cons (pe_lst (pa_cons pe_int (pa_cons pe_int pa_nil))) (pa_cons pe_non (pa_cons pe_str (pa_cons pe_int (pa_cons (pe_tup (pa_cons pe_int (pa_cons pe_int (pa_cons pe_int pa_nil)))) (pa_cons (pe_tup pa_nil) pa_nil)))))))))) pa_nil)))))
        (pss_one (ps_if (pt_cmpR op_eq (pv 5) pe_int (nomark _))
          (pss_one (ps_set (i := 6) sc_spo.nd rfl (Or.inl rfl) (pe_cal c_pick (hr.mono (by decide)) rfl (pa_cons (pv 0) (pa_cons (pe_tup (pa_cons (pe_tup (pa_cons pe_int (pa_cons pe_bl pa_nil))) (pa_cons (pe_tup (pa_cons pe_bl (pa_cons pe_int pa_nil))) (pa_cons (pe_tup (pa_cons pe_bl (pa_cons (pe_op op_sub (pv 2) pe_int) pa_nil))) (pa_cons (pe_tup (pa_cons pe_int (pa_cons (pe_share1 m (hr.mono (by decide)) rfl (pa_cons pe_int pa_nil)) pa_nil))) (pa_cons (pe_tup (pa_cons pe_int (pa_cons (pv 3) pa_nil))) (pa_cons (pe_tup (pa_cons (pv 3) (pa_cons (pv 3) pa_nil))) (pa_cons (pv 3) pa_nil)))))))) pa_nil)))))
          pss_nil)))
      hu6)), ?_⟩
  intro a t n k x od xs G hp n1 n8 et kl l100 ho go
  have fin : ∀ (mv : V) (H' : Hp) (v5 : Option V), Keep a G H' → PoolAt H' a → Itm K Cs a H' mv → u { nx := fun _ H' => Q .non H', rt := Q } [some (.ref a), some (.ref t), some (.int (n : Int)), some od, some (.int (k : Int)), v5, some mv] H' := fun mv H' v5 k' p' im =>
    qu _ _ _ v5 t k mv xs H' (k' _ _ et (hp.ne et)) kl l100 fun r H2 s2 er => go mv r H2 (k'.trans (Keep.of s2)) (p'.same s2) (im.keep (Keep.of s2)) er
  refine ⟨_, rfl, _, rfl, a, n, rfl, hp, by omega, nsm (by omega), fun y o y0 y1 ho1 => ?_⟩
  obtain ⟨p1, k1⟩ := drawn hp (Keep.refl a G) ho1
  generalize (upd G a o) = H1 at p1 k1 ⊢
  refine ⟨_, rfl, _, rfl, a, n, rfl, p1, by omega, nsm (by omega), fun z o z0 z1 ho2 => ?_⟩
  obtain ⟨p2, k2⟩ := drawn p1 k1 ho2
  generalize (upd H1 a o) = H2 at p2 k2 ⊢
  refine ⟨by show 2 ≤ sizeLine; decide, fun b nb => ?_⟩
  have sb := Same.put (o := .tup [.int y, .int z]) nb
  have eb : (upd H2 b (.tup [.int y, .int z])) b = some (.tup [.int y, .int z]) := upd_same
  have p3 := p2.same sb
  have k3 := k2.trans (Keep.of (a := a) sb)
  show tSeq _ _ _ _ (upd H2 b (.tup [.int y, .int z]))
  generalize (upd H2 b (.tup [.int y, .int z])) = H3 at p3 k3 eb ⊢
  have im0 : Itm K Cs a H3 (.ref b) := itm_two p3 eb (tg_int _) (tg_int _)
  have od3 := ho.keep k3 hp
  refine ⟨_, rfl, rfl, _, rfl, ite2 (fun c5 => ?_) (fun _ => ?_)⟩
  · -- things that are no pairs of states
    refine ⟨_, rfl, _, rfl, by show 2 ≤ sizeLine; decide, fun b1 nb1 => ?_⟩
    have s1 := Same.put (o := .tup [.int 0, .int (n : Int)]) nb1
    refine ⟨_, rfl, by show 2 ≤ sizeLine; decide, fun b2 nb2 => ?_⟩
    have s2 := Same.put (o := .tup [.int (-1), .int 0]) nb2
    refine ⟨by show 1 ≤ sizeLine; decide, fun b3 nb3 => ?_⟩
    have s3 := Same.put (o := .tup [.int 0]) nb3
    refine ⟨by show 2 ≤ sizeLine; decide, fun l4 nl4 => ?_⟩
    have s4 := Same.put (o := .lst [.int 0, .int 1]) nl4
    have l4a := new_ne (((p3.same s1).same s2).same s3) nl4
    refine ⟨by show 3 ≤ sizeLine; decide, fun b8 nb8 => ?_⟩
    have s8 := Same.put (o := .tup [.int 0, .int 1, .int 2]) nb8
    refine ⟨by show 0 ≤ sizeLine; decide, fun b9 nb9 => ?_⟩
    have s9 := Same.put (o := .tup []) nb9
    refine ⟨by show 9 ≤ sizeLine; decide, fun tt ntt => ?_⟩
    have st := Same.put (o := .tup [.ref b1, .ref b2, .ref b3, .ref l4, .non, .str "01", .int 0, .ref b8, .ref b9]) ntt
    have s49 := ((s4.trans s8).trans s9).trans st
    have p9 := ((((((p3.same s1).same s2).same s3).same s4).same s8).same s9).same st
    refine ⟨a, tt, _, rfl, p9, .inr upd_same, p9.ne upd_same, by show 0 < 9; decide, by show 9 ≤ 200; decide, fun v o mv ho3 => ?_⟩
    refine fin v _ _ ((k3.trans (Keep.of (((s1.trans s2).trans s3).trans s49))).trans (Keep.put o)) (.put ho3) (Itm.keep ?_ (Keep.put o))
    have e1 := s49 _ _ (s3 _ _ (s2 _ _ (show (upd H3 b1 (.tup [.int 0, .int (n : Int)])) b1 = some (.tup [.int 0, .int (n : Int)]) from upd_same)))
    have e2 := s49 _ _ (s3 _ _ (show (upd (upd H3 b1 (.tup [.int 0, .int (n : Int)])) b2 (.tup [.int (-1), .int 0])) b2 = some (.tup [.int (-1), .int 0]) from upd_same))
    have e3 := s49 _ _ (show (upd (upd (upd H3 b1 (.tup [.int 0, .int (n : Int)])) b2 (.tup [.int (-1), .int 0])) b3 (.tup [.int 0])) b3 = some (.tup [.int 0]) from upd_same)
    have e4 := st _ _ (s9 _ _ (s8 _ _ (show (upd (upd (upd (upd H3 b1 (.tup [.int 0, .int (n : Int)])) b2 (.tup [.int (-1), .int 0])) b3 (.tup [.int 0])) l4 (.lst [.int 0, .int 1])) l4 = some (.lst [.int 0, .int 1]) from upd_same)))
    have e8 := st _ _ (s9 _ _ (show (upd (upd (upd (upd (upd H3 b1 (.tup [.int 0, .int (n : Int)])) b2 (.tup [.int (-1), .int 0])) b3 (.tup [.int 0])) l4 (.lst [.int 0, .int 1])) b8 (.tup [.int 0, .int 1, .int 2])) b8 = some (.tup [.int 0, .int 1, .int 2]) from upd_same))
    have e9 := st _ _ (show (upd (upd (upd (upd (upd (upd H3 b1 (.tup [.int 0, .int (n : Int)])) b2 (.tup [.int (-1), .int 0])) b3 (.tup [.int 0])) l4 (.lst [.int 0, .int 1])) b8 (.tup [.int 0, .int 1, .int 2])) b9 (.tup [])) b9 = some (.tup []) from upd_same)
    have allI : ∀ (zs : List Int) (q : V) (G : Hp), q ∈ zs.map V.int → Tg K Cs a G q := fun zs q G mq => by
      obtain ⟨i, _, rfl⟩ := List.mem_map.mp mq
      exact tg_int i
    rcases List.mem_cons.mp mv with rfl | mv
    · exact itm_tup p9 e1 fun q mq => allI [0, (n : Int)] q _ mq
    rcases List.mem_cons.mp mv with rfl | mv
    · exact itm_tup p9 e2 fun q mq => allI [-1, 0] q _ mq
    rcases List.mem_cons.mp mv with rfl | mv
    · exact itm_tup p9 e3 fun q mq => allI [0] q _ mq
    rcases List.mem_cons.mp mv with rfl | mv
    · exact itm_flat (tg_lst l4a e4) (tupAt_no e4 (fun _ z => by cases z))
    rcases List.mem_cons.mp mv with rfl | mv
    · exact itm_flat tg_non rfl
    rcases List.mem_cons.mp mv with rfl | mv
    · exact itm_flat (tg_str _) rfl
    rcases List.mem_cons.mp mv with rfl | mv
    · exact itm_flat (tg_int _) rfl
    rcases List.mem_cons.mp mv with rfl | mv
    · exact itm_tup p9 e8 fun q mq => allI [0, 1, 2] q _ mq
    rw [List.mem_singleton.mp mv]
    exact itm_tup p9 e9 fun q mq => by cases mq
  · refine ⟨_, rfl, rfl, _, rfl, ite2 (fun c6 => ?_) (fun _ => ?_)⟩
    · -- pairs with an odd thing
      refine ⟨_, rfl, by show 2 ≤ sizeLine; decide, fun b1 nb1 => ?_⟩
      have s1 := Same.put (o := .tup [.int 0, .bl true]) nb1
      refine ⟨by show 2 ≤ sizeLine; decide, fun b2 nb2 => ?_⟩
      have s2 := Same.put (o := .tup [.bl true, .int 0]) nb2
      refine ⟨_, rfl, _, _, rfl, rfl, by show 2 ≤ sizeLine; decide, fun b3 nb3 => ?_⟩
      have s3 := Same.put (o := .tup [.bl false, .int ((n : Int) - 1)]) nb3
      refine fun z dz hz hd ne => si_ok hz hd ne (a := 1) (b := 1) (by decide) (by decide +kernel) fun H4 s4 e4 => ⟨rfl, by show 2 ≤ sizeLine; decide, fun b4 nb4 => ?_⟩
      have s5 := Same.put (o := .tup [.int 0, .ref z]) nb4
      refine ⟨_, rfl, by show 2 ≤ sizeLine; decide, fun b5 nb5 => ?_⟩
      have s6 := Same.put (o := .tup [.int 0, od]) nb5
      refine ⟨_, rfl, _, rfl, by show 2 ≤ sizeLine; decide, fun b6 nb6 => ?_⟩
      have s7 := Same.put (o := .tup [od, od]) nb6
      refine ⟨_, rfl, by show 7 ≤ sizeLine; decide, fun tt ntt => ?_⟩
      have st := Same.put (o := .tup [.ref b1, .ref b2, .ref b3, .ref b4, .ref b5, .ref b6, od]) ntt
      have s13 := (s1.trans s2).trans s3
      have s58 := ((s5.trans s6).trans s7).trans st
      have p9 := (((p3.same s13).same s4).same s58)
      have od9 := ((od3.keep (Keep.of (a := a) s13) p3).keep (Keep.of (a := a) s4) (p3.same s13)).keep (Keep.of (a := a) s58) ((p3.same s13).same s4)
      refine ⟨a, tt, _, rfl, p9, .inr upd_same, p9.ne upd_same, by show 0 < 7; decide, by show 7 ≤ 200; decide, fun v o mv ho3 => ?_⟩
      refine fin v _ _ ((k3.trans (Keep.of ((s13.trans s4).trans s58))).trans (Keep.put o)) (.put ho3) (Itm.keep ?_ (Keep.put o))
      have e1 := s58 _ _ (s4 _ _ (s3 _ _ (s2 _ _ (show (upd H3 b1 (.tup [.int 0, .bl true])) b1 = some (.tup [.int 0, .bl true]) from upd_same))))
      have e2 := s58 _ _ (s4 _ _ (s3 _ _ (show (upd (upd H3 b1 (.tup [.int 0, .bl true])) b2 (.tup [.bl true, .int 0])) b2 = some (.tup [.bl true, .int 0]) from upd_same)))
      have e3 := s58 _ _ (s4 _ _ (show (upd (upd (upd H3 b1 (.tup [.int 0, .bl true])) b2 (.tup [.bl true, .int 0])) b3 (.tup [.bl false, .int ((n : Int) - 1)])) b3 = some (.tup [.bl false, .int ((n : Int) - 1)]) from upd_same))
      have ez := s58 _ _ e4
      have e5 := st _ _ (s7 _ _ (s6 _ _ (show (upd H4 b4 (.tup [.int 0, .ref z])) b4 = some (.tup [.int 0, .ref z]) from upd_same)))
      have e6 := st _ _ (s7 _ _ (show (upd (upd H4 b4 (.tup [.int 0, .ref z])) b5 (.tup [.int 0, od])) b5 = some (.tup [.int 0, od]) from upd_same))
      have e7 := st _ _ (show (upd (upd (upd H4 b4 (.tup [.int 0, .ref z])) b5 (.tup [.int 0, od])) b6 (.tup [od, od])) b6 = some (.tup [od, od]) from upd_same)
      rcases List.mem_cons.mp mv with rfl | mv
      · exact itm_two p9 e1 (tg_int _) (tg_bl _)
      rcases List.mem_cons.mp mv with rfl | mv
      · exact itm_two p9 e2 (tg_bl _) (tg_int _)
      rcases List.mem_cons.mp mv with rfl | mv
      · exact itm_two p9 e3 (tg_bl _) (tg_int _)
      rcases List.mem_cons.mp mv with rfl | mv
      · exact itm_two p9 e5 (tg_int _) (tg_ins p9 hC ez)
      rcases List.mem_cons.mp mv with rfl | mv
      · exact itm_two p9 e6 (tg_int _) (od9.tg p9)
      rcases List.mem_cons.mp mv with rfl | mv
      · exact itm_two p9 e7 (od9.tg p9) (od9.tg p9)
      rw [List.mem_singleton.mp mv]
      exact itm_flat (od9.tg p9) od9.flat
    · exact fin (.ref b) H3 _ k3 p3 im0
end
end KG
set_option Elab.async false
set_option linter.all false
set_option maxRecDepth 100000
set_option maxHeartbeats 4000000
namespace KG
open PySem L2
section
variable {P : Program} {w : World} {K : PySem.W.Frag} {mg : Str → Option Value} {base : Heap} {Cs : List Addr} {C B : Addr}
theorem ok_spo {f : Addr} {fd : FuncData} (F : Fun K "_law_spoiled" "_law_spoiled" s_spo f fd) (T : Bm mg) (m : MkT P w K mg base C B) (hC : C ∈ Cs) (c_draw : Cal P w K mg base 1 "_law_draw" ["_law_pool_here", "_law_many"] spDraw) (c_pick : Cal P w K mg base 2 "_law_pick" ["_law_pool_here", "_law_things"] spPickQ) : FnOk P w K mg base CX0 6 f fd ["_law_pool_here", "_law_pairs_here", "_law_size", "_law_odd"] (spSpoiled K Cs) := by
  refine F.ok sc_spo (fun vs H Q E h => ?_) (fun cdv A outer s H vs Q E hr h => ?_)
  · obtain ⟨a, t, n, us, od, rfl, _⟩ := h
    rfl
  · obtain ⟨a, t, n, us, od, rfl, hp, n1, n8, et, pu, l100, ho, k⟩ := h
    obtain ⟨u, hu4, qu⟩ := segSp4 (P := P) (w := w) (K := K) (mg := mg) (base := base) (Cs := Cs) (f := f) (cdv := cdv) (A := A) (outer := outer) (s := s) (H := H) (E := E) (Q := Q) T m hC c_draw c_pick hr
    refine ⟨_, (pss_cons (ps_set (i := 4) sc_spo.nd rfl (Or.inl rfl) (pe_cal c_draw (hr.mono (by decide)) rfl (pa_cons (pv 0) (pa_cons (pe_op op_add (pe_callB call_len_seq (by rfl) T.b.n_len PySem.boot_len (pa_cons (pv 1) pa_nil)) pe_int) pa_nil))))
      (pss_cons (ps_set (i := 5) sc_spo.nd rfl (Or.inl rfl) (pe_cal c_draw (hr.mono (by decide)) rfl (pa_cons (pv 0) (pa_cons pe_int pa_nil))))
      (pss_cons (ps_if (PW.pt (pw_and (pt_cmpR op_lt (pv 5) pe_int (nomark _)) (pw_and1 (pt_cmpR op_lt (pv 4) (pe_callB call_len_seq (by rfl) T.b.n_len PySem.boot_len (pa_cons (pv 1) pa_nil)) (nomark _)))))
        (pss_one (ps_ret (pe_op op_catA (pe_slice sl_tupA (pv 1) po_none (po_some (pv 4))) (pe_slice sl_tupA (pv 1) (po_some (pe_op op_add (pv 4) pe_int)) po_none))))
        pss_nil)
      (pss_cons (ps_if (PW.pt (pw_and (pt_cmpR op_lt (pv 5) pe_int (nomark _)) (pw_and1 (pt_cmpR op_lt (pv 4) (pe_callB call_len_seq (by rfl) T.b.n_len PySem.boot_len (pa_cons (pv 1) pa_nil)) (nomark _)))))
        (pss_one (ps_ret (pe_op op_catA (pe_op op_catA (pe_slice sl_tupA (pv 1) po_none (po_some (pv 4))) (pe_tup (pa_cons (pe_tup (pa_cons (pe_ix ix_tup (pe_ix ix_tup (pv 1) (pv 4) (fun _ _ => rfl)) pe_int (fun _ _ => rfl)) (pa_cons (pe_ix ix_tup (pe_ix ix_tup (pv 1) (pv 4) (fun _ _ => rfl)) pe_int (fun _ _ => rfl)) pa_nil))) pa_nil))) (pe_slice sl_tupA (pv 1) (po_some (pe_op op_sub (pe_op op_add (pv 4) (pv 5)) pe_int)) po_none))))
        pss_nil) hu4)))), ?_⟩
    have lx : (rfs us).length = us.length := rfs_len
    have items : ∀ (H' : Hp), Keep a H H' → PoolAt H' a → ∀ y ∈ rfs us, Itm K Cs a H' y := fun H' k' p' y my => by
      obtain ⟨q, mq, rfl⟩ := List.mem_map.mp my
      exact itm_pr p' (k' _ _ (pu q mq) (hp.ne (pu q mq)))
    have tne := hp.ne et
    refine ⟨_, rfl, _, rfl, t, _, rfl, .inr (SqT.of et), _, _, rfl, rfl, a, _, rfl, hp, by rw [lx]; omega, ?_, fun y o y0 y1 ho1 => ?_⟩
    · rw [lx]
      exact nsm (n := us.length + 1) (by omega)
    obtain ⟨p1, k1⟩ := drawn hp (Keep.refl a H) ho1
    generalize (upd H a o) = H1 at p1 k1 ⊢
    obtain ⟨y, rfl⟩ := nat_of y0
    rw [lx] at y1
    have yl : y ≤ us.length := by omega
    refine ⟨_, rfl, a, 7, rfl, p1, by decide, by decide, fun x o x0 x1 ho2 => ?_⟩
    obtain ⟨p2, k2⟩ := drawn p1 k1 ho2
    generalize (upd H1 a o) = H2 at p2 k2 ⊢
    obtain ⟨x, rfl⟩ := nat_of x0
    have et2 := k2 _ _ et tne
    have last := qu a t n y x od (rfs us) H2 p2 n1 n8 et2 (by rw [lx]; exact yl) (by rw [lx]; exact l100) (ho.keep k2 hp) fun mv r H' k' p' im er => by
      have k3 := k2.trans k'
      refine k r _ H' k3 p' er (by rw [List.length_append, List.length_append, List.length_take, List.length_drop, lx]; show _ + 1 + _ ≤ _; omega) fun z mz => ?_
      rcases List.mem_append.mp mz with mz | mz
      · rcases List.mem_append.mp mz with mz | mz
        · exact items H' k3 p' z (List.mem_of_mem_take mz)
        · rw [List.mem_singleton.mp mz]; exact im
      · exact items H' k3 p' z (List.mem_of_mem_drop mz)
    by_cases c2 : y < us.length
    · have len : decide ((y : Int) < ((rfs us).length : Int)) = true := decide_eq_true (by rw [lx]; omega)
      have gy : us[y]? = some us[y] := List.getElem?_eq_getElem c2
      generalize us[y] = q at gy
      have eq := pu q (List.mem_of_getElem? gy)
      by_cases c1 : x < 2
      · refine ⟨_, rfl, (x : Int), 2, rfl, rfl, _, rfl, iteTe (decide_eq_true (by omega)) ?_⟩
        refine ⟨_, rfl, _, rfl, t, _, rfl, .inr (SqT.of et2), (y : Int), _, rfl, rfl, _, rfl, iteTe len ?_⟩
        refine ⟨_, rfl, _, rfl, _, rfl, sl_any et2 fun r1 H3 s3 e3 => ?_⟩
        rw [cut_to' (by rw [lx]; exact yl)] at e3
        refine ⟨_, rfl, _, rfl, _, _, rfl, rfl, _, rfl, ?_⟩
        rw [show ((y : Int) + 1) = ((y + 1 : Nat) : Int) from rfl]
        dsimp only [tNoPart]
        refine sl_any (s3 _ _ et2) fun r2 H4 s4 e4 => ?_
        rw [cut_from' (by rw [lx]; omega)] at e4
        refine cat_any (s4 _ _ e3) e4 (by rw [List.length_take, List.length_drop]; exact Nat.le_of_lt (small_len (by omega))) fun r H5 s5 e5 => ?_
        have s25 := (s3.trans s4).trans s5
        have k5 := k2.trans (Keep.of (a := a) s25)
        refine k r _ H5 k5 (p2.same s25) e5 (by rw [List.length_append, List.length_take, List.length_drop, lx]; omega) fun z mz => ?_
        rcases List.mem_append.mp mz with mz | mz
        · exact items H5 k5 (p2.same s25) z (List.mem_of_mem_take mz)
        · exact items H5 k5 (p2.same s25) z (List.mem_of_mem_drop mz)
      · refine ⟨_, rfl, (x : Int), 2, rfl, rfl, _, rfl, iteFe (decide_eq_false (by omega)) ?_⟩
        by_cases c3 : x < 4
        · refine ⟨_, rfl, (x : Int), 4, rfl, rfl, _, rfl, iteTe (decide_eq_true (by omega)) ?_⟩
          refine ⟨_, rfl, _, rfl, t, _, rfl, .inr (SqT.of et2), (y : Int), _, rfl, rfl, _, rfl, iteTe len ?_⟩
          refine ⟨_, rfl, _, rfl, _, rfl, sl_any et2 fun r1 H3 s3 e3 => ?_⟩
          rw [cut_to' (by rw [lx]; exact yl)] at e3
          have et3 := s3 _ _ et2
          have gat : atI (rfs us) (y : Int) = some (.ref q.1) := atI_nat (by rw [rfs, List.getElem?_map, gy]; rfl)
          have eq3 := s3 _ _ (k2 _ _ eq (hp.ne eq))
          refine ⟨_, rfl, _, rfl, t, _, _, _, rfl, rfl, SqT.of et3, gat, q.1, _, 1, _, rfl, rfl, SqT.of eq3, at1, ?_⟩
          refine ⟨_, rfl, _, rfl, t, _, _, _, rfl, rfl, SqT.of et3, gat, q.1, _, 0, _, rfl, rfl, SqT.of eq3, at0, by show 2 ≤ sizeLine; decide, fun b nb => ?_⟩
          have sb := Same.put (o := .tup (prV (q.2.2, q.2.1))) nb
          have eb : (upd H3 b (.tup (prV (q.2.2, q.2.1)))) b = some (.tup (prV (q.2.2, q.2.1))) := upd_same
          have s4 := s3.trans sb
          have e34 := sb _ _ e3
          refine ⟨by show 1 ≤ sizeLine; decide, fun c nc => ?_⟩
          have sc := Same.put (o := .tup [.ref b]) nc
          have s5 := s4.trans sc
          refine cat_any (sc _ _ e34) (show (upd (upd H3 b (.tup (prV (q.2.2, q.2.1)))) c (.tup [.ref b])) c = some (.tup [.ref b]) from upd_same) (by rw [List.length_take]; show _ + 1 ≤ _; exact Nat.le_of_lt (small_len (by omega))) fun r2 H6 s6 e6 => ?_
          have s26 := s5.trans s6
          refine ⟨_, rfl, _, rfl, _, rfl, _, _, rfl, rfl, _, _, rfl, rfl, _, rfl, ?_⟩
          rw [show ((y : Int) + (x : Int) - 2) = ((y + x - 2 : Nat) : Int) by omega]
          dsimp only [tNoPart]
          refine sl_any (s26 _ _ et2) fun r3 H7 s7 e7 => ?_
          rw [cut_from' (by rw [lx]; omega)] at e7
          refine cat_any (s7 _ _ e6) e7 (by rw [List.length_append, List.length_take, List.length_drop]; show _ + 1 + _ ≤ _; exact Nat.le_of_lt (small_len (by omega))) fun r H8 s8 e8 => ?_
          have s28 := (s26.trans s7).trans s8
          have k8 := k2.trans (Keep.of (a := a) s28)
          have p8 := p2.same s28
          refine k r _ H8 k8 p8 e8 (by rw [List.length_append, List.length_append, List.length_take, List.length_drop, lx]; show _ + 1 + _ ≤ _; omega) fun z mz => ?_
          rcases List.mem_append.mp mz with mz | mz
          · rcases List.mem_append.mp mz with mz | mz
            · exact items H8 k8 p8 z (List.mem_of_mem_take mz)
            · rw [List.mem_singleton.mp mz]
              exact itm_pr p8 (s8 _ _ (s7 _ _ (s6 _ _ (sc _ _ eb))))
          · exact items H8 k8 p8 z (List.mem_of_mem_drop mz)
        · exact ⟨_, rfl, (x : Int), 4, rfl, rfl, _, rfl, iteFe (decide_eq_false (by omega)) last⟩
    · have len : decide ((y : Int) < ((rfs us).length : Int)) = false := decide_eq_false (by rw [lx]; omega)
      have second : ∀ (b4 : Int), ∃ b : Bool, True := fun _ => ⟨true, trivial⟩
      by_cases c1 : x < 2
      · refine ⟨_, rfl, (x : Int), 2, rfl, rfl, _, rfl, iteTe (decide_eq_true (by omega)) ?_⟩
        refine ⟨_, rfl, _, rfl, t, _, rfl, .inr (SqT.of et2), (y : Int), _, rfl, rfl, _, rfl, iteFe len ?_⟩
        refine ⟨_, rfl, (x : Int), 4, rfl, rfl, _, rfl, iteTe (decide_eq_true (by omega)) ?_⟩
        exact ⟨_, rfl, _, rfl, t, _, rfl, .inr (SqT.of et2), (y : Int), _, rfl, rfl, _, rfl, iteFe len last⟩
      · refine ⟨_, rfl, (x : Int), 2, rfl, rfl, _, rfl, iteFe (decide_eq_false (by omega)) ?_⟩
        by_cases c3 : x < 4
        · refine ⟨_, rfl, (x : Int), 4, rfl, rfl, _, rfl, iteTe (decide_eq_true (by omega)) ?_⟩
          exact ⟨_, rfl, _, rfl, t, _, rfl, .inr (SqT.of et2), (y : Int), _, rfl, rfl, _, rfl, iteFe len last⟩
        · exact ⟨_, rfl, (x : Int), 4, rfl, rfl, _, rfl, iteFe (decide_eq_false (by omega)) last⟩
end
end KG
set_option Elab.async false
set_option linter.all false
set_option maxRecDepth 100000
set_option maxHeartbeats 4000000
namespace KG
open PySem L2
/-! ### the same maps in another order -/
theorem same_map {w1 w2 : List (List Nat)} (p : w1.Perm w2) {a : Nat} (ha : a < w1.length) : ∃ b, b < w2.length ∧ ∀ s, mA w2 b s = mA w1 a s := by
  have m : w1[a] ∈ w2 := p.mem_iff.mp (List.getElem_mem ha)
  obtain ⟨b, hb, e⟩ := List.getElem_of_mem m
  refine ⟨b, hb, fun s => ?_⟩
  have g1 : w1.getD a [] = w1[a] := by rw [List.getD, List.getElem?_eq_getElem ha]; rfl
  have g2 : w2.getD b [] = w2[b] := by rw [List.getD, List.getElem?_eq_getElem hb]; rfl
  show (w2.getD b []).getD s 0 = (w1.getD a []).getD s 0
  rw [g1, g2, e]
theorem clB_le {w1 w2 : List (List Nat)} (p : w1.Perm w2) {ps : List (Nat × Nat)} (h : clB w1 ps = true) : clB w2 ps = true := by
  unfold clB at h ⊢
  rw [Bool.and_eq_true] at h ⊢
  refine ⟨h.1, ?_⟩
  have h2 := h.2
  rw [List.all_eq_true] at h2 ⊢
  intro q mq
  have h3 := h2 q mq
  rw [List.all_eq_true] at h3 ⊢
  intro a ma
  obtain ⟨b, hb, e⟩ := same_map p.symm (List.mem_range.mp ma)
  have h4 := h3 b (List.mem_range.mpr hb)
  rw [e, e] at h4
  exact h4
theorem clB_perm {w1 w2 : List (List Nat)} (p : w1.Perm w2) (ps : List (Nat × Nat)) : clB w1 ps = clB w2 ps := by
  rw [Bool.eq_iff_iff]
  exact ⟨clB_le p, clB_le p.symm⟩
theorem judged_perm {w1 w2 : List (List Nat)} (p : w1.Perm w2) (n : Nat) (H : Hp) (x : V) : judged n w1 H x = judged n w2 H x := by
  unfold judged
  cases tupAt H x with
  | none => rfl
  | some xs =>
    dsimp only
    rw [clB_perm p]
theorem able_perm {n : Nat} {w1 w2 : List (List Nat)} {S : List (Nat × Nat)} (p : w1.Perm w2) (h : Dw.AbleS n w1.length (mA w1) S) : Dw.AbleS n w2.length (mA w2) S := by
  refine ⟨fun A q B e => ?_, fun q l ln ns a ha => ?_⟩
  · obtain ⟨a, ha, c⟩ := h.rk A q B e
    obtain ⟨b, hb, z⟩ := same_map p ha
    exact ⟨b, hb, by rw [z, z]; exact c⟩
  · obtain ⟨b, hb, z⟩ := same_map p.symm ha
    have c := h.cl q l ln ns b hb
    rw [z, z] at c
    exact c
/-- what is judged to be stuck lies in the greatest closed set -/
theorem judged_due {n : Nat} {wss : List (List Nat)} {H : Hp} {x : V} {L : List (Nat × Nat)} (g : GrL n wss L) (hj : judged n wss H x = true) : ∃ (b : Addr) (us : List Pt), x = .ref b ∧ H b = some (.tup (rfs us)) ∧ Pts H us ∧ (∀ u ∈ us, u.2.1 < n ∧ u.2.2 < n) ∧ ∀ u ∈ us, hf u.2 ∈ L := by
  have hj0 := hj
  unfold judged at hj
  cases e : tupAt H x with
  | none => rw [e] at hj; cases hj
  | some xs =>
    rw [e] at hj
    dsimp only at hj
    rw [Bool.and_eq_true, Bool.and_eq_true] at hj
    obtain ⟨ne, al, _⟩ := hj
    rw [List.all_eq_true] at al
    obtain ⟨us, rfl, pu, lt⟩ := items_pts (H := H) (n := n) (xs := xs) (fun y m => Option.isSome_iff_exists.mp (al y m))
    obtain ⟨b, rfl, eb⟩ := tupAt_at e
    have l1 : 1 ≤ us.length := by
      cases us with
      | nil => cases ne
      | cons u us => rw [List.length_cons]; omega
    rw [judged_pts e pu lt l1] at hj0
    unfold clB at hj0
    rw [Bool.and_eq_true, List.all_eq_true, List.all_eq_true] at hj0
    refine ⟨b, us, rfl, eb, pu, lt, fun u mu => ?_⟩
    refine g.all (C := (us.map (·.2)).map hf) (fun p mp => ?_) (fun p mp a ha => ?_) _ (List.mem_map_of_mem (List.mem_map_of_mem mu))
    · obtain ⟨q, mq, rfl⟩ := List.mem_map.mp mp
      have nq := hj0.1 q mq
      obtain ⟨v, mv, rfl⟩ := List.mem_map.mp mq
      have hv := lt v mv
      rw [Bool.not_eq_true', decide_eq_false_iff_not] at nq
      refine mem_hvs.mpr ?_
      show min v.2.1 v.2.2 < max v.2.1 v.2.2 ∧ max v.2.1 v.2.2 < n
      omega
    · have := hj0.2 p mp
      rw [List.all_eq_true] at this
      exact of_decide_eq_true (this a (List.mem_range.mpr ha))
end KG
set_option Elab.async false
set_option linter.all false
set_option maxRecDepth 100000
set_option maxHeartbeats 4000000
namespace KG
open PySem L2
def spLineI (OC : Addr) : Sp := fun vs H Q _ => ∃ n : Nat, vs = [.int (n : Int)] ∧ 1 ≤ n ∧ n ≤ 8 ∧ ∀ (x dx : Addr) (fs : List (Str × V)) (H' : Hp), Same H H' → H' x = some (.ins OC dx fs) → Q (.ref x) H'
/-! ### the law, from the judging on -/
structure LawT (P : Program) (w : World) (K : PySem.W.Frag) (mg : Str → Option Value) (base : Heap) (Cs : List Addr) (C DC OC CC : Addr) : Prop where
  T : Bm mg
  t : DrT K mg DC
  I : InsL K Cs
  iC : C ∈ Cs
  iD : DC ∈ Cs
  iO : OC ∈ Cs
  iCC : CC ∈ Cs
  mD : MkD P w K mg base C DC
  pool : Cal P w K mg base 1 "_law_pool" ["_law_script"] (spPool K)
  draw : Cal P w K mg base 1 "_law_draw" ["_law_pool_here", "_law_many"] spDraw
  pick : Cal P w K mg base 2 "_law_pick" ["_law_pool_here", "_law_things"] spPickQ
  turn : Cal P w K mg base 2 "_law_turned_about" ["_law_pool_here", "_law_things"] spTurnAbout
  given : Cal P w K mg base 7 "_law_given" ["_law_pool_here", "_law_parts"] (spGiven C)
  gather : Cal P w K mg base 5 "_law_gather_parts" ["_law_pool_here", "_law_size"] spGather
  stuck : Cal P w K mg base 3 "stuck" ["draw"] (spStuck DC)
  iss : Cal P w K mg base 5 "is_stuck" ["draw", "thing"] (spIsStuck K Cs DC)
  lstk : Cal P w K mg base 2 "_law_stuck" ["_law_parts", "_law_size"] spLStuck
  com : Cal P w K mg base 1 "_law_coming" ["_law_parts", "_law_pair", "_law_size"] spComing
  spo : Cal P w K mg base 6 "_law_spoiled" ["_law_pool_here", "_law_pairs_here", "_law_size", "_law_odd"] (spSpoiled K Cs)
  isr : Cal P w K mg base 3 "_law_is_right" ["_law_parts", "_law_size", "_law_thing"] (spIsRight K Cs)
  isp : Cal P w K mg base 2 "_law_is_pair" ["_law_size", "_law_thing"] (spIp3 K Cs)
  line : Cal P w K mg base 7 "line" ["size"] (spLineI OC)
  ledr : Cal P w K mg base 1 "_law_led_rows" ["_law_parts", "_law_size"] spLedRows
  chn : Cal P w K mg base 14 "_law_chain" ["_law_pool_here", "_law_rows"] (spChainP CC)
section
variable {P : Program} {w : World} {K : PySem.W.Frag} {mg : Str → Option Value} {base : Heap} {Cs : List Addr} {C DC OC CC : Addr}
abbrev s_law : Stmt := top 82
abbrev nLw : List Str := ["_law_script", "_law_pool_here", "_law_size", "_law_parts", "_law_draw_here", "_law_due", "_law_told", "_law_pairs_here", "_law_odd", "_law_strange", "_law_things", "_law_turn", "_law_thing", "_law_judged", "_law_pair"]
theorem sc_law : FnScope nLw ["_law_script"] (defScope s_law) := ⟨rfl, rfl, rfl, by decide +kernel, rfl, by decide +kernel, by decide +kernel⟩
abbrev XLw (P : Program) (w : World) (K : PySem.W.Frag) (mg : Str → Option Value) (base : Heap) (f : Addr) (cdv : Value) (A : Around) (outer : List Env) (s : Shared) (H : Hp) (E : XK) : Cx :=
  (cxOf CX0 P w K mg base nLw "law" (defScope s_law) f cdv A outer s H E).nox
/-- the judging -/
theorem segLw17 {f : Addr} {cdv : Value} {A : Around} {outer : List Env} {s : Shared} {H : Hp} {E : XK} {Q : VK} (L : LawT P w K mg base Cs C DC OC CC) (hr : Room 14 (XLw P w K mg base f cdv A outer s H E).A) (k : ∀ H', Q (.bl true) H') :
    ∃ u, PSs (XLw P w K mg base f cdv A outer s H E) ((defBody s_law).drop 17) u ∧ ∀ (v0 v1 v6 v7 v8 v9 v11 v12 v13 v14 : Option V) (x l d g : Addr) (n : Nat) (ps : List Dp3) (ts : List Prt) (us : List Pt) (xs : List V) (G : Hp), 1 ≤ n → n ≤ 8 → IsDraw DC G x n ps → ps.length ≤ 4 → G l = some (.lst (rfs ts)) → PrtsIn n G ts → ts.length ≤ 4 → (mpD ps).Perm (mps ts) → G d = some (.lst (rfs us)) → Pts G us → GrL n (mps ts) (us.map (·.2)) → us.length ≤ 28 → G g = some (.lst xs) → (∀ y ∈ xs, ThT K Cs G y) →
      u { nx := fun _ H' => Q .non H', rt := Q } [v0, v1, some (.int (n : Int)), some (.ref l), some (.ref x), some (.ref d), v6, v7, v8, v9, some (.ref g), v11, v12, v13, v14] G := by
  have h64 := un64 hr
  refine ⟨_, (pss_cons (ps_for PassesOwn.never rfl (pi_list (pv 10)) (pg_name (i := 12) sc_law.nd rfl (Or.inl rfl))
    (pss_cons (ps_set (i := 13) sc_law.nd rfl (Or.inl rfl) (pe_cal L.iss (hr.mono (by decide)) rfl (pa_cons (pv 4) (pa_cons (pv 12) pa_nil))))
      (pss_cons (ps_if (PW.pt (pw_or (pt_not (pt_val (pe_callB call_isi (by rfl) L.T.b.n_isinstance (by decide +kernel) (pa_cons (pv 13) (pa_cons (pe_bltn (v := .ty "bool") rfl L.T.b.n_bool (by decide +kernel) rfl) pa_nil))))) (pw_or1 (pt_cmpR (op_neD (by exact h64)) (pv 13) (pe_cal L.isr (hr.mono (by decide)) rfl (pa_cons (pv 3) (pa_cons (pv 2) (pa_cons (pv 12) pa_nil)))) (nomark _)))))
        (pss_one (ps_ret pe_bl))
        pss_nil)
      (pss_one (ps_if (PW.pt (pw_and (pt_truth (pv 13) (by intro _; rfl)) (pw_and1 (pt_not (pt_val (pe_callB (cr_all rfl) (by rfl) L.T.n_all PyProof.Rows.boot_all (pa_cons (pe_lc (own := [("_law_pair", 14)]) rfl sc_law.nd (pi_tup (pv 12)) (blkOk_by (N := nLw) (sc := defScope s_law) (by decide +kernel)) (fun _ _ _ _ _ => (pg_name (i := 14) sc_law.nd rfl (Or.inl rfl))) (fun _ _ _ _ _ => pts_nil) (fun _ _ _ _ _ => (pe_cmpR (show OpR _ _ (rInD K) from op_inD (by exact un65 hr)) (pe_tup (pa_cons (pe_callB (show CallR _ _ (rMinT K) from cr_minT rfl) (by rfl) L.T.n_min (by decide +kernel) (pa_cons (pv 14) pa_nil)) (pa_cons (pe_callB (show CallR _ _ (rMaxT K) from cr_maxT rfl) (by rfl) L.T.n_max (by decide +kernel) (pa_cons (pv 14) pa_nil)) pa_nil))) (pv 5) (by rfl)))) pa_nil)))))))
        (pss_one (ps_ret pe_bl))
        pss_nil))))) (pss_one (ps_ret pe_bl))), ?_⟩
  intro v0 v1 v6 v7 v8 v9 v11 v12 v13 v14 x l d g n ps ts us xs G n1 n8 dr p4 el pi t4 pm ed pu gr l28 eg th
  refine ⟨_, rfl, g, rfl, ⟨_, SqL.of eg⟩, ?_⟩
  refine for_it (walk_list (K := K) (a := g) (xs := xs)) (fun j σ H' => ∃ (w12 w13 w14 : Option V), σ = [v0, v1, some (.int (n : Int)), some (.ref l), some (.ref x), some (.ref d), v6, v7, v8, v9, some (.ref g), v11, w12, w13, w14] ∧ Same G H')
    ⟨v12, v13, v14, rfl, Same.refl G⟩ (fun j σ H' _ h => by obtain ⟨_, _, _, _, h⟩ := h; exact SqL.of (h _ _ eg)) ?_ ?_
  · rintro j y σ H2' H2 hj ⟨w12, w13, w14, rfl, s2⟩ ⟨rfl, hy⟩
    have ty := (th y (List.mem_of_getElem? hy)).same s2
    refine ⟨_, rfl, _, rfl, x, y, n, ps, rfl, n1, n8, p4, dr.same s2, ty, fun H3 s3 => ?_⟩
    have s03 := s2.trans s3
    have ty3 := ty.same s3
    refine ⟨_, rfl, _, .ty "bool", _, _, true, rfl, .ty _, (Fo.bl _).ty, kit_ty (r := true) (by decide +kernel), _, rfl, iteF ?_⟩
    refine ⟨_, rfl, _, rfl, _, rfl, _, rfl, l, n, ts, y, rfl, n1, n8, s03 _ _ el, pi.same s03, t4, ty3, fun H4 s4 => ?_⟩
    have s04 := s03.trans s4
    rw [judged_perm pm, judged_same ty s3]
    refine ⟨_, _, .bl _, .bl _, rfl, rfl, _, rfl, ?_⟩
    cases hj : judged n (mps ts) H2 y with
    | false =>
      refine iteF ?_
      exact ⟨_, rfl, false, rfl, iteF ⟨_, _, _, rfl, s04⟩⟩
    | true =>
      refine iteF ?_
      refine ⟨_, rfl, true, rfl, iteT ?_⟩
      obtain ⟨b, ws, rfl, eb, pw, lt, mL⟩ := judged_due gr hj
      have l200 := (ty.2 _ (tupAt_of eb)).1
      rw [rfs_len] at l200
      have s24 := s3.trans s4
      have eb4 := s24 _ _ eb
      refine ⟨_, rfl, b, rfl, ⟨_, SqT.of eb4⟩, fun D nD => ?_⟩
      refine lc_tup (K := K) (a := b) (xs := rfs ws) (fun i H' => Same H4 H' ∧ H' D = some (.lst ((List.replicate i true).map V.bl))) ⟨Same.put nD, upd_same⟩ (fun i H' _ h => SqT.of (h.1 _ _ eb4)) ?_ ?_
      · rintro i y H' hy ⟨s5, eD⟩
        obtain ⟨q, hq, mq, rfl⟩ := rfs_at hy
        have il := (List.getElem?_eq_some_iff.mp hq).1
        have s25 := s24.trans s5
        have sq : SqT K H' q.1 ([(q.2.1 : Int), (q.2.2 : Int)].map V.int) := SqT.of (s25 _ _ (pw q mq))
        refine ⟨rfl, yes_of ?_⟩
        refine ⟨_, rfl, q.1, [(q.2.1 : Int), (q.2.2 : Int)], rfl, sq, by show 0 < 2; omega, fun a ma la => ?_⟩
        refine ⟨_, rfl, q.1, [(q.2.1 : Int), (q.2.2 : Int)], rfl, sq, by show 0 < 2; omega, fun c mc lc => ?_⟩
        refine ⟨by show 2 ≤ sizeLine; decide, fun u nu => ?_⟩
        have l1 := la _ List.mem_cons_self
        have l2 := la (q.2.2 : Int) (List.mem_cons_of_mem _ List.mem_cons_self)
        have g1 := lc _ List.mem_cons_self
        have g2 := lc (q.2.2 : Int) (List.mem_cons_of_mem _ List.mem_cons_self)
        have ea : a = ((min q.2.1 q.2.2 : Nat) : Int) := by
          rcases List.mem_cons.mp ma with rfl | m
          · omega
          · have e := List.mem_singleton.mp m
            omega
        have ec : c = ((max q.2.1 q.2.2 : Nat) : Int) := by
          rcases List.mem_cons.mp mc with rfl | m
          · omega
          · have e := List.mem_singleton.mp m
            omega
        subst ea ec
        have su := Same.put (o := .tup (prV (hf q.2))) nu
        have eu : (upd H' u (.tup (prV (hf q.2)))) u = some (.tup (prV (hf q.2))) := upd_same
        have s05 := (s04.trans s5).trans su
        refine ⟨_, rfl, dI (iW (pN (hf q.2))), _, dp_tupN (ws := pN (hf q.2)) (SqT.of eu), .lst (SqL.of (s05 _ _ ed)) (Pts.dp (pu.same s05)), sh_dI _, sh_list _, ?_⟩
        rw [any_dP, decide_eq_true (mL q mq)]
        refine ⟨_, su _ _ eD, by rw [List.length_map, List.length_replicate]; exact small_len (by omega), Same.but (fun b u e => su _ _ (s5 _ _ e)) nD, ?_⟩
        rw [upd_same]
        exact congrArg (fun z => some (HO.lst z)) refs_rep
      · rintro H5 ⟨s5, eD⟩
        refine ⟨D, _, rfl, SqL.of eD, ?_⟩
        rw [all_true]
        exact ⟨true, rfl, iteF ⟨_, _, _, rfl, s04.trans s5⟩⟩
  · rintro σ H2 ⟨w12, w13, w14, rfl, s2⟩
    exact k _
end
end KG
set_option Elab.async false
set_option linter.all false
set_option maxRecDepth 100000
set_option maxHeartbeats 4000000
namespace KG
open PySem L2
/-! ### what stays when lists change -/
def Lk (H H' : Hp) : Prop := ∀ b o, H b = some o → H' b = some o ∨ ∃ xs ys, o = .lst xs ∧ H' b = some (.lst ys)
variable {K : PySem.W.Frag} {Cs : List Addr} {H H' H'' : Hp} {a b : Addr} {y : V}
theorem Lk.refl (H : Hp) : Lk H H := fun _ _ h => .inl h
theorem Lk.trans (x : Lk H H') (y : Lk H' H'') : Lk H H'' := fun b o h => by
  rcases x b o h with h1 | ⟨xs, ys, rfl, h1⟩
  · exact y b o h1
  · rcases y b _ h1 with h2 | ⟨zs, ws, _, h2⟩
    · exact .inr ⟨xs, ys, rfl, h2⟩
    · exact .inr ⟨xs, ws, rfl, h2⟩
theorem Lk.of (s : Same H H') : Lk H H' := fun b o h => .inl (s b o h)
theorem Lk.keep (k : Keep a H H') (p : PoolAt H a) (p' : PoolAt H' a) : Lk H H' := fun b o h => by
  by_cases e : b = a
  · subst e
    obtain ⟨o1, e1, n1, g1, rfl, _⟩ := p
    obtain ⟨o2, e2, n2, g2, rfl, _⟩ := p'
    rw [e1] at h
    exact .inr ⟨_, _, (Option.some.inj h).symm, e2⟩
  · exact .inl (k b o h e)
theorem Lk.put {g : Addr} {xs ys : List V} (e : H g = some (.lst xs)) : Lk H (upd H g (.lst ys)) := fun b o h => by
  by_cases c : b = g
  · subst c
    rw [e] at h
    exact .inr ⟨xs, ys, (Option.some.inj h).symm, upd_same⟩
  · exact .inl (by rw [upd_ne c]; exact h)
theorem Lk.get (k : Lk H H') {o : HO} (h : H b = some o) (no : ∀ xs, o ≠ .lst xs) : H' b = some o := by
  rcases k b o h with h | ⟨xs, _, e, _⟩
  · exact h
  · exact absurd e (no xs)
theorem Lk.tup (k : Lk H H') {xs : List V} (h : H b = some (.tup xs)) : H' b = some (.tup xs) := k.get h fun _ z => by cases z
theorem Lk.ins (k : Lk H H') {C dx : Addr} {fs : List (Str × V)} (h : H b = some (.ins C dx fs)) : H' b = some (.ins C dx fs) := k.get h fun _ z => by cases z
theorem Pts.lk {ts : List Pt} (h : Pts H ts) (k : Lk H H') : Pts H' ts := fun t m => k.tup (h t m)
theorem MapAt.lk {n : Nat} {t : Addr} {ws : List Nat} (h : MapAt n H t ws) (k : Lk H H') : MapAt n H' t ws := ⟨k.tup h.1, h.2⟩
theorem PrtsIn.lk {n : Nat} {ts : List Prt} (h : PrtsIn n H ts) (k : Lk H H') : PrtsIn n H' ts := fun t m => ⟨k.tup (h t m).1, (h t m).2.1.lk k, (h t m).2.2⟩
theorem IsDraw.lk {DC x : Addr} {n : Nat} {ps : List Dp3} (h : IsDraw DC H x n ps) (k : Lk H H') : IsDraw DC H' x n ps := let ⟨dx, pt, h1, h2, h3⟩ := h; ⟨dx, pt, k.ins h1, k.tup h2, fun p m => ⟨k.tup (h3 p m).1, (h3 p m).2.lk k⟩⟩
theorem Odd.lk (h : Odd Cs H y) (k : Lk H H') : Odd Cs H' y := by
  rcases h with h | ⟨C, b, dx, fs, e, m, h⟩
  · exact .inl h
  · exact .inr ⟨C, b, dx, fs, e, m, k.ins h⟩
theorem ThL.lk (h : ThL K Cs H y) (k : Lk H H') : ThL K Cs H' y := by
  cases h with
  | fo h =>
    cases h with
    | non => exact .fo .non
    | bl b => exact .fo (.bl b)
    | int i => exact .fo (.int i)
    | str x => exact .fo (.str x)
    | lst e =>
      rcases k _ _ e with h | ⟨_, _, _, h⟩
      · exact .fo (.lst h)
      · exact .fo (.lst h)
    | tup e => exact .fo (.tup (k.tup e))
    | dK e => exact .fo (.dK (k.get e fun _ z => by cases z))
  | dT e => exact .dT (k.get e fun _ z => by cases z)
  | ins m e => exact .ins m (k.ins e)
theorem ThL.tupAt_lk (h : ThL K Cs H y) (k : Lk H H') : tupAt H' y = tupAt H y := by
  cases h with
  | fo h =>
    cases h with
    | lst e =>
      rw [tupAt_no e (fun _ z => by cases z)]
      rcases k _ _ e with h | ⟨_, _, _, h⟩
      · exact tupAt_no h (fun _ z => by cases z)
      · exact tupAt_no h (fun _ z => by cases z)
    | tup e => rw [tupAt_of e, tupAt_of (k.tup e)]
    | dK e => rw [tupAt_no e (fun _ z => by cases z), tupAt_no (k.get e fun _ z => by cases z) (fun _ z => by cases z)]
    | _ => rfl
  | dT e => rw [tupAt_no e (fun _ z => by cases z), tupAt_no (k.get e fun _ z => by cases z) (fun _ z => by cases z)]
  | ins m e => rw [tupAt_no e (fun _ z => by cases z), tupAt_no (k.ins e) (fun _ z => by cases z)]
theorem ThT.lk (h : ThT K Cs H y) (k : Lk H H') : ThT K Cs H' y := ⟨h.1.lk k, fun xs e => by
  obtain ⟨l, it⟩ := h.2 xs (by rw [← h.1.tupAt_lk k]; exact e)
  exact ⟨l, fun z m => ⟨(it z m).1.lk k, fun ws ez u mu => ((it z m).2 ws (by rw [← (it z m).1.tupAt_lk k]; exact ez) u mu).lk k⟩⟩⟩
/-- things made of items -/
theorem tht_itm {xs : List V} (hp : PoolAt H a) (e : H b = some (.tup xs)) (l : xs.length ≤ 200) (h : ∀ z ∈ xs, Itm K Cs a H z) : ThT K Cs H (.ref b) := (tng_tup hp e l h).tht
end KG
set_option Elab.async false
set_option linter.all false
set_option maxRecDepth 100000
set_option maxHeartbeats 4000000
namespace KG
open PySem L2
section
variable {P : Program} {w : World} {K : PySem.W.Frag} {mg : Str → Option Value} {base : Heap} {Cs : List Addr} {C DC OC CC : Addr}
/-- the things -/
theorem segLw16 {f : Addr} {cdv : Value} {A : Around} {outer : List Env} {s : Shared} {H : Hp} {E : XK} {Q : VK} (L : LawT P w K mg base Cs C DC OC CC) (hr : Room 14 (XLw P w K mg base f cdv A outer s H E).A) (k : ∀ H', Q (.bl true) H') :
    ∃ u, PSs (XLw P w K mg base f cdv A outer s H E) ((defBody s_law).drop 16) u ∧ ∀ (v0 v6 v9 v11 v12 v13 v14 : Option V) (a x l d g tp oT : Addr) (n : Nat) (ps : List Dp3) (ts : List Prt) (us zs : List Pt) (os xs : List V) (G : Hp), 1 ≤ n → n ≤ 8 → PoolAt G a → IsDraw DC G x n ps → ps.length ≤ 4 → l ≠ a → G l = some (.lst (rfs ts)) → PrtsIn n G ts → ts.length ≤ 4 → (mpD ps).Perm (mps ts) → d ≠ a → G d = some (.lst (rfs us)) → Pts G us → GrL n (mps ts) (us.map (·.2)) → us.length ≤ 28 → G tp = some (.tup (rfs zs)) → Pts G zs → zs.length ≤ 99 → G oT = some (.tup os) → os.length = 4 → (∀ y ∈ os, Odd Cs G y) → g ≠ a → l ≠ g → d ≠ g → G g = some (.lst xs) → xs.length ≤ 4 → (∀ y ∈ xs, ThT K Cs G y) →
      u { nx := fun _ H' => Q .non H', rt := Q } [v0, some (.ref a), some (.int (n : Int)), some (.ref l), some (.ref x), some (.ref d), v6, some (.ref tp), some (.ref oT), v9, some (.ref g), v11, v12, v13, v14] G := by
  have h64 := un64 hr
  obtain ⟨u, hu, qu⟩ := segLw17 (f := f) (cdv := cdv) (A := A) (outer := outer) (s := s) (H := H) (E := E) L hr k
  refine ⟨_, (pss_cons (ps_for PassesOwn.never rfl (pi_range1 (by rfl) L.T.n_range (pa_cons pe_int pa_nil)) (pg_name (i := 11) sc_law.nd rfl (Or.inl rfl))
    (pss_cons (ps_set (i := 12) sc_law.nd rfl (Or.inl rfl) (pe_cal L.spo (hr.mono (by decide)) rfl (pa_cons (pv 1) (pa_cons (pv 7) (pa_cons (pv 2) (pa_cons (pe_cal L.pick (hr.mono (by decide)) rfl (pa_cons (pv 1) (pa_cons (pv 8) pa_nil))) pa_nil))))))
      (pss_cons (ps_if (PW.pt (pw_and (pt_cmpR op_eq (pe_cal L.draw (hr.mono (by decide)) rfl (pa_cons (pv 1) (pa_cons pe_int pa_nil))) pe_int (nomark _)) (pw_and1 (pt_val (pe_cal L.isr (hr.mono (by decide)) rfl (pa_cons (pv 3) (pa_cons (pv 2) (pa_cons (pv 12) pa_nil))))))))
        (pss_one (ps_set (i := 12) sc_law.nd rfl (Or.inl rfl) (pe_cal L.spo (hr.mono (by decide)) rfl (pa_cons (pv 1) (pa_cons (pv 12) (pa_cons (pv 2) (pa_cons (pe_cal L.pick (hr.mono (by decide)) rfl (pa_cons (pv 1) (pa_cons (pv 8) pa_nil))) pa_nil)))))))
        pss_nil)
      (pss_one (ps_expr (pe_bm PySem.F.plainAttrs_list PySem.F.slot_list_append PySem.F.type_list_append mt_append (pv 10) (pa_cons (pv 12) pa_nil))))))) hu), ?_⟩
  intro v0 v6 v9 v11 v12 v13 v14 a x l d g tp oT n ps ts us zs os xs G n1 n8 hp dr p4 la el pi t4 pm da ed pu gr l28 etp pz lz eoT lo4 ho ga lg dg eg lx4 th
  refine ⟨_, rfl, by decide, by decide, ?_⟩
  refine for_range (fun i σ H' => ∃ (w11 w12 : Option V) (ys : List V), σ = [v0, some (.ref a), some (.int (n : Int)), some (.ref l), some (.ref x), some (.ref d), v6, some (.ref tp), some (.ref oT), v9, some (.ref g), w11, w12, v13, v14] ∧ Lk G H' ∧ PoolAt H' a ∧ H' l = some (.lst (rfs ts)) ∧ H' d = some (.lst (rfs us)) ∧ H' g = some (.lst ys) ∧ ys.length ≤ 4 + i ∧ ∀ y ∈ ys, ThT K Cs H' y)
    ⟨v11, v12, xs, rfl, Lk.refl G, hp, el, ed, eg, by omega, th⟩ ?_ ?_
  · rintro i σ H1 hi ⟨w11, w12, ys, rfl, k1, p1, el1, ed1, eg1, ly, th1⟩
    have eo1 := k1.tup eoT
    refine ⟨_, rfl, _, rfl, _, rfl, _, rfl, _, rfl, a, oT, os, rfl, p1, .inr eo1, p1.ne eo1, by omega, by omega, fun y o my hpo => ?_⟩
    obtain ⟨p2, k12⟩ := drawn p1 (Keep.refl a H1) hpo
    have el2 := k12 _ _ el1 la
    have ed2 := k12 _ _ ed1 da
    have eg2 := k12 _ _ eg1 ga
    have k2 := k1.trans (Lk.keep k12 p1 p2)
    have th2 : ∀ y ∈ ys, ThT K Cs (upd H1 a o) y := fun y m => (th1 y m).lk (Lk.keep k12 p1 p2)
    generalize (upd H1 a o) = H2 at p2 k12 el2 ed2 eg2 k2 th2 ⊢
    refine ⟨a, tp, n, zs, y, rfl, p2, n1, n8, k2.tup etp, pz.lk k2, by omega, (ho y my).lk k2, fun r rs H3 k23 p3 er lr ir => ?_⟩
    have el3 := k23 _ _ el2 la
    have ed3 := k23 _ _ ed2 da
    have eg3 := k23 _ _ eg2 ga
    have l23 := Lk.keep k23 p2 p3
    have k3 := k2.trans l23
    have th3 : ∀ y ∈ ys, ThT K Cs H3 y := fun y m => (th2 y m).lk l23
    have tr := tht_itm p3 er (by omega) ir
    have app : ∀ (r : Addr) (H4 : Hp), Lk G H4 → PoolAt H4 a → H4 l = some (.lst (rfs ts)) → H4 d = some (.lst (rfs us)) → H4 g = some (.lst ys) → (∀ y ∈ ys, ThT K Cs H4 y) → ThT K Cs H4 (.ref r) →
        ∃ (w11 w12 : Option V) (ys2 : List V), [v0, some (.ref a), some (.int (n : Int)), some (.ref l), some (.ref x), some (.ref d), v6, some (.ref tp), some (.ref oT), v9, some (.ref g), some (.int (0 + (i : Int))), some (.ref r), v13, v14] = [v0, some (.ref a), some (.int (n : Int)), some (.ref l), some (.ref x), some (.ref d), v6, some (.ref tp), some (.ref oT), v9, some (.ref g), w11, w12, v13, v14] ∧ Lk G (upd H4 g (.lst (ys ++ [.ref r]))) ∧ PoolAt (upd H4 g (.lst (ys ++ [.ref r]))) a ∧ (upd H4 g (.lst (ys ++ [.ref r]))) l = some (.lst (rfs ts)) ∧ (upd H4 g (.lst (ys ++ [.ref r]))) d = some (.lst (rfs us)) ∧ (upd H4 g (.lst (ys ++ [.ref r]))) g = some (.lst ys2) ∧ ys2.length ≤ 4 + (i + 1) ∧ ∀ y ∈ ys2, ThT K Cs (upd H4 g (.lst (ys ++ [.ref r]))) y := fun r H4 k4 p4 el4 ed4 eg4 th4 tr4 => by
      have kp : Lk H4 (upd H4 g (.lst (ys ++ [.ref r]))) := Lk.put eg4
      refine ⟨_, _, ys ++ [.ref r], rfl, k4.trans kp, p4.other (Ne.symm ga), by rw [upd_ne lg]; exact el4, by rw [upd_ne dg]; exact ed4, upd_same, by rw [List.length_append]; show ys.length + 1 ≤ _; omega, fun y m => ?_⟩
      rcases List.mem_append.mp m with m | m
      · exact (th4 y m).lk kp
      · rw [List.mem_singleton.mp m]
        exact tr4.lk kp
    refine ⟨_, rfl, a, 3, rfl, p3, by decide, by decide, fun z o z0 z1 hpo => ?_⟩
    obtain ⟨p4, k34⟩ := drawn p3 (Keep.refl a H3) hpo
    have el4 := k34 _ _ el3 la
    have ed4 := k34 _ _ ed3 da
    have eg4 := k34 _ _ eg3 ga
    have l34 := Lk.keep k34 p3 p4
    have k4 := k3.trans l34
    have th4 : ∀ y ∈ ys, ThT K Cs (upd H3 a o) y := fun y m => (th3 y m).lk l34
    have tr4 := tr.lk l34
    have er4 := l34.tup er
    generalize (upd H3 a o) = H4 at p4 k34 el4 ed4 eg4 k4 th4 tr4 er4 ⊢
    refine ⟨rfl, _, rfl, iteA ?_ ?_⟩
    · refine ⟨_, rfl, _, rfl, _, rfl, l, n, ts, .ref r, rfl, n1, n8, el4, pi.lk k4, t4, tr4, fun H5 s5 => ?_⟩
      have el5 := s5 _ _ el4
      have ed5 := s5 _ _ ed4
      have eg5 := s5 _ _ eg4
      have p5 := p4.same s5
      have k5 := k4.trans (Lk.of s5)
      have th5 : ∀ y ∈ ys, ThT K Cs H5 y := fun y m => (th4 y m).lk (Lk.of s5)
      have tr5 := tr4.lk (Lk.of s5)
      cases hj : judged n (mps ts) H4 (.ref r) with
      | false =>
        refine ⟨_, rfl, iteF ?_⟩
        exact ⟨_, rfl, .inl ⟨rfl, _, SqL.of eg5⟩, _, rfl, g, _, _, rfl, rfl, eg5, small_len (by omega), app r H5 k5 p5 el5 ed5 eg5 th5 tr5⟩
      | true =>
        refine ⟨_, rfl, iteT ?_⟩
        obtain ⟨b, ws, eb1, eb, pw, lt, _⟩ := judged_due gr hj
        cases eb1
        rw [er4] at eb
        cases eb
        rw [rfs_len] at lr
        have eo5 := k5.tup eoT
        refine ⟨_, rfl, _, rfl, _, rfl, _, rfl, _, rfl, a, oT, os, rfl, p5, .inr eo5, p5.ne eo5, by omega, by omega, fun y o my hpo => ?_⟩
        obtain ⟨p6, k56⟩ := drawn p5 (Keep.refl a H5) hpo
        have el6 := k56 _ _ el5 la
        have ed6 := k56 _ _ ed5 da
        have eg6 := k56 _ _ eg5 ga
        have l56 := Lk.keep k56 p5 p6
        have k6 := k5.trans l56
        have l46 := (Lk.of s5).trans l56
        have th6 : ∀ y ∈ ys, ThT K Cs (upd H5 a o) y := fun y m => (th5 y m).lk l56
        generalize (upd H5 a o) = H6 at p6 k56 el6 ed6 eg6 k6 th6 l46 ⊢
        refine ⟨a, r, n, ws, y, rfl, p6, n1, n8, l46.tup er4, pw.lk l46, by omega, (ho y my).lk k6, fun r2 rs2 H7 k67 p7 er2 lr2 ir2 => ?_⟩
        have l67 := Lk.keep k67 p6 p7
        have eg7 := k67 _ _ eg6 ga
        exact ⟨_, rfl, .inl ⟨rfl, _, SqL.of eg7⟩, _, rfl, g, _, _, rfl, rfl, eg7, small_len (by omega), app r2 H7 (k6.trans l67) p7 (k67 _ _ el6 la) (k67 _ _ ed6 da) eg7 (fun y m => (th6 y m).lk l67) (tht_itm p7 er2 (by omega) ir2)⟩
    · exact ⟨_, rfl, .inl ⟨rfl, _, SqL.of eg4⟩, _, rfl, g, _, _, rfl, rfl, eg4, small_len (by omega), app r H4 k4 p4 el4 ed4 eg4 th4 tr4⟩
  · rintro σ H2 ⟨w11, w12, ys, rfl, k2, p2, el2, ed2, eg2, ly, th2⟩
    exact qu v0 _ v6 _ _ v9 w11 w12 v13 v14 x l d g n ps ts us ys H2 n1 n8 (dr.lk k2) p4 el2 (pi.lk k2) t4 pm ed2 (pu.lk k2) gr l28 eg2 th2
end
end KG
set_option Elab.async false
set_option linter.all false
set_option maxRecDepth 100000
set_option maxHeartbeats 4000000
namespace KG
open PySem L2
section
variable {P : Program} {w : World} {K : PySem.W.Frag} {mg : Str → Option Value} {base : Heap} {Cs : List Addr} {C DC OC CC : Addr}
/-- strange things -/
theorem segLw14 {f : Addr} {cdv : Value} {A : Around} {outer : List Env} {s : Shared} {H : Hp} {E : XK} {Q : VK} (L : LawT P w K mg base Cs C DC OC CC) (hr : Room 14 (XLw P w K mg base f cdv A outer s H E).A) (k : ∀ H', Q (.bl true) H') :
    ∃ u, PSs (XLw P w K mg base f cdv A outer s H E) ((defBody s_law).drop 14) u ∧ ∀ (v0 v6 v9 v10 v11 v12 v13 v14 : Option V) (a x l d tp oT : Addr) (n : Nat) (ps : List Dp3) (ts : List Prt) (us zs : List Pt) (os : List V) (G : Hp), 1 ≤ n → n ≤ 8 → PoolAt G a → IsDraw DC G x n ps → ps.length ≤ 4 → l ≠ a → G l = some (.lst (rfs ts)) → PrtsIn n G ts → ts.length ≤ 4 → (mpD ps).Perm (mps ts) → d ≠ a → G d = some (.lst (rfs us)) → Pts G us → GrL n (mps ts) (us.map (·.2)) → us.length ≤ 28 → G tp = some (.tup (rfs zs)) → Pts G zs → zs.length ≤ 99 → G oT = some (.tup os) → os.length = 4 → (∀ y ∈ os, Odd Cs G y) →
      u { nx := fun _ H' => Q .non H', rt := Q } [v0, some (.ref a), some (.int (n : Int)), some (.ref l), some (.ref x), some (.ref d), v6, some (.ref tp), some (.ref oT), v9, v10, v11, v12, v13, v14] G := by
  have hu := hu_of hr
  obtain ⟨u, hu2, qu⟩ := segLw16 (f := f) (cdv := cdv) (A := A) (outer := outer) (s := s) (H := H) (E := E) L hr k
  refine ⟨_, (pss_cons (ps_set (i := 9) sc_law.nd rfl (Or.inl rfl) (pe_op op_catA (pv 8) (pe_tup (pa_cons (pe_callTy call_list_of (by rfl) L.T.n_list (by decide +kernel) (pa_cons (pv 5) pa_nil)) (pa_cons (pe_callTy call_list_of (by rfl) L.T.n_list (by decide +kernel) (pa_cons (pv 7) pa_nil)) (pa_cons pe_str (pa_cons pe_str (pa_cons pe_int (pa_cons (pe_dispT1 (by exact Nat.lt_of_le_of_lt (by omega) (un64 hr)) (pe_tup (pa_cons pe_int (pa_cons pe_int pa_nil))) pe_int) (pa_cons (pe_op op_catA (pv 7) (pe_tup (pa_cons pe_int pa_nil))) pa_nil))))))))))
    (pss_cons (ps_set (i := 10) sc_law.nd rfl (Or.inl rfl) (pe_lst (pa_cons (pe_callTy call_tuple_of (by rfl) L.T.n_tuple (by decide +kernel) (pa_cons (pv 5) pa_nil)) (pa_cons (pv 7) (pa_cons (pe_tup pa_nil) (pa_cons (pe_cal L.pick (hr.mono (by decide)) rfl (pa_cons (pv 1) (pa_cons (pv 9) pa_nil))) pa_nil)))))) hu2)), ?_⟩
  intro v0 v6 v9 v10 v11 v12 v13 v14 a x l d tp oT n ps ts us zs os G n1 n8 hp dr p4 la el pi t4 pm da ed pu gr l28 etp pz lz eoT lo4 ho
  refine ⟨_, rfl, _, rfl, d, _, rfl, .inl (SqL.of ed), fun ld nld => ?_⟩
  have s1 := Same.put (o := .lst (rfs us)) nld
  have eld : (upd G ld (.lst (rfs us))) ld = some (.lst (rfs us)) := upd_same
  generalize (upd G ld (.lst (rfs us))) = H1 at s1 eld ⊢
  refine ⟨_, rfl, tp, _, rfl, .inr (SqT.of (s1 _ _ etp)), fun lp nlp => ?_⟩
  have s12 := Same.put (o := .lst (rfs zs)) nlp
  have elp : (upd H1 lp (.lst (rfs zs))) lp = some (.lst (rfs zs)) := upd_same
  have eld2 := s12 _ _ eld
  have s2 := s1.trans s12
  have lda := new_ne hp nld
  have lpa := new_ne (hp.same s1) nlp
  generalize (upd H1 lp (.lst (rfs zs))) = H2 at s2 eld2 elp ⊢
  intro D nD
  have s23 := Same.put (o := .dT []) nD
  have eD : (upd H2 D (.dT [])) D = some (.dT []) := upd_same
  generalize (upd H2 D (.dT [])) = H3 at s23 eD ⊢
  refine ⟨by show 2 ≤ sizeLine; decide, fun c nc => ?_⟩
  have s34 := Same.put (o := .tup (prV (0, 1))) nc
  refine ⟨kp (0, 1), c, rfl, upd_same, s34 _ _ eD, ?_⟩
  have s25 : Same H2 (upd (upd H3 c (.tup (prV (0, 1)))) D (.dT (putK [] (kp (0, 1)) (.int 1)))) := Same.but (fun b u e => s34 _ _ (s23 _ _ e)) nD
  have eD5 : (upd (upd H3 c (.tup (prV (0, 1)))) D (.dT (putK [] (kp (0, 1)) (.int 1)))) D = some (.dT (putK [] (kp (0, 1)) (.int 1))) := upd_same
  generalize (upd (upd H3 c (.tup (prV (0, 1)))) D (.dT (putK [] (kp (0, 1)) (.int 1)))) = H5 at s25 eD5 ⊢
  have s5 := s2.trans s25
  refine ⟨_, rfl, by show 1 ≤ sizeLine; decide, fun e ne => ?_⟩
  have s56 := Same.put (o := .tup [V.int 0]) ne
  have ee : (upd H5 e (.tup [V.int 0])) e = some (.tup [V.int 0]) := upd_same
  have eD6 := s56 _ _ eD5
  generalize (upd H5 e (.tup [V.int 0])) = H6 at s56 ee eD6 ⊢
  have s6 := s5.trans s56
  refine cat_any (s6 _ _ etp) ee (by rw [rfs_len]; exact small_len (by omega)) fun pp H7 s67 epp => ?_
  refine ⟨by show 7 ≤ sizeLine; decide, fun sv nsv => ?_⟩
  have s78 := Same.put (o := .tup [V.ref ld, V.ref lp, V.str "", V.str "01", V.int 0, V.ref D, V.ref pp]) nsv
  have esv : (upd H7 sv (.tup [V.ref ld, V.ref lp, V.str "", V.str "01", V.int 0, V.ref D, V.ref pp])) sv = some (.tup [V.ref ld, V.ref lp, V.str "", V.str "01", V.int 0, V.ref D, V.ref pp]) := upd_same
  have s68 := s67.trans s78
  have s58 := s56.trans s68
  have s28 := s25.trans s58
  have s8 := s2.trans s28
  have epp8 := s78 _ _ epp
  have eD8 := s68 _ _ eD6
  show rCatA _ _ _ (upd H7 sv (.tup [V.ref ld, V.ref lp, V.str "", V.str "01", V.int 0, V.ref D, V.ref pp])) _
  generalize (upd H7 sv (.tup [V.ref ld, V.ref lp, V.str "", V.str "01", V.int 0, V.ref D, V.ref pp])) = H8 at s78 esv s68 s58 s28 s8 epp8 eD8 ⊢
  refine cat_any (s8 _ _ eoT) esv (by show os.length + 7 ≤ _; exact Nat.le_of_lt (small_len (by omega))) fun st H9 s89 est => ?_
  have s9 := s8.trans s89
  have p9 := hp.same s9
  have th9 : ∀ y ∈ os ++ [V.ref ld, V.ref lp, V.str "", V.str "01", V.int 0, V.ref D, V.ref pp], ThT K Cs H9 y := fun y m => by
    rcases List.mem_append.mp m with m | m
    · have od := (ho y m).lk (Lk.of s9)
      exact (tng_flat (od.tg p9) od.flat).tht
    · have el9 := s89 _ _ (s28 _ _ eld2)
      have ep9 := s89 _ _ (s28 _ _ elp)
      have eD9 := s89 _ _ eD8
      have epp9 := s89 _ _ epp8
      have flat : ∀ y, y = V.ref ld ∨ y = .ref lp ∨ y = .str "" ∨ y = .str "01" ∨ y = .int 0 ∨ y = .ref D → ThT K Cs H9 y := fun y q => by
        rcases q with rfl | rfl | rfl | rfl | rfl | rfl
        · exact (tng_flat (tg_lst lda el9) (tupAt_no el9 fun _ z => by cases z)).tht
        · exact (tng_flat (tg_lst lpa ep9) (tupAt_no ep9 fun _ z => by cases z)).tht
        · exact (tng_flat (a := a) (tg_str _) rfl).tht
        · exact (tng_flat (a := a) (tg_str _) rfl).tht
        · exact (tng_flat (a := a) (tg_int _) rfl).tht
        · exact ⟨.dT eD9, fun xs q => by rw [tupAt_no eD9 fun _ z => by cases z] at q; cases q⟩
      by_cases q : y = .ref pp
      · subst q
        refine (tng_tup p9 epp9 (by rw [List.length_append, rfs_len]; show zs.length + 1 ≤ 200; omega) fun z mz => ?_).tht
        rcases List.mem_append.mp mz with mz | mz
        · obtain ⟨u, mu, rfl⟩ := List.mem_map.mp mz
          exact itm_pr p9 (s9 _ _ (pz u mu))
        · rw [List.mem_singleton.mp mz]
          exact itm_flat (tg_int _) rfl
      · refine flat y ?_
        rw [List.mem_cons, List.mem_cons, List.mem_cons, List.mem_cons, List.mem_cons, List.mem_cons, List.mem_singleton] at m
        rcases m with m | m | m | m | m | m | m
        · exact .inl m
        · exact .inr (.inl m)
        · exact .inr (.inr (.inl m))
        · exact .inr (.inr (.inr (.inl m)))
        · exact .inr (.inr (.inr (.inr (.inl m))))
        · exact .inr (.inr (.inr (.inr (.inr m))))
        · exact absurd m q
  have lst9 : (os ++ [V.ref ld, V.ref lp, V.str "", V.str "01", V.int 0, V.ref D, V.ref pp]).length = 11 := by rw [List.length_append, lo4]; rfl
  generalize (os ++ [V.ref ld, V.ref lp, V.str "", V.str "01", V.int 0, V.ref D, V.ref pp]) = ys at est th9 lst9
  -- the things
  refine ⟨_, rfl, d, _, rfl, .inl ⟨SqL.of (s9 _ _ ed), fun td ntd => ?_⟩⟩
  have sa := Same.put (o := .tup (rfs us)) ntd
  have etd : (upd H9 td (.tup (rfs us))) td = some (.tup (rfs us)) := upd_same
  generalize (upd H9 td (.tup (rfs us))) = Ha at sa etd ⊢
  refine ⟨_, rfl, by show 0 ≤ sizeLine; decide, fun em nem => ?_⟩
  have sb := Same.put (o := .tup ([] : List V)) nem
  have eem : (upd Ha em (.tup ([] : List V))) em = some (.tup ([] : List V)) := upd_same
  have etdb := sb _ _ etd
  have s9b := sa.trans sb
  show tCall _ _ _ _ _ (upd Ha em (.tup ([] : List V))) _
  generalize (upd Ha em (.tup ([] : List V))) = Hb at sb eem etdb s9b ⊢
  have stb := s9b _ _ est
  have pb := p9.same s9b
  refine ⟨_, rfl, _, rfl, a, st, ys, rfl, pb, .inr stb, pb.ne stb, by omega, by omega, fun y o my hpo => ?_⟩
  obtain ⟨pc, kc⟩ := drawn pb (Keep.refl a Hb) hpo
  have sGb := s9.trans s9b
  have lc := (Lk.of s9b).trans (Lk.keep kc pb pc)
  have l2c := Lk.keep kc pb pc
  have elc := kc _ _ (sGb _ _ el) la
  have edc := kc _ _ (sGb _ _ ed) da
  have kG := (Lk.of s9).trans lc
  generalize (upd Hb a o) = Hc at pc kc lc l2c elc edc kG ⊢
  refine ⟨by show 4 ≤ sizeLine; decide, fun g ng => ?_⟩
  have sg := Same.put (o := .lst [V.ref td, V.ref tp, V.ref em, y]) ng
  have eg : (upd Hc g (.lst [V.ref td, V.ref tp, V.ref em, y])) g = some (.lst [V.ref td, V.ref tp, V.ref em, y]) := upd_same
  have ga := new_ne pc ng
  have lg : l ≠ g := fun z => by rw [z, ng] at elc; cases elc
  have dg : d ≠ g := fun z => by rw [z, ng] at edc; cases edc
  have ty : ThT K Cs Hc y := (th9 y my).lk lc
  have t1 : ThT K Cs Hc (.ref td) := (tng_pts pc (l2c.tup etdb) (pu.lk kG) (by omega)).tht
  have t2 : ThT K Cs Hc (.ref tp) := (tng_pts pc (kG.tup etp) (pz.lk kG) (by omega)).tht
  have t3 : ThT K Cs Hc (.ref em) := (tng_tup pc (l2c.tup eem) (by show 0 ≤ 200; omega) (fun z m => by cases m)).tht
  have kg := Lk.of sg
  have kz := kG.trans kg
  refine qu v0 v6 _ v11 v12 v13 v14 a x l d g tp oT n ps ts us zs os [V.ref td, V.ref tp, V.ref em, y] _ n1 n8 (pc.same sg) (dr.lk kz) p4 la (sg _ _ elc) (pi.lk kz) t4 pm da (sg _ _ edc) (pu.lk kz) gr l28 (kz.tup etp) (pz.lk kz) lz (kz.tup eoT) lo4 (fun z m => (ho z m).lk kz) ga lg dg eg (Nat.le_refl 4) (fun z m => ?_)
  rw [List.mem_cons, List.mem_cons, List.mem_cons, List.mem_singleton] at m
  rcases m with rfl | rfl | rfl | rfl
  · exact t1.lk kg
  · exact t2.lk kg
  · exact t3.lk kg
  · exact ty.lk kg
end
end KG
set_option Elab.async false
set_option linter.all false
set_option maxRecDepth 100000
set_option maxHeartbeats 4000000
namespace KG
open PySem L2
section
variable {P : Program} {w : World} {K : PySem.W.Frag} {mg : Str → Option Value} {base : Heap} {Cs : List Addr} {C DC OC CC : Addr}
/-- odd things -/
theorem segLw13 {f : Addr} {cdv : Value} {A : Around} {outer : List Env} {s : Shared} {H : Hp} {E : XK} {Q : VK} (L : LawT P w K mg base Cs C DC OC CC) (hr : Room 14 (XLw P w K mg base f cdv A outer s H E).A) (k : ∀ H', Q (.bl true) H') :
    ∃ u, PSs (XLw P w K mg base f cdv A outer s H E) ((defBody s_law).drop 13) u ∧ ∀ (v0 v6 v8 v9 v10 v11 v12 v13 v14 : Option V) (a x l d tp : Addr) (n : Nat) (ps : List Dp3) (ts : List Prt) (us zs : List Pt) (G : Hp), 1 ≤ n → n ≤ 8 → PoolAt G a → IsDraw DC G x n ps → ps.length ≤ 4 → l ≠ a → G l = some (.lst (rfs ts)) → PrtsIn n G ts → 1 ≤ ts.length → ts.length ≤ 4 → (mpD ps).Perm (mps ts) → d ≠ a → G d = some (.lst (rfs us)) → Pts G us → GrL n (mps ts) (us.map (·.2)) → us.length ≤ 28 → G tp = some (.tup (rfs zs)) → Pts G zs → zs.length ≤ 99 →
      u { nx := fun _ H' => Q .non H', rt := Q } [v0, some (.ref a), some (.int (n : Int)), some (.ref l), some (.ref x), some (.ref d), v6, some (.ref tp), v8, v9, v10, v11, v12, v13, v14] G := by
  obtain ⟨u, hu2, qu⟩ := segLw14 (f := f) (cdv := cdv) (A := A) (outer := outer) (s := s) (H := H) (E := E) L hr k
  refine ⟨_, (pss_cons (ps_set (i := 8) sc_law.nd rfl (Or.inl rfl) (pe_tup (pa_cons (pv 4) (pa_cons (pe_cal L.line (hr.mono (by decide)) rfl (pa_cons (pv 2) pa_nil)) (pa_cons (pe_cal L.chn hr rfl (pa_cons (pv 1) (pa_cons (pe_cal L.ledr (hr.mono (by decide)) rfl (pa_cons (pv 3) (pa_cons (pv 2) pa_nil))) pa_nil))) (pa_cons pe_non pa_nil)))))) hu2), ?_⟩
  intro v0 v6 v8 v9 v10 v11 v12 v13 v14 a x l d tp n ps ts us zs G n1 n8 hp dr p4 la el pi t1 t4 pm da ed pu gr l28 etp pz lz
  refine ⟨_, rfl, _, rfl, n, rfl, n1, n8, fun o1 dx1 fs1 H1 s1 eo1 => ?_⟩
  refine ⟨_, rfl, _, rfl, _, rfl, l, n, ts, rfl, n1, n8, s1 _ _ el, pi.same s1, t1, t4, fun r rs H2 s2 nr er rw lr sm => ?_⟩
  have s12 := s1.trans s2
  have p2 := hp.same s12
  refine ⟨a, r, n, rs, rfl, p2, new_ne (hp.same s1) nr, n1, n8, er, rw, lr, sm, fun o3 dx3 fs3 H3 k3 p3 eo3 => ?_⟩
  have k23 := Lk.keep k3 p2 p3
  have kG := (Lk.of s12).trans k23
  have eo1' := k23.ins (s2 _ _ eo1)
  have el3 := k3 _ _ (s12 _ _ el) la
  have ed3 := k3 _ _ (s12 _ _ ed) da
  refine ⟨by show 4 ≤ sizeLine; decide, fun oT noT => ?_⟩
  have so := Same.put (o := .tup [V.ref x, V.ref o1, V.ref o3, V.non]) noT
  have ko := kG.trans (Lk.of so)
  obtain ⟨dx, pt, ex, _⟩ := id dr
  refine qu v0 v6 v9 v10 v11 v12 v13 v14 a x l d tp oT n ps ts us zs [V.ref x, V.ref o1, V.ref o3, V.non] _ n1 n8 (p3.same so) (dr.lk ko) p4 la (so _ _ el3) (pi.lk ko) t4 pm da (so _ _ ed3) (pu.lk ko) gr l28 (ko.tup etp) (pz.lk ko) lz upd_same rfl (fun y m => ?_)
  rw [List.mem_cons, List.mem_cons, List.mem_cons, List.mem_singleton] at m
  rcases m with rfl | rfl | rfl | rfl
  · exact .inr ⟨DC, x, dx, _, rfl, L.iD, ko.ins ex⟩
  · exact .inr ⟨OC, o1, dx1, fs1, rfl, L.iO, so _ _ eo1'⟩
  · exact .inr ⟨CC, o3, dx3, fs3, rfl, L.iCC, so _ _ eo3⟩
  · exact .inl rfl
/-- the pairs, near them -/
theorem segLw12 {f : Addr} {cdv : Value} {A : Around} {outer : List Env} {s : Shared} {H : Hp} {E : XK} {Q : VK} (L : LawT P w K mg base Cs C DC OC CC) (hr : Room 14 (XLw P w K mg base f cdv A outer s H E).A) (k : ∀ H', Q (.bl true) H') :
    ∃ u, PSs (XLw P w K mg base f cdv A outer s H E) ((defBody s_law).drop 12) u ∧ ∀ (v0 v6 v8 v9 v10 v11 v12 v13 v14 : Option V) (a x l d tp : Addr) (n : Nat) (ps : List Dp3) (ts : List Prt) (us zs : List Pt) (G : Hp), 1 ≤ n → n ≤ 8 → PoolAt G a → IsDraw DC G x n ps → ps.length ≤ 4 → l ≠ a → G l = some (.lst (rfs ts)) → PrtsIn n G ts → 1 ≤ ts.length → ts.length ≤ 4 → (mpD ps).Perm (mps ts) → d ≠ a → G d = some (.lst (rfs us)) → Pts G us → GrL n (mps ts) (us.map (·.2)) → us.length ≤ 28 → G tp = some (.tup (rfs zs)) → Pts G zs → zs.length ≤ 99 →
      u { nx := fun _ H' => Q .non H', rt := Q } [v0, some (.ref a), some (.int (n : Int)), some (.ref l), some (.ref x), some (.ref d), v6, some (.ref tp), v8, v9, v10, v11, v12, v13, v14] G := by
  obtain ⟨u, hu2, qu⟩ := segLw13 (f := f) (cdv := cdv) (A := A) (outer := outer) (s := s) (H := H) (E := E) L hr k
  refine ⟨_, (pss_cons (ps_if (PW.pt (pw_and (pt_cmpR op_gt (pe_callB call_len_seq (by rfl) L.T.b.n_len PySem.boot_len (pa_cons (pv 5) pa_nil)) pe_int (nomark _)) (pw_and1 (pt_cmpR op_eq (pe_cal L.draw (hr.mono (by decide)) rfl (pa_cons (pv 1) (pa_cons pe_int pa_nil))) pe_int (nomark _)))))
    (pss_one (ps_set (i := 7) sc_law.nd rfl (Or.inl rfl) (pe_cal L.com (hr.mono (by decide)) rfl (pa_cons (pv 3) (pa_cons (pe_cal L.pick (hr.mono (by decide)) rfl (pa_cons (pv 1) (pa_cons (pv 5) pa_nil))) (pa_cons (pv 2) pa_nil))))))
    pss_nil) hu2), ?_⟩
  intro v0 v6 v8 v9 v10 v11 v12 v13 v14 a x l d tp n ps ts us zs G n1 n8 hp dr p4 la el pi t1 t4 pm da ed pu gr l28 etp pz lz
  refine ⟨_, rfl, d, _, rfl, .inl (SqL.of ed), ?_⟩
  have no := fun (v0 v6 v8 v9 v10 v11 v12 v13 v14 : Option V) (tp : Addr) (zs : List Pt) (H4 : Hp) (kk : Lk G H4) (p4' : PoolAt H4 a) (el4 : H4 l = some (.lst (rfs ts))) (ed4 : H4 d = some (.lst (rfs us))) (etp4 : H4 tp = some (.tup (rfs zs))) (pz4 : Pts H4 zs) (lz4 : zs.length ≤ 99) => qu v0 v6 v8 v9 v10 v11 v12 v13 v14 a x l d tp n ps ts us zs H4 n1 n8 p4' (dr.lk kk) p4 la el4 (pi.lk kk) t1 t4 pm da ed4 (pu.lk kk) gr l28 etp4 pz4 lz4
  refine ⟨_, _, rfl, rfl, _, rfl, iteB (fun q => ?_) (fun q => ?_)⟩
  · refine ⟨_, rfl, a, 3, rfl, hp, by decide, by decide, fun z o z0 z1 hpo => ?_⟩
    obtain ⟨p1, k1⟩ := drawn hp (Keep.refl a G) hpo
    have l1 := Lk.keep k1 hp p1
    have el1 := k1 _ _ el la
    have ed1 := k1 _ _ ed da
    generalize (upd G a o) = H1 at p1 k1 l1 el1 ed1 ⊢
    refine ⟨rfl, _, rfl, iteA ?_ ?_⟩
    · have q : (0 : Int) < ((rfs us).length : Int) := of_decide_eq_true q
      rw [rfs_len] at q
      refine ⟨_, rfl, _, rfl, _, rfl, a, d, _, rfl, p1, .inl ed1, da, by rw [rfs_len]; omega, by rw [rfs_len]; omega, fun y o my hpo => ?_⟩
      obtain ⟨p2, k2⟩ := drawn p1 (Keep.refl a H1) hpo
      have l2 := l1.trans (Lk.keep k2 p1 p2)
      have el2 := k2 _ _ el1 la
      have ed2 := k2 _ _ ed1 da
      generalize (upd H1 a o) = H2 at p2 k2 l2 el2 ed2 ⊢
      obtain ⟨t, mt, rfl⟩ := List.mem_map.mp my
      have hv := mem_hvs.mp (gr.mem (List.mem_map_of_mem (f := fun t : Pt => t.2) mt))
      refine ⟨_, rfl, l, t.1, n, ts, t.2, rfl, n8, el2, pi.lk l2, t4, l2.tup (pu t mt), by omega, by omega, fun r ws H3 s3 er pw lt w1 w64 => ?_⟩
      exact no _ _ _ _ _ _ _ _ _ r ws H3 (l2.trans (Lk.of s3)) (p2.same s3) (s3 _ _ el2) (s3 _ _ ed2) er pw (by omega)
    · exact no _ _ _ _ _ _ _ _ _ tp zs H1 l1 p1 el1 ed1 (l1.tup etp) (pz.lk l1) lz
  · exact no _ _ _ _ _ _ _ _ _ tp zs G (Lk.refl G) hp el ed etp pz lz
/-- the pairs -/
theorem segLw10 {f : Addr} {cdv : Value} {A : Around} {outer : List Env} {s : Shared} {H : Hp} {E : XK} {Q : VK} (L : LawT P w K mg base Cs C DC OC CC) (hr : Room 14 (XLw P w K mg base f cdv A outer s H E).A) (k : ∀ H', Q (.bl true) H') :
    ∃ u, PSs (XLw P w K mg base f cdv A outer s H E) ((defBody s_law).drop 10) u ∧ ∀ (v0 v6 v7 v8 v9 v10 v11 v12 v13 v14 : Option V) (a x l d : Addr) (n : Nat) (ps : List Dp3) (ts : List Prt) (us : List Pt) (G : Hp), 1 ≤ n → n ≤ 8 → PoolAt G a → IsDraw DC G x n ps → ps.length ≤ 4 → l ≠ a → G l = some (.lst (rfs ts)) → PrtsIn n G ts → 1 ≤ ts.length → ts.length ≤ 4 → (mpD ps).Perm (mps ts) → d ≠ a → G d = some (.lst (rfs us)) → Pts G us → GrL n (mps ts) (us.map (·.2)) → us.length ≤ 28 →
      u { nx := fun _ H' => Q .non H', rt := Q } [v0, some (.ref a), some (.int (n : Int)), some (.ref l), some (.ref x), some (.ref d), v6, v7, v8, v9, v10, v11, v12, v13, v14] G := by
  obtain ⟨u, hu2, qu⟩ := segLw12 (f := f) (cdv := cdv) (A := A) (outer := outer) (s := s) (H := H) (E := E) L hr k
  refine ⟨_, (pss_cons (ps_set (i := 7) sc_law.nd rfl (Or.inl rfl) (pe_callTy call_tuple_of (by rfl) L.T.n_tuple (by decide +kernel) (pa_cons (pv 5) pa_nil)))
    (pss_cons (ps_if (PW.pt (pw_or (pt_cmpR op_eq (pe_callB call_len_seq (by rfl) L.T.b.n_len PySem.boot_len (pa_cons (pv 5) pa_nil)) pe_int (nomark _)) (pw_or1 (pt_cmpR op_eq (pe_cal L.draw (hr.mono (by decide)) rfl (pa_cons (pv 1) (pa_cons pe_int pa_nil))) pe_int (nomark _)))))
      (pss_one (ps_set (i := 7) sc_law.nd rfl (Or.inl rfl) (pe_cal L.com (hr.mono (by decide)) rfl (pa_cons (pv 3) (pa_cons (pe_tup (pa_cons (pe_cal L.draw (hr.mono (by decide)) rfl (pa_cons (pv 1) (pa_cons (pv 2) pa_nil))) (pa_cons (pe_cal L.draw (hr.mono (by decide)) rfl (pa_cons (pv 1) (pa_cons (pv 2) pa_nil))) pa_nil))) (pa_cons (pv 2) pa_nil))))))
      pss_nil) hu2)), ?_⟩
  intro v0 v6 v7 v8 v9 v10 v11 v12 v13 v14 a x l d n ps ts us G n1 n8 hp dr p4 la el pi t1 t4 pm da ed pu gr l28
  have no := fun (v0 v6 v8 v9 v10 v11 v12 v13 v14 : Option V) (tp : Addr) (zs : List Pt) (H4 : Hp) (kk : Lk G H4) (p4' : PoolAt H4 a) (el4 : H4 l = some (.lst (rfs ts))) (ed4 : H4 d = some (.lst (rfs us))) (etp4 : H4 tp = some (.tup (rfs zs))) (pz4 : Pts H4 zs) (lz4 : zs.length ≤ 99) => qu v0 v6 v8 v9 v10 v11 v12 v13 v14 a x l d tp n ps ts us zs H4 n1 n8 p4' (dr.lk kk) p4 la el4 (pi.lk kk) t1 t4 pm da ed4 (pu.lk kk) gr l28 etp4 pz4 lz4
  refine ⟨_, rfl, d, _, rfl, .inl ⟨SqL.of ed, fun td ntd => ?_⟩⟩
  have sa := Same.put (o := .tup (rfs us)) ntd
  have etd : (upd G td (.tup (rfs us))) td = some (.tup (rfs us)) := upd_same
  have p0 := hp.same sa
  have l0 := Lk.of sa
  have el0 := sa _ _ el
  have ed0 := sa _ _ ed
  generalize (upd G td (.tup (rfs us))) = H0 at sa etd p0 l0 el0 ed0 ⊢
  -- drawn anew
  have com : ∀ (G2 : Hp) (v7 : Option V) (Qc : VK), Lk G G2 → PoolAt G2 a → G2 l = some (.lst (rfs ts)) → G2 d = some (.lst (rfs us)) → (∀ (r : Addr) (ws : List Pt) (H' : Hp), Lk G H' → PoolAt H' a → H' l = some (.lst (rfs ts)) → H' d = some (.lst (rfs us)) → H' r = some (.tup (rfs ws)) → Pts H' ws → ws.length ≤ 99 → Qc (.ref r) H') → (tCall spComing [] E0 (tCons (tVar 3) (tCons (tTup (tCons (tCall spDraw [] E0 (tCons (tVar 1) (tCons (tVar 2) tNil))) (tCons (tCall spDraw [] E0 (tCons (tVar 1) (tCons (tVar 2) tNil))) tNil))) (tCons (tVar 2) tNil)))) [v0, some (.ref a), some (.int (n : Int)), some (.ref l), some (.ref x), some (.ref d), v6, v7, v8, v9, v10, v11, v12, v13, v14] G2 Qc := by
    intro G2 v7 Qc lG pG elG edG kq
    have lg : ((n : Int)).natAbs.log2 < 9000 := log_small (b := 8) (by show n < 2 ^ 8; omega) (by decide) (by decide)
    refine ⟨_, rfl, _, rfl, _, rfl, a, (n : Int), rfl, pG, by omega, lg, fun y o y0 y1 hpo => ?_⟩
    obtain ⟨p1, k1⟩ := drawn pG (Keep.refl a G2) hpo
    have l1 := lG.trans (Lk.keep k1 pG p1)
    have el1 := k1 _ _ elG la
    have ed1 := k1 _ _ edG da
    generalize (upd G2 a o) = G3 at p1 k1 l1 el1 ed1 ⊢
    refine ⟨_, rfl, _, rfl, a, (n : Int), rfl, p1, by omega, lg, fun z o z0 z1 hpo => ?_⟩
    obtain ⟨p2, k2⟩ := drawn p1 (Keep.refl a G3) hpo
    have l2 := l1.trans (Lk.keep k2 p1 p2)
    have el2 := k2 _ _ el1 la
    have ed2 := k2 _ _ ed1 da
    generalize (upd G3 a o) = G4 at p2 k2 l2 el2 ed2 ⊢
    obtain ⟨y, rfl⟩ := nat_of y0
    obtain ⟨z, rfl⟩ := nat_of z0
    refine ⟨by show 2 ≤ sizeLine; decide, fun t nt => ?_⟩
    have st := Same.put (o := .tup (prV (y, z))) nt
    have et : (upd G4 t (.tup (prV (y, z)))) t = some (.tup (prV (y, z))) := upd_same
    have l3 := l2.trans (Lk.of st)
    refine ⟨_, rfl, l, t, n, ts, (y, z), rfl, n8, st _ _ el2, pi.lk l3, t4, et, by show y < n; omega, by show z < n; omega, fun r ws H3 s3 er pw lt w1 w64 => ?_⟩
    exact kq r ws H3 (l3.trans (Lk.of s3)) ((p2.same st).same s3) (s3 _ _ (st _ _ el2)) (s3 _ _ (st _ _ ed2)) er pw (by omega)
  refine ⟨_, rfl, d, _, rfl, .inl (SqL.of ed0), rfl, _, rfl, ite2 (fun q => ?_) (fun q => ?_)⟩
  · exact iteT (com H0 _ _ l0 p0 el0 ed0 fun r ws H' lk p' el' ed' er pw lw => no _ _ _ _ _ _ _ _ _ r ws H' lk p' el' ed' er pw lw)
  · refine ⟨_, rfl, a, 3, rfl, p0, by decide, by decide, fun z o z0 z1 hpo => ?_⟩
    obtain ⟨p1, k1⟩ := drawn p0 (Keep.refl a H0) hpo
    have l01 := Lk.keep k1 p0 p1
    have l1 := l0.trans l01
    have el1 := k1 _ _ el0 la
    have ed1 := k1 _ _ ed0 da
    have etd1 := l01.tup etd
    generalize (upd H0 a o) = H1 at p1 k1 l1 el1 ed1 etd1 ⊢
    refine ⟨rfl, _, rfl, iteA ?_ ?_⟩
    · exact com H1 _ _ l1 p1 el1 ed1 fun r ws H' lk p' el' ed' er pw lw => no _ _ _ _ _ _ _ _ _ r ws H' lk p' el' ed' er pw lw
    · exact no _ _ _ _ _ _ _ _ _ td us H1 l1 p1 el1 ed1 etd1 (pu.lk l1) (by omega)
end
end KG
set_option Elab.async false
set_option linter.all false
set_option maxRecDepth 100000
set_option maxHeartbeats 4000000
namespace KG
open PySem L2
section
variable {P : Program} {w : World} {K : PySem.W.Frag} {mg : Str → Option Value} {base : Heap} {Cs : List Addr} {C DC OC CC : Addr}
/-- what is told, twice -/
theorem segLw4 {f : Addr} {cdv : Value} {A : Around} {outer : List Env} {s : Shared} {H : Hp} {E : XK} {Q : VK} (L : LawT P w K mg base Cs C DC OC CC) (hr : Room 14 (XLw P w K mg base f cdv A outer s H E).A) (k : ∀ H', Q (.bl true) H') :
    ∃ u, PSs (XLw P w K mg base f cdv A outer s H E) ((defBody s_law).drop 4) u ∧ ∀ (v0 : Option V) (a x l : Addr) (n : Nat) (ps : List Dp3) (ts : List Prt) (G : Hp), 1 ≤ n → n ≤ 8 → PoolAt G a → IsDraw DC G x n ps → ps.length ≤ 4 → l ≠ a → G l = some (.lst (rfs ts)) → PrtsIn n G ts → 1 ≤ ts.length → ts.length ≤ 4 → (mpD ps).Perm (mps ts) →
      u { nx := fun _ H' => Q .non H', rt := Q } [v0, some (.ref a), some (.int (n : Int)), some (.ref l), some (.ref x), none, none, none, none, none, none, none, none, none, none] G := by
  have h64 := un64 hr
  obtain ⟨u, hu2, qu⟩ := segLw10 (f := f) (cdv := cdv) (A := A) (outer := outer) (s := s) (H := H) (E := E) L hr k
  refine ⟨_, (pss_cons (ps_set (i := 5) sc_law.nd rfl (Or.inr rfl) (pe_cal L.lstk (hr.mono (by decide)) rfl (pa_cons (pv 3) (pa_cons (pv 2) pa_nil))))
    (pss_cons (ps_set (i := 6) sc_law.nd rfl (Or.inl rfl) (pe_cal L.stuck (hr.mono (by decide)) rfl (pa_cons (pv 4) pa_nil)))
    (pss_cons (ps_if (PW.pt (pw_or (pt_not (pt_val (pe_callB call_isi (by rfl) L.T.b.n_isinstance (by decide +kernel) (pa_cons (pv 6) (pa_cons (pe_bltn (v := .ty "list") rfl L.T.n_list (by decide +kernel) rfl) pa_nil))))) (pw_or (pt_cmpR (op_neD (by exact h64)) (pv 6) (pv 5) (nomark _)) (pw_or1 (pt_not (pt_val (pe_callB (cr_all rfl) (by rfl) L.T.n_all PyProof.Rows.boot_all (pa_cons (pe_lc (own := [("_law_pair", 14)]) rfl sc_law.nd (pi_list (pv 6)) (blkOk_by (N := nLw) (sc := defScope s_law) (by decide +kernel)) (fun _ _ _ _ _ => (pg_name (i := 14) sc_law.nd rfl (Or.inl rfl))) (fun _ _ _ _ _ => pts_nil) (fun _ _ _ _ _ => (pe_cal L.isp (hr.mono (by decide)) rfl (pa_cons (pv 2) (pa_cons (pv 14) pa_nil))))) pa_nil))))))))
      (pss_one (ps_ret pe_bl))
      pss_nil)
    (pss_cons (ps_expr (pe_bm PySem.F.plainAttrs_list PySem.F.slot_list_append PySem.F.type_list_append mt_append (pv 6) (pa_cons (pe_tup (pa_cons pe_int (pa_cons pe_int pa_nil))) pa_nil)))
    (pss_cons (ps_expr (pe_bm0 PySem.F.plainAttrs_list PySem.F.slot_list_reverse PySem.F.type_list_reverse mt_reverse (pv 6)))
    (pss_cons (ps_if (pt_cmpR (op_neD (by exact h64)) (pe_cal L.stuck (hr.mono (by decide)) rfl (pa_cons (pv 4) pa_nil)) (pv 5) (nomark _))
      (pss_one (ps_ret pe_bl))
      pss_nil) hu2)))))), ?_⟩
  intro v0 a x l n ps ts G n1 n8 hp dr p4 la el pi t1 t4 pm
  have mw := mps_maps pi
  refine ⟨_, rfl, _, rfl, l, n, ts, rfl, n1, n8, el, pi, t4, fun d us H1 s1 nd ed pu gr cl l28 => ?_⟩
  have fin : ∀ (r : Addr) (ws : List Pt) (S : List (Nat × Nat)), Dw.AbleS n ps.length (mA (mpD ps)) S → ws.map (·.2) = (hvs n).filter (fun p => !decide (p ∈ S)) → ws.map (·.2) = us.map (·.2) := fun r ws S hS q => by
    rw [q, gr.fin mw cl (able_perm pm (by rw [List.length_map]; exact hS))]
  have da := new_ne hp nd
  have p1 := hp.same s1
  have el1 := s1 _ _ el
  refine ⟨_, rfl, x, n, ps, rfl, n1, n8, p4, dr.same s1, fun r ws S H2 s2 nr er pw hS qw => ?_⟩
  have s02 := s1.trans s2
  have p2 := p1.same s2
  have ra := new_ne p1 nr
  have rd : d ≠ r := fun z => by rw [← z, ed] at nr; cases nr
  have rl : l ≠ r := fun z => by rw [← z, el1] at nr; cases nr
  have ed2 := s2 _ _ ed
  have pu2 := pu.same s2
  have qq := fin r ws S hS qw
  refine ⟨_, rfl, .ref r, .ty "list", _, _, true, rfl, .ty _, (Fo.lst er).ty, kit_ty (r := true) (by decide +kernel), _, rfl, iteF ?_⟩
  have d1 := Pts.dp (K := K) pw
  have d2 := Pts.dp (K := K) pu2
  rw [qq] at d1
  refine ⟨_, rfl, _, rfl, _, _, .lst (SqL.of er) d1, .lst (SqL.of ed2) d2, sh_list _, sh_list _, _, rfl, ?_⟩
  rw [eqv_ldIs]
  refine iteF ?_
  have hv : ∀ t ∈ ws, t.2.1 < n ∧ t.2.2 < n := fun t mt => by
    have m := gr.mem (show t.2 ∈ us.map (·.2) by rw [← qq]; exact List.mem_map_of_mem (f := fun t : Pt => t.2) mt)
    have := mem_hvs.mp m
    omega
  have lw : ws.length = us.length := by have := congrArg List.length qq; rw [List.length_map, List.length_map] at this; exact this
  refine ⟨_, rfl, r, rfl, ⟨_, SqL.of er⟩, fun D nD => ?_⟩
  refine lc_list (K := K) (a := r) (xs := rfs ws) (fun i H' => Same H2 H' ∧ H' D = some (.lst ((List.replicate i true).map V.bl))) ⟨Same.put nD, upd_same⟩ (fun i H' _ h => SqL.of (h.1 _ _ er)) ?_ ?_
  · rintro i y H' hy ⟨s3, eD⟩
    obtain ⟨t, ht, mt, rfl⟩ := rfs_at hy
    have il := (List.getElem?_eq_some_iff.mp ht).1
    have et := s3 _ _ (pw t mt)
    refine ⟨rfl, yes_of ?_⟩
    refine ⟨_, rfl, _, rfl, (n : Int), .ref t.1, rfl, .fo (.tup et), fun xs q z mz => ?_, ?_⟩
    · rw [tupAt_of et] at q
      cases q
      rcases List.mem_cons.mp mz with rfl | mz
      · exact .fo (.int _)
      · rw [List.mem_singleton.mp mz]
        exact .fo (.int _)
    · rw [ixp_prOf, prOf_of et (hv t mt).1 (hv t mt).2]
      refine ⟨_, eD, by rw [List.length_map, List.length_replicate]; exact small_len (by omega), Same.but s3 nD, ?_⟩
      rw [upd_same]
      exact congrArg (fun z => some (HO.lst z)) refs_rep
  rintro H3 ⟨s3, eD⟩
  refine ⟨D, _, rfl, SqL.of eD, ?_⟩
  rw [all_true]
  refine ⟨true, rfl, iteF ?_⟩
  have er3 := s3 _ _ er
  refine ⟨_, rfl, .inl ⟨rfl, _, SqL.of er3⟩, by show 2 ≤ sizeLine; decide, fun b nb => ?_⟩
  have sb := Same.put (o := .tup (prV (0, 0))) nb
  have er4 := sb _ _ er3
  have s04 := (s02.trans s3).trans sb
  have l04 := Lk.of s04
  have l14 := Lk.of ((s2.trans s3).trans sb)
  have p4' := hp.same s04
  have el4 := s04 _ _ el
  have ed4 := (s3.trans sb) _ _ ed2
  generalize (upd H3 b (.tup (prV (0, 0)))) = H4 at er4 l04 l14 p4' el4 ed4 ⊢
  refine ⟨r, _, _, rfl, rfl, er4, by rw [rfs_len]; exact small_len (by omega), ?_⟩
  have l45 : Lk H4 (upd H4 r (.lst (rfs ws ++ [.ref b]))) := Lk.put er4
  have er5 : (upd H4 r (.lst (rfs ws ++ [.ref b]))) r = some (.lst (rfs ws ++ [.ref b])) := upd_same
  have p5 := p4'.other (u := .lst (rfs ws ++ [.ref b])) (Ne.symm ra)
  have el5 : (upd H4 r (.lst (rfs ws ++ [.ref b]))) l = some (.lst (rfs ts)) := by rw [upd_ne rl]; exact el4
  have ed5 : (upd H4 r (.lst (rfs ws ++ [.ref b]))) d = some (.lst (rfs us)) := by rw [upd_ne rd]; exact ed4
  show tSeq _ _ _ _ (upd H4 r (.lst (rfs ws ++ [.ref b])))
  generalize (upd H4 r (.lst (rfs ws ++ [.ref b]))) = H5 at l45 er5 p5 el5 ed5 ⊢
  refine ⟨_, rfl, .inl ⟨rfl, _, SqL.of er5⟩, r, _, rfl, rfl, er5, ?_⟩
  generalize (rfs ws ++ [V.ref b]).reverse = zs
  have l56 : Lk H5 (upd H5 r (.lst zs)) := Lk.put er5
  have p6 := p5.other (u := .lst zs) (Ne.symm ra)
  have el6 : (upd H5 r (.lst zs)) l = some (.lst (rfs ts)) := by rw [upd_ne rl]; exact el5
  have ed6 : (upd H5 r (.lst zs)) d = some (.lst (rfs us)) := by rw [upd_ne rd]; exact ed5
  have l06 := (l04.trans l45).trans l56
  have l16 : Lk H1 (upd H5 r (.lst zs)) := (l14.trans l45).trans l56
  show tSeq _ _ _ _ (upd H5 r (.lst zs))
  generalize (upd H5 r (.lst zs)) = H6 at p6 el6 ed6 l06 l16 ⊢
  refine ⟨_, rfl, x, n, ps, rfl, n1, n8, p4, dr.lk l06, fun r2 ws2 S2 H7 s7 nr2 er2 pw2 hS2 qw2 => ?_⟩
  have qq2 := fin r2 ws2 S2 hS2 qw2
  have d3 := Pts.dp (K := K) pw2
  have d4 := Pts.dp (K := K) ((pu.lk l16).same s7)
  rw [qq2] at d3
  have ed7 := s7 _ _ ed6
  refine ⟨_, rfl, _, _, .lst (SqL.of er2) d3, .lst (SqL.of ed7) d4, sh_list _, sh_list _, _, rfl, ?_⟩
  rw [eqv_ldIs]
  refine iteF ?_
  have l07 := l06.trans (Lk.of s7)
  exact qu v0 _ none none none none none none none none a x l d n ps ts us H7 n1 n8 (p6.same s7) (dr.lk l07) p4 la (s7 _ _ el6) (pi.lk l07) t1 t4 pm da ed7 ((pu.lk l16).same s7) gr l28
end
end KG
set_option Elab.async false
set_option linter.all false
set_option maxRecDepth 100000
set_option maxHeartbeats 4000000
namespace KG
open PySem L2
def spLaw (K : PySem.W.Frag) : Sp := fun vs H Q _ => ∃ (a : Addr) (ns : List Int), vs = [.ref a] ∧ SqL K H a (ns.map V.int) ∧ ns.length ≤ 63 ∧ ∀ H', Q (.bl true) H'
section
variable {P : Program} {w : World} {K : PySem.W.Frag} {mg : Str → Option Value} {base : Heap} {Cs : List Addr} {C DC OC CC : Addr}
theorem ok_law {f : Addr} {fd : FuncData} (F : Fun K "law" "law" s_law f fd) (L : LawT P w K mg base Cs C DC OC CC) : FnOk P w K mg base CX0 15 f fd ["_law_script"] (spLaw K) := by
  refine F.ok sc_law (fun vs H Q E h => ?_) (fun cdv A outer s H vs Q E hr h => ?_)
  · obtain ⟨a, ns, rfl, _⟩ := h
    rfl
  · obtain ⟨a, ns, rfl, ha, hl, k⟩ := h
    obtain ⟨u, hu, qu⟩ := segLw4 (f := f) (cdv := cdv) (A := A) (outer := outer) (s := s) (H := H) (E := E) L hr k
    refine ⟨_, (pss_cons (ps_set (i := 1) sc_law.nd rfl (Or.inl rfl) (pe_cal L.pool (hr.mono (by decide)) rfl (pa_cons (pv 0) pa_nil)))
      (pss_cons (ps_set (i := 2) sc_law.nd rfl (Or.inr rfl) (pe_op op_add pe_int (pe_cal L.draw (hr.mono (by decide)) rfl (pa_cons (pv 1) (pa_cons pe_int pa_nil)))))
      (pss_cons (ps_set (i := 3) sc_law.nd rfl (Or.inl rfl) (pe_cal L.gather (hr.mono (by decide)) rfl (pa_cons (pv 1) (pa_cons (pv 2) pa_nil))))
      (pss_cons (ps_set (i := 4) sc_law.nd rfl (Or.inl rfl) (pe_drw L.mD (hr.mono (by decide)) rfl (pa_cons (pe_cal L.given (hr.mono (by decide)) rfl (pa_cons (pv 1) (pa_cons (pe_cal L.turn (hr.mono (by decide)) rfl (pa_cons (pv 1) (pa_cons (pv 3) pa_nil))) pa_nil))) pa_nil))) hu)))), ?_⟩
    refine ⟨_, rfl, a, ns, rfl, ha, hl, fun p H1 s1 np hp => ?_⟩
    refine ⟨_, rfl, p, 6, rfl, hp, by decide, by decide, fun y o y0 y1 ho => ?_⟩
    obtain ⟨p2, k2⟩ := drawn hp (Keep.refl p H1) ho
    generalize (upd H1 p o) = H2 at p2 k2 ⊢
    obtain ⟨y, rfl⟩ := nat_of y0
    refine ⟨_, _, rfl, rfl, ?_⟩
    dsimp only
    rw [show ((1 : Int) + (y : Int)) = ((1 + y : Nat) : Int) by omega]
    refine ⟨_, rfl, _, rfl, p, 1 + y, rfl, p2, by omega, by omega, fun l ts G k3 hp la el pi nd t1 t4 => ?_⟩
    generalize hn : 1 + y = n at pi
    have n1 : 1 ≤ n := by omega
    have n8 : n ≤ 8 := by omega
    refine ⟨_, rfl, _, rfl, _, rfl, p, l, _, rfl, hp, by rw [rfs_len]; omega, el, fun r ys H1 k1 p1 ra nr er pm => ?_⟩
    obtain ⟨us, rfl, pu⟩ := perm_map pm
    have el1 := k1 _ _ el la
    have pi1 := pi.keep k1 hp
    have piU : PrtsIn n H1 us := fun t m => pi1 t (pu.mem_iff.mp m)
    have lu := pu.length_eq
    refine ⟨p, r, n, us, rfl, p1, ra, er, piU, by omega, by omega, fun g gs H2 k2 p2 eg qg ig => ?_⟩
    have el2 := k2 _ _ el1 la
    have pi2 := pi1.keep k2 p1
    obtain ⟨tl, tle⟩ := tops_le piU
    have mpq : mps gs = mps us := by
      have := congrArg (List.map fun q : Nat × (Addr × List Nat) => q.2.2) qg
      rw [List.map_map, List.map_map] at this
      exact this
    have tpq : topsOf gs = topsOf us := by
      have := congrArg (List.map fun q : Nat × (Addr × List Nat) => q.1) qg
      rw [List.map_map, List.map_map] at this
      exact this
    have lg : gs.length = us.length := by have := congrArg List.length qg; rw [List.length_map, List.length_map] at this; exact this
    have W1 : 1 ≤ (topsOf us).sum := by
      have m0 : us[0]? = some (us[0]'(by omega)) := List.getElem?_eq_getElem _
      have mm := List.mem_of_getElem? m0
      have := tle _ mm
      have := (piU _ mm).2.2.1
      omega
    have tgs : ∀ u ∈ gs, u.2.1 ≤ (topsOf us).sum := fun u mu => by
      have : u.2.1 ∈ topsOf us := by rw [← tpq]; exact List.mem_map_of_mem (f := fun t : Prt => t.2.1) mu
      obtain ⟨v, mv, e⟩ := List.mem_map.mp this
      rw [← e]
      exact tle v mv
    have pmu : (mps us).Perm (mps ts) := pu.map _
    have ndg : (mps gs).Nodup := by rw [mpq]; exact pmu.nodup_iff.mpr nd
    intro x dx hx hd ne
    refine drw_go hx hd ne n1 n8 W1 (by omega) eg ig tgs ndg (by rw [tpq]) (by omega) (by omega) fun pt ps H3 s3 ex dm => ⟨rfl, ?_⟩
    have dr := dm.isDraw ex
    have el3 := s3 _ _ el2
    have pi3 := pi2.same s3
    have prm := dm.2.2.2.2
    rw [show (gs.map fun u => (u.2.1, u.2.2.2)).map (·.2) = mps gs by rw [List.map_map]; rfl, mpq] at prm
    have lps : ps.length ≤ 4 := by have := prm.length_eq; rw [List.length_map, List.length_map] at this; omega
    subst hn
    exact qu _ p x l _ ps ts H3 n1 n8 (p2.same s3) dr lps la el3 pi3 t1 t4 (prm.trans pmu)
end
end KG
set_option Elab.async false
set_option linter.all false
set_option maxRecDepth 100000
set_option maxHeartbeats 4000000
namespace KG
open PySem L2
section
variable {P : Program} {w : World} {K : PySem.W.Frag} {mg : Str → Option Value} {base : Heap} {C B : Addr}
abbrev s_from0 : Stmt := top 30
theorem sc_from0 : FnScope ["thing"] ["thing"] (defScope s_from0) := ⟨rfl, rfl, rfl, by decide +kernel, rfl, by decide +kernel, by decide +kernel⟩
theorem ok_from0 {f : Addr} {fd : FuncData} (F : Fun K "is_from_zero" "is_from_zero" s_from0 f fd) (T : ShT K mg C) (c_is : Cal P w K mg base 2 "is_share" ["thing"] (spIsShare K C)) (c_of : Cal P w K mg base 6 "share_of" ["thing"] (spShareOf C)) (ls : LsT P w K mg base C) :
    FnOk P w K mg base CX0 8 f fd ["thing"] (spFrom0 K C) := by
  obtain ⟨g, gd, M, G, bG⟩ := ls.ex
  refine F.ok sc_from0 (fun vs H Q E h => ?_) (fun cdv A outer s H vs Q E hr h => ?_)
  · obtain ⟨x, rfl, _⟩ := h
    rfl
  · obtain ⟨x, rfl, h⟩ := h
    refine ⟨_, (pss_one (ps_ret (pe_and (pe_cal c_is (hr.mono (by decide)) rfl (pa_cons (pv 0) pa_nil)) (pe_one (pe_not (pe_meth (pl := _) (pe_cal c_of (hr.mono (by decide)) rfl (pa_cons (pv 0) pa_nil)) T.it.cl M G hr bG .nil pass0 (pa_cons pe_int pa_nil))))))), ?_⟩
    rcases h with ⟨S, D, hx, hD, hS, hDb, k⟩ | ⟨T', fo, ix, k⟩
    · refine ⟨_, rfl, x, rfl, .inl ⟨_, _, hx, _, rfl, iteT ?_⟩⟩
      refine ⟨_, rfl, x, _, _, rfl, hx, fun a dx H1 s1 e1 => ⟨a, dx, _, rfl, e1, less_none _ _, a, dx, .int 0, _, _, 0, 1, rfl, e1, .inl ⟨rfl, rfl⟩, low_of hD hS hDb, Low.one (by decide +kernel), fun H2 s2 => ⟨_, rfl, ?_⟩⟩⟩
      have h := low_lt (S := S) (S' := 0 * D) hD
      rw [(low_whole hD).1, (low_whole hD).2, Int.zero_mul] at h
      have e : (!decide (lowT S D * 1 < 0 * lowB S D)) = decide (0 ≤ S) := by
        rw [Bool.eq_iff_iff]
        simp only [Bool.not_eq_true', decide_eq_false_iff_not, decide_eq_true_eq]
        rw [Int.zero_mul, h]
        omega
      rw [e]
      exact k H2 (s1.trans s2)
    · exact ⟨_, rfl, x, rfl, .inr ⟨T', fo, ix, _, rfl, iteF (k H (Same.refl H))⟩⟩
abbrev s_spread : Stmt := top 32
theorem sc_spread : FnScope ["many", "thing", "part"] ["many", "thing"] (defScope s_spread) := ⟨rfl, rfl, rfl, by decide +kernel, rfl, by decide +kernel, by decide +kernel⟩
theorem ok_spread {f : Addr} {fd : FuncData} (F : Fun K "is_spread" "is_spread" s_spread f fd) (n_all : mg "all" = none) (c_tup : Cal P w K mg base 1 "is_tuple_of" ["many", "thing"] (spTupOf K C)) (c_f0 : Cal P w K mg base 8 "is_from_zero" ["thing"] (spFrom0 K C)) (c_total : Cal P w K mg base 10 "total" ["row"] (spTotal K C)) (c_eq : EqT P w K mg base C) :
    FnOk P w K mg base CX0 11 f fd ["many", "thing"] (spSpread K C) := by
  refine F.ok sc_spread (fun vs H Q E h => ?_) (fun cdv A outer s H vs Q E hr h => ?_)
  · obtain ⟨many, x, rfl, _⟩ := h
    rfl
  · obtain ⟨many, x, rfl, h⟩ := h
    obtain ⟨r1, o1, q1⟩ := EqT.op (X := (cxOf CX0 P w K mg base ["many", "thing", "part"] "is_spread" (defScope s_spread) f cdv A outer s H E).nox) is_eq c_eq (hr.mono (by decide))
    refine ⟨_, (pss_cons (ps_if (PW.pt (pw_or (pt_not (pt_val (pe_cal c_tup (hr.mono (by decide)) rfl (pa_cons (pv 0) (pa_cons (pv 1) pa_nil))))) (pw_or1 (pt_not (pt_val (pe_callB (cr_all rfl) (by rfl) n_all PyProof.Rows.boot_all (pa_cons (pe_lc (own := [("part", 2)]) rfl sc_spread.nd (pi_tup (pv 1)) (blkOk_by (N := ["many", "thing", "part"]) (sc := defScope s_spread) (by decide +kernel)) (fun _ _ _ _ _ => (pg_name (i := 2) sc_spread.nd rfl (Or.inl rfl))) (fun _ _ _ _ _ => pts_nil) (fun _ _ _ _ _ => (pe_cal c_f0 (hr.mono (by decide)) rfl (pa_cons (pv 2) pa_nil)))) pa_nil)))))))
        (pss_one (ps_ret pe_bl))
        pss_nil)
      (pss_one (ps_ret (pe_cmpR o1 (pe_cal c_total (hr.mono (by decide)) rfl (pa_cons (pv 1) pa_nil)) pe_int (nomark _))))), ?_⟩
    rcases h with ⟨t, xs, os, D, rfl, e, it, hD, hDb, hlen, k⟩ | ⟨nt, k⟩
    · refine ⟨_, rfl, _, rfl, many, .ref t, rfl, .inl ⟨t, xs, rfl, e, _, rfl, ?_⟩⟩
      cases hb : decide (V.int (xs.length : Int) = V.int many) with
      | false =>
        refine iteT ?_
        have k2 := k H (Same.refl H)
        rw [hb, Bool.false_and] at k2
        exact k2
      | true =>
        refine iteF ⟨_, rfl, t, rfl, ⟨_, SqT.of e⟩, fun L nL => ?_⟩
        refine lc_tup (K := K) (a := t) (xs := xs) (fun i H' => Same H H' ∧ H' L = some (.lst ((os.take i).map fun o => V.bl (from0 o)))) ⟨Same.put nL, upd_same⟩ (fun i H' _ p => SqT.of (p.1 _ _ e)) ?_ ?_
        · rintro i x H' hx ⟨s1, eL⟩
          obtain ⟨o, ho, io⟩ := (it.same s1).2 i x hx
          have hi : i < os.length := (List.getElem?_eq_some_iff.mp ho).1
          refine ⟨rfl, yes_of ?_⟩
          have fin : ∀ H2, Same H' H2 → ∃ acc, H2 L = some (.lst acc) ∧ acc.length < sizeLine ∧ Same H (upd H2 L (.lst (acc ++ [V.bl (from0 o)]))) ∧ (upd H2 L (.lst (acc ++ [V.bl (from0 o)]))) L = some (.lst ((os.take (i + 1)).map fun o => V.bl (from0 o))) := fun H2 s2 => by
            refine ⟨_, s2 _ _ eL, ?_, ?_, ?_⟩
            · rw [List.length_map, List.length_take]
              exact small1000 (by omega)
            · refine fun b u hu => ?_
              rw [upd_ne (ne_of_none hu nL)]
              exact s2 _ _ (s1 _ _ hu)
            · rw [upd_same, take_more ho, List.map_append]
              rfl
          refine ⟨_, rfl, x, rfl, ?_⟩
          cases o with
          | some S => exact .inl ⟨S, D, io.1, hD, Nat.lt_trans io.2 (by decide +kernel), hDb, fin⟩
          | none =>
            obtain ⟨T', fo, ix⟩ := io
            exact .inr ⟨T', fo, ix, fin⟩
        · rintro H1 ⟨s1, eL⟩
          rw [it.1, List.take_length] at eL
          refine ⟨L, os.map from0, rfl, SqL.of (by rw [List.map_map]; exact eL), _, rfl, ?_⟩
          cases ha : (os.map from0).all id with
          | false =>
            refine iteT ?_
            have k2 := k H1 s1
            unfold sprB at k2
            rw [hb, ha, Bool.false_and, Bool.and_false] at k2
            exact k2
          | true =>
            refine iteF ?_
            obtain ⟨nums, small⟩ := (it.same s1).nums ha
            refine ⟨_, rfl, t, xs, os.map (·.getD 0), D, rfl, SqT.of (s1 _ _ e), nums, hD, hDb, by rw [List.length_map]; exact hlen, small, fun a dx H2 s2 e2 => ?_⟩
            obtain ⟨c1, c2⟩ := cmp_fo (K := K) (C := C) (y := .int 1) (b := sprB D os) e2 (.int 1) (by
              unfold sprB
              rw [ha, Bool.true_and, Bool.eq_iff_iff]
              have h := low_one_iff (S := (os.map (·.getD 0)).sum) hD
              simp only [isI, Bool.true_and, Bool.and_eq_true, decide_eq_true_eq, V.int.injEq]
              rw [← h]
              exact And.comm)
            have k2 := k H2 (s1.trans s2)
            rw [hb, Bool.true_and] at k2
            exact q1 _ _ _ _ _ c1 k2
    · refine ⟨_, rfl, _, rfl, many, x, rfl, .inr ⟨nt, _, rfl, iteT (k H (Same.refl H))⟩⟩
end
end KG
set_option Elab.async false
set_option linter.all false
set_option maxRecDepth 100000
set_option maxHeartbeats 4000000
/-! sorted(xs), xs a list of tuples of ints, the empty one among them: any length, any lengths -/
namespace L2
open PySem PySem.Spec PyProof.Rows
end L2
set_option Elab.async false
set_option linter.all false
set_option maxRecDepth 100000
set_option maxHeartbeats 4000000
namespace KGo
open PySem L2
def top (i : Nat) : Stmt := PySem.Challenge.pw_bothwalks_k71_stuck_pairs_and_their_judg.main.body.getD i (.Pass ⟨0, 0, 0, 0⟩)
/-- a def of the text that stands, is kept and keeps its promise; nothing leaves it -/
structure Cal (P : Program) (w : World) (K : PySem.W.Frag) (mg : Str → Option Value) (base : Heap) (k : Nat) (x : Str) (ps : List Str) (sp : Sp) : Prop where
  ex : ∃ (f : Addr) (fd : FuncData), mg x = some (.ref f) ∧ PySem.W.keepIn K (.ref f) = true ∧ FnOk P w K mg base CX0 k f fd ps sp ∧ Binds K fd ps []
section
variable {X : Cx} {k : Nat} {ps : List Str} {sp : Sp} {x : Str} {p pos : Pos} {e : Expr} {es : List Expr} {t : TA}
theorem pe_cal (c : Cal X.prog X.w X.K X.mg X.base k x ps sp) (hr : Room k X.A) (hg : Gl X x) (ha : PA X (e :: es) t) (hdb : (x == ("__debug__" : Str)) = false := by decide)
    (he : starEach (e :: es) X.env = (false, eval e X.env) :: starEach es X.env := by rfl) (hpl : (backTo pos (starEach es X.env)).any (·.1) = false := by rfl) :
    PE X (.Call (.Name x p) (e :: es) [] pos) (tCall sp [] E0 t) := by
  obtain ⟨f, fd, hm, hk, F, hb⟩ := c.ex
  exact pe_call F hr hg hm hk hb .nil pass0 ha hdb he hpl
end
/-- the built-in names that stand as they are -/
structure Bn (mg : Str → Option Value) : Prop where
  n_isinstance : mg "isinstance" = none
  n_int : mg "int" = none
  n_bool : mg "bool" = none
  n_abs : mg "abs" = none
  n_len : mg "len" = none
  n_list : mg "list" = none
  n_tuple : mg "tuple" = none
  n_range : mg "range" = none
  n_all : mg "all" = none
  n_any : mg "any" = none
  n_sum : mg "sum" = none
  n_sorted : mg "sorted" = none
theorem iteB {c : Bool} {A B : Prop} (h1 : c = true → A) (h2 : c = false → B) : if c = true then A else B := by
  cases c
  · rw [if_neg (by decide)]
    exact h2 rfl
  · rw [if_pos rfl]
    exact h1 rfl
section
variable {P : Program} {w : World} {K : PySem.W.Frag} {mg : Str → Option Value} {base : Heap}
/-- is_whole(i) -/
def spWhole : Sp := fun vs H Q _ => ∃ i : Int, vs = [.int i] ∧ Q (.bl true) H
abbrev s_is_whole : Stmt := top 11
theorem sc_is_whole : FnScope ["thing"] ["thing"] (defScope s_is_whole) := ⟨rfl, rfl, rfl, by decide +kernel, rfl, by decide +kernel, by decide +kernel⟩
theorem ok_is_whole {f : Addr} {fd : FuncData} (F : Fun K "is_whole" "is_whole" s_is_whole f fd) (T : Bn mg) : FnOk P w K mg base CX0 1 f fd ["thing"] spWhole := by
  refine F.ok sc_is_whole (fun vs H Q E h => ?_) (fun cdv A outer s H vs Q E hr h => ?_)
  · obtain ⟨i, rfl, _⟩ := h
    rfl
  · obtain ⟨i, rfl, k⟩ := h
    refine ⟨_, (pss_one (ps_ret (pe_and (pe_callB call_isi (by rfl) T.n_isinstance (by decide +kernel) (pa_cons (pv 0) (pa_cons (pe_bltn (v := .ty "int") rfl T.n_int (by decide +kernel) rfl) pa_nil))) (pe_one (pe_not (pe_callB call_isi (by rfl) T.n_isinstance (by decide +kernel) (pa_cons (pv 0) (pa_cons (pe_bltn (v := .ty "bool") rfl T.n_bool (by decide +kernel) rfl) pa_nil)))))))), ?_⟩
    refine ⟨_, rfl, .int i, .ty "int", _, _, true, rfl, .ty _, (.base (.int i)), kit_ty (r := true) (by decide +kernel), _, rfl, iteT ?_⟩
    exact ⟨_, rfl, .int i, .ty "bool", _, _, false, rfl, .ty _, (.base (.int i)), kit_ty (r := false) (by decide +kernel), _, rfl, k⟩
/-- is_between(least, most, i) -/
def spBetween : Sp := fun vs H Q _ => ∃ a b i : Int, vs = [.int a, .int b, .int i] ∧ a ≤ i ∧ i ≤ b ∧ Q (.bl true) H
abbrev s_is_between : Stmt := top 12
theorem sc_is_between : FnScope ["least", "most", "thing"] ["least", "most", "thing"] (defScope s_is_between) := ⟨rfl, rfl, rfl, by decide +kernel, rfl, by decide +kernel, by decide +kernel⟩
theorem ok_is_between {f : Addr} {fd : FuncData} (F : Fun K "is_between" "is_between" s_is_between f fd) (c_is_whole : Cal P w K mg base 1 "is_whole" ["thing"] spWhole) : FnOk P w K mg base CX0 2 f fd ["least", "most", "thing"] spBetween := by
  refine F.ok sc_is_between (fun vs H Q E h => ?_) (fun cdv A outer s H vs Q E hr h => ?_)
  · obtain ⟨a, b, i, rfl, _⟩ := h
    rfl
  · obtain ⟨a, b, i, rfl, h1, h2, k⟩ := h
    refine ⟨_, (pss_one (ps_ret (pe_and (pe_cal c_is_whole (hr.mono (by decide)) rfl (pa_cons (pv 2) pa_nil)) (pe_one (pe_chain op_le op_le (pv 0) (pv 2) (pv 1)))))), ?_⟩
    refine ⟨_, rfl, i, rfl, _, rfl, iteT ?_⟩
    refine ⟨_, rfl, _, rfl, a, i, rfl, rfl, _, rfl, ?_⟩
    rw [decide_eq_true h1]
    refine iteT ⟨_, rfl, i, b, rfl, rfl, ?_⟩
    show Q (.bl (decide (i ≤ b))) H
    rw [decide_eq_true h2]
    exact k
/-- is_index(many, i) -/
def spIndex : Sp := fun vs H Q _ => ∃ n i : Int, vs = [.int n, .int i] ∧ 0 ≤ i ∧ i < n ∧ Q (.bl true) H
abbrev s_is_index : Stmt := top 13
theorem sc_is_index : FnScope ["many", "thing"] ["many", "thing"] (defScope s_is_index) := ⟨rfl, rfl, rfl, by decide +kernel, rfl, by decide +kernel, by decide +kernel⟩
theorem ok_is_index {f : Addr} {fd : FuncData} (F : Fun K "is_index" "is_index" s_is_index f fd) (c_is_between : Cal P w K mg base 2 "is_between" ["least", "most", "thing"] spBetween) : FnOk P w K mg base CX0 3 f fd ["many", "thing"] spIndex := by
  refine F.ok sc_is_index (fun vs H Q E h => ?_) (fun cdv A outer s H vs Q E hr h => ?_)
  · obtain ⟨n, i, rfl, _⟩ := h
    rfl
  · obtain ⟨n, i, rfl, h1, h2, k⟩ := h
    refine ⟨_, (pss_one (ps_ret (pe_cal c_is_between (hr.mono (by decide)) rfl (pa_cons pe_int (pa_cons (pe_op op_sub (pv 0) pe_int) (pa_cons (pv 1) pa_nil)))))), ?_⟩
    exact ⟨_, rfl, _, _, rfl, rfl, _, rfl, 0, n - 1, i, rfl, h1, by omega, k⟩
/-- is_tuple_of(2, t) -/
def spTup2 : Sp := fun vs H Q _ => ∃ (t : Addr) (x y : V), vs = [.int 2, .ref t] ∧ H t = some (.tup [x, y]) ∧ Q (.bl true) H
abbrev s_is_tuple_of : Stmt := top 17
theorem sc_is_tuple_of : FnScope ["many", "thing"] ["many", "thing"] (defScope s_is_tuple_of) := ⟨rfl, rfl, rfl, by decide +kernel, rfl, by decide +kernel, by decide +kernel⟩
theorem ok_is_tuple_of {f : Addr} {fd : FuncData} (F : Fun K "is_tuple_of" "is_tuple_of" s_is_tuple_of f fd) (T : Bn mg) : FnOk P w K mg base CX0 1 f fd ["many", "thing"] spTup2 := by
  refine F.ok sc_is_tuple_of (fun vs H Q E h => ?_) (fun cdv A outer s H vs Q E hr h => ?_)
  · obtain ⟨t, x, y, rfl, _⟩ := h
    rfl
  · obtain ⟨t, x, y, rfl, e, k⟩ := h
    refine ⟨_, (pss_one (ps_ret (pe_and (pe_callB call_isi (by rfl) T.n_isinstance (by decide +kernel) (pa_cons (pv 1) (pa_cons (pe_bltn (v := .ty "tuple") rfl T.n_tuple (by decide +kernel) rfl) pa_nil))) (pe_one (pe_cmpR op_eq (pe_callB call_len_seq (by rfl) T.n_len PySem.boot_len (pa_cons (pv 1) pa_nil)) (pv 0) (nomark _)))))), ?_⟩
    refine ⟨_, rfl, .ref t, .ty "tuple", _, _, true, rfl, .ty _, .base (.tup e), kit_ty (r := true) (by decide +kernel), _, rfl, iteT ?_⟩
    exact ⟨_, rfl, t, _, rfl, .inr (.inl (.inl e)), _, rfl, rfl, k⟩
theorem at0 {x y : V} : atI [x, y] 0 = some x := atI_nat (j := 0) rfl
theorem at1 {x y : V} : atI [x, y] 1 = some y := atI_nat (j := 1) rfl
/-- is_index_pair(n, t) -/
def spIxPair : Sp := fun vs H Q _ => ∃ (n : Int) (t : Addr) (x y : Int), vs = [.int n, .ref t] ∧ H t = some (.tup [.int x, .int y]) ∧ 0 ≤ x ∧ x < n ∧ 0 ≤ y ∧ y < n ∧ Q (.bl true) H
abbrev s_is_index_pair : Stmt := top 20
theorem sc_is_index_pair : FnScope ["many", "thing"] ["many", "thing"] (defScope s_is_index_pair) := ⟨rfl, rfl, rfl, by decide +kernel, rfl, by decide +kernel, by decide +kernel⟩
theorem ok_is_index_pair {f : Addr} {fd : FuncData} (F : Fun K "is_index_pair" "is_index_pair" s_is_index_pair f fd) (c_is_tuple_of : Cal P w K mg base 1 "is_tuple_of" ["many", "thing"] spTup2) (c_is_index : Cal P w K mg base 3 "is_index" ["many", "thing"] spIndex) :
    FnOk P w K mg base CX0 4 f fd ["many", "thing"] spIxPair := by
  refine F.ok sc_is_index_pair (fun vs H Q E h => ?_) (fun cdv A outer s H vs Q E hr h => ?_)
  · obtain ⟨n, t, x, y, rfl, _⟩ := h
    rfl
  · obtain ⟨n, t, x, y, rfl, e, x0, x1, y0, y1, k⟩ := h
    refine ⟨_, (pss_one (ps_ret (pe_and (pe_cal c_is_tuple_of (hr.mono (by decide)) rfl (pa_cons pe_int (pa_cons (pv 1) pa_nil))) (pe_and (pe_cal c_is_index (hr.mono (by decide)) rfl (pa_cons (pv 0) (pa_cons (pe_ix ix_tup (pv 1) pe_int (fun _ _ => rfl)) pa_nil))) (pe_one (pe_cal c_is_index (hr.mono (by decide)) rfl (pa_cons (pv 0) (pa_cons (pe_ix ix_tup (pv 1) pe_int (fun _ _ => rfl)) pa_nil)))))))), ?_⟩
    refine ⟨_, rfl, t, _, _, rfl, e, _, rfl, iteT ?_⟩
    refine ⟨_, rfl, _, rfl, t, _, _, _, rfl, rfl, SqT.of e, at0, n, x, rfl, x0, x1, _, rfl, iteT ?_⟩
    exact ⟨_, rfl, _, rfl, t, _, _, _, rfl, rfl, SqT.of e, at1, n, y, rfl, y0, y1, k⟩
end
end KGo
set_option Elab.async false
set_option linter.all false
set_option maxRecDepth 100000
set_option maxHeartbeats 4000000
namespace KGo
open PySem L2
/-! ### the pool of the draws -/
/-- its list: a number below 2 ^ 64, and what is left of the greatest cell -/
def PoolL (o : HO) : Prop := ∃ n g : Int, o = .lst [.int n, .int g] ∧ 0 ≤ n ∧ n < 2 ^ 64 ∧ 0 ≤ g
def PoolAt (H : Hp) (a : Addr) : Prop := ∃ o, H a = some o ∧ PoolL o
theorem PoolAt.put {H : Hp} {a : Addr} {o : HO} (h : PoolL o) : PoolAt (upd H a o) a := ⟨o, upd_same, h⟩
/-- all that was tracked, but the pool, stands -/
def Keep (a : Addr) (H H' : Hp) : Prop := ∀ b o, H b = some o → b ≠ a → H' b = some o
theorem Keep.refl (a : Addr) (H : Hp) : Keep a H H := fun _ _ h _ => h
theorem Keep.trans {a : Addr} {H H1 H2 : Hp} (x : Keep a H H1) (y : Keep a H1 H2) : Keep a H H2 := fun b o h n => y b o (x b o h n) n
theorem Keep.put {a : Addr} {H : Hp} (o : HO) : Keep a H (upd H a o) := fun b u h n => by rw [upd_ne n]; exact h
theorem Keep.of {a : Addr} {H H' : Hp} (s : Same H H') : Keep a H H' := fun b o h _ => s b o h
theorem Same.put {H : Hp} {p : Addr} {o : HO} (h : H p = none) : Same H (upd H p o) := fun b u e => by rw [upd_ne (ne_of_none e h)]; exact e
theorem PoolAt.new {H : Hp} {a p : Addr} {o : HO} (h : PoolAt H a) (hp : H p = none) : PoolAt (upd H p o) a := by
  obtain ⟨u, e, q⟩ := h
  exact ⟨u, by rw [upd_ne (ne_of_none e hp)]; exact e, q⟩
theorem PoolAt.same {H H' : Hp} {a : Addr} (h : PoolAt H a) (s : Same H H') : PoolAt H' a := by
  obtain ⟨u, e, q⟩ := h
  exact ⟨u, s _ _ e, q⟩
theorem PoolAt.ne {H : Hp} {a b : Addr} {xs : List V} (h : PoolAt H a) (e : H b = some (.tup xs)) : b ≠ a := fun z => by
  obtain ⟨u, e2, n, g, q, _⟩ := h
  rw [z, e2, q] at e
  cases e
theorem PoolAt.nei {H : Hp} {a b C dx : Addr} {fs : List (Str × V)} (h : PoolAt H a) (e : H b = some (.ins C dx fs)) : b ≠ a := fun z => by
  obtain ⟨u, e2, n, g, q, _⟩ := h
  rw [z, e2, q] at e
  cases e
theorem SqT.put {K : PySem.W.Frag} {H : Hp} {a t : Addr} {xs : List V} {o : HO} (h : PoolAt H a) (s : SqT K H t xs) : SqT K (upd H a o) t xs := by
  obtain ⟨u, e2, n, g, q, _⟩ := h
  rcases s with (s | ⟨ob, s⟩) | s
  · refine .inl (.inl ?_)
    rw [upd_ne (fun z => by rw [z, e2, q] at s; cases s)]
    exact s
  · refine .inl (.inr ⟨ob, ?_⟩)
    rw [upd_ne (fun z => by rw [z, e2, q] at s; cases s)]
    exact s
  · exact .inr s
end KGo
set_option Elab.async false
set_option linter.all false
set_option maxRecDepth 100000
set_option maxHeartbeats 4000000
namespace KGo
open PySem L2
theorem take_more {α : Type} : ∀ {l : List α} {i : Nat} {x : α}, l[i]? = some x → l.take (i + 1) = l.take i ++ [x]
  | [], i, x, h => by simp at h
  | a :: l, 0, x, h => by
    have e : a = x := Option.some.inj h
    subst e
    rfl
  | a :: l, i + 1, x, h => by
    have ih := take_more (l := l) (i := i) (x := x) h
    show a :: l.take (i + 1) = a :: l.take i ++ [x]
    rw [ih]
    rfl
theorem yes_of {σ : St} {H : Hp} {A B : Hp → Prop} (h : A H) : tYes σ H (fun b H3 => if b = true then A H3 else B H3) := by
  show (if true = true then A H else B H)
  rw [if_pos rfl]
  exact h
end KGo
set_option Elab.async false
set_option linter.all false
set_option maxRecDepth 100000
set_option maxHeartbeats 4000000
/-! the mathematics of k56 -/
namespace KGo
/-! ### closures -/
abbrev Rl := Nat → Nat → Bool
def wstep (R : Rl) (m : Nat) : Rl := fun s t => R s t || (R s m && R m t)
def wars (R : Rl) : Nat → Rl
  | 0 => R
  | m + 1 => wstep (wars R m) m
theorem wstep_iff {R : Rl} {m s t : Nat} : wstep R m s t = true ↔ R s t = true ∨ (R s m = true ∧ R m t = true) := by
  unfold wstep
  rw [Bool.or_eq_true, Bool.and_eq_true]
/-- what is asked of all of R's pairs stays so, if it goes through -/
theorem wars_keep {R : Rl} (C : Nat → Nat → Prop) (tr : ∀ s m t, C s m → C m t → C s t) (h : ∀ s t, R s t = true → C s t) : ∀ n s t, wars R n s t = true → C s t
  | 0, s, t, q => h s t q
  | n + 1, s, t, q => by
    rcases wstep_iff.mp q with q | ⟨q1, q2⟩
    · exact wars_keep C tr h n s t q
    · exact tr s n t (wars_keep C tr h n s n q1) (wars_keep C tr h n n t q2)
/-! ### pairs, up sets -/
def prs (n : Nat) : List (Nat × Nat) := (List.range n).flatMap fun s => (List.range n).map fun t => (s, t)
theorem mem_prs {n : Nat} {p : Nat × Nat} : p ∈ prs n ↔ p.1 < n ∧ p.2 < n := by
  unfold prs
  rw [List.mem_flatMap]
  constructor
  · rintro ⟨s, hs, h⟩
    obtain ⟨t, ht, rfl⟩ := List.mem_map.mp h
    exact ⟨List.mem_range.mp hs, List.mem_range.mp ht⟩
  · rintro ⟨h1, h2⟩
    exact ⟨p.1, List.mem_range.mpr h1, List.mem_map.mpr ⟨p.2, List.mem_range.mpr h2, rfl⟩⟩
def keepB (R : Rl) (p : Nat × Nat) : Bool := decide (p.1 ≠ p.2) && R p.1 p.2
def lowL (n : Nat) (R : Rl) : List (Nat × Nat) := (prs n).filter (keepB R)
theorem mem_low {n : Nat} {R : Rl} {p : Nat × Nat} : p ∈ lowL n R ↔ p.1 < n ∧ p.2 < n ∧ p.1 ≠ p.2 ∧ R p.1 p.2 = true := by
  unfold lowL keepB
  rw [List.mem_filter, mem_prs, Bool.and_eq_true, decide_eq_true_eq, and_assoc]
/-! ### the other way about -/
/-! ### the line -/
end KGo
set_option Elab.async false
set_option linter.all false
set_option maxRecDepth 100000
set_option maxHeartbeats 4000000
namespace KGo
open PySem L2
/-! ### lists of pairs, each in a tuple of its own -/
abbrev Pt := Addr × Nat × Nat
abbrev rfs {α : Type} (ts : List (Addr × α)) : List V := ts.map fun t => V.ref t.1
abbrev prV (p : Nat × Nat) : List V := [.int (p.1 : Int), .int (p.2 : Int)]
def Pts (H : Hp) (ts : List Pt) : Prop := ∀ t ∈ ts, H t.1 = some (.tup (prV t.2))
theorem Pts.same {H H' : Hp} {ts : List Pt} (h : Pts H ts) (s : Same H H') : Pts H' ts := fun t m => s _ _ (h t m)
theorem Pts.snoc {H : Hp} {ts : List Pt} {t : Pt} (h : Pts H ts) (e : H t.1 = some (.tup (prV t.2))) : Pts H (ts ++ [t]) := fun u m => by
  rcases List.mem_append.mp m with m | m
  · exact h u m
  · rw [List.mem_singleton.mp m]; exact e
theorem rfs_snoc {α : Type} {ts : List (Addr × α)} {t : Addr × α} : rfs (ts ++ [t]) = rfs ts ++ [V.ref t.1] := by rw [rfs, List.map_append]; rfl
theorem rfs_len {α : Type} {ts : List (Addr × α)} : (rfs ts).length = ts.length := List.length_map _
theorem rfs_at {α : Type} {ts : List (Addr × α)} {i : Nat} {x : V} (h : (rfs ts)[i]? = some x) : ∃ t, ts[i]? = some t ∧ t ∈ ts ∧ x = .ref t.1 := by
  rw [rfs, List.getElem?_map] at h
  cases e : ts[i]? with
  | none => rw [e] at h; cases h
  | some t => rw [e] at h; exact ⟨t, rfl, List.mem_of_getElem? e, (Option.some.inj h).symm⟩
theorem Same.but {H H' : Hp} {D : Addr} {o : HO} (h : ∀ b u, H b = some u → H' b = some u) (n : H D = none) : ∀ b u, H b = some u → (upd H' D o) b = some u := fun b u e => by
  rw [upd_ne (ne_of_none e n)]
  exact h b u e
theorem small_len {n : Nat} (h : n ≤ 1000) : n < sizeLine := small1000 h
/-- index_pairs(n) -/
def spIxPrs : Sp := fun vs H Q _ => ∃ n : Nat, vs = [.int (n : Int)] ∧ n ≤ 8 ∧ ∀ (l : Addr) (ts : List Pt) (H' : Hp), Same H H' → H' l = some (.lst (rfs ts)) → Pts H' ts → ts.map (·.2) = prs n → Q (.ref l) H'
theorem prs_len : ∀ n : Nat, n ≤ 8 → (prs n).length ≤ 64 := by
  have h : ∀ n : Fin 9, (prs n).length ≤ 64 := by decide +kernel
  intro n hn
  exact h ⟨n, by omega⟩
def rowsTo (n i : Nat) : List (Nat × Nat) := (List.range i).flatMap fun s => (List.range n).map fun t => (s, t)
theorem rowsTo_succ (n i : Nat) : rowsTo n (i + 1) = rowsTo n i ++ (List.range n).map fun t => (i, t) := by
  unfold rowsTo
  rw [List.range_succ, List.flatMap_append]
  congr 1
  simp
theorem rowsTo_len (n : Nat) : ∀ i, (rowsTo n i).length = i * n
  | 0 => by simp [rowsTo]
  | i + 1 => by rw [rowsTo_succ, List.length_append, rowsTo_len n i, List.length_map, List.length_range, Nat.succ_mul]
section
variable {P : Program} {w : World} {K : PySem.W.Frag} {mg : Str → Option Value} {base : Heap}
abbrev s_index_pairs : Stmt := top 21
theorem sc_index_pairs : FnScope ["many", "one", "other"] ["many"] (defScope s_index_pairs) := ⟨rfl, rfl, rfl, by decide +kernel, rfl, by decide +kernel, by decide +kernel⟩
theorem ok_index_pairs {f : Addr} {fd : FuncData} (F : Fun K "index_pairs" "index_pairs" s_index_pairs f fd) (T : Bn mg) : FnOk P w K mg base CX0 1 f fd ["many"] spIxPrs := by
  refine F.ok sc_index_pairs (fun vs H Q E h => ?_) (fun cdv A outer s H vs Q E hr h => ?_)
  · obtain ⟨n, rfl, _⟩ := h
    rfl
  · obtain ⟨n, rfl, hn, k⟩ := h
    refine ⟨_, (pss_one (ps_ret (pe_lc2 (own := [("one", 1), ("other", 2)]) (vs1 := [2]) rfl sc_index_pairs.nd (pi_range1 (by rfl) T.n_range (pa_cons (pv 0) pa_nil)) (blkOk_by (N := ["many", "one", "other"]) (sc := defScope s_index_pairs) (by decide +kernel)) (by decide)
      (fun _ _ _ _ _ => (pg_name (i := 1) sc_index_pairs.nd rfl (Or.inl rfl))) (fun _ _ _ _ _ => pts_nil) (fun _ _ _ _ _ => (pi_range1 (by rfl) T.n_range (pa_cons (pv 0) pa_nil))) (fun _ _ _ _ _ => (pg_name (i := 2) sc_index_pairs.nd rfl (Or.inl rfl))) (fun _ _ _ _ _ => pts_nil)
      (fun _ _ _ _ _ => (pe_tup (pa_cons (pv 1) (pa_cons (pv 2) pa_nil))))))), ?_⟩
    refine ⟨_, rfl, _, rfl, by omega, by omega, fun D nD => ?_⟩
    rw [Int.toNat_natCast]
    let Pv : Nat → Nat → Hp → Prop := fun i j H' => ∃ ts : List Pt, Same H H' ∧ H' D = some (.lst (rfs ts)) ∧ Pts H' ts ∧ ts.map (·.2) = rowsTo n i ++ (List.range j).map fun t => (i, t)
    refine ⟨fun i m H' => m + i = n ∧ Pv i 0 H', ⟨n, rfl, [], Same.put nD, upd_same, fun _ m => (by cases m), rfl⟩, fun i m H1 ⟨em, p⟩ => ?_⟩
    cases m with
    | zero =>
      obtain rfl : i = n := by omega
      obtain ⟨ts, s1, e1, p1, q1⟩ := p
      refine .inl ⟨Nat.le_refl _, k D ts H1 s1 e1 p1 ?_⟩
      rw [q1]
      simp [rowsTo, prs]
    | succ m =>
      refine .inr ⟨show i < n by omega, Pv (i + 1) 0, fun H' p' => ⟨m, Nat.lt_succ_self m, by omega, p'⟩, fun x H' y => ?_⟩
      obtain ⟨e, y⟩ := y
      subst e y
      refine ⟨rfl, yes_of ?_⟩
      refine ⟨_, rfl, _, rfl, by omega, by omega, ?_⟩
      rw [Int.toNat_natCast]
      refine ⟨fun j m' H' => m' + j = n ∧ Pv i j H', ⟨n, rfl, p⟩, fun j m' H2 ⟨em', p'⟩ => ?_⟩
      cases m' with
      | zero =>
        obtain rfl : j = n := by omega
        obtain ⟨ts, s1, e1, p1, q1⟩ := p'
        refine .inl ⟨Nat.le_refl _, ts, s1, e1, p1, ?_⟩
        rw [q1, rowsTo_succ]
        simp
      | succ m' =>
        refine .inr ⟨show j < n by omega, Pv i (j + 1), fun H' p' => ⟨m', Nat.lt_succ_self m', by omega, p'⟩, fun x H' y => ?_⟩
        obtain ⟨e, y⟩ := y
        subst e y
        refine ⟨rfl, yes_of ?_⟩
        obtain ⟨ts, s1, e1, p1, q1⟩ := p'
        refine ⟨_, rfl, _, rfl, by show 2 ≤ sizeLine; decide, fun t nt => ?_⟩
        have len : ts.length ≤ 64 := by
          have := congrArg List.length q1
          rw [List.length_map, List.length_append, rowsTo_len, List.length_map, List.length_range] at this
          have h1 : (i + 1) * n ≤ n * n := Nat.mul_le_mul_right n (by omega)
          have h2 : n * n ≤ 8 * 8 := Nat.mul_le_mul hn hn
          rw [Nat.succ_mul] at h1
          omega
        refine ⟨rfs ts, Same.put nt _ _ e1, by rw [rfs_len]; exact small_len (by omega), ts ++ [(t, i, j)], ?_, ?_, ?_, ?_⟩
        · exact Same.but (fun b u e => Same.put nt _ _ (s1 b u e)) nD
        · rw [upd_same, rfs_snoc]
        · have ne : ∀ b u, H' b = some u → u ≠ HO.lst (rfs ts) → b ≠ D := fun b u e z q => z (by rw [q, e1] at e; exact (Option.some.inj e).symm)
          refine Pts.snoc (fun u m => ?_) ?_
          · rw [upd_ne (ne _ _ (p1 u m) (by intro z; cases z))]
            exact Same.put nt _ _ (p1 u m)
          · have nDt : t ≠ D := fun z => by rw [z, e1] at nt; cases nt
            rw [upd_ne nDt, upd_same]
            simp
        · rw [List.map_append, q1, List.range_succ, List.map_append, List.append_assoc]
          rfl
end
end KGo
set_option Elab.async false
set_option linter.all false
set_option maxRecDepth 100000
set_option maxHeartbeats 4000000
namespace KGo
open PySem L2
/-! ### the closure, in a dict -/
abbrev kyP (p : Nat × Nat) : List Key := [Sum.inl (p.1 : Int), Sum.inl (p.2 : Int)]
theorem kyP_inj {p q : Nat × Nat} (h : kyP p = kyP q) : p = q := by
  obtain ⟨a, b⟩ := p
  obtain ⟨c, d⟩ := q
  simp only [kyP, List.cons.injEq, Sum.inl.injEq, and_true] at h
  rw [Int.ofNat.inj h.1, Int.ofNat.inj h.2]
/-- which pairs the dict has -/
def Has (kvs : List (List Key × V)) (p : Nat × Nat) : Bool := (valV kvs (kyP p)).isSome
theorem has_put {kvs : List (List Key × V)} {p q : Nat × Nat} {v : V} : Has (putK kvs (kyP p) v) q = (decide (q = p) || Has kvs q) := by
  unfold Has
  rw [valV_put]
  by_cases e : q = p
  · rw [if_pos (by rw [e]), decide_eq_true e]
    rfl
  · rw [if_neg (fun z => e (kyP_inj z)), decide_eq_false e]
    rfl
def memR (ps : List (Nat × Nat)) : Rl := fun s t => decide ((s, t) ∈ ps)
/-- R, and what comes of it by way of m for the first j pairs -/
def part (n : Nat) (R : Rl) (m j : Nat) : Rl := fun s t => R s t || (R s m && R m t && decide ((s, t) ∈ (prs n).take j))
theorem part_all {n : Nat} {R : Rl} {m s t : Nat} (hs : s < n) (ht : t < n) : part n R m (prs n).length s t = wstep R m s t := by
  unfold part wstep
  rw [List.take_length, decide_eq_true (mem_prs.mpr ⟨hs, ht⟩), Bool.and_true]
theorem part_zero {n : Nat} {R : Rl} {m s t : Nat} : part n R m 0 s t = R s t := by
  unfold part
  rw [List.take_zero, decide_eq_false (by intro h; cases h), Bool.and_false, Bool.or_false]
theorem part_in {n : Nat} {R : Rl} {m j s : Nat} : part n R m j s m = R s m := by
  unfold part
  cases h : R s m <;> simp
theorem part_out {n : Nat} {R : Rl} {m j t : Nat} : part n R m j m t = R m t := by
  unfold part
  cases h : R m t <;> simp
theorem part_next {n : Nat} {R : Rl} {m j s t : Nat} {p : Nat × Nat} (hp : (prs n)[j]? = some p) : part n R m (j + 1) s t = ((decide ((s, t) = p) && (R p.1 m && R m p.2)) || part n R m j s t) := by
  unfold part
  rw [take_more hp]
  by_cases e : (s, t) = p
  · subst e
    rw [decide_eq_true rfl, decide_eq_true (List.mem_append_right _ (List.mem_singleton.mpr rfl))]
    cases R s t <;> cases R s m <;> cases R m t <;> rfl
  · have : ((s, t) ∈ (prs n).take j ++ [p]) ↔ (s, t) ∈ (prs n).take j := by
      rw [List.mem_append, List.mem_singleton]
      exact ⟨fun h => h.elim id fun h => absurd h e, .inl⟩
    rw [decide_eq_false e, decide_eq_decide.mpr this]
    rfl
def spLinked (K : PySem.W.Frag) : Sp := fun vs H Q _ => ∃ (n : Nat) (l : Addr) (ts : List Pt), vs = [.int (n : Int), .ref l] ∧ n ≤ 8 ∧ H l = some (.lst (rfs ts)) ∧ Pts H ts ∧ ts.length ≤ 64 ∧
  ∀ (T : Addr) (us : List Pt) (H' : Hp), Same H H' → H' T = some (.tup (rfs us)) → Pts H' us → us.map (·.2) = lowL n (wars (memR (ts.map (·.2))) n) → Q (.ref T) H'
/-- all but the object at D stays -/
def Mv (D : Addr) (H H' : Hp) : Prop := ∀ b u, b ≠ D → H b = some u → H' b = some u
section
variable {P : Program} {w : World} {K : PySem.W.Frag} {mg : Str → Option Value} {base : Heap}
abbrev s_linked : Stmt := top 57
theorem sc_linked : FnScope ["size", "pairs", "lower", "middle", "s", "t"] ["size", "pairs"] (defScope s_linked) := ⟨rfl, rfl, rfl, by decide +kernel, rfl, by decide +kernel, by decide +kernel⟩
theorem ok_linked {f : Addr} {fd : FuncData} (F : Fun K "linked" "linked" s_linked f fd) (T : Bn mg) (c_index_pairs : Cal P w K mg base 1 "index_pairs" ["many"] spIxPrs) : FnOk P w K mg base CX0 2 f fd ["size", "pairs"] (spLinked K) := by
  refine F.ok sc_linked (fun vs H Q E h => ?_) (fun cdv A outer s H vs Q E hr h => ?_)
  · obtain ⟨n, l, ts, rfl, _⟩ := h
    rfl
  · obtain ⟨n, l, ts, rfl, hn, el, pt, hlen, k⟩ := h
    have hu := hu_of hr
    refine ⟨_, (pss_cons (ps_set (i := 2) sc_linked.nd rfl (Or.inr rfl) (pe_dcT (own := [("s", 4), ("t", 5)]) (g := gTup K 2 (gCons (gName 4) (gCons (gName 5) gNil))) rfl (by exact hu) sc_linked.nd (pi_list (pv 1)) (blkOk_by (N := ["size", "pairs", "lower", "middle", "s", "t"]) (sc := defScope s_linked) (by decide +kernel))
        (fun _ _ _ _ _ => (pg_tup (by rfl) (pgs_cons (pg_name (i := 4) sc_linked.nd rfl (Or.inl rfl)) (pgs_cons (pg_name (i := 5) sc_linked.nd rfl (Or.inl rfl)) pgs_nil)))) (fun _ _ _ _ _ => pts_nil) (fun _ _ _ _ _ => (pe_tup (pa_cons (pv 4) (pa_cons (pv 5) pa_nil)))) (fun _ _ _ _ _ => pe_bl)))
      (pss_cons (ps_for PassesOwn.never rfl (pi_range1 (by rfl) T.n_range (pa_cons (pv 0) pa_nil)) (pg_name (i := 3) sc_linked.nd rfl (Or.inl rfl))
        (pss_one (ps_for PassesOwn.never rfl (pi_list (pe_cal c_index_pairs (hr.mono (by decide)) rfl (pa_cons (pv 0) pa_nil))) (pg_tup (by rfl) (pgs_cons (pg_name (i := 4) sc_linked.nd rfl (Or.inl rfl)) (pgs_cons (pg_name (i := 5) sc_linked.nd rfl (Or.inl rfl)) pgs_nil)))
            (pss_one (ps_if (PW.pt (pw_and (pt_cmp (pc_din (by exact hu) (pe_tup (pa_cons (pv 4) (pa_cons (pv 3) pa_nil))) (pv 2))) (pw_and1 (pt_cmp (pc_din (by exact hu) (pe_tup (pa_cons (pv 3) (pa_cons (pv 5) pa_nil))) (pv 2))))))
                (pss_one (ps_dput (by exact hu) (pv 2) (pe_tup (pa_cons (pv 4) (pa_cons (pv 5) pa_nil))) pe_bl rfl))
                pss_nil)))))
      (pss_one (ps_ret (pe_callTy call_tuple_of (by rfl) T.n_tuple (by decide +kernel) (pa_cons (pe_lc (own := [("s", 4), ("t", 5)]) (g := gTup K 2 (gCons (gName 4) (gCons (gName 5) gNil))) rfl sc_linked.nd (pi_list (pe_cal c_index_pairs (hr.mono (by decide)) rfl (pa_cons (pv 0) pa_nil))) (blkOk_by (N := ["size", "pairs", "lower", "middle", "s", "t"]) (sc := defScope s_linked) (by decide +kernel))
        (fun _ _ _ _ _ => (pg_tup (by rfl) (pgs_cons (pg_name (i := 4) sc_linked.nd rfl (Or.inl rfl)) (pgs_cons (pg_name (i := 5) sc_linked.nd rfl (Or.inl rfl)) pgs_nil)))) (fun _ _ _ _ _ => (pts_one (PW.pt (pw_and (pt_cmpR op_ne (pv 4) (pv 5) (nomark _)) (pw_and1 (pt_cmp (pc_din (by exact hu) (pe_tup (pa_cons (pv 4) (pa_cons (pv 5) pa_nil))) (pv 2))))))))
        (fun _ _ _ _ _ => (pe_tup (pa_cons (pv 4) (pa_cons (pv 5) pa_nil))))) pa_nil)))))), ?_⟩
    refine ⟨_, rfl, l, rfl, ⟨_, SqL.of el⟩, fun D nD => ?_⟩
    refine dcT_list (K := K) (a := l) (xs := rfs ts) (fun i H' => Same H H' ∧ ∃ kvs, H' D = some (.dT kvs) ∧ kvs.length ≤ i ∧ ∀ p, Has kvs p = decide (p ∈ (ts.map (·.2)).take i)) ⟨Same.put nD, [], upd_same, Nat.le_refl _, fun p => rfl⟩ (fun i H' _ h => SqL.of (h.1 _ _ el)) ?_ ?_
    · rintro i x H' hx ⟨s1, kvs, ek, kl, kp⟩
      obtain ⟨t, ht, hm, rfl⟩ := rfs_at hx
      have i0 : (ts.map (·.2))[i]? = some t.2 := by rw [List.getElem?_map, ht]; rfl
      refine ⟨t.1, prV t.2, rfl, SqT.of (s1 _ _ (pt t hm)), rfl, _, _, rfl, _, _, rfl, rfl, rfl, yes_of ?_⟩
      refine ⟨_, rfl, _, rfl, by show 2 ≤ sizeLine; decide, fun c nc => ?_⟩
      refine ⟨kvs, kyP t.2, c, rfl, upd_same, Same.put nc _ _ ek, small_len (by have := (List.getElem?_eq_some_iff.mp ht).1; omega), ?_, _, upd_same, ?_, fun p => ?_⟩
      · exact Same.but (fun b u e => Same.put nc _ _ (s1 b u e)) nD
      · have := length_putK kvs (kyP t.2) (V.bl true)
        omega
      · rw [has_put, kp, take_more i0]
        rw [Bool.eq_iff_iff, Bool.or_eq_true, decide_eq_true_eq, decide_eq_true_eq, decide_eq_true_eq, List.mem_append, List.mem_singleton]
        exact or_comm
    · rintro H1 ⟨s1, kvs, ek, kl, kp⟩
      have kp0 : ∀ p : Nat × Nat, Has kvs p = memR (ts.map (·.2)) p.1 p.2 := fun p => by
        rw [kp, rfs_len, List.take_of_length_le (by rw [List.length_map]; omega)]
        rfl
      rw [rfs_len] at kl
      clear kp
      generalize memR (ts.map (·.2)) = R at k kp0
      refine ⟨_, rfl, _, rfl, by omega, by omega, ?_⟩
      rw [Int.toNat_natCast]
      refine for_range (fun i σ H' => ∃ v3 v4 v5 kvs, σ = [some (.int n), some (.ref l), some (.ref D), v3, v4, v5] ∧ Same H H' ∧ H' D = some (.dT kvs) ∧ kvs.length ≤ 64 + i * 64 ∧ ∀ s t, s < n → t < n → Has kvs (s, t) = wars R i s t) ⟨none, none, none, kvs, rfl, s1, ek, by omega, fun s t _ _ => kp0 (s, t)⟩ ?_ ?_
      · rintro m σ H2 hm ⟨v3, v4, v5, kv2, rfl, s2, e2, l2, h2⟩
        rw [Int.zero_add]
        refine ⟨_, rfl, n, rfl, hn, fun G us H3 s3 eG pG uG => ?_⟩
        have lenu : us.length = (prs n).length := by rw [← uG, List.length_map]
        have len64 := prs_len n hn
        have nGD : G ≠ D := fun z => by
          have := s3 _ _ e2
          rw [← z, eG] at this
          cases this
        refine ⟨G, rfl, ⟨_, SqL.of eG⟩, for_list (K := K) (a := G) (xs := rfs us) (fun j σ H' => ∃ v4 v5 kvs, σ = [some (.int n), some (.ref l), some (.ref D), some (.int (m : Int)), v4, v5] ∧ Mv D H3 H' ∧ H' D = some (.dT kvs) ∧ kvs.length ≤ 64 + m * 64 + j ∧ ∀ s t, s < n → t < n → Has kvs (s, t) = part n (wars R m) m j s t) ?_ ?_ ?_ ?_⟩
        · exact ⟨v4, v5, kv2, rfl, fun _ _ _ h => h, s3 _ _ e2, l2, fun s t hs ht => by rw [h2 s t hs ht, part_zero]⟩
        · rintro j σ H' _ ⟨_, _, _, _, mv, _⟩
          exact SqL.of (mv _ _ nGD eG)
        · rintro j x σ H' hx ⟨w4, w5, kvs3, rfl, mv, e3, l3, h3⟩
          obtain ⟨t, ht, hm2, rfl⟩ := rfs_at hx
          have i0 : (prs n)[j]? = some t.2 := by rw [← uG, List.getElem?_map, ht]; rfl
          obtain ⟨t1, t2⟩ := mem_prs.mp (List.mem_of_getElem? i0)
          have jl : j < 64 := by
            have := (List.getElem?_eq_some_iff.mp i0).1
            omega
          have ntD : t.1 ≠ D := fun z => by
            have := pG t hm2
            rw [z, s3 _ _ e2] at this
            cases this
          refine ⟨t.1, prV t.2, rfl, SqT.of (mv _ _ ntD (pG t hm2)), rfl, _, _, rfl, _, _, rfl, rfl, ?_⟩
          have grow : ∀ b, (wars R m t.2.1 m && wars R m m t.2.2) = b → ∀ s u, part n (wars R m) m (j + 1) s u = ((decide ((s, u) = t.2) && b) || part n (wars R m) m j s u) := fun b hb s u => by
            rw [part_next i0, hb]
          have same_next : (wars R m t.2.1 m && wars R m m t.2.2) = false → ∀ s u, part n (wars R m) m (j + 1) s u = part n (wars R m) m j s u := fun hb s u => by
            rw [grow false hb, Bool.and_false, Bool.false_or]
          have hasA : Has kvs3 (t.2.1, m) = wars R m t.2.1 m := by rw [h3 _ _ t1 hm, part_in]
          have hasB : Has kvs3 (m, t.2.2) = wars R m m t.2.2 := by rw [h3 _ _ hm t2, part_out]
          refine ⟨_, rfl, _, rfl, by show 2 ≤ sizeLine; decide, fun c1 n1 => ⟨_, rfl, D, _, rfl, DGet.t (k := kyP (t.2.1, m)) (Same.put n1 _ _ e3) upd_same, ?_⟩⟩
          have sA := Same.put (o := .tup [.int (t.2.1 : Int), .int (m : Int)]) n1
          generalize (upd H' c1 (.tup [.int (t.2.1 : Int), .int (m : Int)])) = H4 at sA ⊢
          refine ⟨_, rfl, iteB (fun z => ?_) (fun z => ?_)⟩
          · refine ⟨_, rfl, _, rfl, by show 2 ≤ sizeLine; decide, fun c2 n2 => ⟨_, rfl, D, _, rfl, DGet.t (k := kyP (m, t.2.2)) (Same.put n2 _ _ (sA _ _ e3)) upd_same, ?_⟩⟩
            have sB := sA.trans (Same.put (o := .tup [.int (m : Int), .int (t.2.2 : Int)]) n2)
            generalize (upd H4 c2 (.tup [.int (m : Int), .int (t.2.2 : Int)])) = H5 at sB ⊢
            refine ⟨_, rfl, iteB (fun z2 => ?_) (fun z2 => ?_)⟩
            · refine ⟨_, rfl, _, rfl, _, rfl, by show 2 ≤ sizeLine; decide, fun c3 n3 => ⟨D, _, rfl, DPut.t (k := kyP t.2) (Same.put n3 _ _ (sB _ _ e3)) upd_same (small_len (by omega)), ?_⟩⟩
              have sC := sB.trans (Same.put (o := .tup [.int (t.2.1 : Int), .int (t.2.2 : Int)]) n3)
              refine ⟨_, _, _, rfl, fun b u nb e => ?_, upd_same, ?_, fun s u hs hu' => ?_⟩
              · rw [upd_ne nb]
                exact sC _ _ (mv b u nb e)
              · have := length_putK kvs3 (kyP t.2) (V.bl true)
                omega
              · rw [has_put, h3 s u hs hu', grow true ?_, Bool.and_true]
                have z' : Has kvs3 (t.2.1, m) = true := z
                have z2' : Has kvs3 (m, t.2.2) = true := z2
                rw [← hasA, ← hasB, z', z2']
                rfl
            · have z2' : Has kvs3 (m, t.2.2) = false := z2
              refine ⟨_, _, kvs3, rfl, fun b u nb e => sB _ _ (mv b u nb e), sB _ _ e3, by omega, fun s u hs hu' => ?_⟩
              rw [same_next (by rw [← hasB, z2', Bool.and_false]), h3 s u hs hu']
          · have z' : Has kvs3 (t.2.1, m) = false := z
            refine ⟨_, _, kvs3, rfl, fun b u nb e => sA _ _ (mv b u nb e), sA _ _ e3, by omega, fun s u hs hu' => ?_⟩
            rw [same_next (by rw [← hasA, z', Bool.false_and]), h3 s u hs hu']
        · rintro σ H' ⟨w4, w5, kvs3, rfl, mv, e3, l3, h3⟩
          refine ⟨_, w4, w5, kvs3, rfl, fun b u e => ?_, e3, ?_, fun s t hs ht => ?_⟩
          · exact mv b u (ne_of_none e nD) (s3 _ _ (s2 _ _ e))
          · rw [rfs_len] at l3
            omega
          · rw [h3 s t hs ht, rfs_len, lenu, part_all hs ht]
            rfl
      · rintro σ H2 ⟨v3, v4, v5, kv2, rfl, s2, e2, l2, h2⟩
        refine ⟨_, rfl, n, rfl, hn, fun G us H3 s3 eG pG uG => ?_⟩
        have lenu : us.length = (prs n).length := by rw [← uG, List.length_map]
        have len64 := prs_len n hn
        refine ⟨G, rfl, ⟨_, SqL.of eG⟩, fun L nL => ?_⟩
        refine lc_list (K := K) (a := G) (xs := rfs us) (fun i H' => Same H3 H' ∧ ∃ ls : List Pt, H' L = some (.lst (rfs ls)) ∧ Pts H' ls ∧ ls.map (·.2) = ((prs n).take i).filter (keepB (wars R n)) ∧ ls.length ≤ i) ⟨Same.put nL, [], upd_same, fun _ m => (by cases m), rfl, Nat.le_refl _⟩ (fun i H' _ h => SqL.of (h.1 _ _ eG)) ?_ ?_
        · rintro i x H' hx ⟨s4, ls, eL, pL, qL, lL⟩
          obtain ⟨t, ht, hm2, rfl⟩ := rfs_at hx
          have i0 : (prs n)[i]? = some t.2 := by rw [← uG, List.getElem?_map, ht]; rfl
          obtain ⟨t1, t2⟩ := mem_prs.mp (List.mem_of_getElem? i0)
          have il : i < 64 := by
            have := (List.getElem?_eq_some_iff.mp i0).1
            omega
          have no : keepB (wars R n) t.2 = false → ls.map (·.2) = ((prs n).take (i + 1)).filter (keepB (wars R n)) := fun hb => by
            rw [take_more i0, List.filter_append, qL, List.filter_cons, hb]
            simp
          refine ⟨t.1, prV t.2, rfl, SqT.of (s4 _ _ (pG t hm2)), rfl, _, _, rfl, _, _, rfl, rfl, rfl, ?_⟩
          refine ⟨_, rfl, _, rfl, rfl, _, rfl, iteB (fun z => ?_) (fun z => ?_)⟩
          · refine ⟨_, rfl, _, rfl, by show 2 ≤ sizeLine; decide, fun c1 n1 => ⟨_, rfl, D, _, rfl, DGet.t (k := kyP t.2) (Same.put n1 _ _ (s4 _ _ (s3 _ _ e2))) upd_same, ?_⟩⟩
            have sA := s4.trans (Same.put (o := .tup [.int (t.2.1 : Int), .int (t.2.2 : Int)]) n1)
            have eA := Same.put (o := .tup [.int (t.2.1 : Int), .int (t.2.2 : Int)]) n1 _ _ eL
            have pA := pL.same (Same.put (o := .tup [.int (t.2.1 : Int), .int (t.2.2 : Int)]) n1)
            generalize (upd H' c1 (.tup [.int (t.2.1 : Int), .int (t.2.2 : Int)])) = H4 at sA eA pA ⊢
            have hz : (valV kv2 (kyP t.2)).isSome = wars R n t.2.1 t.2.2 := h2 _ _ t1 t2
            have ne : t.2.1 ≠ t.2.2 := fun q => by
              rw [q] at z
              simp at z
            refine ⟨_, rfl, iteB (fun z2 => ?_) (fun z2 => ?_)⟩
            · rw [hz] at z2
              refine ⟨_, rfl, _, rfl, by show 2 ≤ sizeLine; decide, fun c2 n2 => ?_⟩
              have yes : keepB (wars R n) t.2 = true := by
                unfold keepB
                rw [z2, decide_eq_true ne]
                rfl
              refine ⟨rfs ls, Same.put n2 _ _ eA, by rw [rfs_len]; exact small_len (by omega), Same.but (fun b u e => Same.put n2 _ _ (sA b u e)) nL, ls ++ [(c2, t.2)], ?_, ?_, ?_, ?_⟩
              · rw [upd_same, rfs_snoc]
              · refine Pts.snoc (fun u m => ?_) ?_
                · have nu : u.1 ≠ L := fun q => by
                    have := pA u m
                    rw [q, eA] at this
                    cases this
                  rw [upd_ne nu]
                  exact Same.put n2 _ _ (pA u m)
                · have nc : c2 ≠ L := fun q => by
                    rw [q, eA] at n2
                    cases n2
                  show upd _ L _ c2 = _
                  rw [upd_ne nc, upd_same]
              · rw [List.map_append, take_more i0, List.filter_append, qL, List.filter_cons, yes]
                simp
              · rw [List.length_append]
                show ls.length + 1 ≤ i + 1
                omega
            · rw [hz] at z2
              exact ⟨sA, ls, eA, pA, no (by unfold keepB; rw [z2, Bool.and_false]), by omega⟩
          · have eq : t.2.1 = t.2.2 := by
              have := of_decide_eq_true (by simpa using z : decide ((t.2.1 : Int) = (t.2.2 : Int)) = true)
              omega
            exact ⟨s4, ls, eL, pL, no (by unfold keepB; rw [decide_eq_false (by simpa using eq)]; rfl), by omega⟩
        · rintro H4 ⟨s4, ls, eL, pL, qL, lL⟩
          refine ⟨L, _, rfl, .inl ⟨SqL.of eL, fun T nT => ?_⟩⟩
          refine k T ls _ ((s2.trans s3).trans (s4.trans (Same.put nT))) upd_same (pL.same (Same.put nT)) ?_
          rw [qL, rfs_len, lenu, List.take_length]
          rfl
end
end KGo
set_option Elab.async false
set_option linter.all false
set_option maxRecDepth 100000
set_option maxHeartbeats 4000000
namespace KGo
open PySem L2
/-! ### lists of tuples of ints -/
abbrev Tt := Addr × List Int
def Tups (K : PySem.W.Frag) (H : Hp) (ts : List Tt) : Prop := ∀ t ∈ ts, SqT K H t.1 (t.2.map V.int)
theorem SqT.up {K : PySem.W.Frag} {H H' : Hp} {a : Addr} {xs : List V} (h : SqT K H a xs) (e : Same H H') : SqT K H' a xs := by
  rcases h with (h | ⟨o, h⟩) | h
  · exact .inl (.inl (e _ _ h))
  · exact .inl (.inr ⟨o, e _ _ h⟩)
  · exact .inr h
theorem SqT.upd_lst {K : PySem.W.Frag} {H : Hp} {a D : Addr} {xs ys : List V} {o : HO} (h : SqT K H a xs) (e : H D = some (.lst ys)) : SqT K (upd H D o) a xs := by
  rcases h with (h | ⟨o', h⟩) | h
  · exact .inl (.inl (by rw [upd_ne (fun z => by rw [z, e] at h; cases h)]; exact h))
  · exact .inl (.inr ⟨o', by rw [upd_ne (fun z => by rw [z, e] at h; cases h)]; exact h⟩)
  · exact .inr h
theorem Tups.same {K : PySem.W.Frag} {H H' : Hp} {ts : List Tt} (h : Tups K H ts) (s : Same H H') : Tups K H' ts := fun t m => SqT.up (h t m) s
theorem Tups.lst {K : PySem.W.Frag} {H : Hp} {ts : List Tt} {D : Addr} {ys : List V} {o : HO} (h : Tups K H ts) (e : H D = some (.lst ys)) : Tups K (upd H D o) ts := fun t m => SqT.upd_lst (h t m) e
theorem Tups.one {K : PySem.W.Frag} {H : Hp} {t : Tt} (e : SqT K H t.1 (t.2.map V.int)) : Tups K H [t] := fun u m => by rw [List.mem_singleton.mp m]; exact e
end KGo
set_option Elab.async false
set_option linter.all false
set_option maxRecDepth 100000
set_option maxHeartbeats 4000000
namespace KGo
open PySem L2
/-! ### the class Order -/
def ordF (n : Nat) (T : Addr) : List (Str × V) := putF "_lower" (.ref T) (putF "size" (.int (n : Int)) [])
structure OrT (K : PySem.W.Frag) (mg : Str → Option Value) (C : Addr) : Prop where
  bn : Bn mg
  cl : Cls K C
  nS : NoAttr K C "size"
  nL : NoAttr K C "_lower"
  gO : mg "Order" = some (.ref C)
  gM : ∃ t, mg "MOST_ORDERED" = some (.int 8 t)
/-- an order of n places with these pairs -/
def IsOrd (C : Addr) (H : Hp) (o : Addr) (n : Nat) (low : List (Nat × Nat)) : Prop := ∃ (dx T : Addr) (ts : List Pt), H o = some (.ins C dx (ordF n T)) ∧ H T = some (.tup (rfs ts)) ∧ Pts H ts ∧ ts.map (·.2) = low
theorem IsOrd.same {C : Addr} {H H' : Hp} {o : Addr} {n : Nat} {low : List (Nat × Nat)} (h : IsOrd C H o n low) (s : Same H H') : IsOrd C H' o n low := by
  obtain ⟨dx, T, ts, h1, h2, h3, h4⟩ := h
  exact ⟨dx, T, ts, s _ _ h1, s _ _ h2, h3.same s, h4⟩
end KGo
set_option Elab.async false
set_option linter.all false
set_option maxRecDepth 100000
set_option maxHeartbeats 4000000
namespace KGo
open PySem L2
theorem un65 {k : Nat} {A : Around} (r : Room k A) : A.units + 65 < cLine := by
  have := r.un
  omega
def Anti (n : Nat) (R : Rl) : Prop := ∀ s t, R s t = true → R t s = true → s = t
def spOI (C : Addr) : Sp := fun vs H Q _ => ∃ (x dx : Addr) (n : Nat) (l : Addr) (ts : List Pt), vs = [.ref x, .int (n : Int), .ref l] ∧ H x = some (.ins C dx []) ∧ 1 ≤ n ∧ n ≤ 8 ∧ H l = some (.lst (rfs ts)) ∧ Pts H ts ∧ ts.length ≤ 64 ∧
  (∀ t ∈ ts, t.2.1 < n ∧ t.2.2 < n) ∧ Anti n (wars (memR (ts.map (·.2))) n) ∧
  ∀ (T : Addr) (us : List Pt) (H2 : Hp), Same H H2 → H2 T = some (.tup (rfs us)) → Pts H2 us → us.map (·.2) = lowL n (wars (memR (ts.map (·.2))) n) → Q .non (upd H2 x (.ins C dx (ordF n T)))
/-! ### tuples of ints as data -/
def dI (ns : List Int) : PyData := .tuple (ns.map PyData.int)
theorem eqvAll_ints : ∀ ns ms : List Int, PyData.eqvAll (ns.map PyData.int) (ms.map PyData.int) = decide (ns = ms)
  | [], [] => rfl
  | [], _ :: _ => rfl
  | _ :: _, [] => rfl
  | a :: ns, b :: ms => by
    show (PyData.eqv (.int a) (.int b) && PyData.eqvAll (ns.map PyData.int) (ms.map PyData.int)) = _
    rw [eqvAll_ints ns ms, Bool.eq_iff_iff, Bool.and_eq_true, decide_eq_true_eq, decide_eq_true_eq, List.cons.injEq]
    have e : PyData.eqv (.int a) (.int b) = (a == b) := by simp [PyData.eqv]
    rw [e, beq_iff_eq]
theorem eqv_dI (ns ms : List Int) : PyData.eqv (dI ns) (dI ms) = decide (ns = ms) := by
  unfold dI
  rw [PyData.eqv]
  exact eqvAll_ints ns ms
theorem lay_ints : ∀ ns : List Int, PyData.canLayAll0 (ns.map PyData.int) = true ∧ PyData.depthAll (ns.map PyData.int) = 0
  | [] => ⟨rfl, rfl⟩
  | a :: ns => by
    obtain ⟨h1, h2⟩ := lay_ints ns
    refine ⟨?_, ?_⟩
    · show ((PyData.int a).canLay0 && PyData.canLayAll0 (ns.map PyData.int)) = true
      rw [h1]
      rfl
    · show max (PyData.depth (.int a)) (PyData.depthAll (ns.map PyData.int)) = 0
      rw [h2]
      rfl
theorem lay_dI (ns : List Int) : (dI ns).canLay0 = true ∧ (dI ns).depth = 1 := by
  obtain ⟨h1, h2⟩ := lay_ints ns
  exact ⟨h1, by show PyData.depthAll (ns.map PyData.int) + 1 = 1; rw [h2]⟩
theorem lay_dIs : ∀ L : List (List Int), PyData.canLayAll0 (L.map dI) = true ∧ PyData.depthAll (L.map dI) ≤ 1
  | [] => ⟨rfl, Nat.zero_le _⟩
  | a :: L => by
    obtain ⟨h1, h2⟩ := lay_dIs L
    obtain ⟨h3, h4⟩ := lay_dI a
    refine ⟨?_, ?_⟩
    · show ((dI a).canLay0 && PyData.canLayAll0 (L.map dI)) = true
      rw [h1, h3]
      rfl
    · show max (dI a).depth (PyData.depthAll (L.map dI)) ≤ 1
      omega
theorem sh_dI (ns : List Int) : SeqAt.shaped (dI ns) = true := by
  obtain ⟨h1, h2⟩ := lay_dI ns
  unfold SeqAt.shaped
  rw [h1, h2]
  rfl
theorem sh_tup (L : List (List Int)) : SeqAt.shaped (.tuple (L.map dI)) = true := by
  obtain ⟨h1, h2⟩ := lay_dIs L
  unfold SeqAt.shaped
  rw [Bool.and_eq_true, decide_eq_true_eq]
  refine ⟨h1, ?_⟩
  show PyData.depthAll (L.map dI) + 1 ≤ 64
  omega
theorem dp_ints {K : PySem.W.Frag} {H : Hp} : ∀ ns : List Int, DpAll K H (ns.map V.int) (ns.map PyData.int)
  | [] => .nil
  | a :: ns => .cons (.int a) (dp_ints ns)
theorem dp_tup {K : PySem.W.Frag} {H : Hp} {a : Addr} {ns : List Int} (h : SqT K H a (ns.map V.int)) : Dp K H (.ref a) (dI ns) := .tup h (dp_ints ns)
theorem Tups.dp {K : PySem.W.Frag} {H : Hp} : ∀ {ts : List Tt}, Tups K H ts → DpAll K H (rfs ts) ((ts.map (·.2)).map dI)
  | [], _ => .nil
  | t :: ts, h => .cons (dp_tup (h t List.mem_cons_self)) (Tups.dp fun u m => h u (List.mem_cons_of_mem _ m))
abbrev pI (p : Nat × Nat) : List Int := [(p.1 : Int), (p.2 : Int)]
theorem pI_inj {p q : Nat × Nat} (h : pI p = pI q) : p = q := by
  obtain ⟨a, b⟩ := p
  obtain ⟨c, d⟩ := q
  simp only [pI, List.cons.injEq, and_true] at h
  rw [Int.ofNat.inj h.1, Int.ofNat.inj h.2]
theorem Pts.dp {K : PySem.W.Frag} {H : Hp} : ∀ {ts : List Pt}, Pts H ts → DpAll K H (rfs ts) (((ts.map (·.2)).map pI).map dI)
  | [], _ => .nil
  | t :: ts, h => .cons (dp_tup (ns := pI t.2) (SqT.of (h t List.mem_cons_self))) (Pts.dp fun u m => h u (List.mem_cons_of_mem _ m))
theorem any_pI (p : Nat × Nat) : ∀ ps : List (Nat × Nat), ((ps.map pI).map dI).any (fun z => PyData.eqv z (dI (pI p))) = decide (p ∈ ps)
  | [] => rfl
  | q :: ps => by
    rw [List.map_cons, List.map_cons, List.any_cons, any_pI p ps, eqv_dI, Bool.eq_iff_iff, Bool.or_eq_true, decide_eq_true_eq, decide_eq_true_eq, decide_eq_true_eq, List.mem_cons]
    exact or_congr ⟨fun h => (pI_inj h).symm, fun h => by rw [h]⟩ Iff.rfl
theorem kit_lt {K : PySem.W.Frag} : PySem.W.kitAny K (.type "list") [.type "list", .type "tuple"] = some true := by
  have e : PySem.W.kitOne K (.type "list") (.type "list") = some true := kit_ty (r := true) (by decide +kernel)
  simp only [PySem.W.kitAny, e]
section
variable {P : Program} {w : World} {K : PySem.W.Frag} {mg : Str → Option Value} {base : Heap} {C : Addr}
abbrev s_OI : Stmt := inClass (top 56) 0
theorem sc_OI : FnScope ["self", "size", "pairs", "lower", "s", "t", "pair"] ["self", "size", "pairs"] (defScope s_OI) := ⟨rfl, rfl, rfl, by decide +kernel, rfl, by decide +kernel, by decide +kernel⟩
theorem ok_OI {f : Addr} {fd : FuncData} (F : Fun K "__init__" "Order.__init__" s_OI f fd) (T : OrT K mg C) (c_is_between : Cal P w K mg base 2 "is_between" ["least", "most", "thing"] spBetween) (c_is_index_pair : Cal P w K mg base 4 "is_index_pair" ["many", "thing"] spIxPair)
    (c_linked : Cal P w K mg base 2 "linked" ["size", "pairs"] (spLinked K)) : FnOk P w K mg base CX0 5 f fd ["self", "size", "pairs"] (spOI C) := by
  obtain ⟨tM, gM⟩ := T.gM
  refine F.ok sc_OI (fun vs H Q E h => ?_) (fun cdv A outer s H vs Q E hr h => ?_)
  · obtain ⟨x, dx, n, l, ts, rfl, _⟩ := h
    rfl
  · obtain ⟨x, dx, n, l, ts, rfl, hx, n1, n8, el, pt, hlen, hlt, anti, k⟩ := h
    have hu := un65 hr
    refine ⟨_, (pss_cons (ps_if (PW.pt (pw_or (pt_not (pt_val (pe_cal c_is_between (hr.mono (by decide)) rfl (pa_cons pe_int (pa_cons (pe_glob (v := .int 8) rfl gM ⟨_, rfl⟩) (pa_cons (pv 1) pa_nil)))))) (pw_or1 (pt_not (pt_val (pe_callB call_isiT (by rfl) T.bn.n_isinstance (by decide +kernel) (pa_cons (pv 2) (pa_cons (pe_tup (pa_cons (pe_bltn (v := .ty "list") rfl T.bn.n_list (by decide +kernel) rfl) (pa_cons (pe_bltn (v := .ty "tuple") rfl T.bn.n_tuple (by decide +kernel) rfl) pa_nil))) pa_nil))))))))
        pss_never
        pss_nil)
      (pss_cons (ps_if (pt_not (pt_val (pe_callB (cr_all rfl) (by rfl) T.bn.n_all PyProof.Rows.boot_all (pa_cons (pe_lc (own := [("pair", 6)]) rfl sc_OI.nd (pi_list (pv 2)) (blkOk_by (N := ["self", "size", "pairs", "lower", "s", "t", "pair"]) (sc := defScope s_OI) (by decide +kernel)) (fun _ _ _ _ _ => (pg_name (i := 6) sc_OI.nd rfl (Or.inl rfl))) (fun _ _ _ _ _ => pts_nil) (fun _ _ _ _ _ => (pe_cal c_is_index_pair (hr.mono (by decide)) rfl (pa_cons (pv 1) (pa_cons (pv 6) pa_nil))))) pa_nil))))
        pss_never
        pss_nil)
      (pss_cons (ps_set (i := 3) sc_OI.nd rfl (Or.inr rfl) (pe_cal c_linked (hr.mono (by decide)) rfl (pa_cons (pv 1) (pa_cons (pv 2) pa_nil))))
      (pss_cons (ps_if (pt_val (pe_callB (cr_any rfl) (by rfl) T.bn.n_any PyProof.Rows.boot_any (pa_cons (pe_lc (own := [("s", 4), ("t", 5)]) (g := gTup K 2 (gCons (gName 4) (gCons (gName 5) gNil))) rfl sc_OI.nd (pi_tup (pv 3)) (blkOk_by (N := ["self", "size", "pairs", "lower", "s", "t", "pair"]) (sc := defScope s_OI) (by decide +kernel)) (fun _ _ _ _ _ => (pg_tup (by rfl) (pgs_cons (pg_name (i := 4) sc_OI.nd rfl (Or.inl rfl)) (pgs_cons (pg_name (i := 5) sc_OI.nd rfl (Or.inl rfl)) pgs_nil)))) (fun _ _ _ _ _ => pts_nil) (fun _ _ _ _ _ => (pe_cmpR (show OpR _ _ (rInDT K) from op_inDT (by exact hu)) (pe_tup (pa_cons (pv 5) (pa_cons (pv 4) pa_nil))) (pv 3) (by rfl)))) pa_nil)))
        pss_never
        pss_nil)
      (pss_cons (ps_fld (pv 0) (pv 1) rfl)
      (pss_one (ps_fld (pv 0) (pv 3) rfl))))))), ?_⟩
    refine ⟨_, rfl, 1, 8, n, rfl, by omega, by omega, _, rfl, ?_⟩
    refine ⟨_, rfl, by show 2 ≤ sizeLine; decide, fun tp ntp => ?_⟩
    refine ⟨.ref l, tp, _, _, _, true, rfl, upd_same, .cons (.ty _) (.cons (.ty _) .nil), .base (.lst (Same.put ntp _ _ el)), ?_, _, rfl, iteF ?_⟩
    · exact kit_lt
    have sP := Same.put (o := .tup [.ty "list", .ty "tuple"]) ntp
    generalize (upd H tp (.tup [.ty "list", .ty "tuple"])) = H0 at sP ⊢
    -- all are pairs of places
    refine ⟨_, rfl, l, rfl, ⟨_, SqL.of (sP _ _ el)⟩, fun G nG => ?_⟩
    refine lc_list (K := K) (a := l) (xs := rfs ts) (fun i H' => Same H0 H' ∧ H' G = some (.lst ((List.replicate i true).map V.bl))) ⟨Same.put nG, upd_same⟩ (fun i H' _ h => SqL.of (h.1 _ _ (sP _ _ el))) ?_ ?_
    · rintro i y H' hy ⟨s1, eG⟩
      obtain ⟨t, ht, hm, rfl⟩ := rfs_at hy
      have il : i < 64 := by
        have := (List.getElem?_eq_some_iff.mp ht).1
        omega
      obtain ⟨t1, t2⟩ := hlt t hm
      refine ⟨rfl, yes_of ?_⟩
      refine ⟨_, rfl, _, rfl, n, t.1, t.2.1, t.2.2, rfl, s1 _ _ (sP _ _ (pt t hm)), by omega, by omega, by omega, by omega, _, eG, ?_, Same.but (fun b u e => s1 _ _ e) nG, ?_⟩
      · rw [List.length_map, List.length_replicate]
        exact small_len (by omega)
      · rw [upd_same, List.replicate_succ', List.map_append]
        rfl
    rintro H1 ⟨s1, eG⟩
    refine ⟨G, _, rfl, SqL.of eG, _, rfl, ?_⟩
    rw [show (List.replicate (rfs ts).length true).all id = true from List.all_eq_true.mpr fun b hb => (List.mem_replicate.mp hb).2]
    refine iteF ?_
    have s01 := sP.trans s1
    refine ⟨_, rfl, _, rfl, n, l, ts, rfl, n8, s01 _ _ el, pt.same s01, hlen, fun L us H2 s2 eL pL qL => ?_⟩
    have s02 := s01.trans s2
    have lus : us.length ≤ 64 := by
      have := congrArg List.length qL
      rw [List.length_map] at this
      have h1 := List.length_filter_le (keepB (wars (memR (ts.map (·.2))) n)) (prs n)
      have h2 := prs_len n n8
      unfold lowL at this
      omega
    -- none the other way about
    refine ⟨_, rfl, L, rfl, ⟨_, SqT.of eL⟩, fun D nD => ?_⟩
    refine lc_tup (K := K) (a := L) (xs := rfs us) (fun i H' => Same H2 H' ∧ H' D = some (.lst ((List.replicate i false).map V.bl))) ⟨Same.put nD, upd_same⟩ (fun i H' _ h => SqT.of (h.1 _ _ eL)) ?_ ?_
    · rintro i y H' hy ⟨s3, eD⟩
      obtain ⟨t, ht, hm, rfl⟩ := rfs_at hy
      have il : i < 64 := by
        have := (List.getElem?_eq_some_iff.mp ht).1
        omega
      have tm : t.2 ∈ lowL n (wars (memR (ts.map (·.2))) n) := by rw [← qL]; exact List.mem_map_of_mem hm
      refine ⟨t.1, prV t.2, rfl, SqT.of (s3 _ _ (pL t hm)), rfl, _, _, rfl, _, _, rfl, rfl, rfl, yes_of ?_⟩
      refine ⟨_, rfl, _, rfl, by show 2 ≤ sizeLine; decide, fun c nc => ?_⟩
      have sC := s3.trans (Same.put (o := .tup [.int (t.2.2 : Int), .int (t.2.1 : Int)]) nc)
      have eC : (upd H' c (.tup [.int (t.2.2 : Int), .int (t.2.1 : Int)])) c = some (.tup ((pI (t.2.2, t.2.1)).map V.int)) := upd_same
      have eD2 := Same.put (o := .tup [.int (t.2.2 : Int), .int (t.2.1 : Int)]) nc _ _ eD
      generalize (upd H' c (.tup [.int (t.2.2 : Int), .int (t.2.1 : Int)])) = H4 at sC eC eD2 ⊢
      refine ⟨_, rfl, dI (pI (t.2.2, t.2.1)), _, dp_tup (SqT.of eC), .tup (SqT.of (sC _ _ eL)) (Pts.dp (pL.same sC)), sh_dI _, sh_tup _, ?_⟩
      have no : (((us.map (·.2)).map pI).map dI).any (fun z => PyData.eqv z (dI (pI (t.2.2, t.2.1)))) = false := by
        rw [any_pI, decide_eq_false_iff_not, qL]
        intro z
        obtain ⟨h1, h2, h3, h4⟩ := mem_low.mp tm
        obtain ⟨_, _, _, h5⟩ := mem_low.mp z
        exact h3 (anti _ _ h4 h5)
      show ∃ acc, _ ∧ _ ∧ _
      rw [no]
      refine ⟨_, eD2, ?_, Same.but (fun b u e => sC _ _ e) nD, ?_⟩
      · rw [List.length_map, List.length_replicate]
        exact small_len (by omega)
      · rw [upd_same, List.replicate_succ', List.map_append]
        rfl
    rintro H3 ⟨s3, eD⟩
    refine ⟨D, _, rfl, SqL.of eD, _, rfl, ?_⟩
    rw [show (List.replicate (rfs us).length false).any id = false from List.any_eq_false.mpr fun b hb => by rw [(List.mem_replicate.mp hb).2]; decide]
    refine iteF ?_
    have s03 := s02.trans s3
    refine ⟨_, rfl, _, rfl, x, C, dx, [], rfl, s03 _ _ hx, T.cl, T.nS, by show 0 < 1000; decide, ?_⟩
    refine ⟨_, rfl, _, rfl, x, C, dx, _, rfl, upd_same, T.cl, T.nL, by show 1 < 1000; decide, ?_⟩
    rw [upd_upd]
    exact k L us H3 s03 (s3 _ _ eL) (pL.same s3) qL
end
end KGo
set_option Elab.async false
set_option linter.all false
set_option maxRecDepth 100000
set_option maxHeartbeats 4000000
namespace KGo
open PySem L2
/-! ### Order(n, pairs) -/
structure MkO (P : Program) (w : World) (K : PySem.W.Frag) (mg : Str → Option Value) (base : Heap) (C : Addr) : Prop where
  ex : ∃ (f : Addr) (fd : FuncData), Mk K C f ∧ FnOk P w K mg base CX0 5 f fd ["self", "size", "pairs"] (spOI C) ∧ Binds K fd ["self", "size", "pairs"] []
  gO : mg "Order" = some (.ref C)
section
variable {X : Cx} {C : Addr} {p pos : Pos} {e : Expr} {es : List Expr} {t : TA}
theorem pe_ord (m : MkO X.prog X.w X.K X.mg X.base C) (hr : Room 6 X.A) (hg : Gl X "Order") (ha : PA X (e :: es) t)
    (he : starEach (e :: es) X.env = (false, eval e X.env) :: starEach es X.env := by rfl) (hpl : (backTo pos (starEach es X.env)).any (·.1) = false := by rfl) :
    PE X (.Call (.Name "Order" p) (e :: es) [] pos) (tMake C (spOI C) [] E0 t) := by
  obtain ⟨f, fd, M, F, b0⟩ := m.ex
  exact pe_make M F hr hg m.gO b0 .nil pass0 ha (by decide) he hpl
end
theorem ord_ok {C : Addr} {n : Nat} {l : Addr} {ts : List Pt} {H : Hp} {W : Addr → Hp → Prop} {E : XK} (n1 : 1 ≤ n) (n8 : n ≤ 8) (el : H l = some (.lst (rfs ts))) (pt : Pts H ts) (hlen : ts.length ≤ 64) (hlt : ∀ t ∈ ts, t.2.1 < n ∧ t.2.2 < n) (anti : Anti n (wars (memR (ts.map (·.2))) n))
    (k : ∀ (x : Addr) (H' : Hp), Same H H' → IsOrd C H' x n (lowL n (wars (memR (ts.map (·.2))) n)) → W x H') :
    ∀ x dx, H x = none → H dx = none → dx ≠ x → spOI C [.ref x, .int (n : Int), .ref l] (upd (upd H dx (.own x)) x (.ins C dx [])) (fun v H2 => v = .non ∧ W x H2) E := by
  intro x dx hx hd ne
  have s1 : Same H (upd (upd H dx (.own x)) x (.ins C dx [])) := (Same.put hd).trans (Same.put (by rw [upd_ne ne.symm]; exact hx))
  refine ⟨x, dx, n, l, ts, rfl, upd_same, n1, n8, s1 _ _ el, pt.same s1, hlen, hlt, anti, fun T us H2 s2 eT pT qT => ⟨rfl, k x _ ?_ ⟨dx, T, us, upd_same, ?_, ?_, qT⟩⟩⟩
  · exact fun b u e => by
      rw [upd_ne (ne_of_none e hx)]
      exact s2 _ _ (s1 _ _ e)
  · have ex := s2 _ _ (show (upd (upd H dx (.own x)) x (.ins C dx [])) x = some (.ins C dx []) from upd_same)
    rw [upd_ne (fun z => by rw [z, ex] at eT; cases eT)]
    exact eT
  · have ex := s2 _ _ (show (upd (upd H dx (.own x)) x (.ins C dx [])) x = some (.ins C dx []) from upd_same)
    intro u hu
    have := pT u hu
    rw [upd_ne (fun z => by rw [z, ex] at this; cases this)]
    exact this
def linePs (n : Nat) : List (Nat × Nat) := (List.range (n - 1)).map fun s => (s, s + 1)
/-- line(n) -/
def spLine (C : Addr) : Sp := fun vs H Q _ => ∃ n : Nat, vs = [.int (n : Int)] ∧ 1 ≤ n ∧ n ≤ 8 ∧ ∀ (x : Addr) (H' : Hp), Same H H' → IsOrd C H' x n (lowL n (wars (memR (linePs n)) n)) → Q (.ref x) H'
theorem line_anti (n k : Nat) : Anti n (wars (memR (linePs n)) k) := by
  have up : ∀ s t, wars (memR (linePs n)) k s t = true → s < t := wars_keep (fun s t => s < t) (fun _ _ _ => Nat.lt_trans) (fun s t h => by
    obtain ⟨i, _, e⟩ := List.mem_map.mp (of_decide_eq_true h)
    have e1 := (Prod.mk.inj e).1
    have e2 := (Prod.mk.inj e).2
    omega) k
  intro s t h1 h2
  have := up s t h1
  have := up t s h2
  omega
section
variable {P : Program} {w : World} {K : PySem.W.Frag} {mg : Str → Option Value} {base : Heap} {C : Addr}
abbrev s_line : Stmt := top 58
theorem sc_line : FnScope ["size", "state"] ["size"] (defScope s_line) := ⟨rfl, rfl, rfl, by decide +kernel, rfl, by decide +kernel, by decide +kernel⟩
theorem ok_line {f : Addr} {fd : FuncData} (F : Fun K "line" "line" s_line f fd) (T : OrT K mg C) (m : MkO P w K mg base C) (c_is_between : Cal P w K mg base 2 "is_between" ["least", "most", "thing"] spBetween) : FnOk P w K mg base CX0 7 f fd ["size"] (spLine C) := by
  obtain ⟨tM, gM⟩ := T.gM
  refine F.ok sc_line (fun vs H Q E h => ?_) (fun cdv A outer s H vs Q E hr h => ?_)
  · obtain ⟨n, rfl, _⟩ := h
    rfl
  · obtain ⟨n, rfl, n1, n8, k⟩ := h
    refine ⟨_, (pss_cons (ps_if (pt_not (pt_val (pe_cal c_is_between (hr.mono (by decide)) rfl (pa_cons pe_int (pa_cons (pe_glob (v := .int 8) rfl gM ⟨_, rfl⟩) (pa_cons (pv 0) pa_nil))))))
        pss_never
        pss_nil)
      (pss_one (ps_ret (pe_ord m hr rfl (pa_cons (pv 0) (pa_cons (pe_lc (own := [("state", 1)]) rfl sc_line.nd (pi_range1 (by rfl) T.bn.n_range (pa_cons (pe_op op_sub (pv 0) pe_int) pa_nil)) (blkOk_by (N := ["size", "state"]) (sc := defScope s_line) (by decide +kernel))
        (fun _ _ _ _ _ => (pg_name (i := 1) sc_line.nd rfl (Or.inl rfl))) (fun _ _ _ _ _ => pts_nil) (fun _ _ _ _ _ => (pe_tup (pa_cons (pv 1) (pa_cons (pe_op op_add (pv 1) pe_int) pa_nil))))) pa_nil)))))), ?_⟩
    refine ⟨_, rfl, 1, 8, n, rfl, by omega, by omega, _, rfl, iteF ?_⟩
    refine ⟨_, rfl, _, rfl, _, _, rfl, rfl, _, rfl, by omega, by omega, fun D nD => ?_⟩
    rw [show ((n : Int) - 1).toNat = n - 1 by omega]
    refine lc_range (fun i H' => Same H H' ∧ ∃ us : List Pt, H' D = some (.lst (rfs us)) ∧ Pts H' us ∧ us.map (·.2) = (List.range i).map (fun s => (s, s + 1)) ∧ us.length = i) ⟨Same.put nD, [], upd_same, fun _ m => (by cases m), rfl, rfl⟩ ?_ ?_
    · rintro i H' hi ⟨s1, us, eD, pD, qD, lD⟩
      rw [Int.zero_add]
      refine ⟨rfl, yes_of ?_⟩
      refine ⟨_, rfl, _, rfl, _, _, rfl, rfl, by show 2 ≤ sizeLine; decide, fun c nc => ?_⟩
      refine ⟨rfs us, Same.put nc _ _ eD, by rw [rfs_len]; exact small_len (by omega), Same.but (fun b u e => Same.put nc _ _ (s1 _ _ e)) nD, us ++ [(c, i, i + 1)], ?_, ?_, ?_, ?_⟩
      · rw [upd_same, rfs_snoc]
      · refine Pts.snoc (fun u m => ?_) ?_
        · have nu : u.1 ≠ D := fun q => by
            have := pD u m
            rw [q, eD] at this
            cases this
          rw [upd_ne nu]
          exact Same.put nc _ _ (pD u m)
        · have ncD : c ≠ D := fun q => by
            rw [q, eD] at nc
            cases nc
          show upd _ D _ c = _
          rw [upd_ne ncD, upd_same]
          rfl
      · rw [List.map_append, qD, List.range_succ, List.map_append]
        rfl
      · rw [List.length_append, lD]
        rfl
    · rintro H1 ⟨s1, us, eD, pD, qD, lD⟩
      refine ord_ok n1 n8 eD pD (by omega) (fun t hm => ?_) (by rw [qD]; exact line_anti n n) fun x H' s2 io => k x H' (s1.trans s2) (by rw [qD] at io; exact io)
      have : t.2 ∈ (List.range (n - 1)).map (fun s => (s, s + 1)) := by rw [← qD]; exact List.mem_map_of_mem hm
      obtain ⟨s, hs, e⟩ := List.mem_map.mp this
      have := List.mem_range.mp hs
      rw [← e]
      exact ⟨by show s < n; omega, by show s + 1 < n; omega⟩
end
end KGo
set_option Elab.async false
set_option linter.all false
set_option maxRecDepth 100000
set_option maxHeartbeats 4000000
namespace KG
open PySem L2
section
variable {P : Program} {w : World} {K : PySem.W.Frag} {mg : Str → Option Value} {base : Heap} {OC : Addr}
theorem line_i {f : Addr} {fd : FuncData} (h : FnOk P w K mg base CX0 7 f fd ["size"] (KGo.spLine OC)) : FnOk P w K mg base CX0 7 f fd ["size"] (spLineI OC) :=
  h.imp fun vs H Q E q => by
    obtain ⟨n, rfl, n1, n8, k⟩ := q
    exact ⟨n, rfl, n1, n8, fun x H' s ⟨dx, T, ts, e, _⟩ => k x dx _ H' s e⟩
end
end KG
set_option Elab.async false
set_option linter.all false
set_option maxRecDepth 100000
set_option maxHeartbeats 8000000
namespace KG
open PySem L2
theorem kit_sub {K : PySem.W.Frag} {C : Addr} {T : String} {b : Bool} (h : PySem.W.subIn K (.ref C) (.type T) = some b) (m : PySem.W.kitMeta T = true) : PySem.W.kitOne K (.ref C) (.type T) = some b := by
  show (if (Value.ref C == Value.type T) = true then some true else if PySem.W.kitMeta T = true then PySem.W.subIn K (.ref C) (.type T) else none) = some b
  rw [if_neg (show ¬ ((Value.ref C == Value.type T) = true) from fun z => by cases beq_iff_eq.mp z), if_pos m]
  exact h
theorem kit_self (K : PySem.W.Frag) (C : Addr) : PySem.W.kitOne K (.ref C) (.ref C) = some true := by
  show (if (Value.ref C == Value.ref C) = true then some true else _) = some true
  rw [if_pos (beq_iff_eq.mpr rfl)]
theorem is_cls {K : PySem.W.Frag} {C : Addr} (hd : PySem.W.hasDictIn K C = true) (t : PySem.W.typeIn K (.ref C) = some (.type "type")) : ((PySem.W.clsIn K C).isSome && PySem.W.typeIn K (.ref C) == some (.type "type")) = true := by
  obtain ⟨cd, hc, _⟩ := PySem.W.any_some hd
  rw [hc, t] <;> rfl
theorem kit_cref {K : PySem.W.Frag} {C : Addr} {t : Value} {b : Bool} (hd : PySem.W.hasDictIn K C = true) (tC : PySem.W.typeIn K (.ref C) = some (.type "type")) (h : PySem.W.subIn K t (.ref C) = some b) : PySem.W.kitCls K t (.ref C) = some b := by
  show (if ((PySem.W.clsIn K C).isSome && PySem.W.typeIn K (.ref C) == some (.type "type")) = true then PySem.W.subIn K t (.ref C) else none) = some b
  rw [if_pos (is_cls hd tC)]
  exact h
theorem no_ref {C : Addr} : ∀ {l : List Value}, l.all (fun v => match v with | .type _ => true | _ => false) = true → l.contains (.ref C) = false
  | [], _ => rfl
  | a :: r, h => by
    rw [List.all_cons, Bool.and_eq_true] at h
    rw [List.contains_cons, no_ref h.2, Bool.or_false]
    cases a <;> first | rfl | (simp at h)
theorem kit_from {K : PySem.W.Frag} {C : Addr} {T : String} {l : List Value} (hd : PySem.W.hasDictIn K C = true) (tC : PySem.W.typeIn K (.ref C) = some (.type "type")) (e : fastBuiltinMro T = some l) (hl : l.all (fun v => match v with | .type _ => true | _ => false) = true) :
    PySem.W.kitOne K (.type T) (.ref C) = some false := by
  show (if (Value.type T == Value.ref C) = true then some true else PySem.W.kitCls K (.type T) (.ref C)) = some false
  rw [if_neg (show ¬ ((Value.type T == Value.ref C) = true) from fun z => by cases beq_iff_eq.mp z)]
  refine kit_cref hd tC ?_
  show (fastBuiltinMro T).map (·.contains (.ref C)) = some false
  rw [e]
  exact congrArg some (no_ref hl)
theorem four {p : Addr → Prop} {a b c d : Addr} (h1 : p a) (h2 : p b) (h3 : p c) (h4 : p d) : ∀ x ∈ [a, b, c, d], p x := fun x m => by
  rcases List.mem_cons.mp m with rfl | m
  · exact h1
  rcases List.mem_cons.mp m with rfl | m
  · exact h2
  rcases List.mem_cons.mp m with rfl | m
  · exact h3
  rw [List.mem_singleton.mp m]
  exact h4
section
variable {K : PySem.W.Frag} {mg : Str → Option Value} {h : Heap}
theorem all_mk {l : PySem.W.OpenLaw} {w : World} {fa C DC OC CC W BS T_SI T_WE f_WE f_BS f_iw f_ib f_ii f_nm f_tu f_tb f_nr f_ipr f_ixp f_SI f_add f_radd f_eq f_less f_ish f_sof f_shs f_tot f_f0 f_abv f_spr f_CI f_DI f_mln f_prt f_hvs f_hlf f_abl f_stk f_iss f_OI f_lnk f_lin f_pool f_draw f_pick f_trn f_lps f_whl f_lsp f_lch f_lint f_isp f_map f_dpa f_giv f_ldr f_gat f_rng f_wei f_inh f_lst f_com f_spo f_isr f_law : Addr} (X : K.In h) (G : h.Ns mainGlobals mg) (hfa : mg "law" = some (.ref fa))
    {oc_WE kV_WE dc_WE pm_WE cd_WE ct_WE oc_BS kV_BS dc_BS pm_BS cd_BS ct_BS oc_iw kV_iw dc_iw pm_iw cd_iw ct_iw oc_ib kV_ib dc_ib pm_ib cd_ib ct_ib oc_ii kV_ii dc_ii pm_ii cd_ii ct_ii oc_nm kV_nm dc_nm pm_nm cd_nm ct_nm oc_tu kV_tu dc_tu pm_tu cd_tu ct_tu oc_tb kV_tb dc_tb pm_tb cd_tb ct_tb oc_nr kV_nr dc_nr pm_nr cd_nr ct_nr oc_ipr kV_ipr dc_ipr pm_ipr cd_ipr ct_ipr oc_ixp kV_ixp dc_ixp pm_ixp cd_ixp ct_ixp oc_SI kV_SI dc_SI pm_SI cd_SI ct_SI oc_add kV_add dc_add pm_add cd_add ct_add oc_radd kV_radd dc_radd pm_radd cd_radd ct_radd oc_eq kV_eq dc_eq pm_eq cd_eq ct_eq oc_less kV_less dc_less pm_less cd_less ct_less oc_ish kV_ish dc_ish pm_ish cd_ish ct_ish oc_sof kV_sof dc_sof pm_sof cd_sof ct_sof oc_shs kV_shs dc_shs pm_shs cd_shs ct_shs oc_tot kV_tot dc_tot pm_tot cd_tot ct_tot oc_f0 kV_f0 dc_f0 pm_f0 cd_f0 ct_f0 oc_abv kV_abv dc_abv pm_abv cd_abv ct_abv oc_spr kV_spr dc_spr pm_spr cd_spr ct_spr oc_CI kV_CI dc_CI pm_CI cd_CI ct_CI oc_DI kV_DI dc_DI pm_DI cd_DI ct_DI oc_mln kV_mln dc_mln pm_mln cd_mln ct_mln oc_prt kV_prt dc_prt pm_prt cd_prt ct_prt oc_hvs kV_hvs dc_hvs pm_hvs cd_hvs ct_hvs oc_hlf kV_hlf dc_hlf pm_hlf cd_hlf ct_hlf oc_abl kV_abl dc_abl pm_abl cd_abl ct_abl oc_stk kV_stk dc_stk pm_stk cd_stk ct_stk oc_iss kV_iss dc_iss pm_iss cd_iss ct_iss oc_OI kV_OI dc_OI pm_OI cd_OI ct_OI oc_lnk kV_lnk dc_lnk pm_lnk cd_lnk ct_lnk oc_lin kV_lin dc_lin pm_lin cd_lin ct_lin oc_pool kV_pool dc_pool pm_pool cd_pool ct_pool oc_draw kV_draw dc_draw pm_draw cd_draw ct_draw oc_pick kV_pick dc_pick pm_pick cd_pick ct_pick oc_trn kV_trn dc_trn pm_trn cd_trn ct_trn oc_lps kV_lps dc_lps pm_lps cd_lps ct_lps oc_whl kV_whl dc_whl pm_whl cd_whl ct_whl oc_lsp kV_lsp dc_lsp pm_lsp cd_lsp ct_lsp oc_lch kV_lch dc_lch pm_lch cd_lch ct_lch oc_lint kV_lint dc_lint pm_lint cd_lint ct_lint oc_isp kV_isp dc_isp pm_isp cd_isp ct_isp oc_map kV_map dc_map pm_map cd_map ct_map oc_dpa kV_dpa dc_dpa pm_dpa cd_dpa ct_dpa oc_giv kV_giv dc_giv pm_giv cd_giv ct_giv oc_ldr kV_ldr dc_ldr pm_ldr cd_ldr ct_ldr oc_gat kV_gat dc_gat pm_gat cd_gat ct_gat oc_rng kV_rng dc_rng pm_rng cd_rng ct_rng oc_wei kV_wei dc_wei pm_wei cd_wei ct_wei oc_inh kV_inh dc_inh pm_inh cd_inh ct_inh oc_lst kV_lst dc_lst pm_lst cd_lst ct_lst oc_com kV_com dc_com pm_com cd_com ct_com oc_spo kV_spo dc_spo pm_spo cd_spo ct_spo oc_isr kV_isr dc_isr pm_isr cd_isr ct_isr oc_law kV_law dc_law pm_law cd_law ct_law : Value} {od_WE an_WE od_BS an_BS od_iw an_iw od_ib an_ib od_ii an_ii od_nm an_nm od_tu an_tu od_tb an_tb od_nr an_nr od_ipr an_ipr od_ixp an_ixp od_SI an_SI od_add an_add od_radd an_radd od_eq an_eq od_less an_less od_ish an_ish od_sof an_sof od_shs an_shs od_tot an_tot od_f0 an_f0 od_abv an_abv od_spr an_spr od_CI an_CI od_DI an_DI od_mln an_mln od_prt an_prt od_hvs an_hvs od_hlf an_hlf od_abl an_abl od_stk an_stk od_iss an_iss od_OI an_OI od_lnk an_lnk od_lin an_lin od_pool an_pool od_draw an_draw od_pick an_pick od_trn an_trn od_lps an_lps od_whl an_whl od_lsp an_lsp od_lch an_lch od_lint an_lint od_isp an_isp od_map an_map od_dpa an_dpa od_giv an_giv od_ldr an_ldr od_gat an_gat od_rng an_rng od_wei an_wei od_inh an_inh od_lst an_lst od_com an_com od_spo an_spo od_isr an_isr od_law an_law : Option Addr} {sl_WE sl_BS sl_iw sl_ib sl_ii sl_nm sl_tu sl_tb sl_nr sl_ipr sl_ixp sl_SI sl_add sl_radd sl_eq sl_less sl_ish sl_sof sl_shs sl_tot sl_f0 sl_abv sl_spr sl_CI sl_DI sl_mln sl_prt sl_hvs sl_hlf sl_abl sl_stk sl_iss sl_OI sl_lnk sl_lin sl_pool sl_draw sl_pick sl_trn sl_lps sl_whl sl_lsp sl_lch sl_lint sl_isp sl_map sl_dpa sl_giv sl_ldr sl_gat sl_rng sl_wei sl_inh sl_lst sl_com sl_spo sl_isr sl_law : Array (Option Value)}
    {mp ml bl ol : Int} {lt : Str} {tkM tkL tkB tkO tkT tkS tkW : Tok} {xW : Str} {tcS tcW : Value} {tdS tdW : Option Addr} {tnS tnW : Nat} {tsS tsW : Array (Option Value)} {ro_add : Option Value}
    {nmB qB : Str} {NB : Addr} {bsB bmB : List Value} {snB : List Str} {subB : List Value} {abB : Bool} {colB : Option Bool} {ddB : Option Addr} {b0B b1B b2B b3B b5B : Option Value}
    (aS : PySem.W.nsIn K mainGlobals "Share" = some (some (.ref C)))
    (aW : PySem.W.nsIn K mainGlobals "WalkError" = some (some (.ref W)))
    (aB : PySem.W.nsIn K mainGlobals "BadShare" = some (some (.ref BS)))
    (aD : PySem.W.nsIn K mainGlobals "Draw" = some (some (.ref DC)))
    (aC : PySem.W.nsIn K mainGlobals "Chain" = some (some (.ref CC)))
    (aO : PySem.W.nsIn K mainGlobals "Order" = some (some (.ref OC)))
    (aM : PySem.W.nsIn K mainGlobals "MOST_PARTS" = some (some (.int mp tkM)))
    (eM : mp = 300)
    (aL : PySem.W.nsIn K mainGlobals "MOST_LED" = some (some (.int ml tkL)))
    (eL : ml = 8)
    (aMS : PySem.W.nsIn K mainGlobals "MOST_STATES" = some (some (.int bl tkB)))
    (eMS : bl = 8)
    (aMO : PySem.W.nsIn K mainGlobals "MOST_ORDERED" = some (some (.int ol tkO)))
    (eMO : ol = 8)
    (aLT : PySem.W.nsIn K mainGlobals "LETTERS" = some (some (.str lt tkT)))
    (eLT : lt = abc)
    (aG : PySem.W.nsIn K mainGlobals "gcd" = some (some (.builtin "math.gcd")))
    (n_isinstance : PySem.W.nsIn K mainGlobals "isinstance" = some none)
    (n_int : PySem.W.nsIn K mainGlobals "int" = some none)
    (n_bool : PySem.W.nsIn K mainGlobals "bool" = some none)
    (n_abs : PySem.W.nsIn K mainGlobals "abs" = some none)
    (n_len : PySem.W.nsIn K mainGlobals "len" = some none)
    (n_str : PySem.W.nsIn K mainGlobals "str" = some none)
    (n_divmod : PySem.W.nsIn K mainGlobals "divmod" = some none)
    (n_ValueError : PySem.W.nsIn K mainGlobals "ValueError" = some none)
    (n_list : PySem.W.nsIn K mainGlobals "list" = some none)
    (n_tuple : PySem.W.nsIn K mainGlobals "tuple" = some none)
    (n_range : PySem.W.nsIn K mainGlobals "range" = some none)
    (n_sum : PySem.W.nsIn K mainGlobals "sum" = some none)
    (n_min : PySem.W.nsIn K mainGlobals "min" = some none)
    (n_max : PySem.W.nsIn K mainGlobals "max" = some none)
    (n_all : PySem.W.nsIn K mainGlobals "all" = some none)
    (n_any : PySem.W.nsIn K mainGlobals "any" = some none)
    (n_set : PySem.W.nsIn K mainGlobals "set" = some none)
    (n_sorted : PySem.W.nsIn K mainGlobals "sorted" = some none)
    (n_enumerate : PySem.W.nsIn K mainGlobals "enumerate" = some none)
    (a_WE : PySem.W.findIn K (.ref W) "__init__" = some (some (.ref f_WE)))
    (l_WE : K.lookup f_WE = some ⟨oc_WE, od_WE, .func (PySem.W.fnOf "__init__" "WalkError.__init__" (defArgs s_WE) (defBody s_WE) (defScope s_WE) (.ref T_WE) kV_WE dc_WE pm_WE an_WE cd_WE ct_WE), sl_WE⟩)
    (c_WE : PySem.W.codeIn K cd_WE "WalkError.__init__" = true)
    (k_WE : PySem.W.keepIn K (.ref f_WE) = true)
    (a_BS : PySem.W.findIn K (.ref BS) "__init__" = some (some (.ref f_BS)))
    (l_BS : K.lookup f_BS = some ⟨oc_BS, od_BS, .func (PySem.W.fnOf "__init__" "BadShare.__init__" (defArgs s_BS) (defBody s_BS) (defScope s_BS) .none kV_BS dc_BS pm_BS an_BS cd_BS ct_BS), sl_BS⟩)
    (c_BS : PySem.W.codeIn K cd_BS "BadShare.__init__" = true)
    (k_BS : PySem.W.keepIn K (.ref f_BS) = true)
    (a_iw : PySem.W.nsIn K mainGlobals "is_whole" = some (some (.ref f_iw)))
    (l_iw : K.lookup f_iw = some ⟨oc_iw, od_iw, .func (PySem.W.fnOf "is_whole" "is_whole" (defArgs s_is_whole) (defBody s_is_whole) (defScope s_is_whole) .none kV_iw dc_iw pm_iw an_iw cd_iw ct_iw), sl_iw⟩)
    (c_iw : PySem.W.codeIn K cd_iw "is_whole" = true)
    (k_iw : PySem.W.keepIn K (.ref f_iw) = true)
    (a_ib : PySem.W.nsIn K mainGlobals "is_between" = some (some (.ref f_ib)))
    (l_ib : K.lookup f_ib = some ⟨oc_ib, od_ib, .func (PySem.W.fnOf "is_between" "is_between" (defArgs s_is_between) (defBody s_is_between) (defScope s_is_between) .none kV_ib dc_ib pm_ib an_ib cd_ib ct_ib), sl_ib⟩)
    (c_ib : PySem.W.codeIn K cd_ib "is_between" = true)
    (k_ib : PySem.W.keepIn K (.ref f_ib) = true)
    (a_ii : PySem.W.nsIn K mainGlobals "is_index" = some (some (.ref f_ii)))
    (l_ii : K.lookup f_ii = some ⟨oc_ii, od_ii, .func (PySem.W.fnOf "is_index" "is_index" (defArgs s_is_index) (defBody s_is_index) (defScope s_is_index) .none kV_ii dc_ii pm_ii an_ii cd_ii ct_ii), sl_ii⟩)
    (c_ii : PySem.W.codeIn K cd_ii "is_index" = true)
    (k_ii : PySem.W.keepIn K (.ref f_ii) = true)
    (a_nm : PySem.W.nsIn K mainGlobals "is_name" = some (some (.ref f_nm)))
    (l_nm : K.lookup f_nm = some ⟨oc_nm, od_nm, .func (PySem.W.fnOf "is_name" "is_name" (defArgs s_is_name) (defBody s_is_name) (defScope s_is_name) .none kV_nm dc_nm pm_nm an_nm cd_nm ct_nm), sl_nm⟩)
    (c_nm : PySem.W.codeIn K cd_nm "is_name" = true)
    (k_nm : PySem.W.keepIn K (.ref f_nm) = true)
    (a_tu : PySem.W.nsIn K mainGlobals "is_tuple_of" = some (some (.ref f_tu)))
    (l_tu : K.lookup f_tu = some ⟨oc_tu, od_tu, .func (PySem.W.fnOf "is_tuple_of" "is_tuple_of" (defArgs s_tupOf) (defBody s_tupOf) (defScope s_tupOf) .none kV_tu dc_tu pm_tu an_tu cd_tu ct_tu), sl_tu⟩)
    (c_tu : PySem.W.codeIn K cd_tu "is_tuple_of" = true)
    (k_tu : PySem.W.keepIn K (.ref f_tu) = true)
    (a_tb : PySem.W.nsIn K mainGlobals "is_tuple_between" = some (some (.ref f_tb)))
    (l_tb : K.lookup f_tb = some ⟨oc_tb, od_tb, .func (PySem.W.fnOf "is_tuple_between" "is_tuple_between" (defArgs s_tupBet) (defBody s_tupBet) (defScope s_tupBet) .none kV_tb dc_tb pm_tb an_tb cd_tb ct_tb), sl_tb⟩)
    (c_tb : PySem.W.codeIn K cd_tb "is_tuple_between" = true)
    (k_tb : PySem.W.keepIn K (.ref f_tb) = true)
    (a_nr : PySem.W.nsIn K mainGlobals "is_name_row" = some (some (.ref f_nr)))
    (l_nr : K.lookup f_nr = some ⟨oc_nr, od_nr, .func (PySem.W.fnOf "is_name_row" "is_name_row" (defArgs s_nameRow) (defBody s_nameRow) (defScope s_nameRow) .none kV_nr dc_nr pm_nr an_nr cd_nr ct_nr), sl_nr⟩)
    (c_nr : PySem.W.codeIn K cd_nr "is_name_row" = true)
    (k_nr : PySem.W.keepIn K (.ref f_nr) = true)
    (a_ipr : PySem.W.nsIn K mainGlobals "is_index_pair" = some (some (.ref f_ipr)))
    (l_ipr : K.lookup f_ipr = some ⟨oc_ipr, od_ipr, .func (PySem.W.fnOf "is_index_pair" "is_index_pair" (defArgs s_ixp) (defBody s_ixp) (defScope s_ixp) .none kV_ipr dc_ipr pm_ipr an_ipr cd_ipr ct_ipr), sl_ipr⟩)
    (c_ipr : PySem.W.codeIn K cd_ipr "is_index_pair" = true)
    (k_ipr : PySem.W.keepIn K (.ref f_ipr) = true)
    (a_ixp : PySem.W.nsIn K mainGlobals "index_pairs" = some (some (.ref f_ixp)))
    (l_ixp : K.lookup f_ixp = some ⟨oc_ixp, od_ixp, .func (PySem.W.fnOf "index_pairs" "index_pairs" (defArgs s_index_pairs) (defBody s_index_pairs) (defScope s_index_pairs) .none kV_ixp dc_ixp pm_ixp an_ixp cd_ixp ct_ixp), sl_ixp⟩)
    (c_ixp : PySem.W.codeIn K cd_ixp "index_pairs" = true)
    (k_ixp : PySem.W.keepIn K (.ref f_ixp) = true)
    (a_SI : PySem.W.findIn K (.ref C) "__init__" = some (some (.ref f_SI)))
    (l_SI : K.lookup f_SI = some ⟨oc_SI, od_SI, .func (PySem.W.fnOf "__init__" "Share.__init__" (defArgs s_SI) (defBody s_SI) (defScope s_SI) (.ref T_SI) kV_SI dc_SI pm_SI an_SI cd_SI ct_SI), sl_SI⟩)
    (c_SI : PySem.W.codeIn K cd_SI "Share.__init__" = true)
    (k_SI : PySem.W.keepIn K (.ref f_SI) = true)
    (a_add : PySem.W.findIn K (.ref C) "__add__" = some (some (.ref f_add)))
    (l_add : K.lookup f_add = some ⟨oc_add, od_add, .func (PySem.W.fnOf "__add__" "Share.__add__" (defArgs s_add) (defBody s_add) (defScope s_add) .none kV_add dc_add pm_add an_add cd_add ct_add), sl_add⟩)
    (c_add : PySem.W.codeIn K cd_add "Share.__add__" = true)
    (k_add : PySem.W.keepIn K (.ref f_add) = true)
    (a_radd : PySem.W.findIn K (.ref C) "__radd__" = some (some (.ref f_radd)))
    (l_radd : K.lookup f_radd = some ⟨oc_radd, od_radd, .func (PySem.W.fnOf "__radd__" "Share.__radd__" (defArgs s_radd) (defBody s_radd) (defScope s_radd) .none kV_radd dc_radd pm_radd an_radd cd_radd ct_radd), sl_radd⟩)
    (c_radd : PySem.W.codeIn K cd_radd "Share.__radd__" = true)
    (k_radd : PySem.W.keepIn K (.ref f_radd) = true)
    (a_eq : PySem.W.findIn K (.ref C) "__eq__" = some (some (.ref f_eq)))
    (l_eq : K.lookup f_eq = some ⟨oc_eq, od_eq, .func (PySem.W.fnOf "__eq__" "Share.__eq__" (defArgs s_eq) (defBody s_eq) (defScope s_eq) .none kV_eq dc_eq pm_eq an_eq cd_eq ct_eq), sl_eq⟩)
    (c_eq : PySem.W.codeIn K cd_eq "Share.__eq__" = true)
    (k_eq : PySem.W.keepIn K (.ref f_eq) = true)
    (a_less : PySem.W.findIn K (.ref C) "less" = some (some (.ref f_less)))
    (l_less : K.lookup f_less = some ⟨oc_less, od_less, .func (PySem.W.fnOf "less" "Share.less" (defArgs s_sless) (defBody s_sless) (defScope s_sless) .none kV_less dc_less pm_less an_less cd_less ct_less), sl_less⟩)
    (c_less : PySem.W.codeIn K cd_less "Share.less" = true)
    (k_less : PySem.W.keepIn K (.ref f_less) = true)
    (a_ish : PySem.W.nsIn K mainGlobals "is_share" = some (some (.ref f_ish)))
    (l_ish : K.lookup f_ish = some ⟨oc_ish, od_ish, .func (PySem.W.fnOf "is_share" "is_share" (defArgs s_is_share) (defBody s_is_share) (defScope s_is_share) .none kV_ish dc_ish pm_ish an_ish cd_ish ct_ish), sl_ish⟩)
    (c_ish : PySem.W.codeIn K cd_ish "is_share" = true)
    (k_ish : PySem.W.keepIn K (.ref f_ish) = true)
    (a_sof : PySem.W.nsIn K mainGlobals "share_of" = some (some (.ref f_sof)))
    (l_sof : K.lookup f_sof = some ⟨oc_sof, od_sof, .func (PySem.W.fnOf "share_of" "share_of" (defArgs s_share_of) (defBody s_share_of) (defScope s_share_of) .none kV_sof dc_sof pm_sof an_sof cd_sof ct_sof), sl_sof⟩)
    (c_sof : PySem.W.codeIn K cd_sof "share_of" = true)
    (k_sof : PySem.W.keepIn K (.ref f_sof) = true)
    (a_shs : PySem.W.nsIn K mainGlobals "shares_of" = some (some (.ref f_shs)))
    (l_shs : K.lookup f_shs = some ⟨oc_shs, od_shs, .func (PySem.W.fnOf "shares_of" "shares_of" (defArgs s_shares_of) (defBody s_shares_of) (defScope s_shares_of) .none kV_shs dc_shs pm_shs an_shs cd_shs ct_shs), sl_shs⟩)
    (c_shs : PySem.W.codeIn K cd_shs "shares_of" = true)
    (k_shs : PySem.W.keepIn K (.ref f_shs) = true)
    (a_tot : PySem.W.nsIn K mainGlobals "total" = some (some (.ref f_tot)))
    (l_tot : K.lookup f_tot = some ⟨oc_tot, od_tot, .func (PySem.W.fnOf "total" "total" (defArgs s_total) (defBody s_total) (defScope s_total) .none kV_tot dc_tot pm_tot an_tot cd_tot ct_tot), sl_tot⟩)
    (c_tot : PySem.W.codeIn K cd_tot "total" = true)
    (k_tot : PySem.W.keepIn K (.ref f_tot) = true)
    (a_f0 : PySem.W.nsIn K mainGlobals "is_from_zero" = some (some (.ref f_f0)))
    (l_f0 : K.lookup f_f0 = some ⟨oc_f0, od_f0, .func (PySem.W.fnOf "is_from_zero" "is_from_zero" (defArgs s_from0) (defBody s_from0) (defScope s_from0) .none kV_f0 dc_f0 pm_f0 an_f0 cd_f0 ct_f0), sl_f0⟩)
    (c_f0 : PySem.W.codeIn K cd_f0 "is_from_zero" = true)
    (k_f0 : PySem.W.keepIn K (.ref f_f0) = true)
    (a_abv : PySem.W.nsIn K mainGlobals "is_above_zero" = some (some (.ref f_abv)))
    (l_abv : K.lookup f_abv = some ⟨oc_abv, od_abv, .func (PySem.W.fnOf "is_above_zero" "is_above_zero" (defArgs s_above) (defBody s_above) (defScope s_above) .none kV_abv dc_abv pm_abv an_abv cd_abv ct_abv), sl_abv⟩)
    (c_abv : PySem.W.codeIn K cd_abv "is_above_zero" = true)
    (k_abv : PySem.W.keepIn K (.ref f_abv) = true)
    (a_spr : PySem.W.nsIn K mainGlobals "is_spread" = some (some (.ref f_spr)))
    (l_spr : K.lookup f_spr = some ⟨oc_spr, od_spr, .func (PySem.W.fnOf "is_spread" "is_spread" (defArgs s_spread) (defBody s_spread) (defScope s_spread) .none kV_spr dc_spr pm_spr an_spr cd_spr ct_spr), sl_spr⟩)
    (c_spr : PySem.W.codeIn K cd_spr "is_spread" = true)
    (k_spr : PySem.W.keepIn K (.ref f_spr) = true)
    (a_CI : PySem.W.findIn K (.ref CC) "__init__" = some (some (.ref f_CI)))
    (l_CI : K.lookup f_CI = some ⟨oc_CI, od_CI, .func (PySem.W.fnOf "__init__" "Chain.__init__" (defArgs s_CI) (defBody s_CI) (defScope s_CI) .none kV_CI dc_CI pm_CI an_CI cd_CI ct_CI), sl_CI⟩)
    (c_CI : PySem.W.codeIn K cd_CI "Chain.__init__" = true)
    (k_CI : PySem.W.keepIn K (.ref f_CI) = true)
    (a_DI : PySem.W.findIn K (.ref DC) "__init__" = some (some (.ref f_DI)))
    (l_DI : K.lookup f_DI = some ⟨oc_DI, od_DI, .func (PySem.W.fnOf "__init__" "Draw.__init__" (defArgs s_DI) (defBody s_DI) (defScope s_DI) .none kV_DI dc_DI pm_DI an_DI cd_DI ct_DI), sl_DI⟩)
    (c_DI : PySem.W.codeIn K cd_DI "Draw.__init__" = true)
    (k_DI : PySem.W.keepIn K (.ref f_DI) = true)
    (a_mln : PySem.W.nsIn K mainGlobals "map_length" = some (some (.ref f_mln)))
    (l_mln : K.lookup f_mln = some ⟨oc_mln, od_mln, .func (PySem.W.fnOf "map_length" "map_length" (defArgs s_mlen) (defBody s_mlen) (defScope s_mlen) .none kV_mln dc_mln pm_mln an_mln cd_mln ct_mln), sl_mln⟩)
    (c_mln : PySem.W.codeIn K cd_mln "map_length" = true)
    (k_mln : PySem.W.keepIn K (.ref f_mln) = true)
    (a_prt : PySem.W.nsIn K mainGlobals "is_part" = some (some (.ref f_prt)))
    (l_prt : K.lookup f_prt = some ⟨oc_prt, od_prt, .func (PySem.W.fnOf "is_part" "is_part" (defArgs s_part) (defBody s_part) (defScope s_part) .none kV_prt dc_prt pm_prt an_prt cd_prt ct_prt), sl_prt⟩)
    (c_prt : PySem.W.codeIn K cd_prt "is_part" = true)
    (k_prt : PySem.W.keepIn K (.ref f_prt) = true)
    (a_hvs : PySem.W.nsIn K mainGlobals "halves" = some (some (.ref f_hvs)))
    (l_hvs : K.lookup f_hvs = some ⟨oc_hvs, od_hvs, .func (PySem.W.fnOf "halves" "halves" (defArgs s_halves) (defBody s_halves) (defScope s_halves) .none kV_hvs dc_hvs pm_hvs an_hvs cd_hvs ct_hvs), sl_hvs⟩)
    (c_hvs : PySem.W.codeIn K cd_hvs "halves" = true)
    (k_hvs : PySem.W.keepIn K (.ref f_hvs) = true)
    (a_hlf : PySem.W.nsIn K mainGlobals "half" = some (some (.ref f_hlf)))
    (l_hlf : K.lookup f_hlf = some ⟨oc_hlf, od_hlf, .func (PySem.W.fnOf "half" "half" (defArgs s_half) (defBody s_half) (defScope s_half) .none kV_hlf dc_hlf pm_hlf an_hlf cd_hlf ct_hlf), sl_hlf⟩)
    (c_hlf : PySem.W.codeIn K cd_hlf "half" = true)
    (k_hlf : PySem.W.keepIn K (.ref f_hlf) = true)
    (a_abl : PySem.W.nsIn K mainGlobals "able_places" = some (some (.ref f_abl)))
    (l_abl : K.lookup f_abl = some ⟨oc_abl, od_abl, .func (PySem.W.fnOf "able_places" "able_places" (defArgs s_able) (defBody s_able) (defScope s_able) .none kV_abl dc_abl pm_abl an_abl cd_abl ct_abl), sl_abl⟩)
    (c_abl : PySem.W.codeIn K cd_abl "able_places" = true)
    (k_abl : PySem.W.keepIn K (.ref f_abl) = true)
    (a_stk : PySem.W.nsIn K mainGlobals "stuck" = some (some (.ref f_stk)))
    (l_stk : K.lookup f_stk = some ⟨oc_stk, od_stk, .func (PySem.W.fnOf "stuck" "stuck" (defArgs s_stuck) (defBody s_stuck) (defScope s_stuck) .none kV_stk dc_stk pm_stk an_stk cd_stk ct_stk), sl_stk⟩)
    (c_stk : PySem.W.codeIn K cd_stk "stuck" = true)
    (k_stk : PySem.W.keepIn K (.ref f_stk) = true)
    (a_iss : PySem.W.nsIn K mainGlobals "is_stuck" = some (some (.ref f_iss)))
    (l_iss : K.lookup f_iss = some ⟨oc_iss, od_iss, .func (PySem.W.fnOf "is_stuck" "is_stuck" (defArgs s_iss) (defBody s_iss) (defScope s_iss) .none kV_iss dc_iss pm_iss an_iss cd_iss ct_iss), sl_iss⟩)
    (c_iss : PySem.W.codeIn K cd_iss "is_stuck" = true)
    (k_iss : PySem.W.keepIn K (.ref f_iss) = true)
    (a_OI : PySem.W.findIn K (.ref OC) "__init__" = some (some (.ref f_OI)))
    (l_OI : K.lookup f_OI = some ⟨oc_OI, od_OI, .func (PySem.W.fnOf "__init__" "Order.__init__" (defArgs KGo.s_OI) (defBody KGo.s_OI) (defScope KGo.s_OI) .none kV_OI dc_OI pm_OI an_OI cd_OI ct_OI), sl_OI⟩)
    (c_OI : PySem.W.codeIn K cd_OI "Order.__init__" = true)
    (k_OI : PySem.W.keepIn K (.ref f_OI) = true)
    (a_lnk : PySem.W.nsIn K mainGlobals "linked" = some (some (.ref f_lnk)))
    (l_lnk : K.lookup f_lnk = some ⟨oc_lnk, od_lnk, .func (PySem.W.fnOf "linked" "linked" (defArgs KGo.s_linked) (defBody KGo.s_linked) (defScope KGo.s_linked) .none kV_lnk dc_lnk pm_lnk an_lnk cd_lnk ct_lnk), sl_lnk⟩)
    (c_lnk : PySem.W.codeIn K cd_lnk "linked" = true)
    (k_lnk : PySem.W.keepIn K (.ref f_lnk) = true)
    (a_lin : PySem.W.nsIn K mainGlobals "line" = some (some (.ref f_lin)))
    (l_lin : K.lookup f_lin = some ⟨oc_lin, od_lin, .func (PySem.W.fnOf "line" "line" (defArgs KGo.s_line) (defBody KGo.s_line) (defScope KGo.s_line) .none kV_lin dc_lin pm_lin an_lin cd_lin ct_lin), sl_lin⟩)
    (c_lin : PySem.W.codeIn K cd_lin "line" = true)
    (k_lin : PySem.W.keepIn K (.ref f_lin) = true)
    (a_pool : PySem.W.nsIn K mainGlobals "_law_pool" = some (some (.ref f_pool)))
    (l_pool : K.lookup f_pool = some ⟨oc_pool, od_pool, .func (PySem.W.fnOf "_law_pool" "_law_pool" (defArgs s_pool) (defBody s_pool) (defScope s_pool) .none kV_pool dc_pool pm_pool an_pool cd_pool ct_pool), sl_pool⟩)
    (c_pool : PySem.W.codeIn K cd_pool "_law_pool" = true)
    (k_pool : PySem.W.keepIn K (.ref f_pool) = true)
    (a_draw : PySem.W.nsIn K mainGlobals "_law_draw" = some (some (.ref f_draw)))
    (l_draw : K.lookup f_draw = some ⟨oc_draw, od_draw, .func (PySem.W.fnOf "_law_draw" "_law_draw" (defArgs s_draw) (defBody s_draw) (defScope s_draw) .none kV_draw dc_draw pm_draw an_draw cd_draw ct_draw), sl_draw⟩)
    (c_draw : PySem.W.codeIn K cd_draw "_law_draw" = true)
    (k_draw : PySem.W.keepIn K (.ref f_draw) = true)
    (a_pick : PySem.W.nsIn K mainGlobals "_law_pick" = some (some (.ref f_pick)))
    (l_pick : K.lookup f_pick = some ⟨oc_pick, od_pick, .func (PySem.W.fnOf "_law_pick" "_law_pick" (defArgs s_pick) (defBody s_pick) (defScope s_pick) .none kV_pick dc_pick pm_pick an_pick cd_pick ct_pick), sl_pick⟩)
    (c_pick : PySem.W.codeIn K cd_pick "_law_pick" = true)
    (k_pick : PySem.W.keepIn K (.ref f_pick) = true)
    (a_trn : PySem.W.nsIn K mainGlobals "_law_turned_about" = some (some (.ref f_trn)))
    (l_trn : K.lookup f_trn = some ⟨oc_trn, od_trn, .func (PySem.W.fnOf "_law_turned_about" "_law_turned_about" (defArgs s_turn) (defBody s_turn) (defScope s_turn) .none kV_trn dc_trn pm_trn an_trn cd_trn ct_trn), sl_trn⟩)
    (c_trn : PySem.W.codeIn K cd_trn "_law_turned_about" = true)
    (k_trn : PySem.W.keepIn K (.ref f_trn) = true)
    (a_lps : PySem.W.nsIn K mainGlobals "_law_pairs" = some (some (.ref f_lps)))
    (l_lps : K.lookup f_lps = some ⟨oc_lps, od_lps, .func (PySem.W.fnOf "_law_pairs" "_law_pairs" (defArgs s_lpairs) (defBody s_lpairs) (defScope s_lpairs) .none kV_lps dc_lps pm_lps an_lps cd_lps ct_lps), sl_lps⟩)
    (c_lps : PySem.W.codeIn K cd_lps "_law_pairs" = true)
    (k_lps : PySem.W.keepIn K (.ref f_lps) = true)
    (a_whl : PySem.W.nsIn K mainGlobals "_law_whole" = some (some (.ref f_whl)))
    (l_whl : K.lookup f_whl = some ⟨oc_whl, od_whl, .func (PySem.W.fnOf "_law_whole" "_law_whole" (defArgs s_whole) (defBody s_whole) (defScope s_whole) .none kV_whl dc_whl pm_whl an_whl cd_whl ct_whl), sl_whl⟩)
    (c_whl : PySem.W.codeIn K cd_whl "_law_whole" = true)
    (k_whl : PySem.W.keepIn K (.ref f_whl) = true)
    (a_lsp : PySem.W.nsIn K mainGlobals "_law_spread" = some (some (.ref f_lsp)))
    (l_lsp : K.lookup f_lsp = some ⟨oc_lsp, od_lsp, .func (PySem.W.fnOf "_law_spread" "_law_spread" (defArgs s_spr) (defBody s_spr) (defScope s_spr) .none kV_lsp dc_lsp pm_lsp an_lsp cd_lsp ct_lsp), sl_lsp⟩)
    (c_lsp : PySem.W.codeIn K cd_lsp "_law_spread" = true)
    (k_lsp : PySem.W.keepIn K (.ref f_lsp) = true)
    (a_lch : PySem.W.nsIn K mainGlobals "_law_chain" = some (some (.ref f_lch)))
    (l_lch : K.lookup f_lch = some ⟨oc_lch, od_lch, .func (PySem.W.fnOf "_law_chain" "_law_chain" (defArgs s_chn) (defBody s_chn) (defScope s_chn) .none kV_lch dc_lch pm_lch an_lch cd_lch ct_lch), sl_lch⟩)
    (c_lch : PySem.W.codeIn K cd_lch "_law_chain" = true)
    (k_lch : PySem.W.keepIn K (.ref f_lch) = true)
    (a_lint : PySem.W.nsIn K mainGlobals "_law_is_integer" = some (some (.ref f_lint)))
    (l_lint : K.lookup f_lint = some ⟨oc_lint, od_lint, .func (PySem.W.fnOf "_law_is_integer" "_law_is_integer" (defArgs s_lint) (defBody s_lint) (defScope s_lint) .none kV_lint dc_lint pm_lint an_lint cd_lint ct_lint), sl_lint⟩)
    (c_lint : PySem.W.codeIn K cd_lint "_law_is_integer" = true)
    (k_lint : PySem.W.keepIn K (.ref f_lint) = true)
    (a_isp : PySem.W.nsIn K mainGlobals "_law_is_pair" = some (some (.ref f_isp)))
    (l_isp : K.lookup f_isp = some ⟨oc_isp, od_isp, .func (PySem.W.fnOf "_law_is_pair" "_law_is_pair" (defArgs s_isp) (defBody s_isp) (defScope s_isp) .none kV_isp dc_isp pm_isp an_isp cd_isp ct_isp), sl_isp⟩)
    (c_isp : PySem.W.codeIn K cd_isp "_law_is_pair" = true)
    (k_isp : PySem.W.keepIn K (.ref f_isp) = true)
    (a_map : PySem.W.nsIn K mainGlobals "_law_map" = some (some (.ref f_map)))
    (l_map : K.lookup f_map = some ⟨oc_map, od_map, .func (PySem.W.fnOf "_law_map" "_law_map" (defArgs s_map) (defBody s_map) (defScope s_map) .none kV_map dc_map pm_map an_map cd_map ct_map), sl_map⟩)
    (c_map : PySem.W.codeIn K cd_map "_law_map" = true)
    (k_map : PySem.W.keepIn K (.ref f_map) = true)
    (a_dpa : PySem.W.nsIn K mainGlobals "_law_draw_parts" = some (some (.ref f_dpa)))
    (l_dpa : K.lookup f_dpa = some ⟨oc_dpa, od_dpa, .func (PySem.W.fnOf "_law_draw_parts" "_law_draw_parts" (defArgs s_draw_parts) (defBody s_draw_parts) (defScope s_draw_parts) .none kV_dpa dc_dpa pm_dpa an_dpa cd_dpa ct_dpa), sl_dpa⟩)
    (c_dpa : PySem.W.codeIn K cd_dpa "_law_draw_parts" = true)
    (k_dpa : PySem.W.keepIn K (.ref f_dpa) = true)
    (a_giv : PySem.W.nsIn K mainGlobals "_law_given" = some (some (.ref f_giv)))
    (l_giv : K.lookup f_giv = some ⟨oc_giv, od_giv, .func (PySem.W.fnOf "_law_given" "_law_given" (defArgs s_given) (defBody s_given) (defScope s_given) .none kV_giv dc_giv pm_giv an_giv cd_giv ct_giv), sl_giv⟩)
    (c_giv : PySem.W.codeIn K cd_giv "_law_given" = true)
    (k_giv : PySem.W.keepIn K (.ref f_giv) = true)
    (a_ldr : PySem.W.nsIn K mainGlobals "_law_led_rows" = some (some (.ref f_ldr)))
    (l_ldr : K.lookup f_ldr = some ⟨oc_ldr, od_ldr, .func (PySem.W.fnOf "_law_led_rows" "_law_led_rows" (defArgs s_ledr) (defBody s_ledr) (defScope s_ledr) .none kV_ldr dc_ldr pm_ldr an_ldr cd_ldr ct_ldr), sl_ldr⟩)
    (c_ldr : PySem.W.codeIn K cd_ldr "_law_led_rows" = true)
    (k_ldr : PySem.W.keepIn K (.ref f_ldr) = true)
    (a_gat : PySem.W.nsIn K mainGlobals "_law_gather_parts" = some (some (.ref f_gat)))
    (l_gat : K.lookup f_gat = some ⟨oc_gat, od_gat, .func (PySem.W.fnOf "_law_gather_parts" "_law_gather_parts" (defArgs s_gather) (defBody s_gather) (defScope s_gather) .none kV_gat dc_gat pm_gat an_gat cd_gat ct_gat), sl_gat⟩)
    (c_gat : PySem.W.codeIn K cd_gat "_law_gather_parts" = true)
    (k_gat : PySem.W.keepIn K (.ref f_gat) = true)
    (a_rng : PySem.W.nsIn K mainGlobals "_law_ring" = some (some (.ref f_rng)))
    (l_rng : K.lookup f_rng = some ⟨oc_rng, od_rng, .func (PySem.W.fnOf "_law_ring" "_law_ring" (defArgs s_ring) (defBody s_ring) (defScope s_ring) .none kV_rng dc_rng pm_rng an_rng cd_rng ct_rng), sl_rng⟩)
    (c_rng : PySem.W.codeIn K cd_rng "_law_ring" = true)
    (k_rng : PySem.W.keepIn K (.ref f_rng) = true)
    (a_wei : PySem.W.nsIn K mainGlobals "_law_weighed" = some (some (.ref f_wei)))
    (l_wei : K.lookup f_wei = some ⟨oc_wei, od_wei, .func (PySem.W.fnOf "_law_weighed" "_law_weighed" (defArgs s_weighed) (defBody s_weighed) (defScope s_weighed) .none kV_wei dc_wei pm_wei an_wei cd_wei ct_wei), sl_wei⟩)
    (c_wei : PySem.W.codeIn K cd_wei "_law_weighed" = true)
    (k_wei : PySem.W.keepIn K (.ref f_wei) = true)
    (a_inh : PySem.W.nsIn K mainGlobals "_law_in_half" = some (some (.ref f_inh)))
    (l_inh : K.lookup f_inh = some ⟨oc_inh, od_inh, .func (PySem.W.fnOf "_law_in_half" "_law_in_half" (defArgs s_in_half) (defBody s_in_half) (defScope s_in_half) .none kV_inh dc_inh pm_inh an_inh cd_inh ct_inh), sl_inh⟩)
    (c_inh : PySem.W.codeIn K cd_inh "_law_in_half" = true)
    (k_inh : PySem.W.keepIn K (.ref f_inh) = true)
    (a_lst : PySem.W.nsIn K mainGlobals "_law_stuck" = some (some (.ref f_lst)))
    (l_lst : K.lookup f_lst = some ⟨oc_lst, od_lst, .func (PySem.W.fnOf "_law_stuck" "_law_stuck" (defArgs s_lstk) (defBody s_lstk) (defScope s_lstk) .none kV_lst dc_lst pm_lst an_lst cd_lst ct_lst), sl_lst⟩)
    (c_lst : PySem.W.codeIn K cd_lst "_law_stuck" = true)
    (k_lst : PySem.W.keepIn K (.ref f_lst) = true)
    (a_com : PySem.W.nsIn K mainGlobals "_law_coming" = some (some (.ref f_com)))
    (l_com : K.lookup f_com = some ⟨oc_com, od_com, .func (PySem.W.fnOf "_law_coming" "_law_coming" (defArgs s_com) (defBody s_com) (defScope s_com) .none kV_com dc_com pm_com an_com cd_com ct_com), sl_com⟩)
    (c_com : PySem.W.codeIn K cd_com "_law_coming" = true)
    (k_com : PySem.W.keepIn K (.ref f_com) = true)
    (a_spo : PySem.W.nsIn K mainGlobals "_law_spoiled" = some (some (.ref f_spo)))
    (l_spo : K.lookup f_spo = some ⟨oc_spo, od_spo, .func (PySem.W.fnOf "_law_spoiled" "_law_spoiled" (defArgs s_spo) (defBody s_spo) (defScope s_spo) .none kV_spo dc_spo pm_spo an_spo cd_spo ct_spo), sl_spo⟩)
    (c_spo : PySem.W.codeIn K cd_spo "_law_spoiled" = true)
    (k_spo : PySem.W.keepIn K (.ref f_spo) = true)
    (a_isr : PySem.W.nsIn K mainGlobals "_law_is_right" = some (some (.ref f_isr)))
    (l_isr : K.lookup f_isr = some ⟨oc_isr, od_isr, .func (PySem.W.fnOf "_law_is_right" "_law_is_right" (defArgs s_isr) (defBody s_isr) (defScope s_isr) .none kV_isr dc_isr pm_isr an_isr cd_isr ct_isr), sl_isr⟩)
    (c_isr : PySem.W.codeIn K cd_isr "_law_is_right" = true)
    (k_isr : PySem.W.keepIn K (.ref f_isr) = true)
    (a_law : PySem.W.nsIn K mainGlobals "law" = some (some (.ref f_law)))
    (l_law : K.lookup f_law = some ⟨oc_law, od_law, .func (PySem.W.fnOf "law" "law" (defArgs s_law) (defBody s_law) (defScope s_law) .none kV_law dc_law pm_law an_law cd_law ct_law), sl_law⟩)
    (c_law : PySem.W.codeIn K cd_law "law" = true)
    (k_law : PySem.W.keepIn K (.ref f_law) = true)
    (dSI : K.lookup T_SI = some ⟨tcS, tdS, .seq #[.int 1 tkS] tnS, tsS⟩)
    (dWE : K.lookup T_WE = some ⟨tcW, tdW, .seq #[.str xW tkW] tnW, tsW⟩)
    (hn : PySem.W.specialIn K (.builtin "object.__class__") "__get__" = some (some (.builtin "getset_descriptor.__get__")))
    (htk : PySem.W.takesIn K (.builtin "object.__class__") = some true)
    (pgD : PySem.W.plainGet K DC Str.empty = true)
    (hdD : PySem.W.hasDictIn K DC = true)
    (poD : PySem.W.plainOver K DC = true)
    (saD : PySem.W.findIn K (.ref DC) "__setattr__" = some (some (.builtin "object.__setattr__")))
    (mkD : PySem.W.makesIn K DC = true)
    (kcD : PySem.W.keepIn K (.ref DC) = true)
    (tCD : PySem.W.typeIn K (.ref DC) = some (.type "type"))
    (haD : PySem.W.findIn K (.ref DC) "__class__" = some (some (.builtin "object.__class__")))
    (hmD : PySem.W.mroIn K DC (.type "object") = some true)
    (neD : PySem.W.findIn K (.ref DC) "__ne__" = some (some (.builtin "object.__ne__")))
    (uD_int : PySem.W.subIn K (.ref DC) (.type "int") = some false)
    (uD_bool : PySem.W.subIn K (.ref DC) (.type "bool") = some false)
    (uD_NoneType : PySem.W.subIn K (.ref DC) (.type "NoneType") = some false)
    (uD_str : PySem.W.subIn K (.ref DC) (.type "str") = some false)
    (uD_list : PySem.W.subIn K (.ref DC) (.type "list") = some false)
    (uD_tuple : PySem.W.subIn K (.ref DC) (.type "tuple") = some false)
    (uD_dict : PySem.W.subIn K (.ref DC) (.type "dict") = some false)
    (pgS : PySem.W.plainGet K C Str.empty = true)
    (hdS : PySem.W.hasDictIn K C = true)
    (poS : PySem.W.plainOver K C = true)
    (saS : PySem.W.findIn K (.ref C) "__setattr__" = some (some (.builtin "object.__setattr__")))
    (mkS : PySem.W.makesIn K C = true)
    (kcS : PySem.W.keepIn K (.ref C) = true)
    (tCS : PySem.W.typeIn K (.ref C) = some (.type "type"))
    (haS : PySem.W.findIn K (.ref C) "__class__" = some (some (.builtin "object.__class__")))
    (hmS : PySem.W.mroIn K C (.type "object") = some true)
    (neS : PySem.W.findIn K (.ref C) "__ne__" = some (some (.builtin "object.__ne__")))
    (uS_int : PySem.W.subIn K (.ref C) (.type "int") = some false)
    (uS_bool : PySem.W.subIn K (.ref C) (.type "bool") = some false)
    (uS_NoneType : PySem.W.subIn K (.ref C) (.type "NoneType") = some false)
    (uS_str : PySem.W.subIn K (.ref C) (.type "str") = some false)
    (uS_list : PySem.W.subIn K (.ref C) (.type "list") = some false)
    (uS_tuple : PySem.W.subIn K (.ref C) (.type "tuple") = some false)
    (uS_dict : PySem.W.subIn K (.ref C) (.type "dict") = some false)
    (pgC : PySem.W.plainGet K CC Str.empty = true)
    (hdC : PySem.W.hasDictIn K CC = true)
    (poC : PySem.W.plainOver K CC = true)
    (saC : PySem.W.findIn K (.ref CC) "__setattr__" = some (some (.builtin "object.__setattr__")))
    (mkC : PySem.W.makesIn K CC = true)
    (kcC : PySem.W.keepIn K (.ref CC) = true)
    (tCC : PySem.W.typeIn K (.ref CC) = some (.type "type"))
    (haC : PySem.W.findIn K (.ref CC) "__class__" = some (some (.builtin "object.__class__")))
    (hmC : PySem.W.mroIn K CC (.type "object") = some true)
    (neC : PySem.W.findIn K (.ref CC) "__ne__" = some (some (.builtin "object.__ne__")))
    (uC_int : PySem.W.subIn K (.ref CC) (.type "int") = some false)
    (uC_bool : PySem.W.subIn K (.ref CC) (.type "bool") = some false)
    (uC_NoneType : PySem.W.subIn K (.ref CC) (.type "NoneType") = some false)
    (uC_str : PySem.W.subIn K (.ref CC) (.type "str") = some false)
    (uC_list : PySem.W.subIn K (.ref CC) (.type "list") = some false)
    (uC_tuple : PySem.W.subIn K (.ref CC) (.type "tuple") = some false)
    (uC_dict : PySem.W.subIn K (.ref CC) (.type "dict") = some false)
    (pgO : PySem.W.plainGet K OC Str.empty = true)
    (hdO : PySem.W.hasDictIn K OC = true)
    (poO : PySem.W.plainOver K OC = true)
    (saO : PySem.W.findIn K (.ref OC) "__setattr__" = some (some (.builtin "object.__setattr__")))
    (mkO : PySem.W.makesIn K OC = true)
    (kcO : PySem.W.keepIn K (.ref OC) = true)
    (tCO : PySem.W.typeIn K (.ref OC) = some (.type "type"))
    (haO : PySem.W.findIn K (.ref OC) "__class__" = some (some (.builtin "object.__class__")))
    (hmO : PySem.W.mroIn K OC (.type "object") = some true)
    (neO : PySem.W.findIn K (.ref OC) "__ne__" = some (some (.builtin "object.__ne__")))
    (uO_int : PySem.W.subIn K (.ref OC) (.type "int") = some false)
    (uO_bool : PySem.W.subIn K (.ref OC) (.type "bool") = some false)
    (uO_NoneType : PySem.W.subIn K (.ref OC) (.type "NoneType") = some false)
    (uO_str : PySem.W.subIn K (.ref OC) (.type "str") = some false)
    (uO_list : PySem.W.subIn K (.ref OC) (.type "list") = some false)
    (uO_tuple : PySem.W.subIn K (.ref OC) (.type "tuple") = some false)
    (uO_dict : PySem.W.subIn K (.ref OC) (.type "dict") = some false)
    (uS_bytes : PySem.W.subIn K (.ref C) (.type "bytes") = some false)
    (uS_bytearray : PySem.W.subIn K (.ref C) (.type "bytearray") = some false)
    (sf : PySem.W.selfFirst K C = true)
    (upC : PySem.W.subIn K (.type "int") (.ref C) = some false)
    (d_add : PySem.W.findIn K (.ref C) (PySem.dunder "add") = some (some (.ref f_add)))
    (e_add : PySem.W.findIn K (.ref C) (dunderR "add") = some (some (.ref f_radd)))
    (o_add : PySem.W.findIn K (.type "int") (dunderR "add") = some ro_add)
    (nSz : PySem.W.findIn K (.ref DC) "size" = some none)
    (nPt : PySem.W.findIn K (.ref DC) "parts" = some none)
    (nT : PySem.W.findIn K (.ref C) "top" = some none)
    (nBm : PySem.W.findIn K (.ref C) "bottom" = some none)
    (nSzC : PySem.W.findIn K (.ref CC) "size" = some none)
    (nRw : PySem.W.findIn K (.ref CC) "_rows" = some none)
    (nLb : PySem.W.findIn K (.ref CC) "_labels" = some none)
    (nSzO : PySem.W.findIn K (.ref OC) "size" = some none)
    (nLo : PySem.W.findIn K (.ref OC) "_lower" = some none)
    (i_SI : PySem.W.isFn K (.ref f_SI) = true)
    (i_eq : PySem.W.isFn K (.ref f_eq) = true)
    (i_add : PySem.W.isFn K (.ref f_add) = true)
    (i_radd : PySem.W.isFn K (.ref f_radd) = true)
    (i_less : PySem.W.isFn K (.ref f_less) = true)
    (i_DI : PySem.W.isFn K (.ref f_DI) = true)
    (i_CI : PySem.W.isFn K (.ref f_CI) = true)
    (i_OI : PySem.W.isFn K (.ref f_OI) = true)
    (xB : K.lookup BS = some (excClassObj nmB qB BS NB bsB bmB true snB subB abB colB ddB b0B b1B b2B b3B b5B "ValueError.__new__"))
    (rB : PySem.HandSPX.refsVE bmB = true)
    (saB : PySem.W.findIn K (.ref BS) "__setattr__" = some (some (.builtin "object.__setattr__")))
    (exB : PySem.W.subIn K (.ref BS) (.type "BaseException") = some true)
    (tB : PySem.W.typeIn K (.ref BS) = some (.type "type"))
    (kB : PySem.W.keepIn K (.ref BS) = true)
    (hdB : PySem.W.hasDictIn K BS = true)
    (sBB : PySem.W.subIn K (.ref BS) (.ref BS) = some true)
    (ntB : PySem.W.findIn K (.ref BS) "top" = some none)
    (nbB : PySem.W.findIn K (.ref BS) "bottom" = some none)
    (tfB : PySem.W.typeIn K (.ref f_BS) = some (.type "function"))
    (rdW : PySem.W.readsIn K W (.type "type") = true)
    (gaW : PySem.W.specialIn K (.ref W) "__getattribute__" = some (some (.builtin "type.__getattribute__")))
    (fcW : PySem.W.findCls K (.ref W) (.type "type") "__init__" = some (.val (.ref f_WE)))
    (vV : PySem.W.findCls K (.type "ValueError") (.type "type") "__init__" = some (.val (.builtin "ValueError.__init__"))) :
    ∃ fd : FuncData, (∀ (s : Shared) (v : Value), BindsTo s fd ⟨[v], []⟩ [("_law_script", v)]) ∧ ∀ base : Heap, K.In base → base.Ns mainGlobals mg → FnOk l.prog w K mg base CX0 15 fa fd ["_law_script"] (spLaw K) := by
  have e := hfa.symm.trans (PySem.W.mg_of X G a_law)
  cases e
  subst eM
  subst eL
  subst eMS
  subst eMO
  subst eLT
  have F_SI : FunD K "__init__" "Share.__init__" (defArgs s_SI) (defBody s_SI) (defScope s_SI) [.int 1] [] f_SI _ := ⟨⟨_, _, _, _, _, _, _, _, _, _, rfl, l_SI, c_SI, .inr ⟨by simp, _, _, _, _, rfl, dSI, rfl, .cons ⟨_, rfl⟩ .nil⟩, .inl rfl⟩, k_SI⟩
  have F_WE : FunD K "__init__" "WalkError.__init__" (defArgs s_WE) (defBody s_WE) (defScope s_WE) [.str xW] [] f_WE _ := ⟨⟨_, _, _, _, _, _, _, _, _, _, rfl, l_WE, c_WE, .inr ⟨by simp, _, _, _, _, rfl, dWE, rfl, .cons ⟨_, rfl⟩ .nil⟩, .inl rfl⟩, k_WE⟩
  have F_BS := fun_mk (st := s_BS) l_BS c_BS k_BS
  have F_iw := fun_mk (st := s_is_whole) l_iw c_iw k_iw
  have F_ib := fun_mk (st := s_is_between) l_ib c_ib k_ib
  have F_ii := fun_mk (st := s_is_index) l_ii c_ii k_ii
  have F_nm := fun_mk (st := s_is_name) l_nm c_nm k_nm
  have F_tu := fun_mk (st := s_tupOf) l_tu c_tu k_tu
  have F_tb := fun_mk (st := s_tupBet) l_tb c_tb k_tb
  have F_nr := fun_mk (st := s_nameRow) l_nr c_nr k_nr
  have F_ipr := fun_mk (st := s_ixp) l_ipr c_ipr k_ipr
  have F_ixp := fun_mk (st := s_index_pairs) l_ixp c_ixp k_ixp
  have F_add := fun_mk (st := s_add) l_add c_add k_add
  have F_radd := fun_mk (st := s_radd) l_radd c_radd k_radd
  have F_eq := fun_mk (st := s_eq) l_eq c_eq k_eq
  have F_less := fun_mk (st := s_sless) l_less c_less k_less
  have F_ish := fun_mk (st := s_is_share) l_ish c_ish k_ish
  have F_sof := fun_mk (st := s_share_of) l_sof c_sof k_sof
  have F_shs := fun_mk (st := s_shares_of) l_shs c_shs k_shs
  have F_tot := fun_mk (st := s_total) l_tot c_tot k_tot
  have F_f0 := fun_mk (st := s_from0) l_f0 c_f0 k_f0
  have F_abv := fun_mk (st := s_above) l_abv c_abv k_abv
  have F_spr := fun_mk (st := s_spread) l_spr c_spr k_spr
  have F_CI := fun_mk (st := s_CI) l_CI c_CI k_CI
  have F_DI := fun_mk (st := s_DI) l_DI c_DI k_DI
  have F_mln := fun_mk (st := s_mlen) l_mln c_mln k_mln
  have F_prt := fun_mk (st := s_part) l_prt c_prt k_prt
  have F_hvs := fun_mk (st := s_halves) l_hvs c_hvs k_hvs
  have F_hlf := fun_mk (st := s_half) l_hlf c_hlf k_hlf
  have F_abl := fun_mk (st := s_able) l_abl c_abl k_abl
  have F_stk := fun_mk (st := s_stuck) l_stk c_stk k_stk
  have F_iss := fun_mk (st := s_iss) l_iss c_iss k_iss
  have F_OI := fun_mk (st := KGo.s_OI) l_OI c_OI k_OI
  have F_lnk := fun_mk (st := KGo.s_linked) l_lnk c_lnk k_lnk
  have F_lin := fun_mk (st := KGo.s_line) l_lin c_lin k_lin
  have F_pool := fun_mk (st := s_pool) l_pool c_pool k_pool
  have F_draw := fun_mk (st := s_draw) l_draw c_draw k_draw
  have F_pick := fun_mk (st := s_pick) l_pick c_pick k_pick
  have F_trn := fun_mk (st := s_turn) l_trn c_trn k_trn
  have F_lps := fun_mk (st := s_lpairs) l_lps c_lps k_lps
  have F_whl := fun_mk (st := s_whole) l_whl c_whl k_whl
  have F_lsp := fun_mk (st := s_spr) l_lsp c_lsp k_lsp
  have F_lch := fun_mk (st := s_chn) l_lch c_lch k_lch
  have F_lint := fun_mk (st := s_lint) l_lint c_lint k_lint
  have F_isp := fun_mk (st := s_isp) l_isp c_isp k_isp
  have F_map := fun_mk (st := s_map) l_map c_map k_map
  have F_dpa := fun_mk (st := s_draw_parts) l_dpa c_dpa k_dpa
  have F_giv := fun_mk (st := s_given) l_giv c_giv k_giv
  have F_ldr := fun_mk (st := s_ledr) l_ldr c_ldr k_ldr
  have F_gat := fun_mk (st := s_gather) l_gat c_gat k_gat
  have F_rng := fun_mk (st := s_ring) l_rng c_rng k_rng
  have F_wei := fun_mk (st := s_weighed) l_wei c_wei k_wei
  have F_inh := fun_mk (st := s_in_half) l_inh c_inh k_inh
  have F_lst := fun_mk (st := s_lstk) l_lst c_lst k_lst
  have F_com := fun_mk (st := s_com) l_com c_com k_com
  have F_spo := fun_mk (st := s_spo) l_spo c_spo k_spo
  have F_isr := fun_mk (st := s_isr) l_isr c_isr k_isr
  have F_law := fun_mk (st := s_law) l_law c_law k_law
  have b_BS := F_BS.binds (ps := ["self", "top", "bottom"]) fun _ _ _ _ _ _ us hl => match us, hl with | [_, _, _], _ => rfl
  have b_iw := F_iw.binds (ps := ["thing"]) fun _ _ _ _ _ _ us hl => match us, hl with | [_], _ => rfl
  have b_ib := F_ib.binds (ps := ["least", "most", "thing"]) fun _ _ _ _ _ _ us hl => match us, hl with | [_, _, _], _ => rfl
  have b_ii := F_ii.binds (ps := ["many", "thing"]) fun _ _ _ _ _ _ us hl => match us, hl with | [_, _], _ => rfl
  have b_nm := F_nm.binds (ps := ["thing"]) fun _ _ _ _ _ _ us hl => match us, hl with | [_], _ => rfl
  have b_tu := F_tu.binds (ps := ["many", "thing"]) fun _ _ _ _ _ _ us hl => match us, hl with | [_, _], _ => rfl
  have b_tb := F_tb.binds (ps := ["least", "most", "thing"]) fun _ _ _ _ _ _ us hl => match us, hl with | [_, _, _], _ => rfl
  have b_nr := F_nr.binds (ps := ["many", "thing"]) fun _ _ _ _ _ _ us hl => match us, hl with | [_, _], _ => rfl
  have b_ipr := F_ipr.binds (ps := ["many", "thing"]) fun _ _ _ _ _ _ us hl => match us, hl with | [_, _], _ => rfl
  have b_ixp := F_ixp.binds (ps := ["many"]) fun _ _ _ _ _ _ us hl => match us, hl with | [_], _ => rfl
  have b_add := F_add.binds (ps := ["self", "other"]) fun _ _ _ _ _ _ us hl => match us, hl with | [_, _], _ => rfl
  have b_radd := F_radd.binds (ps := ["self", "other"]) fun _ _ _ _ _ _ us hl => match us, hl with | [_, _], _ => rfl
  have b_eq := F_eq.binds (ps := ["self", "other"]) fun _ _ _ _ _ _ us hl => match us, hl with | [_, _], _ => rfl
  have b_less := F_less.binds (ps := ["self", "other"]) fun _ _ _ _ _ _ us hl => match us, hl with | [_, _], _ => rfl
  have b_ish := F_ish.binds (ps := ["thing"]) fun _ _ _ _ _ _ us hl => match us, hl with | [_], _ => rfl
  have b_sof := F_sof.binds (ps := ["thing"]) fun _ _ _ _ _ _ us hl => match us, hl with | [_], _ => rfl
  have b_shs := F_shs.binds (ps := ["row"]) fun _ _ _ _ _ _ us hl => match us, hl with | [_], _ => rfl
  have b_tot := F_tot.binds (ps := ["row"]) fun _ _ _ _ _ _ us hl => match us, hl with | [_], _ => rfl
  have b_f0 := F_f0.binds (ps := ["thing"]) fun _ _ _ _ _ _ us hl => match us, hl with | [_], _ => rfl
  have b_abv := F_abv.binds (ps := ["thing"]) fun _ _ _ _ _ _ us hl => match us, hl with | [_], _ => rfl
  have b_spr := F_spr.binds (ps := ["many", "thing"]) fun _ _ _ _ _ _ us hl => match us, hl with | [_, _], _ => rfl
  have b_CI := F_CI.binds (ps := ["self", "rows", "labels"]) fun _ _ _ _ _ _ us hl => match us, hl with | [_, _, _], _ => rfl
  have b_DI := F_DI.binds (ps := ["self", "parts"]) fun _ _ _ _ _ _ us hl => match us, hl with | [_, _], _ => rfl
  have b_mln := F_mln.binds (ps := ["part"]) fun _ _ _ _ _ _ us hl => match us, hl with | [_], _ => rfl
  have b_prt := F_prt.binds (ps := ["size", "thing"]) fun _ _ _ _ _ _ us hl => match us, hl with | [_, _], _ => rfl
  have b_hvs := F_hvs.binds (ps := ["many"]) fun _ _ _ _ _ _ us hl => match us, hl with | [_], _ => rfl
  have b_hlf := F_hlf.binds (ps := ["pair"]) fun _ _ _ _ _ _ us hl => match us, hl with | [_], _ => rfl
  have b_abl := F_abl.binds (ps := ["moves", "places", "goals"]) fun _ _ _ _ _ _ us hl => match us, hl with | [_, _, _], _ => rfl
  have b_stk := F_stk.binds (ps := ["draw"]) fun _ _ _ _ _ _ us hl => match us, hl with | [_], _ => rfl
  have b_iss := F_iss.binds (ps := ["draw", "thing"]) fun _ _ _ _ _ _ us hl => match us, hl with | [_, _], _ => rfl
  have b_OI := F_OI.binds (ps := ["self", "size", "pairs"]) fun _ _ _ _ _ _ us hl => match us, hl with | [_, _, _], _ => rfl
  have b_lnk := F_lnk.binds (ps := ["size", "pairs"]) fun _ _ _ _ _ _ us hl => match us, hl with | [_, _], _ => rfl
  have b_lin := F_lin.binds (ps := ["size"]) fun _ _ _ _ _ _ us hl => match us, hl with | [_], _ => rfl
  have b_pool := F_pool.binds (ps := ["_law_script"]) fun _ _ _ _ _ _ us hl => match us, hl with | [_], _ => rfl
  have b_draw := F_draw.binds (ps := ["_law_pool_here", "_law_many"]) fun _ _ _ _ _ _ us hl => match us, hl with | [_, _], _ => rfl
  have b_pick := F_pick.binds (ps := ["_law_pool_here", "_law_things"]) fun _ _ _ _ _ _ us hl => match us, hl with | [_, _], _ => rfl
  have b_trn := F_trn.binds (ps := ["_law_pool_here", "_law_things"]) fun _ _ _ _ _ _ us hl => match us, hl with | [_, _], _ => rfl
  have b_lps := F_lps.binds (ps := ["_law_size"]) fun _ _ _ _ _ _ us hl => match us, hl with | [_], _ => rfl
  have b_whl := F_whl.binds (ps := ["_law_top", "_law_whole_here"]) fun _ _ _ _ _ _ us hl => match us, hl with | [_, _], _ => rfl
  have b_lsp := F_lsp.binds (ps := ["_law_pool_here", "_law_tops"]) fun _ _ _ _ _ _ us hl => match us, hl with | [_, _], _ => rfl
  have b_lch := F_lch.binds (ps := ["_law_pool_here", "_law_rows"]) fun _ _ _ _ _ _ us hl => match us, hl with | [_, _], _ => rfl
  have b_lint := F_lint.binds (ps := ["_law_thing"]) fun _ _ _ _ _ _ us hl => match us, hl with | [_], _ => rfl
  have b_isp := F_isp.binds (ps := ["_law_size", "_law_thing"]) fun _ _ _ _ _ _ us hl => match us, hl with | [_, _], _ => rfl
  have b_map := F_map.binds (ps := ["_law_pool_here", "_law_size"]) fun _ _ _ _ _ _ us hl => match us, hl with | [_, _], _ => rfl
  have b_dpa := F_dpa.binds (ps := ["_law_pool_here", "_law_size", "_law_most"]) fun _ _ _ _ _ _ us hl => match us, hl with | [_, _, _], _ => rfl
  have b_giv := F_giv.binds (ps := ["_law_pool_here", "_law_parts"]) fun _ _ _ _ _ _ us hl => match us, hl with | [_, _], _ => rfl
  have b_ldr := F_ldr.binds (ps := ["_law_parts", "_law_size"]) fun _ _ _ _ _ _ us hl => match us, hl with | [_, _], _ => rfl
  have b_gat := F_gat.binds (ps := ["_law_pool_here", "_law_size"]) fun _ _ _ _ _ _ us hl => match us, hl with | [_, _], _ => rfl
  have b_rng := F_rng.binds (ps := ["_law_pool_here", "_law_size"]) fun _ _ _ _ _ _ us hl => match us, hl with | [_, _], _ => rfl
  have b_wei := F_wei.binds (ps := ["_law_pool_here", "_law_maps"]) fun _ _ _ _ _ _ us hl => match us, hl with | [_, _], _ => rfl
  have b_inh := F_inh.binds (ps := ["_law_pool_here", "_law_halves", "_law_half", "_law_s"]) fun _ _ _ _ _ _ us hl => match us, hl with | [_, _, _, _], _ => rfl
  have b_lst := F_lst.binds (ps := ["_law_parts", "_law_size"]) fun _ _ _ _ _ _ us hl => match us, hl with | [_, _], _ => rfl
  have b_com := F_com.binds (ps := ["_law_parts", "_law_pair", "_law_size"]) fun _ _ _ _ _ _ us hl => match us, hl with | [_, _, _], _ => rfl
  have b_spo := F_spo.binds (ps := ["_law_pool_here", "_law_pairs_here", "_law_size", "_law_odd"]) fun _ _ _ _ _ _ us hl => match us, hl with | [_, _, _, _], _ => rfl
  have b_isr := F_isr.binds (ps := ["_law_parts", "_law_size", "_law_thing"]) fun _ _ _ _ _ _ us hl => match us, hl with | [_, _, _], _ => rfl
  obtain ⟨d2, v2, bSI2⟩ := F_SI.binds1 (ps := ["self", "top", "bottom"]) 3 1 (by simp) rfl fun _ _ _ _ _ _ _ us its hu hi => match us, its, hu, hi with | [_, _, _], [_], _, _ => ⟨_, rfl, rfl⟩
  cases v2
  obtain ⟨dsS, vS, bSI1⟩ := F_SI.binds1 (ps := ["self", "top", "bottom"]) 2 0 (by simp) rfl fun _ _ _ _ _ _ _ us its hu hi => match us, its, hu, hi with | [_, _], [_], _, _ => ⟨_, rfl, rfl⟩
  obtain ⟨d3, v3, bWE⟩ := F_WE.binds1 (ps := ["self", "words"]) 2 1 (by simp) rfl fun _ _ _ _ _ _ _ us its hu hi => match us, its, hu, hi with | [_, _], [_], _, _ => ⟨_, rfl, rfl⟩
  cases v3
  have bn : Bn mg := ⟨PySem.W.mg_none_of X G n_isinstance, PySem.W.mg_none_of X G n_int, PySem.W.mg_none_of X G n_bool, PySem.W.mg_none_of X G n_abs, PySem.W.mg_none_of X G n_len, PySem.W.mg_none_of X G n_str, PySem.W.mg_none_of X G n_divmod, PySem.W.mg_none_of X G n_ValueError⟩
  have bnO : KGo.Bn mg := ⟨PySem.W.mg_none_of X G n_isinstance, PySem.W.mg_none_of X G n_int, PySem.W.mg_none_of X G n_bool, PySem.W.mg_none_of X G n_abs, PySem.W.mg_none_of X G n_len, PySem.W.mg_none_of X G n_list, PySem.W.mg_none_of X G n_tuple, PySem.W.mg_none_of X G n_range, PySem.W.mg_none_of X G n_all, PySem.W.mg_none_of X G n_any, PySem.W.mg_none_of X G n_sum, PySem.W.mg_none_of X G n_sorted⟩
  have T : Bm mg := ⟨bn, PySem.W.mg_none_of X G n_list, PySem.W.mg_none_of X G n_tuple, PySem.W.mg_none_of X G n_range, PySem.W.mg_none_of X G n_sum, PySem.W.mg_none_of X G n_min, PySem.W.mg_none_of X G n_max, PySem.W.mg_none_of X G n_all, PySem.W.mg_none_of X G n_any, PySem.W.mg_none_of X G n_set, PySem.W.mg_none_of X G n_sorted, PySem.W.mg_none_of X G n_enumerate⟩
  have itS : InsT K C := ⟨⟨pgS, hdS, poS, saS⟩, haS, hn, htk, hmS, kit_sub uS_int (by decide +kernel), kit_sub uS_bool (by decide +kernel), kit_self K C, kit_from hdS tCS (l := [.type "int", .type "object"]) (by decide +kernel) (by decide +kernel), kit_from hdS tCS (l := [.type "bool", .type "int", .type "object"]) (by decide +kernel) (by decide +kernel), kit_from hdS tCS (l := [.type "NoneType", .type "object"]) (by decide +kernel) (by decide +kernel), kit_from hdS tCS (l := [.type "str", .type "object"]) (by decide +kernel) (by decide +kernel), kit_from hdS tCS (l := [.type "list", .type "object"]) (by decide +kernel) (by decide +kernel), kit_from hdS tCS (l := [.type "tuple", .type "object"]) (by decide +kernel) (by decide +kernel), kit_from hdS tCS (l := [.type "dict", .type "object"]) (by decide +kernel) (by decide +kernel)⟩
  have itD : InsT K DC := ⟨⟨pgD, hdD, poD, saD⟩, haD, hn, htk, hmD, kit_sub uD_int (by decide +kernel), kit_sub uD_bool (by decide +kernel), kit_self K DC, kit_from hdD tCD (l := [.type "int", .type "object"]) (by decide +kernel) (by decide +kernel), kit_from hdD tCD (l := [.type "bool", .type "int", .type "object"]) (by decide +kernel) (by decide +kernel), kit_from hdD tCD (l := [.type "NoneType", .type "object"]) (by decide +kernel) (by decide +kernel), kit_from hdD tCD (l := [.type "str", .type "object"]) (by decide +kernel) (by decide +kernel), kit_from hdD tCD (l := [.type "list", .type "object"]) (by decide +kernel) (by decide +kernel), kit_from hdD tCD (l := [.type "tuple", .type "object"]) (by decide +kernel) (by decide +kernel), kit_from hdD tCD (l := [.type "dict", .type "object"]) (by decide +kernel) (by decide +kernel)⟩
  have itC : InsT K CC := ⟨⟨pgC, hdC, poC, saC⟩, haC, hn, htk, hmC, kit_sub uC_int (by decide +kernel), kit_sub uC_bool (by decide +kernel), kit_self K CC, kit_from hdC tCC (l := [.type "int", .type "object"]) (by decide +kernel) (by decide +kernel), kit_from hdC tCC (l := [.type "bool", .type "int", .type "object"]) (by decide +kernel) (by decide +kernel), kit_from hdC tCC (l := [.type "NoneType", .type "object"]) (by decide +kernel) (by decide +kernel), kit_from hdC tCC (l := [.type "str", .type "object"]) (by decide +kernel) (by decide +kernel), kit_from hdC tCC (l := [.type "list", .type "object"]) (by decide +kernel) (by decide +kernel), kit_from hdC tCC (l := [.type "tuple", .type "object"]) (by decide +kernel) (by decide +kernel), kit_from hdC tCC (l := [.type "dict", .type "object"]) (by decide +kernel) (by decide +kernel)⟩
  have itO : InsT K OC := ⟨⟨pgO, hdO, poO, saO⟩, haO, hn, htk, hmO, kit_sub uO_int (by decide +kernel), kit_sub uO_bool (by decide +kernel), kit_self K OC, kit_from hdO tCO (l := [.type "int", .type "object"]) (by decide +kernel) (by decide +kernel), kit_from hdO tCO (l := [.type "bool", .type "int", .type "object"]) (by decide +kernel) (by decide +kernel), kit_from hdO tCO (l := [.type "NoneType", .type "object"]) (by decide +kernel) (by decide +kernel), kit_from hdO tCO (l := [.type "str", .type "object"]) (by decide +kernel) (by decide +kernel), kit_from hdO tCO (l := [.type "list", .type "object"]) (by decide +kernel) (by decide +kernel), kit_from hdO tCO (l := [.type "tuple", .type "object"]) (by decide +kernel) (by decide +kernel), kit_from hdO tCO (l := [.type "dict", .type "object"]) (by decide +kernel) (by decide +kernel)⟩
  have sh : ShT K mg C := { bn := bn, it := itS, nT := nT, nB := nBm, g_gcd := PySem.W.mg_of X G aG, g_Share := PySem.W.mg_of X G aS }
  have t : DrT K mg DC := { it := itD, nS := nSz, nP := nPt, gD := PySem.W.mg_of X G aD }
  have ct : ChT K mg CC := { it := itC, nS := nSzC, nR := nRw, nL := nLb, gC := PySem.W.mg_of X G aC, gM := ⟨tkB, PySem.W.mg_of X G aMS⟩ }
  have OT : KGo.OrT K mg OC := { bn := bnO, cl := ⟨pgO, hdO, poO, saO⟩, nS := nSzO, nL := nLo, gO := PySem.W.mg_of X G aO, gM := ⟨tkO, PySem.W.mg_of X G aMO⟩ }
  have dg : DrG mg := { gP := ⟨tkM, PySem.W.mg_of X G aM⟩, gL := ⟨tkL, PySem.W.mg_of X G aL⟩ }
  have gL : ∃ t, mg "LETTERS" = some (.str abc t) := ⟨tkT, PySem.W.mg_of X G aLT⟩
  have tuS : PySem.W.kitOne K (.ref C) (.type "tuple") = some false := kit_sub uS_tuple (by decide +kernel)
  have tuD : PySem.W.kitOne K (.ref DC) (.type "tuple") = some false := kit_sub uD_tuple (by decide +kernel)
  have tuC : PySem.W.kitOne K (.ref CC) (.type "tuple") = some false := kit_sub uC_tuple (by decide +kernel)
  have tuO : PySem.W.kitOne K (.ref OC) (.type "tuple") = some false := kit_sub uO_tuple (by decide +kernel)
  have IL : InsL K [C, DC, OC, CC] := ⟨four itS itD itO itC, four tuS tuD tuO tuC⟩
  have nt : NoTxt K C := ⟨uS_str, uS_bytes, uS_bytearray⟩
  have gW : mg "WalkError" = some (.ref W) := PySem.W.mg_of X G aW
  have OB : OexC K BS := { cls := ⟨_, _, _, _, _, _, _, _, _, _, _, _, _, _, _, xB, rB⟩, sa := saB, exC := exB, tyC := tB, kC := kB }
  have cW : ClsFn K W (.type "type") "__init__" f_WE := ⟨rdW, gaW, fcW, k_WE⟩
  have ownS : OwnT K C f_eq := { q := ⟨a_eq, neS, hmS, i_eq⟩, sint := uS_int, sbool := uS_bool, snon := uS_NoneType, sstr := uS_str, slst := uS_list, stup := uS_tuple, sdct := uS_dict }
  have LA : ArL K C .Add "+" "add" f_add := ⟨rfl, sf, d_add, i_add⟩
  have RA : ArR K C "add" f_radd := ⟨e_add, i_radd, ⟨_, o_add⟩, PySem.F.fills_int_add, upC, uS_int, _, PySem.F.slot_int_add, OA.dec_add⟩
  have cs : ∀ base : Heap, LawT l.prog w K mg base [C, DC, OC, CC] C DC OC CC := by
    intro base
    have iC : C ∈ [C, DC, OC, CC] := List.mem_cons_self
    have n_ok_WE : FnOk l.prog w K mg base CX0 1 f_WE _ ["self", "words"] (spWE K) := ok_WE F_WE bn vV
    have n_ok_BS : FnOk l.prog w K mg base CX0 2 f_BS _ ["self", "top", "bottom"] (spBS K BS) := ok_BS F_BS gW cW n_ok_WE bWE
    have Bt : BsT l.prog w K mg base BS := { O := OB, nt := ntB, nb := nbB, gB := PySem.W.mg_of X G aB, made := ⟨_, _, a_BS, tfB, n_ok_BS, b_BS⟩ }
    have c_iw : Cal l.prog w K mg base 1 "is_whole" ["thing"] (spWhole K C) := ⟨_, _, PySem.W.mg_of X G a_iw, k_iw, ok_is_whole F_iw bn itS, b_iw⟩
    have c_iw2 : Cal l.prog w K mg base 1 "is_whole" ["thing"] (spWhole2 K C DC) := ⟨_, _, PySem.W.mg_of X G a_iw, k_iw, ok_is_whole2 F_iw bn itS itD, b_iw⟩
    have c_ib : Cal l.prog w K mg base 2 "is_between" ["least", "most", "thing"] (spBetween K C DC) := ⟨_, _, PySem.W.mg_of X G a_ib, k_ib, ok_is_between F_ib c_iw2, b_ib⟩
    have c_ii : Cal l.prog w K mg base 3 "is_index" ["many", "thing"] (spIndex K C DC) := ⟨_, _, PySem.W.mg_of X G a_ii, k_ii, ok_is_index F_ii c_ib, b_ii⟩
    have c_nm : Cal l.prog w K mg base 1 "is_name" ["thing"] spIsName := ⟨_, _, PySem.W.mg_of X G a_nm, k_nm, ok_is_name F_nm T gL, b_nm⟩
    have c_tu : Cal l.prog w K mg base 1 "is_tuple_of" ["many", "thing"] (spTupOf K C) := ⟨_, _, PySem.W.mg_of X G a_tu, k_tu, ok_tupOf F_tu sh T.n_tuple tuS, b_tu⟩
    have c_tb : Cal l.prog w K mg base 1 "is_tuple_between" ["least", "most", "thing"] spTupBet := ⟨_, _, PySem.W.mg_of X G a_tb, k_tb, ok_tupBet F_tb T, b_tb⟩
    have c_nr : Cal l.prog w K mg base 2 "is_name_row" ["many", "thing"] spNameRow := ⟨_, _, PySem.W.mg_of X G a_nr, k_nr, ok_nameRow F_nr T c_tu c_nm, b_nr⟩
    have c_ixp : Cal l.prog w K mg base 1 "index_pairs" ["many"] spIxPrs := ⟨_, _, PySem.W.mg_of X G a_ixp, k_ixp, ok_index_pairs F_ixp T, b_ixp⟩
    have c_iw3 : Cal l.prog w K mg base 1 "is_whole" ["thing"] (spWh3 K [C, DC, OC, CC]) := ⟨_, _, PySem.W.mg_of X G a_iw, k_iw, ok_wh3 F_iw bn IL, b_iw⟩
    have c_ib3 : Cal l.prog w K mg base 2 "is_between" ["least", "most", "thing"] (spBt3 K [C, DC, OC, CC]) := ⟨_, _, PySem.W.mg_of X G a_ib, k_ib, ok_bt3 F_ib c_iw3, b_ib⟩
    have c_ii3 : Cal l.prog w K mg base 3 "is_index" ["many", "thing"] (spIx3 K [C, DC, OC, CC]) := ⟨_, _, PySem.W.mg_of X G a_ii, k_ii, ok_ix3 F_ii c_ib3, b_ii⟩
    have c_tu3 : Cal l.prog w K mg base 1 "is_tuple_of" ["many", "thing"] (spTo3 K [C, DC, OC, CC]) := ⟨_, _, PySem.W.mg_of X G a_tu, k_tu, ok_to3 F_tu T IL, b_tu⟩
    have c_ipr : Cal l.prog w K mg base 4 "is_index_pair" ["many", "thing"] (spIp3 K [C, DC, OC, CC]) := ⟨_, _, PySem.W.mg_of X G a_ipr, k_ipr, ok_ip3 F_ipr c_tu3 c_ii3, b_ipr⟩
    have n_ok_SI : FnOk l.prog w K mg base (L2.CX l.prog w) 4 f_SI _ ["self", "top", "bottom"] (spSI K C BS) := ok_SI F_SI sh Bt c_iw
    have m : MkT l.prog w K mg base C BS := { ex := ⟨_, _, _, ⟨mkS, a_SI, i_SI, kcS⟩, n_ok_SI, bSI2, vS, bSI1⟩, gS := sh.g_Share }
    have n_ok_eq : FnOk l.prog w K mg base CX0 2 f_eq _ ["self", "other"] (spOwn (EqS K C)) := ok_eq F_eq sh c_iw
    have eqT : EqT l.prog w K mg base C := ⟨_, _, ownS, n_ok_eq, b_eq⟩
    have c_ish : Cal l.prog w K mg base 2 "is_share" ["thing"] (spIsShare K C) := ⟨_, _, PySem.W.mg_of X G a_ish, k_ish, ok_is_share F_ish sh c_iw, b_ish⟩
    have c_sof : Cal l.prog w K mg base 6 "share_of" ["thing"] (spShareOf C) := ⟨_, _, PySem.W.mg_of X G a_sof, k_sof, ok_share_of F_sof sh m, b_sof⟩
    have c_shs : Cal l.prog w K mg base 7 "shares_of" ["row"] (spSharesOf C) := ⟨_, _, PySem.W.mg_of X G a_shs, k_shs, ok_shares_of F_shs T c_sof, b_shs⟩
    have n_ok_less : FnOk l.prog w K mg base CX0 7 f_less _ ["self", "other"] (spLess C) := ok_sless F_less sh c_sof
    have ls : LsT l.prog w K mg base C := ⟨_, _, ⟨a_less, i_less, k_less⟩, n_ok_less, b_less⟩
    have n_ok_add : FnOk l.prog w K mg base CX0 7 f_add _ ["self", "other"] (spAdd C) := ok_add F_add sh m c_ish c_sof
    have adL : ArTL l.prog w K mg base C .Add "+" "add" 7 (spAdd C) := ⟨_, _, _, LA, RA, n_ok_add, b_add⟩
    have n_ok_radd : FnOk l.prog w K mg base CX0 8 f_radd _ ["self", "other"] (spRadd C) := ok_radd F_radd c_iw adL
    have ad : AddT l.prog w K mg base C := ⟨_, _, _, _, LA, RA, n_ok_add, b_add, n_ok_radd, b_radd⟩
    have c_tot : Cal l.prog w K mg base 10 "total" ["row"] (spTotalN K C) := ⟨_, _, PySem.W.mg_of X G a_tot, k_tot, ok_totalN F_tot m nt T.n_sum ad, b_tot⟩
    have c_totT : Cal l.prog w K mg base 10 "total" ["row"] (spTotal K C) := ⟨_, _, PySem.W.mg_of X G a_tot, k_tot, ok_total F_tot m nt T.n_sum ad, b_tot⟩
    have c_f0 : Cal l.prog w K mg base 8 "is_from_zero" ["thing"] (spFrom0 K C) := ⟨_, _, PySem.W.mg_of X G a_f0, k_f0, ok_from0 F_f0 sh c_ish c_sof ls, b_f0⟩
    have c_abv : Cal l.prog w K mg base 8 "is_above_zero" ["thing"] (spAbove K C) := ⟨_, _, PySem.W.mg_of X G a_abv, k_abv, ok_above F_abv sh c_ish c_sof ls, b_abv⟩
    have c_spr : Cal l.prog w K mg base 11 "is_spread" ["many", "thing"] (spSpread K C) := ⟨_, _, PySem.W.mg_of X G a_spr, k_spr, ok_spread F_spr T.n_all c_tu c_f0 c_totT eqT, b_spr⟩
    have c_mln : Cal l.prog w K mg base 2 "map_length" ["part"] spMapLen := ⟨_, _, PySem.W.mg_of X G a_mln, k_mln, ok_mlen F_mln T c_tu, b_mln⟩
    have c_prt : Cal l.prog w K mg base 9 "is_part" ["size", "thing"] (spIsPart C) := ⟨_, _, PySem.W.mg_of X G a_prt, k_prt, ok_part F_prt T dg c_tu c_abv c_ii, b_prt⟩
    have n_ok_DI : FnOk l.prog w K mg base CX0 12 f_DI _ ["self", "parts"] (spDI C DC) := ok_DI F_DI T t dg c_mln c_prt c_sof c_tot eqT
    have mD : MkD l.prog w K mg base C DC := { ex := ⟨_, _, ⟨mkD, a_DI, i_DI, kcD⟩, n_ok_DI, b_DI⟩, gD := t.gD }
    have n_ok_CI : FnOk l.prog w K mg base CX0 12 f_CI _ ["self", "rows", "labels"] (spCI C CC) := ok_CI F_CI T ct c_spr c_tb c_nr c_shs
    have mc : MkC l.prog w K mg base C CC := { ex := ⟨_, _, ⟨mkC, a_CI, i_CI, kcC⟩, n_ok_CI, b_CI⟩, gC := ct.gC }
    have g_iw : KGo.Cal l.prog w K mg base 1 "is_whole" ["thing"] (KGo.spWhole) := ⟨_, _, PySem.W.mg_of X G a_iw, k_iw, KGo.ok_is_whole F_iw bnO, b_iw⟩
    have g_ib : KGo.Cal l.prog w K mg base 2 "is_between" ["least", "most", "thing"] (KGo.spBetween) := ⟨_, _, PySem.W.mg_of X G a_ib, k_ib, KGo.ok_is_between F_ib g_iw, b_ib⟩
    have g_ii : KGo.Cal l.prog w K mg base 3 "is_index" ["many", "thing"] (KGo.spIndex) := ⟨_, _, PySem.W.mg_of X G a_ii, k_ii, KGo.ok_is_index F_ii g_ib, b_ii⟩
    have g_tu : KGo.Cal l.prog w K mg base 1 "is_tuple_of" ["many", "thing"] (KGo.spTup2) := ⟨_, _, PySem.W.mg_of X G a_tu, k_tu, KGo.ok_is_tuple_of F_tu bnO, b_tu⟩
    have g_ip : KGo.Cal l.prog w K mg base 4 "is_index_pair" ["many", "thing"] (KGo.spIxPair) := ⟨_, _, PySem.W.mg_of X G a_ipr, k_ipr, KGo.ok_is_index_pair F_ipr g_tu g_ii, b_ipr⟩
    have g_xp : KGo.Cal l.prog w K mg base 1 "index_pairs" ["many"] (KGo.spIxPrs) := ⟨_, _, PySem.W.mg_of X G a_ixp, k_ixp, KGo.ok_index_pairs F_ixp bnO, b_ixp⟩
    have g_lk : KGo.Cal l.prog w K mg base 2 "linked" ["size", "pairs"] (KGo.spLinked K) := ⟨_, _, PySem.W.mg_of X G a_lnk, k_lnk, KGo.ok_linked F_lnk bnO g_xp, b_lnk⟩
    have mO : KGo.MkO l.prog w K mg base OC := { ex := ⟨_, _, ⟨mkO, a_OI, i_OI, kcO⟩, KGo.ok_OI F_OI OT g_ib g_ip g_lk, b_OI⟩, gO := OT.gO }
    have c_lin : Cal l.prog w K mg base 7 "line" ["size"] (spLineI OC) := ⟨_, _, PySem.W.mg_of X G a_lin, k_lin, line_i (KGo.ok_line F_lin OT mO g_ib), b_lin⟩
    have c_hvs : Cal l.prog w K mg base 2 "halves" ["many"] spHalves := ⟨_, _, PySem.W.mg_of X G a_hvs, k_hvs, ok_halves F_hvs c_ixp, b_hvs⟩
    have c_hlf : Cal l.prog w K mg base 1 "half" ["pair"] spHalf := ⟨_, _, PySem.W.mg_of X G a_hlf, k_hlf, ok_half F_hlf T, b_hlf⟩
    have c_abl : Cal l.prog w K mg base 2 "able_places" ["moves", "places", "goals"] spAbleP := ⟨_, _, PySem.W.mg_of X G a_abl, k_abl, ok_able F_abl T, b_abl⟩
    have c_stk : Cal l.prog w K mg base 3 "stuck" ["draw"] (spStuck DC) := ⟨_, _, PySem.W.mg_of X G a_stk, k_stk, ok_stuck F_stk T t c_hvs c_hlf c_abl, b_stk⟩
    have c_iss : Cal l.prog w K mg base 5 "is_stuck" ["draw", "thing"] (spIsStuck K [C, DC, OC, CC] DC) := ⟨_, _, PySem.W.mg_of X G a_iss, k_iss, ok_iss F_iss T t IL c_ipr c_hlf, b_iss⟩
    have c_pool : Cal l.prog w K mg base 1 "_law_pool" ["_law_script"] (spPool K) := ⟨_, _, PySem.W.mg_of X G a_pool, k_pool, ok_pool F_pool bn, b_pool⟩
    have c_draw : Cal l.prog w K mg base 1 "_law_draw" ["_law_pool_here", "_law_many"] spDraw := ⟨_, _, PySem.W.mg_of X G a_draw, k_draw, ok_draw F_draw bn, b_draw⟩
    have c_pick : Cal l.prog w K mg base 2 "_law_pick" ["_law_pool_here", "_law_things"] spPickQ := ⟨_, _, PySem.W.mg_of X G a_pick, k_pick, ok_pickQ F_pick bn c_draw, b_pick⟩
    have c_trn : Cal l.prog w K mg base 2 "_law_turned_about" ["_law_pool_here", "_law_things"] spTurnAbout := ⟨_, _, PySem.W.mg_of X G a_trn, k_trn, ok_turn F_trn T c_draw, b_trn⟩
    have c_lps : Cal l.prog w K mg base 1 "_law_pairs" ["_law_size"] spLawPairs := ⟨_, _, PySem.W.mg_of X G a_lps, k_lps, ok_lpairs F_lps T, b_lps⟩
    have c_whl : Cal l.prog w K mg base 6 "_law_whole" ["_law_top", "_law_whole_here"] (spWholeP C) := ⟨_, _, PySem.W.mg_of X G a_whl, k_whl, ok_whole F_whl m, b_whl⟩
    have c_whZ : Cal l.prog w K mg base 6 "_law_whole" ["_law_top", "_law_whole_here"] (spWholeZ C) := ⟨_, _, PySem.W.mg_of X G a_whl, k_whl, ok_wholeZ F_whl m, b_whl⟩
    have c_lsp : Cal l.prog w K mg base 7 "_law_spread" ["_law_pool_here", "_law_tops"] (spSpreadP C) := ⟨_, _, PySem.W.mg_of X G a_lsp, k_lsp, ok_spr F_lsp T m c_draw c_whZ, b_lsp⟩
    have c_lch : Cal l.prog w K mg base 14 "_law_chain" ["_law_pool_here", "_law_rows"] (spChainP CC) := ⟨_, _, PySem.W.mg_of X G a_lch, k_lch, ok_chn F_lch T mc c_pick c_lsp, b_lch⟩
    have c_lint : Cal l.prog w K mg base 1 "_law_is_integer" ["_law_thing"] (spWh3 K [C, DC, OC, CC]) := ⟨_, _, PySem.W.mg_of X G a_lint, k_lint, ok_lint3 F_lint bn IL, b_lint⟩
    have c_isp : Cal l.prog w K mg base 2 "_law_is_pair" ["_law_size", "_law_thing"] (spIp3 K [C, DC, OC, CC]) := ⟨_, _, PySem.W.mg_of X G a_isp, k_isp, ok_isp F_isp T IL c_lint, b_isp⟩
    have c_map : Cal l.prog w K mg base 3 "_law_map" ["_law_pool_here", "_law_size"] spMap := ⟨_, _, PySem.W.mg_of X G a_map, k_map, ok_map F_map T c_draw c_trn, b_map⟩
    have c_dpa : Cal l.prog w K mg base 4 "_law_draw_parts" ["_law_pool_here", "_law_size", "_law_most"] spDrawParts := ⟨_, _, PySem.W.mg_of X G a_dpa, k_dpa, ok_draw_parts F_dpa T c_draw c_map, b_dpa⟩
    have c_rng : Cal l.prog w K mg base 3 "_law_ring" ["_law_pool_here", "_law_size"] spRing := ⟨_, _, PySem.W.mg_of X G a_rng, k_rng, ok_ring F_rng T c_trn, b_rng⟩
    have c_wei : Cal l.prog w K mg base 2 "_law_weighed" ["_law_pool_here", "_law_maps"] spWeighed := ⟨_, _, PySem.W.mg_of X G a_wei, k_wei, ok_weighed F_wei T c_draw, b_wei⟩
    have c_inh : Cal l.prog w K mg base 3 "_law_in_half" ["_law_pool_here", "_law_halves", "_law_half", "_law_s"] spInHalf := ⟨_, _, PySem.W.mg_of X G a_inh, k_inh, ok_in_half F_inh T c_pick, b_inh⟩
    have c_giv : Cal l.prog w K mg base 7 "_law_given" ["_law_pool_here", "_law_parts"] (spGiven C) := ⟨_, _, PySem.W.mg_of X G a_giv, k_giv, ok_given F_giv T m c_draw c_whl, b_giv⟩
    have c_ldr : Cal l.prog w K mg base 1 "_law_led_rows" ["_law_parts", "_law_size"] spLedRows := ⟨_, _, PySem.W.mg_of X G a_ldr, k_ldr, ok_ledr F_ldr T, b_ldr⟩
    have c_gat : Cal l.prog w K mg base 5 "_law_gather_parts" ["_law_pool_here", "_law_size"] spGather := ⟨_, _, PySem.W.mg_of X G a_gat, k_gat, ok_gather F_gat T c_draw c_trn c_dpa c_rng c_wei c_inh, b_gat⟩
    have c_lst : Cal l.prog w K mg base 2 "_law_stuck" ["_law_parts", "_law_size"] spLStuck := ⟨_, _, PySem.W.mg_of X G a_lst, k_lst, ok_lstk F_lst T c_lps, b_lst⟩
    have c_com : Cal l.prog w K mg base 1 "_law_coming" ["_law_parts", "_law_pair", "_law_size"] spComing := ⟨_, _, PySem.W.mg_of X G a_com, k_com, ok_com F_com T, b_com⟩
    have c_spo : Cal l.prog w K mg base 6 "_law_spoiled" ["_law_pool_here", "_law_pairs_here", "_law_size", "_law_odd"] (spSpoiled K [C, DC, OC, CC]) := ⟨_, _, PySem.W.mg_of X G a_spo, k_spo, ok_spo F_spo T m iC c_draw c_pick, b_spo⟩
    have c_isr : Cal l.prog w K mg base 3 "_law_is_right" ["_law_parts", "_law_size", "_law_thing"] (spIsRight K [C, DC, OC, CC]) := ⟨_, _, PySem.W.mg_of X G a_isr, k_isr, ok_isr F_isr T IL c_isp, b_isr⟩
    exact { T := T, t := t, I := IL, iC := iC, iD := by simp, iO := by simp, iCC := by simp, mD := mD, pool := c_pool, draw := c_draw, pick := c_pick, turn := c_trn, given := c_giv, gather := c_gat, stuck := c_stk, iss := c_iss, lstk := c_lst, com := c_com, spo := c_spo, isr := c_isr, isp := c_isp, line := c_lin, ledr := c_ldr, chn := c_lch }
  exact ⟨_, fun s v => .of_eq rfl, fun base _ _ => ok_law F_law (cs base)⟩
end
theorem walk {l : PySem.W.OpenLaw} {q : Program} {loose : List Str} {XP : (Str → Option Value) → Heap → Prop} {YP : World → Heap → Prop} {d : DefRec} {K : Params → PySem.W.Frag} (hn : l.most = some 63) (hdf : d.params.defaults = [])
    (hY : ∀ (w : World) (h : Heap), YP w h → (K w.params).In h)
    (F : ∀ (w : World) (mg : Str → Option Value) (fa : Addr) (h : Heap), (K w.params).In h → h.Ns mainGlobals mg → mg d.name = some (.ref fa) →
      ∃ fd : FuncData, (∀ (s : Shared) (u : Value), BindsTo s fd ⟨[u], []⟩ [("_law_script", u)]) ∧ ∀ base : Heap, (K w.params).In base → base.Ns mainGlobals mg → FnOk l.prog w (K w.params) mg base CX0 15 fa fd ["_law_script"] (spLaw (K w.params))) :
    PySem.W.WalkO q loose XP YP l.row.toRowW d [] (fun f vs => PySem.call f vs) :=
  L2.walk_of (n := 63) (k := 15) (x := "_law_script") (CX := fun _ => CX0) (sp := fun w => spLaw (K w.params)) hn (by decide) hdf ⟨rfl, by decide, by decide⟩ hY F (fun _ _ a ns hl _ hS => ⟨a, ns, rfl, hS, hl, fun _ => rfl⟩) fun _ _ _ _ _ z => z
end KG
set_option Elab.async false
set_option maxRecDepth 100000
open PySem PySem.W PyProof.Rows
set_option maxRecDepth 100000
set_option maxHeartbeats 0
open_top head for PySem.Challenge.rw_bothwalks_k71_stuck_pairs_and_their_judg
set_option Elab.async false
set_option maxRecDepth 100000
set_option maxHeartbeats 0
open PySem PySem.W PyProof.Rows
theorem PySem.Challenge.cw_bothwalks_k71_stuck_pairs_and_their_judg_holds : PySem.Challenge.rw_bothwalks_k71_stuck_pairs_and_their_judg.Holds := by
  refine head ?_
  k_fill
  refine KG.walk (l := PySem.Challenge.rw_bothwalks_k71_stuck_pairs_and_their_judg) rfl rfl (fun w h Y => PySem.W.kIn_of Y) ?F
  case F =>
    intro w mg fa h KX G hmg
    refine' KG.all_mk KX G hmg ?aS ?aW ?aB ?aD ?aC ?aO ?aM ?eM ?aL ?eL ?aMS ?eMS ?aMO ?eMO ?aLT ?eLT ?aG ?n_isinstance ?n_int ?n_bool ?n_abs ?n_len ?n_str ?n_divmod ?n_ValueError ?n_list ?n_tuple ?n_range ?n_sum ?n_min ?n_max ?n_all ?n_any ?n_set ?n_sorted ?n_enumerate ?a_WE ?l_WE ?c_WE ?k_WE ?a_BS ?l_BS ?c_BS ?k_BS ?a_iw ?l_iw ?c_iw ?k_iw ?a_ib ?l_ib ?c_ib ?k_ib ?a_ii ?l_ii ?c_ii ?k_ii ?a_nm ?l_nm ?c_nm ?k_nm ?a_tu ?l_tu ?c_tu ?k_tu ?a_tb ?l_tb ?c_tb ?k_tb ?a_nr ?l_nr ?c_nr ?k_nr ?a_ipr ?l_ipr ?c_ipr ?k_ipr ?a_ixp ?l_ixp ?c_ixp ?k_ixp ?a_SI ?l_SI ?c_SI ?k_SI ?a_add ?l_add ?c_add ?k_add ?a_radd ?l_radd ?c_radd ?k_radd ?a_eq ?l_eq ?c_eq ?k_eq ?a_less ?l_less ?c_less ?k_less ?a_ish ?l_ish ?c_ish ?k_ish ?a_sof ?l_sof ?c_sof ?k_sof ?a_shs ?l_shs ?c_shs ?k_shs ?a_tot ?l_tot ?c_tot ?k_tot ?a_f0 ?l_f0 ?c_f0 ?k_f0 ?a_abv ?l_abv ?c_abv ?k_abv ?a_spr ?l_spr ?c_spr ?k_spr ?a_CI ?l_CI ?c_CI ?k_CI ?a_DI ?l_DI ?c_DI ?k_DI ?a_mln ?l_mln ?c_mln ?k_mln ?a_prt ?l_prt ?c_prt ?k_prt ?a_hvs ?l_hvs ?c_hvs ?k_hvs ?a_hlf ?l_hlf ?c_hlf ?k_hlf ?a_abl ?l_abl ?c_abl ?k_abl ?a_stk ?l_stk ?c_stk ?k_stk ?a_iss ?l_iss ?c_iss ?k_iss ?a_OI ?l_OI ?c_OI ?k_OI ?a_lnk ?l_lnk ?c_lnk ?k_lnk ?a_lin ?l_lin ?c_lin ?k_lin ?a_pool ?l_pool ?c_pool ?k_pool ?a_draw ?l_draw ?c_draw ?k_draw ?a_pick ?l_pick ?c_pick ?k_pick ?a_trn ?l_trn ?c_trn ?k_trn ?a_lps ?l_lps ?c_lps ?k_lps ?a_whl ?l_whl ?c_whl ?k_whl ?a_lsp ?l_lsp ?c_lsp ?k_lsp ?a_lch ?l_lch ?c_lch ?k_lch ?a_lint ?l_lint ?c_lint ?k_lint ?a_isp ?l_isp ?c_isp ?k_isp ?a_map ?l_map ?c_map ?k_map ?a_dpa ?l_dpa ?c_dpa ?k_dpa ?a_giv ?l_giv ?c_giv ?k_giv ?a_ldr ?l_ldr ?c_ldr ?k_ldr ?a_gat ?l_gat ?c_gat ?k_gat ?a_rng ?l_rng ?c_rng ?k_rng ?a_wei ?l_wei ?c_wei ?k_wei ?a_inh ?l_inh ?c_inh ?k_inh ?a_lst ?l_lst ?c_lst ?k_lst ?a_com ?l_com ?c_com ?k_com ?a_spo ?l_spo ?c_spo ?k_spo ?a_isr ?l_isr ?c_isr ?k_isr ?a_law ?l_law ?c_law ?k_law ?dSI ?dWE ?hn ?htk ?pgD ?hdD ?poD ?saD ?mkD ?kcD ?tCD ?haD ?hmD ?neD ?uD_int ?uD_bool ?uD_NoneType ?uD_str ?uD_list ?uD_tuple ?uD_dict ?pgS ?hdS ?poS ?saS ?mkS ?kcS ?tCS ?haS ?hmS ?neS ?uS_int ?uS_bool ?uS_NoneType ?uS_str ?uS_list ?uS_tuple ?uS_dict ?pgC ?hdC ?poC ?saC ?mkC ?kcC ?tCC ?haC ?hmC ?neC ?uC_int ?uC_bool ?uC_NoneType ?uC_str ?uC_list ?uC_tuple ?uC_dict ?pgO ?hdO ?poO ?saO ?mkO ?kcO ?tCO ?haO ?hmO ?neO ?uO_int ?uO_bool ?uO_NoneType ?uO_str ?uO_list ?uO_tuple ?uO_dict ?uS_bytes ?uS_bytearray ?sf ?upC ?d_add ?e_add ?o_add ?nSz ?nPt ?nT ?nBm ?nSzC ?nRw ?nLb ?nSzO ?nLo ?i_SI ?i_eq ?i_add ?i_radd ?i_less ?i_DI ?i_CI ?i_OI ?xB ?rB ?saB ?exB ?tB ?kB ?hdB ?sBB ?ntB ?nbB ?tfB ?rdW ?gaW ?fcW ?vV
    (case aS => k_is)
    (case aW => k_is)
    (case aB => k_is)
    (case aD => k_is)
    (case aC => k_is)
    (case aO => k_is)
    (case aM => k_is)
    (case eM => decide +kernel)
    (case aL => k_is)
    (case eL => decide +kernel)
    (case aMS => k_is)
    (case eMS => decide +kernel)
    (case aMO => k_is)
    (case eMO => decide +kernel)
    (case aLT => k_is)
    (case eLT => decide +kernel)
    (case aG => k_is)
    (case n_isinstance => k_is)
    (case n_int => k_is)
    (case n_bool => k_is)
    (case n_abs => k_is)
    (case n_len => k_is)
    (case n_str => k_is)
    (case n_divmod => k_is)
    (case n_ValueError => k_is)
    (case n_list => k_is)
    (case n_tuple => k_is)
    (case n_range => k_is)
    (case n_sum => k_is)
    (case n_min => k_is)
    (case n_max => k_is)
    (case n_all => k_is)
    (case n_any => k_is)
    (case n_set => k_is)
    (case n_sorted => k_is)
    (case n_enumerate => k_is)
    (case a_WE => k_is)
    (case l_WE => k_is)
    (case c_WE => k_is)
    (case k_WE => k_is)
    (case a_BS => k_is)
    (case l_BS => k_is)
    (case c_BS => k_is)
    (case k_BS => k_is)
    (case a_iw => k_is)
    (case l_iw => k_is)
    (case c_iw => k_is)
    (case k_iw => k_is)
    (case a_ib => k_is)
    (case l_ib => k_is)
    (case c_ib => k_is)
    (case k_ib => k_is)
    (case a_ii => k_is)
    (case l_ii => k_is)
    (case c_ii => k_is)
    (case k_ii => k_is)
    (case a_nm => k_is)
    (case l_nm => k_is)
    (case c_nm => k_is)
    (case k_nm => k_is)
    (case a_tu => k_is)
    (case l_tu => k_is)
    (case c_tu => k_is)
    (case k_tu => k_is)
    (case a_tb => k_is)
    (case l_tb => k_is)
    (case c_tb => k_is)
    (case k_tb => k_is)
    (case a_nr => k_is)
    (case l_nr => k_is)
    (case c_nr => k_is)
    (case k_nr => k_is)
    (case a_ipr => k_is)
    (case l_ipr => k_is)
    (case c_ipr => k_is)
    (case k_ipr => k_is)
    (case a_ixp => k_is)
    (case l_ixp => k_is)
    (case c_ixp => k_is)
    (case k_ixp => k_is)
    (case a_SI => k_is)
    (case l_SI => k_is)
    (case c_SI => k_is)
    (case k_SI => k_is)
    (case a_add => k_is)
    (case l_add => k_is)
    (case c_add => k_is)
    (case k_add => k_is)
    (case a_radd => k_is)
    (case l_radd => k_is)
    (case c_radd => k_is)
    (case k_radd => k_is)
    (case a_eq => k_is)
    (case l_eq => k_is)
    (case c_eq => k_is)
    (case k_eq => k_is)
    (case a_less => k_is)
    (case l_less => k_is)
    (case c_less => k_is)
    (case k_less => k_is)
    (case a_ish => k_is)
    (case l_ish => k_is)
    (case c_ish => k_is)
    (case k_ish => k_is)
    (case a_sof => k_is)
    (case l_sof => k_is)
    (case c_sof => k_is)
    (case k_sof => k_is)
    (case a_shs => k_is)
    (case l_shs => k_is)
    (case c_shs => k_is)
    (case k_shs => k_is)
    (case a_tot => k_is)
    (case l_tot => k_is)
    (case c_tot => k_is)
    (case k_tot => k_is)
    (case a_f0 => k_is)
    (case l_f0 => k_is)
    (case c_f0 => k_is)
    (case k_f0 => k_is)
    (case a_abv => k_is)
    (case l_abv => k_is)
    (case c_abv => k_is)
    (case k_abv => k_is)
    (case a_spr => k_is)
    (case l_spr => k_is)
    (case c_spr => k_is)
    (case k_spr => k_is)
    (case a_CI => k_is)
    (case l_CI => k_is)
    (case c_CI => k_is)
    (case k_CI => k_is)
    (case a_DI => k_is)
    (case l_DI => k_is)
    (case c_DI => k_is)
    (case k_DI => k_is)
    (case a_mln => k_is)
    (case l_mln => k_is)
    (case c_mln => k_is)
    (case k_mln => k_is)
    (case a_prt => k_is)
    (case l_prt => k_is)
    (case c_prt => k_is)
    (case k_prt => k_is)
    (case a_hvs => k_is)
    (case l_hvs => k_is)
    (case c_hvs => k_is)
    (case k_hvs => k_is)
    (case a_hlf => k_is)
    (case l_hlf => k_is)
    (case c_hlf => k_is)
    (case k_hlf => k_is)
    (case a_abl => k_is)
    (case l_abl => k_is)
    (case c_abl => k_is)
    (case k_abl => k_is)
    (case a_stk => k_is)
    (case l_stk => k_is)
    (case c_stk => k_is)
    (case k_stk => k_is)
    (case a_iss => k_is)
    (case l_iss => k_is)
    (case c_iss => k_is)
    (case k_iss => k_is)
    (case a_OI => k_is)
    (case l_OI => k_is)
    (case c_OI => k_is)
    (case k_OI => k_is)
    (case a_lnk => k_is)
    (case l_lnk => k_is)
    (case c_lnk => k_is)
    (case k_lnk => k_is)
    (case a_lin => k_is)
    (case l_lin => k_is)
    (case c_lin => k_is)
    (case k_lin => k_is)
    (case a_pool => k_is)
    (case l_pool => k_is)
    (case c_pool => k_is)
    (case k_pool => k_is)
    (case a_draw => k_is)
    (case l_draw => k_is)
    (case c_draw => k_is)
    (case k_draw => k_is)
    (case a_pick => k_is)
    (case l_pick => k_is)
    (case c_pick => k_is)
    (case k_pick => k_is)
    (case a_trn => k_is)
    (case l_trn => k_is)
    (case c_trn => k_is)
    (case k_trn => k_is)
    (case a_lps => k_is)
    (case l_lps => k_is)
    (case c_lps => k_is)
    (case k_lps => k_is)
    (case a_whl => k_is)
    (case l_whl => k_is)
    (case c_whl => k_is)
    (case k_whl => k_is)
    (case a_lsp => k_is)
    (case l_lsp => k_is)
    (case c_lsp => k_is)
    (case k_lsp => k_is)
    (case a_lch => k_is)
    (case l_lch => k_is)
    (case c_lch => k_is)
    (case k_lch => k_is)
    (case a_lint => k_is)
    (case l_lint => k_is)
    (case c_lint => k_is)
    (case k_lint => k_is)
    (case a_isp => k_is)
    (case l_isp => k_is)
    (case c_isp => k_is)
    (case k_isp => k_is)
    (case a_map => k_is)
    (case l_map => k_is)
    (case c_map => k_is)
    (case k_map => k_is)
    (case a_dpa => k_is)
    (case l_dpa => k_is)
    (case c_dpa => k_is)
    (case k_dpa => k_is)
    (case a_giv => k_is)
    (case l_giv => k_is)
    (case c_giv => k_is)
    (case k_giv => k_is)
    (case a_ldr => k_is)
    (case l_ldr => k_is)
    (case c_ldr => k_is)
    (case k_ldr => k_is)
    (case a_gat => k_is)
    (case l_gat => k_is)
    (case c_gat => k_is)
    (case k_gat => k_is)
    (case a_rng => k_is)
    (case l_rng => k_is)
    (case c_rng => k_is)
    (case k_rng => k_is)
    (case a_wei => k_is)
    (case l_wei => k_is)
    (case c_wei => k_is)
    (case k_wei => k_is)
    (case a_inh => k_is)
    (case l_inh => k_is)
    (case c_inh => k_is)
    (case k_inh => k_is)
    (case a_lst => k_is)
    (case l_lst => k_is)
    (case c_lst => k_is)
    (case k_lst => k_is)
    (case a_com => k_is)
    (case l_com => k_is)
    (case c_com => k_is)
    (case k_com => k_is)
    (case a_spo => k_is)
    (case l_spo => k_is)
    (case c_spo => k_is)
    (case k_spo => k_is)
    (case a_isr => k_is)
    (case l_isr => k_is)
    (case c_isr => k_is)
    (case k_isr => k_is)
    (case a_law => k_is)
    (case l_law => k_is)
    (case c_law => k_is)
    (case k_law => k_is)
    (case dSI => k_is)
    (case dWE => k_is)
    (case hn => k_is)
    (case htk => k_is)
    (case pgD => k_is)
    (case hdD => k_is)
    (case poD => k_is)
    (case saD => k_is)
    (case mkD => k_is)
    (case kcD => k_is)
    (case tCD => k_is)
    (case haD => k_is)
    (case hmD => k_is)
    (case neD => k_is)
    (case uD_int => k_is)
    (case uD_bool => k_is)
    (case uD_NoneType => k_is)
    (case uD_str => k_is)
    (case uD_list => k_is)
    (case uD_tuple => k_is)
    (case uD_dict => k_is)
    (case pgS => k_is)
    (case hdS => k_is)
    (case poS => k_is)
    (case saS => k_is)
    (case mkS => k_is)
    (case kcS => k_is)
    (case tCS => k_is)
    (case haS => k_is)
    (case hmS => k_is)
    (case neS => k_is)
    (case uS_int => k_is)
    (case uS_bool => k_is)
    (case uS_NoneType => k_is)
    (case uS_str => k_is)
    (case uS_list => k_is)
    (case uS_tuple => k_is)
    (case uS_dict => k_is)
    (case pgC => k_is)
    (case hdC => k_is)
    (case poC => k_is)
    (case saC => k_is)
    (case mkC => k_is)
    (case kcC => k_is)
    (case tCC => k_is)
    (case haC => k_is)
    (case hmC => k_is)
    (case neC => k_is)
    (case uC_int => k_is)
    (case uC_bool => k_is)
    (case uC_NoneType => k_is)
    (case uC_str => k_is)
    (case uC_list => k_is)
    (case uC_tuple => k_is)
    (case uC_dict => k_is)
    (case pgO => k_is)
    (case hdO => k_is)
    (case poO => k_is)
    (case saO => k_is)
    (case mkO => k_is)
    (case kcO => k_is)
    (case tCO => k_is)
    (case haO => k_is)
    (case hmO => k_is)
    (case neO => k_is)
    (case uO_int => k_is)
    (case uO_bool => k_is)
    (case uO_NoneType => k_is)
    (case uO_str => k_is)
    (case uO_list => k_is)
    (case uO_tuple => k_is)
    (case uO_dict => k_is)
    (case uS_bytes => k_is)
    (case uS_bytearray => k_is)
    (case sf => k_is)
    (case upC => k_is)
    (case d_add => k_is)
    (case e_add => k_is)
    (case o_add => k_is)
    (case nSz => k_is)
    (case nPt => k_is)
    (case nT => k_is)
    (case nBm => k_is)
    (case nSzC => k_is)
    (case nRw => k_is)
    (case nLb => k_is)
    (case nSzO => k_is)
    (case nLo => k_is)
    (case i_SI => k_is)
    (case i_eq => k_is)
    (case i_add => k_is)
    (case i_radd => k_is)
    (case i_less => k_is)
    (case i_DI => k_is)
    (case i_CI => k_is)
    (case i_OI => k_is)
    (case xB => k_is)
    (case rB => first | rfl | decide +kernel | k_is)
    (case saB => k_is)
    (case exB => k_is)
    (case tB => k_is)
    (case kB => k_is)
    (case hdB => k_is)
    (case sBB => first | rfl | k_is)
    (case ntB => k_is)
    (case nbB => k_is)
    (case tfB => k_is)
    (case rdW => k_is)
    (case gaW => k_is)
    (case fcW => k_is)
    (case vV => k_is)

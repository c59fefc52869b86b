import PyProof.Rows.All
import Wide.All
import OpenK.AllK
import Wide.FinOn
import PyProof.EqAt
import PyProof.EqKinds
import PyProof.NeKinds
import PyProof.TupleCall
import HandS.OwnEq
import HandS.IsInst
import HandS.ForMost
import KE.KOpsOwn
import PyProof.SumAny
import HandS.SortKw
import HandS.ForExc
import HandS.ExcInit
import HandS.ExcField
import HandS.ExcIs
import HandS.Gcd
import HandS.FStr
import HandS.Wide
import HandS.WideBits
import HandS.Star
import HandS.EndBits
import HandS.ClsMeth
import PySem.Challenge.RW_bothwalks_k03_spreads_and_the_place_of_a
import HandS.Defaults
import HandS.Comp
import HandS.WordsExc
import HandS.Style
set_option Elab.async false
set_option linter.all false
set_option maxRecDepth 100000
set_option maxHeartbeats 4000000
/-! == and != where one side is an instance of an own class with an own __eq__ -/
namespace OC
open PySem PySem.SeqAt PySem.W
open AutoSeq1 (wpAny_loadPart')
open MeetsSeq MeetsSeq2 MeetsSeq3 SeqRoads2

def Is2 (op : CmpOp) : Prop := op = .Eq ∨ op = .NotEq

section
variable {prog : Program} {w : World} {A : Around} {E : Value → Shared → Prop} {s : Shared} {K : Frag} {x C f : Addr} {ox : Obj} {od : Option Obj}

/-- the built-in's own comparison hands back NotImplemented: nothing is known of it, nothing has changed -/
def Decl (prog : Program) (w : World) (A : Around) (s : Shared) (op : CmpOp) (a b : Value) : Prop :=
  ∀ (Q : Option Value → Shared → Prop) (E : Value → Shared → Prop), Q none s → wpAny (model prog w) A (tryCompare a (cmpInfo op).2.1 b) Q E s

theorem int_ref_eq (b : Int) (u : Tok) {o : Obj} (hd : o.data = .plain) (l : Addr) :
    Meets (Builtin.«int.__eq__» ⟨[.int b u, .ref l], []⟩) (fun _ R s => s.heap.get? l = some o ∧ R (.ok (.ret .notImplemented)) s) :=
  .of_wp fun prog w A R s h => by obtain ⟨cls, dd, data, sl⟩ := o; obtain ⟨hp, g, d, tk, os⟩ := s; obtain ⟨hl, h⟩ := h; simp only at hd; subst hd; wp_walk using wpAny_loadPart' hl, wpAny_load hl; exact ⟨_, rfl, h⟩
theorem int_ref_ne (b : Int) (u : Tok) {o : Obj} (hd : o.data = .plain) (l : Addr) :
    Meets (Builtin.«int.__ne__» ⟨[.int b u, .ref l], []⟩) (fun _ R s => s.heap.get? l = some o ∧ R (.ok (.ret .notImplemented)) s) :=
  .of_wp fun prog w A R s h => by obtain ⟨cls, dd, data, sl⟩ := o; obtain ⟨hp, g, d, tk, os⟩ := s; obtain ⟨hl, h⟩ := h; simp only at hd; subst hd; wp_walk using wpAny_loadPart' hl, wpAny_load hl; exact ⟨_, rfl, h⟩
theorem bool_ref_eq (b : Bool) {o : Obj} (hd : o.data = .plain) (l : Addr) :
    Meets (Builtin.«int.__eq__» ⟨[.bool b, .ref l], []⟩) (fun _ R s => s.heap.get? l = some o ∧ R (.ok (.ret .notImplemented)) s) :=
  .of_wp fun prog w A R s h => by obtain ⟨cls, dd, data, sl⟩ := o; obtain ⟨hp, g, d, tk, os⟩ := s; obtain ⟨hl, h⟩ := h; simp only at hd; subst hd; wp_walk using wpAny_loadPart' hl, wpAny_load hl; exact ⟨_, rfl, h⟩
theorem bool_ref_ne (b : Bool) {o : Obj} (hd : o.data = .plain) (l : Addr) :
    Meets (Builtin.«int.__ne__» ⟨[.bool b, .ref l], []⟩) (fun _ R s => s.heap.get? l = some o ∧ R (.ok (.ret .notImplemented)) s) :=
  .of_wp fun prog w A R s h => by obtain ⟨cls, dd, data, sl⟩ := o; obtain ⟨hp, g, d, tk, os⟩ := s; obtain ⟨hl, h⟩ := h; simp only at hd; subst hd; wp_walk using wpAny_loadPart' hl, wpAny_load hl; exact ⟨_, rfl, h⟩
theorem str_ref_eq (b : Str) (u : Tok) {o : Obj} (hd : o.data = .plain) (l : Addr) :
    Meets (Builtin.«str.__eq__» ⟨[.str b u, .ref l], []⟩) (fun _ R s => s.heap.get? l = some o ∧ R (.ok (.ret .notImplemented)) s) :=
  .of_wp fun prog w A R s h => by obtain ⟨cls, dd, data, sl⟩ := o; obtain ⟨hp, g, d, tk, os⟩ := s; obtain ⟨hl, h⟩ := h; simp only at hd; subst hd; wp_walk using wpAny_loadPart' hl, wpAny_load hl; exact ⟨_, rfl, h⟩
theorem str_ref_ne (b : Str) (u : Tok) {o : Obj} (hd : o.data = .plain) (l : Addr) :
    Meets (Builtin.«str.__ne__» ⟨[.str b u, .ref l], []⟩) (fun _ R s => s.heap.get? l = some o ∧ R (.ok (.ret .notImplemented)) s) :=
  .of_wp fun prog w A R s h => by obtain ⟨cls, dd, data, sl⟩ := o; obtain ⟨hp, g, d, tk, os⟩ := s; obtain ⟨hl, h⟩ := h; simp only at hd; subst hd; wp_walk using wpAny_loadPart' hl, wpAny_load hl; exact ⟨_, rfl, h⟩

theorem decl_int {op : CmpOp} (ho : Is2 op) (b : Int) (u : Tok) (hx : s.heap.get? x = some ox) (hd : ox.data = .plain) : Decl prog w A s op (.int b u) (.ref x) := fun Q E hq => by
  rcases ho with rfl | rfl
  · exact wpAny_tryCompare_declines (typeIs_int s b u) F.slot_int_eq (call_meets F.slot_int_eq (typeIs_int s b u) F.entry_int_eq (F.args_int_eq_2 _ _) (int_ref_eq b u hd x) ⟨hx, rfl, hq⟩)
  · exact wpAny_tryCompare_declines (typeIs_int s b u) F.slot_int_ne (call_meets F.slot_int_ne (typeIs_int s b u) F.entry_int_ne (F.args_int_ne_2 _ _) (int_ref_ne b u hd x) ⟨hx, rfl, hq⟩)
theorem decl_bool {op : CmpOp} (ho : Is2 op) (b : Bool) (hx : s.heap.get? x = some ox) (hd : ox.data = .plain) : Decl prog w A s op (.bool b) (.ref x) := fun Q E hq => by
  rcases ho with rfl | rfl
  · exact wpAny_tryCompare_declines (T := "bool") rfl F.slot_bool_eq (call_meets F.slot_bool_eq rfl F.entry_int_eq (F.args_int_eq_2 _ _) (bool_ref_eq b hd x) ⟨hx, rfl, hq⟩)
  · exact wpAny_tryCompare_declines (T := "bool") rfl F.slot_bool_ne (call_meets F.slot_bool_ne rfl F.entry_int_ne (F.args_int_ne_2 _ _) (bool_ref_ne b hd x) ⟨hx, rfl, hq⟩)
theorem decl_str {op : CmpOp} (ho : Is2 op) (b : Str) (u : Tok) (hx : s.heap.get? x = some ox) (hd : ox.data = .plain) : Decl prog w A s op (.str b u) (.ref x) := fun Q E hq => by
  rcases ho with rfl | rfl
  · exact wpAny_tryCompare_declines (typeIs_str s b u) F.slot_str_eq (call_meets F.slot_str_eq (typeIs_str s b u) F.entry_str_eq (F.args_str_eq_2 _ _) (str_ref_eq b u hd x) ⟨hx, rfl, hq⟩)
  · exact wpAny_tryCompare_declines (typeIs_str s b u) F.slot_str_ne (call_meets F.slot_str_ne (typeIs_str s b u) F.entry_str_ne (F.args_str_ne_2 _ _) (str_ref_ne b u hd x) ⟨hx, rfl, hq⟩)
theorem decl_none {op : CmpOp} (ho : Is2 op) : Decl prog w A s op .none (.ref x) := fun Q E hq => by
  rcases ho with rfl | rfl
  · exact wpAny_tryCompare_declines (T := "NoneType") rfl F.slot_NoneType_eq (call_gives F.slot_NoneType_eq rfl F.entry_NoneType_eq (F.args_NoneType_eq_2 _ _) (NoneType___eq___none_ref_0 x) ⟨rfl, hq⟩)
  · exact wpAny_tryCompare_declines (T := "NoneType") rfl F.slot_NoneType_ne (call_gives F.slot_NoneType_ne rfl F.entry_NoneType_ne (F.args_NoneType_ne_2 _ _) (NoneType___ne___none_ref_0 x) ⟨rfl, hq⟩)
end
end OC

set_option Elab.async false
set_option linter.all false
set_option maxRecDepth 100000
set_option maxHeartbeats 4000000
namespace OC
open PySem PySem.SeqAt PySem.W
open AutoSeq1 (wpAny_loadPart')
open MeetsSeq MeetsSeq2 MeetsSeq3 SeqRoads2
section
variable {prog : Program} {w : World} {A : Around} {E : Value → Shared → Prop} {s : Shared} {K : Frag} {x C f : Addr} {ox : Obj} {od : Option Obj}

theorem not_inst {M : Model} {h : Heap} {T : String} (X : K.In h) (I : InstAt h x ox C od) (hn : subIn K (.ref C) (.type T) = some false) : Looks M h (isInstance (.ref x) (.type T)) false :=
  I.type.andThen (looks_subIn X hn)

theorem tup_ref_eq (l : Addr) (items : Array Value) (n : Nat) (dd : Option Addr) (sl : Array (Option Value)) (x : Addr) :
    Meets (Builtin.«tuple.__eq__» ⟨[.ref l, .ref x], []⟩) (fun _ R s => (∀ M : Model, Looks M s.heap (isInstance (.ref x) (.type "tuple")) false) ∧ s.heap.get? l = some { cls := .type "tuple", dict := dd, data := .seq items n, slots := sl } ∧ R (.ok (.ret .notImplemented)) s) :=
  .of_wp fun prog w A R s h => by
    obtain ⟨hp, g, d, tk, os⟩ := s; obtain ⟨L0, hl, h⟩ := h
    have L := L0 (model prog w)
    unfold Builtin.«tuple.__eq__»
    repeat (first | with_reducible refine L.at ?_ | (refine wpAny_bind (m := isInstance (.ref x) (.type "tuple")) (L.at ?_)) | wp_step)
    exact ⟨_, rfl, h⟩
theorem tup_ref_ne (l : Addr) (items : Array Value) (n : Nat) (dd : Option Addr) (sl : Array (Option Value)) (x : Addr) :
    Meets (Builtin.«tuple.__ne__» ⟨[.ref l, .ref x], []⟩) (fun _ R s => (∀ M : Model, Looks M s.heap (isInstance (.ref x) (.type "tuple")) false) ∧ s.heap.get? l = some { cls := .type "tuple", dict := dd, data := .seq items n, slots := sl } ∧ R (.ok (.ret .notImplemented)) s) :=
  .of_wp fun prog w A R s h => by
    obtain ⟨hp, g, d, tk, os⟩ := s; obtain ⟨L0, hl, h⟩ := h
    have L := L0 (model prog w)
    unfold Builtin.«tuple.__ne__»
    repeat (first | with_reducible refine L.at ?_ | (refine wpAny_bind (m := isInstance (.ref x) (.type "tuple")) (L.at ?_)) | wp_step)
    exact ⟨_, rfl, h⟩
theorem list_ref_eq (l : Addr) (items : Array Value) (n : Nat) (dd : Option Addr) (sl : Array (Option Value)) (x : Addr) :
    Meets (Builtin.«list.__eq__» ⟨[.ref l, .ref x], []⟩) (fun _ R s => (∀ M : Model, Looks M s.heap (isInstance (.ref x) (.type "list")) false) ∧ s.heap.get? l = some { cls := .type "list", dict := dd, data := .seq items n, slots := sl } ∧ R (.ok (.ret .notImplemented)) s) :=
  .of_wp fun prog w A R s h => by
    obtain ⟨hp, g, d, tk, os⟩ := s; obtain ⟨L0, hl, h⟩ := h
    have L := L0 (model prog w)
    unfold Builtin.«list.__eq__»
    repeat (first | with_reducible refine L.at ?_ | (refine wpAny_bind (m := isInstance (.ref x) (.type "list")) (L.at ?_)) | wp_step)
    exact ⟨_, rfl, h⟩
theorem list_ref_ne (l : Addr) (items : Array Value) (n : Nat) (dd : Option Addr) (sl : Array (Option Value)) (x : Addr) :
    Meets (Builtin.«list.__ne__» ⟨[.ref l, .ref x], []⟩) (fun _ R s => (∀ M : Model, Looks M s.heap (isInstance (.ref x) (.type "list")) false) ∧ s.heap.get? l = some { cls := .type "list", dict := dd, data := .seq items n, slots := sl } ∧ R (.ok (.ret .notImplemented)) s) :=
  .of_wp fun prog w A R s h => by
    obtain ⟨hp, g, d, tk, os⟩ := s; obtain ⟨L0, hl, h⟩ := h
    have L := L0 (model prog w)
    unfold Builtin.«list.__ne__»
    repeat (first | with_reducible refine L.at ?_ | (refine wpAny_bind (m := isInstance (.ref x) (.type "list")) (L.at ?_)) | wp_step)
    exact ⟨_, rfl, h⟩
theorem dict_ref_eq (l : Addr) (x : Addr) {o : Obj} (ho : o.ExactDict) :
    Meets (Builtin.«dict.__eq__» ⟨[.ref l, .ref x], []⟩) (fun _ R s => (∀ M : Model, Looks M s.heap (isInstance (.ref x) (.type "dict")) false) ∧ s.heap.get? l = some o ∧ R (.ok (.ret .notImplemented)) s) :=
  .of_wp fun prog w A R s h => by
    obtain ⟨hp, g, d, tk, os⟩ := s; obtain ⟨L0, hl, h⟩ := h
    have L := L0 (model prog w)
    show wpAny _ _ (Builtin.Dict.dictSlotArgs "__eq__" ⟨[.ref l, .ref x], []⟩ >>= _) _ _ _
    repeat (first | with_reducible refine L.at ?_ | (refine wpAny_bind (m := isInstance (.ref x) (.type "dict")) (L.at ?_)) | wp_step)
    exact ⟨_, rfl, h⟩
theorem dict_ref_ne (l : Addr) (x : Addr) {o : Obj} (ho : o.ExactDict) :
    Meets (Builtin.«dict.__ne__» ⟨[.ref l, .ref x], []⟩) (fun _ R s => (∀ M : Model, Looks M s.heap (isInstance (.ref x) (.type "dict")) false) ∧ s.heap.get? l = some o ∧ R (.ok (.ret .notImplemented)) s) :=
  .of_wp fun prog w A R s h => by
    obtain ⟨hp, g, d, tk, os⟩ := s; obtain ⟨L0, hl, h⟩ := h
    have L := L0 (model prog w)
    show wpAny _ _ (Builtin.Dict.dictSlotArgs "__ne__" ⟨[.ref l, .ref x], []⟩ >>= _) _ _ _
    repeat (first | with_reducible refine L.at ?_ | (refine wpAny_bind (m := isInstance (.ref x) (.type "dict")) (L.at ?_)) | wp_step)
    exact ⟨_, rfl, h⟩
end
end OC

set_option Elab.async false
set_option linter.all false
set_option maxRecDepth 100000
set_option maxHeartbeats 4000000
namespace OC
open PySem PySem.SeqAt PySem.W Builtin
open AutoSeq1 (wpAny_loadPart')
open MeetsSeq MeetsSeq2 MeetsSeq3 SeqRoads2
section
variable {prog : Program} {w : World} {A : Around} {E : Value → Shared → Prop} {s : Shared} {K : Frag} {x C f : Addr} {ox : Obj} {od : Option Obj} {y : Value}

/-- what the own __eq__ hands back, turned for != -/
def turn (op : CmpOp) (b : Bool) : Bool := match op with | .Eq => b | _ => !b

/-- the class: its own __eq__ at f, its __ne__ is object's -/
structure OwnQ (K : Frag) (C f : Addr) : Prop where
  eq : findIn K (.ref C) "__eq__" = some (some (.ref f))
  ne : findIn K (.ref C) "__ne__" = some (some (.builtin "object.__ne__"))
  ob : mroIn K C (.type "object") = some true
  fn : isFn K (.ref f) = true

theorem ifBound_objNe {M : Model} {args : List Value} {Q : Option Value → Shared → Prop} (X : K.In s.heap) (I : InstAt s.heap x ox C od) (hs : findIn K (.ref C) "__ne__" = some (some (.builtin "object.__ne__")))
    (h : wpAny M A (call (.builtin "object.__ne__") (.ref x :: args)) (fun v => Q (some v)) E s) : wpAny M A (callSpecialIfBound? (.ref x) "__ne__" args) Q E s := by
  simp only [callSpecialIfBound?, bindSpecialIfBound?]
  refine wpAny_holding (wpAny_bind (wpAny_bind (wpAny_bind (I.type.here ((looks_findIn X hs).here ?_)))))
  refine wpAny_bind (wpAny_askSetting (wpAny_ite ?_))
  have fin : wpAny M A (call (.builtin "object.__ne__") ([.ref x] ++ args) >>= fun v => pure (some v)) Q E s := wpAny_bind (wpAny_mono h (fun v s' h' => wpAny_pure h') fun _ _ h' => h')
  split
  · exact wpAny_bind (wpAny_of_eq (F.cmp_object.ne.bind _) (wpAny_pure (by exact fin)))
  · exact wpAny_tryCatch (wpAny_bind (wpAny_of_eq (F.cmp_object.ne.bind _) (wpAny_pure (by exact fin))))

theorem ne_entry {Q : Fin → Shared → Prop} (hu : A.units < cLine) (X : K.In s.heap) (I : InstAt s.heap x ox C od) (O : OwnQ K C f)
    (h : wpAny (model prog w) A (call (.ref f) [.ref x, y]) (fun v s' => ∃ b, v = .bool b ∧ Q (.done (.ret (.bool (!b)))) s') E s) :
    wpAny (model prog w) A (Builtin.«object.__ne__» ⟨[.ref x, y], []⟩) Q E s := by
  obtain ⟨hp, g, d, t, os⟩ := s
  unfold Builtin.«object.__ne__»
  repeat (first
    | with_reducible refine wpAny_cRoomFor hu ?_
    | (refine wpAny_bind (m := callSpecialIfBound? (.ref x) (Str.ofString "__eq__") [y])
        (ifBound_K X I O.eq O.fn (wpAny_mono h (fun r s' hr => by
          obtain ⟨b, rfl, hq⟩ := hr
          repeat (first | exact hq | exact wpAny_pure hq | exact wpAny_truthy_bool hq | (refine wpAny_bind (m := truthy (.bool _)) (wpAny_truthy_bool ?_)) | wp_step)) fun _ _ e => e)))
    | wp_step)

theorem own_try {op : CmpOp} {Q : Value → Shared → Prop} (ho : Is2 op) (hu : A.units + 1 < cLine) (X : K.In s.heap) (I : InstAt s.heap x ox C od) (O : OwnQ K C f)
    (h : ∀ A' : Around, A' = A ∨ A' = A.in1 → wpAny (model prog w) A' (call (.ref f) [.ref x, y]) (fun v s' => ∃ b, v = .bool b ∧ Q (.bool (turn op b)) s') E s) :
    wpAny (model prog w) A (tryCompare (.ref x) (cmpInfo op).2.1 y) (fun r s' => ∃ v, r = some v ∧ Q v s') E s := by
  rcases ho with rfl | rfl
  · unfold tryCompare
    refine wpAny_bind (m := callSpecialIfBound? (.ref x) "__eq__" [y]) (ifBound_K X I O.eq O.fn (wpAny_mono (h A (.inl rfl)) (fun v s' hv => ?_) fun _ _ e => e))
    obtain ⟨b, rfl, hq⟩ := hv
    exact wpAny_pure ⟨_, rfl, hq⟩
  · unfold tryCompare
    refine wpAny_bind (m := callSpecialIfBound? (.ref x) "__ne__" [y]) (ifBound_objNe X I O.ne ?_)
    refine wpAny_call (codeAny_call_builtin F.cmp_object.ne.plain F.cmpEntry_ne (check_slot F.cmpKind_ne F.cmpSplit_ne (I.type.andThen (looks_mroIn X O.ob)) (F.cmpArgs_ne _ _) ?_))
    refine ne_entry (A := A.in1) hu X I O (wpAny_mono (h A.in1 (.inr rfl)) (fun v s' hv => ?_) fun _ _ e => e)
    obtain ⟨b, rfl, hq⟩ := hv
    first
      | exact ⟨b, rfl, wpAny_pure ⟨_, rfl, hq⟩⟩
      | exact ⟨b, rfl, wpAny_pure (wpAny_pure ⟨_, rfl, hq⟩)⟩
      | exact ⟨b, rfl, ⟨_, rfl, hq⟩⟩

theorem compareOp2 {op : CmpOp} (ho : Is2 op) (a b : Value) : compareOp op a b = richCompare op a b := by rcases ho with rfl | rfl <;> rfl

/-- the instance on the left -/
theorem rc_left {op : CmpOp} {tb : Value} {Q : Value → Shared → Prop} (ho : Is2 op) (hu : A.units + 1 < cLine) (X : K.In s.heap) (I : InstAt s.heap x ox C od) (O : OwnQ K C f) (hb : Looks (model prog w) s.heap (typeOf y) tb) (hn : notFirst K C tb = true)
    (h : ∀ A' : Around, A' = A ∨ A' = A.in1 → wpAny (model prog w) A' (call (.ref f) [.ref x, y]) (fun v s' => ∃ b, v = .bool b ∧ Q (.bool (turn op b)) s') E s) :
    wpAny (model prog w) A (richCompare op (.ref x) y) Q E s := by
  have one := own_try ho hu X I O h
  unfold richCompare
  simp only [oneThing_ref]
  refine wpAny_holding (wpAny_bind (wpAny_cRoomFor (Nat.lt_of_succ_lt hu) ?_))
  refine wpAny_bind (I.type.here (wpAny_bind (hb.here ?_)))
  split
  · rename_i q
    have e : subIn K tb (.ref C) = some false := by
      rcases Bool.or_eq_true_iff.mp hn with e | e
      · rw [beq_iff_eq.mp e] at q; simp at q
      · exact beq_iff_eq.mp e
    refine wpAny_bind ((looks_subIn X e).here ?_)
    simp only [Bool.false_eq_true, if_false]
    refine wpAny_bind (wpAny_mono one (fun r s' z => ?_) fun _ _ e => e)
    obtain ⟨v, rfl, hq⟩ := z
    exact wpAny_pure hq
  · refine wpAny_bind (wpAny_pure ?_)
    simp only [Bool.false_eq_true, if_false]
    refine wpAny_bind (wpAny_mono one (fun r s' z => ?_) fun _ _ e => e)
    obtain ⟨v, rfl, hq⟩ := z
    exact wpAny_pure hq

/-- the instance on the right, a value of a built-in type on the left -/
theorem rc_right {op : CmpOp} {T : String} {a : Value} {Q : Value → Shared → Prop} (ho : Is2 op) (hu : A.units + 1 < cLine) (X : K.In s.heap) (I : InstAt s.heap x ox C od) (O : OwnQ K C f) (ha : s.TypeIs a T) (hn : subIn K (.ref C) (.type T) = some false)
    (hne : (oneThing? op a (.ref x)) = none)
    (hd : Decl prog w A s op a (.ref x))
    (h : ∀ A' : Around, A' = A ∨ A' = A.in1 → wpAny (model prog w) A' (call (.ref f) [.ref x, a]) (fun v s' => ∃ b, v = .bool b ∧ Q (.bool (turn op b)) s') E s) :
    wpAny (model prog w) A (richCompare op a (.ref x)) Q E s := by
  have one := own_try ho hu X I O h
  have e2 : (cmpInfo op).2.2 = (cmpInfo op).2.1 := by rcases ho with rfl | rfl <;> rfl
  unfold richCompare
  simp only [hne]
  refine wpAny_holding (wpAny_bind (wpAny_cRoomFor (Nat.lt_of_succ_lt hu) ?_))
  refine wpAny_bind (wpAny_typeOf ha (wpAny_bind (I.type.here ?_)))
  have ne : (Value.type T != Value.ref C) = true := by simp
  simp only [ne, if_true]
  refine wpAny_bind ((looks_subIn X hn).here ?_)
  simp only [Bool.false_eq_true, if_false]
  refine wpAny_bind (m := tryCompare a (cmpInfo op).2.1 (.ref x)) (hd _ _ ?_)
  simp only [Bool.not_false, if_true]
  rw [e2]
  refine wpAny_bind (m := tryCompare (.ref x) (cmpInfo op).2.1 a) (wpAny_mono one (fun r s' z => ?_) fun _ _ e => e)
  obtain ⟨v, rfl, hq⟩ := z
  exact wpAny_pure hq
end
end OC

set_option Elab.async false
set_option linter.all false
set_option maxRecDepth 100000
set_option maxHeartbeats 4000000
namespace L2
open PySem PySem.Spec PyProof.Rows

/-- a foreign thing: its built-in type, its kind told by the heap -/
inductive Fo (K : PySem.W.Frag) (H : Hp) : V → String → Prop where
  | non : Fo K H .non "NoneType"
  | bl (b : Bool) : Fo K H (.bl b) "bool"
  | int (i : Int) : Fo K H (.int i) "int"
  | str (x : Str) : Fo K H (.str x) "str"
  | lst {a : Addr} {xs : List V} (e : H a = some (.lst xs)) : Fo K H (.ref a) "list"
  | tup {a : Addr} {xs : List V} (e : H a = some (.tup xs)) : Fo K H (.ref a) "tuple"
  | dK {a : Addr} {kvs : List (Key × V)} (e : H a = some (.dK kvs)) : Fo K H (.ref a) "dict"
theorem Fo.ty {K : PySem.W.Frag} {H : Hp} {x : V} {T : String} (h : Fo K H x T) : TyX K H x (.type T) := by
  cases h with
  | non => exact .base .non
  | bl b => exact .base (.bl b)
  | int i => exact .base (.int i)
  | str x => exact .base (.str x)
  | lst e => exact .base (.lst e)
  | tup e => exact .base (.tup e)
  | dK e => exact .base (.dK e)

/-- the class at C as far as == and != ask -/
structure OwnT (K : PySem.W.Frag) (C f : Addr) : Prop where
  q : OC.OwnQ K C f
  sint : PySem.W.subIn K (.ref C) (.type "int") = some false
  sbool : PySem.W.subIn K (.ref C) (.type "bool") = some false
  snon : PySem.W.subIn K (.ref C) (.type "NoneType") = some false
  sstr : PySem.W.subIn K (.ref C) (.type "str") = some false
  slst : PySem.W.subIn K (.ref C) (.type "list") = some false
  stup : PySem.W.subIn K (.ref C) (.type "tuple") = some false
  sdct : PySem.W.subIn K (.ref C) (.type "dict") = some false
theorem not_first {K : PySem.W.Frag} {C : Addr} {T : String} {l : List Value} (h : fastBuiltinMro T = some l) (hl : l.all (fun v => match v with | .type _ => true | _ => false) = true) : PySem.W.notFirst K C (.type T) = true := by
  unfold PySem.W.notFirst
  have e : PySem.W.subIn K (.type T) (.ref C) = some false := by
    show (fastBuiltinMro T).map (·.contains (.ref C)) = some false
    rw [h]
    show some (l.contains (.ref C)) = some false
    congr 1
    induction l with
    | nil => rfl
    | cons a r ih =>
      rw [List.all_cons, Bool.and_eq_true] at hl
      rw [List.contains_cons]
      have : (Value.ref C == a) = false := by
        cases a <;> first | rfl | (simp at hl)
        
      rw [this, Bool.false_or]
      clear h
      exact (by
        revert hl
        intro hl
        clear ih this
        have hl2 := hl.2
        clear hl
        induction r with
        | nil => rfl
        | cons b r ih2 =>
          rw [List.all_cons, Bool.and_eq_true] at hl2
          rw [List.contains_cons]
          have : (Value.ref C == b) = false := by
            cases b <;> first | rfl | (simp at hl2)
          rw [this, Bool.false_or]
          exact ih2 hl2.2)
  rw [e]
  simp
theorem Fo.nf {K : PySem.W.Frag} {H : Hp} {x : V} {T : String} {C : Addr} (h : Fo K H x T) : PySem.W.notFirst K C (.type T) = true := by
  cases h with
  | non => exact not_first (l := [.type "NoneType", .type "object"]) (by decide +kernel) (by decide +kernel)
  | bl b => exact not_first (l := [.type "bool", .type "int", .type "object"]) (by decide +kernel) (by decide +kernel)
  | int i => exact not_first (l := [.type "int", .type "object"]) (by decide +kernel) (by decide +kernel)
  | str x => exact not_first (l := [.type "str", .type "object"]) (by decide +kernel) (by decide +kernel)
  | lst e => exact not_first (l := [.type "list", .type "object"]) (by decide +kernel) (by decide +kernel)
  | tup e => exact not_first (l := [.type "tuple", .type "object"]) (by decide +kernel) (by decide +kernel)
  | dK e => exact not_first (l := [.type "dict", .type "object"]) (by decide +kernel) (by decide +kernel)
theorem Fo.sub {K : PySem.W.Frag} {H : Hp} {x : V} {T : String} {C f : Addr} (h : Fo K H x T) (O : OwnT K C f) : PySem.W.subIn K (.ref C) (.type T) = some false := by
  cases h with
  | non => exact O.snon
  | bl b => exact O.sbool
  | int i => exact O.sint
  | str x => exact O.sstr
  | lst e => exact O.slst
  | tup e => exact O.stup
  | dK e => exact O.sdct

section
variable {X : Cx} {pins : List (Addr × Obj)} {σ : St} {H : Hp} {s : Shared}
theorem Fo.typ {x : V} {u : Value} {T : String} (h : Fo X.K H x T) (I : Inv X pins σ H s) (r : RelV x u) : s.TypeIs u T := by
  cases h with
  | non => cases (show u = Value.none from r); rfl
  | bl b => cases (show u = Value.bool b from r); rfl
  | int i => obtain ⟨t, q⟩ := (show ∃ t, u = Value.int i t from r); cases q; rfl
  | str x => obtain ⟨t, q⟩ := (show ∃ t, u = Value.str x t from r); cases q; rfl
  | @lst a xs e =>
    cases (show u = Value.ref a from r)
    obtain ⟨_, _, n, _, h1⟩ := (show ObjOk X.prog X.w H s.heap a (.lst xs) from I.hok a _ e)
    exact ⟨_, h1, rfl⟩
  | @tup a xs e =>
    cases (show u = Value.ref a from r)
    obtain ⟨_, _, _, o, h1, h2, _⟩ := (show ObjOk X.prog X.w H s.heap a (.tup xs) from I.hok a _ e)
    exact ⟨o, h1, h2⟩
  | @dK a kvs e =>
    cases (show u = Value.ref a from r)
    obtain ⟨_, _, vs, _, o, es, ep, h1, h2, _⟩ := (show ObjOk X.prog X.w H s.heap a (.dK kvs) from I.hok a _ e)
    exact ⟨o, h1, h2.1⟩
theorem Fo.looks {x : V} {u : Value} {T : String} (h : Fo X.K H x T) (I : Inv X pins σ H s) (r : RelV x u) : PySem.W.Looks (model X.prog X.w) s.heap (typeOf u) (.type T) := by
  cases h with
  | non => cases (show u = Value.none from r); exact .of_pure rfl
  | bl b => cases (show u = Value.bool b from r); exact .of_pure rfl
  | int i => obtain ⟨t, q⟩ := (show ∃ t, u = Value.int i t from r); cases q; exact .of_pure rfl
  | str x => obtain ⟨t, q⟩ := (show ∃ t, u = Value.str x t from r); cases q; exact .of_pure rfl
  | @lst a xs e =>
    cases (show u = Value.ref a from r)
    obtain ⟨_, _, n, _, h1⟩ := (show ObjOk X.prog X.w H s.heap a (.lst xs) from I.hok a _ e)
    exact (PySem.W.Looks.ld h1).andThen .now
  | @tup a xs e =>
    cases (show u = Value.ref a from r)
    obtain ⟨_, _, _, o, h1, h2, _⟩ := (show ObjOk X.prog X.w H s.heap a (.tup xs) from I.hok a _ e)
    rw [← h2]
    exact (PySem.W.Looks.ld h1).andThen .now
  | @dK a kvs e =>
    cases (show u = Value.ref a from r)
    obtain ⟨_, _, vs, _, o, es, ep, h1, h2, _⟩ := (show ObjOk X.prog X.w H s.heap a (.dK kvs) from I.hok a _ e)
    rw [← h2.1]
    exact (PySem.W.Looks.ld h1).andThen .now
theorem Fo.one {x : V} {u : Value} {T : String} {op : CmpOp} {c : Addr} (h : Fo X.K H x T) (r : RelV x u) : oneThing? op u (.ref c) = none := by
  cases h with
  | non => cases (show u = Value.none from r); rfl
  | bl b => cases (show u = Value.bool b from r); rfl
  | int i => obtain ⟨t, q⟩ := (show ∃ t, u = Value.int i t from r); cases q; rfl
  | str x => obtain ⟨t, q⟩ := (show ∃ t, u = Value.str x t from r); cases q; rfl
  | @lst a xs e => cases (show u = Value.ref a from r); rfl
  | @tup a xs e => cases (show u = Value.ref a from r); rfl
  | @dK a kvs e => cases (show u = Value.ref a from r); rfl
theorem Fo.decl {A : Around} {x : V} {u : Value} {T : String} {op : CmpOp} {c C f : Addr} {ox : Obj} {od : Option Obj} (ho : OC.Is2 op) (h : Fo X.K H x T) (O : OwnT X.K C f) (I : Inv X pins σ H s) (r : RelV x u) (J : PySem.W.InstAt s.heap c ox C od) (hd : ox.data = .plain) :
    OC.Decl X.prog X.w A s op u (.ref c) := by
  cases h with
  | non => cases (show u = Value.none from r); exact OC.decl_none ho
  | bl b => cases (show u = Value.bool b from r); exact OC.decl_bool ho b J.at_ hd
  | int i => obtain ⟨t, q⟩ := (show ∃ t, u = Value.int i t from r); cases q; exact OC.decl_int ho i t J.at_ hd
  | str x => obtain ⟨t, q⟩ := (show ∃ t, u = Value.str x t from r); cases q; exact OC.decl_str ho x t J.at_ hd
  | @lst a xs e =>
    cases (show u = Value.ref a from r)
    obtain ⟨_, its, n, _, h1⟩ := (show ObjOk X.prog X.w H s.heap a (.lst xs) from I.hok a _ e)
    intro Q E hq
    rcases ho with rfl | rfl
    · exact wpAny_tryCompare_declines ⟨_, h1, rfl⟩ F.slot_list_eq (call_meets F.slot_list_eq ⟨_, h1, rfl⟩ F.entry_list_eq (F.args_list_eq_2 _ _) (OC.list_ref_eq a _ n _ _ c) ⟨fun M => OC.not_inst I.kIn J O.slst, h1, rfl, hq⟩)
    · exact wpAny_tryCompare_declines ⟨_, h1, rfl⟩ F.slot_list_ne (call_meets F.slot_list_ne ⟨_, h1, rfl⟩ F.entry_list_ne (F.args_list_ne_2 _ _) (OC.list_ref_ne a _ n _ _ c) ⟨fun M => OC.not_inst I.kIn J O.slst, h1, rfl, hq⟩)
  | @tup a xs e =>
    cases (show u = Value.ref a from r)
    obtain ⟨_, its, _, o, h1, h2, n, h3⟩ := (show ObjOk X.prog X.w H s.heap a (.tup xs) from I.hok a _ e)
    obtain ⟨oc, odd, dt, sl⟩ := o
    simp only at h2 h3
    subst h2 h3
    intro Q E hq
    rcases ho with rfl | rfl
    · exact wpAny_tryCompare_declines ⟨_, h1, rfl⟩ F.slot_tuple_eq (call_meets F.slot_tuple_eq ⟨_, h1, rfl⟩ F.entry_tuple_eq (F.args_tuple_eq_2 _ _) (OC.tup_ref_eq a _ n _ _ c) ⟨fun M => OC.not_inst I.kIn J O.stup, h1, rfl, hq⟩)
    · exact wpAny_tryCompare_declines ⟨_, h1, rfl⟩ F.slot_tuple_ne (call_meets F.slot_tuple_ne ⟨_, h1, rfl⟩ F.entry_tuple_ne (F.args_tuple_ne_2 _ _) (OC.tup_ref_ne a _ n _ _ c) ⟨fun M => OC.not_inst I.kIn J O.stup, h1, rfl, hq⟩)
  | @dK a kvs e =>
    cases (show u = Value.ref a from r)
    obtain ⟨_, _, vs, _, o, es, ep, h1, h2, _⟩ := (show ObjOk X.prog X.w H s.heap a (.dK kvs) from I.hok a _ e)
    intro Q E hq
    rcases ho with rfl | rfl
    · exact wpAny_tryCompare_declines ⟨_, h1, h2.1⟩ F.slot_dict_eq (call_meets F.slot_dict_eq ⟨_, h1, h2.1⟩ F.entry_dict_eq (F.args_dict_eq_2 _ _) (OC.dict_ref_eq a c h2) ⟨fun M => OC.not_inst I.kIn J O.sdct, h1, rfl, hq⟩)
    · exact wpAny_tryCompare_declines ⟨_, h1, h2.1⟩ F.slot_dict_ne (call_meets F.slot_dict_ne ⟨_, h1, h2.1⟩ F.entry_dict_ne (F.args_dict_ne_2 _ _) (OC.dict_ref_ne a c h2) ⟨fun M => OC.not_inst I.kIn J O.sdct, h1, rfl, hq⟩)

/-- what the own == promises: R tells its answer; nothing changes -/
def spOwn (R : Addr → V → Bool → Hp → Prop) : Sp := fun vs H Q _ => ∃ (a : Addr) (y : V) (b : Bool), vs = [.ref a, y] ∧ R a y b H ∧ Q (.bl b) H
/-- x == y, x != y, one of both an instance of the class at C -/
def rOwnB (K : PySem.W.Frag) (C : Addr) (R : Addr → V → Bool → Hp → Prop) (op : CmpOp) : R2 := fun x y H Q => ∃ b : Bool,
  ((∃ a dx fs, x = .ref a ∧ H a = some (.ins C dx fs) ∧ R a y b H ∧ ((∃ T, Fo K H y T) ∨ ∃ c dy gs, y = .ref c ∧ H c = some (.ins C dy gs))) ∨
    (∃ c dy gs T, y = .ref c ∧ H c = some (.ins C dy gs) ∧ Fo K H x T ∧ R c x b H)) ∧ Q (.bl (OC.turn op b)) H

theorem op_ownB {CX : CXT} {C f : Addr} {fd : FuncData} {ps : List Str} {n : Nat} {R : Addr → V → Bool → Hp → Prop} {E : XK} {op : CmpOp} (ho : OC.Is2 op) (F : FnOk X.prog X.w X.K X.mg X.base CX n f fd ps (spOwn R))
    (O : OwnT X.K C f) (hb : Binds X.K fd ps []) (hx : Passes CX X E) (hr : Room (n + 1) X.A) : OpR X (compareOp op) (rOwnB X.K C R op) := by
  intro pins s σ H x y v u Q I rx ry hq
  obtain ⟨b, hc, q⟩ := hq
  rw [OC.compareOp2 ho]
  have hu : X.A.units + 1 < cLine := hu_of hr
  -- the call of __eq__
  have run : ∀ (a : Addr) (y : V) (u : Value) (A' : Around), RelV y u → R a y b H → (A' = X.A ∨ A' = X.A.in1) →
      wpAny (model X.prog X.w) A' (call (.ref f) [.ref a, u]) (fun v s' => ∃ b, v = .bool b ∧ EP X pins σ Q (.bool (OC.turn op b)) s') X.xe s := by
    intro a y u A' ry hR hA
    have sb : Room n A' ∧ A'.frames = X.A.frames := by
      rcases hA with rfl | rfl
      · exact ⟨hr.mono (Nat.le_succ n), rfl⟩
      · exact ⟨hr.in1, rfl⟩
    have hsp : spOwn R [.ref a, y] H (fun v H' => v = .bl b ∧ H' = H) E := ⟨a, y, b, rfl, hR, rfl, rfl⟩
    have e0 : Env0 X.prog X.w X.K X.mg X.base A' X.stack s H := by
      have e := I.env0
      exact ⟨by rw [sb.2]; exact e.frames, e.mod, e.bs, e.bsz, e.funs, e.frf, e.hok, e.bare⟩
    have hl := F.len _ _ _ _ hsp
    have r2 : Vals [V.ref a, y] [Value.ref a, u] := .cons rfl (.cons ry .nil)
    refine wpAny_call (codeAny_mono (F.run A' X.stack s H ⟨[.ref a, u], []⟩ [.ref a, u] [.ref a, y] _ E sb.1 e0 (by
      have := hb s [.ref a, u] I.kIn (by simpa using hl)
      simpa using this) r2 hsp) fun r s' hq => ?_)
    cases r with
    | error e => exact hx pins σ H s e s' I hq
    | ok fl =>
      cases fl with
      | ret w =>
        obtain ⟨z, H', I', rz, ez, ex⟩ := I.after hq
        subst ez ex
        cases rz
        exact ⟨b, rfl, .bl (OC.turn op b), H', I', rfl, q⟩
      | next => exact False.elim hq
      | brk => exact False.elim hq
      | cont => exact False.elim hq
  rcases hc with ⟨a, dx, fs, rfl, ha, hR, hy⟩ | ⟨c, dy, gs, T, rfl, hc, hT, hR⟩
  · cases rx
    obtain ⟨mA, J, _⟩ := ins_get I.hok ha
    obtain ⟨od, J, _⟩ := J.look
    rcases hy with ⟨T, hT⟩ | ⟨c, dy, gs, rfl, hc⟩
    · exact OC.rc_left ho hu I.kIn J O.q (hT.looks I ry) hT.nf fun A' hA => run a y u A' ry hR hA
    · cases ry
      obtain ⟨mB, J', _⟩ := ins_get I.hok hc
      obtain ⟨od', J', _⟩ := J'.look
      exact OC.rc_left ho hu I.kIn J O.q J'.type (by simp [PySem.W.notFirst]) fun A' hA => run a (.ref c) _ A' rfl hR hA
  · cases ry
    obtain ⟨mA, J, _⟩ := ins_get I.hok hc
    obtain ⟨od, J, _⟩ := J.look
    exact OC.rc_right ho hu I.kIn J O.q (hT.typ I rx) (hT.sub O) (hT.one rx) (hT.decl ho O I rx J rfl) fun A' hA => run c x v A' rx hR hA
end
end L2

set_option Elab.async false
set_option linter.all false
set_option maxRecDepth 100000
set_option maxHeartbeats 4000000
/-! + - * with an instance of an own class: its own methods, on the left and on the right -/
namespace OA
open PySem PySem.SeqAt PySem.W Builtin PySem.Calls PyProof.Rows
section
variable {prog : Program} {w : World} {A : Around} {E : Value → Shared → Prop} {s : Shared} {K : Frag} {x C f g : Addr} {ox : Obj} {od : Option Obj} {nm sym : String}
/-- both of one class: the left one's method -/
theorem bin_twins {op : Operator} {b : Value} {Q : Value → Shared → Prop} (hi : op.info = (sym, nm)) (X : K.In s.heap) (I : InstAt s.heap x ox C od) (hc : selfFirst K C = true) (hs : findIn K (.ref C) (PySem.dunder nm) = some (some (.ref f))) (hf : isFn K (.ref f) = true)
    (hb : Looks (model prog w) s.heap (typeOf b) (.ref C)) (h : wpAny (model prog w) A (call (.ref f) [.ref x, b]) (PySem.W.CmpBack Q) E s) : wpAny (model prog w) A (binaryOp op (.ref x) b) Q E s := by
  obtain ⟨cd, rest, hcd, hm⟩ := ksp_first hc
  have one := ksp_try X I hs hf h
  obtain ⟨hp, gs, dd, tk, os⟩ := s
  have T1 : Looks (model prog w) hp (typeOf (.ref x)) (.ref C) := I.type
  have T2 : Looks (model prog w) hp (fillsNumberSlot (.ref C) nm) true := fills_K X hcd hm hs
  simp only [binaryOp, hi]
  refine wpAny_holding (wpAny_bind ?_)
  unfold binaryOp1
  refine wpAny_bind (T1.at (wpAny_bind (hb.at (wpAny_bind (T2.at ?_)))))
  have self : (Value.ref C == Value.ref C) = true := beq_iff_eq.mpr rfl
  simp only [self, if_true]
  ksp_lk
  refine wpAny_mono one (fun r s' hr => ?_) fun _ _ e => e
  obtain ⟨v, rfl, hq⟩ := hr
  ksp_lk
  exact hq
/-- an int on the right of an instance: the instance's method -/
theorem bin_left_int {op : Operator} {i : Int} {ti : Tok} {ro : Option Value} {Q : Value → Shared → Prop} (hi : op.info = (sym, nm)) (X : K.In s.heap) (I : InstAt s.heap x ox C od) (hc : selfFirst K C = true) (hs : findIn K (.ref C) (PySem.dunder nm) = some (some (.ref f))) (hf : isFn K (.ref f) = true)
    (hr : findIn K (.ref C) (dunderR nm) = some (some (.ref g))) (ho : findIn K (.type "int") (dunderR nm) = some ro) (hn : fillsNumberSlot (.type "int") nm = pure true) (hsub : subIn K (.type "int") (.ref C) = some false)
    (h : wpAny (model prog w) A (call (.ref f) [.ref x, .int i ti]) (PySem.W.CmpBack Q) E s) : wpAny (model prog w) A (binaryOp op (.ref x) (.int i ti)) Q E s := by
  obtain ⟨cd, rest, hcd, hm⟩ := ksp_first hc
  have one := ksp_try X I hs hf h
  obtain ⟨hp, gs, dd, tk, os⟩ := s
  have T1 : Looks (model prog w) hp (typeOf (.ref x)) (.ref C) := I.type
  have T2 : Looks (model prog w) hp (fillsNumberSlot (.ref C) nm) true := fills_K X hcd hm hs
  have T3 : Looks (model prog w) hp (typeOf (.int i ti)) (.type "int") := Looks.of_pure rfl
  have T4 : Looks (model prog w) hp (fillsNumberSlot (.type "int") nm) true := Looks.of_pure hn
  have T5 : Looks (model prog w) hp (isSubtype (.type "int") (.ref C)) false := looks_subIn X hsub
  have T6 : Looks (model prog w) hp (numberSlotInPython (.ref C) nm) true := ksp_inPy X hs hr (.inr ⟨_, rfl⟩)
  have T7 : Looks (model prog w) hp (numberSlotInPython (.type "int") nm) false := Looks.of_pure rfl
  have T8 : Looks (model prog w) hp (typeLookup (.type "int") (dunderR nm)) ro := looks_findIn X ho
  have other : (Value.ref C == Value.type "int") = false := Bool.eq_false_iff.mpr fun q => by cases beq_iff_eq.mp q
  simp only [binaryOp, hi]
  refine wpAny_holding (wpAny_bind ?_)
  unfold binaryOp1
  refine wpAny_bind (T1.at (wpAny_bind (T3.at (wpAny_bind (T2.at ?_)))))
  simp only [other, Bool.false_eq_true, if_false]
  ksp_lk
  refine wpAny_mono one (fun r s' hr => ?_) fun _ _ e => e
  obtain ⟨v, rfl, hq⟩ := hr
  ksp_lk
  exact hq
/-- an int on the left: its own method declines, then the instance's reflected one -/
theorem bin_right_int {op : Operator} {i : Int} {ti : Tok} {id : String} {Q : Value → Shared → Prop} (hi : op.info = (sym, nm)) (X : K.In s.heap) (I : InstAt s.heap x ox C od) (hc : selfFirst K C = true) (hs : findIn K (.ref C) (PySem.dunder nm) = some (some (.ref f)))
    (hr : findIn K (.ref C) (dunderR nm) = some (some (.ref g))) (hg : isFn K (.ref g) = true) (hn : fillsNumberSlot (.type "int") nm = pure true) (hsub : subIn K (.ref C) (.type "int") = some false) (sl : Slot "int" (PySem.dunder nm) id)
    (hd : ∀ (Q' : Value → Shared → Prop) (E' : Value → Shared → Prop), Q' .notImplemented s → wpAny (model prog w) A (call (.builtin id) [.int i ti, .ref x]) Q' E' s)
    (h : wpAny (model prog w) A (call (.ref g) [.ref x, .int i ti]) (PySem.W.CmpBack Q) E s) : wpAny (model prog w) A (binaryOp op (.int i ti) (.ref x)) Q E s := by
  obtain ⟨cd, rest, hcd, hm⟩ := ksp_first hc
  have two := ksp_try X I hr hg h
  have one : ∀ (Q' : Option Value → Shared → Prop) (E' : Value → Shared → Prop), Q' none s → wpAny (model prog w) A (tryMethod (.int i ti) (PySem.dunder nm) (.ref x)) Q' E' s := fun Q' E' q => wpAny_tryMethod_declines (typeIs_int s i ti) sl (hd _ _ ⟨rfl, q⟩)
  obtain ⟨hp, gs, dd, tk, os⟩ := s
  have T1 : Looks (model prog w) hp (typeOf (.ref x)) (.ref C) := I.type
  have T2 : Looks (model prog w) hp (fillsNumberSlot (.ref C) nm) true := fills_K X hcd hm hs
  have T3 : Looks (model prog w) hp (typeOf (.int i ti)) (.type "int") := Looks.of_pure rfl
  have T4 : Looks (model prog w) hp (fillsNumberSlot (.type "int") nm) true := Looks.of_pure hn
  have T5 : Looks (model prog w) hp (isSubtype (.ref C) (.type "int")) false := looks_subIn X hsub
  have T7 : Looks (model prog w) hp (numberSlotInPython (.type "int") nm) false := Looks.of_pure rfl
  have other : (Value.type "int" == Value.ref C) = false := Bool.eq_false_iff.mpr fun q => by cases beq_iff_eq.mp q
  simp only [binaryOp, hi]
  refine wpAny_holding (wpAny_bind ?_)
  unfold binaryOp1
  refine wpAny_bind (T3.at (wpAny_bind (T1.at (wpAny_bind (T4.at ?_)))))
  simp only [other, Bool.false_eq_true, if_false]
  ksp_lk
  refine one _ _ ?_
  ksp_lk
  refine wpAny_mono two (fun r s' hr => ?_) fun _ _ e => e
  obtain ⟨v, rfl, hq⟩ := hr
  ksp_lk
  exact hq
end
end OA

set_option Elab.async false
set_option linter.all false
set_option maxRecDepth 100000
set_option maxHeartbeats 4000000
namespace OA
open PySem PySem.SeqAt PySem.W Builtin
open AutoSeq1 (wpAny_loadPart')
open MeetsSeq MeetsSeq2 MeetsSeq3 SeqRoads2
section
variable {prog : Program} {w : World} {A : Around} {E : Value → Shared → Prop} {s : Shared} {x : Addr} {ox : Obj}
/-- the int's own method hands back NotImplemented at an instance -/
def Declines (id : String) : Prop := ∀ (prog : Program) (w : World) (A : Around) (s : Shared) (i : Int) (ti : Tok) (x : Addr) (ox : Obj), s.heap.get? x = some ox → ox.data = .plain → ∀ (Q E : Value → Shared → Prop), Q .notImplemented s → wpAny (model prog w) A (call (.builtin id) [.int i ti, .ref x]) Q E s
theorem at_add (b : Int) (u : Tok) {o : Obj} (hd : o.data = .plain) (l : Addr) : Meets (Builtin.«int.__add__» ⟨[.int b u, .ref l], []⟩) (fun _ R s => s.heap.get? l = some o ∧ R (.ok (.ret .notImplemented)) s) :=
  .of_wp fun prog w A R s h => by obtain ⟨cls, dd, data, sl⟩ := o; obtain ⟨hp, g, d, tk, os⟩ := s; obtain ⟨hl, h⟩ := h; simp only at hd; subst hd; wp_walk using wpAny_loadPart' hl, wpAny_load hl; exact ⟨_, rfl, h⟩
theorem at_sub (b : Int) (u : Tok) {o : Obj} (hd : o.data = .plain) (l : Addr) : Meets (Builtin.«int.__sub__» ⟨[.int b u, .ref l], []⟩) (fun _ R s => s.heap.get? l = some o ∧ R (.ok (.ret .notImplemented)) s) :=
  .of_wp fun prog w A R s h => by obtain ⟨cls, dd, data, sl⟩ := o; obtain ⟨hp, g, d, tk, os⟩ := s; obtain ⟨hl, h⟩ := h; simp only at hd; subst hd; wp_walk using wpAny_loadPart' hl, wpAny_load hl; exact ⟨_, rfl, h⟩
theorem at_mul (b : Int) (u : Tok) {o : Obj} (hd : o.data = .plain) (l : Addr) : Meets (Builtin.«int.__mul__» ⟨[.int b u, .ref l], []⟩) (fun _ R s => s.heap.get? l = some o ∧ R (.ok (.ret .notImplemented)) s) :=
  .of_wp fun prog w A R s h => by obtain ⟨cls, dd, data, sl⟩ := o; obtain ⟨hp, g, d, tk, os⟩ := s; obtain ⟨hl, h⟩ := h; simp only at hd; subst hd; wp_walk using wpAny_loadPart' hl, wpAny_load hl; exact ⟨_, rfl, h⟩
theorem dec_add : Declines "int.__add__" := fun prog w A s i ti x ox hx hd Q E q => call_meets F.slot_int_add (typeIs_int s i ti) F.entry_int_add (F.args_int_add_2 _ _) (at_add i ti hd x) ⟨hx, q⟩
theorem dec_sub : Declines "int.__sub__" := fun prog w A s i ti x ox hx hd Q E q => call_meets F.slot_int_sub (typeIs_int s i ti) F.entry_int_sub (F.args_int_sub_2 _ _) (at_sub i ti hd x) ⟨hx, q⟩
theorem dec_mul : Declines "int.__mul__" := fun prog w A s i ti x ox hx hd Q E q => call_meets F.slot_int_mul (typeIs_int s i ti) F.entry_int_mul (F.args_int_mul_2 _ _) (at_mul i ti hd x) ⟨hx, q⟩
end
end OA

set_option Elab.async false
set_option linter.all false
set_option maxRecDepth 100000
set_option maxHeartbeats 4000000
namespace L2
open PySem PySem.Spec PyProof.Rows
/-- the class's own method for op, at f -/
structure ArL (K : PySem.W.Frag) (C : Addr) (op : Operator) (sym nm : String) (f : Addr) : Prop where
  hi : op.info = (sym, nm)
  hc : PySem.W.selfFirst K C = true
  hs : PySem.W.findIn K (.ref C) (PySem.dunder nm) = some (some (.ref f))
  hf : PySem.W.isFn K (.ref f) = true
/-- its reflected one, at g, and what int says of the op -/
structure ArR (K : PySem.W.Frag) (C : Addr) (nm : String) (g : Addr) : Prop where
  hr : PySem.W.findIn K (.ref C) (dunderR nm) = some (some (.ref g))
  hg : PySem.W.isFn K (.ref g) = true
  ho : ∃ ro, PySem.W.findIn K (.type "int") (dunderR nm) = some ro
  hn : fillsNumberSlot (.type "int") nm = pure true
  up : PySem.W.subIn K (.type "int") (.ref C) = some false
  dn : PySem.W.subIn K (.ref C) (.type "int") = some false
  dec : ∃ id, Slot "int" (PySem.dunder nm) id ∧ OA.Declines id
theorem back_of {z : V} {u : Value} {Q : Value → Shared → Prop} {s : Shared} (r : RelV z u) (q : Q u s) : PySem.W.CmpBack Q u s := by
  cases z with
  | non => cases (show u = Value.none from r); exact q
  | bl b => cases (show u = Value.bool b from r); exact q
  | int i => obtain ⟨t, e⟩ := (show ∃ t, u = Value.int i t from r); cases e; exact q
  | str x => obtain ⟨t, e⟩ := (show ∃ t, u = Value.str x t from r); cases e; exact q
  | byt b => obtain ⟨t, e⟩ := (show ∃ t, u = Value.bytes b t from r); cases e; exact q
  | flt b => obtain ⟨t, e⟩ := (show ∃ t, u = Value.float b t from r); cases e; exact q
  | ref a => cases (show u = Value.ref a from r); exact q
  | ty n => cases (show u = Value.type n from r); exact q
/-- x op y: one of both at least an instance of the class at C, the other one too, or an int -/
def rAr (C : Addr) (spF spG : Sp) : R2 := fun x y H Q =>
  (∃ a dx fs, x = .ref a ∧ H a = some (.ins C dx fs) ∧ ((∃ i, y = .int i) ∨ ∃ c dy gs, y = .ref c ∧ H c = some (.ins C dy gs)) ∧ spF [x, y] H Q E0) ∨
    (∃ i c dy gs, x = .int i ∧ y = .ref c ∧ H c = some (.ins C dy gs) ∧ spG [y, x] H Q E0)
section
variable {X : Cx} {C f g : Addr} {sym nm : String} {fd gd : FuncData} {ps qs : List Str} {n n' : Nat} {spF spG : Sp} {op : Operator}
/-- a def of the text is called by an operator -/
theorem run_two {E : Value → Shared → Prop} {pins : List (Addr × Obj)} {s : Shared} {σ : St} {H : Hp} {x y : V} {v u : Value} {Q : VK} (F : FnOk X.prog X.w X.K X.mg X.base CX0 n f fd ps spF) (hb : Binds X.K fd ps []) (hr : Room n X.A) (I : Inv X pins σ H s) (rx : RelV x v) (ry : RelV y u) (hsp : spF [x, y] H Q E0) :
    wpAny (model X.prog X.w) X.A (call (.ref f) [v, u]) (PySem.W.CmpBack (EP X pins σ Q)) E s := by
  have hl := F.len _ _ _ _ hsp
  have r2 : Vals [x, y] [v, u] := .cons rx (.cons ry .nil)
  refine wpAny_call (codeAny_mono (F.run X.A X.stack s H ⟨[v, u], []⟩ [v, u] [x, y] _ E0 hr I.env0 (by
    have := hb s [v, u] I.kIn (by simpa using hl)
    simpa using this) r2 hsp) fun r s' hq => ?_)
  cases r with
  | error e => exact hq.elim
  | ok fl =>
    cases fl with
    | ret w =>
      obtain ⟨z, H', I', rz, q⟩ := I.after hq
      exact back_of rz ⟨z, H', I', rz, q⟩
    | next => exact False.elim hq
    | brk => exact False.elim hq
    | cont => exact False.elim hq
/-- an operator that lets nothing out -/
def OpN (X : Cx) (f : Value → Value → Sem Value) (r : R2) : Prop := ∀ (E : Value → Shared → Prop) (pins : List (Addr × Obj)) (s : Shared) (σ : St) (H : Hp) (x y : V) (v u : Value) (Q : VK), Inv X pins σ H s → RelV x v → RelV y u → r x y H Q → wpAny (model X.prog X.w) X.A (f v u) (EP X pins σ Q) E s
theorem OpN.toR {f : Value → Value → Sem Value} {r : R2} (h : OpN X f r) : OpR X f r := fun pins s σ H x y v u Q I rx ry q => h _ pins s σ H x y v u Q I rx ry q
theorem op_ar (L : ArL X.K C op sym nm f) (R : ArR X.K C nm g) (F : FnOk X.prog X.w X.K X.mg X.base CX0 n f fd ps spF) (hb : Binds X.K fd ps []) (hr : Room n X.A)
    (G : FnOk X.prog X.w X.K X.mg X.base CX0 n' g gd qs spG) (hbG : Binds X.K gd qs []) (hrG : Room n' X.A) : OpN X (binaryOp op) (rAr C spF spG) := by
  intro E pins s σ H x y v u Q I rx ry hq
  rcases hq with ⟨a, dx, fs, rfl, ha, hy, hsp⟩ | ⟨i, c, dy, gs, rfl, rfl, hc, hsp⟩
  · cases (show v = Value.ref a from rx)
    obtain ⟨mA, J, _⟩ := ins_get I.hok ha
    obtain ⟨od, J, _⟩ := J.look
    have go := run_two (E := E) F hb hr I rx ry hsp
    rcases hy with ⟨i, rfl⟩ | ⟨c, dy, gs, rfl, hc⟩
    · obtain ⟨ti, e⟩ := (show ∃ t, u = Value.int i t from ry)
      subst e
      obtain ⟨ro, ho⟩ := R.ho
      exact OA.bin_left_int L.hi I.kIn J L.hc L.hs L.hf R.hr ho R.hn R.up go
    · cases (show u = Value.ref c from ry)
      obtain ⟨mB, J', _⟩ := ins_get I.hok hc
      obtain ⟨od', J', _⟩ := J'.look
      exact OA.bin_twins L.hi I.kIn J L.hc L.hs L.hf J'.type go
  · cases (show u = Value.ref c from ry)
    obtain ⟨ti, e⟩ := (show ∃ t, v = Value.int i t from rx)
    subst e
    obtain ⟨mA, J, _⟩ := ins_get I.hok hc
    obtain ⟨od, J, _⟩ := J.look
    obtain ⟨id, sl, dec⟩ := R.dec
    exact OA.bin_right_int L.hi I.kIn J L.hc L.hs R.hr R.hg R.hn R.dn sl (fun Q' E' q => dec _ _ _ _ _ _ _ _ J.at_ rfl Q' E' q) (run_two G hbG hrG I ry rx hsp)
end
end L2

set_option Elab.async false
set_option linter.all false
set_option maxRecDepth 100000
set_option maxHeartbeats 4000000
namespace L2
open PySem PySem.Spec PyProof.Rows
def rArL (C : Addr) (spF : Sp) : R2 := fun x y H Q => ∃ a dx fs, x = .ref a ∧ H a = some (.ins C dx fs) ∧ ((∃ i, y = .int i) ∨ ∃ c dy gs, y = .ref c ∧ H c = some (.ins C dy gs)) ∧ spF [x, y] H Q E0
section
variable {X : Cx} {C f g : Addr} {sym nm : String} {fd : FuncData} {ps : List Str} {n : Nat} {spF : Sp} {op : Operator}
/-- the same with the instance on the left -/
theorem op_arL (L : ArL X.K C op sym nm f) (R : ArR X.K C nm g) (F : FnOk X.prog X.w X.K X.mg X.base CX0 n f fd ps spF) (hb : Binds X.K fd ps []) (hr : Room n X.A) : OpN X (binaryOp op) (rArL C spF) := by
  intro E pins s σ H x y v u Q I rx ry ⟨a, dx, fs, ex, ha, hy, hsp⟩
  subst ex
  cases (show v = Value.ref a from rx)
  obtain ⟨mA, J, _⟩ := ins_get I.hok ha
  obtain ⟨od, J, _⟩ := J.look
  have go := run_two (E := E) F hb hr I rx ry hsp
  rcases hy with ⟨i, rfl⟩ | ⟨c, dy, gs, rfl, hc⟩
  · obtain ⟨ti, e⟩ := (show ∃ t, u = Value.int i t from ry)
    subst e
    obtain ⟨ro, ho⟩ := R.ho
    exact OA.bin_left_int L.hi I.kIn J L.hc L.hs L.hf R.hr ho R.hn R.up go
  · cases (show u = Value.ref c from ry)
    obtain ⟨mB, J', _⟩ := ins_get I.hok hc
    obtain ⟨od', J', _⟩ := J'.look
    exact OA.bin_twins L.hi I.kIn J L.hc L.hs L.hf J'.type go
/-- -x: of an int, or by the class's own method -/
def rUnO (C : Addr) (spN : Sp) : V → Hp → VK → Prop := fun x H Q => (∃ i, x = .int i ∧ Q (.int (-i)) H) ∨ ∃ a dx fs, x = .ref a ∧ H a = some (.ins C dx fs) ∧ spN [x] H Q E0
theorem un_own (hs : PySem.W.findIn X.K (.ref C) "__neg__" = some (some (.ref f))) (hf : PySem.W.isFn X.K (.ref f) = true) (F : FnOk X.prog X.w X.K X.mg X.base CX0 n f fd ps spF) (hb : Binds X.K fd ps []) (hr : Room n X.A) : UnR X (unaryOp .USub) (rUnO C spF) := by
  intro pins s σ H x v Q I rx h
  rcases h with ⟨i, rfl, q⟩ | ⟨a, dx, fs, rfl, ha, hsp⟩
  · exact un_neg pins s σ H _ v Q I rx ⟨i, rfl, q⟩
  · cases (show v = Value.ref a from rx)
    obtain ⟨mA, J, _⟩ := ins_get I.hok ha
    obtain ⟨od, J, _⟩ := J.look
    have hl := F.len _ _ _ _ hsp
    have r2 : Vals [V.ref a] [Value.ref a] := .cons rfl .nil
    unfold unaryOp
    refine wpAny_holding (wpAny_bind (PySem.W.special_fn I.kIn J hs (beq_iff_eq.mp hf) (wpAny_call (codeAny_mono (F.run X.A X.stack s H ⟨[.ref a], []⟩ [.ref a] [.ref a] _ E0 hr I.env0 (by
      have := hb s [.ref a] I.kIn (by simpa using hl)
      simpa using this) r2 hsp) fun r s' hq => ?_))))
    cases r with
    | error e => exact hq.elim
    | ok fl =>
      cases fl with
      | ret w =>
        obtain ⟨z, H', I', rz, q⟩ := I.after hq
        exact wpAny_pure ⟨z, H', I', rz, q⟩
      | next => exact False.elim hq
      | brk => exact False.elim hq
      | cont => exact False.elim hq
end
end L2

set_option Elab.async false
set_option linter.all false
set_option maxRecDepth 100000
set_option maxHeartbeats 4000000
/-! sum(row, start=share): a row of numbers of which some are instances of an own class -/
namespace L2
open PySem PySem.Spec PyProof.Rows
def Cx.inn (X : Cx) : Cx := { X with A := X.A.in1 }
section
variable {X : Cx} {pins : List (Addr × Obj)} {σ : St} {H : Hp} {s : Shared}
theorem Inv.inn (I : Inv X pins σ H s) : Inv X.inn pins σ H s :=
  ⟨⟨I.ok.mod, I.ok.kind, I.ok.glob, I.ok.blt, I.ok.above, I.ok.inj, I.ok.has, I.ok.cab, I.ok.hd, I.ok.frames, I.ok.stk, I.ok.exf, I.ok.bs, I.ok.bsz, I.ok.noex, I.ok.exfs, I.ok.funs, I.ok.frf⟩, I.os, I.bare, I.base, I.loc, I.cell, I.free, I.freeC, I.pin, I.hok, I.len⟩
theorem Inv.outn (I : Inv X.inn pins σ H s) (ok : X.Ok) : Inv X pins σ H s := ⟨ok, I.os, I.bare, I.base, I.loc, I.cell, I.free, I.freeC, I.pin, I.hok, I.len⟩
/-- the state of the sum: a list of the one total -/
def sumSt (v : Value) (c : Nat) : Obj := { cls := .type "list", dict := none, data := .seq #[v] c, slots := #[] }
theorem sum_turns {rA : R2} {l it S : Addr} {xs : List V} {Q : VK} (hc : X.calm = true) (op : OpN X.inn (binaryOp .Add) rA) (Pv : Nat → V → Hp → Prop) (own : ∀ i acc H, Pv i acc H → ∃ a, acc = .ref a) (row : ∀ i acc H, i ≤ xs.length → Pv i acc H → SqT X.K H l xs)
    (step : ∀ i acc x H, xs[i]? = some x → Pv i acc H → rA acc x H (Pv (i + 1))) (fin : ∀ acc H, Pv xs.length acc H → Q acc H) (ne : it ≠ S) :
    ∀ (k i : Nat) (acc : V) (v : Value) (c : Nat) (H : Hp) (s : Shared), xs.length - i = k → i ≤ xs.length → Inv X pins σ H s → RelV acc v → Pv i acc H → s.heap.IsTupleIter it l i → s.heap.get? S = some (sumSt v c) → FpOk X pins H it → FpOk X pins H S →
      codeAny (model X.prog X.w) X.A (.builtin "sum.loop" ⟨[.ref it, .ref S, rawInt 2, rawInt 0], []⟩) (fun r s' => match r with | .ok (.ret v) => EP X pins σ Q v s' | .ok _ => False | .error e => X.xe e s') s := by
  intro k
  induction k with
  | zero =>
    intro i acc v c H s hk hi I rv pv st hS fi fS
    have e : i = xs.length := by omega
    subst e
    obtain ⟨a, rfl⟩ := own _ _ _ pv
    obtain rfl : v = Value.ref a := rv
    obtain ⟨its, ri, pl, hz⟩ := I.tuple (row _ _ _ hi pv)
    have hl := ri.length
    obtain ⟨f0, f1, f2, f3, f4, f5⟩ := fi
    refine codeAny_builtin F.entry_sum_loop ?_
    rw [Around.under_plainId F.plain_sum_loop _]
    show wpAny _ X.A.in1 (seqItems? (.ref S) >>= _) _ _ s
    refine wpAny_bind (wpAny_seqItems hS rfl ?_)
    show wpAny _ X.A.in1 (tryCatch (pyNext (.ref it)) _ >>= _) _ _ s
    refine wpAny_bind (wpAny_tryCatch (wpAny_pyNext_tuple_end (I.ok.hd hc) st (show s.heap.IsTuple l its.toArray from pl) (by simp; omega) fun h' eb => ?_))
    exact wpAny_pure ⟨.ref a, H, I.turned (t' := s.toks) (fun b o hb e => eb b o hb e) f0 f1 f3 f4 f5, rfl, fin _ _ pv⟩
  | succ k ih =>
    intro i acc v c H s hk hi I rv pv st hS fi fS
    have hlt : i < xs.length := by omega
    obtain ⟨a, rfl⟩ := own _ _ _ pv
    obtain rfl : v = Value.ref a := rv
    have hx : xs[i]? = some xs[i] := by simp [hlt]
    obtain ⟨its, ri, pl, hz⟩ := I.tuple (row _ _ _ hi pv)
    obtain ⟨u, hu, ru⟩ := ri.get hx
    have go := step i (.ref a) xs[i] H hx pv
    generalize xs[i] = x at go ru
    obtain ⟨f0, f1, f2, f3, f4, f5⟩ := id fi
    obtain ⟨g0, g1, g2, g3, g4, g5⟩ := id fS
    refine codeAny_builtin F.entry_sum_loop ?_
    rw [Around.under_plainId F.plain_sum_loop _]
    show wpAny _ X.A.in1 (seqItems? (.ref S) >>= _) _ _ s
    refine wpAny_bind (wpAny_seqItems hS rfl ?_)
    show wpAny _ X.A.in1 (tryCatch (pyNext (.ref it)) _ >>= _) _ _ s
    refine wpAny_bind (wpAny_tryCatch (wpAny_pyNext_tuple_item st (show s.heap.IsTuple l its.toArray from pl) (x := u) (by simpa using hu) fun h' st' sb => ?_))
    have I1 : Inv X pins σ H { s with heap := h' } := I.turned (t' := s.toks) (fun b o hb e => (sb.2 b hb).trans e) f0 f1 f3 f4 f5
    have hS1 : h'.get? S = some (sumSt (.ref a) c) := (sb.2 S (Ne.symm ne)).trans hS
    obtain ⟨oi, ei, ci, di⟩ := id st'
    have I2 : Inv X (pins ++ [(it, oi), (S, sumSt (.ref a) c)]) σ H { s with heap := h' } := I1.pins_of fun p hp => by
      rcases List.mem_append.mp hp with hp | hp
      · exact I1.pin p (List.mem_append_right _ hp)
      · rcases List.mem_cons.mp hp with rfl | hp
        · exact ⟨ei, f0, f1, f2, fun v z => by rw [di] at z; cases z⟩
        · rw [List.mem_singleton.mp hp]
          exact ⟨hS1, g0, g1, g2, fun v z => by cases z⟩
    show wpAny _ X.A.in1 ((holding [u] (binaryOp .Add (.ref a) u)).attempt >>= _) _ _ _
    refine wpAny_bind (wpAny_attempt (wpAny_holding (wpAny_mono (op (fun _ _ => False) _ _ σ H (.ref a) x (.ref a) u _ I2.inn rfl ru go) (fun w s2 q => ?_) (fun e s2 z => z.elim))))
    obtain ⟨z, H2, I3, rz, pv2⟩ := q
    have I4 : Inv X (pins ++ [(it, oi), (S, sumSt (.ref a) c)]) σ H2 s2 := I3.outn I.ok
    obtain ⟨ki, ni, _⟩ := I4.pin (it, oi) (List.mem_append_right _ (List.mem_append_right _ List.mem_cons_self))
    obtain ⟨kS, nS, _⟩ := I4.pin (S, sumSt (.ref a) c) (List.mem_append_right _ (List.mem_append_right _ (List.mem_cons_of_mem _ List.mem_cons_self)))
    obtain ⟨a2, rfl⟩ := own _ _ _ pv2
    obtain rfl : w = Value.ref a2 := rz
    have I5 : Inv X pins σ H2 s2 := I4.unpinned
    show wpAny _ X.A.in1 (updateSeq S (fun _ => #[Value.ref a2]) >>= _) _ _ _
    refine wpAny_bind (wpAny_updateSeq kS rfl ?_)
    have hS₂ := Heap.get?_update_self (Obj.mapSeq fun _ => #[Value.ref a2]) kS rfl
    refine wpAny_bind (wpAny_letGo ?_)
    refine wpAny_bind (wpAny_updateSeq hS₂ rfl ?_)
    have hS3 := Heap.get?_update_self (Obj.mapSeq fun _ => #[Value.ref a2]) hS₂ rfl
    have oth : ∀ (b : Addr) (o : Obj), b ≠ S → s2.heap.get? b = some o → ((s2.heap.update S (Obj.mapSeq fun _ => #[Value.ref a2])).update S (Obj.mapSeq fun _ => #[Value.ref a2])).get? b = some o := fun b o hb e =>
      (Heap.get?_update_other _ _ (Ne.symm hb)).trans ((Heap.get?_update_other _ _ (Ne.symm hb)).trans e)
    have I6 : Inv X pins σ H2 { s2 with heap := (s2.heap.update S (Obj.mapSeq fun _ => #[Value.ref a2])).update S (Obj.mapSeq fun _ => #[Value.ref a2]) } := I5.turned (t' := s2.toks) oth nS g1 g3 g4 g5
    refine wpAny_pure ⟨plainId_quiet F.plain_sum_loop _, ih (i + 1) (.ref a2) (.ref a2) c H2 _ (by omega) hlt I6 rfl pv2 ⟨oi, oth it oi ne ki, by obtain ⟨o', e', c', d'⟩ := st'; rw [ei] at e'; cases e'; exact ⟨c', d'⟩⟩ hS3 ⟨ni, f1, f2, f3, f4, f5⟩ ⟨nS, g1, g2, g3, g4, g5⟩⟩
/-- a class that is no text -/
structure NoTxt (K : PySem.W.Frag) (C : Addr) : Prop where
  str : PySem.W.subIn K (.ref C) (.type "str") = some false
  byt : PySem.W.subIn K (.ref C) (.type "bytes") = some false
  bar : PySem.W.subIn K (.ref C) (.type "bytearray") = some false
/-- sum(row, start=an instance): Pv tells the total behind i items -/
def rSumO (K : PySem.W.Frag) (rA : R2) : List V → List V → Hp → VK → Prop := fun xs zs H Q => ∃ (l a C dx : Addr) (fs : List (Str × V)) (row : List V), xs = [.ref l] ∧ zs = [.ref a] ∧ H a = some (.ins C dx fs) ∧ NoTxt K C ∧
  ∃ Pv : Nat → V → Hp → Prop, Pv 0 (.ref a) H ∧ (∀ i acc H', Pv i acc H' → ∃ b, acc = .ref b) ∧ (∀ i acc H', i ≤ row.length → Pv i acc H' → SqT K H' l row) ∧ (∀ i acc x H', row[i]? = some x → Pv i acc H' → rA acc x H' (Pv (i + 1))) ∧ ∀ acc H', Pv row.length acc H' → Q acc H'
theorem argsOk_sum (a b : Value) : argsOk "sum" ⟨[a], [(Str.ofString "start", b)]⟩ := by
  unfold argsOk
  kernel_rfl
theorem cr_sumO {rA : R2} (hc : X.calm = true) (op : OpN X.inn (binaryOp .Add) rA) : CallRK X (.builtin "sum") [Str.ofString "start"] (rSumO X.K rA) := by
  intro pins s σ H xs zs us ws Q I r rz h
  obtain ⟨l, a, C, dx, fs, row, rfl, rfl, ha, nt, Pv, p0, own, kept, step, fin⟩ := h
  obtain rfl := Vals.ref1 r
  obtain rfl := Vals.ref1 rz
  obtain ⟨its, ri, pl, hz⟩ := I.tuple (kept 0 _ _ (Nat.zero_le _) p0)
  obtain ⟨mA, J, _⟩ := ins_get I.hok ha
  obtain ⟨od, J, _⟩ := J.look
  have n1 : ∀ M : Model, PySem.W.Looks M s.heap (isInstance (.ref a) (.type "str")) false := fun M => OC.not_inst I.kIn J nt.str
  have n2 : ∀ M : Model, PySem.W.Looks M s.heap (isInstance (.ref a) (.type "bytes")) false := fun M => OC.not_inst I.kIn J nt.byt
  have n3 : ∀ M : Model, PySem.W.Looks M s.heap (isInstance (.ref a) (.type "bytearray")) false := fun M => OC.not_inst I.kIn J nt.bar
  refine wpAny_call (codeAny_call_builtin F.plain_sum F.entry_sum ?_)
  have body : wpAny (model X.prog X.w) X.A.in1 (Builtin.«sum» ⟨[.ref l], [(Str.ofString "start", .ref a)]⟩) (fun fin s' => match fin with
      | .done f => (match (Except.ok f : Result) with | .ok (.ret v) => EP X pins σ Q v s' | .ok _ => False | .error e => X.xe e s')
      | .again c' => c'.quiet = true ∧ codeAny (model X.prog X.w) X.A c' (fun r s' => match r with | .ok (.ret v) => EP X pins σ Q v s' | .ok _ => False | .error e => X.xe e s') s') X.xe s := by
    unfold Builtin.«sum»
    simp only [List.length_cons, List.length_nil]
    rw [if_neg (by decide)]
    refine wpAny_bind (wpAny_of_eq (show Builtin.Builtins.bindParams "sum" ["start"] 0 ⟨[], [(Str.ofString "start", .ref a)]⟩ = pure [some (.ref a)] from rfl) ?_)
    refine wpAny_bind (wpAny_pyIter_tuple (show s.heap.IsTuple l its.toArray from pl) ?_)
    have up : ∀ b o, s.heap.get? b = some o → (s.heap.push { cls := .type "tuple_iterator", data := .fields #[.ref l, .int 0 0] }).get? b = some o := fun b o e => Heap.get?_push_of_some _ e
    refine wpAny_bind (wpAny_pure ?_)
    simp only [List.forIn_cons, List.forIn_nil]
    refine wpAny_bind (wpAny_bind (wpAny_bind (n1 _ _ _ _ _ up ?_)))
    simp only [Bool.false_eq_true, if_false]
    refine wpAny_pure (wpAny_bind (wpAny_bind (n2 _ _ _ _ _ up ?_)))
    simp only [Bool.false_eq_true, if_false]
    refine wpAny_pure (wpAny_bind (wpAny_bind (n3 _ _ _ _ _ up ?_)))
    simp only [Bool.false_eq_true, if_false]
    refine wpAny_pure (wpAny_pure ?_)
    refine wpAny_bind (wpAny_newObj_type ?_)
    have I1 : Inv X pins σ H { s with heap := s.heap.push { cls := .type "tuple_iterator", data := .fields #[.ref l, .int 0 0] } } := I.kept (t' := s.toks) up
    have sz1 : (s.heap.push { cls := .type "tuple_iterator", data := .fields #[.ref l, .int 0 0] }).objs.size = s.heap.objs.size + 1 := Heap.size_push ..
    have up2 : ∀ b o, (s.heap.push { cls := .type "tuple_iterator", data := .fields #[.ref l, .int 0 0] }).get? b = some o → ((s.heap.push { cls := .type "tuple_iterator", data := .fields #[.ref l, .int 0 0] }).push { cls := .type "list", dict := none, data := .seq #[.ref a] 0 }).get? b = some o := fun b o e => Heap.get?_push_of_some _ e
    have I2 := I1.kept (t' := s.toks) up2
    have le1 : s.heap.objs.size ≤ (s.heap.push { cls := .type "tuple_iterator", data := .fields #[.ref l, .int 0 0] }).objs.size := by rw [sz1]; exact Nat.le_succ _
    exact wpAny_pure ⟨plainId_quiet F.plain_sum_loop _, sum_turns hc op Pv own kept step fin (by show s.heap.objs.size ≠ _; rw [sz1]; exact Nat.ne_of_lt (Nat.lt_succ_self _)) row.length 0 (.ref a) (.ref a) 0 H _ rfl (Nat.zero_le _) I2 rfl p0
      ⟨_, up2 _ _ (Heap.get?_push_size _ rfl), rfl, rfl⟩ (Heap.get?_push_size _ rfl) (I.fpOk (Nat.le_refl _) (I.hok.fresh (Nat.le_refl _))) (I.fpOk le1 (I.hok.fresh le1))⟩
  simp only [checkBuiltinCall, F.kind_sum]
  cases hsig : Manifest.signature? "sum" with
  | none => exact wpAny_pure body
  | some sig =>
    have ha' : Bind.checkArgs "sum" sig ⟨[.ref l], [(Str.ofString "start", .ref a)]⟩ = pure () := by simpa only [argsOk, hsig] using argsOk_sum (.ref l) (.ref a)
    simp only [List.zip_cons_cons, List.zip_nil_right, ha']
    exact wpAny_pure body
end
end L2

set_option Elab.async false
set_option linter.all false
set_option maxRecDepth 100000
set_option maxHeartbeats 4000000
namespace L2
open PySem PySem.Spec PyProof.Rows
/-- what clauses «except c as n» wish, from the first: each serves what it fits -/
def wAsM (K : PySem.W.Frag) (D : Ends) : List (Value × Nat × (Addr → Value → Option Addr → TS)) → WX
  | [] => fun _ _ _ _ => False
  | (c, i, ts) :: r => fun cls d σ H => (PySem.W.exmOne K cls c = some true ∧ ∀ a, H a = none → ts a cls d { nx := fun σ' H' => D.nx (σ'.set i none) H', rt := D.rt, bk := fun σ' H' => D.bk (σ'.set i none) H', ct := fun σ' H' => D.ct (σ'.set i none) H' } (σ.set i (some (.ref a))) H) ∨
      (PySem.W.exmOne K cls c = some false ∧ wAsM K D r cls d σ H)
inductive HdsAs (X : Cx) : List ExceptHandler → List (Value × Nat × (Addr → Value → Option Addr → TS)) → Prop where
  | nil : HdsAs X [] []
  | cons {x n : Str} {c : Value} {i : Nat} {ts : Addr → Value → Option Addr → TS} {b₀ : Stmt} {suite : List Stmt} {np pos' : Pos} {hds : List ExceptHandler} {l : List (Value × Nat × (Addr → Value → Option Addr → TS))} (hi : X.N[i]? = some n) (hln : X.env.kindOf n = some .local) (hc : Names X x c)
      (hsu : ∀ (a : Addr) (oe : Obj) (cls : Value) (d : Option Addr) (pn : List (Addr × Obj)), Zc cls d oe → (∃ vs, oe.data = .fields vs) → PSs (X.suite a ((a, oe) :: pn)) (b₀ :: suite) (ts a cls d)) (r : HdsAs X hds l) : HdsAs X (.ExceptHandler (some (.Name x np)) (some n) (b₀ :: suite) pos' :: hds) ((c, i, ts) :: l)
section
variable {X : Cx} {body : List Stmt} {h₀ : ExceptHandler} {hds : List ExceptHandler} {l : List (Value × Nat × (Addr → Value → Option Addr → TS))} {pos : Pos} {tb : WX → TS}
theorem ps_try_asM (hs : X.stack = X.env :: X.outer) (hf : X.env.frame = some X.env.locals) (hN : X.N.Nodup)
    (hb : ∀ (W : WX) (pn : List (Addr × Obj)) (xe : Value → Shared → Prop), Takes (X.tr pn xe) W → PSs (X.tr pn xe) body (tb W)) (hh : HdsAs X (h₀ :: hds) l) : PS X (.Try body (h₀ :: hds) [] [] pos) (fun D σ H => tb (wAsM X.K D l) D σ H) := by
  refine ⟨fun pins s σ H D I h => wpAny_Try_except ?_⟩
  have ok := I.ok
  have catch_ : ∀ (a : Addr) (B : Heap) (sI s' : Shared) (σ' : St) (H' : Hp) (cls : Value) (d : Option Addr), Inv X pins σ' H' sI → (∀ b o, sI.heap.get? b = some o → b ∉ frs X.stack → B.get? b = some o) → sI.heap.UpToSlots s'.heap →
      Sky B X.stack a (Zc cls d) X.env.locals s'.heap → H' a = none → s'.os = sI.os → AllBare s'.gens → wAsM X.K D l cls d σ' H' →
      wpAny (model X.prog X.w) X.A (noteFrame (.ref a) X.env) (fun _ s₂ => wpAny (model X.prog X.w) X.A (setFlight (.ref a) none) (fun _ s₃ => wpAny (model X.prog X.w) X.A (handleBy (.ref a) X.env (h₀ :: hds)) (SP X pins D) X.xe s₃) X.xe s₂) X.xe s' := by
    intro a B sI s' σ' H' cls d J nb up sky na os ag go
    refine Sky.land (outer := X.outer) (L := X.env.locals) Zc.steady (by rw [ok.frames, hs]) hf (by rw [← hs]; exact sky) fun h3 fl up3 => ?_
    have J3 : Inv X pins σ' H' { s' with heap := h3 } := J.landed nb fl.1 (up.trans up3) os ag
    have off : a ∉ frs (X.env :: X.outer) := fun hm2 => by
      obtain ⟨oe, vs, e1, _, e2⟩ := fl.there
      obtain ⟨_, o', e3, hnf⟩ := fl.2.2.1.mem hm2
      rw [e1] at e3
      cases e3
      exact hnf _ e2
    have nL : a ≠ X.env.locals := fun z => off (List.mem_filterMap.mpr ⟨X.env, List.mem_cons_self, by rw [hf, z]⟩)
    have nF : a ∉ X.fs := fun hm2 => by
      obtain ⟨v, h1, h2⟩ := List.mem_filterMap.mp hm2
      exact off (List.mem_filterMap.mpr ⟨v, List.mem_cons_of_mem _ h1, h2⟩)
    obtain ⟨o3, v3, at3, z3, dt3⟩ := fl.there
    have S3 := J3.suite at3 dt3 na nL nF
    have ty : PySem.W.Looks (model X.prog X.w) h3 (typeOf (.ref a)) cls := fun A Q E s k q => wpAny_typeOf_ref (k _ _ at3) (by rw [z3.1]; exact q)
    have turn : ∀ {hs' : List ExceptHandler} {l' : List (Value × Nat × (Addr → Value → Option Addr → TS))}, HdsAs X hs' l' → wAsM X.K D l' cls d σ' H' → wpAny (model X.prog X.w) X.A (handleBy (.ref a) X.env hs') (SP X pins D) X.xe { s' with heap := h3 } := by
      intro hs' l' hk
      induction hk with
      | nil => intro z; exact z.elim
      | @cons x n c i ts b₀ suite np pos' hds2 l2 hi hln hc hsu r ih =>
        intro z
        have name : ∀ {Q E : Value → Shared → Prop}, Q c { s' with heap := h3 } → wpAny (model X.prog X.w) (X.A.mark (some (.ref a))) (eval (.Name x np) X.env) Q E { s' with heap := h3 } := fun {Q E} q => by
          rcases hc with ⟨g, db, m | ⟨m, v, nn⟩⟩
          · exact ld_glob (X := X.suite a ((a, o3) :: (X.pn ++ pins))) S3 g m q db
          · exact ld_blt (X := X.suite a ((a, o3) :: (X.pn ++ pins))) S3 g m v q nn db
        refine wpAny_handleBy_cons (codeAny_handlers_test ?_) (by intro q; cases q)
        rcases z with ⟨hm, go⟩ | ⟨hm, w⟩
        · have fits := PySem.W.exm_one (M := model X.prog X.w) J3.kIn ty hm
          refine name (fits.here (codeAny_handlers_suite_as (HandSPX.lands_againZ fl fun h4 fl4 up4 => ?_)))
          have J4 : Inv X pins σ' H' { s' with heap := h4 } := J.landed nb fl4.1 ((up.trans up3).trans up4) os ag
          obtain ⟨o4, v4, at4, z4, dt4⟩ := fl4.there
          refine store_ok (X := X.suite a ((a, o4) :: (X.pn ++ pins))) (v := .ref a) (J4.suite at4 dt4 na nL nF) hN hi (.inl hln) rfl (fun s5 S5 => ?_) (.inr hln)
          refine wpAny_mono ((hsu a o4 cls d (X.pn ++ pins) z4 ⟨_, dt4⟩).run [] s5 _ H' _ S5 (go a na)) (fun f s6 q => ?_) (fun _ _ z => z.elim)
          cases f with
          | next =>
            obtain ⟨σ6, H6, S6, q6⟩ := q
            exact gone_ok (S6.unsuite ok) hN hi hln fun s7 J7 => ⟨_, _, J7, q6⟩
          | brk =>
            obtain ⟨σ6, H6, S6, q6⟩ := q
            exact gone_ok (S6.unsuite ok) hN hi hln fun s7 J7 => ⟨_, _, J7, q6⟩
          | cont =>
            obtain ⟨σ6, H6, S6, q6⟩ := q
            exact gone_ok (S6.unsuite ok) hN hi hln fun s7 J7 => ⟨_, _, J7, q6⟩
          | ret r =>
            obtain ⟨v6, σ6, H6, S6, r6, q6⟩ := q
            exact gone_ok (S6.unsuite ok) hN hi hln fun s7 J7 => ⟨_, _, _, J7, r6, q6⟩
        · have fits := PySem.W.exm_one (M := model X.prog X.w) J3.kIn ty hm
          refine name (fits.here ?_)
          show wpAny _ X.A (handleBy (.ref a) X.env hds2) _ _ _
          exact ih w
    exact turn hh go
  refine wpAny_mono ((hb (wAsM X.K D l) (X.pn ++ pins) _ fun e s' xx => ?_).run [] s σ H D (I.toTry _) h) (fun f s1 q => ?_) (fun e s1 z => z)
  · obtain ⟨a, B, sI, pins', σ', H', cls, d, rfl, J', nb, up, sky, na, os, ag, go⟩ := xx
    exact catch_ a B sI s' σ' H' cls d (J'.ofTry ok) nb up sky na os ag go
  · cases f with
    | next =>
      obtain ⟨σ', H', J', q'⟩ := q
      exact wpAny_execs_nil ⟨σ', H', J'.ofTry ok, q'⟩
    | brk =>
      obtain ⟨σ', H', J', q'⟩ := q
      exact ⟨σ', H', J'.ofTry ok, q'⟩
    | cont =>
      obtain ⟨σ', H', J', q'⟩ := q
      exact ⟨σ', H', J'.ofTry ok, q'⟩
    | ret r =>
      obtain ⟨v, σ', H', J', r', q'⟩ := q
      exact ⟨v, σ', H', J'.ofTry ok, r', q'⟩
end
end L2

set_option Elab.async false
set_option linter.all false
set_option maxRecDepth 100000
set_option maxHeartbeats 4000000
namespace K3
open PySem L2
def top (i : Nat) : Stmt := PySem.Challenge.pw_bothwalks_k03_spreads_and_the_place_of_a.main.body.getD i (.Pass ⟨0, 0, 0, 0⟩)

/-- a def of the text that stands, is kept and keeps its promise; nothing leaves it -/
structure Cal (P : Program) (w : World) (K : PySem.W.Frag) (mg : Str → Option Value) (base : Heap) (k : Nat) (x : Str) (ps : List Str) (sp : Sp) : Prop where
  ex : ∃ (f : Addr) (fd : FuncData), mg x = some (.ref f) ∧ PySem.W.keepIn K (.ref f) = true ∧ FnOk P w K mg base CX0 k f fd ps sp ∧ Binds K fd ps []
section
variable {X : Cx} {k : Nat} {ps : List Str} {sp : Sp} {x : Str} {p pos : Pos} {e : Expr} {es : List Expr} {t : TA}
theorem pe_cal (c : Cal X.prog X.w X.K X.mg X.base k x ps sp) (hr : Room k X.A) (hg : Gl X x) (ha : PA X (e :: es) t) (hdb : (x == ("__debug__" : Str)) = false := by decide)
    (he : starEach (e :: es) X.env = (false, eval e X.env) :: starEach es X.env := by rfl) (hpl : (backTo pos (starEach es X.env)).any (·.1) = false := by rfl) :
    PE X (.Call (.Name x p) (e :: es) [] pos) (tCall sp [] E0 t) := by
  obtain ⟨f, fd, hm, hk, F, hb⟩ := c.ex
  exact pe_call F hr hg hm hk hb .nil pass0 ha hdb he hpl
end

/-- a thing: a foreign one, or an instance of the class at C -/
inductive Thing (K : PySem.W.Frag) (C : Addr) (H : Hp) : V → Prop where
  | fo {x : V} {T : String} (h : Fo K H x T) : Thing K C H x
  | ins {a dx : Addr} {fs : List (Str × V)} (e : H a = some (.ins C dx fs)) : Thing K C H (.ref a)
def isI : V → Bool
  | .int _ => true
  | _ => false
/-- what isinstance asks of the class at C -/
structure InsT (K : PySem.W.Frag) (C : Addr) : Prop where
  cl : Cls K C
  ha : PySem.W.findIn K (.ref C) "__class__" = some (some (.builtin "object.__class__"))
  hn : PySem.W.specialIn K (.builtin "object.__class__") "__get__" = some (some (.builtin "getset_descriptor.__get__"))
  htk : PySem.W.takesIn K (.builtin "object.__class__") = some true
  hm : PySem.W.mroIn K C (.type "object") = some true
  kint : PySem.W.kitOne K (.ref C) (.type "int") = some false
  kbool : PySem.W.kitOne K (.ref C) (.type "bool") = some false
  kself : PySem.W.kitOne K (.ref C) (.ref C) = some true
  oint : PySem.W.kitOne K (.type "int") (.ref C) = some false
  obool : PySem.W.kitOne K (.type "bool") (.ref C) = some false
  onon : PySem.W.kitOne K (.type "NoneType") (.ref C) = some false
  ostr : PySem.W.kitOne K (.type "str") (.ref C) = some false
  olst : PySem.W.kitOne K (.type "list") (.ref C) = some false
  otup : PySem.W.kitOne K (.type "tuple") (.ref C) = some false
  odct : PySem.W.kitOne K (.type "dict") (.ref C) = some false
theorem InsT.ty {K : PySem.W.Frag} {C : Addr} {H : Hp} {a dx : Addr} {fs : List (Str × V)} (I : InsT K C) (e : H a = some (.ins C dx fs)) : TyX K H (.ref a) (.ref C) :=
  .base (.ins e I.cl I.ha I.hn I.htk I.hm)
theorem InsT.fo {K : PySem.W.Frag} {C : Addr} {H : Hp} {x : V} {T : String} (I : InsT K C) (h : Fo K H x T) : PySem.W.kitOne K (.type T) (.ref C) = some false := by
  cases h with
  | non => exact I.onon
  | bl b => exact I.obool
  | int i => exact I.oint
  | str x => exact I.ostr
  | lst e => exact I.olst
  | tup e => exact I.otup
  | dK e => exact I.odct
/-- isinstance(x, int) of a thing -/
def isIB : V → Bool
  | .int _ => true
  | .bl _ => true
  | _ => false
def isB : V → Bool
  | .bl _ => true
  | _ => false
theorem Thing.isInt {K : PySem.W.Frag} {C : Addr} {H : Hp} {x : V} (I : InsT K C) (h : Thing K C H x) : ∃ t, TyX K H x t ∧ PySem.W.kitOne K t (.type "int") = some (isIB x) ∧ PySem.W.kitOne K t (.type "bool") = some (isB x) := by
  cases h with
  | ins e => exact ⟨_, I.ty e, I.kint, I.kbool⟩
  | fo h =>
    refine ⟨_, h.ty, ?_⟩
    cases h with
    | non => exact ⟨by exact kit_ty (r := false) (by decide +kernel), by exact kit_ty (r := false) (by decide +kernel)⟩
    | bl b => exact ⟨by exact kit_ty (r := true) (by decide +kernel), by exact kit_ty (r := true) (by decide +kernel)⟩
    | int i => exact ⟨by exact kit_ty (r := true) (by decide +kernel), by exact kit_ty (r := false) (by decide +kernel)⟩
    | str x => exact ⟨by exact kit_ty (r := false) (by decide +kernel), by exact kit_ty (r := false) (by decide +kernel)⟩
    | lst e => exact ⟨by exact kit_ty (r := false) (by decide +kernel), by exact kit_ty (r := false) (by decide +kernel)⟩
    | tup e => exact ⟨by exact kit_ty (r := false) (by decide +kernel), by exact kit_ty (r := false) (by decide +kernel)⟩
    | dK e => exact ⟨by exact kit_ty (r := false) (by decide +kernel), by exact kit_ty (r := false) (by decide +kernel)⟩
/-- is_whole(x) -/
def spWhole (K : PySem.W.Frag) (C : Addr) : Sp := fun vs H Q _ => ∃ x, vs = [x] ∧ Thing K C H x ∧ Q (.bl (isI x)) H

/-- the built-in names that stand as they are -/
structure Bn (mg : Str → Option Value) : Prop where
  n_isinstance : mg "isinstance" = none
  n_int : mg "int" = none
  n_bool : mg "bool" = none
  n_abs : mg "abs" = none
  n_len : mg "len" = none
  n_str : mg "str" = none
  n_divmod : mg "divmod" = none
  n_ValueError : mg "ValueError" = none
section
variable {P : Program} {w : World} {K : PySem.W.Frag} {mg : Str → Option Value} {base : Heap} {C : Addr}
abbrev s_is_whole : Stmt := top 7
theorem sc_is_whole : FnScope ["thing"] ["thing"] (defScope s_is_whole) := ⟨rfl, rfl, rfl, by decide +kernel, rfl, by decide +kernel, by decide +kernel⟩
theorem ok_is_whole {f : Addr} {fd : FuncData} (F : Fun K "is_whole" "is_whole" s_is_whole f fd) (T : Bn mg) (I : InsT K C) : FnOk P w K mg base CX0 1 f fd ["thing"] (spWhole K C) := by
  refine F.ok sc_is_whole (fun vs H Q E h => ?_) (fun cdv A outer s H vs Q E hr h => ?_)
  · obtain ⟨x, rfl, _⟩ := h
    rfl
  · obtain ⟨x, rfl, h, k⟩ := h
    refine ⟨_, (pss_one (ps_ret (pe_and (pe_callB call_isi (by rfl) T.n_isinstance (by decide +kernel) (pa_cons (pv 0) (pa_cons (pe_bltn (v := .ty "int") rfl T.n_int (by decide +kernel) rfl) pa_nil))) (pe_one (pe_not (pe_callB call_isi (by rfl) T.n_isinstance (by decide +kernel) (pa_cons (pv 0) (pa_cons (pe_bltn (v := .ty "bool") rfl T.n_bool (by decide +kernel) rfl) pa_nil)))))))), ?_⟩
    obtain ⟨t, ty, k1, k2⟩ := h.isInt I
    refine ⟨_, rfl, x, .ty "int", t, _, _, rfl, .ty _, ty, k1, _, rfl, ?_⟩
    cases e : isIB x with
    | true =>
      refine iteT ⟨_, rfl, x, .ty "bool", t, _, _, rfl, .ty _, ty, k2, _, rfl, ?_⟩
      have : (!isB x) = isI x := by cases x <;> first | rfl | (simp [isIB] at e)
      rw [this]
      exact k
    | false =>
      refine iteF ?_
      have : isI x = false := by cases x <;> first | rfl | (simp [isIB] at e)
      rw [this] at k
      exact k
end
end K3

set_option Elab.async false
set_option linter.all false
set_option maxRecDepth 100000
set_option maxHeartbeats 4000000
namespace L2
open PySem PySem.Spec PyProof.Rows
/-- C.m(e, ..), C a class of the text by its global name, m a plain def of it, read off the class -/
structure ClsFn (K : PySem.W.Frag) (C : Addr) (mc : Value) (m : Str) (g : Addr) : Prop where
  rd : PySem.W.readsIn K C mc = true
  ga : PySem.W.specialIn K (.ref C) "__getattribute__" = some (some (.builtin "type.__getattribute__"))
  at_ : PySem.W.findCls K (.ref C) mc m = some (.val (.ref g))
  kp : PySem.W.keepIn K (.ref g) = true
theorem pe_clsfn {X : Cx} {CX : CXT} {k : Nat} {C g : Addr} {mc : Value} {fd : FuncData} {ps : List Str} {sp : Sp} {E : XK} {x m : Str} {p1 p2 pos : Pos} {e : Expr} {es : List Expr} {t : TA} {pl : Sem Bool}
    (c : ClsFn X.K C mc m g) (F : FnOk X.prog X.w X.K X.mg X.base CX k g fd ps sp) (hr : Room k X.A) (hg : Gl X x) (hm : X.mg x = some (.ref C)) (hb : Binds X.K fd ps []) (hx : Passes CX X E) (ha : PA X (e :: es) t) (hdb : (x == ("__debug__" : Str)) = false := by decide)
    (hc : eval (.Call (.Attribute (.Name x p1) m p2) (e :: es) [] pos) X.env = (do
      let ov ← eval (.Name x p1) X.env
      standAt p2.atName
      let (f, first) ← holding [ov] (getMethod ov m pl)
      callWith pos f first (backTo pos (starEach (e :: es) X.env)) (backToKw pos (keywordEach [] X.env))) := by rfl)
    (he : starEach (e :: es) X.env = (false, eval e X.env) :: starEach es X.env := by rfl) (hpl : (backTo pos (starEach es X.env)).any (·.1) = false := by rfl) :
    PE X (.Call (.Attribute (.Name x p1) m p2) (e :: es) [] pos) (tCall sp [] E t) := by
  refine ⟨fun pins s σ H Q I h => ?_⟩
  refine PySem.W.methodCall_KW (ld_glob I hg hm ?_ hdb) hc
  refine PySem.W.method_cls I.kIn c.ga (PySem.W.cls_value I.kIn c.rd c.at_ rfl ?_)
  have J := I.tok (s.toks + 1)
  show wpAny _ _ (callWith pos (Value.ref g) [] (backTo pos (starEach (e :: es) X.env)) []) _ _ _
  refine PySem.W.callWith_K (h₀ := X.base) J.ok.mod.kin c.kp (thn (ha.run pos pins _ σ H _ J h) fun us s1 ⟨vs, H1, I1, r, q⟩ => ⟨I1.kIn, ?_⟩) he hpl
  exact run_fn F hr hb .nil hx I1 r q
end L2
namespace K3
open PySem L2
section
variable {P : Program} {w : World} {K : PySem.W.Frag} {mg : Str → Option Value} {base : Heap}
/-- WalkError.__init__, of an exception that is being made -/
def spWE (K : PySem.W.Frag) : Sp := fun vs H Q _ => ∃ (a C : Addr) (y : V), vs = [.ref a, y] ∧ OexC K C ∧ H a = some (exo a C none) ∧ Q .non H
abbrev s_WE : Stmt := inClass (top 2) 0
theorem sc_WE : FnScope ["self", "words"] ["self", "words"] (defScope s_WE) := ⟨rfl, rfl, rfl, by decide +kernel, rfl, by decide +kernel, by decide +kernel⟩
theorem ok_WE {f : Addr} {fd : FuncData} {dvs : List V} (F : FunD K "__init__" "WalkError.__init__" (defArgs s_WE) (defBody s_WE) (defScope s_WE) dvs [] f fd) (T : Bn mg) (vV : PySem.W.findCls K (.type "ValueError") (.type "type") "__init__" = some (.val (.builtin "ValueError.__init__"))) :
    FnOk P w K mg base CX0 1 f fd ["self", "words"] (spWE K) := by
  refine F.ok sc_WE (fun vs H Q E h => ?_) (fun cdv A outer s H vs Q E hr h => ?_)
  · obtain ⟨a, C, y, rfl, _⟩ := h
    rfl
  · obtain ⟨a, C, y, rfl, O, ha, k⟩ := h
    refine ⟨_, pss_one (ps_expr (pe_veinit rfl T.n_ValueError vV (pa_cons (pv 0) (pa_cons (pv 1) pa_nil)))), ?_⟩
    exact ⟨_, rfl, _, rfl, a, C, [y], rfl, by show 1 ≤ 1000; decide, O, ha, k⟩
/-- BadShare.__init__: the two things are kept -/
def spBS (K : PySem.W.Frag) (B : Addr) : Sp := fun vs H Q _ => ∃ (a : Addr) (y z : V), vs = [.ref a, y, z] ∧ OexC K B ∧ PySem.W.findIn K (.ref B) "top" = some none ∧ PySem.W.findIn K (.ref B) "bottom" = some none ∧ H a = some (exo a B none) ∧
  ∀ dx, H dx = none → dx ≠ a → Q .non (upd (upd (upd H dx (exd dx [("top", y)])) a (exo a B (some dx))) dx (exd dx [("bottom", z), ("top", y)]))
abbrev s_BS : Stmt := inClass (top 3) 0
theorem sc_BS : FnScope ["self", "top", "bottom"] ["self", "top", "bottom"] (defScope s_BS) := ⟨rfl, rfl, rfl, by decide +kernel, rfl, by decide +kernel, by decide +kernel⟩
theorem ok_BS {f g W B : Addr} {mc : Value} {fd fdW : FuncData} (F : Fun K "__init__" "BadShare.__init__" s_BS f fd) (gW : mg "WalkError" = some (.ref W)) (c : ClsFn K W mc "__init__" g) (FW : FnOk P w K mg base CX0 1 g fdW ["self", "words"] (spWE K)) (bW : Binds K fdW ["self", "words"] []) :
    FnOk P w K mg base CX0 2 f fd ["self", "top", "bottom"] (spBS K B) := by
  refine F.ok sc_BS (fun vs H Q E h => ?_) (fun cdv A outer s H vs Q E hr h => ?_)
  · obtain ⟨a, y, z, rfl, _⟩ := h
    rfl
  · obtain ⟨a, y, z, rfl, O, nt, nb, ha, k⟩ := h
    refine ⟨_, pss_cons (ps_expr (pe_clsfn c FW hr rfl gW bW pass0 (pa_cons (pv 0) (pa_cons pe_str pa_nil))))
      (pss_cons (ps_ost (pv 0) (pv 1)) (pss_one (ps_ost (pv 0) (pv 2)))), ?_⟩
    refine ⟨_, rfl, a, B, _, rfl, O, ha, ?_⟩
    refine ⟨_, rfl, _, rfl, a, B, rfl, O, nt, .inl ⟨ha, fun dx hd ne => ?_⟩⟩
    refine ⟨_, rfl, _, rfl, a, B, rfl, O, nb, .inr ⟨dx, [("top", y)], upd_same, ?_, by show 1 ≤ 900; decide, ?_⟩⟩
    · rw [upd_ne ne, upd_same]
    · exact k dx hd ne
end
end K3

set_option Elab.async false
set_option linter.all false
set_option maxRecDepth 100000
set_option maxHeartbeats 4000000
namespace L2
open PySem PySem.Spec PyProof.Rows
/-- // by any divisor but 0 below 2 ^ 9000 -/
def CDivG (_ j : Int) : Prop := j ≠ 0 ∧ j.natAbs.log2 < 9000
theorem op_fdivG {X : Cx} : OpR X (binaryOp .FloorDiv) (rI CDivG fun i j => .int (i.fdiv j)) := opI fun _ _ _ _ _ _ _ hc q => floordiv_int hc.1 q (.inl (PyProof.noPylong_of_log2 hc.2))
end L2
namespace K3
open PySem L2
/-! ### a share's numbers -/
theorem kTB : ¬ (("top" : Str) = "bottom") := by decide +kernel
def shF (t n : Int) : List (Str × V) := putF "bottom" (.int n) (putF "top" (.int t) [])
theorem shF_top (t n : Int) : (shF t n).lookup ("top" : Str) = some (.int t) := by
  unfold shF
  rw [lookup_putF, if_neg kTB, lookup_putF, if_pos rfl]
theorem shF_bottom (t n : Int) : (shF t n).lookup ("bottom" : Str) = some (.int n) := by
  unfold shF
  rw [lookup_putF, if_pos rfl]
theorem shF_len (t n : Int) : (shF t n).length ≤ 2 := by
  unfold shF
  have h1 := length_putF ("top" : Str) (V.int t) []
  have h2 := length_putF ("bottom" : Str) (V.int n) (putF "top" (.int t) [])
  have h3 : ([] : List (Str × V)).length = 0 := rfl
  omega
/-- the divisor: the greatest common one, with the bottom's sign -/
def sg (a b : Int) : Int := if 0 < b then ((Nat.gcd a.natAbs b.natAbs : Nat) : Int) else -((Nat.gcd a.natAbs b.natAbs : Nat) : Int)
def lowT (a b : Int) : Int := a.fdiv (sg a b)
def lowB (a b : Int) : Int := b.fdiv (sg a b)
theorem sg_abs (a b : Int) : (sg a b).natAbs = Nat.gcd a.natAbs b.natAbs := by
  unfold sg
  split
  · exact Int.natAbs_natCast _
  · rw [Int.natAbs_neg]
    exact Int.natAbs_natCast _
theorem gcd_pos {a b : Int} (hb : b ≠ 0) : 0 < Nat.gcd a.natAbs b.natAbs := Nat.gcd_pos_of_pos_right _ (Int.natAbs_pos.mpr hb)
theorem gcd_le {a b : Int} (hb : b ≠ 0) : Nat.gcd a.natAbs b.natAbs ≤ b.natAbs := Nat.gcd_le_right _ (Int.natAbs_pos.mpr hb)
theorem sg_ne {a b : Int} (hb : b ≠ 0) : sg a b ≠ 0 := fun z => by
  have h := sg_abs a b
  rw [z] at h
  have := gcd_pos (a := a) hb
  have h0 : (0 : Int).natAbs = 0 := rfl
  omega
theorem log2_mono {m n : Nat} (h : m ≤ n) : m.log2 ≤ n.log2 := by
  by_cases hm : m = 0
  · subst hm
    exact Nat.zero_le _
  · have hn : n ≠ 0 := by omega
    exact (Nat.le_log2 hn).mpr (Nat.le_trans (Nat.log2_self_le hm) h)
theorem sg_div {a b : Int} (hb : b ≠ 0) (hl : b.natAbs.log2 < 9000) (i : Int) : CDivG i (sg a b) :=
  ⟨sg_ne hb, by rw [sg_abs]; exact Nat.lt_of_le_of_lt (log2_mono (gcd_le hb)) hl⟩
/-! ### Share.__init__ -/
def bad (p q : V) : Prop := isI p = false ∨ isI q = false ∨ q = .int 0
def xF (p q : V) : List (Str × V) := [("bottom", q), ("top", p)]
def spSI (K : PySem.W.Frag) (C B : Addr) : Sp := fun vs H Q E => ∃ (x dx : Addr) (p q : V), vs = [.ref x, p, q] ∧ H x = some (.ins C dx []) ∧ Thing K C H p ∧ Thing K C H q ∧
  ((∃ a b : Int, p = .int a ∧ q = .int b ∧ b ≠ 0 ∧ b.natAbs.log2 < 9000 ∧ Q .non (upd H x (.ins C dx (shF (lowT a b) (lowB a b))))) ∨
    (bad p q ∧ ∀ (d : Addr) (H' : Hp), H d = none → Same H H' → H' d = some (.xd (xF p q)) → E (.ref B) (some d) H'))
/-- what the walk asks of the class Share -/
structure ShT (K : PySem.W.Frag) (mg : Str → Option Value) (C : Addr) : Prop where
  bn : Bn mg
  it : InsT K C
  nT : NoAttr K C "top"
  nB : NoAttr K C "bottom"
  g_gcd : mg "gcd" = some (.builtin "math.gcd")
  g_Share : mg "Share" = some (.ref C)
/-- .. of the class BadShare -/
structure BsT (P : Program) (w : World) (K : PySem.W.Frag) (mg : Str → Option Value) (base : Heap) (B : Addr) : Prop where
  O : OexC K B
  nt : PySem.W.findIn K (.ref B) "top" = some none
  nb : PySem.W.findIn K (.ref B) "bottom" = some none
  gB : mg "BadShare" = some (.ref B)
  made : ∃ (fI : Addr) (fd : FuncData), PySem.W.findIn K (.ref B) "__init__" = some (some (.ref fI)) ∧ PySem.W.typeIn K (.ref fI) = some (.type "function") ∧ FnOk P w K mg base CX0 2 fI fd ["self", "top", "bottom"] (spBS K B) ∧ Binds K fd ["self", "top", "bottom"] []
section
variable {P : Program} {w : World} {K : PySem.W.Frag} {mg : Str → Option Value} {base : Heap} {C B : Addr}
theorem iteB {c : Bool} {A B : Prop} (h1 : c = true → A) (h2 : c = false → B) : if c = true then A else B := by
  cases c
  · rw [if_neg (by decide)]
    exact h2 rfl
  · rw [if_pos rfl]
    exact h1 rfl
/-- the exception's dict behind the call of its class -/
theorem bs_end {H : Hp} {a dx : Addr} {p q : V} {B : Addr} (ha : H a = none) (hd : (upd H a (exo a B none)) dx = none) (ne : dx ≠ a) :
    Same H (upd (L2.del (upd (upd (upd (upd H a (exo a B none)) dx (exd dx [("top", p)])) a (exo a B (some dx))) dx (exd dx (xF p q))) a) dx (.xd (xF p q))) := fun b o h => by
  have nb : b ≠ a := ne_of_none h ha
  have nd : b ≠ dx := fun z => by rw [upd_ne ne] at hd; rw [z, hd] at h; cases h
  rw [upd_ne nd, del_ne nb, upd_ne nd, upd_ne nb, upd_ne nd, upd_ne nb]
  exact h
theorem isI_int {p : V} (h : isI p = true) : ∃ a, p = .int a := by cases p <;> first | exact ⟨_, rfl⟩ | cases h
abbrev s_SI : Stmt := inClass (top 12) 0
theorem sc_SI : FnScope ["self", "top", "bottom", "common"] ["self", "top", "bottom"] (defScope s_SI) := ⟨rfl, rfl, rfl, by decide +kernel, rfl, by decide +kernel, by decide +kernel⟩
theorem ok_SI {f : Addr} {fd : FuncData} {dvs : List V} (F : FunD K "__init__" "Share.__init__" (defArgs s_SI) (defBody s_SI) (defScope s_SI) dvs [] f fd) (T : ShT K mg C) (Bt : BsT P w K mg base B) (c_is_whole : Cal P w K mg base 1 "is_whole" ["thing"] (spWhole K C)) :
    FnOk P w K mg base (L2.CX P w) 4 f fd ["self", "top", "bottom"] (spSI K C B) := by
  obtain ⟨fI, fdI, iC, tI, FI, bI⟩ := Bt.made
  refine F.ok sc_SI (fun vs H Q E h => ?_) (fun cdv A outer s H vs Q E hr h => ?_)
  · obtain ⟨x, dx, p, q, rfl, _⟩ := h
    rfl
  · obtain ⟨x, dx, p, q, rfl, hx, hp, hq, k⟩ := h
    refine ⟨_, (pss_cons (ps_if (PW.pt (pw_or (pt_not (pt_val (pe_cal c_is_whole (hr.mono (by decide)) rfl (pa_cons (pv 1) pa_nil)))) (pw_or (pt_not (pt_val (pe_cal c_is_whole (hr.mono (by decide)) rfl (pa_cons (pv 2) pa_nil)))) (pw_or1 (pt_cmpR op_eq (pv 2) pe_int (nomark _))))))
        (pss_one (ps_raise (W := fun cls d _ H => E cls d H) rfl (takes_of rfl rfl rfl rfl) (pmk_oex Bt.O iC tI FI hr bI .nil pass0 rfl Bt.gB (pa_cons (pv 1) (pa_cons (pv 2) pa_nil)))))
        pss_nil)
      (pss_cons (ps_set (i := 3) sc_SI.nd rfl (Or.inl rfl) (pe_ifExp (pt_cmpR op_gt (pv 2) pe_int (nomark _)) (pe_callBfun cr_gcd rfl T.g_gcd (pa_cons (pv 1) (pa_cons (pv 2) pa_nil))) (pe_un un_neg (pe_callBfun cr_gcd rfl T.g_gcd (pa_cons (pv 1) (pa_cons (pv 2) pa_nil))))))
      (pss_cons (ps_fld (pv 0) (pe_op op_fdivG (pv 1) (pv 3)) rfl)
      (pss_one (ps_fld (pv 0) (pe_op op_fdivG (pv 2) (pv 3)) rfl))))), ?_⟩
    -- BadShare(top, bottom)
    have raise : bad p q → ∀ (σ : St), σ[1]? = some (some p) → σ[2]? = some (some q) →
        tMkO B (spBS K B) [] (tCons (tVar 1) (tCons (tVar 2) tNil)) σ H (fun cls d H' => E cls d H') := by
      intro hb σ h1 h2
      rcases k with ⟨a, b, rfl, rfl, nz, _⟩ | ⟨_, k⟩
      · rcases hb with z | z | z
        · cases z
        · cases z
        · exact absurd (V.int.inj z) nz
      · refine ⟨p, h1, q, h2, by show 2 ≤ 1000; decide, fun a ha => ?_⟩
        refine ⟨a, p, q, rfl, Bt.O, Bt.nt, Bt.nb, upd_same, fun d hd ne => ⟨rfl, d, xF p q, ?_, upd_same, ?_, ?_⟩⟩
        · rw [upd_ne ne.symm, upd_same]
        · rw [upd_ne ne] at hd
          exact hd
        · refine k d _ ?_ (bs_end ha hd ne) upd_same
          rw [upd_ne ne] at hd
          exact hd
    refine ⟨_, rfl, p, rfl, hp, _, rfl, iteB (fun z => ?_) (fun z => ?_)⟩
    · refine iteT (raise (.inl ?_) _ rfl rfl)
      simpa using z
    · refine ⟨_, rfl, q, rfl, hq, _, rfl, iteB (fun z2 => ?_) (fun z2 => ?_)⟩
      · refine iteT (raise (.inr (.inl ?_)) _ rfl rfl)
        simpa using z2
      · obtain ⟨a, rfl⟩ := isI_int (p := p) (by simpa using z)
        obtain ⟨b, rfl⟩ := isI_int (p := q) (by simpa using z2)
        refine ⟨_, rfl, rfl, _, rfl, ?_⟩
        refine ite2 (fun e => ?_) (fun e => ?_)
        · have e' : V.int b = V.int 0 := of_decide_eq_true e
          exact raise (.inr (.inr e')) _ rfl rfl
        · have nz : b ≠ 0 := fun z => e (by rw [z]; exact decide_eq_true rfl)
          rcases k with ⟨a', b', ea, eb, _, hl, k⟩ | ⟨hb, _⟩
          · cases ea
            cases eb
            -- common
            refine ⟨_, rfl, _, _, rfl, rfl, _, rfl, ?_⟩
            have rest : ∀ c : Int, c = sg a b → (tSeq (sFld K (tVar 0) (tOp (rI CDivG fun i j => .int (i.fdiv j)) (tVar 1) (tVar 3)) "top") (sFld K (tVar 0) (tOp (rI CDivG fun i j => .int (i.fdiv j)) (tVar 2) (tVar 3)) "bottom"))
                { nx := fun _ H' => Q .non H', rt := Q } [some (.ref x), some (.int a), some (.int b), some (.int c)] H := by
              rintro c rfl
              refine ⟨_, rfl, _, rfl, a, sg a b, rfl, rfl, sg_div nz hl a, ?_⟩
              refine ⟨_, rfl, x, C, dx, [], rfl, hx, T.it.cl, T.nT, by show 0 < 1000; decide, ?_⟩
              refine ⟨_, rfl, _, rfl, b, sg a b, rfl, rfl, sg_div nz hl b, ?_⟩
              refine ⟨_, rfl, x, C, dx, _, rfl, upd_same, T.it.cl, T.nB, by show 1 < 1000; decide, ?_⟩
              rw [upd_upd]
              exact k
            refine ite2 (fun e2 => ?_) (fun e2 => ?_)
            · refine ⟨_, rfl, _, rfl, a, b, rfl, ?_⟩
              refine rest _ ?_
              unfold sg
              rw [if_pos (of_decide_eq_true e2)]
            · refine ⟨_, rfl, _, rfl, a, b, rfl, _, rfl, ?_⟩
              refine rest _ ?_
              unfold sg
              rw [if_neg (fun z => e2 (decide_eq_true z))]
          · rcases hb with z | z | z
            · cases z
            · cases z
            · exact absurd (V.int.inj z) nz
end
end K3

set_option Elab.async false
set_option linter.all false
set_option maxRecDepth 100000
set_option maxHeartbeats 4000000
namespace K3
open PySem L2
/-- == of a share at a and y -/
def EqS (K : PySem.W.Frag) (C : Addr) (a : Addr) (y : V) (b : Bool) (H : Hp) : Prop := ∃ (dx : Addr) (t n : Int), H a = some (.ins C dx (shF t n)) ∧
  ((∃ (c dy : Addr) (t' n' : Int), y = .ref c ∧ H c = some (.ins C dy (shF t' n')) ∧ b = (decide (V.int t = V.int t') && decide (V.int n = V.int n'))) ∨
    (∃ T, Fo K H y T) ∧ b = (isI y && (decide (V.int n = V.int 1) && decide (V.int t = y))))
theorem app_len (x y : Str) : (x ++ y).length = x.length + y.length := by
  show (x.cps ++ y.cps).size = x.cps.size + y.cps.size
  exact Array.size_append
theorem Fo.notIns {K : PySem.W.Frag} {H : Hp} {a dx C : Addr} {fs : List (Str × V)} {T : String} (h : Fo K H (.ref a) T) (e : H a = some (.ins C dx fs)) : False := by
  cases h with
  | lst h => rw [h] at e; cases e
  | tup h => rw [h] at e; cases e
  | dK h => rw [h] at e; cases e
section
variable {P : Program} {w : World} {K : PySem.W.Frag} {mg : Str → Option Value} {base : Heap} {C B : Addr}
abbrev s_eq : Stmt := inClass (top 12) 8
theorem sc_eq : FnScope ["self", "other"] ["self", "other"] (defScope s_eq) := ⟨rfl, rfl, rfl, by decide +kernel, rfl, by decide +kernel, by decide +kernel⟩
theorem ok_eq {f : Addr} {fd : FuncData} (F : Fun K "__eq__" "Share.__eq__" s_eq f fd) (T : ShT K mg C) (c_is_whole : Cal P w K mg base 1 "is_whole" ["thing"] (spWhole K C)) :
    FnOk P w K mg base CX0 2 f fd ["self", "other"] (spOwn (EqS K C)) := by
  refine F.ok sc_eq (fun vs H Q E h => ?_) (fun cdv A outer s H vs Q E hr h => ?_)
  · obtain ⟨a, y, b, rfl, _⟩ := h
    rfl
  · obtain ⟨a, y, b, rfl, ⟨dx, t, n, ha, hy⟩, k⟩ := h
    refine ⟨_, (pss_cons (ps_if (pt_val (pe_callB call_isi (by rfl) T.bn.n_isinstance (by decide +kernel) (pa_cons (pv 1) (pa_cons (pe_glob (v := .ref C) rfl T.g_Share rfl) pa_nil))))
        (pss_one (ps_ret (pe_and (pe_cmpR op_eq (pe_fld (pv 0) rfl) (pe_fld (pv 1) rfl) (nomark _)) (pe_one (pe_cmpR op_eq (pe_fld (pv 0) rfl) (pe_fld (pv 1) rfl) (nomark _))))))
        pss_nil)
      (pss_one (ps_ret (pe_and (pe_cal c_is_whole (hr.mono (by decide)) rfl (pa_cons (pv 1) pa_nil)) (pe_and (pe_cmpR op_eq (pe_fld (pv 0) rfl) pe_int (nomark _)) (pe_one (pe_cmpR op_eq (pe_fld (pv 0) rfl) (pv 1) (nomark _)))))))), ?_⟩
    rcases hy with ⟨c, dy, t', n', rfl, hc, rfl⟩ | ⟨⟨T', hT⟩, rfl⟩
    · refine ⟨_, rfl, .ref c, .ref C, _, _, true, rfl, .own C, T.it.ty hc, T.it.kself, _, rfl, iteT ?_⟩
      refine ⟨_, rfl, a, C, dx, _, _, rfl, ha, T.it.cl, T.nT, shF_top _ _, _, rfl, c, C, dy, _, _, rfl, hc, T.it.cl, T.nT, shF_top _ _, rfl, _, rfl, iteB (fun z => ?_) (fun z => ?_)⟩
      · refine ⟨_, rfl, a, C, dx, _, _, rfl, ha, T.it.cl, T.nB, shF_bottom _ _, _, rfl, c, C, dy, _, _, rfl, hc, T.it.cl, T.nB, shF_bottom _ _, rfl, ?_⟩
        rw [z, Bool.true_and] at k
        exact k
      · rw [z, Bool.false_and] at k
        exact k
    · refine ⟨_, rfl, y, .ref C, _, _, false, rfl, .own C, hT.ty, T.it.fo hT, _, rfl, iteF ?_⟩
      refine ⟨_, rfl, y, rfl, .fo hT, _, rfl, iteB (fun z => ?_) (fun z => ?_)⟩
      · rw [z, Bool.true_and] at k
        obtain ⟨i, rfl⟩ := isI_int z
        refine ⟨_, rfl, a, C, dx, _, _, rfl, ha, T.it.cl, T.nB, shF_bottom _ _, rfl, _, rfl, iteB (fun z => ?_) (fun z => ?_)⟩
        · refine ⟨_, rfl, a, C, dx, _, _, rfl, ha, T.it.cl, T.nT, shF_top _ _, _, rfl, rfl, ?_⟩
          rw [z, Bool.true_and] at k
          exact k
        · rw [z, Bool.false_and] at k
          exact k
      · rw [z, Bool.false_and] at k
        exact k
end
end K3

set_option Elab.async false
set_option linter.all false
set_option maxRecDepth 100000
set_option maxHeartbeats 4000000
namespace K3
open PySem L2
/-! ### the pool of the draws -/
/-- its list: a number below 2 ^ 64, and what is left of the greatest cell -/
def PoolL (o : HO) : Prop := ∃ n g : Int, o = .lst [.int n, .int g] ∧ 0 ≤ n ∧ n < 2 ^ 64 ∧ 0 ≤ g
def PoolAt (H : Hp) (a : Addr) : Prop := ∃ o, H a = some o ∧ PoolL o
theorem PoolAt.put {H : Hp} {a : Addr} {o : HO} (h : PoolL o) : PoolAt (upd H a o) a := ⟨o, upd_same, h⟩
/-- all that was tracked, but the pool, stands -/
def Keep (a : Addr) (H H' : Hp) : Prop := ∀ b o, H b = some o → b ≠ a → H' b = some o
theorem Keep.refl (a : Addr) (H : Hp) : Keep a H H := fun _ _ h _ => h
theorem Keep.trans {a : Addr} {H H1 H2 : Hp} (x : Keep a H H1) (y : Keep a H1 H2) : Keep a H H2 := fun b o h n => y b o (x b o h n) n
theorem Keep.put {a : Addr} {H : Hp} (o : HO) : Keep a H (upd H a o) := fun b u h n => by rw [upd_ne n]; exact h
theorem Keep.of {a : Addr} {H H' : Hp} (s : Same H H') : Keep a H H' := fun b o h _ => s b o h
theorem Same.put {H : Hp} {p : Addr} {o : HO} (h : H p = none) : Same H (upd H p o) := fun b u e => by rw [upd_ne (ne_of_none e h)]; exact e
theorem PoolAt.new {H : Hp} {a p : Addr} {o : HO} (h : PoolAt H a) (hp : H p = none) : PoolAt (upd H p o) a := by
  obtain ⟨u, e, q⟩ := h
  exact ⟨u, by rw [upd_ne (ne_of_none e hp)]; exact e, q⟩
theorem PoolAt.same {H H' : Hp} {a : Addr} (h : PoolAt H a) (s : Same H H') : PoolAt H' a := by
  obtain ⟨u, e, q⟩ := h
  exact ⟨u, s _ _ e, q⟩
theorem PoolAt.ne {H : Hp} {a b : Addr} {xs : List V} (h : PoolAt H a) (e : H b = some (.tup xs)) : b ≠ a := fun z => by
  obtain ⟨u, e2, n, g, q, _⟩ := h
  rw [z, e2, q] at e
  cases e
theorem PoolAt.nei {H : Hp} {a b C dx : Addr} {fs : List (Str × V)} (h : PoolAt H a) (e : H b = some (.ins C dx fs)) : b ≠ a := fun z => by
  obtain ⟨u, e2, n, g, q, _⟩ := h
  rw [z, e2, q] at e
  cases e
theorem SqT.put {K : PySem.W.Frag} {H : Hp} {a t : Addr} {xs : List V} {o : HO} (h : PoolAt H a) (s : SqT K H t xs) : SqT K (upd H a o) t xs := by
  obtain ⟨u, e2, n, g, q, _⟩ := h
  rcases s with (s | ⟨ob, s⟩) | s
  · refine .inl (.inl ?_)
    rw [upd_ne (fun z => by rw [z, e2, q] at s; cases s)]
    exact s
  · refine .inl (.inr ⟨ob, ?_⟩)
    rw [upd_ne (fun z => by rw [z, e2, q] at s; cases s)]
    exact s
  · exact .inr s
/-- the next number of the pool -/
def nextN (n : Int) : Int := ((n + 7919) * 6364136223846793005 + 1442695040888963407).fmod ((2 : Int) ^ (64 : Int).toNat)
theorem nextN_ok (n : Int) : 0 ≤ nextN n ∧ nextN n < 2 ^ 64 := by
  have e2 : ((2 : Int) ^ (64 : Int).toNat) = 18446744073709551616 := by decide +kernel
  unfold nextN
  rw [e2, Int.fmod_eq_emod_of_nonneg _ (by decide)]
  exact ⟨Int.emod_nonneg _ (by decide), Int.emod_lt_of_pos _ (by decide)⟩
def spDraw : Sp := fun vs H Q _ => ∃ (a : Addr) (m : Int), vs = [.ref a, .int m] ∧ PoolAt H a ∧ 0 < m ∧ m.natAbs.log2 < 9000 ∧ ∀ (r : Int) (o : HO), 0 ≤ r → r < m → PoolL o → Q (.int r) (upd H a o)
def spPick (K : PySem.W.Frag) : Sp := fun vs H Q _ => ∃ (a t : Addr) (xs : List V), vs = [.ref a, .ref t] ∧ PoolAt H a ∧ SqT K H t xs ∧ 0 < xs.length ∧ xs.length < 1000 ∧ ∀ (x : V) (o : HO), x ∈ xs → PoolL o → Q x (upd H a o)
theorem log_small {m : Int} {b : Nat} (h : m.natAbs < 2 ^ b) (h0 : 0 < b) (hb : b ≤ 9000) : m.natAbs.log2 < 9000 := Nat.lt_of_lt_of_le (PySem.Flt.log2_lt_of h0 h) hb
theorem at0 {x y : V} : atI [x, y] 0 = some x := by
  have h : ([x, y] : List V)[0]? = some x := rfl
  exact atI_nat h
theorem at1 {x y : V} : atI [x, y] 1 = some y := by
  have h : ([x, y] : List V)[1]? = some y := rfl
  exact atI_nat h
section
variable {P : Program} {w : World} {K : PySem.W.Frag} {mg : Str → Option Value} {base : Heap} {C B : Addr}
abbrev s_draw : Stmt := top 22
theorem sc_draw : FnScope ["_law_pool_here", "_law_many", "_law_digit"] ["_law_pool_here", "_law_many"] (defScope s_draw) := ⟨rfl, rfl, rfl, by decide +kernel, rfl, by decide +kernel, by decide +kernel⟩
theorem ok_draw {f : Addr} {fd : FuncData} (F : Fun K "_law_draw" "_law_draw" s_draw f fd) (T : Bn mg) : FnOk P w K mg base CX0 1 f fd ["_law_pool_here", "_law_many"] spDraw := by
  refine F.ok sc_draw (fun vs H Q E h => ?_) (fun cdv A outer s H vs Q E hr h => ?_)
  · obtain ⟨a, m, rfl, _⟩ := h
    rfl
  · obtain ⟨a, m, rfl, ⟨_, ha, n, g, rfl, n0, n1, g0⟩, m0, ml, k⟩ := h
    have ia : ∀ {H' : Hp} {n g : Int}, H' a = some (.lst [.int n, .int g]) → SqL K H' a [.int n, .int g] := fun h => SqL.of h
    refine ⟨_, (pss_cons (ps_if (pt_cmpR op_ge (pe_ix ix_list (pv 0) pe_int (fun _ _ => rfl)) (pe_op op_pow pe_int pe_int) (nomark _))
        (pss_cons (ps_set (i := 2) sc_draw.nd rfl (Or.inl rfl) (pe_op op_modN (pe_callTy call_int1 (by rfl) T.n_int (by decide +kernel) (pa_cons (pe_ix ix_list (pv 0) pe_int (fun _ _ => rfl)) pa_nil)) (pv 1)))
          (pss_cons (ps_asg (pe_op op_fdivW (pe_ix ix_list (pv 0) pe_int (fun _ _ => rfl)) (pv 1)) (pg_sub (pv 0) pe_int set_list))
          (pss_one (ps_ret (pv 2)))))
        pss_nil)
      (pss_cons (ps_asg (pe_op op_modN (pe_callTy call_int1 (by rfl) T.n_int (by decide +kernel) (pa_cons (pe_op op_add (pe_op op_mul (pe_callTy call_int1 (by rfl) T.n_int (by decide +kernel) (pa_cons (pe_op op_add (pe_ix ix_list (pv 0) pe_int (fun _ _ => rfl)) pe_int) pa_nil)) pe_int) pe_int) pa_nil)) (pe_op op_pow pe_int pe_int)) (pg_sub (pv 0) pe_int set_list))
      (pss_one (ps_ret (pe_op op_modN (pe_callTy call_int1 (by rfl) T.n_int (by decide +kernel) (pa_cons (pe_op op_fdivW (pe_ix ix_list (pv 0) pe_int (fun _ _ => rfl)) pe_int) pa_nil)) (pv 1)))))), ?_⟩
    refine ⟨_, rfl, a, _, 1, _, rfl, rfl, ia ha, at1, 10, 9, rfl, rfl, ⟨by decide, by decide, by decide⟩, g, _, rfl, rfl, _, rfl, ite2 (fun e => ?_) (fun e => ?_)⟩
    · refine ⟨_, rfl, a, _, 1, _, rfl, rfl, ia ha, at1, .inl ⟨g, rfl, _, rfl, g, m, rfl, rfl, by omega, ?_⟩⟩
      refine ⟨_, rfl, a, _, 1, _, rfl, rfl, ia ha, at1, _, rfl, g, m, rfl, rfl, ⟨m0, ml⟩, ?_⟩
      refine ⟨_, rfl, a, _, 1, 1, rfl, rfl, ha, rfl, _, rfl, ?_⟩
      have e1 : g.fmod m = g % m := Int.fmod_eq_emod_of_nonneg g (by omega)
      show Q (.int (g.fmod m)) (upd H a (.lst [.int n, .int (g / m)]))
      rw [e1]
      exact k _ _ (Int.emod_nonneg g (by omega)) (Int.emod_lt_of_pos g m0) ⟨n, g / m, rfl, n0, n1, Int.ediv_nonneg g0 (by omega)⟩
    · refine ⟨_, rfl, a, _, 0, _, rfl, rfl, ia ha, at0, n, 7919, rfl, rfl, .inl ⟨n + 7919, rfl, _, _, rfl, rfl, .inr ⟨by decide, by decide⟩, _, _, rfl, rfl, .inl ⟨_, rfl, ?_⟩⟩⟩
      refine ⟨2, 64, rfl, rfl, ⟨by decide, by decide, by decide⟩, _, _, rfl, rfl, (by show ((2 : Int) ^ (64 : Int).toNat) ≠ 0; decide +kernel), ?_⟩
      refine ⟨_, rfl, a, _, 0, 0, rfl, rfl, ha, rfl, ?_⟩
      obtain ⟨z0, z1⟩ := nextN_ok n
      refine ⟨_, rfl, a, _, 0, _, rfl, rfl, ia (n := nextN n) (g := g) upd_same, at0, nextN n, 65536, rfl, rfl, ⟨by decide, by decide⟩, .inl ⟨_, rfl, _, rfl, _, m, rfl, rfl, by omega, ?_⟩⟩
      have e1 : (nextN n / 65536).fmod m = (nextN n / 65536) % m := Int.fmod_eq_emod_of_nonneg _ (by omega)
      show Q (.int ((nextN n / 65536).fmod m)) (upd H a (.lst [.int (nextN n), .int g]))
      rw [e1]
      exact k _ _ (Int.emod_nonneg _ (by omega)) (Int.emod_lt_of_pos _ m0) ⟨nextN n, g, rfl, z0, z1, g0⟩
abbrev s_pick : Stmt := top 23
theorem sc_pick : FnScope ["_law_pool_here", "_law_things"] ["_law_pool_here", "_law_things"] (defScope s_pick) := ⟨rfl, rfl, rfl, by decide +kernel, rfl, by decide +kernel, by decide +kernel⟩
theorem ok_pick {f : Addr} {fd : FuncData} (F : Fun K "_law_pick" "_law_pick" s_pick f fd) (T : Bn mg) (c_draw : Cal P w K mg base 1 "_law_draw" ["_law_pool_here", "_law_many"] spDraw) :
    FnOk P w K mg base CX0 2 f fd ["_law_pool_here", "_law_things"] (spPick K) := by
  refine F.ok sc_pick (fun vs H Q E h => ?_) (fun cdv A outer s H vs Q E hr h => ?_)
  · obtain ⟨a, t, xs, rfl, _⟩ := h
    rfl
  · obtain ⟨a, t, xs, rfl, hp, ht, h0, h1, k⟩ := h
    refine ⟨_, (pss_one (ps_ret (pe_ix ix_tup (pv 1) (pe_cal c_draw (hr.mono (by decide)) rfl (pa_cons (pv 0) (pa_cons (pe_callB call_len_seq (by rfl) T.n_len PySem.boot_len (pa_cons (pv 1) pa_nil)) pa_nil))) (fun _ _ => rfl)))), ?_⟩
    refine ⟨_, rfl, _, rfl, _, rfl, t, xs, rfl, .inr ht, a, _, rfl, hp, by omega, ?_, fun r o r0 r1 ho => ?_⟩
    · exact log_small (b := 10) (by show ((xs.length : Int)).natAbs < 2 ^ 10; rw [Int.natAbs_natCast]; omega) (by decide) (by decide)
    · have hlt : r.toNat < xs.length := by omega
      refine ⟨t, xs, r, xs[r.toNat], rfl, rfl, SqT.put hp ht, ?_, ?_⟩
      · have h := atI_nat (xs := xs) (j := r.toNat) (v := xs[r.toNat]) (by simp [hlt])
        rw [Int.toNat_of_nonneg r0] at h
        exact h
      · exact k _ _ (List.getElem_mem hlt) ho
end
end K3

set_option Elab.async false
set_option linter.all false
set_option maxRecDepth 100000
set_option maxHeartbeats 4000000
namespace K3
open PySem L2
theorem take_more {α : Type} : ∀ {l : List α} {i : Nat} {x : α}, l[i]? = some x → l.take (i + 1) = l.take i ++ [x]
  | [], i, x, h => by simp at h
  | a :: l, 0, x, h => by
    have e : a = x := Option.some.inj h
    subst e
    rfl
  | a :: l, i + 1, x, h => by
    have ih := take_more (l := l) (i := i) (x := x) h
    show a :: l.take (i + 1) = a :: l.take i ++ [x]
    rw [ih]
    rfl
theorem at_map {ms : List Int} {i : Nat} {x : V} (h : (ms.map V.int)[i]? = some x) : ∃ z, ms[i]? = some z ∧ x = .int z := by
  rw [List.getElem?_map] at h
  cases e : ms[i]? with
  | none => rw [e] at h; cases h
  | some z => rw [e] at h; exact ⟨z, rfl, (Option.some.inj h).symm⟩
theorem cut_map (ns : List Int) (lo hi : Option Int) : ∃ ms : List Int, cutV (ns.map V.int) lo hi = ms.map V.int ∧ ms.length ≤ ns.length := by
  refine ⟨(ns.drop (HT.sIx (ns.map V.int).length 0 lo)).take (HT.sIx (ns.map V.int).length (ns.map V.int).length hi - HT.sIx (ns.map V.int).length 0 lo), ?_, ?_⟩
  · unfold cutV
    rw [List.map_take, List.map_drop]
  · rw [List.length_take, List.length_drop]
    omega
theorem yes_of {σ : St} {H : Hp} {A B : Hp → Prop} (h : A H) : tYes σ H (fun b H3 => if b = true then A H3 else B H3) := by
  show (if true = true then A H else B H)
  rw [if_pos rfl]
  exact h
def spPool (K : PySem.W.Frag) : Sp := fun vs H Q _ => ∃ (a : Addr) (ns : List Int), vs = [.ref a] ∧ SqL K H a (ns.map V.int) ∧ ns.length ≤ 63 ∧ ∀ (p : Addr) (H' : Hp), Same H H' → H p = none → PoolAt H' p → Q (.ref p) H'
theorem sml {n : Nat} (h : n ≤ 1000) : n < sizeLine := small1000 h
theorem same_free {H H' : Hp} {p : Addr} (s : Same H H') (h : H' p = none) : H p = none := s.free h
section
variable {P : Program} {w : World} {K : PySem.W.Frag} {mg : Str → Option Value} {base : Heap} {C B : Addr}
abbrev s_pool : Stmt := top 21
theorem sc_pool : FnScope ["_law_script", "_law_cells", "_law_number_here", "_law_cell", "_law_great"] ["_law_script"] (defScope s_pool) := ⟨rfl, rfl, rfl, by decide +kernel, rfl, by decide +kernel, by decide +kernel⟩
theorem ok_pool {f : Addr} {fd : FuncData} (F : Fun K "_law_pool" "_law_pool" s_pool f fd) (T : Bn mg) : FnOk P w K mg base CX0 1 f fd ["_law_script"] (spPool K) := by
  refine F.ok sc_pool (fun vs H Q E h => ?_) (fun cdv A outer s H vs Q E hr h => ?_)
  · obtain ⟨a, ns, rfl, _⟩ := h
    rfl
  · obtain ⟨a, ns, rfl, ha, hl, k⟩ := h
    refine ⟨_, (pss_cons (ps_set (i := 1) sc_pool.nd rfl (Or.inl rfl) (pe_op op_cat (pe_lc (own := [("_law_cell", 3)]) rfl sc_pool.nd (pi_list (pe_slice sl_list (pv 0) po_none (po_some pe_int))) (blkOk_by (N := ["_law_script", "_law_cells", "_law_number_here", "_law_cell", "_law_great"]) (sc := defScope s_pool) (by decide +kernel)) (fun _ _ _ _ _ => (pg_name (i := 3) sc_pool.nd rfl (Or.inl rfl))) (fun _ _ _ _ _ => pts_nil) (fun _ _ _ _ _ => (pe_callTy call_int1 (by rfl) T.n_int (by decide +kernel) (pa_cons (pv 3) pa_nil)))) (pe_lst (pa_cons (pe_callB call_len_seq (by rfl) T.n_len PySem.boot_len (pa_cons (pe_slice sl_list (pv 0) po_none (po_some pe_int)) pa_nil)) pa_nil))))
      (pss_cons (ps_set (i := 2) sc_pool.nd rfl (Or.inl rfl) pe_int)
      (pss_cons (ps_for PassesOwn.never rfl (pi_list (pv 1)) (pg_name (i := 3) sc_pool.nd rfl (Or.inl rfl))
        (pss_one (ps_set (i := 2) sc_pool.nd rfl (Or.inl rfl) (pe_op op_modN (pe_callTy call_int1 (by rfl) T.n_int (by decide +kernel) (pa_cons (pe_op op_add (pe_op op_add (pe_op op_mul (pv 2) pe_int) (pv 3)) pe_int) pa_nil)) (pe_op op_sub (pe_op op_pow pe_int pe_int) pe_int)))))
      (pss_cons (ps_setLc (i := 4) (own := [("_law_cell", 3)]) rfl sc_pool.nd rfl rfl (sw_true rfl rfl rfl (by decide +kernel)) (pi_list (pv 1)) (blkOk_by (N := ["_law_script", "_law_cells", "_law_number_here", "_law_cell", "_law_great"]) (sc := defScope s_pool) (by decide +kernel)) (fun _ _ _ _ _ => (pg_name (i := 3) sc_pool.nd rfl (Or.inl rfl))) (fun _ _ _ _ _ => (pts_one (pt_cmpR op_ge (pe_callB call_abs (by rfl) T.n_abs (by decide +kernel) (pa_cons (pv 3) pa_nil)) (pe_op op_pow pe_int pe_int) (nomark _)))) (fun _ _ _ _ _ => (pe_callB call_abs (by rfl) T.n_abs (by decide +kernel) (pa_cons (pv 3) pa_nil))))
      (pss_one (ps_ret (pe_lst (pa_cons (pv 2) (pa_cons (pe_ix ix_list (pe_op op_cat (pv 4) (pe_lst (pa_cons pe_int pa_nil))) pe_int (fun _ _ => rfl)) pa_nil))))))))), ?_⟩
    obtain ⟨ms, hms, hml⟩ := cut_map ns none (some 60)
    -- the cells
    refine ⟨_, rfl, _, rfl, a, _, rfl, ha, fun p1 np1 => ?_⟩
    rw [hms]
    refine ⟨p1, rfl, ⟨_, SqL.of upd_same⟩, fun D nD => ?_⟩
    refine lc_list (K := K) (a := p1) (xs := ms.map V.int) (fun i H' => H' = upd (upd H p1 (.lst (ms.map V.int))) D (.lst ((ms.take i).map V.int))) rfl (fun i H' hi e => ?_) ?_ ?_
    · rw [e]
      have ne : p1 ≠ D := fun z => by rw [← z, upd_same] at nD; cases nD
      exact SqL.of (by rw [upd_ne ne, upd_same])
    · rintro i x H' hi rfl
      obtain ⟨z, hz, rfl⟩ := at_map hi
      refine ⟨rfl, yes_of ?_⟩
      refine ⟨_, rfl, .inl ⟨z, rfl, _, upd_same, ?_, ?_⟩⟩
      · rw [List.length_map, List.length_take]
        exact sml (by omega)
      · rw [upd_upd, take_more hz, List.map_append]
        rfl
    · rintro H' rfl
      rw [List.length_map, List.take_length]
      have s1 : Same H (upd (upd H p1 (.lst (ms.map V.int))) D (.lst (ms.map V.int))) := (Same.put np1).trans (Same.put nD)
      have eD : (upd (upd H p1 (.lst (ms.map V.int))) D (.lst (ms.map V.int))) D = some (.lst (ms.map V.int)) := upd_same
      generalize (upd (upd H p1 (.lst (ms.map V.int))) D (.lst (ms.map V.int))) = H1 at s1 eD ⊢
      refine ⟨_, rfl, _, rfl, a, _, rfl, s1.seq ha, fun p2 np2 => ?_⟩
      rw [hms]
      refine ⟨p2, _, rfl, .inl (SqL.of upd_same), by show 1 ≤ sizeLine; decide, fun p3 np3 => ?_⟩
      rw [List.length_map]
      have s2 : Same H1 (upd (upd H1 p2 (.lst (ms.map V.int))) p3 (.lst [V.int (ms.length : Int)])) := (Same.put np2).trans (Same.put np3)
      refine ⟨D, p3, ms.map V.int, [V.int (ms.length : Int)], rfl, rfl, s2 _ _ eD, upd_same, ?_, fun p4 np4 => ?_⟩
      · rw [List.length_map]
        exact Nat.le_of_lt (sml (by show ms.length + 1 ≤ 1000; omega))
      have s3 : Same H (upd (upd (upd H1 p2 (.lst (ms.map V.int))) p3 (.lst [V.int (ms.length : Int)])) p4 (.lst ((ms ++ [(ms.length : Int)]).map V.int))) := (s1.trans s2).trans (Same.put np4)
      have e4 : (ms.map V.int ++ [V.int (ms.length : Int)]) = (ms ++ [(ms.length : Int)]).map V.int := by rw [List.map_append]; rfl
      rw [e4]
      have eC : (upd (upd (upd H1 p2 (.lst (ms.map V.int))) p3 (.lst [V.int (ms.length : Int)])) p4 (.lst ((ms ++ [(ms.length : Int)]).map V.int))) p4 = some (.lst ((ms ++ [(ms.length : Int)]).map V.int)) := upd_same
      have hcl : (ms ++ [(ms.length : Int)]).length ≤ 64 := by
        rw [List.length_append]
        show ms.length + 1 ≤ 64
        omega
      generalize (upd (upd (upd H1 p2 (.lst (ms.map V.int))) p3 (.lst [V.int (ms.length : Int)])) p4 (.lst ((ms ++ [(ms.length : Int)]).map V.int))) = H4 at s3 eC ⊢
      generalize ms ++ [(ms.length : Int)] = cs at eC hcl ⊢
      -- the number
      refine ⟨_, rfl, p4, rfl, ⟨_, SqL.of eC⟩, for_list (K := K) (a := p4) (xs := cs.map V.int) (fun i σ H' => H' = H4 ∧ ∃ (n : Int) (v : Option V), 0 ≤ n ∧ n < 2 ^ 64 ∧ σ = [some (.ref a), some (.ref p4), some (.int n), v, none]) ⟨rfl, 7, none, by decide, by decide, rfl⟩ (fun i σ H' _ h => by rw [h.1]; exact SqL.of eC) ?_ ?_⟩
      · rintro i x σ H' hi ⟨rfl, n, v, n0, n1, rfl⟩
        obtain ⟨z, hz, rfl⟩ := at_map hi
        refine ⟨_, rfl, _, _, rfl, rfl, .inr ⟨by decide, by decide⟩, _, rfl, _, _, rfl, rfl, _, _, rfl, rfl, .inl ⟨_, rfl, 2, 61, rfl, rfl, ⟨by decide, by decide, by decide⟩, _, _, rfl, rfl, _, _, rfl, rfl, ?_, rfl, ?_⟩⟩
        · show ((2 : Int) ^ (61 : Int).toNat - 1) ≠ 0
          decide +kernel
        · have e : ((2 : Int) ^ (61 : Int).toNat - 1) = 2305843009213693951 := by decide +kernel
          refine ⟨(n * 48271 + z + 11).fmod ((2 : Int) ^ (61 : Int).toNat - 1), some (.int z), ?_, ?_, rfl⟩
          · rw [e, Int.fmod_eq_emod_of_nonneg _ (by decide)]
            exact Int.emod_nonneg _ (by decide)
          · rw [e, Int.fmod_eq_emod_of_nonneg _ (by decide)]
            exact Int.lt_trans (Int.emod_lt_of_pos _ (by decide)) (by decide)
      · rintro σ H4 ⟨rfl, n, v, n0, n1, rfl⟩
        -- the great cells
        refine ⟨_, rfl, p4, rfl, ⟨_, SqL.of eC⟩, fun G nG => ?_⟩
        refine lc_list (K := K) (a := p4) (xs := cs.map V.int) (fun i H' => ∃ gs : List Int, H' = upd H4 G (.lst (gs.map V.int)) ∧ gs.length ≤ i ∧ ∀ g ∈ gs, 0 ≤ g) ⟨[], rfl, Nat.le_refl _, fun _ h => by cases h⟩ (fun i H' hi h => ?_) ?_ ?_
        · obtain ⟨gs, e, _⟩ := h
          rw [e]
          exact SqL.of (by rw [upd_ne (ne_of_none eC nG)]; exact eC)
        · rintro i x H' hi ⟨gs, rfl, gl, g0⟩
          obtain ⟨z, hz, rfl⟩ := at_map hi
          have hi2 : i < cs.length := (List.getElem?_eq_some_iff.mp hz).1
          refine ⟨rfl, _, rfl, z, rfl, 10, 18, rfl, rfl, ⟨by decide, by decide, by decide⟩, _, _, rfl, rfl, _, rfl, iteB (fun _ => ?_) (fun _ => ?_)⟩
          · refine ⟨_, rfl, z, rfl, _, upd_same, ?_, gs ++ [if z < 0 then -z else z], ?_, ?_, ?_⟩
            · rw [List.length_map]
              exact sml (by omega)
            · rw [upd_upd, List.map_append]
              rfl
            · rw [List.length_append]
              show gs.length + 1 ≤ i + 1
              omega
            · intro g hg
              rcases List.mem_append.mp hg with h | h
              · exact g0 g h
              · have e := List.mem_singleton.mp h
                rw [e]
                split <;> omega
          · exact ⟨gs, rfl, Nat.le_succ_of_le gl, g0⟩
        · rintro H' ⟨gs, rfl, gl, g0⟩
          rw [List.length_map] at gl
          have s4 : Same H (upd H4 G (.lst (gs.map V.int))) := s3.trans (Same.put nG)
          have eG : (upd H4 G (.lst (gs.map V.int))) G = some (.lst (gs.map V.int)) := upd_same
          generalize (upd H4 G (.lst (gs.map V.int))) = H5 at s4 eG ⊢
          refine ⟨_, rfl, _, rfl, by show 1 ≤ sizeLine; decide, fun p5 np5 => ?_⟩
          refine ⟨G, p5, gs.map V.int, [.int 0], rfl, rfl, Same.put np5 _ _ eG, upd_same, ?_, fun p6 np6 => ?_⟩
          · rw [List.length_map]
            exact Nat.le_of_lt (sml (by show gs.length + 1 ≤ 1000; omega))
          have hd : ∃ g : Int, (gs.map V.int ++ [V.int 0])[0]? = some (V.int g) ∧ 0 ≤ g := by
            cases gs with
            | nil => exact ⟨0, rfl, Int.le_refl _⟩
            | cons g r => exact ⟨g, rfl, g0 g (List.mem_cons_self ..)⟩
          obtain ⟨g, hg, gg⟩ := hd
          refine ⟨p6, _, 0, .int g, rfl, rfl, SqL.of upd_same, atI_nat hg, by show 2 ≤ sizeLine; decide, fun p7 np7 => ?_⟩
          have s5 := ((s4.trans (Same.put np5)).trans (Same.put np6)).trans (Same.put (o := .lst [.int n, .int g]) np7)
          exact k p7 _ s5 (((s4.trans (Same.put np5)).trans (Same.put np6)).free np7) ⟨_, upd_same, n, g, rfl, n0, n1, gg⟩
end
end K3

set_option Elab.async false
set_option linter.all false
set_option maxRecDepth 100000
set_option maxHeartbeats 4000000
namespace K3
open PySem L2
/-! ### the greatest common divisor -/
theorem gcd_turn (a b : Int) : Nat.gcd b.natAbs (a.fmod b).natAbs = Nat.gcd a.natAbs b.natAbs := by
  have e : a.fmod b = a - b * a.fdiv b := Int.fmod_def a b
  refine Nat.dvd_antisymm (Nat.dvd_gcd ?_ ?_) (Nat.dvd_gcd ?_ ?_)
  · have h1 : ((Nat.gcd b.natAbs (a.fmod b).natAbs : Nat) : Int) ∣ b := Int.ofNat_dvd_left.mpr (Nat.gcd_dvd_left _ _)
    have h2 : ((Nat.gcd b.natAbs (a.fmod b).natAbs : Nat) : Int) ∣ a.fmod b := Int.ofNat_dvd_left.mpr (Nat.gcd_dvd_right _ _)
    refine Int.ofNat_dvd_left.mp ?_
    have e2 : a = a.fmod b + b * a.fdiv b := by omega
    have h3 := Int.dvd_add h2 (Int.dvd_mul_of_dvd_left (c := a.fdiv b) h1)
    rw [← e2] at h3
    exact h3
  · exact Nat.gcd_dvd_left _ _
  · exact Nat.gcd_dvd_right _ _
  · have h1 : ((Nat.gcd a.natAbs b.natAbs : Nat) : Int) ∣ a := Int.ofNat_dvd_left.mpr (Nat.gcd_dvd_left _ _)
    have h2 : ((Nat.gcd a.natAbs b.natAbs : Nat) : Int) ∣ b := Int.ofNat_dvd_left.mpr (Nat.gcd_dvd_right _ _)
    refine Int.ofNat_dvd_left.mp ?_
    rw [e]
    exact Int.dvd_sub h1 (Int.dvd_mul_of_dvd_left h2)
theorem fmod_lt (a : Int) {b : Int} (h : b ≠ 0) : (a.fmod b).natAbs < b.natAbs := by
  have e := Int.fmod_eq_emod (a := a) (b := b)
  have h0 := Int.emod_nonneg a h
  have h1 := Int.emod_lt a h
  split at e
  · omega
  · rename_i hn
    have hb : b < 0 := by
      by_cases z : 0 ≤ b
      · exact absurd (.inl z) hn
      · omega
    have nz : a % b ≠ 0 := fun z => hn (.inr (Int.dvd_of_emod_eq_zero z))
    omega
theorem lowT_neg (a b : Int) : lowT a b = a.fdiv (sg a b) := rfl
/-! ### the law's own helpers -/
def spDivi : Sp := fun vs H Q _ => ∃ a b : Int, vs = [.int a, .int b] ∧ Q (.int ((Nat.gcd a.natAbs b.natAbs : Nat) : Int)) H
def spPart : Sp := fun vs H Q _ => ∃ a b : Int, vs = [.int a, .int b] ∧ b ≠ 0 ∧ b.natAbs.log2 < 9000 ∧ ∀ (t : Addr) (H' : Hp), Same H H' → H t = none → H' t = some (.tup [.int (lowT a b), .int (lowB a b)]) → Q (.ref t) H'
section
variable {P : Program} {w : World} {K : PySem.W.Frag} {mg : Str → Option Value} {base : Heap} {C B : Addr}
abbrev s_number : Stmt := top 24
theorem sc_number : FnScope ["_law_thing"] ["_law_thing"] (defScope s_number) := ⟨rfl, rfl, rfl, by decide +kernel, rfl, by decide +kernel, by decide +kernel⟩
theorem ok_number {f : Addr} {fd : FuncData} (F : Fun K "_law_number" "_law_number" s_number f fd) (T : Bn mg) (I : InsT K C) : FnOk P w K mg base CX0 1 f fd ["_law_thing"] (spWhole K C) := by
  refine F.ok sc_number (fun vs H Q E h => ?_) (fun cdv A outer s H vs Q E hr h => ?_)
  · obtain ⟨x, rfl, _⟩ := h
    rfl
  · obtain ⟨x, rfl, h, k⟩ := h
    refine ⟨_, (pss_one (ps_ret (pe_and (pe_callB call_isi (by rfl) T.n_isinstance (by decide +kernel) (pa_cons (pv 0) (pa_cons (pe_bltn (v := .ty "int") rfl T.n_int (by decide +kernel) rfl) pa_nil))) (pe_one (pe_not (pe_callB call_isi (by rfl) T.n_isinstance (by decide +kernel) (pa_cons (pv 0) (pa_cons (pe_bltn (v := .ty "bool") rfl T.n_bool (by decide +kernel) rfl) pa_nil)))))))), ?_⟩
    obtain ⟨t, ty, k1, k2⟩ := h.isInt I
    refine ⟨_, rfl, x, .ty "int", t, _, _, rfl, .ty _, ty, k1, _, rfl, ?_⟩
    cases e : isIB x with
    | true =>
      refine iteT ⟨_, rfl, x, .ty "bool", t, _, _, rfl, .ty _, ty, k2, _, rfl, ?_⟩
      have : (!isB x) = isI x := by cases x <;> first | rfl | (simp [isIB] at e)
      rw [this]
      exact k
    | false =>
      refine iteF ?_
      have : isI x = false := by cases x <;> first | rfl | (simp [isIB] at e)
      rw [this] at k
      exact k
abbrev s_divi : Stmt := top 25
theorem sc_divi : FnScope ["_law_one", "_law_other"] ["_law_one", "_law_other"] (defScope s_divi) := ⟨rfl, rfl, rfl, by decide +kernel, rfl, by decide +kernel, by decide +kernel⟩
theorem ok_divi {f : Addr} {fd : FuncData} (F : Fun K "_law_divisor" "_law_divisor" s_divi f fd) (T : Bn mg) : FnOk P w K mg base CX0 1 f fd ["_law_one", "_law_other"] spDivi := by
  refine F.ok sc_divi (fun vs H Q E h => ?_) (fun cdv A outer s H vs Q E hr h => ?_)
  · obtain ⟨a, b, rfl, _⟩ := h
    rfl
  · obtain ⟨a, b, rfl, k⟩ := h
    refine ⟨_, (pss_cons (ps_while PassesOwn.never (pt_cmpR op_ne (pv 1) pe_int (nomark _))
        (pss_one (ps_par (i := 0) (j := 1) (by rfl) sc_divi.nd rfl rfl (by decide) rfl rfl (pa_cons (pv 1) (pa_cons (pe_op op_modN (pe_callTy call_int1 (by rfl) T.n_int (by decide +kernel) (pa_cons (pv 0) pa_nil)) (pv 1)) pa_nil)) (by rfl))))
      (pss_one (ps_ret (pe_callB call_abs (by rfl) T.n_abs (by decide +kernel) (pa_cons (pv 0) pa_nil))))), ?_⟩
    refine while_by (fun σ H' => H' = H ∧ ∃ x y : Int, σ = [some (.int x), some (.int y)] ∧ Nat.gcd x.natAbs y.natAbs = Nat.gcd a.natAbs b.natAbs) (fun σ _ => match σ with | [_, some (.int y)] => y.natAbs | _ => 0) ⟨rfl, a, b, rfl, rfl⟩ ?_ ?_
    · rintro σ H1 ⟨rfl, x, y, rfl, hg⟩
      refine ⟨_, rfl, rfl, _, rfl, iteB (fun z => ?_) (fun z => ?_)⟩
      · have nz : y ≠ 0 := fun e => by
          rw [e] at z
          simp at z
        refine ⟨_, rfl, _, rfl, .inl ⟨x, rfl, _, rfl, x, y, rfl, rfl, nz, _, _, rfl, ⟨rfl, y, x.fmod y, rfl, ?_⟩, ?_⟩⟩
        · rw [gcd_turn]
          exact hg
        · exact fmod_lt x nz
      · have e : y = 0 := by
          have := of_decide_eq_true (by simpa using z : decide (V.int y = V.int 0) = true)
          exact V.int.inj this
        subst e
        refine ⟨_, rfl, x, rfl, ?_⟩
        have h0 : Nat.gcd x.natAbs (0 : Int).natAbs = x.natAbs := Nat.gcd_zero_right _
        rw [h0] at hg
        have e2 : (if x < 0 then -x else x) = ((Nat.gcd a.natAbs b.natAbs : Nat) : Int) := by
          rw [← hg]
          split <;> omega
        show Q (.int (if x < 0 then -x else x)) _
        rw [e2]
        exact k
    · rintro σ H1 Q1 Q2 hm ⟨v, hv, e1, k, e3, q⟩
      exact ⟨v, hv, e1, k, e3, hm _ _ q⟩
end
end K3

set_option Elab.async false
set_option linter.all false
set_option maxRecDepth 100000
set_option maxHeartbeats 4000000
namespace K3
open PySem L2
theorem mulS (i j : Int) (h : -(2 ^ 64) < j ∧ j < 2 ^ 64) : CMul i j := .inr h
theorem mulS' (i j : Int) (h : -(2 ^ 64) < i ∧ i < 2 ^ 64) : CMul i j := .inl h
section
variable {P : Program} {w : World} {K : PySem.W.Frag} {mg : Str → Option Value} {base : Heap} {C B : Addr}
abbrev s_part : Stmt := top 26
theorem sc_part : FnScope ["_law_top", "_law_bottom", "_law_divisor_here"] ["_law_top", "_law_bottom"] (defScope s_part) := ⟨rfl, rfl, rfl, by decide +kernel, rfl, by decide +kernel, by decide +kernel⟩
theorem ok_part {f : Addr} {fd : FuncData} (F : Fun K "_law_part" "_law_part" s_part f fd) (c_divi : Cal P w K mg base 1 "_law_divisor" ["_law_one", "_law_other"] spDivi) : FnOk P w K mg base CX0 2 f fd ["_law_top", "_law_bottom"] spPart := by
  refine F.ok sc_part (fun vs H Q E h => ?_) (fun cdv A outer s H vs Q E hr h => ?_)
  · obtain ⟨a, b, rfl, _⟩ := h
    rfl
  · obtain ⟨a, b, rfl, nz, hl, k⟩ := h
    refine ⟨_, (pss_cons (ps_set (i := 2) sc_part.nd rfl (Or.inl rfl) (pe_cal c_divi (hr.mono (by decide)) rfl (pa_cons (pv 0) (pa_cons (pv 1) pa_nil))))
      (pss_cons (ps_if (pt_cmpR op_lt (pv 1) pe_int (nomark _))
        (pss_one (ps_set (i := 2) sc_part.nd rfl (Or.inl rfl) (pe_un un_neg (pv 2))))
        pss_nil)
      (pss_one (ps_ret (pe_tup (pa_cons (pe_op op_fdivG (pv 0) (pv 2)) (pa_cons (pe_op op_fdivG (pv 1) (pv 2)) pa_nil))))))), ?_⟩
    refine ⟨_, rfl, _, rfl, a, b, rfl, ?_⟩
    have fin : ∀ (c : Int), c = sg a b → (tRet (tTup (tCons (tOp (rI CDivG fun i j => .int (i.fdiv j)) (tVar 0) (tVar 2)) (tCons (tOp (rI CDivG fun i j => .int (i.fdiv j)) (tVar 1) (tVar 2)) tNil))))
        { nx := fun _ H' => Q .non H', rt := Q } [some (.int a), some (.int b), some (.int c)] H := by
      rintro c rfl
      refine ⟨_, rfl, _, rfl, a, _, rfl, rfl, sg_div nz hl a, _, rfl, _, rfl, b, _, rfl, rfl, sg_div nz hl b, by show 2 ≤ sizeLine; decide, fun t nt => ?_⟩
      exact k t _ (Same.put nt) nt upd_same
    refine ⟨_, rfl, b, 0, rfl, rfl, _, rfl, iteB (fun z => ?_) (fun z => ?_)⟩
    · have hb : b < 0 := of_decide_eq_true z
      refine ⟨_, rfl, _, rfl, ?_⟩
      refine fin _ ?_
      unfold sg
      rw [if_neg (by omega)]
    · have hb : ¬ b < 0 := of_decide_eq_false z
      refine fin _ ?_
      unfold sg
      rw [if_pos (by omega)]
end
end K3

set_option Elab.async false
set_option linter.all false
set_option maxRecDepth 100000
set_option maxHeartbeats 4000000
namespace K3
open PySem L2
/-- how == of the two is told: one of both a share -/
def Cmp (K : PySem.W.Frag) (C : Addr) (H : Hp) (x y : V) (b : Bool) : Prop :=
  (∃ a dx fs, x = .ref a ∧ H a = some (.ins C dx fs) ∧ EqS K C a y b H ∧ ((∃ T, Fo K H y T) ∨ ∃ c dy gs, y = .ref c ∧ H c = some (.ins C dy gs))) ∨
    (∃ c dy gs T, y = .ref c ∧ H c = some (.ins C dy gs) ∧ Fo K H x T ∧ EqS K C c x b H)
theorem dp2 {K : PySem.W.Frag} {H : Hp} {t : Addr} {x y : Int} (h : SqT K H t [.int x, .int y]) : Dp K H (.ref t) (.tuple [.int x, .int y]) := .tup h (.cons (.int x) (.cons (.int y) .nil))
theorem sh2 (x y : Int) : SeqAt.shaped (.tuple [.int x, .int y]) = true := rfl
theorem i0 {x y : V} {xs : List V} : atI (x :: xs) 0 = some x := by
  have h : (x :: xs)[0]? = some x := rfl
  exact atI_nat h
theorem i1 {x y : V} {xs : List V} : atI (x :: y :: xs) 1 = some y := by
  have h : (x :: y :: xs)[1]? = some y := rfl
  exact atI_nat h
theorem i2 {x y z : V} {xs : List V} : atI (x :: y :: z :: xs) 2 = some z := by
  have h : (x :: y :: z :: xs)[2]? = some z := rfl
  exact atI_nat h
/-- __eq__ of the class -/
structure EqT (P : Program) (w : World) (K : PySem.W.Frag) (mg : Str → Option Value) (base : Heap) (C : Addr) : Prop where
  ex : ∃ (f : Addr) (fd : FuncData), OwnT K C f ∧ FnOk P w K mg base CX0 2 f fd ["self", "other"] (spOwn (EqS K C)) ∧ Binds K fd ["self", "other"] []
/-- x == y: by a share, or of plain data -/
theorem EqT.op {X : Cx} {C : Addr} {op : CmpOp} (ho : OC.Is2 op) (c : EqT X.prog X.w X.K X.mg X.base C) (hr : Room 3 X.A) : ∃ r : R2, OpR X (compareOp op) r ∧ ∀ x y b H Q, Cmp X.K C H x y b → Q (.bl (OC.turn op b)) H → r x y H Q := by
  obtain ⟨f, fd, O, F, hb⟩ := c.ex
  exact ⟨_, op_ownB ho F O hb pass0 hr, fun x y b H Q h q => ⟨b, h, q⟩⟩
theorem is_eq : OC.Is2 .Eq := .inl rfl
theorem is_ne : OC.Is2 .NotEq := .inr rfl
theorem passX {X : Cx} : Passes (L2.CX X.prog X.w) X E0 := fun _ _ _ _ _ _ _ ⟨_, _, _, _, _, _, _, _, _, _, _, _, h⟩ => h.elim
/-- Share(p, q) and Share(p) -/
structure MkT (P : Program) (w : World) (K : PySem.W.Frag) (mg : Str → Option Value) (base : Heap) (C B : Addr) : Prop where
  ex : ∃ (f : Addr) (fd : FuncData) (ds : List Value), Mk K C f ∧ FnOk P w K mg base (L2.CX P w) 4 f fd ["self", "top", "bottom"] (spSI K C B) ∧ Binds K fd ["self", "top", "bottom"] [] ∧ Vals [.int 1] ds ∧ Binds K fd ["self", "top", "bottom"] ds
  gS : mg "Share" = some (.ref C)
section
variable {X : Cx} {C B : Addr} {p pos : Pos} {e : Expr} {es : List Expr} {t : TA}
theorem pe_share2 (m : MkT X.prog X.w X.K X.mg X.base C B) (hr : Room 5 X.A) (hg : Gl X "Share") (ha : PA X (e :: es) t)
    (he : starEach (e :: es) X.env = (false, eval e X.env) :: starEach es X.env := by rfl) (hpl : (backTo pos (starEach es X.env)).any (·.1) = false := by rfl) :
    PE X (.Call (.Name "Share" p) (e :: es) [] pos) (tMake C (spSI X.K C B) [] E0 t) := by
  obtain ⟨f, fd, ds, M, F, b0, v1, b1⟩ := m.ex
  exact pe_make M F hr hg m.gS b0 .nil passX ha (by decide) he hpl
theorem pe_share1 (m : MkT X.prog X.w X.K X.mg X.base C B) (hr : Room 5 X.A) (hg : Gl X "Share") (ha : PA X (e :: es) t)
    (he : starEach (e :: es) X.env = (false, eval e X.env) :: starEach es X.env := by rfl) (hpl : (backTo pos (starEach es X.env)).any (·.1) = false := by rfl) :
    PE X (.Call (.Name "Share" p) (e :: es) [] pos) (tMake C (spSI X.K C B) [.int 1] E0 t) := by
  obtain ⟨f, fd, ds, M, F, b0, v1, b1⟩ := m.ex
  exact pe_make M F hr hg m.gS b1 v1 passX ha (by decide) he hpl
end
/-- a share is made -/
theorem mk_ok {K : PySem.W.Frag} {C B : Addr} {a b : Int} {H : Hp} {Q : VK} {E : XK} (nz : b ≠ 0) (hl : b.natAbs.log2 < 9000)
    (k : ∀ (x dx : Addr) (H' : Hp), Same H H' → H' x = some (.ins C dx (shF (lowT a b) (lowB a b))) → Q (.ref x) H') :
    ∀ x dx, H x = none → H dx = none → dx ≠ x → spSI K C B [.ref x, .int a, .int b] (upd (upd H dx (.own x)) x (.ins C dx [])) (fun v H2 => v = .non ∧ Q (.ref x) H2) E :=
  fun x dx hx hd ne => ⟨x, dx, .int a, .int b, rfl, upd_same, .fo (.int a), .fo (.int b), .inl ⟨a, b, rfl, rfl, nz, hl, rfl, k x dx _ (by
    rw [upd_upd]
    exact (Same.put hd).trans (Same.put (by rw [upd_ne ne.symm]; exact hx))) upd_same⟩⟩
theorem mk_same {C : Addr} {H : Hp} {x dx : Addr} {o : HO} (hx : H x = none) (hd : H dx = none) (ne : dx ≠ x) : Same H (upd (upd (upd H dx (.own x)) x (.ins C dx [])) x o) := by
  rw [upd_upd]
  exact (Same.put hd).trans (Same.put (by rw [upd_ne ne.symm]; exact hx))
theorem Thing.isC {K : PySem.W.Frag} {C : Addr} {H : Hp} {x : V} (I : InsT K C) (h : Thing K C H x) : ∃ t b, TyX K H x t ∧ PySem.W.kitOne K t (.ref C) = some b := by
  cases h with
  | ins e => exact ⟨_, _, I.ty e, I.kself⟩
  | fo h => exact ⟨_, _, h.ty, I.fo h⟩
/-! ### lowest terms, once more -/
theorem sg_dvdT (a b : Int) : sg a b ∣ a := by
  have h : ((Nat.gcd a.natAbs b.natAbs : Nat) : Int) ∣ a := Int.ofNat_dvd_left.mpr (Nat.gcd_dvd_left _ _)
  unfold sg
  split
  · exact h
  · exact Int.neg_dvd.mpr h
theorem sg_dvdB (a b : Int) : sg a b ∣ b := by
  have h : ((Nat.gcd a.natAbs b.natAbs : Nat) : Int) ∣ b := Int.ofNat_dvd_left.mpr (Nat.gcd_dvd_right _ _)
  unfold sg
  split
  · exact h
  · exact Int.neg_dvd.mpr h
theorem low_mulT (a b : Int) : lowT a b * sg a b = a := by
  unfold lowT
  exact Int.fdiv_mul_cancel (sg_dvdT a b)
theorem low_mulB (a b : Int) : lowB a b * sg a b = b := by
  unfold lowB
  exact Int.fdiv_mul_cancel (sg_dvdB a b)
theorem abs_le {x g y : Int} (h : x * g = y) (hg : g ≠ 0) : x.natAbs ≤ y.natAbs := by
  rw [← h, Int.natAbs_mul]
  exact Nat.le_mul_of_pos_right _ (Int.natAbs_pos.mpr hg)
theorem lowT_le {a b : Int} (hb : b ≠ 0) : (lowT a b).natAbs ≤ a.natAbs := abs_le (low_mulT a b) (sg_ne hb)
theorem lowB_le {a b : Int} (hb : b ≠ 0) : (lowB a b).natAbs ≤ b.natAbs := abs_le (low_mulB a b) (sg_ne hb)
theorem lowB_pos {a b : Int} (hb : b ≠ 0) : 0 < lowB a b := by
  have e := low_mulB a b
  by_cases h : 0 < b
  · have hs : 0 < sg a b := by
      unfold sg
      rw [if_pos h]
      exact Int.ofNat_lt.mpr (gcd_pos hb)
    by_cases z : 0 < lowB a b
    · exact z
    · have : lowB a b * sg a b ≤ 0 := Int.mul_nonpos_of_nonpos_of_nonneg (by omega) (by omega)
      omega
  · have hs : sg a b < 0 := by
      unfold sg
      rw [if_neg h]
      have := Int.ofNat_lt.mpr (gcd_pos (a := a) hb)
      omega
    by_cases z : 0 < lowB a b
    · exact z
    · have : 0 ≤ lowB a b * sg a b := Int.mul_nonneg_of_nonpos_of_nonpos (by omega) (by omega)
      omega
theorem low_gcd {a b : Int} (hb : b ≠ 0) : Nat.gcd (lowT a b).natAbs (lowB a b).natAbs = 1 := by
  have e1 : (lowT a b).natAbs * Nat.gcd a.natAbs b.natAbs = a.natAbs := by
    rw [← sg_abs, ← Int.natAbs_mul, low_mulT]
  have e2 : (lowB a b).natAbs * Nat.gcd a.natAbs b.natAbs = b.natAbs := by
    rw [← sg_abs, ← Int.natAbs_mul, low_mulB]
  have h : Nat.gcd ((lowT a b).natAbs * Nat.gcd a.natAbs b.natAbs) ((lowB a b).natAbs * Nat.gcd a.natAbs b.natAbs) = Nat.gcd (lowT a b).natAbs (lowB a b).natAbs * Nat.gcd a.natAbs b.natAbs := Nat.gcd_mul_right _ _ _
  rw [e1, e2] at h
  have hp := gcd_pos (a := a) hb
  exact Nat.eq_of_mul_eq_mul_right hp (by rw [← h, Nat.one_mul])
theorem sg_one {x y : Int} (hy : 0 < y) (h : Nat.gcd x.natAbs y.natAbs = 1) : sg x y = 1 := by
  unfold sg
  rw [if_pos hy, h]
  rfl
theorem low_one {x y : Int} (hy : 0 < y) (h : Nat.gcd x.natAbs y.natAbs = 1) : lowT x y = x ∧ lowB x y = y := by
  unfold lowT lowB
  rw [sg_one hy h]
  exact ⟨Int.fdiv_one x, Int.fdiv_one y⟩
theorem low_low {a b : Int} (hb : b ≠ 0) : lowT (lowT a b) (lowB a b) = lowT a b ∧ lowB (lowT a b) (lowB a b) = lowB a b := low_one (lowB_pos hb) (low_gcd hb)
theorem low_int (i : Int) : lowT i 1 = i ∧ lowB i 1 = 1 := low_one (by decide) (by show Nat.gcd i.natAbs 1 = 1; exact Nat.gcd_one_right _)
/-! ### how shares and things compare -/
theorem cmp_fo {K : PySem.W.Frag} {C a dx : Addr} {t n : Int} {H : Hp} {y : V} {T : String} (e : H a = some (.ins C dx (shF t n))) (h : Fo K H y T) {b : Bool} (hb : b = (isI y && (decide (V.int n = V.int 1) && decide (V.int t = y)))) : Cmp K C H (.ref a) y b ∧ Cmp K C H y (.ref a) b :=
  have eq : EqS K C a y b H := ⟨dx, t, n, e, .inr ⟨⟨T, h⟩, hb⟩⟩
  ⟨.inl ⟨a, dx, _, rfl, e, eq, .inl ⟨T, h⟩⟩, .inr ⟨a, dx, _, T, rfl, e, h, eq⟩⟩
theorem cmp_sh {K : PySem.W.Frag} {C a dx c dy : Addr} {t n t' n' : Int} {H : Hp} (e : H a = some (.ins C dx (shF t n))) (e' : H c = some (.ins C dy (shF t' n'))) : Cmp K C H (.ref a) (.ref c) (decide (V.int t = V.int t') && decide (V.int n = V.int n')) :=
  .inl ⟨a, dx, _, rfl, e, ⟨dx, t, n, e, .inl ⟨c, dy, t', n', rfl, e', rfl⟩⟩, .inr ⟨c, dy, _, rfl, e'⟩⟩
theorem cmp_sh2 {K : PySem.W.Frag} {C a dx c dy : Addr} {t n t' n' : Int} {H : Hp} (e : H a = some (.ins C dx (shF t n))) (e' : H c = some (.ins C dy (shF t' n'))) {b : Bool} (hb : b = (decide (V.int t = V.int t') && decide (V.int n = V.int n'))) :
    Cmp K C H (.ref a) (.ref c) b ∧ Cmp K C H (.ref c) (.ref a) b := by
  subst hb
  refine ⟨cmp_sh e e', ?_⟩
  have h := cmp_sh (K := K) e' e
  have z : (decide (V.int t' = V.int t) && decide (V.int n' = V.int n)) = (decide (V.int t = V.int t') && decide (V.int n = V.int n')) := by
    rw [decide_eq_decide.mpr (⟨Eq.symm, Eq.symm⟩ : V.int t' = V.int t ↔ V.int t = V.int t'), decide_eq_decide.mpr (⟨Eq.symm, Eq.symm⟩ : V.int n' = V.int n ↔ V.int n = V.int n')]
  rw [z] at h
  exact h
theorem eqv_pair (x y x' y' : Int) : PyData.eqv (.tuple [.int x, .int y]) (.tuple [.int x', .int y']) = (decide (V.int x = V.int x') && decide (V.int y = V.int y')) := by
  rw [Bool.eq_iff_iff]
  simp [PyData.eqv, PyData.eqvAll]
theorem si_ok {K : PySem.W.Frag} {C B : Addr} {a b : Int} {H : Hp} {x dx : Addr} {Q : VK} {E : XK} (hx : H x = none) (hd : H dx = none) (ne : dx ≠ x) (nz : b ≠ 0) (hl : b.natAbs.log2 < 9000)
    (k : ∀ H', Same H H' → H' x = some (.ins C dx (shF (lowT a b) (lowB a b))) → Q .non H') : spSI K C B [.ref x, .int a, .int b] (upd (upd H dx (.own x)) x (.ins C dx [])) Q E :=
  ⟨x, dx, .int a, .int b, rfl, upd_same, .fo (.int a), .fo (.int b), .inl ⟨a, b, rfl, rfl, nz, hl, k _ (mk_same hx hd ne) upd_same⟩⟩
theorem fo_same {K : PySem.W.Frag} {H H' : Hp} {x : V} {T : String} (h : Fo K H x T) (s : Same H H') : Fo K H' x T := by
  cases h with
  | non => exact .non
  | bl b => exact .bl b
  | int i => exact .int i
  | str x => exact .str x
  | lst e => exact .lst (s _ _ e)
  | tup e => exact .tup (s _ _ e)
  | dK e => exact .dK (s _ _ e)
end K3

set_option Elab.async false
set_option linter.all false
set_option maxRecDepth 100000
set_option maxHeartbeats 4000000
namespace K3
open PySem L2
/-- a number: an integer, or a share with these fields -/
def Nm (C : Addr) (H : Hp) (v : V) (t n : Int) : Prop := (v = .int t ∧ n = 1) ∨ ∃ a dx, v = .ref a ∧ H a = some (.ins C dx (shF t n))
/-- lowest terms, of a moderate size -/
structure Low (t n : Int) : Prop where
  pos : 0 < n
  gcd : Nat.gcd t.natAbs n.natAbs = 1
  tb : t.natAbs < 2 ^ 4000
  nb : n.natAbs < 2 ^ 4000
theorem Nm.same {C : Addr} {H H' : Hp} {v : V} {t n : Int} (h : Nm C H v t n) (s : Same H H') : Nm C H' v t n := by
  rcases h with h | ⟨a, dx, e, h⟩
  · exact .inl h
  · exact .inr ⟨a, dx, e, s _ _ h⟩
theorem Nm.thing {K : PySem.W.Frag} {C : Addr} {H : Hp} {v : V} {t n : Int} (h : Nm C H v t n) : Thing K C H v := by
  rcases h with ⟨rfl, _⟩ | ⟨a, dx, rfl, h⟩
  · exact .fo (.int t)
  · exact .ins h
theorem Low.mulW {t n t' n' : Int} (h : t.natAbs < 2 ^ 4000) (h' : t'.natAbs < 2 ^ 4000) : CMulW t t' := wide_mul h h' (by decide) (by decide) (by decide)
theorem mul_lt {a b : Int} {i j : Nat} (h : a.natAbs < 2 ^ i) (h' : b.natAbs < 2 ^ j) : (a * b).natAbs < 2 ^ (i + j) := by
  rw [Int.natAbs_mul, Nat.pow_add]
  exact Nat.mul_lt_mul'' h h'
theorem log_of {a : Int} {i : Nat} (h : a.natAbs < 2 ^ i) (h0 : 0 < i) (hi : i ≤ 9000) : a.natAbs.log2 < 9000 := Nat.lt_of_lt_of_le (PySem.Flt.log2_lt_of h0 h) hi
section
variable {P : Program} {w : World} {K : PySem.W.Frag} {mg : Str → Option Value} {base : Heap} {C B : Addr}
/-- is_share(thing) -/
def spIsShare (K : PySem.W.Frag) (C : Addr) : Sp := fun vs H Q _ => ∃ x, vs = [x] ∧ ((∃ t n, Nm C H x t n ∧ Q (.bl true) H) ∨ ∃ T, Fo K H x T ∧ isI x = false ∧ Q (.bl false) H)
abbrev s_is_share : Stmt := top 13
theorem sc_is_share : FnScope ["thing"] ["thing"] (defScope s_is_share) := ⟨rfl, rfl, rfl, by decide +kernel, rfl, by decide +kernel, by decide +kernel⟩
theorem ok_is_share {f : Addr} {fd : FuncData} (F : Fun K "is_share" "is_share" s_is_share f fd) (T : ShT K mg C) (c_is_whole : Cal P w K mg base 1 "is_whole" ["thing"] (spWhole K C)) : FnOk P w K mg base CX0 2 f fd ["thing"] (spIsShare K C) := by
  refine F.ok sc_is_share (fun vs H Q E h => ?_) (fun cdv A outer s H vs Q E hr h => ?_)
  · obtain ⟨x, rfl, _⟩ := h
    rfl
  · obtain ⟨x, rfl, h⟩ := h
    refine ⟨_, (pss_one (ps_ret (pe_or (pe_callB call_isi (by rfl) T.bn.n_isinstance (by decide +kernel) (pa_cons (pv 0) (pa_cons (pe_glob (v := .ref C) rfl T.g_Share rfl) pa_nil))) (pe_one (pe_cal c_is_whole (hr.mono (by decide)) rfl (pa_cons (pv 0) pa_nil)))))), ?_⟩
    rcases h with ⟨t, n, ⟨rfl, rfl⟩ | ⟨a, dx, rfl, e⟩, k⟩ | ⟨T', fo, ix, k⟩
    · refine ⟨_, rfl, .int t, .ref C, _, _, false, rfl, .own C, (Fo.int t).ty, T.it.fo (H := H) (.int t), _, rfl, iteF ?_⟩
      exact ⟨_, rfl, .int t, rfl, .fo (.int t), k⟩
    · exact ⟨_, rfl, .ref a, .ref C, _, _, true, rfl, .own C, T.it.ty e, T.it.kself, _, rfl, iteT k⟩
    · refine ⟨_, rfl, x, .ref C, _, _, false, rfl, .own C, fo.ty, T.it.fo fo, _, rfl, iteF ?_⟩
      refine ⟨_, rfl, x, rfl, .fo fo, ?_⟩
      rw [ix]
      exact k
/-- share_of(number) -/
def spShareOf (C : Addr) : Sp := fun vs H Q _ => ∃ x t n, vs = [x] ∧ Nm C H x t n ∧ ∀ (a dx : Addr) (H' : Hp), Same H H' → H' a = some (.ins C dx (shF t n)) → Q (.ref a) H'
abbrev s_share_of : Stmt := top 14
theorem sc_share_of : FnScope ["thing"] ["thing"] (defScope s_share_of) := ⟨rfl, rfl, rfl, by decide +kernel, rfl, by decide +kernel, by decide +kernel⟩
theorem ok_share_of {f : Addr} {fd : FuncData} (F : Fun K "share_of" "share_of" s_share_of f fd) (T : ShT K mg C) (m : MkT P w K mg base C B) : FnOk P w K mg base CX0 6 f fd ["thing"] (spShareOf C) := by
  refine F.ok sc_share_of (fun vs H Q E h => ?_) (fun cdv A outer s H vs Q E hr h => ?_)
  · obtain ⟨x, t, n, rfl, _⟩ := h
    rfl
  · obtain ⟨x, t, n, rfl, h, k⟩ := h
    refine ⟨_, (pss_cons (ps_if (pt_val (pe_callB call_isi (by rfl) T.bn.n_isinstance (by decide +kernel) (pa_cons (pv 0) (pa_cons (pe_glob (v := .ref C) rfl T.g_Share rfl) pa_nil))))
        (pss_one (ps_ret (pv 0)))
        pss_nil)
      (pss_one (ps_ret (pe_share1 m hr rfl (pa_cons (pv 0) pa_nil))))), ?_⟩
    rcases h with ⟨rfl, rfl⟩ | ⟨a, dx, rfl, e⟩
    · refine ⟨_, rfl, .int t, .ref C, _, _, false, rfl, .own C, (Fo.int t).ty, T.it.fo (H := H) (.int t), _, rfl, iteF ?_⟩
      refine ⟨_, rfl, fun z dz hz hd ne => si_ok hz hd ne (a := t) (b := 1) (by decide) (by decide +kernel) fun H' s e => ⟨rfl, ?_⟩⟩
      rw [(low_int t).1, (low_int t).2] at e
      exact k z dz _ s e
    · exact ⟨_, rfl, .ref a, .ref C, _, _, true, rfl, .own C, T.it.ty e, T.it.kself, _, rfl, iteT ⟨_, rfl, k a dx H (Same.refl H) e⟩⟩
/-- share.less(number) -/
def spLess (C : Addr) : Sp := fun vs H Q _ => ∃ (a dx : Addr) (y : V) (t n t' n' : Int), vs = [.ref a, y] ∧ H a = some (.ins C dx (shF t n)) ∧ Nm C H y t' n' ∧ Low t n ∧ Low t' n' ∧ ∀ H', Same H H' → Q (.bl (decide (t * n' < t' * n))) H'
abbrev s_sless : Stmt := inClass (top 12) 12
theorem sc_sless : FnScope ["self", "other", "beside"] ["self", "other"] (defScope s_sless) := ⟨rfl, rfl, rfl, by decide +kernel, rfl, by decide +kernel, by decide +kernel⟩
theorem ok_sless {f : Addr} {fd : FuncData} (F : Fun K "less" "Share.less" s_sless f fd) (T : ShT K mg C) (c_of : Cal P w K mg base 6 "share_of" ["thing"] (spShareOf C)) : FnOk P w K mg base CX0 7 f fd ["self", "other"] (spLess C) := by
  refine F.ok sc_sless (fun vs H Q E h => ?_) (fun cdv A outer s H vs Q E hr h => ?_)
  · obtain ⟨a, dx, y, t, n, t', n', rfl, _⟩ := h
    rfl
  · obtain ⟨a, dx, y, t, n, t', n', rfl, ha, hy, l1, l2, k⟩ := h
    refine ⟨_, (pss_cons (ps_set (i := 2) sc_sless.nd rfl (Or.inl rfl) (pe_cal c_of hr rfl (pa_cons (pv 1) pa_nil)))
      (pss_one (ps_ret (pe_cmpR op_lt (pe_op op_mulW (pe_fld (pv 0) rfl) (pe_fld (pv 2) rfl)) (pe_op op_mulW (pe_fld (pv 2) rfl) (pe_fld (pv 0) rfl)) (nomark _))))), ?_⟩
    refine ⟨_, rfl, y, t', n', rfl, hy, fun b db H1 s1 e1 => ?_⟩
    have ha1 := s1 _ _ ha
    refine ⟨_, rfl, a, C, dx, _, _, rfl, ha1, T.it.cl, T.nT, shF_top _ _, _, rfl, b, C, db, _, _, rfl, e1, T.it.cl, T.nB, shF_bottom _ _, t, n', rfl, rfl, wide_mul l1.tb l2.nb (by decide) (by decide) (by decide), ?_⟩
    refine ⟨_, rfl, b, C, db, _, _, rfl, e1, T.it.cl, T.nT, shF_top _ _, _, rfl, a, C, dx, _, _, rfl, ha1, T.it.cl, T.nB, shF_bottom _ _, t', n, rfl, rfl, wide_mul l2.tb l1.nb (by decide) (by decide) (by decide), ?_⟩
    exact ⟨_, _, rfl, rfl, k _ s1⟩
end
end K3

set_option Elab.async false
set_option linter.all false
set_option maxRecDepth 100000
set_option maxHeartbeats 4000000
namespace K3
open PySem L2
theorem Low.neg {t n : Int} (h : Low t n) : Low (-t) n := ⟨h.pos, by rw [Int.natAbs_neg]; exact h.gcd, by rw [Int.natAbs_neg]; exact h.tb, h.nb⟩
theorem Low.one {i : Int} (h : i.natAbs < 2 ^ 4000) : Low i 1 := ⟨by decide, by show Nat.gcd i.natAbs 1 = 1; exact Nat.gcd_one_right _, h, by decide +kernel⟩
theorem Nm.neg_int {C : Addr} {H : Hp} (i : Int) : Nm C H (.int i) i 1 := .inl ⟨rfl, rfl⟩
/-- the methods for + and - are where they should be -/
structure ArT (P : Program) (w : World) (K : PySem.W.Frag) (mg : Str → Option Value) (base : Heap) (C : Addr) (op : Operator) (sym nm : String) (k k' : Nat) (sp spR : Sp) : Prop where
  ex : ∃ (f g : Addr) (fd gd : FuncData), ArL K C op sym nm f ∧ ArR K C nm g ∧ FnOk P w K mg base CX0 k f fd ["self", "other"] sp ∧ Binds K fd ["self", "other"] [] ∧ FnOk P w K mg base CX0 k' g gd ["self", "other"] spR ∧ Binds K gd ["self", "other"] []
/-- the left method alone -/
structure ArTL (P : Program) (w : World) (K : PySem.W.Frag) (mg : Str → Option Value) (base : Heap) (C : Addr) (op : Operator) (sym nm : String) (k : Nat) (sp : Sp) : Prop where
  ex : ∃ (f g : Addr) (fd : FuncData), ArL K C op sym nm f ∧ ArR K C nm g ∧ FnOk P w K mg base CX0 k f fd ["self", "other"] sp ∧ Binds K fd ["self", "other"] []
structure NegT (P : Program) (w : World) (K : PySem.W.Frag) (mg : Str → Option Value) (base : Heap) (C : Addr) (k : Nat) (sp : Sp) : Prop where
  ex : ∃ (f : Addr) (fd : FuncData), PySem.W.findIn K (.ref C) "__neg__" = some (some (.ref f)) ∧ PySem.W.isFn K (.ref f) = true ∧ FnOk P w K mg base CX0 k f fd ["self"] sp ∧ Binds K fd ["self"] []
theorem ArTL.op {X : Cx} {C : Addr} {op : Operator} {sym nm : String} {k : Nat} {sp : Sp} (c : ArTL X.prog X.w X.K X.mg X.base C op sym nm k sp) (hr : Room k X.A) : OpN X (binaryOp op) (rArL C sp) := by
  obtain ⟨f, g, fd, L, R, F, b⟩ := c.ex
  exact op_arL L R F b hr
theorem ArT.op {X : Cx} {C : Addr} {op : Operator} {sym nm : String} {k k' : Nat} {sp spR : Sp} (c : ArT X.prog X.w X.K X.mg X.base C op sym nm k k' sp spR) (hr : Room k X.A) (hr' : Room k' X.A) : OpN X (binaryOp op) (rAr C sp spR) := by
  obtain ⟨f, g, fd, gd, L, R, F, b, G, b'⟩ := c.ex
  exact op_ar L R F b hr G b' hr'
theorem NegT.op {X : Cx} {C : Addr} {k : Nat} {sp : Sp} (c : NegT X.prog X.w X.K X.mg X.base C k sp) (hr : Room k X.A) : UnR X (unaryOp .USub) (rUnO C sp) := by
  obtain ⟨f, fd, h1, h2, F, b⟩ := c.ex
  exact un_own h1 h2 F b hr
theorem other_of {C : Addr} {H : Hp} {y : V} {t n : Int} (h : Nm C H y t n) : (∃ i, y = .int i) ∨ ∃ c dy gs, y = .ref c ∧ H c = some (.ins C dy gs) := by
  rcases h with ⟨rfl, _⟩ | ⟨a, dx, rfl, e⟩
  · exact .inl ⟨t, rfl⟩
  · exact .inr ⟨a, dx, _, rfl, e⟩
/-- a new share with the lowest terms of a over b -/
def NewSh (C : Addr) (H : Hp) (Q : VK) (a b : Int) : Prop := ∀ (z dz : Addr) (H' : Hp), Same H H' → H' z = some (.ins C dz (shF (lowT a b) (lowB a b))) → Q (.ref z) H'
def spNeg (C : Addr) : Sp := fun vs H Q _ => ∃ (a dx : Addr) (t n : Int), vs = [.ref a] ∧ H a = some (.ins C dx (shF t n)) ∧ Low t n ∧ ∀ (z dz : Addr) (H' : Hp), Same H H' → H' z = some (.ins C dz (shF (-t) n)) → Q (.ref z) H'
def spAdd (C : Addr) : Sp := fun vs H Q _ => ∃ (a dx : Addr) (y : V) (t n t' n' : Int), vs = [.ref a, y] ∧ H a = some (.ins C dx (shF t n)) ∧ Nm C H y t' n' ∧ Low t n ∧ Low t' n' ∧ NewSh C H Q (t * n' + t' * n) (n * n')
def spSub (C : Addr) : Sp := fun vs H Q _ => ∃ (a dx : Addr) (y : V) (t n t' n' : Int), vs = [.ref a, y] ∧ H a = some (.ins C dx (shF t n)) ∧ Nm C H y t' n' ∧ Low t n ∧ Low t' n' ∧ NewSh C H Q (t * n' + -t' * n) (n * n')
def spRadd (C : Addr) : Sp := fun vs H Q _ => ∃ (a dx : Addr) (i t n : Int), vs = [.ref a, .int i] ∧ H a = some (.ins C dx (shF t n)) ∧ Low t n ∧ Low i 1 ∧ NewSh C H Q (t * 1 + i * n) (n * 1)
def spRsub (C : Addr) : Sp := fun vs H Q _ => ∃ (a dx : Addr) (i t n : Int), vs = [.ref a, .int i] ∧ H a = some (.ins C dx (shF t n)) ∧ Low t n ∧ Low i 1 ∧ NewSh C H Q (-t * 1 + i * n) (n * 1)
section
variable {P : Program} {w : World} {K : PySem.W.Frag} {mg : Str → Option Value} {base : Heap} {C B : Addr}
abbrev s_neg : Stmt := inClass (top 12) 3
theorem sc_neg : FnScope ["self"] ["self"] (defScope s_neg) := ⟨rfl, rfl, rfl, by decide +kernel, rfl, by decide +kernel, by decide +kernel⟩
theorem ok_neg {f : Addr} {fd : FuncData} (F : Fun K "__neg__" "Share.__neg__" s_neg f fd) (T : ShT K mg C) (m : MkT P w K mg base C B) : FnOk P w K mg base CX0 6 f fd ["self"] (spNeg C) := by
  refine F.ok sc_neg (fun vs H Q E h => ?_) (fun cdv A outer s H vs Q E hr h => ?_)
  · obtain ⟨a, dx, t, n, rfl, _⟩ := h
    rfl
  · obtain ⟨a, dx, t, n, rfl, ha, l, k⟩ := h
    refine ⟨_, (pss_one (ps_ret (pe_share2 m hr rfl (pa_cons (pe_un un_neg (pe_fld (pv 0) rfl)) (pa_cons (pe_fld (pv 0) rfl) pa_nil))))), ?_⟩
    refine ⟨_, rfl, a, C, dx, _, _, rfl, ha, T.it.cl, T.nT, shF_top _ _, t, rfl, _, rfl, a, C, dx, _, _, rfl, ha, T.it.cl, T.nB, shF_bottom _ _, fun z dz hz hd ne => si_ok hz hd ne (a := -t) (b := n) (by have := l.pos; omega) (log_of l.nb (by decide) (by decide)) fun H' s e => ⟨rfl, ?_⟩⟩
    have h1 := low_one (x := -t) l.pos (by rw [Int.natAbs_neg]; exact l.gcd)
    rw [h1.1, h1.2] at e
    exact k z dz H' s e
abbrev s_add : Stmt := inClass (top 12) 1
theorem sc_add : FnScope ["self", "other", "beside"] ["self", "other"] (defScope s_add) := ⟨rfl, rfl, rfl, by decide +kernel, rfl, by decide +kernel, by decide +kernel⟩
theorem ok_add {f : Addr} {fd : FuncData} (F : Fun K "__add__" "Share.__add__" s_add f fd) (T : ShT K mg C) (m : MkT P w K mg base C B) (c_is : Cal P w K mg base 2 "is_share" ["thing"] (spIsShare K C)) (c_of : Cal P w K mg base 6 "share_of" ["thing"] (spShareOf C)) :
    FnOk P w K mg base CX0 7 f fd ["self", "other"] (spAdd C) := by
  refine F.ok sc_add (fun vs H Q E h => ?_) (fun cdv A outer s H vs Q E hr h => ?_)
  · obtain ⟨a, dx, y, t, n, t', n', rfl, _⟩ := h
    rfl
  · obtain ⟨a, dx, y, t, n, t', n', rfl, ha, hy, l1, l2, k⟩ := h
    refine ⟨_, (pss_cons (ps_if (pt_not (pt_val (pe_cal c_is (hr.mono (by decide)) rfl (pa_cons (pv 1) pa_nil))))
        pss_never
        pss_nil)
      (pss_cons (ps_set (i := 2) sc_add.nd rfl (Or.inl rfl) (pe_cal c_of hr rfl (pa_cons (pv 1) pa_nil)))
      (pss_one (ps_ret (pe_share2 m (hr.mono (by decide)) rfl (pa_cons (pe_op op_add (pe_op op_mulW (pe_fld (pv 0) rfl) (pe_fld (pv 2) rfl)) (pe_op op_mulW (pe_fld (pv 2) rfl) (pe_fld (pv 0) rfl))) (pa_cons (pe_op op_mulW (pe_fld (pv 0) rfl) (pe_fld (pv 2) rfl)) pa_nil))))))), ?_⟩
    refine ⟨_, rfl, y, rfl, .inl ⟨t', n', hy, _, rfl, iteF ?_⟩⟩
    refine ⟨_, rfl, y, t', n', rfl, hy, fun b db H1 s1 e1 => ?_⟩
    have ha1 := s1 _ _ ha
    refine ⟨_, rfl, a, C, dx, _, _, rfl, ha1, T.it.cl, T.nT, shF_top _ _, _, rfl, b, C, db, _, _, rfl, e1, T.it.cl, T.nB, shF_bottom _ _, t, n', rfl, rfl, wide_mul l1.tb l2.nb (by decide) (by decide) (by decide), ?_⟩
    refine ⟨_, rfl, b, C, db, _, _, rfl, e1, T.it.cl, T.nT, shF_top _ _, _, rfl, a, C, dx, _, _, rfl, ha1, T.it.cl, T.nB, shF_bottom _ _, t', n, rfl, rfl, wide_mul l2.tb l1.nb (by decide) (by decide) (by decide), ?_⟩
    refine ⟨_, _, rfl, rfl, _, rfl, a, C, dx, _, _, rfl, ha1, T.it.cl, T.nB, shF_bottom _ _, _, rfl, b, C, db, _, _, rfl, e1, T.it.cl, T.nB, shF_bottom _ _, n, n', rfl, rfl, wide_mul l1.nb l2.nb (by decide) (by decide) (by decide), ?_⟩
    have p1 := l1.pos
    have p2 := l2.pos
    have pp : 0 < n * n' := Int.mul_pos p1 p2
    refine fun z dz hz hd ne => si_ok hz hd ne (a := t * n' + t' * n) (b := n * n') (by omega) (log_of (mul_lt l1.nb l2.nb) (by decide) (by decide)) fun H' s e => ⟨rfl, ?_⟩
    exact k z dz H' (s1.trans s) e
abbrev s_radd : Stmt := inClass (top 12) 2
theorem sc_radd : FnScope ["self", "other"] ["self", "other"] (defScope s_radd) := ⟨rfl, rfl, rfl, by decide +kernel, rfl, by decide +kernel, by decide +kernel⟩
theorem ok_radd {f : Addr} {fd : FuncData} (F : Fun K "__radd__" "Share.__radd__" s_radd f fd) (c_is_whole : Cal P w K mg base 1 "is_whole" ["thing"] (spWhole K C)) (ad : ArTL P w K mg base C .Add "+" "add" 7 (spAdd C)) :
    FnOk P w K mg base CX0 8 f fd ["self", "other"] (spRadd C) := by
  refine F.ok sc_radd (fun vs H Q E h => ?_) (fun cdv A outer s H vs Q E hr h => ?_)
  · obtain ⟨a, dx, i, t, n, rfl, _⟩ := h
    rfl
  · obtain ⟨a, dx, i, t, n, rfl, ha, l1, l2, k⟩ := h
    have o := (ArTL.op (X := (cxOf CX0 P w K mg base ["self", "other"] "Share.__radd__" (defScope s_radd) f cdv A outer s H E).nox) ad hr).toR
    refine ⟨_, (pss_cons (ps_if (pt_not (pt_val (pe_cal c_is_whole (hr.mono (by decide)) rfl (pa_cons (pv 1) pa_nil))))
        pss_never
        pss_nil)
      (pss_one (ps_ret (pe_op o (pv 0) (pv 1))))), ?_⟩
    refine ⟨_, rfl, .int i, rfl, .fo (.int i), _, rfl, iteF ?_⟩
    exact ⟨_, rfl, _, rfl, a, dx, _, rfl, ha, .inl ⟨i, rfl⟩, a, dx, .int i, t, n, i, 1, rfl, ha, .inl ⟨rfl, rfl⟩, l1, l2, k⟩
abbrev s_sub : Stmt := inClass (top 12) 4
theorem sc_sub : FnScope ["self", "other"] ["self", "other"] (defScope s_sub) := ⟨rfl, rfl, rfl, by decide +kernel, rfl, by decide +kernel, by decide +kernel⟩
theorem ok_sub {f : Addr} {fd : FuncData} (F : Fun K "__sub__" "Share.__sub__" s_sub f fd) (c_is : Cal P w K mg base 2 "is_share" ["thing"] (spIsShare K C)) (ad : ArTL P w K mg base C .Add "+" "add" 7 (spAdd C)) (ng : NegT P w K mg base C 6 (spNeg C)) :
    FnOk P w K mg base CX0 8 f fd ["self", "other"] (spSub C) := by
  refine F.ok sc_sub (fun vs H Q E h => ?_) (fun cdv A outer s H vs Q E hr h => ?_)
  · obtain ⟨a, dx, y, t, n, t', n', rfl, _⟩ := h
    rfl
  · obtain ⟨a, dx, y, t, n, t', n', rfl, ha, hy, l1, l2, k⟩ := h
    have o := (ArTL.op (X := (cxOf CX0 P w K mg base ["self", "other"] "Share.__sub__" (defScope s_sub) f cdv A outer s H E).nox) ad hr).toR
    have un := NegT.op (X := (cxOf CX0 P w K mg base ["self", "other"] "Share.__sub__" (defScope s_sub) f cdv A outer s H E).nox) ng (hr.mono (by decide))
    refine ⟨_, (pss_cons (ps_if (pt_not (pt_val (pe_cal c_is (hr.mono (by decide)) rfl (pa_cons (pv 1) pa_nil))))
        pss_never
        pss_nil)
      (pss_one (ps_ret (pe_op o (pv 0) (pe_un un (pv 1)))))), ?_⟩
    refine ⟨_, rfl, y, rfl, .inl ⟨t', n', hy, _, rfl, iteF ?_⟩⟩
    refine ⟨_, rfl, _, rfl, ?_⟩
    rcases hy with ⟨rfl, rfl⟩ | ⟨b, db, rfl, hb⟩
    · exact .inl ⟨t', rfl, a, dx, _, rfl, ha, .inl ⟨_, rfl⟩, a, dx, .int (-t'), t, n, -t', 1, rfl, ha, .inl ⟨rfl, rfl⟩, l1, l2.neg, k⟩
    · refine .inr ⟨b, db, _, rfl, hb, b, db, t', n', rfl, hb, l2, fun z dz H1 s1 e1 => ?_⟩
      exact ⟨a, dx, _, rfl, s1 _ _ ha, .inr ⟨z, dz, _, rfl, e1⟩, a, dx, .ref z, t, n, -t', n', rfl, s1 _ _ ha, .inr ⟨z, dz, rfl, e1⟩, l1, l2.neg, fun z2 dz2 H2 s2 e2 => k z2 dz2 H2 (s1.trans s2) e2⟩
abbrev s_rsub : Stmt := inClass (top 12) 5
theorem sc_rsub : FnScope ["self", "other"] ["self", "other"] (defScope s_rsub) := ⟨rfl, rfl, rfl, by decide +kernel, rfl, by decide +kernel, by decide +kernel⟩
theorem ok_rsub {f : Addr} {fd : FuncData} (F : Fun K "__rsub__" "Share.__rsub__" s_rsub f fd) (c_is_whole : Cal P w K mg base 1 "is_whole" ["thing"] (spWhole K C)) (ad : ArTL P w K mg base C .Add "+" "add" 7 (spAdd C)) (ng : NegT P w K mg base C 6 (spNeg C)) :
    FnOk P w K mg base CX0 8 f fd ["self", "other"] (spRsub C) := by
  refine F.ok sc_rsub (fun vs H Q E h => ?_) (fun cdv A outer s H vs Q E hr h => ?_)
  · obtain ⟨a, dx, i, t, n, rfl, _⟩ := h
    rfl
  · obtain ⟨a, dx, i, t, n, rfl, ha, l1, l2, k⟩ := h
    have o := (ArTL.op (X := (cxOf CX0 P w K mg base ["self", "other"] "Share.__rsub__" (defScope s_rsub) f cdv A outer s H E).nox) ad hr).toR
    have un := NegT.op (X := (cxOf CX0 P w K mg base ["self", "other"] "Share.__rsub__" (defScope s_rsub) f cdv A outer s H E).nox) ng (hr.mono (by decide))
    refine ⟨_, (pss_cons (ps_if (pt_not (pt_val (pe_cal c_is_whole (hr.mono (by decide)) rfl (pa_cons (pv 1) pa_nil))))
        pss_never
        pss_nil)
      (pss_one (ps_ret (pe_op o (pe_un un (pv 0)) (pv 1))))), ?_⟩
    refine ⟨_, rfl, .int i, rfl, .fo (.int i), _, rfl, iteF ?_⟩
    refine ⟨_, rfl, .inr ⟨a, dx, _, rfl, ha, a, dx, t, n, rfl, ha, l1, fun z dz H1 s1 e1 => ⟨_, rfl, ?_⟩⟩⟩
    exact ⟨z, dz, _, rfl, e1, .inl ⟨i, rfl⟩, z, dz, .int i, -t, n, i, 1, rfl, e1, .inl ⟨rfl, rfl⟩, l1.neg, l2, fun z2 dz2 H2 s2 e2 => k z2 dz2 H2 (s1.trans s2) e2⟩
end
end K3

set_option Elab.async false
set_option linter.all false
set_option maxRecDepth 100000
set_option maxHeartbeats 4000000
namespace K3
open PySem L2
theorem low_cross (S D : Int) : lowT S D * D = S * lowB S D := by
  have h1 := low_mulT S D
  have h2 := low_mulB S D
  calc lowT S D * D = lowT S D * (lowB S D * sg S D) := by rw [h2]
    _ = (lowT S D * sg S D) * lowB S D := by rw [Int.mul_comm (lowB S D), Int.mul_assoc]
    _ = S * lowB S D := by rw [h1]
/-- lowest terms are told by the ratio -/
theorem low_unique {p q p' q' : Int} (hq : 0 < q) (hq' : 0 < q') (g : Nat.gcd p.natAbs q.natAbs = 1) (g' : Nat.gcd p'.natAbs q'.natAbs = 1) (e : p * q' = p' * q) : p = p' ∧ q = q' := by
  have ea : p.natAbs * q'.natAbs = p'.natAbs * q.natAbs := by rw [← Int.natAbs_mul, ← Int.natAbs_mul, e]
  have d1 : q.natAbs ∣ q'.natAbs := by
    have c : Nat.Coprime q.natAbs p.natAbs := by
      show Nat.gcd q.natAbs p.natAbs = 1
      rw [Nat.gcd_comm]
      exact g
    exact c.dvd_of_dvd_mul_left ⟨p'.natAbs, by rw [ea, Nat.mul_comm]⟩
  have d2 : q'.natAbs ∣ q.natAbs := by
    have c : Nat.Coprime q'.natAbs p'.natAbs := by
      show Nat.gcd q'.natAbs p'.natAbs = 1
      rw [Nat.gcd_comm]
      exact g'
    exact c.dvd_of_dvd_mul_left ⟨p.natAbs, by rw [← ea, Nat.mul_comm]⟩
  have eq : q = q' := by
    have := Nat.dvd_antisymm d1 d2
    omega
  subst eq
  exact ⟨Int.eq_of_mul_eq_mul_right (by omega) e, rfl⟩
theorem low_ratio {a b c d : Int} (hb : b ≠ 0) (hd : d ≠ 0) (e : a * d = c * b) : lowT a b = lowT c d ∧ lowB a b = lowB c d := by
  refine low_unique (lowB_pos hb) (lowB_pos hd) (low_gcd hb) (low_gcd hd) ?_
  have h1 := low_cross a b
  have h2 := low_cross c d
  have key : (lowT a b * lowB c d) * (b * d) = (lowT c d * lowB a b) * (b * d) := by
    calc (lowT a b * lowB c d) * (b * d) = (lowT a b * b) * (d * lowB c d) := by ac_rfl
      _ = (a * lowB a b) * (d * lowB c d) := by rw [h1]
      _ = (a * d) * (lowB a b * lowB c d) := by ac_rfl
      _ = (c * b) * (lowB a b * lowB c d) := by rw [e]
      _ = (c * lowB c d) * (lowB a b * b) := by ac_rfl
      _ = (lowT c d * d) * (lowB a b * b) := by rw [← h2]
      _ = (lowT c d * lowB a b) * (b * d) := by ac_rfl
  exact Int.eq_of_mul_eq_mul_right (Int.mul_ne_zero hb hd) key
/-- v is the number S over D -/
def Num (C : Addr) (H : Hp) (v : V) (S D : Int) : Prop := Nm C H v (lowT S D) (lowB S D)
theorem Num.same {C : Addr} {H H' : Hp} {v : V} {S D : Int} (h : Num C H v S D) (s : Same H H') : Num C H' v S D := Nm.same h s
theorem low_of {S D : Int} (hD : 0 < D) (hS : S.natAbs < 2 ^ 4000) (hDb : D.natAbs < 2 ^ 4000) : Low (lowT S D) (lowB S D) :=
  ⟨lowB_pos (by omega), low_gcd (by omega), Nat.lt_of_le_of_lt (lowT_le (by omega)) hS, Nat.lt_of_le_of_lt (lowB_le (by omega)) hDb⟩
theorem low_sum {S S' D : Int} (hD : 0 < D) : lowT (lowT S D * lowB S' D + lowT S' D * lowB S D) (lowB S D * lowB S' D) = lowT (S + S') D ∧ lowB (lowT S D * lowB S' D + lowT S' D * lowB S D) (lowB S D * lowB S' D) = lowB (S + S') D := by
  have p1 := lowB_pos (a := S) (b := D) (by omega)
  have p2 := lowB_pos (a := S') (b := D) (by omega)
  refine low_ratio (Int.mul_ne_zero (by omega) (by omega)) (by omega) ?_
  have h1 := low_cross S D
  have h2 := low_cross S' D
  rw [Int.add_mul, Int.add_mul]
  congr 1
  · calc lowT S D * lowB S' D * D = (lowT S D * D) * lowB S' D := by ac_rfl
      _ = S * (lowB S D * lowB S' D) := by rw [h1]; ac_rfl
  · calc lowT S' D * lowB S D * D = (lowT S' D * D) * lowB S D := by ac_rfl
      _ = S' * (lowB S D * lowB S' D) := by rw [h2]; ac_rfl
theorem low_neg {S D : Int} (hD : 0 < D) : lowT (-S) D = -lowT S D ∧ lowB (-S) D = lowB S D := by
  refine low_unique (lowB_pos (by omega)) (lowB_pos (by omega)) (low_gcd (by omega)) (by rw [Int.natAbs_neg]; exact low_gcd (by omega)) ?_
  have h1 := low_cross (-S) D
  have h2 := low_cross S D
  have key : (lowT (-S) D * lowB S D) * D = (-lowT S D * lowB (-S) D) * D := by
    calc (lowT (-S) D * lowB S D) * D = (lowT (-S) D * D) * lowB S D := by ac_rfl
      _ = (-S * lowB (-S) D) * lowB S D := by rw [h1]
      _ = -(S * lowB S D) * lowB (-S) D := by rw [Int.neg_mul, Int.neg_mul, Int.neg_mul]; congr 1; ac_rfl
      _ = -(lowT S D * D) * lowB (-S) D := by rw [h2]
      _ = (-lowT S D * lowB (-S) D) * D := by rw [Int.neg_mul, Int.neg_mul, Int.neg_mul]; congr 1; ac_rfl
  exact Int.eq_of_mul_eq_mul_right (by omega) key
theorem low_diff {S S' D : Int} (hD : 0 < D) : lowT (lowT S D * lowB S' D + -lowT S' D * lowB S D) (lowB S D * lowB S' D) = lowT (S - S') D ∧ lowB (lowT S D * lowB S' D + -lowT S' D * lowB S D) (lowB S D * lowB S' D) = lowB (S - S') D := by
  have h := low_sum (S := S) (S' := -S') hD
  rw [(low_neg (S := S') hD).1, (low_neg (S := S') hD).2] at h
  rw [Int.sub_eq_add_neg]
  exact h
theorem low_lt {S S' D : Int} (hD : 0 < D) : (lowT S D * lowB S' D < lowT S' D * lowB S D) ↔ S < S' := by
  have p1 := lowB_pos (a := S) (b := D) (by omega)
  have p2 := lowB_pos (a := S') (b := D) (by omega)
  have h1 := low_cross S D
  have h2 := low_cross S' D
  have e1 : (lowT S D * lowB S' D) * D = S * (lowB S D * lowB S' D) := by
    calc lowT S D * lowB S' D * D = (lowT S D * D) * lowB S' D := by ac_rfl
      _ = S * (lowB S D * lowB S' D) := by rw [h1]; ac_rfl
  have e2 : (lowT S' D * lowB S D) * D = S' * (lowB S D * lowB S' D) := by
    calc lowT S' D * lowB S D * D = (lowT S' D * D) * lowB S D := by ac_rfl
      _ = S' * (lowB S D * lowB S' D) := by rw [h2]; ac_rfl
  have pp : 0 < lowB S D * lowB S' D := Int.mul_pos p1 p2
  constructor
  · intro h
    have := Int.mul_lt_mul_of_pos_right h hD
    rw [e1, e2] at this
    exact Int.lt_of_mul_lt_mul_right this (Int.le_of_lt pp)
  · intro h
    have := Int.mul_lt_mul_of_pos_right h pp
    rw [← e1, ← e2] at this
    exact Int.lt_of_mul_lt_mul_right this (Int.le_of_lt hD)
theorem low_whole {i D : Int} (hD : 0 < D) : lowT (i * D) D = i ∧ lowB (i * D) D = 1 := by
  have h := low_ratio (a := i * D) (b := D) (c := i) (d := 1) (by omega) (by decide) (by rw [Int.mul_one])
  rw [h.1, h.2]
  exact low_int i
theorem Num.int {C : Addr} {H : Hp} {D : Int} (hD : 0 < D) (i : Int) : Num C H (.int i) (i * D) D := by
  unfold Num
  rw [(low_whole hD).1, (low_whole hD).2]
  exact .inl ⟨rfl, rfl⟩
theorem low_one_iff {S D : Int} (hD : 0 < D) : (lowT S D = 1 ∧ lowB S D = 1) ↔ S = D := by
  have h := low_cross S D
  constructor
  · rintro ⟨h1, h2⟩
    rw [h1, h2] at h
    omega
  · rintro rfl
    have := low_whole (i := 1) hD
    rw [Int.one_mul] at this
    exact this
end K3

set_option Elab.async false
set_option linter.all false
set_option maxRecDepth 100000
set_option maxHeartbeats 4000000
namespace K3
open PySem L2
theorem sum_bound {B : Nat} : ∀ (l : List Int), (∀ S ∈ l, S.natAbs ≤ B) → l.sum.natAbs ≤ l.length * B
  | [], _ => by simp
  | a :: r, h => by
    have h1 := sum_bound r fun S hS => h S (List.mem_cons_of_mem _ hS)
    have h2 := h a List.mem_cons_self
    rw [List.sum_cons, List.length_cons, Nat.succ_mul]
    have := Int.natAbs_add_le a r.sum
    omega
theorem sum_small {l : List Int} (hl : l.length ≤ 1000) (h : ∀ S ∈ l, S.natAbs < 2 ^ 3000) : l.sum.natAbs < 2 ^ 4000 := by
  have h1 := sum_bound (B := 2 ^ 3000) l fun S hS => Nat.le_of_lt (h S hS)
  have h2 : l.length * 2 ^ 3000 ≤ 1000 * 2 ^ 3000 := Nat.mul_le_mul_right _ hl
  exact Nat.lt_of_le_of_lt (Nat.le_trans h1 h2) (by decide +kernel)
theorem mem_of_at {α : Type} {l : List α} {i : Nat} {x : α} (h : l[i]? = some x) : x ∈ l := List.mem_of_getElem? h
/-- numbers over D -/
def Nums (C : Addr) (D : Int) (H : Hp) (xs : List V) (Ss : List Int) : Prop := xs.length = Ss.length ∧ ∀ (i : Nat) (x : V), xs[i]? = some x → ∃ S : Int, Ss[i]? = some S ∧ Num C H x S D
theorem Nums.same {C : Addr} {D : Int} {H H' : Hp} {xs : List V} {Ss : List Int} (h : Nums C D H xs Ss) (s : Same H H') : Nums C D H' xs Ss := ⟨h.1, fun i x e => let ⟨S, e2, n⟩ := h.2 i x e; ⟨S, e2, n.same s⟩⟩
theorem SqT.same {K : PySem.W.Frag} {H H' : Hp} {a : Addr} {xs : List V} (h : SqT K H a xs) (e : Same H H') : SqT K H' a xs := by
  rcases h with (h | ⟨o, h⟩) | h
  · exact .inl (.inl (e _ _ h))
  · exact .inl (.inr ⟨o, e _ _ h⟩)
  · exact .inr h
abbrev AddT (P : Program) (w : World) (K : PySem.W.Frag) (mg : Str → Option Value) (base : Heap) (C : Addr) : Prop := ArT P w K mg base C .Add "+" "add" 7 8 (spAdd C) (spRadd C)
abbrev SubT (P : Program) (w : World) (K : PySem.W.Frag) (mg : Str → Option Value) (base : Heap) (C : Addr) : Prop := ArT P w K mg base C .Sub "-" "sub" 8 8 (spSub C) (spRsub C)
/-- total(row) -/
def spTotal (K : PySem.W.Frag) (C : Addr) : Sp := fun vs H Q _ => ∃ (l : Addr) (xs : List V) (Ss : List Int) (D : Int), vs = [.ref l] ∧ SqT K H l xs ∧ Nums C D H xs Ss ∧ 0 < D ∧ D.natAbs < 2 ^ 4000 ∧ Ss.length ≤ 1000 ∧ (∀ S ∈ Ss, S.natAbs < 2 ^ 3000) ∧
  ∀ (a dx : Addr) (H' : Hp), Same H H' → H' a = some (.ins C dx (shF (lowT Ss.sum D) (lowB Ss.sum D))) → Q (.ref a) H'
section
variable {P : Program} {w : World} {K : PySem.W.Frag} {mg : Str → Option Value} {base : Heap} {C B : Addr}
abbrev s_total : Stmt := top 15
theorem sc_total : FnScope ["row"] ["row"] (defScope s_total) := ⟨rfl, rfl, rfl, by decide +kernel, rfl, by decide +kernel, by decide +kernel⟩
theorem ok_total {f : Addr} {fd : FuncData} (F : Fun K "total" "total" s_total f fd) (m : MkT P w K mg base C B) (nt : NoTxt K C) (n_sum : mg "sum" = none) (ad : AddT P w K mg base C) : FnOk P w K mg base CX0 10 f fd ["row"] (spTotal K C) := by
  refine F.ok sc_total (fun vs H Q E h => ?_) (fun cdv A outer s H vs Q E hr h => ?_)
  · obtain ⟨l, xs, Ss, D, rfl, _⟩ := h
    rfl
  · obtain ⟨l, xs, Ss, D, rfl, hl, hn, hD, hDb, hlen, hS, k⟩ := h
    have o := ArT.op (X := (cxOf CX0 P w K mg base ["row"] "total" (defScope s_total) f cdv A outer s H E).nox.inn) ad (hr.in1.mono (by decide)) (hr.in1.mono (by decide))
    refine ⟨_, pss_one (ps_ret (pe_callBK (cr_sumO rfl o) rfl n_sum PyProof.Rows.boot_sum (pa_cons (pv 0) pa_nil) (pk_cons (pe_share1 m (hr.mono (by decide)) rfl (pa_cons pe_int pa_nil)) pk_nil))), ?_⟩
    refine ⟨_, rfl, fun z dz hz hd ne => si_ok hz hd ne (a := 0) (b := 1) (by decide) (by decide +kernel) fun H1 s1 e1 => ⟨rfl, ?_⟩⟩
    have e0 : shF (lowT 0 1) (lowB 0 1) = shF (lowT (Ss.take 0).sum D) (lowB (Ss.take 0).sum D) := by
      have h1 := low_whole (i := 0) hD
      have h2 := low_int 0
      rw [Int.zero_mul] at h1
      rw [h2.1, h2.2, List.take_zero, List.sum_nil, h1.1, h1.2]
    rw [e0] at e1
    refine ⟨l, z, C, dz, _, xs, rfl, rfl, e1, nt, fun i acc H' => Same H1 H' ∧ ∃ a dx, acc = .ref a ∧ H' a = some (.ins C dx (shF (lowT (Ss.take i).sum D) (lowB (Ss.take i).sum D))),
      ⟨Same.refl _, z, dz, rfl, e1⟩, fun i acc H' ⟨_, a, _, e, _⟩ => ⟨a, e⟩, fun i acc H' _ ⟨s2, _⟩ => SqT.same hl (s1.trans s2), ?_, ?_⟩
    · rintro i acc x H' hx ⟨s2, a, dx, rfl, ea⟩
      obtain ⟨S, hSi, nx⟩ := (hn.same (s1.trans s2)).2 i x hx
      have hi : i < Ss.length := (List.getElem?_eq_some_iff.mp hSi).1
      have b1 : (Ss.take i).sum.natAbs < 2 ^ 4000 := sum_small (by rw [List.length_take]; omega) fun S hm => hS S (List.mem_of_mem_take hm)
      have b2 : S.natAbs < 2 ^ 4000 := Nat.lt_trans (hS S (mem_of_at hSi)) (by decide +kernel)
      refine .inl ⟨a, dx, _, rfl, ea, other_of nx, a, dx, x, _, _, _, _, rfl, ea, nx, low_of hD b1 hDb, low_of hD b2 hDb, fun z2 dz2 H2 s3 e3 => ?_⟩
      rw [(low_sum hD).1, (low_sum hD).2] at e3
      refine ⟨s2.trans s3, z2, dz2, rfl, ?_⟩
      rw [take_more hSi, List.sum_append, List.sum_cons, List.sum_nil, Int.add_zero]
      exact e3
    · rintro acc H' ⟨s2, a, dx, rfl, ea⟩
      rw [hn.1, List.take_length] at ea
      exact k a dx H' (s1.trans s2) ea
/-- is_from_zero(thing) -/
def spFrom0 (K : PySem.W.Frag) (C : Addr) : Sp := fun vs H Q _ => ∃ x, vs = [x] ∧ ((∃ S D, Num C H x S D ∧ 0 < D ∧ S.natAbs < 2 ^ 4000 ∧ D.natAbs < 2 ^ 4000 ∧ ∀ H', Same H H' → Q (.bl (decide (0 ≤ S))) H') ∨ ∃ T, Fo K H x T ∧ isI x = false ∧ ∀ H', Same H H' → Q (.bl false) H')
/-- the method less -/
structure LsT (P : Program) (w : World) (K : PySem.W.Frag) (mg : Str → Option Value) (base : Heap) (C : Addr) : Prop where
  ex : ∃ (f : Addr) (fd : FuncData), Meth K C "less" f ∧ FnOk P w K mg base CX0 7 f fd ["self", "other"] (spLess C) ∧ Binds K fd ["self", "other"] []
theorem less_none (t n : Int) : (shF t n).lookup ("less" : Str) = none := by
  unfold shF
  rw [lookup_putF, if_neg (by decide +kernel), lookup_putF, if_neg (by decide +kernel)]
  rfl
abbrev s_from0 : Stmt := top 16
theorem sc_from0 : FnScope ["thing"] ["thing"] (defScope s_from0) := ⟨rfl, rfl, rfl, by decide +kernel, rfl, by decide +kernel, by decide +kernel⟩
theorem ok_from0 {f : Addr} {fd : FuncData} (F : Fun K "is_from_zero" "is_from_zero" s_from0 f fd) (T : ShT K mg C) (c_is : Cal P w K mg base 2 "is_share" ["thing"] (spIsShare K C)) (c_of : Cal P w K mg base 6 "share_of" ["thing"] (spShareOf C)) (ls : LsT P w K mg base C) :
    FnOk P w K mg base CX0 8 f fd ["thing"] (spFrom0 K C) := by
  obtain ⟨g, gd, M, G, bG⟩ := ls.ex
  refine F.ok sc_from0 (fun vs H Q E h => ?_) (fun cdv A outer s H vs Q E hr h => ?_)
  · obtain ⟨x, rfl, _⟩ := h
    rfl
  · obtain ⟨x, rfl, h⟩ := h
    refine ⟨_, (pss_one (ps_ret (pe_and (pe_cal c_is (hr.mono (by decide)) rfl (pa_cons (pv 0) pa_nil)) (pe_one (pe_not (pe_meth (pl := _) (pe_cal c_of (hr.mono (by decide)) rfl (pa_cons (pv 0) pa_nil)) T.it.cl M G hr bG .nil pass0 (pa_cons pe_int pa_nil))))))), ?_⟩
    rcases h with ⟨S, D, hx, hD, hS, hDb, k⟩ | ⟨T', fo, ix, k⟩
    · refine ⟨_, rfl, x, rfl, .inl ⟨_, _, hx, _, rfl, iteT ?_⟩⟩
      refine ⟨_, rfl, x, _, _, rfl, hx, fun a dx H1 s1 e1 => ⟨a, dx, _, rfl, e1, less_none _ _, a, dx, .int 0, _, _, 0, 1, rfl, e1, .inl ⟨rfl, rfl⟩, low_of hD hS hDb, Low.one (by decide +kernel), fun H2 s2 => ⟨_, rfl, ?_⟩⟩⟩
      have h := low_lt (S := S) (S' := 0 * D) hD
      rw [(low_whole hD).1, (low_whole hD).2, Int.zero_mul] at h
      have e : (!decide (lowT S D * 1 < 0 * lowB S D)) = decide (0 ≤ S) := by
        rw [Bool.eq_iff_iff]
        simp only [Bool.not_eq_true', decide_eq_false_iff_not, decide_eq_true_eq]
        rw [Int.zero_mul, h]
        omega
      rw [e]
      exact k H2 (s1.trans s2)
    · exact ⟨_, rfl, x, rfl, .inr ⟨T', fo, ix, _, rfl, iteF (k H (Same.refl H))⟩⟩
end
end K3

set_option Elab.async false
set_option linter.all false
set_option maxRecDepth 100000
set_option maxHeartbeats 4000000
namespace K3
open PySem L2
/-- a thing that is no tuple -/
inductive NotTup (K : PySem.W.Frag) (C : Addr) (H : Hp) : V → Prop where
  | fo {x : V} {T : String} (h : Fo K H x T) (ne : T ≠ "tuple") : NotTup K C H x
  | ins {a dx : Addr} {fs : List (Str × V)} (e : H a = some (.ins C dx fs)) : NotTup K C H (.ref a)
theorem NotTup.kit {K : PySem.W.Frag} {C : Addr} {H : Hp} {x : V} (I : InsT K C) (tu : PySem.W.kitOne K (.ref C) (.type "tuple") = some false) (h : NotTup K C H x) : ∃ t, TyX K H x t ∧ PySem.W.kitOne K t (.type "tuple") = some false := by
  cases h with
  | ins e => exact ⟨_, I.ty e, tu⟩
  | fo h ne =>
    refine ⟨_, h.ty, ?_⟩
    cases h with
    | non => exact kit_ty (r := false) (by decide +kernel)
    | bl b => exact kit_ty (r := false) (by decide +kernel)
    | int i => exact kit_ty (r := false) (by decide +kernel)
    | str x => exact kit_ty (r := false) (by decide +kernel)
    | lst e => exact kit_ty (r := false) (by decide +kernel)
    | tup e => exact absurd rfl ne
    | dK e => exact kit_ty (r := false) (by decide +kernel)
/-- an item: a number over D, or a thing that is none -/
def Item (K : PySem.W.Frag) (C : Addr) (D : Int) (H : Hp) (x : V) : Option Int → Prop
  | some S => Num C H x S D ∧ S.natAbs < 2 ^ 3000
  | none => ∃ T, Fo K H x T ∧ isI x = false
theorem fo_up {K : PySem.W.Frag} {H H' : Hp} {x : V} {T : String} (h : Fo K H x T) (s : Same H H') : Fo K H' x T := fo_same h s
theorem Item.same {K : PySem.W.Frag} {C : Addr} {D : Int} {H H' : Hp} {x : V} {o : Option Int} (h : Item K C D H x o) (s : Same H H') : Item K C D H' x o := by
  cases o with
  | some S => exact ⟨h.1.same s, h.2⟩
  | none =>
    obtain ⟨T, fo, ix⟩ := h
    exact ⟨T, fo_same fo s, ix⟩
def Items (K : PySem.W.Frag) (C : Addr) (D : Int) (H : Hp) (xs : List V) (os : List (Option Int)) : Prop := xs.length = os.length ∧ ∀ (i : Nat) (x : V), xs[i]? = some x → ∃ o : Option Int, os[i]? = some o ∧ Item K C D H x o
theorem Items.same {K : PySem.W.Frag} {C : Addr} {D : Int} {H H' : Hp} {xs : List V} {os : List (Option Int)} (h : Items K C D H xs os) (s : Same H H') : Items K C D H' xs os := ⟨h.1, fun i x e => let ⟨o, e2, n⟩ := h.2 i x e; ⟨o, e2, n.same s⟩⟩
def from0 : Option Int → Bool
  | some S => decide (0 ≤ S)
  | none => false
/-- a spread over D -/
def sprB (D : Int) (os : List (Option Int)) : Bool := (os.map from0).all id && decide ((os.map (·.getD 0)).sum = D)
theorem Items.nums {K : PySem.W.Frag} {C : Addr} {D : Int} {H : Hp} {xs : List V} {os : List (Option Int)} (h : Items K C D H xs os) (a : (os.map from0).all id = true) : Nums C D H xs (os.map (·.getD 0)) ∧ ∀ S ∈ os.map (·.getD 0), S.natAbs < 2 ^ 3000 := by
  have each : ∀ o ∈ os, ∃ S, o = some S := fun o ho => by
    have := List.all_eq_true.mp a (from0 o) (List.mem_map_of_mem ho)
    cases o with
    | some S => exact ⟨S, rfl⟩
    | none => cases this
  have bound : ∀ (i : Nat) (o : Option Int), os[i]? = some o → ∃ x, xs[i]? = some x := fun i o e => by
    have hi := (List.getElem?_eq_some_iff.mp e).1
    rw [← h.1] at hi
    exact ⟨xs[i], List.getElem?_eq_getElem hi⟩
  refine ⟨⟨by rw [List.length_map]; exact h.1, fun i x e => ?_⟩, fun S hS => ?_⟩
  · obtain ⟨o, e2, n⟩ := h.2 i x e
    obtain ⟨S, rfl⟩ := each o (mem_of_at e2)
    exact ⟨S, by rw [List.getElem?_map, e2]; rfl, n.1⟩
  · obtain ⟨o, ho, rfl⟩ := List.mem_map.mp hS
    obtain ⟨S, rfl⟩ := each o ho
    obtain ⟨i, hi⟩ := List.getElem?_of_mem ho
    obtain ⟨x, hx⟩ := bound i _ hi
    obtain ⟨o2, e2, n⟩ := h.2 i x hx
    rw [hi] at e2
    cases e2
    exact n.2
def spTupOf (K : PySem.W.Frag) (C : Addr) : Sp := fun vs H Q _ => ∃ (many : Int) (x : V), vs = [.int many, x] ∧ ((∃ t xs, x = .ref t ∧ H t = some (.tup xs) ∧ Q (.bl (decide (V.int (xs.length : Int) = V.int many))) H) ∨ (NotTup K C H x ∧ Q (.bl false) H))
def spSpread (K : PySem.W.Frag) (C : Addr) : Sp := fun vs H Q _ => ∃ (many : Int) (x : V), vs = [.int many, x] ∧ ((∃ t xs os D, x = .ref t ∧ H t = some (.tup xs) ∧ Items K C D H xs os ∧ 0 < D ∧ D.natAbs < 2 ^ 4000 ∧ os.length ≤ 1000 ∧
  ∀ H', Same H H' → Q (.bl (decide (V.int (xs.length : Int) = V.int many) && sprB D os)) H') ∨ (NotTup K C H x ∧ ∀ H', Same H H' → Q (.bl false) H'))
section
variable {P : Program} {w : World} {K : PySem.W.Frag} {mg : Str → Option Value} {base : Heap} {C B : Addr}
abbrev s_tupOf : Stmt := top 8
theorem sc_tupOf : FnScope ["many", "thing"] ["many", "thing"] (defScope s_tupOf) := ⟨rfl, rfl, rfl, by decide +kernel, rfl, by decide +kernel, by decide +kernel⟩
theorem ok_tupOf {f : Addr} {fd : FuncData} (F : Fun K "is_tuple_of" "is_tuple_of" s_tupOf f fd) (T : ShT K mg C) (n_tuple : mg "tuple" = none) (tu : PySem.W.kitOne K (.ref C) (.type "tuple") = some false) : FnOk P w K mg base CX0 1 f fd ["many", "thing"] (spTupOf K C) := by
  refine F.ok sc_tupOf (fun vs H Q E h => ?_) (fun cdv A outer s H vs Q E hr h => ?_)
  · obtain ⟨many, x, rfl, _⟩ := h
    rfl
  · obtain ⟨many, x, rfl, h⟩ := h
    refine ⟨_, (pss_one (ps_ret (pe_and (pe_callB call_isi (by rfl) T.bn.n_isinstance (by decide +kernel) (pa_cons (pv 1) (pa_cons (pe_bltn (v := .ty "tuple") rfl n_tuple (by decide +kernel) rfl) pa_nil))) (pe_one (pe_cmpR op_eq (pe_callB call_len_seq (by rfl) T.bn.n_len PySem.boot_len (pa_cons (pv 1) pa_nil)) (pv 0) (nomark _)))))), ?_⟩
    rcases h with ⟨t, xs, rfl, e, k⟩ | ⟨nt, k⟩
    · refine ⟨_, rfl, .ref t, .ty "tuple", _, _, true, rfl, .ty _, (Fo.tup e).ty, kit_ty (r := true) (by decide +kernel), _, rfl, iteT ?_⟩
      exact ⟨_, rfl, t, xs, rfl, .inr (.inl (.inl e)), _, rfl, rfl, k⟩
    · obtain ⟨ty, h1, h2⟩ := nt.kit T.it tu
      exact ⟨_, rfl, x, .ty "tuple", ty, _, false, rfl, .ty _, h1, h2, _, rfl, iteF k⟩
abbrev s_spread : Stmt := top 17
theorem sc_spread : FnScope ["many", "thing", "part"] ["many", "thing"] (defScope s_spread) := ⟨rfl, rfl, rfl, by decide +kernel, rfl, by decide +kernel, by decide +kernel⟩
theorem ok_spread {f : Addr} {fd : FuncData} (F : Fun K "is_spread" "is_spread" s_spread f fd) (n_all : mg "all" = none) (c_tup : Cal P w K mg base 1 "is_tuple_of" ["many", "thing"] (spTupOf K C)) (c_f0 : Cal P w K mg base 8 "is_from_zero" ["thing"] (spFrom0 K C)) (c_total : Cal P w K mg base 10 "total" ["row"] (spTotal K C)) (c_eq : EqT P w K mg base C) :
    FnOk P w K mg base CX0 11 f fd ["many", "thing"] (spSpread K C) := by
  refine F.ok sc_spread (fun vs H Q E h => ?_) (fun cdv A outer s H vs Q E hr h => ?_)
  · obtain ⟨many, x, rfl, _⟩ := h
    rfl
  · obtain ⟨many, x, rfl, h⟩ := h
    obtain ⟨r1, o1, q1⟩ := EqT.op (X := (cxOf CX0 P w K mg base ["many", "thing", "part"] "is_spread" (defScope s_spread) f cdv A outer s H E).nox) is_eq c_eq (hr.mono (by decide))
    refine ⟨_, (pss_cons (ps_if (PW.pt (pw_or (pt_not (pt_val (pe_cal c_tup (hr.mono (by decide)) rfl (pa_cons (pv 0) (pa_cons (pv 1) pa_nil))))) (pw_or1 (pt_not (pt_val (pe_callB (cr_all rfl) (by rfl) n_all PyProof.Rows.boot_all (pa_cons (pe_lc (own := [("part", 2)]) rfl sc_spread.nd (pi_tup (pv 1)) (blkOk_by (N := ["many", "thing", "part"]) (sc := defScope s_spread) (by decide +kernel)) (fun _ _ _ _ _ => (pg_name (i := 2) sc_spread.nd rfl (Or.inl rfl))) (fun _ _ _ _ _ => pts_nil) (fun _ _ _ _ _ => (pe_cal c_f0 (hr.mono (by decide)) rfl (pa_cons (pv 2) pa_nil)))) pa_nil)))))))
        (pss_one (ps_ret pe_bl))
        pss_nil)
      (pss_one (ps_ret (pe_cmpR o1 (pe_cal c_total (hr.mono (by decide)) rfl (pa_cons (pv 1) pa_nil)) pe_int (nomark _))))), ?_⟩
    rcases h with ⟨t, xs, os, D, rfl, e, it, hD, hDb, hlen, k⟩ | ⟨nt, k⟩
    · refine ⟨_, rfl, _, rfl, many, .ref t, rfl, .inl ⟨t, xs, rfl, e, _, rfl, ?_⟩⟩
      cases hb : decide (V.int (xs.length : Int) = V.int many) with
      | false =>
        refine iteT ?_
        have k2 := k H (Same.refl H)
        rw [hb, Bool.false_and] at k2
        exact k2
      | true =>
        refine iteF ⟨_, rfl, t, rfl, ⟨_, SqT.of e⟩, fun L nL => ?_⟩
        refine lc_tup (K := K) (a := t) (xs := xs) (fun i H' => Same H H' ∧ H' L = some (.lst ((os.take i).map fun o => V.bl (from0 o)))) ⟨Same.put nL, upd_same⟩ (fun i H' _ p => SqT.of (p.1 _ _ e)) ?_ ?_
        · rintro i x H' hx ⟨s1, eL⟩
          obtain ⟨o, ho, io⟩ := (it.same s1).2 i x hx
          have hi : i < os.length := (List.getElem?_eq_some_iff.mp ho).1
          refine ⟨rfl, yes_of ?_⟩
          have fin : ∀ H2, Same H' H2 → ∃ acc, H2 L = some (.lst acc) ∧ acc.length < sizeLine ∧ Same H (upd H2 L (.lst (acc ++ [V.bl (from0 o)]))) ∧ (upd H2 L (.lst (acc ++ [V.bl (from0 o)]))) L = some (.lst ((os.take (i + 1)).map fun o => V.bl (from0 o))) := fun H2 s2 => by
            refine ⟨_, s2 _ _ eL, ?_, ?_, ?_⟩
            · rw [List.length_map, List.length_take]
              exact small1000 (by omega)
            · refine fun b u hu => ?_
              rw [upd_ne (ne_of_none hu nL)]
              exact s2 _ _ (s1 _ _ hu)
            · rw [upd_same, take_more ho, List.map_append]
              rfl
          refine ⟨_, rfl, x, rfl, ?_⟩
          cases o with
          | some S => exact .inl ⟨S, D, io.1, hD, Nat.lt_trans io.2 (by decide +kernel), hDb, fin⟩
          | none =>
            obtain ⟨T', fo, ix⟩ := io
            exact .inr ⟨T', fo, ix, fin⟩
        · rintro H1 ⟨s1, eL⟩
          rw [it.1, List.take_length] at eL
          refine ⟨L, os.map from0, rfl, SqL.of (by rw [List.map_map]; exact eL), _, rfl, ?_⟩
          cases ha : (os.map from0).all id with
          | false =>
            refine iteT ?_
            have k2 := k H1 s1
            unfold sprB at k2
            rw [hb, ha, Bool.false_and, Bool.and_false] at k2
            exact k2
          | true =>
            refine iteF ?_
            obtain ⟨nums, small⟩ := (it.same s1).nums ha
            refine ⟨_, rfl, t, xs, os.map (·.getD 0), D, rfl, SqT.of (s1 _ _ e), nums, hD, hDb, by rw [List.length_map]; exact hlen, small, fun a dx H2 s2 e2 => ?_⟩
            obtain ⟨c1, c2⟩ := cmp_fo (K := K) (C := C) (y := .int 1) (b := sprB D os) e2 (.int 1) (by
              unfold sprB
              rw [ha, Bool.true_and, Bool.eq_iff_iff]
              have h := low_one_iff (S := (os.map (·.getD 0)).sum) hD
              simp only [isI, Bool.true_and, Bool.and_eq_true, decide_eq_true_eq, V.int.injEq]
              rw [← h]
              exact And.comm)
            have k2 := k H2 (s1.trans s2)
            rw [hb, Bool.true_and] at k2
            exact q1 _ _ _ _ _ c1 k2
    · refine ⟨_, rfl, _, rfl, many, x, rfl, .inr ⟨nt, _, rfl, iteT (k H (Same.refl H))⟩⟩
abbrev s_any : Stmt := top 18
/-- is_any_spread(thing) -/
def spAny (K : PySem.W.Frag) (C : Addr) : Sp := fun vs H Q _ => ∃ (x : V), vs = [x] ∧ ((∃ t xs os D, x = .ref t ∧ H t = some (.tup xs) ∧ Items K C D H xs os ∧ 0 < D ∧ D.natAbs < 2 ^ 4000 ∧ os.length ≤ 1000 ∧
  ∀ H', Same H H' → Q (.bl (sprB D os)) H') ∨ (NotTup K C H x ∧ ∀ H', Same H H' → Q (.bl false) H'))
theorem sc_any : FnScope ["thing"] ["thing"] (defScope s_any) := ⟨rfl, rfl, rfl, by decide +kernel, rfl, by decide +kernel, by decide +kernel⟩
theorem ok_any {f : Addr} {fd : FuncData} (F : Fun K "is_any_spread" "is_any_spread" s_any f fd) (T : ShT K mg C) (n_tuple : mg "tuple" = none) (tu : PySem.W.kitOne K (.ref C) (.type "tuple") = some false) (c_sp : Cal P w K mg base 11 "is_spread" ["many", "thing"] (spSpread K C)) :
    FnOk P w K mg base CX0 12 f fd ["thing"] (spAny K C) := by
  refine F.ok sc_any (fun vs H Q E h => ?_) (fun cdv A outer s H vs Q E hr h => ?_)
  · obtain ⟨x, rfl, _⟩ := h
    rfl
  · obtain ⟨x, rfl, h⟩ := h
    refine ⟨_, (pss_one (ps_ret (pe_and (pe_callB call_isi (by rfl) T.bn.n_isinstance (by decide +kernel) (pa_cons (pv 0) (pa_cons (pe_bltn (v := .ty "tuple") rfl n_tuple (by decide +kernel) rfl) pa_nil))) (pe_one (pe_cal c_sp hr rfl (pa_cons (pe_callB call_len_seq (by rfl) T.bn.n_len PySem.boot_len (pa_cons (pv 0) pa_nil)) (pa_cons (pv 0) pa_nil))))))), ?_⟩
    rcases h with ⟨t, xs, os, D, rfl, e, it, hD, hDb, hlen, k⟩ | ⟨nt, k⟩
    · refine ⟨_, rfl, .ref t, .ty "tuple", _, _, true, rfl, .ty _, (Fo.tup e).ty, kit_ty (r := true) (by decide +kernel), _, rfl, iteT ?_⟩
      refine ⟨_, rfl, t, xs, rfl, .inr (.inl (.inl e)), _, rfl, (xs.length : Int), .ref t, rfl, .inl ⟨t, xs, os, D, rfl, e, it, hD, hDb, hlen, fun H' s => ?_⟩⟩
      rw [decide_eq_true rfl, Bool.true_and]
      exact k H' s
    · obtain ⟨ty, h1, h2⟩ := nt.kit T.it tu
      exact ⟨_, rfl, x, .ty "tuple", ty, _, false, rfl, .ty _, h1, h2, _, rfl, iteF (k H (Same.refl H))⟩
end
end K3

set_option Elab.async false
set_option linter.all false
set_option maxRecDepth 100000
set_option maxHeartbeats 4000000
namespace K3
open PySem L2
/-- an exception's __init__ that keeps one thing -/
def spOne (K : PySem.W.Frag) (B : Addr) (nm : Str) : Sp := fun vs H Q _ => ∃ (a : Addr) (y : V), vs = [.ref a, y] ∧ OexC K B ∧ PySem.W.findIn K (.ref B) nm = some none ∧ H a = some (exo a B none) ∧
  ∀ dx, H dx = none → dx ≠ a → Q .non (upd (upd H dx (exd dx [(nm, y)])) a (exo a B (some dx)))
/-- what the walk asks of such a class -/
structure OneT (P : Program) (w : World) (K : PySem.W.Frag) (mg : Str → Option Value) (base : Heap) (B : Addr) (cls nm : Str) : Prop where
  O : OexC K B
  nf : PySem.W.findIn K (.ref B) nm = some none
  gB : mg cls = some (.ref B)
  made : ∃ (fI : Addr) (fd : FuncData), PySem.W.findIn K (.ref B) "__init__" = some (some (.ref fI)) ∧ PySem.W.typeIn K (.ref fI) = some (.type "function") ∧ FnOk P w K mg base CX0 2 fI fd ["self", nm] (spOne K B nm) ∧ Binds K fd ["self", nm] []
theorem one_end {H : Hp} {a dx : Addr} {p : V} {nm : Str} {B : Addr} (ha : H a = none) (hd : (upd H a (exo a B none)) dx = none) (ne : dx ≠ a) :
    Same H (upd (L2.del (upd (upd (upd H a (exo a B none)) dx (exd dx [(nm, p)])) a (exo a B (some dx))) a) dx (.xd [(nm, p)])) := fun b o h => by
  have nb : b ≠ a := ne_of_none h ha
  have nd : b ≠ dx := fun z => by rw [upd_ne ne] at hd; rw [z, hd] at h; cases h
  rw [upd_ne nd, del_ne nb, upd_ne nb, upd_ne nd, upd_ne nb]
  exact h
section
variable {P : Program} {w : World} {K : PySem.W.Frag} {mg : Str → Option Value} {base : Heap} {C B : Addr}
abbrev s_BSp : Stmt := inClass (top 4) 0
theorem sc_BSp : FnScope ["self", "part"] ["self", "part"] (defScope s_BSp) := ⟨rfl, rfl, rfl, by decide +kernel, rfl, by decide +kernel, by decide +kernel⟩
theorem ok_BSp {f g W B : Addr} {mc : Value} {fd fdW : FuncData} (F : Fun K "__init__" "BadSpread.__init__" s_BSp f fd) (gW : mg "WalkError" = some (.ref W)) (c : ClsFn K W mc "__init__" g) (FW : FnOk P w K mg base CX0 1 g fdW ["self", "words"] (spWE K)) (bW : Binds K fdW ["self", "words"] []) :
    FnOk P w K mg base CX0 2 f fd ["self", "part"] (spOne K B "part") := by
  refine F.ok sc_BSp (fun vs H Q E h => ?_) (fun cdv A outer s H vs Q E hr h => ?_)
  · obtain ⟨a, y, rfl, _⟩ := h
    rfl
  · obtain ⟨a, y, rfl, O, nt, ha, k⟩ := h
    refine ⟨_, pss_cons (ps_expr (pe_clsfn c FW hr rfl gW bW pass0 (pa_cons (pv 0) (pa_cons pe_str pa_nil)))) (pss_one (ps_ost (pv 0) (pv 1))), ?_⟩
    exact ⟨_, rfl, a, B, _, rfl, O, ha, _, rfl, _, rfl, a, B, rfl, O, nt, .inl ⟨ha, fun dx hd ne => k dx hd ne⟩⟩
abbrev s_BF : Stmt := inClass (top 5) 0
theorem sc_BF : FnScope ["self", "factor"] ["self", "factor"] (defScope s_BF) := ⟨rfl, rfl, rfl, by decide +kernel, rfl, by decide +kernel, by decide +kernel⟩
theorem ok_BF {f g W B : Addr} {mc : Value} {fd fdW : FuncData} (F : Fun K "__init__" "BadFactor.__init__" s_BF f fd) (gW : mg "WalkError" = some (.ref W)) (c : ClsFn K W mc "__init__" g) (FW : FnOk P w K mg base CX0 1 g fdW ["self", "words"] (spWE K)) (bW : Binds K fdW ["self", "words"] []) :
    FnOk P w K mg base CX0 2 f fd ["self", "factor"] (spOne K B "factor") := by
  refine F.ok sc_BF (fun vs H Q E h => ?_) (fun cdv A outer s H vs Q E hr h => ?_)
  · obtain ⟨a, y, rfl, _⟩ := h
    rfl
  · obtain ⟨a, y, rfl, O, nt, ha, k⟩ := h
    refine ⟨_, pss_cons (ps_expr (pe_clsfn c FW hr rfl gW bW pass0 (pa_cons (pv 0) (pa_cons pe_str pa_nil)))) (pss_one (ps_ost (pv 0) (pv 1))), ?_⟩
    exact ⟨_, rfl, a, B, _, rfl, O, ha, _, rfl, _, rfl, a, B, rfl, O, nt, .inl ⟨ha, fun dx hd ne => k dx hd ne⟩⟩
/-- the reading of such a raise -/
theorem one_raise {cls nm : Str} {p : V} {H : Hp} {E : XK} (T : OneT P w K mg base B cls nm) (k : ∀ (d : Addr) (H' : Hp), H d = none → Same H H' → H' d = some (.xd [(nm, p)]) → E (.ref B) (some d) H') {t : TA} {σ : St} (ht : ∀ Q : List V → Hp → Prop, Q [p] H → t σ H Q) :
    tMkO B (spOne K B nm) [] t σ H (fun cls d H' => E cls d H') := by
  refine ht _ ⟨by show 1 ≤ 1000; decide, fun a ha => ⟨a, p, rfl, T.O, T.nf, upd_same, fun d hd ne => ⟨rfl, d, [(nm, p)], upd_same, ?_, ?_, ?_⟩⟩⟩
  · rw [upd_ne ne, upd_same]
  · rw [upd_ne ne] at hd
    exact hd
  · refine k d _ ?_ (one_end ha hd ne) upd_same
    rw [upd_ne ne] at hd
    exact hd
end
/-- - of two numbers over D -/
theorem sub_num {C : Addr} {x y : V} {S S' D : Int} {H : Hp} {Q : VK} (hD : 0 < D) (hDb : D.natAbs < 2 ^ 4000) (hS : S.natAbs < 2 ^ 4000) (hS' : S'.natAbs < 2 ^ 4000) (hx : Num C H x S D) (hy : Num C H y S' D) (k : ∀ v H', Same H H' → Num C H' v (S - S') D → Q v H') :
    (rI0 fun i j => .int (i - j)) x y H Q ∨ rAr C (spSub C) (spRsub C) x y H Q := by
  have d := low_diff (S := S) (S' := S') hD
  have l1 := low_of hD hS hDb
  have l2 := low_of hD hS' hDb
  have hx' : Nm C H x (lowT S D) (lowB S D) := hx
  have hy' : Nm C H y (lowT S' D) (lowB S' D) := hy
  have k' : ∀ v H', Same H H' → Nm C H' v (lowT (S - S') D) (lowB (S - S') D) → Q v H' := k
  generalize lowT S D = t at *
  generalize lowB S D = n at *
  generalize lowT S' D = t' at *
  generalize lowB S' D = n' at *
  generalize lowT (S - S') D = r at *
  generalize lowB (S - S') D = m at *
  rcases hx' with ⟨rfl, rfl⟩ | ⟨a, dx, rfl, ha⟩
  · rcases hy' with ⟨rfl, rfl⟩ | ⟨b, db, rfl, hb⟩
    · refine .inl ⟨t, t', rfl, rfl, k' _ H (Same.refl H) ?_⟩
      have h := low_int (t * 1 + -t' * 1)
      rw [show ((1 : Int) * 1) = 1 from rfl, h.1, h.2] at d
      obtain ⟨d1, d2⟩ := d
      have e : t - t' = r := by
        rw [← d1, Int.mul_one, Int.mul_one]
        rfl
      exact .inl ⟨congrArg V.int e, d2.symm⟩
    · refine .inr (.inr ⟨t, b, db, _, rfl, rfl, hb, b, db, t, t', n', rfl, hb, l2, l1, fun z dz H' s e => ?_⟩)
      have e1 : -t' * 1 + t * n' = t * n' + -t' * 1 := Int.add_comm _ _
      rw [e1, Int.mul_comm n' 1, d.1, d.2] at e
      exact k' _ H' s (.inr ⟨z, dz, rfl, e⟩)
  · refine .inr (.inl ⟨a, dx, _, rfl, ha, other_of hy', a, dx, y, t, n, t', n', rfl, ha, hy', l1, l2, fun z dz H' s e => ?_⟩)
    rw [d.1, d.2] at e
    exact k' _ H' s (.inr ⟨z, dz, rfl, e⟩)
end K3

set_option Elab.async false
set_option linter.all false
set_option maxRecDepth 100000
set_option maxHeartbeats 4000000
namespace K3
open PySem L2
/-- the place of S among the sums -/
def Place (Ss : List Int) (S : Int) (i : Nat) : Prop := i < Ss.length ∧ (Ss.take i).sum ≤ S ∧ S < (Ss.take (i + 1)).sum
/-- pick(spread, share) -/
def spPickS (K : PySem.W.Frag) (C BS BF : Addr) : Sp := fun vs H Q E => ∃ (x y : V), vs = [x, y] ∧
  ((∃ t xs os D, x = .ref t ∧ H t = some (.tup xs) ∧ Items K C D H xs os ∧ 0 < D ∧ D.natAbs < 2 ^ 3000 ∧ os.length ≤ 1000 ∧ sprB D os = true ∧
      ((∃ S, Num C H y S D ∧ S.natAbs < 2 ^ 3000 ∧ ((0 ≤ S ∧ S < D ∧ ∀ (i : Nat) H', Same H H' → Place (os.map (·.getD 0)) S i → Q (.int (i : Int)) H') ∨ ((S < 0 ∨ D ≤ S) ∧ ∀ (d : Addr) H', Same H H' → H' d = some (.xd [("factor", y)]) → E (.ref BF) (some d) H'))) ∨
        (∃ T, Fo K H y T ∧ isI y = false ∧ ∀ (d : Addr) H', Same H H' → H' d = some (.xd [("factor", y)]) → E (.ref BF) (some d) H'))) ∨
    (((∃ t xs os D, x = .ref t ∧ H t = some (.tup xs) ∧ Items K C D H xs os ∧ 0 < D ∧ D.natAbs < 2 ^ 3000 ∧ os.length ≤ 1000 ∧ sprB D os = false) ∨ NotTup K C H x) ∧ ∀ (d : Addr) H', Same H H' → H' d = some (.xd [("part", .str "spread")]) → E (.ref BS) (some d) H'))
theorem up4000 {a : Int} (h : a.natAbs < 2 ^ 3000) : a.natAbs < 2 ^ 4000 := Nat.lt_trans h (by decide +kernel)
theorem sum_take_le : ∀ {l : List Int}, (∀ S ∈ l, 0 ≤ S) → ∀ i, (l.take i).sum ≤ l.sum
  | [], _, i => by simp
  | a :: r, h, 0 => by
    have : 0 ≤ (a :: r).sum := by
      have h1 := sum_take_le (l := r) (fun S hS => h S (List.mem_cons_of_mem _ hS)) 0
      have h2 := h a List.mem_cons_self
      rw [List.take_zero, List.sum_nil] at h1
      rw [List.sum_cons]
      omega
    rw [List.take_zero, List.sum_nil]
    exact this
  | a :: r, h, i + 1 => by
    have h1 := sum_take_le (l := r) (fun S hS => h S (List.mem_cons_of_mem _ hS)) i
    rw [List.take_succ_cons, List.sum_cons, List.sum_cons]
    omega
theorem sub_small {a b : Int} (ha : a.natAbs < 2 ^ 3000) (hb : b.natAbs < 2 ^ 3000) : (a - b).natAbs < 2 ^ 4000 := by
  have h1 : (a - b).natAbs ≤ a.natAbs + b.natAbs := Int.natAbs_sub_le a b
  have h2 : 2 ^ 3000 + 2 ^ 3000 ≤ 2 ^ 4000 := by decide +kernel
  generalize 2 ^ 3000 = M at *
  generalize 2 ^ 4000 = N at *
  omega
theorem all_from0 {os : List (Option Int)} (h : (os.map from0).all id = true) : ∀ S ∈ os.map (·.getD 0), 0 ≤ S := fun S hS => by
  obtain ⟨o, ho, rfl⟩ := List.mem_map.mp hS
  have := List.all_eq_true.mp h (from0 o) (List.mem_map_of_mem ho)
  cases o with
  | some S => exact of_decide_eq_true this
  | none => cases this
theorem lt_zero {S D : Int} (hD : 0 < D) : decide (lowT S D * 1 < 0 * lowB S D) = decide (S < 0) := by
  have h := low_lt (S := S) (S' := 0 * D) hD
  rw [(low_whole hD).1, (low_whole hD).2] at h
  simp only [Int.zero_mul] at h ⊢
  exact decide_eq_decide.mpr h
theorem lt_one {S D : Int} (hD : 0 < D) : decide (lowT S D * 1 < 1 * lowB S D) = decide (S < D) := by
  have h := low_lt (S := S) (S' := 1 * D) hD
  rw [(low_whole hD).1, (low_whole hD).2] at h
  rw [Int.one_mul] at h ⊢
  rw [Int.one_mul] at h
  exact decide_eq_decide.mpr h
section
variable {P : Program} {w : World} {K : PySem.W.Frag} {mg : Str → Option Value} {base : Heap} {C BS BF : Addr}
abbrev s_pickS : Stmt := top 19
theorem sc_pickS : FnScope ["spread", "share", "at", "left"] ["spread", "share"] (defScope s_pickS) := ⟨rfl, rfl, rfl, by decide +kernel, rfl, by decide +kernel, by decide +kernel⟩
theorem ok_pickS {f : Addr} {fd : FuncData} (F : Fun K "pick" "pick" s_pickS f fd) (T : ShT K mg C) (c_any : Cal P w K mg base 12 "is_any_spread" ["thing"] (spAny K C)) (c_f0 : Cal P w K mg base 8 "is_from_zero" ["thing"] (spFrom0 K C)) (c_of : Cal P w K mg base 6 "share_of" ["thing"] (spShareOf C)) (ls : LsT P w K mg base C)
    (sb : SubT P w K mg base C) (TS : OneT P w K mg base BS "BadSpread" "part") (TF : OneT P w K mg base BF "BadFactor" "factor") : FnOk P w K mg base (L2.CX P w) 13 f fd ["spread", "share"] (spPickS K C BS BF) := by
  obtain ⟨g, gd, M, G, bG⟩ := ls.ex
  obtain ⟨fS, fdS, iS, tS, FS, bS⟩ := id TS.made
  obtain ⟨fF, fdF, iF, tF, FF, bF⟩ := id TF.made
  refine F.okX sc_pickS (fun vs H Q E h => ?_) (fun cdv A outer s H vs Q E hr h => ?_)
  · obtain ⟨x, y, rfl, _⟩ := h
    rfl
  · obtain ⟨x, y, rfl, h⟩ := h
    have o := (ArT.op (X := (cxOf (L2.CX P w) P w K mg base ["spread", "share", "at", "left"] "pick" (defScope s_pickS) f cdv A outer s H E)) sb (hr.mono (by decide)) (hr.mono (by decide))).toR
    refine ⟨_, (pss_cons (ps_if (pt_not (pt_val (pe_cal c_any hr rfl (pa_cons (pv 0) pa_nil))))
        (pss_one (ps_raise (W := fun cls d _ H => E cls d H) rfl (takes_of rfl rfl rfl rfl) (pmk_oex TS.O iS tS FS (hr.mono (by decide)) bS .nil pass0 rfl TS.gB (pa_cons pe_str pa_nil))))
        pss_nil)
      (pss_cons (ps_if (PW.pt (pw_or (pt_not (pt_val (pe_cal c_f0 (hr.mono (by decide)) rfl (pa_cons (pv 1) pa_nil)))) (pw_or1 (pt_not (pt_val (pe_meth (pl := _) (pe_cal c_of (hr.mono (by decide)) rfl (pa_cons (pv 1) pa_nil)) T.it.cl M G (hr.mono (by decide)) bG .nil pass0 (pa_cons pe_int pa_nil)))))))
        (pss_one (ps_raise (W := fun cls d _ H => E cls d H) rfl (takes_of rfl rfl rfl rfl) (pmk_oex TF.O iF tF FF (hr.mono (by decide)) bF .nil pass0 rfl TF.gB (pa_cons (pv 1) pa_nil))))
        pss_nil)
      (pss_cons (ps_set (i := 2) sc_pickS.nd rfl (Or.inl rfl) pe_int)
      (pss_cons (ps_set (i := 3) sc_pickS.nd rfl (Or.inl rfl) (pe_op (OpR.or op_sub o) (pv 1) (pe_ix ix_tup (pv 0) pe_int (fun _ _ => rfl))))
      (pss_cons (ps_while (passes_of rfl) (pt_not (pt_val (pe_meth (pl := _) (pe_cal c_of (hr.mono (by decide)) rfl (pa_cons (pv 3) pa_nil)) T.it.cl M G (hr.mono (by decide)) bG .nil pass0 (pa_cons pe_int pa_nil))))
        (pss_cons (ps_set (i := 2) sc_pickS.nd rfl (Or.inl rfl) (pe_op op_add (pv 2) pe_int))
          (pss_one (ps_set (i := 3) sc_pickS.nd rfl (Or.inl rfl) (pe_op (OpR.or op_sub o) (pv 3) (pe_ix ix_tup (pv 0) (pv 2) (fun _ _ => rfl)))))))
      (pss_one (ps_ret (pv 2)))))))), ?_⟩
    rcases h with ⟨t, xs, os, D, rfl, e, it, hD, hDb, hlen, hs, hy⟩ | ⟨hx, k⟩
    · refine ⟨_, rfl, .ref t, rfl, .inl ⟨t, xs, os, D, rfl, e, it, hD, up4000 hDb, hlen, fun H1 s1 => ⟨_, rfl, ?_⟩⟩⟩
      rw [hs]
      refine iteF ?_
      have hs2 : (os.map from0).all id = true ∧ (os.map (·.getD 0)).sum = D := by
        unfold sprB at hs
        rw [Bool.and_eq_true, decide_eq_true_eq] at hs
        exact hs
      obtain ⟨nums, small⟩ := it.nums hs2.1
      have pos := all_from0 hs2.1
      have tot := hs2.2
      generalize os.map (·.getD 0) = Ss at nums small pos tot hy
      have bad : ∀ (σ : St) (H2 : Hp), Same H H2 → σ[1]? = some (some y) → (∀ (d : Addr) H', Same H H' → H' d = some (.xd [("factor", y)]) → E (.ref BF) (some d) H') → tMkO BF (spOne K BF "factor") [] (tCons (tVar 1) tNil) σ H2 (fun cls d H' => E cls d H') := fun σ H2 s2 hσ kk =>
        one_raise TF (fun d H' _ s3 e3 => kk d H' (s2.trans s3) e3) fun Q q => ⟨y, hσ, q⟩
      rcases hy with ⟨S, ny, hS, hy⟩ | ⟨T', fo, iy, k⟩
      · refine ⟨_, rfl, y, rfl, .inl ⟨S, D, ny.same s1, hD, up4000 hS, up4000 hDb, fun H2 s2 => ⟨_, rfl, ?_⟩⟩⟩
        have s02 := s1.trans s2
        refine iteB (fun z => ?_) (fun z => ?_)
        · have neg : S < 0 := by
            have := (Bool.not_eq_true' _).mp z
            have := of_decide_eq_false this
            omega
          rcases hy with ⟨h0, _⟩ | ⟨_, k⟩
          · omega
          · exact iteT (bad _ _ s02 rfl k)
        · have h0 : 0 ≤ S := of_decide_eq_true ((Bool.not_eq_false' _).mp z)
          refine ⟨_, rfl, y, _, _, rfl, ny.same s02, fun a dx H3 s3 e3 => ⟨a, dx, _, rfl, e3, less_none _ _, a, dx, .int 1, _, _, 1, 1, rfl, e3, .inl ⟨rfl, rfl⟩, low_of hD (up4000 hS) (up4000 hDb), Low.one (by decide +kernel), fun H4 s4 => ⟨_, rfl, ?_⟩⟩⟩
          have s04 := (s02.trans s3).trans s4
          rw [lt_one hD]
          refine iteB (fun z => ?_) (fun z => ?_)
          · have big : D ≤ S := by
              have := (Bool.not_eq_true' _).mp z
              have := of_decide_eq_false this
              omega
            rcases hy with ⟨_, h1, _⟩ | ⟨_, k⟩
            · omega
            · exact bad _ _ s04 rfl k
          · have h1 : S < D := of_decide_eq_true ((Bool.not_eq_false' _).mp z)
            rcases hy with ⟨_, _, k⟩ | ⟨h, _⟩
            · -- the walk
              have step : ∀ (i : Nat), i < Ss.length → ∃ x0, xs[i]? = some x0 ∧ Num C H x0 ((Ss.take (i + 1)).sum - (Ss.take i).sum) D ∧ ((Ss.take (i + 1)).sum - (Ss.take i).sum).natAbs < 2 ^ 3000 := fun i hi => by
                have hi2 : i < xs.length := by rw [nums.1]; exact hi
                obtain ⟨Si, hSi, n⟩ := nums.2 i xs[i] (List.getElem?_eq_getElem hi2)
                have e2 : (Ss.take (i + 1)).sum - (Ss.take i).sum = Si := by
                  rw [take_more hSi, List.sum_append, List.sum_cons, List.sum_nil]
                  omega
                exact ⟨xs[i], List.getElem?_eq_getElem hi2, by rw [e2]; exact n, by rw [e2]; exact small Si (mem_of_at hSi)⟩
              have rest : ∀ (i : Nat), (S - (Ss.take i).sum).natAbs < 2 ^ 4000 := fun i => by
                refine sub_small hS ?_
                have a1 := sum_take_le pos i
                have a2 : 0 ≤ (Ss.take i).sum := by
                  have := sum_take_le (l := Ss.take i) (fun S hS => pos S (List.mem_of_mem_take hS)) 0
                  rw [List.take_zero, List.sum_nil] at this
                  exact this
                rw [tot] at a1
                exact Nat.lt_of_le_of_lt (by omega) hDb
              have nonempty : 0 < Ss.length := by
                cases Ss with
                | nil => rw [List.sum_nil] at tot; omega
                | cons a r => exact Nat.zero_lt_succ _
              have num0 : ∀ (i : Nat) (v : V) (H' : Hp), Same H H' → i < Ss.length → Num C H' v (S - (Ss.take i).sum) D → ∀ x0, xs[i]? = some x0 → ∀ {QQ : VK}, (∀ v2 H2, Same H H2 → Num C H2 v2 (S - (Ss.take (i + 1)).sum) D → QQ v2 H2) →
                  ((rI0 fun i j => .int (i - j)) v x0 H' QQ ∨ rAr C (spSub C) (spRsub C) v x0 H' QQ) := fun i v H' s hi nv x0 hx0 QQ kk => by
                obtain ⟨x1, hx1, n1, b1⟩ := step i hi
                rw [hx0] at hx1
                cases hx1
                refine sub_num hD (up4000 hDb) (rest i) (up4000 b1) nv (n1.same s) fun v2 H2 s2 n2 => kk v2 H2 (s.trans s2) ?_
                have e2 : S - (Ss.take i).sum - ((Ss.take (i + 1)).sum - (Ss.take i).sum) = S - (Ss.take (i + 1)).sum := by omega
                rw [e2] at n2
                exact n2
              obtain ⟨x0, hx0, _⟩ := step 0 nonempty
              refine ⟨_, rfl, _, rfl, t, xs, 0, x0, rfl, rfl, SqT.of (s04 _ _ e), atI_nat hx0, num0 0 y _ s04 nonempty (by rw [List.take_zero, List.sum_nil, Int.sub_zero]; exact ny.same s04) x0 hx0 fun v2 H5 s5 n5 => ?_⟩
              refine while_by (fun σ H' => Same H H' ∧ ∃ (i : Nat) (v : V), i < Ss.length ∧ (Ss.take i).sum ≤ S ∧ Num C H' v (S - (Ss.take (i + 1)).sum) D ∧ σ = [some (.ref t), some y, some (.int (i : Int)), some v])
                (fun σ _ => match σ with | [_, _, some (.int j), _] => Ss.length - j.toNat | _ => 0) ⟨s5, 0, v2, nonempty, by rw [List.take_zero, List.sum_nil]; exact h0, n5, rfl⟩ ?_ ?_
              · rintro σ H6 ⟨s6, i, v, hi, hle, nv, rfl⟩
                refine ⟨_, rfl, v, _, _, rfl, nv, fun a dx H7 s7 e7 => ⟨a, dx, _, rfl, e7, less_none _ _, a, dx, .int 0, _, _, 0, 1, rfl, e7, .inl ⟨rfl, rfl⟩, low_of hD (rest (i + 1)) (up4000 hDb), Low.one (by decide +kernel), fun H8 s8 => ⟨_, rfl, ?_⟩⟩⟩
                have s68 := (s6.trans s7).trans s8
                rw [lt_zero hD]
                refine iteB (fun z => ?_) (fun z => ?_)
                · have ge : (Ss.take (i + 1)).sum ≤ S := by
                    have := of_decide_eq_false ((Bool.not_eq_true' _).mp z)
                    omega
                  have hi1 : i + 1 < Ss.length := by
                    by_cases q : i + 1 < Ss.length
                    · exact q
                    · have e2 : Ss.take (i + 1) = Ss := List.take_of_length_le (by omega)
                      rw [e2, tot] at ge
                      omega
                  obtain ⟨x1, hx1, _⟩ := step (i + 1) hi1
                  have cast1 : ((i : Int) + 1) = ((i + 1 : Nat) : Int) := by omega
                  refine ⟨_, rfl, _, _, rfl, rfl, _, rfl, _, rfl, _, rfl, t, xs, ((i + 1 : Nat) : Int), x1, rfl, congrArg V.int cast1, SqT.of (s68 _ _ e), atI_nat hx1, num0 (i + 1) v _ s68 hi1 (nv.same (s7.trans s8)) x1 hx1 fun v9 H9 s9 n9 => ⟨⟨s9, i + 1, v9, hi1, ge, n9, ?_⟩, ?_⟩⟩
                  · rw [← cast1]
                    rfl
                  · show Ss.length - ((i : Int) + 1).toNat < Ss.length - (i : Int).toNat
                    omega
                · have lt : S < (Ss.take (i + 1)).sum := by
                    have := of_decide_eq_true ((Bool.not_eq_false' _).mp z)
                    omega
                  exact ⟨_, rfl, k i _ s68 ⟨hi, hle, lt⟩⟩
              · rintro σ H6 Q1 Q2 hm ⟨v, hv, x1, t1, n1, e1, nm, k1⟩
                exact ⟨v, hv, x1, t1, n1, e1, nm, fun a dx H7 s7 e7 => by
                  obtain ⟨a1, dx1, fs, q1, q2, q3, a2, dx2, y2, t2, n2, t3, n3, q4, q5, q6, q7, q8, q9⟩ := k1 a dx H7 s7 e7
                  exact ⟨a1, dx1, fs, q1, q2, q3, a2, dx2, y2, t2, n2, t3, n3, q4, q5, q6, q7, q8, fun H8 s8 => by
                    obtain ⟨c, q10, q11⟩ := q9 H8 s8
                    exact ⟨c, q10, hm _ _ q11⟩⟩⟩
            · omega
      · refine ⟨_, rfl, y, rfl, .inr ⟨T', fo_same fo s1, iy, fun H2 s2 => ⟨_, rfl, iteT (iteT (bad _ _ (s1.trans s2) rfl k))⟩⟩⟩
    · have raise : ∀ (σ : St) (H2 : Hp), Same H H2 → tMkO BS (spOne K BS "part") [] (tCons (tC (.str "spread")) tNil) σ H2 (fun cls d H' => E cls d H') := fun σ H2 s2 =>
        one_raise TS (fun d H' _ s3 e3 => k d H' (s2.trans s3) e3) fun Q q => q
      rcases hx with ⟨t, xs, os, D, rfl, e, it, hD, hDb, hlen, hs⟩ | nt
      · refine ⟨_, rfl, .ref t, rfl, .inl ⟨t, xs, os, D, rfl, e, it, hD, up4000 hDb, hlen, fun H1 s1 => ⟨_, rfl, ?_⟩⟩⟩
        rw [hs]
        exact iteT (raise _ _ s1)
      · exact ⟨_, rfl, x, rfl, .inr ⟨nt, fun H1 s1 => ⟨_, rfl, iteT (raise _ _ s1)⟩⟩⟩
end
end K3

set_option Elab.async false
set_option linter.all false
set_option maxRecDepth 100000
set_option maxHeartbeats 4000000
namespace K3
open PySem L2
/-- a pair of whole numbers -/
def Pair (H : Hp) (a : Addr) (t n : Int) : Prop := H a = some (.tup [.int t, .int n])
def spPlus : Sp := fun vs H Q _ => ∃ (a b : Addr) (t n t' n' : Int), vs = [.ref a, .ref b] ∧ Pair H a t n ∧ Pair H b t' n' ∧ Low t n ∧ Low t' n' ∧ ∀ (r : Addr) (H' : Hp), Same H H' → Pair H' r (lowT (t * n' + t' * n) (n * n')) (lowB (t * n' + t' * n) (n * n')) → Q (.ref r) H'
def spOwnP (K : PySem.W.Frag) (C : Addr) : Sp := fun vs H Q _ => ∃ x, vs = [x] ∧ ((∃ t n, Nm C H x t n ∧ ∀ (r : Addr) (H' : Hp), Same H H' → Pair H' r t n → Q (.ref r) H') ∨ ∃ T, Fo K H x T ∧ isI x = false ∧ Q .non H)
section
variable {P : Program} {w : World} {K : PySem.W.Frag} {mg : Str → Option Value} {base : Heap} {C B : Addr}
abbrev s_plus : Stmt := top 27
theorem sc_plus : FnScope ["_law_one", "_law_other"] ["_law_one", "_law_other"] (defScope s_plus) := ⟨rfl, rfl, rfl, by decide +kernel, rfl, by decide +kernel, by decide +kernel⟩
theorem ok_plus {f : Addr} {fd : FuncData} (F : Fun K "_law_plus" "_law_plus" s_plus f fd) (c_part : Cal P w K mg base 2 "_law_part" ["_law_top", "_law_bottom"] spPart) : FnOk P w K mg base CX0 3 f fd ["_law_one", "_law_other"] spPlus := by
  refine F.ok sc_plus (fun vs H Q E h => ?_) (fun cdv A outer s H vs Q E hr h => ?_)
  · obtain ⟨a, b, t, n, t', n', rfl, _⟩ := h
    rfl
  · obtain ⟨a, b, t, n, t', n', rfl, ha, hb, l1, l2, k⟩ := h
    have sa : SqT K H a [.int t, .int n] := SqT.of ha
    have sb : SqT K H b [.int t', .int n'] := SqT.of hb
    refine ⟨_, (pss_one (ps_ret (pe_cal c_part hr rfl (pa_cons (pe_op op_add (pe_op op_mulW (pe_ix ix_tup (pv 0) pe_int (fun _ _ => rfl)) (pe_ix ix_tup (pv 1) pe_int (fun _ _ => rfl))) (pe_op op_mulW (pe_ix ix_tup (pv 1) pe_int (fun _ _ => rfl)) (pe_ix ix_tup (pv 0) pe_int (fun _ _ => rfl)))) (pa_cons (pe_op op_mulW (pe_ix ix_tup (pv 0) pe_int (fun _ _ => rfl)) (pe_ix ix_tup (pv 1) pe_int (fun _ _ => rfl))) pa_nil))))), ?_⟩
    have w1 := wide_mul l1.tb l2.nb (by decide) (by decide) (by decide)
    have w2 := wide_mul l2.tb l1.nb (by decide) (by decide) (by decide)
    have w3 := wide_mul l1.nb l2.nb (by decide) (by decide) (by decide)
    refine ⟨_, rfl, a, _, 0, _, rfl, rfl, sa, at0, _, rfl, b, _, 1, _, rfl, rfl, sb, at1, t, n', rfl, rfl, w1, _, rfl, b, _, 0, _, rfl, rfl, sb, at0, _, rfl, a, _, 1, _, rfl, rfl, sa, at1, t', n, rfl, rfl, w2, _, _, rfl, rfl,
      _, rfl, a, _, 1, _, rfl, rfl, sa, at1, _, rfl, b, _, 1, _, rfl, rfl, sb, at1, n, n', rfl, rfl, w3, ?_⟩
    have p1 := l1.pos
    have p2 := l2.pos
    have pp : 0 < n * n' := Int.mul_pos p1 p2
    exact ⟨_, _, rfl, by omega, log_of (mul_lt l1.nb l2.nb) (by decide) (by decide), fun r H' s _ e => k r H' s e⟩
abbrev s_own : Stmt := top 29
theorem sc_own : FnScope ["_law_thing"] ["_law_thing"] (defScope s_own) := ⟨rfl, rfl, rfl, by decide +kernel, rfl, by decide +kernel, by decide +kernel⟩
theorem ok_own {f : Addr} {fd : FuncData} (F : Fun K "_law_own" "_law_own" s_own f fd) (T : ShT K mg C) (c_number : Cal P w K mg base 1 "_law_number" ["_law_thing"] (spWhole K C)) : FnOk P w K mg base CX0 2 f fd ["_law_thing"] (spOwnP K C) := by
  refine F.ok sc_own (fun vs H Q E h => ?_) (fun cdv A outer s H vs Q E hr h => ?_)
  · obtain ⟨x, rfl, _⟩ := h
    rfl
  · obtain ⟨x, rfl, h⟩ := h
    refine ⟨_, (pss_cons (ps_if (pt_val (pe_callB call_isi (by rfl) T.bn.n_isinstance (by decide +kernel) (pa_cons (pv 0) (pa_cons (pe_glob (v := .ref C) rfl T.g_Share rfl) pa_nil))))
        (pss_one (ps_ret (pe_tup (pa_cons (pe_fld (pv 0) rfl) (pa_cons (pe_fld (pv 0) rfl) pa_nil)))))
        pss_nil)
      (pss_cons (ps_if (pt_val (pe_cal c_number hr rfl (pa_cons (pv 0) pa_nil)))
        (pss_one (ps_ret (pe_tup (pa_cons (pv 0) (pa_cons pe_int pa_nil)))))
        pss_nil)
      (pss_one (ps_ret pe_non)))), ?_⟩
    rcases h with ⟨t, n, ⟨rfl, rfl⟩ | ⟨a, dx, rfl, e⟩, k⟩ | ⟨T', fo, ix, k⟩
    · refine ⟨_, rfl, .int t, .ref C, _, _, false, rfl, .own C, (Fo.int (H := H) t).ty, T.it.fo (H := H) (.int t), _, rfl, iteF ?_⟩
      refine ⟨_, rfl, .int t, rfl, .fo (.int t), _, rfl, iteT ?_⟩
      exact ⟨_, rfl, by show 2 ≤ sizeLine; decide, fun r nr => k r _ (Same.put nr) upd_same⟩
    · refine ⟨_, rfl, .ref a, .ref C, _, _, true, rfl, .own C, T.it.ty e, T.it.kself, _, rfl, iteT ?_⟩
      exact ⟨_, rfl, a, C, dx, _, _, rfl, e, T.it.cl, T.nT, shF_top _ _, _, rfl, a, C, dx, _, _, rfl, e, T.it.cl, T.nB, shF_bottom _ _, by show 2 ≤ sizeLine; decide, fun r nr => k r _ (Same.put nr) upd_same⟩
    · refine ⟨_, rfl, x, .ref C, _, _, false, rfl, .own C, fo.ty, T.it.fo fo, _, rfl, iteF ?_⟩
      refine ⟨_, rfl, x, rfl, .fo fo, _, rfl, ?_⟩
      rw [ix]
      exact iteF k
abbrev s_lspread : Stmt := top 32
theorem sc_lspread : FnScope ["_law_many", "_law_thing", "_law_found", "_law_item", "_law_part_here"] ["_law_many", "_law_thing"] (defScope s_lspread) := ⟨rfl, rfl, rfl, by decide +kernel, rfl, by decide +kernel, by decide +kernel⟩
theorem ok_lspread {f : Addr} {fd : FuncData} (F : Fun K "_law_is_spread" "_law_is_spread" s_lspread f fd) (T : ShT K mg C) (n_tuple : mg "tuple" = none) (tu : PySem.W.kitOne K (.ref C) (.type "tuple") = some false) (c_own : Cal P w K mg base 2 "_law_own" ["_law_thing"] (spOwnP K C)) (c_plus : Cal P w K mg base 3 "_law_plus" ["_law_one", "_law_other"] spPlus) :
    FnOk P w K mg base CX0 4 f fd ["_law_many", "_law_thing"] (spSpread K C) := by
  refine F.ok sc_lspread (fun vs H Q E h => ?_) (fun cdv A outer s H vs Q E hr h => ?_)
  · obtain ⟨many, x, rfl, _⟩ := h
    rfl
  · obtain ⟨many, x, rfl, h⟩ := h
    refine ⟨_, (pss_cons (ps_if (PW.pt (pw_or (pt_not (pt_val (pe_callB call_isi (by rfl) T.bn.n_isinstance (by decide +kernel) (pa_cons (pv 1) (pa_cons (pe_bltn (v := .ty "tuple") rfl n_tuple (by decide +kernel) rfl) pa_nil))))) (pw_or1 (pt_cmpR op_ne (pe_callB call_len_seq (by rfl) T.bn.n_len PySem.boot_len (pa_cons (pv 1) pa_nil)) (pv 0) (nomark _)))))
        (pss_one (ps_ret pe_bl))
        pss_nil)
      (pss_cons (ps_set (i := 2) sc_lspread.nd rfl (Or.inl rfl) (pe_tup (pa_cons pe_int (pa_cons pe_int pa_nil))))
      (pss_cons (ps_for PassesOwn.never rfl (pi_tup (pv 1)) (pg_name (i := 3) sc_lspread.nd rfl (Or.inl rfl))
        (pss_cons (ps_set (i := 4) sc_lspread.nd rfl (Or.inl rfl) (pe_cal c_own (hr.mono (by decide)) rfl (pa_cons (pv 3) pa_nil)))
          (pss_cons (ps_if (PW.pt (pw_or (pt_cmpR op_isN (pv 4) pe_non (nomark _)) (pw_or1 (pt_cmpR op_lt (pe_ix ix_tup (pv 4) pe_int (fun _ _ => rfl)) pe_int (nomark _)))))
            (pss_one (ps_ret pe_bl))
            pss_nil)
          (pss_one (ps_set (i := 2) sc_lspread.nd rfl (Or.inl rfl) (pe_cal c_plus hr rfl (pa_cons (pv 2) (pa_cons (pv 4) pa_nil))))))))
      (pss_one (ps_ret (pe_cmpR (op_eqD hr.units) (pv 2) (pe_tup (pa_cons pe_int (pa_cons pe_int pa_nil))) (nomark _))))))), ?_⟩
    rcases h with ⟨t, xs, os, D, rfl, e, it, hD, hDb, hlen, k⟩ | ⟨nt, k⟩
    · refine ⟨_, rfl, .ref t, .ty "tuple", _, _, true, rfl, .ty _, (Fo.tup e).ty, kit_ty (r := true) (by decide +kernel), _, rfl, iteF ?_⟩
      refine ⟨_, rfl, t, xs, rfl, .inr (.inl (.inl e)), _, rfl, rfl, _, rfl, ?_⟩
      cases hb : decide (V.int (xs.length : Int) = V.int many) with
      | false =>
        refine iteT ?_
        have k2 := k H (Same.refl H)
        rw [hb, Bool.false_and] at k2
        exact k2
      | true =>
        refine iteF ⟨by show 2 ≤ sizeLine; decide, fun p np => ?_⟩
        have s1 : Same H (upd H p (.tup [.int 0, .int 1])) := Same.put np
        have e1 : Pair (upd H p (.tup [.int 0, .int 1])) p 0 1 := upd_same
        generalize (upd H p (.tup [.int 0, .int 1])) = H1 at s1 e1 ⊢
        refine ⟨_, rfl, t, rfl, ⟨_, SqT.of (s1 _ _ e)⟩, for_tup (K := K) (a := t) (xs := xs) (fun i σ H' => Same H H' ∧ ((os.take i).map from0).all id = true ∧ ∃ (r : Addr) (v3 v4 : Option V), σ = [some (.int many), some (.ref t), some (.ref r), v3, v4] ∧ Pair H' r (lowT ((os.take i).map (·.getD 0)).sum D) (lowB ((os.take i).map (·.getD 0)).sum D))
          ⟨s1, rfl, p, none, none, rfl, ?_⟩ (fun i σ H' _ h => SqT.of (h.1 _ _ e)) ?_ ?_⟩
        · have h1 := low_whole (i := 0) hD
          rw [Int.zero_mul] at h1
          rw [List.take_zero, List.map_nil, List.sum_nil, h1.1, h1.2]
          exact e1
        · rintro i x σ H2 hx ⟨s2, al, r, v3, v4, rfl, er⟩
          obtain ⟨o, ho, io⟩ := (it.same s2).2 i x hx
          have hi : i < os.length := (List.getElem?_eq_some_iff.mp ho).1
          cases o with
          | none =>
            obtain ⟨T', fo, ix⟩ := io
            refine ⟨_, rfl, x, rfl, .inr ⟨T', fo, ix, _, rfl, rfl, _, rfl, iteT ?_⟩⟩
            have k2 := k H2 s2
            have sp : sprB D os = false := by
              unfold sprB
              have : (os.map from0).all id = false := by
                refine Bool.eq_false_iff.mpr fun z => ?_
                have := List.all_eq_true.mp z (from0 none) (List.mem_map_of_mem (mem_of_at ho))
                cases this
              rw [this, Bool.false_and]
            rw [hb, sp, Bool.and_false] at k2
            exact k2
          | some S =>
            obtain ⟨nm, hS⟩ := io
            refine ⟨_, rfl, x, rfl, .inl ⟨_, _, nm, fun r2 H3 s3 e3 => ?_⟩⟩
            refine ⟨_, rfl, rfl, _, rfl, iteF ?_⟩
            refine ⟨_, rfl, r2, _, 0, _, rfl, rfl, SqT.of e3, at0, _, _, rfl, rfl, _, rfl, ?_⟩
            have sgn : (lowT S D < 0) ↔ S < 0 := by
              have h := low_lt (S := S) (S' := 0 * D) hD
              rw [(low_whole hD).1, (low_whole hD).2] at h
              simp only [Int.zero_mul, Int.mul_one] at h
              exact h
            refine iteB (fun z => ?_) (fun z => ?_)
            · have neg : S < 0 := sgn.mp (of_decide_eq_true z)
              have k2 := k H3 (s2.trans s3)
              have sp : sprB D os = false := by
                unfold sprB
                have : (os.map from0).all id = false := by
                  refine Bool.eq_false_iff.mpr fun z => ?_
                  have := List.all_eq_true.mp z (from0 (some S)) (List.mem_map_of_mem (mem_of_at ho))
                  have := of_decide_eq_true (show decide (0 ≤ S) = true from this)
                  omega
                rw [this, Bool.false_and]
              rw [hb, sp, Bool.and_false] at k2
              exact k2
            · have pos : 0 ≤ S := Int.not_lt.mp fun q => of_decide_eq_false z (sgn.mpr q)
              have small : ∀ Z ∈ (os.take i).map (·.getD 0), Z.natAbs < 2 ^ 3000 := fun Z hZ => by
                obtain ⟨o2, ho2, rfl⟩ := List.mem_map.mp hZ
                obtain ⟨j, hj⟩ := List.getElem?_of_mem (List.mem_of_mem_take ho2)
                have hj2 : j < xs.length := by
                  rw [it.1]
                  exact (List.getElem?_eq_some_iff.mp hj).1
                obtain ⟨o3, ho3, io3⟩ := it.2 j xs[j] (List.getElem?_eq_getElem hj2)
                rw [hj] at ho3
                cases ho3
                cases o2 with
                | some Z => exact io3.2
                | none => show (0 : Int).natAbs < 2 ^ 3000; decide +kernel
              have b1 : Int.natAbs (List.sum ((os.take i).map fun o : Option Int => o.getD 0)) < 2 ^ 4000 := sum_small (by rw [List.length_map, List.length_take]; omega) small
              refine ⟨_, rfl, _, rfl, r, r2, _, _, _, _, rfl, s3 _ _ er, e3, low_of hD b1 hDb, low_of hD (up4000 hS) hDb, fun r4 H4 s4 e4 => ?_⟩
              rw [(low_sum hD).1, (low_sum hD).2] at e4
              refine ⟨(s2.trans s3).trans s4, ?_, r4, _, _, rfl, ?_⟩
              · rw [take_more ho, List.map_append, List.all_append, al]
                show (true && (decide (0 ≤ S) && true)) = true
                rw [decide_eq_true pos]
                rfl
              · rw [take_more ho, List.map_append, List.sum_append]
                have one : List.sum (List.map (fun o : Option Int => o.getD 0) [some S]) = S := by
                  show S + 0 = S
                  omega
                rw [one]
                exact e4
        · rintro σ H2 ⟨s2, al, r, v3, v4, rfl, er⟩
          rw [it.1, List.take_length] at al er
          refine ⟨_, rfl, by show 2 ≤ sizeLine; decide, fun p2 np2 => ⟨_, _, dp2 (.inl (.inl (Same.put np2 _ _ er))), dp2 (.inl (.inl upd_same)), sh2 _ _, sh2 _ _, ?_⟩⟩
          rw [eqv_pair]
          have k2 := k _ (s2.trans (Same.put (o := .tup [.int 1, .int 1]) np2))
          have sp : sprB D os = (decide (V.int (lowT (os.map (·.getD 0)).sum D) = V.int 1) && decide (V.int (lowB (os.map (·.getD 0)).sum D) = V.int 1)) := by
            unfold sprB
            rw [al, Bool.true_and, Bool.eq_iff_iff]
            simp only [Bool.and_eq_true, decide_eq_true_eq, V.int.injEq]
            exact (low_one_iff hD).symm
          rw [hb, Bool.true_and, sp] at k2
          exact k2
    · obtain ⟨ty, h1, h2⟩ := nt.kit T.it tu
      exact ⟨_, rfl, x, .ty "tuple", ty, _, false, rfl, .ty _, h1, h2, _, rfl, iteT (k H (Same.refl H))⟩
end
end K3

set_option Elab.async false
set_option linter.all false
set_option maxRecDepth 100000
set_option maxHeartbeats 4000000
namespace K3
open PySem L2
/-- a thing that is_spread may be asked about -/
def Th (K : PySem.W.Frag) (C : Addr) (D : Int) (H : Hp) (x : V) : Prop := (∃ t xs os, x = .ref t ∧ H t = some (.tup xs) ∧ Items K C D H xs os ∧ os.length ≤ 1000) ∨ NotTup K C H x
theorem NotTup.same {K : PySem.W.Frag} {C : Addr} {H H' : Hp} {x : V} (h : NotTup K C H x) (s : Same H H') : NotTup K C H' x := by
  cases h with
  | fo h ne => exact .fo (fo_same h s) ne
  | ins e => exact .ins (s _ _ e)
/-- _law_judged(many, thing) -/
def spJudged (K : PySem.W.Frag) (C : Addr) : Sp := fun vs H Q _ => ∃ (many : Int) (x : V) (D : Int), vs = [.int many, x] ∧ Th K C D H x ∧ 0 < D ∧ D.natAbs < 2 ^ 4000 ∧ ∀ H', Same H H' → Q (.bl true) H'
/-- _law_picked(thing, share) -/
def spPicked (K : PySem.W.Frag) (C : Addr) : Sp := fun vs H Q _ => ∃ (x y : V), vs = [x, y] ∧
  ((∃ t xs os D, x = .ref t ∧ H t = some (.tup xs) ∧ Items K C D H xs os ∧ 0 < D ∧ D.natAbs < 2 ^ 3000 ∧ os.length ≤ 1000 ∧ sprB D os = true ∧
      ((∃ S, Num C H y S D ∧ S.natAbs < 2 ^ 3000 ∧ ((0 ≤ S ∧ S < D ∧ ∀ (i : Nat) (r : Addr) H', Same H H' → Place (os.map (·.getD 0)) S i → H' r = some (.tup [.str "told", .int (i : Int)]) → Q (.ref r) H') ∨ ((S < 0 ∨ D ≤ S) ∧ ∀ (r : Addr) H', Same H H' → H' r = some (.tup [.str "factor", y]) → Q (.ref r) H'))) ∨
        (∃ T, Fo K H y T ∧ isI y = false ∧ ∀ (r : Addr) H', Same H H' → H' r = some (.tup [.str "factor", y]) → Q (.ref r) H'))) ∨
    (((∃ t xs os D, x = .ref t ∧ H t = some (.tup xs) ∧ Items K C D H xs os ∧ 0 < D ∧ D.natAbs < 2 ^ 3000 ∧ os.length ≤ 1000 ∧ sprB D os = false) ∨ NotTup K C H x) ∧ ∀ (r : Addr) H', Same H H' → H' r = some (.tup [.str "spread", .str "spread"]) → Q (.ref r) H'))
/-- the two classes as the law's clauses see them -/
structure TwT (K : PySem.W.Frag) (mg : Str → Option Value) (BS BF : Addr) : Prop where
  ss : PySem.W.exmOne K (.ref BS) (.ref BS) = some true
  fs : PySem.W.exmOne K (.ref BF) (.ref BS) = some false
  ff : PySem.W.exmOne K (.ref BF) (.ref BF) = some true
  xS : XfC K BS
  xF : XfC K BF
  nS : PySem.W.findIn K (.ref BS) "part" = some none
  nF : PySem.W.findIn K (.ref BF) "factor" = some none
  gS : mg "BadSpread" = some (.ref BS)
  gF : mg "BadFactor" = some (.ref BF)
/-- pick itself -/
structure PkT (P : Program) (w : World) (K : PySem.W.Frag) (mg : Str → Option Value) (base : Heap) (C BS BF : Addr) : Prop where
  ex : ∃ (f : Addr) (fd : FuncData), mg "pick" = some (.ref f) ∧ PySem.W.keepIn K (.ref f) = true ∧ FnOk P w K mg base (L2.CX P w) 13 f fd ["spread", "share"] (spPickS K C BS BF) ∧ Binds K fd ["spread", "share"] []
section
variable {P : Program} {w : World} {K : PySem.W.Frag} {mg : Str → Option Value} {base : Heap} {C BS BF : Addr}
abbrev s_judged : Stmt := top 34
theorem sc_judged : FnScope ["_law_many", "_law_thing", "_law_told"] ["_law_many", "_law_thing"] (defScope s_judged) := ⟨rfl, rfl, rfl, by decide +kernel, rfl, by decide +kernel, by decide +kernel⟩
theorem ok_judged {f : Addr} {fd : FuncData} (F : Fun K "_law_judged" "_law_judged" s_judged f fd) (T : ShT K mg C) (c_sp : Cal P w K mg base 11 "is_spread" ["many", "thing"] (spSpread K C)) (c_ls : Cal P w K mg base 4 "_law_is_spread" ["_law_many", "_law_thing"] (spSpread K C)) :
    FnOk P w K mg base CX0 12 f fd ["_law_many", "_law_thing"] (spJudged K C) := by
  refine F.ok sc_judged (fun vs H Q E h => ?_) (fun cdv A outer s H vs Q E hr h => ?_)
  · obtain ⟨many, x, D, rfl, _⟩ := h
    rfl
  · obtain ⟨many, x, D, rfl, h, hD, hDb, k⟩ := h
    refine ⟨_, (pss_cons (ps_set (i := 2) sc_judged.nd rfl (Or.inl rfl) (pe_cal c_sp hr rfl (pa_cons (pv 0) (pa_cons (pv 1) pa_nil))))
      (pss_one (ps_ret (pe_and (pe_callB call_isi (by rfl) T.bn.n_isinstance (by decide +kernel) (pa_cons (pv 2) (pa_cons (pe_bltn (v := .ty "bool") rfl T.bn.n_bool (by decide +kernel) rfl) pa_nil))) (pe_one (pe_cmpR op_eq (pv 2) (pe_cal c_ls (hr.mono (by decide)) rfl (pa_cons (pv 0) (pa_cons (pv 1) pa_nil))) (nomark _))))))), ?_⟩
    have same : ∀ {b : Bool} {H1 : Hp} {QQ : VK}, QQ (.bl true) H1 → QQ (.bl (decide (V.bl b = V.bl b))) H1 := fun q => by rw [decide_eq_true rfl]; exact q
    have isb : ∀ (b : Bool) (H1 : Hp), TyX K H1 (.bl b) (.type "bool") := fun b H1 => (Fo.bl (K := K) (H := H1) b).ty
    have kb : PySem.W.kitOne K (.type "bool") (.type "bool") = some true := kit_ty (r := true) (by decide +kernel)
    rcases h with ⟨t, xs, os, rfl, e, it, hl⟩ | nt
    · refine ⟨_, rfl, _, rfl, many, .ref t, rfl, .inl ⟨t, xs, os, D, rfl, e, it, hD, hDb, hl, fun H1 s1 => ?_⟩⟩
      refine ⟨_, rfl, _, .ty "bool", _, _, true, rfl, .ty _, isb _ _, kb, _, rfl, iteT ?_⟩
      exact ⟨_, rfl, _, rfl, _, rfl, many, .ref t, rfl, .inl ⟨t, xs, os, D, rfl, s1 _ _ e, it.same s1, hD, hDb, hl, fun H2 s2 => ⟨rfl, same (k _ (s1.trans s2))⟩⟩⟩
    · refine ⟨_, rfl, _, rfl, many, x, rfl, .inr ⟨nt, fun H1 s1 => ?_⟩⟩
      refine ⟨_, rfl, _, .ty "bool", _, _, true, rfl, .ty _, isb _ _, kb, _, rfl, iteT ?_⟩
      exact ⟨_, rfl, _, rfl, _, rfl, many, x, rfl, .inr ⟨nt.same s1, fun H2 s2 => ⟨rfl, same (k _ (s1.trans s2))⟩⟩⟩
abbrev s_picked : Stmt := top 35
theorem sc_picked : FnScope ["_law_thing", "_law_share", "_law_found", "e"] ["_law_thing", "_law_share"] (defScope s_picked) := ⟨rfl, rfl, rfl, by decide +kernel, rfl, by decide +kernel, by decide +kernel⟩
theorem ok_picked {f : Addr} {fd : FuncData} (F : Fun K "_law_picked" "_law_picked" s_picked f fd) (pk : PkT P w K mg base C BS BF) (x2 : TwT K mg BS BF) : FnOk P w K mg base CX0 14 f fd ["_law_thing", "_law_share"] (spPicked K C) := by
  obtain ⟨g, gd, mg1, kp, G, bG⟩ := pk.ex
  refine F.ok sc_picked (fun vs H Q E h => ?_) (fun cdv A outer s H vs Q E hr h => ?_)
  · obtain ⟨x, y, rfl, _⟩ := h
    rfl
  · obtain ⟨x, y, rfl, h⟩ := h
    refine ⟨_, (pss_cons (ps_try_asM rfl rfl sc_picked.nd
          (fun W pn xe tk => pss_one (ps_set (i := 2) sc_picked.nd rfl (Or.inl rfl) (pe_tup (pa_cons pe_str (pa_cons (pe_callS G hr rfl mg1 kp bG (fun σ => passAt tk σ) (pa_cons (pv 0) (pa_cons (pv 1) pa_nil))) pa_nil)))))
          (.cons (i := 3) (c := .ref BS) rfl (by rfl) ⟨rfl, by decide, .inl x2.gS⟩ (fun a oe cls d pn hz hf => pss_one (ps_set (i := 2) sc_picked.nd rfl (Or.inl rfl) (pe_tup (pa_cons pe_str (pa_cons (pe_xf x2.xS x2.nS hz hf (pv 3)) pa_nil)))))
          (.cons (i := 3) (c := .ref BF) rfl (by rfl) ⟨rfl, by decide, .inl x2.gF⟩ (fun a oe cls d pn hz hf => pss_one (ps_set (i := 2) sc_picked.nd rfl (Or.inl rfl) (pe_tup (pa_cons pe_str (pa_cons (pe_xf x2.xF x2.nF hz hf (pv 3)) pa_nil))))) .nil)))
      (pss_one (ps_ret (pv 2)))), ?_⟩
    rcases h with ⟨t, xs, os, D, rfl, e, it, hD, hDb, hl, hs, hy⟩ | ⟨hx, k⟩
    · refine ⟨_, rfl, _, rfl, .ref t, y, rfl, .inl ⟨t, xs, os, D, rfl, e, it, hD, hDb, hl, hs, ?_⟩⟩
      rcases hy with ⟨S, ny, hS, ⟨h0, h1, k⟩ | ⟨h2, k⟩⟩ | ⟨T', fo, iy, k⟩
      · refine .inl ⟨S, ny, hS, .inl ⟨h0, h1, fun i H1 s1 pl => ⟨by show 2 ≤ sizeLine; decide, fun r nr => ⟨_, rfl, k i r _ (s1.trans (Same.put nr)) pl upd_same⟩⟩⟩⟩
      · exact .inl ⟨S, ny, hS, .inr ⟨h2, fun d H1 s1 e1 => .inr ⟨x2.fs, .inl ⟨x2.ff, fun z hz => ⟨.ref z, rfl, rfl, rfl, d, [("factor", y)], y, rfl, e1, rfl, by show 2 ≤ sizeLine; decide, fun r nr => ⟨_, rfl, k r _ (s1.trans (Same.put nr)) upd_same⟩⟩⟩⟩⟩⟩
      · exact .inr ⟨T', fo, iy, fun d H1 s1 e1 => .inr ⟨x2.fs, .inl ⟨x2.ff, fun z hz => ⟨.ref z, rfl, rfl, rfl, d, [("factor", y)], y, rfl, e1, rfl, by show 2 ≤ sizeLine; decide, fun r nr => ⟨_, rfl, k r _ (s1.trans (Same.put nr)) upd_same⟩⟩⟩⟩⟩
    · refine ⟨_, rfl, _, rfl, x, y, rfl, .inr ⟨hx, fun d H1 s1 e1 => .inl ⟨x2.ss, fun z hz => ⟨.ref z, rfl, rfl, rfl, d, [("part", .str "spread")], .str "spread", rfl, e1, rfl, by show 2 ≤ sizeLine; decide, fun r nr => ⟨_, rfl, k r _ (s1.trans (Same.put nr)) upd_same⟩⟩⟩⟩⟩
end
end K3

set_option Elab.async false
set_option linter.all false
set_option maxRecDepth 100000
set_option maxHeartbeats 4000000
namespace K3
open PySem L2
theorem PoolAt.upd {H : Hp} {a p : Addr} {o : HO} (h : PoolAt H a) (ne : p ≠ a) : PoolAt (upd H p o) a := by
  obtain ⟨u, e, q⟩ := h
  exact ⟨u, by rw [upd_ne (Ne.symm ne)]; exact e, q⟩
theorem PoolAt.fresh {H : Hp} {a p : Addr} (h : PoolAt H a) (n : H p = none) : p ≠ a := fun z => by
  obtain ⟨u, e, _⟩ := h
  rw [z, e] at n
  cases n
/-- kept but the pool and one new object -/
theorem Keep.new {a p : Addr} {H H1 : Hp} {o : HO} (k : Keep a H H1) (n : H p = none) : Keep a H (upd H1 p o) := fun b u e ne => by
  rw [upd_ne (ne_of_none e n)]
  exact k b u e ne
/-- _law_tops(pool) -/
def spTops : Sp := fun vs H Q _ => ∃ a : Addr, vs = [.ref a] ∧ PoolAt H a ∧ ∀ (l : Addr) (ns : List Int) (H' : Hp), Keep a H H' → PoolAt H' a → l ≠ a → H' l = some (.lst (ns.map V.int)) → 1 ≤ ns.length → ns.length ≤ 20 → (∀ n ∈ ns, 0 ≤ n ∧ n < 2 ^ 40) → 0 < ns.sum → Q (.ref l) H'
theorem sum_nn : ∀ {l : List Int}, (∀ n ∈ l, 0 ≤ n) → 0 ≤ l.sum
  | [], _ => Int.le_refl _
  | a :: r, h => by
    have h1 := sum_nn (l := r) fun n hn => h n (List.mem_cons_of_mem _ hn)
    have h2 := h a List.mem_cons_self
    rw [List.sum_cons]
    omega
theorem flat_one {α : Type} (x : α) : ∀ n : Nat, (List.replicate n [x]).flatten = List.replicate n x
  | 0 => rfl
  | n + 1 => by rw [List.replicate_succ, List.flatten_cons, flat_one x n, List.replicate_succ]; rfl
theorem unit_sum : ∀ (n j : Nat), j < n → ((List.replicate n (0 : Int)).set j 1).sum = 1
  | 0, j, h => absurd h (Nat.not_lt_zero j)
  | n + 1, 0, _ => by
    rw [List.replicate_succ, List.set_cons_zero, List.sum_cons]
    have : ∀ m : Nat, (List.replicate m (0 : Int)).sum = 0 := fun m => by
      induction m with
      | zero => rfl
      | succ m ih => rw [List.replicate_succ, List.sum_cons, ih]; rfl
    rw [this]
    rfl
  | n + 1, j + 1, h => by
    rw [List.replicate_succ, List.set_cons_succ, List.sum_cons, unit_sum n j (Nat.lt_of_succ_lt_succ h)]
    rfl
theorem unit_mem {n j : Nat} : ∀ z ∈ (List.replicate n (0 : Int)).set j 1, 0 ≤ z ∧ z < 2 ^ 40 := fun z hz => by
  rcases List.mem_or_eq_of_mem_set hz with h | h
  · rw [(List.mem_replicate.mp h).2]; decide
  · rw [h]; decide
abbrev ifBody (s : Stmt) : List Stmt := match s with
  | .If _ a _ _ => a
  | _ => []
section
variable {P : Program} {w : World} {K : PySem.W.Frag} {mg : Str → Option Value} {base : Heap} {C B : Addr}
abbrev s_tops : Stmt := top 30
theorem sc_tops : FnScope ["_law_pool_here", "_law_size", "_law_tops_here", "_law_k", "_law_top"] ["_law_pool_here"] (defScope s_tops) := ⟨rfl, rfl, rfl, by decide +kernel, rfl, by decide +kernel, by decide +kernel⟩
theorem ok_tops {f : Addr} {fd : FuncData} (F : Fun K "_law_tops" "_law_tops" s_tops f fd) (n_range : mg "range" = none) (n_sum : mg "sum" = none) (c_draw : Cal P w K mg base 1 "_law_draw" ["_law_pool_here", "_law_many"] spDraw) : FnOk P w K mg base CX0 2 f fd ["_law_pool_here"] spTops := by
  refine F.ok sc_tops (fun vs H Q E h => ?_) (fun cdv A outer s H vs Q E hr h => ?_)
  · obtain ⟨a, rfl, _⟩ := h
    rfl
  · obtain ⟨a, rfl, hp, k⟩ := h
    -- the row of noughts with one 1
    obtain ⟨uz, hz, qz⟩ : ∃ u, PSs (cxOf CX0 P w K mg base ["_law_pool_here", "_law_size", "_law_tops_here", "_law_k", "_law_top"] "_law_tops" (defScope s_tops) f cdv A outer s H E).nox (ifBody ((defBody s_tops).getD 4 (.Pass ⟨0, 0, 0, 0⟩))) u ∧ ∀ (D : Ends) (v : Option V) (sz : Int) (H2 : Hp), 1 ≤ sz → sz ≤ 20 → Keep a H H2 → PoolAt H2 a →
        (∀ (p : Addr) (j : Nat) (H3 : Hp), j < sz.toNat → Keep a H H3 → PoolAt H3 a → p ≠ a → H3 p = some (.lst (((List.replicate sz.toNat (0 : Int)).set j 1).map V.int)) → D.nx [some (.ref a), some (.int sz), some (.ref p), none, none] H3) → u D [some (.ref a), some (.int sz), v, none, none] H2 := by
      refine ⟨_, (pss_cons (ps_set (i := 2) sc_tops.nd rfl (Or.inl rfl) (pe_op op_rep (pe_lst (pa_cons pe_int pa_nil)) (pv 1)))
          (pss_one (ps_asg pe_int (pg_sub (pv 2) (pe_cal c_draw (hr.mono (by decide)) rfl (pa_cons (pv 0) (pa_cons (pv 1) pa_nil))) set_list)))), fun D v sz H2 z1 z2 kp p2 kk => ?_⟩
      refine ⟨by show 1 ≤ sizeLine; decide, fun p np => ⟨_, rfl, p, sz, [.int 0], rfl, rfl, upd_same, by omega, by omega, ?_, fun q nq => ?_⟩⟩
      · show 1 * sz.toNat ≤ sizeLine
        exact Nat.le_trans (by omega : 1 * sz.toNat ≤ 20) (by decide)
      have k3 : Keep a H (upd (upd H2 p (.lst [.int 0])) q (.lst (List.replicate sz.toNat [V.int 0]).flatten)) := (kp.trans (Keep.of (Same.put np))).trans (Keep.of (Same.put nq))
      have qa : q ≠ a := (PoolAt.new p2 np).fresh nq
      have p3 : PoolAt (upd (upd H2 p (.lst [.int 0])) q (.lst (List.replicate sz.toNat [V.int 0]).flatten)) a := (PoolAt.new p2 np).new nq
      have eq3 : (upd (upd H2 p (.lst [.int 0])) q (.lst (List.replicate sz.toNat [V.int 0]).flatten)) q = some (.lst (List.replicate sz.toNat [V.int 0]).flatten) := upd_same
      have hq : ∀ u, H q = some u → False := fun u hu => by
        have := (kp.trans (Keep.of (Same.put (o := .lst [.int 0]) np))) q u hu qa
        rw [nq] at this
        cases this
      generalize (upd (upd H2 p (.lst [.int 0])) q (.lst (List.replicate sz.toNat [V.int 0]).flatten)) = H3 at k3 p3 eq3 ⊢
      refine ⟨_, rfl, _, rfl, _, rfl, a, sz, rfl, p3, by omega, log_small (b := 10) (by show sz.natAbs < 2 ^ 10; omega) (by decide) (by decide), fun r o r0 r1 ho => ?_⟩
      have flat : (List.replicate sz.toNat [V.int 0]).flatten = List.replicate sz.toNat (V.int 0) := flat_one _ _
      rw [flat] at eq3
      refine ⟨q, _, r, r.toNat, rfl, rfl, by rw [upd_ne qa]; exact eq3, ?_, ?_⟩
      · rw [List.length_replicate]
        unfold ixN
        rw [if_pos r0, if_pos (by omega)]
      · refine kk q r.toNat _ (by omega) ?_ (.upd (.put ho) qa) qa (by rw [upd_same, List.map_set, List.map_replicate])
        intro b u hu ne
        have h3 := k3 b u hu ne
        by_cases bq : b = q
        · rw [bq] at hu; exact (hq u hu).elim
        · rw [upd_ne bq, upd_ne ne]
          exact h3
    obtain ⟨u4, h4, q4⟩ : ∃ u, PSs (cxOf CX0 P w K mg base ["_law_pool_here", "_law_size", "_law_tops_here", "_law_k", "_law_top"] "_law_tops" (defScope s_tops) f cdv A outer s H E).nox ((defBody s_tops).drop 4) u ∧
        ∀ (l : Addr) (ns : List Int) (sz : Int) (H1 : Hp), 1 ≤ sz → sz ≤ 20 → (ns.length : Int) = sz → (∀ n ∈ ns, 0 ≤ n ∧ n < 2 ^ 40) → Keep a H H1 → PoolAt H1 a → l ≠ a → H1 l = some (.lst (ns.map V.int)) → u { nx := fun _ H' => Q .non H', rt := Q } [some (.ref a), some (.int sz), some (.ref l), none, none] H1 := by
      refine ⟨_, (pss_cons (ps_if (PW.pt (pw_or (pt_cmpR op_eq (pe_callB (cr_sum rfl) (by rfl) n_sum PyProof.Rows.boot_sum (pa_cons (pv 2) pa_nil)) pe_int (nomark _)) (pw_or1 (pt_cmpR op_eq (pe_cal c_draw (hr.mono (by decide)) rfl (pa_cons (pv 0) (pa_cons pe_int pa_nil))) pe_int (nomark _)))))
          hz
          pss_nil)
        (pss_one (ps_ret (pv 2)))), fun l ns sz H1 z1 z2 hl hn kp p1 la el => ?_⟩
      have unit : ∀ (H2 : Hp), Keep a H H2 → PoolAt H2 a → uz { nx := fun σ' H' => (tRet (tVar 2)) { nx := fun _ H' => Q .non H', rt := Q } σ' H', rt := Q } [some (.ref a), some (.int sz), some (.ref l), none, none] H2 := fun H2 k2 p2 =>
        qz _ _ sz H2 z1 z2 k2 p2 fun p j H3 hj k3 p3 pa e3 => ⟨_, rfl, k p _ H3 k3 p3 pa e3 (by rw [List.length_set, List.length_replicate]; omega) (by rw [List.length_set, List.length_replicate]; omega) unit_mem (by rw [unit_sum _ _ hj]; decide)⟩
      refine ⟨_, rfl, l, ns, rfl, SqL.of el, rfl, _, rfl, iteB (fun z => ?_) (fun z => ?_)⟩
      · exact unit H1 kp p1
      · refine ⟨_, rfl, a, 8, rfl, p1, by decide, by decide, fun r o r0 r1 ho => ⟨rfl, _, rfl, iteB (fun z2 => ?_) (fun z2 => ?_)⟩⟩
        · exact unit _ (kp.trans (Keep.put o)) (.put ho)
        · have nz : ns.sum ≠ 0 := fun e => of_decide_eq_false z (by rw [e])
          have nn := sum_nn fun n hm => (hn n hm).1
          exact ⟨_, rfl, k l ns _ (kp.trans (Keep.put o)) (.put ho) la (by rw [upd_ne la]; exact el) (by omega) (by omega) hn (by omega)⟩
    obtain ⟨u3, h3, q3⟩ : ∃ u, PSs (cxOf CX0 P w K mg base ["_law_pool_here", "_law_size", "_law_tops_here", "_law_k", "_law_top"] "_law_tops" (defScope s_tops) f cdv A outer s H E).nox ((defBody s_tops).drop 3) u ∧
        ∀ (l : Addr) (ns : List Int) (sz : Int) (H1 : Hp), 1 ≤ sz → sz ≤ 20 → (ns.length : Int) = sz → (∀ n ∈ ns, 0 ≤ n ∧ n < 4) → Keep a H H1 → PoolAt H1 a → l ≠ a → H1 l = some (.lst (ns.map V.int)) → u { nx := fun _ H' => Q .non H', rt := Q } [some (.ref a), some (.int sz), some (.ref l), none, none] H1 := by
      refine ⟨_, (pss_cons (ps_if (PW.pt (pw_and (pt_cmpR op_lt (pv 1) pe_int (nomark _)) (pw_and1 (pt_cmpR op_eq (pe_cal c_draw (hr.mono (by decide)) rfl (pa_cons (pv 0) (pa_cons pe_int pa_nil))) pe_int (nomark _)))))
          (pss_one (ps_setLc (i := 2) (own := [("_law_top", 4)]) rfl sc_tops.nd rfl rfl (sw_true rfl rfl rfl (by decide +kernel)) (pi_list (pv 2)) (blkOk_by (N := ["_law_pool_here", "_law_size", "_law_tops_here", "_law_k", "_law_top"]) (sc := defScope s_tops) (by decide +kernel)) (fun _ _ _ _ _ => (pg_name (i := 4) sc_tops.nd rfl (Or.inl rfl))) (fun _ _ _ _ _ => pts_nil) (fun _ _ _ _ _ => (pe_op op_mul (pv 4) (pe_op op_add pe_int (pe_cal c_draw (hr.mono (by decide)) rfl (pa_cons (pv 0) (pa_cons (pe_op op_pow pe_int pe_int) pa_nil))))))))
          pss_nil) h4), fun l ns sz H1 z1 z2 hl hn kp p1 la el => ?_⟩
      have hn4 : ∀ n ∈ ns, 0 ≤ n ∧ n < 2 ^ 40 := fun n hm => ⟨(hn n hm).1, Int.lt_trans (hn n hm).2 (by decide)⟩
      refine ⟨_, rfl, _, _, rfl, rfl, _, rfl, iteB (fun z => ?_) (fun z => ?_)⟩
      · refine ⟨_, rfl, a, 5, rfl, p1, by decide, by decide, fun r o r0 r1 ho => ⟨rfl, _, rfl, iteB (fun z3 => ?_) (fun z3 => ?_)⟩⟩
        · have k2 : Keep a H (upd H1 a o) := kp.trans (Keep.put o)
          have p2 : PoolAt (upd H1 a o) a := .put ho
          have el2 : (upd H1 a o) l = some (.lst (ns.map V.int)) := by rw [upd_ne la]; exact el
          generalize (upd H1 a o) = H2 at k2 p2 el2 ⊢
          refine ⟨_, rfl, l, rfl, ⟨_, SqL.of el2⟩, fun G nG => ?_⟩
          have ga := p2.fresh nG
          have gl : G ≠ l := fun z => by rw [z, el2] at nG; cases nG
          refine lc_list (K := K) (a := l) (xs := ns.map V.int) (fun i H' => Keep a H2 H' ∧ PoolAt H' a ∧ ∃ ms : List Int, ms.length = i ∧ (∀ n ∈ ms, 0 ≤ n ∧ n < 2 ^ 40) ∧ H' G = some (.lst (ms.map V.int))) ⟨Keep.of (Same.put nG), p2.new nG, [], rfl, fun _ h => (nomatch h), upd_same⟩ (fun i H' _ h => SqL.of (h.1 _ _ el2 la)) ?_ ?_
          · rintro i x H' hx ⟨k3, p3, ms, ml, mb, eG⟩
            obtain ⟨n, hni, rfl⟩ := at_map hx
            obtain ⟨n0, n1⟩ := hn n (mem_of_at hni)
            refine ⟨rfl, yes_of ?_⟩
            refine ⟨_, rfl, _, rfl, 10, 9, rfl, rfl, ⟨by decide, by decide, by decide⟩, a, _, rfl, p3, by decide, by decide +kernel, fun r2 o2 r20 r21 ho2 => ⟨1, r2, rfl, rfl, n, 1 + r2, rfl, rfl, .inl ⟨by omega, by omega⟩, ?_⟩⟩
            have r9 : r2 < 1000000000 := r21
            refine ⟨ms.map V.int, by rw [upd_ne ga]; exact eG, ?_, ?_, ?_, ms ++ [n * (1 + r2)], ?_, ?_, ?_⟩
            · rw [List.length_map, ml]
              have hi := (List.getElem?_eq_some_iff.mp hni).1
              exact small1000 (by omega)
            · exact (k3.trans (Keep.put o2)).new nG
            · exact PoolAt.upd (.put ho2) ga
            · rw [List.length_append, ml]; rfl
            · intro y hy
              rcases List.mem_append.mp hy with h | h
              · exact mb y h
              · rw [List.mem_singleton.mp h]
                have b1 : 0 ≤ n * (1 + r2) := Int.mul_nonneg n0 (by omega)
                have b2 : n * (1 + r2) ≤ 3 * (1 + r2) := Int.mul_le_mul_of_nonneg_right (by omega) (by omega)
                refine ⟨b1, ?_⟩
                generalize n * (1 + r2) = q at b1 b2 ⊢
                omega
            · rw [upd_same, List.map_append]
              rfl
          · rintro H' ⟨k3, p3, ms, ml, mb, eG⟩
            rw [List.length_map] at ml
            exact q4 G ms sz H' z1 z2 (by omega) mb (k2.trans k3) p3 ga eG
        · exact q4 l ns sz _ z1 z2 hl hn4 (kp.trans (Keep.put o)) (.put ho) la (by rw [upd_ne la]; exact el)
      · exact q4 l ns sz _ z1 z2 hl hn4 kp p1 la el
    obtain ⟨u2, h2, q2⟩ : ∃ u, PSs (cxOf CX0 P w K mg base ["_law_pool_here", "_law_size", "_law_tops_here", "_law_k", "_law_top"] "_law_tops" (defScope s_tops) f cdv A outer s H E).nox ((defBody s_tops).drop 2) u ∧ ∀ (sz : Int) (H1 : Hp), 1 ≤ sz → sz ≤ 20 → Keep a H H1 → PoolAt H1 a → u { nx := fun _ H' => Q .non H', rt := Q } [some (.ref a), some (.int sz), none, none, none] H1 := by
      refine ⟨_, (pss_cons (ps_setLc (i := 2) (own := [("_law_k", 3)]) rfl sc_tops.nd rfl rfl (sw_true rfl rfl rfl (by decide +kernel)) (pi_range1 (by rfl) n_range (pa_cons (pv 1) pa_nil)) (blkOk_by (N := ["_law_pool_here", "_law_size", "_law_tops_here", "_law_k", "_law_top"]) (sc := defScope s_tops) (by decide +kernel)) (fun _ _ _ _ _ => (pg_name (i := 3) sc_tops.nd rfl (Or.inl rfl))) (fun _ _ _ _ _ => pts_nil) (fun _ _ _ _ _ => (pe_ix (show IxR _ (rIxT K) from ix_tup) (pe_tup (pa_cons pe_int (pa_cons pe_int (pa_cons pe_int (pa_cons pe_int (pa_cons pe_int (pa_cons pe_int pa_nil))))))) (pe_cal c_draw (hr.mono (by decide)) rfl (pa_cons (pv 0) (pa_cons pe_int pa_nil))) (fun _ _ => rfl)))) h3), fun sz H1 z1 z2 kp p1 => ?_⟩
      refine ⟨_, rfl, sz, rfl, by omega, by omega, fun G nG => ?_⟩
      have ga := p1.fresh nG
      refine lc_range (fun i H' => Keep a H1 H' ∧ PoolAt H' a ∧ ∃ ms : List Int, ms.length = i ∧ (∀ n ∈ ms, 0 ≤ n ∧ n < 4) ∧ H' G = some (.lst (ms.map V.int))) ⟨Keep.of (Same.put nG), p1.new nG, [], rfl, fun _ h => (nomatch h), upd_same⟩ ?_ ?_
      · rintro i H' hi ⟨k3, p3, ms, ml, mb, eG⟩
        refine ⟨rfl, yes_of ?_⟩
        refine ⟨by show 6 ≤ sizeLine; decide, fun t nt => ⟨_, rfl, a, 6, rfl, p3.new nt, by decide, by decide, fun r o r0 r1 ho => ?_⟩⟩
        have ta := p3.fresh nt
        have each : ∃ n : Int, ([V.int 0, V.int 0, V.int 1, V.int 1, V.int 2, V.int 3] : List V)[r.toNat]? = some (.int n) ∧ 0 ≤ n ∧ n < 4 := by
          have hr6 : r = 0 ∨ r = 1 ∨ r = 2 ∨ r = 3 ∨ r = 4 ∨ r = 5 := by omega
          rcases hr6 with rfl | rfl | rfl | rfl | rfl | rfl
          · exact ⟨0, rfl, by decide, by decide⟩
          · exact ⟨0, rfl, by decide, by decide⟩
          · exact ⟨1, rfl, by decide, by decide⟩
          · exact ⟨1, rfl, by decide, by decide⟩
          · exact ⟨2, rfl, by decide, by decide⟩
          · exact ⟨3, rfl, by decide, by decide⟩
        obtain ⟨n, hn, n0, n1⟩ := each
        have hat := atI_nat hn
        rw [Int.toNat_of_nonneg r0] at hat
        refine ⟨t, _, r, _, rfl, rfl, SqT.of (by rw [upd_ne ta, upd_same]), hat, ms.map V.int, by rw [upd_ne ga]; exact Same.put nt _ _ eG, ?_, ?_, ?_, ms ++ [n], ?_, ?_, ?_⟩
        · rw [List.length_map, ml]
          exact small1000 (by omega)
        · exact ((k3.trans (Keep.of (Same.put nt))).trans (Keep.put o)).new nG
        · exact PoolAt.upd (.put ho) ga
        · rw [List.length_append, ml]; rfl
        · intro y hy
          rcases List.mem_append.mp hy with h | h
          · exact mb y h
          · rw [List.mem_singleton.mp h]
            exact ⟨n0, n1⟩
        · rw [upd_same, List.map_append]
          rfl
      · rintro H' ⟨k3, p3, ms, ml, mb, eG⟩
        exact q3 G ms sz H' z1 z2 (by omega) mb (kp.trans k3) p3 ga eG
    refine ⟨_, (pss_cons (ps_set (i := 1) sc_tops.nd rfl (Or.inl rfl) (pe_op op_add pe_int (pe_cal c_draw (hr.mono (by decide)) rfl (pa_cons (pv 0) (pa_cons pe_int pa_nil)))))
      (pss_cons (ps_if (pt_cmpR op_eq (pe_cal c_draw (hr.mono (by decide)) rfl (pa_cons (pv 0) (pa_cons pe_int pa_nil))) pe_int (nomark _))
        (pss_one (ps_set (i := 1) sc_tops.nd rfl (Or.inl rfl) (pe_op op_add pe_int (pe_cal c_draw (hr.mono (by decide)) rfl (pa_cons (pv 0) (pa_cons pe_int pa_nil))))))
        pss_nil) h2)), ?_⟩
    refine ⟨_, rfl, a, 8, rfl, hp, by decide, by decide, fun r o r0 r1 ho => ⟨1, r, rfl, rfl, ?_⟩⟩
    have k1 : Keep a H (upd H a o) := Keep.put o
    have p1 : PoolAt (upd H a o) a := .put ho
    generalize (upd H a o) = H1 at k1 p1 ⊢
    refine ⟨_, rfl, a, 12, rfl, p1, by decide, by decide, fun r2 o2 r20 r21 ho2 => ⟨rfl, _, rfl, iteB (fun z => ?_) (fun z => ?_)⟩⟩
    · refine ⟨_, rfl, a, 12, rfl, .put ho2, by decide, by decide, fun r3 o3 r30 r31 ho3 => ⟨9, r3, rfl, rfl, ?_⟩⟩
      exact q2 (9 + r3) _ (by omega) (by omega) ((k1.trans (Keep.put o2)).trans (Keep.put o3)) (.put ho3)
    · exact q2 (1 + r) _ (by omega) (by omega) (k1.trans (Keep.put o2)) (.put ho2)
abbrev s_handed : Stmt := top 31
theorem sc_handed : FnScope ["_law_pool_here", "_law_part_here"] ["_law_pool_here", "_law_part_here"] (defScope s_handed) := ⟨rfl, rfl, rfl, by decide +kernel, rfl, by decide +kernel, by decide +kernel⟩
/-- _law_handed(pool, part) -/
def spHanded (C : Addr) : Sp := fun vs H Q _ => ∃ (a b : Addr) (t n : Int), vs = [.ref a, .ref b] ∧ PoolAt H a ∧ Pair H b t n ∧ Low t n ∧ ∀ (v : V) (H' : Hp), Keep a H H' → PoolAt H' a → Nm C H' v t n → Q v H'
theorem ok_handed {f : Addr} {fd : FuncData} (F : Fun K "_law_handed" "_law_handed" s_handed f fd) (m : MkT P w K mg base C B) (c_draw : Cal P w K mg base 1 "_law_draw" ["_law_pool_here", "_law_many"] spDraw) : FnOk P w K mg base CX0 6 f fd ["_law_pool_here", "_law_part_here"] (spHanded C) := by
  refine F.ok sc_handed (fun vs H Q E h => ?_) (fun cdv A outer s H vs Q E hr h => ?_)
  · obtain ⟨a, b, t, n, rfl, _⟩ := h
    rfl
  · obtain ⟨a, b, t, n, rfl, hp, hb, lo, k⟩ := h
    have sb : ∀ {H1 : Hp}, Keep a H H1 → SqT K H1 b [.int t, .int n] := fun kk => SqT.of (kk _ _ hb (hp.ne hb))
    refine ⟨_, (pss_cons (ps_if (PW.pt (pw_and (pt_cmpR op_eq (pe_ix ix_tup (pv 1) pe_int (fun _ _ => rfl)) pe_int (nomark _)) (pw_and1 (pt_cmpR op_eq (pe_cal c_draw (hr.mono (by decide)) rfl (pa_cons (pv 0) (pa_cons pe_int pa_nil))) pe_int (nomark _)))))
        (pss_one (ps_ret (pe_ix ix_tup (pv 1) pe_int (fun _ _ => rfl))))
        pss_nil)
      (pss_one (ps_ret (pe_share2 m hr rfl (pa_cons (pe_ix ix_tup (pv 1) pe_int (fun _ _ => rfl)) (pa_cons (pe_ix ix_tup (pv 1) pe_int (fun _ _ => rfl)) pa_nil)))))), ?_⟩
    have made : ∀ {H1 : Hp} (kk : Keep a H H1) (p1 : PoolAt H1 a) (σ : St), σ[1]? = some (some (.ref b)) → (tRet (tMake C (spSI K C B) [] E0 (tCons (tOp (rIxT K) (tVar 1) (tC (.int 0))) (tCons (tOp (rIxT K) (tVar 1) (tC (.int 1))) tNil)))) { nx := fun _ H' => Q .non H', rt := Q } σ H1 := fun {H1} kk p1 σ hσ =>
      ⟨_, hσ, b, _, 0, _, rfl, rfl, sb kk, at0, _, hσ, b, _, 1, _, rfl, rfl, sb kk, at1, fun z dz hz hd ne => si_ok hz hd ne (a := t) (b := n) (by have := lo.pos; omega) (log_of lo.nb (by decide) (by decide)) fun H2 s2 e2 => ⟨rfl, by
        have h1 := low_one (x := t) lo.pos lo.gcd
        rw [h1.1, h1.2] at e2
        exact k _ H2 (kk.trans (Keep.of s2)) (p1.same s2) (.inr ⟨z, dz, rfl, e2⟩)⟩⟩
    refine ⟨_, rfl, b, _, 1, _, rfl, rfl, sb (Keep.refl a H), at1, rfl, _, rfl, iteB (fun z => ?_) (fun z => ?_)⟩
    · have n1 : n = 1 := V.int.inj (of_decide_eq_true z)
      subst n1
      refine ⟨_, rfl, a, 2, rfl, hp, by decide, by decide, fun r o r0 r1 ho => ⟨rfl, _, rfl, iteB (fun z2 => ?_) (fun z2 => ?_)⟩⟩
      · exact ⟨_, rfl, b, _, 0, _, rfl, rfl, sb (Keep.put o), at0, k _ _ (Keep.put o) (.put ho) (.inl ⟨rfl, rfl⟩)⟩
      · exact made (Keep.put o) (.put ho) _ rfl
    · exact made (Keep.refl a H) hp _ rfl
end
end K3

set_option Elab.async false
set_option linter.all false
set_option maxRecDepth 100000
set_option maxHeartbeats 4000000
namespace K3
open PySem L2
theorem cut_to (ns : List Int) (k : Nat) (hk : k ≤ ns.length) : cutV (ns.map V.int) none (some (k : Int)) = (ns.take k).map V.int := by
  unfold cutV
  have h0 : HT.sIx (ns.map V.int).length 0 none = 0 := rfl
  have h1 : HT.sIx (ns.map V.int).length (ns.map V.int).length (some (k : Int)) = k := by
    rw [HT.sIx_nat, List.length_map]
    exact Nat.min_eq_left hk
  rw [h0, h1, List.drop_zero, Nat.sub_zero, List.map_take]
/-! ### places -/
theorem take_mono {l : List Int} (h : ∀ S ∈ l, 0 ≤ S) {i j : Nat} (hij : i ≤ j) : (l.take i).sum ≤ (l.take j).sum := by
  have e : l.take i = (l.take j).take i := by rw [List.take_take, Nat.min_eq_left hij]
  rw [e]
  exact sum_take_le (fun S hS => h S (List.mem_of_mem_take hS)) i
theorem place_one {l : List Int} (h : ∀ S ∈ l, 0 ≤ S) {S : Int} {i j : Nat} (hi : Place l S i) (hj : Place l S j) : i = j := by
  obtain ⟨_, i1, i2⟩ := hi
  obtain ⟨_, j1, j2⟩ := hj
  by_cases a : i < j
  · have := take_mono h (i := i + 1) (j := j) a
    omega
  · by_cases b : j < i
    · have := take_mono h (i := j + 1) (j := i) b
      omega
    · omega
theorem place_some : ∀ {l : List Int} {S : Int}, 0 ≤ S → S < l.sum → ∃ i, Place l S i
  | [], S, h0, h1 => by rw [List.sum_nil] at h1; omega
  | a :: r, S, h0, h1 => by
    rw [List.sum_cons] at h1
    by_cases q : S < a
    · exact ⟨0, Nat.zero_lt_succ _, by rw [List.take_zero, List.sum_nil]; exact h0, by rw [List.take_succ_cons, List.sum_cons, List.take_zero, List.sum_nil]; omega⟩
    · obtain ⟨i, h2, h3, h4⟩ := place_some (l := r) (S := S - a) (by omega) (by omega)
      exact ⟨i + 1, Nat.succ_lt_succ h2, by rw [List.take_succ_cons, List.sum_cons]; omega, by rw [List.take_succ_cons, List.sum_cons]; omega⟩
theorem sum_mul (c : Int) : ∀ l : List Int, (l.map (c * ·)).sum = c * l.sum
  | [] => by simp
  | a :: r => by rw [List.map_cons, List.sum_cons, List.sum_cons, sum_mul c r, Int.mul_add]
theorem place_mul {l : List Int} {S : Int} {i : Nat} : Place (l.map (7 * ·)) S i ↔ i < l.length ∧ 7 * (l.take i).sum ≤ S ∧ S < 7 * (l.take (i + 1)).sum := by
  unfold Place
  rw [List.length_map, ← List.map_take, ← List.map_take, sum_mul, sum_mul]
/-- the first place behind which the sum is greater -/
theorem first_place {l : List Int} (h : ∀ S ∈ l, 0 ≤ S) {S : Int} {i : Nat} (hp : Place (l.map (7 * ·)) S i) : ((List.range l.length).filter fun k => decide (7 * (l.take (k + 1)).sum > S))[0]? = some i := by
  obtain ⟨h1, h2, h3⟩ := place_mul.mp hp
  have split : List.range l.length = List.range i ++ (List.range (l.length - i)).map (i + ·) := by
    rw [← List.range_add]
    congr 1
    omega
  rw [split, List.filter_append]
  have none : (List.range i).filter (fun k => decide (7 * (l.take (k + 1)).sum > S)) = [] := by
    rw [List.filter_eq_nil_iff]
    intro k hk q
    have hk2 := List.mem_range.mp hk
    have := take_mono h (i := k + 1) (j := i) hk2
    have := of_decide_eq_true q
    omega
  rw [none, List.nil_append]
  obtain ⟨m, hm⟩ : ∃ m, l.length - i = m + 1 := ⟨l.length - i - 1, by omega⟩
  rw [hm, List.range_succ_eq_map, List.map_cons, List.filter_cons, if_pos (by simpa using h3)]
  rfl
/-- numbers over a multiple -/
theorem Num.scale {C : Addr} {H : Hp} {v : V} {S D c : Int} (hD : 0 < D) (hc : 0 < c) (h : Num C H v S D) : Num C H v (c * S) (c * D) := by
  have hp : 0 < c * D := Int.mul_pos hc hD
  have e := low_ratio (a := c * S) (b := c * D) (c := S) (d := D) (by omega) (by omega) (by ac_rfl)
  unfold Num
  rw [e.1, e.2]
  exact h
/-- numbers ns over D -/
theorem items_of {K : PySem.W.Frag} {C : Addr} {D : Int} {H : Hp} {xs : List V} {ns : List Int} (h : Nums C D H xs ns) (b : ∀ n ∈ ns, n.natAbs < 2 ^ 3000) : Items K C D H xs (ns.map some) := ⟨by rw [List.length_map]; exact h.1, fun i x e => by
  obtain ⟨S, e2, n⟩ := h.2 i x e
  exact ⟨some S, by rw [List.getElem?_map, e2]; rfl, n, b S (mem_of_at e2)⟩⟩
theorem getD_some (ns : List Int) : (ns.map some).map (fun o : Option Int => o.getD 0) = ns := by
  rw [List.map_map]
  exact List.map_id'' (fun _ => rfl) ns
theorem spr_some {ns : List Int} {D : Int} (h : ∀ n ∈ ns, 0 ≤ n) (e : ns.sum = D) : sprB D (ns.map some) = true := by
  unfold sprB
  rw [getD_some, e, decide_eq_true rfl, Bool.and_true, List.map_map, List.all_eq_true]
  intro b hb
  obtain ⟨n, hn, rfl⟩ := List.mem_map.mp hb
  exact decide_eq_true (h n hn)
theorem Nums.scale {C : Addr} {D c : Int} {H : Hp} {xs : List V} {ns : List Int} (hD : 0 < D) (hc : 0 < c) (h : Nums C D H xs ns) : Nums C (c * D) H xs (ns.map (c * ·)) := ⟨by rw [List.length_map]; exact h.1, fun i x e => by
  obtain ⟨S, e2, n⟩ := h.2 i x e
  exact ⟨c * S, by rw [List.getElem?_map, e2]; rfl, n.scale hD hc⟩⟩
end K3

set_option Elab.async false
set_option linter.all false
set_option maxRecDepth 100000
set_option maxHeartbeats 4000000
namespace K3
open PySem L2
theorem sh_told (i : Int) : SeqAt.shaped (.tuple [.str "told", .int i]) = true := by
  have h : PyData.strOk (Str.ofString "told") = true := by decide +kernel
  show ((PyData.strOk (Str.ofString "told") && (true && true)) && decide (PyData.depth (.tuple [.str "told", .int i]) ≤ 64)) = true
  rw [h]
  rfl
/-- _law_right_places(tops, items) -/
def spRight (K : PySem.W.Frag) (C : Addr) : Sp := fun vs H Q _ => ∃ (l t : Addr) (ns : List Int) (xs : List V), vs = [.ref l, .ref t] ∧ H l = some (.lst (ns.map V.int)) ∧ H t = some (.tup xs) ∧ Nums C ns.sum H xs ns ∧ (∀ n ∈ ns, 0 ≤ n ∧ n < 2 ^ 40) ∧ ns.length ≤ 20 ∧ 0 < ns.sum ∧ ∀ H', Same H H' → Q (.bl true) H'
section
variable {P : Program} {w : World} {K : PySem.W.Frag} {mg : Str → Option Value} {base : Heap} {C B : Addr}
abbrev s_right : Stmt := top 36
theorem sc_right : FnScope ["_law_tops_here", "_law_items", "_law_whole", "_law_sums", "_law_passed", "_law_x", "_law_due", "_law_told", "_law_k"] ["_law_tops_here", "_law_items"] (defScope s_right) := ⟨rfl, rfl, rfl, by decide +kernel, rfl, by decide +kernel, by decide +kernel⟩
theorem ok_right {f : Addr} {fd : FuncData} (F : Fun K "_law_right_places" "_law_right_places" s_right f fd) (T : ShT K mg C) (m : MkT P w K mg base C B) (n_range : mg "range" = none) (n_sum : mg "sum" = none) (c_picked : Cal P w K mg base 14 "_law_picked" ["_law_thing", "_law_share"] (spPicked K C)) (c_number : Cal P w K mg base 1 "_law_number" ["_law_thing"] (spWhole K C)) :
    FnOk P w K mg base CX0 15 f fd ["_law_tops_here", "_law_items"] (spRight K C) := by
  refine F.ok sc_right (fun vs H Q E h => ?_) (fun cdv A outer s H vs Q E hr h => ?_)
  · obtain ⟨l, t, ns, xs, rfl, _⟩ := h
    rfl
  · obtain ⟨l, t, ns, xs, rfl, el, et, nums, bound, hlen, hpos, k⟩ := h
    refine ⟨_, (pss_cons (ps_par (i := 2) (j := 3) (by rfl) sc_right.nd rfl rfl (by decide) rfl rfl (pa_cons (pe_callB (show CallR _ _ (rSum K) from cr_sum rfl) (by rfl) n_sum PyProof.Rows.boot_sum (pa_cons (pv 0) pa_nil)) (pa_cons (pe_lc (own := [("_law_k", 8)]) rfl sc_right.nd (pi_range1 (by rfl) n_range (pa_cons (pe_callB call_len_seq (by rfl) T.bn.n_len PySem.boot_len (pa_cons (pv 0) pa_nil)) pa_nil)) (blkOk_by (N := ["_law_tops_here", "_law_items", "_law_whole", "_law_sums", "_law_passed", "_law_x", "_law_due", "_law_told", "_law_k"]) (sc := defScope s_right) (by decide +kernel)) (fun _ _ _ _ _ => (pg_name (i := 8) sc_right.nd rfl (Or.inl rfl))) (fun _ _ _ _ _ => pts_nil) (fun _ _ _ _ _ => (pe_callB (show CallR _ _ (rSum K) from cr_sum rfl) (by rfl) n_sum PyProof.Rows.boot_sum (pa_cons (pe_slice (show SlR _ (rSlL K) from sl_list) (pv 0) po_none (po_some (pv 8))) pa_nil)))) pa_nil)) (by rfl))
      (pss_cons (ps_for PassesOwn.never rfl (pi_list (pv 3)) (pg_name (i := 4) sc_right.nd rfl (Or.inl rfl))
        (pss_one (ps_for PassesOwn.never rfl (pi_tup (pe_tup (pa_cons (pe_op op_sub (pe_op op_mul pe_int (pv 4)) pe_int) (pa_cons (pe_op op_mul pe_int (pv 4)) (pa_cons (pe_op op_add (pe_op op_mul pe_int (pv 4)) pe_int) pa_nil))))) (pg_name (i := 5) sc_right.nd rfl (Or.inr rfl))
            (pss_one (ps_if (PW.pt (pw_and (pt_cmpR op_le pe_int (pv 5) (nomark _)) (pw_and1 (pt_cmpR op_lt (pv 5) (pe_op op_mul pe_int (pv 2)) (nomark _)))))
                (pss_cons (ps_set (i := 6) sc_right.nd rfl (Or.inl rfl) (pe_ix ix_list (pe_lc (own := [("_law_k", 8)]) rfl sc_right.nd (pi_range1 (by rfl) n_range (pa_cons (pe_callB call_len_seq (by rfl) T.bn.n_len PySem.boot_len (pa_cons (pv 0) pa_nil)) pa_nil)) (blkOk_by (N := ["_law_tops_here", "_law_items", "_law_whole", "_law_sums", "_law_passed", "_law_x", "_law_due", "_law_told", "_law_k"]) (sc := defScope s_right) (by decide +kernel)) (fun _ _ _ _ _ => (pg_name (i := 8) sc_right.nd rfl (Or.inl rfl))) (fun _ _ _ _ _ => (pts_one (pt_cmpR op_gt (pe_op op_mul pe_int (pe_callB (show CallR _ _ (rSum K) from cr_sum rfl) (by rfl) n_sum PyProof.Rows.boot_sum (pa_cons (pe_slice (show SlR _ (rSlL K) from sl_list) (pv 0) po_none (po_some (pe_op op_add (pv 8) pe_int))) pa_nil))) (pv 5) (nomark _)))) (fun _ _ _ _ _ => (pv 8))) pe_int (fun _ _ => rfl)))
                  (pss_cons (ps_set (i := 7) sc_right.nd rfl (Or.inl rfl) (pe_cal c_picked hr rfl (pa_cons (pv 1) (pa_cons (pe_share2 m (hr.mono (by decide)) rfl (pa_cons (pv 5) (pa_cons (pe_op op_mul pe_int (pv 2)) pa_nil))) pa_nil))))
                  (pss_one (ps_if (PW.pt (pw_or (pt_cmpR op_ne (pe_ix ix_tup (pv 7) pe_int (fun _ _ => rfl)) pe_str (nomark _)) (pw_or (pt_not (pt_val (pe_cal c_number (hr.mono (by decide)) rfl (pa_cons (pe_ix ix_tup (pv 7) pe_int (fun _ _ => rfl)) pa_nil)))) (pw_or1 (pt_cmpR op_ne (pe_ix ix_tup (pv 7) pe_int (fun _ _ => rfl)) (pv 6) (nomark _))))))
                    (pss_one (ps_ret pe_bl))
                    pss_nil))))
                pss_nil)))))
      (pss_one (ps_ret (pe_cmpR (op_eqD hr.units) (pe_cal c_picked hr rfl (pa_cons (pv 1) (pa_cons pe_int pa_nil))) (pe_cal c_picked hr rfl (pa_cons (pv 1) (pa_cons (pe_share1 m (hr.mono (by decide)) rfl (pa_cons pe_int pa_nil)) pa_nil))) (nomark _)))))), ?_⟩
    have sb : ns.sum.natAbs < 2 ^ 45 := by
      have h := sum_bound (B := 2 ^ 40) ns fun S hS => by
        have := bound S hS
        omega
      have h2 : ns.length * 2 ^ 40 ≤ 20 * 2 ^ 40 := Nat.mul_le_mul_right _ hlen
      exact Nat.lt_of_le_of_lt (Nat.le_trans h h2) (by decide)
    have small : ∀ n ∈ ns, n.natAbs < 2 ^ 3000 := fun n hn => Nat.lt_trans (by have := bound n hn; omega : n.natAbs < 2 ^ 41) (by decide +kernel)
    have small7 : ∀ n ∈ ns.map (7 * ·), n.natAbs < 2 ^ 3000 := fun n hn => by
      obtain ⟨z, hz, rfl⟩ := List.mem_map.mp hn
      exact Nat.lt_trans (by have := bound z hz; omega : (7 * z).natAbs < 2 ^ 44) (by decide +kernel)
    have nn : ∀ n ∈ ns, 0 ≤ n := fun n hn => (bound n hn).1
    have nn7 : ∀ n ∈ ns.map (7 * ·), 0 ≤ n := fun n hn => by
      obtain ⟨z, hz, rfl⟩ := List.mem_map.mp hn
      have := nn z hz
      show 0 ≤ 7 * z
      omega
    have s45 : ∀ {z : Int}, z.natAbs < 2 ^ 60 → z.natAbs < 2 ^ 3000 := fun h => Nat.lt_trans h (by decide +kernel)
    have len0 : ns.length ≤ 1000 := by omega
    -- the end
    have last : ∀ (σ : St) (H1 : Hp), Same H H1 → σ[1]? = some (some (.ref t)) → (tRet (tOp (rEqD K) (tCall (spPicked K C) [] E0 (tCons (tVar 1) (tCons (tC (.int 0)) tNil))) (tCall (spPicked K C) [] E0 (tCons (tVar 1) (tCons (tMake C (spSI K C B) [.int 1] E0 (tCons (tC (.int 0)) tNil)) tNil))))) { nx := fun _ H' => Q .non H', rt := Q } σ H1 := fun σ H1 s1 hσ => by
      have its : ∀ {H2 : Hp}, Same H H2 → Items K C ns.sum H2 xs (ns.map some) := fun s2 => items_of (nums.same s2) small
      have zero : ns.sum * 0 = 0 := Int.mul_zero _
      refine ⟨_, hσ, .ref t, .int 0, rfl, .inl ⟨t, xs, ns.map some, ns.sum, rfl, s1 _ _ et, its s1, hpos, s45 (Nat.lt_trans sb (by decide)), by rw [List.length_map]; exact len0, spr_some nn rfl, .inl ⟨0, ?_, by decide +kernel, .inl ⟨Int.le_refl 0, hpos, fun i r H2 s2 pl e2 => ?_⟩⟩⟩⟩
      · have h := Num.int (C := C) (H := H1) hpos 0
        rw [Int.zero_mul] at h
        exact h
      refine ⟨_, hσ, fun z dz hz hd ne => si_ok hz hd ne (a := 0) (b := 1) (by decide) (by decide +kernel) fun H3 s3 e3 => ⟨rfl, .ref t, .ref z, rfl, .inl ⟨t, xs, ns.map some, ns.sum, rfl, ((s1.trans s2).trans s3) _ _ et, its ((s1.trans s2).trans s3), hpos, s45 (Nat.lt_trans sb (by decide)), by rw [List.length_map]; exact len0, spr_some nn rfl, .inl ⟨0, ?_, by decide +kernel, .inl ⟨Int.le_refl 0, hpos, fun i2 r2 H4 s4 pl2 e4 => ?_⟩⟩⟩⟩⟩
      · have h := low_whole (i := 0) hpos
        rw [Int.zero_mul] at h
        have h2 := low_int 0
        rw [h2.1, h2.2] at e3
        unfold Num
        rw [h.1, h.2]
        exact .inr ⟨z, dz, rfl, e3⟩
      rw [getD_some] at pl pl2
      have ei := place_one nn pl pl2
      subst ei
      have dt : ∀ {H5 : Hp} {r : Addr}, H5 r = some (.tup [.str "told", .int (i : Int)]) → Dp K H5 (.ref r) (.tuple [.str "told", .int (i : Int)]) := fun e => .tup (.inl (.inl e)) (.cons (.str _) (.cons (.int _) .nil))
      have sh := sh_told (i : Int)
      refine ⟨_, _, dt ((s3.trans s4) _ _ e2), dt e4, sh, sh, ?_⟩
      rw [SeqAt.eqv_refl _ (SeqAt.canLay_of_shaped sh)]
      exact k _ (((s1.trans s2).trans s3).trans s4)
    refine ⟨_, rfl, l, ns, rfl, SqL.of el, _, rfl, l, _, rfl, .inl (SqL.of el), _, rfl, by rw [List.length_map]; omega, by rw [List.length_map]; omega, fun G nG => ?_⟩
    refine lc_range (fun i H' => Same H H' ∧ ∃ ms : List Int, ms.length = i ∧ H' G = some (.lst (ms.map V.int))) ⟨Same.put nG, [], rfl, upd_same⟩ ?_ ?_
    · rintro i H' hi ⟨s1, ms, ml, eG⟩
      rw [List.length_map, Int.toNat_natCast] at hi
      refine ⟨rfl, yes_of ?_⟩
      refine ⟨_, rfl, _, rfl, _, rfl, l, _, rfl, SqL.of (s1 _ _ el), fun p np => ?_⟩
      obtain ⟨zs, hzs, _⟩ := cut_map ns none (some (0 + (i : Int)))
      rw [hzs]
      refine ⟨p, zs, rfl, SqL.of upd_same, ms.map V.int, Same.put np _ _ eG, ?_, ?_, ms ++ [zs.sum], ?_, ?_⟩
      · rw [List.length_map, ml]
        exact small1000 (by omega)
      · intro b u hu
        rw [upd_ne (ne_of_none hu nG)]
        exact Same.put np _ _ (s1 _ _ hu)
      · rw [List.length_append, ml]; rfl
      · rw [upd_same, List.map_append]
        rfl
    rintro H1 ⟨s1, ss, _, eG⟩
    refine ⟨_, _, rfl, ?_⟩
    refine ⟨_, rfl, G, rfl, ⟨_, SqL.of eG⟩, for_list (K := K) (a := G) (xs := ss.map V.int) (fun i σ H' => Same H1 H' ∧ ∃ v4 v5 v6 v7, σ = [some (.ref l), some (.ref t), some (.int ns.sum), some (.ref G), v4, v5, v6, v7, none]) ⟨Same.refl H1, none, none, none, none, rfl⟩ (fun i σ H' _ h => SqL.of (h.1 _ _ eG)) ?_ ?_⟩
    · rintro i x σ H2 hx ⟨s2, v4, v5, v6, v7, rfl⟩
      obtain ⟨p, _, rfl⟩ := at_map hx
      refine ⟨_, rfl, 7, p, rfl, rfl, .inl ⟨by decide, by decide⟩, _, _, rfl, rfl, _, rfl, 7, p, rfl, rfl, .inl ⟨by decide, by decide⟩, _, rfl, 7, p, rfl, rfl, .inl ⟨by decide, by decide⟩, _, _, rfl, rfl, by show 3 ≤ sizeLine; decide, fun q nq => ?_⟩
      have sq : Same H2 (upd H2 q (.tup [.int (7 * p - 1), .int (7 * p), .int (7 * p + 1)])) := Same.put nq
      have eq : (upd H2 q (.tup [.int (7 * p - 1), .int (7 * p), .int (7 * p + 1)])) q = some (.tup [.int (7 * p - 1), .int (7 * p), .int (7 * p + 1)]) := upd_same
      generalize (upd H2 q (.tup [.int (7 * p - 1), .int (7 * p), .int (7 * p + 1)])) = H3 at sq eq ⊢
      refine ⟨q, rfl, ⟨_, SqT.of eq⟩, for_tup (K := K) (a := q) (xs := [.int (7 * p - 1), .int (7 * p), .int (7 * p + 1)]) (fun j σ H' => Same H3 H' ∧ ∃ w5 w6 w7, σ = [some (.ref l), some (.ref t), some (.int ns.sum), some (.ref G), some (.int p), w5, w6, w7, none]) ⟨Same.refl H3, v5, v6, v7, rfl⟩ (fun j σ H' _ h => SqT.of (h.1 _ _ eq)) ?_ ?_⟩
      · rintro j x σ H4 hx ⟨s4, w5, w6, w7, rfl⟩
        have ix : ∃ xv : Int, x = .int xv := by
          have hm := mem_of_at hx
          simp only [List.mem_cons, List.not_mem_nil, or_false] at hm
          rcases hm with rfl | rfl | rfl <;> exact ⟨_, rfl⟩
        obtain ⟨xv, rfl⟩ := ix
        have s04 : Same H H4 := ((s1.trans s2).trans sq).trans s4
        refine ⟨_, rfl, 0, xv, rfl, rfl, _, rfl, iteB (fun z => ?_) (fun z => ⟨s4, _, w6, w7, rfl⟩)⟩
        refine ⟨_, rfl, _, rfl, 7, ns.sum, rfl, rfl, .inl ⟨by decide, by decide⟩, xv, 7 * ns.sum, rfl, rfl, _, rfl, iteB (fun z2 => ?_) (fun z2 => ⟨s4, _, w6, w7, rfl⟩)⟩
        have h0 : 0 ≤ xv := of_decide_eq_true z
        have h1 : xv < 7 * ns.sum := of_decide_eq_true z2
        have p7 : 0 < 7 * ns.sum := by omega
        obtain ⟨pl, hpl⟩ := place_some (l := ns.map (7 * ·)) h0 (by rw [sum_mul]; exact h1)
        -- the first place that is due
        refine ⟨_, rfl, l, _, rfl, .inl (SqL.of (s04 _ _ el)), _, rfl, by rw [List.length_map]; omega, by rw [List.length_map]; omega, fun G2 nG2 => ?_⟩
        refine lc_range (fun i H' => Same H4 H' ∧ H' G2 = some (.lst (((List.range i).filter fun k => decide (7 * (ns.take (k + 1)).sum > xv)).map fun k : Nat => V.int (k : Int)))) ⟨Same.put nG2, upd_same⟩ ?_ ?_
        · rintro i H5 hi ⟨s5, e5⟩
          rw [List.length_map, Int.toNat_natCast] at hi
          have cast : (0 : Int) + (i : Int) + 1 = ((i + 1 : Nat) : Int) := by omega
          refine ⟨rfl, _, rfl, _, rfl, _, _, rfl, rfl, _, rfl, l, _, rfl, SqL.of ((s04.trans s5) _ _ el), fun r nr => ?_⟩
          rw [cast, cut_to ns (i + 1) (by omega)]
          refine ⟨r, ns.take (i + 1), rfl, SqL.of upd_same, 7, _, rfl, rfl, .inl ⟨by decide, by decide⟩, _, rfl, _, _, rfl, rfl, _, rfl, ?_⟩
          have s6 : Same H4 (upd H5 r (.lst ((ns.take (i + 1)).map V.int))) := s5.trans (Same.put nr)
          have e6 := Same.put (o := .lst ((ns.take (i + 1)).map V.int)) nr _ _ e5
          generalize (upd H5 r (.lst ((ns.take (i + 1)).map V.int))) = H6 at s6 e6 ⊢
          have grow : ∀ b, decide (7 * (ns.take (i + 1)).sum > xv) = b → (List.range (i + 1)).filter (fun k => decide (7 * (ns.take (k + 1)).sum > xv)) = (List.range i).filter (fun k => decide (7 * (ns.take (k + 1)).sum > xv)) ++ (if b = true then [i] else []) := fun b hb => by
            rw [List.range_succ, List.filter_append]
            congr 1
            rw [List.filter_cons, hb]
            cases b <;> rfl
          refine iteB (fun z3 => ?_) (fun z3 => ?_)
          · refine ⟨_, rfl, _, e6, ?_, ?_, ?_⟩
            · rw [List.length_map]
              exact small1000 (Nat.le_trans (List.length_filter_le _ _) (by rw [List.length_range]; omega))
            · intro b u hu
              rw [upd_ne (ne_of_none hu nG2)]
              exact s6 _ _ hu
            · rw [upd_same, grow true z3, List.map_append]
              show some (HO.lst (_ ++ [V.int (0 + (i : Int))])) = _
              rw [Int.zero_add]
              rfl
          · refine ⟨s6, ?_⟩
            rw [grow false z3]
            rw [e6]
            simp
        · rintro H5 ⟨s5, e5⟩
          rw [List.length_map, Int.toNat_natCast] at e5
          have first := first_place nn hpl
          refine ⟨G2, _, 0, .int (pl : Int), rfl, rfl, SqL.of e5, atI_nat (by rw [List.getElem?_map, first]; rfl), ?_⟩
          -- what is told
          refine ⟨_, rfl, _, rfl, _, rfl, 7, ns.sum, rfl, rfl, .inl ⟨by decide, by decide⟩, fun z dz hz hd ne => si_ok hz hd ne (a := xv) (b := 7 * ns.sum) (by omega) (log_small (b := 60) (by omega) (by decide) (by decide)) fun H6 s6 e6 => ⟨rfl, ?_⟩⟩
          have s06 := (s04.trans s5).trans s6
          have it7 : Items K C (7 * ns.sum) H6 xs ((ns.map (7 * ·)).map some) := items_of ((nums.same s06).scale hpos (by decide)) small7
          refine ⟨.ref t, .ref z, rfl, .inl ⟨t, xs, _, 7 * ns.sum, rfl, s06 _ _ et, it7, p7, s45 (by omega), by rw [List.length_map, List.length_map]; exact len0, spr_some nn7 (sum_mul 7 ns), .inl ⟨xv, .inr ⟨z, dz, rfl, e6⟩, s45 (by omega), .inl ⟨h0, h1, fun i2 r H7 s7 pl2 e7 => ?_⟩⟩⟩⟩
          rw [getD_some] at pl2
          have ei := place_one nn7 hpl pl2
          subst ei
          refine ⟨_, rfl, r, _, 0, _, rfl, rfl, SqT.of e7, i0 (y := .int (pl : Int)), rfl, _, rfl, ?_⟩
          have eqf : ∀ {x : V} {A D : Prop}, D → if (!decide (x = x)) = true then A else D := fun h => by
            rw [if_neg (by simp)]
            exact h
          refine eqf ⟨_, rfl, r, _, 1, _, rfl, rfl, SqT.of e7, i1, .int (pl : Int), rfl, .fo (.int _), _, rfl, iteF ?_⟩
          exact ⟨_, rfl, r, _, 1, _, rfl, rfl, SqT.of e7, i1, _, rfl, rfl, _, rfl, eqf ⟨((s4.trans s5).trans s6).trans s7, _, _, _, rfl⟩⟩
      · rintro σ H4 ⟨s4, w5, w6, w7, rfl⟩
        exact ⟨(s2.trans sq).trans s4, _, w5, w6, w7, rfl⟩
    · rintro σ H2 ⟨s2, v4, v5, v6, v7, rfl⟩
      exact last _ H2 (s1.trans s2) rfl
end
end K3

set_option Elab.async false
set_option linter.all false
set_option maxRecDepth 100000
set_option maxHeartbeats 4000000
namespace K3
open PySem L2
/-- lists may change, all else stands -/
def Mv (H H' : Hp) : Prop := (∀ b u, H b = some u → (∀ ys, u ≠ .lst ys) → H' b = some u) ∧ ∀ b ys, H b = some (.lst ys) → ∃ zs, H' b = some (.lst zs)
theorem Mv.refl (H : Hp) : Mv H H := ⟨fun _ _ h _ => h, fun _ ys h => ⟨ys, h⟩⟩
theorem Mv.trans {H H1 H2 : Hp} (x : Mv H H1) (y : Mv H1 H2) : Mv H H2 := ⟨fun b u h n => y.1 b u (x.1 b u h n) n, fun b ys h => let ⟨zs, e⟩ := x.2 b ys h; y.2 b zs e⟩
theorem Mv.of {H H' : Hp} (s : Same H H') : Mv H H' := ⟨fun b u h _ => s b u h, fun b ys h => ⟨ys, s b _ h⟩⟩
theorem Mv.lst {H : Hp} {a : Addr} {ys zs : List V} (e : H a = some (.lst ys)) : Mv H (upd H a (.lst zs)) := ⟨fun b u h n => by
    have ne : b ≠ a := fun q => by rw [q, e] at h; cases h; exact n _ rfl
    rw [upd_ne ne]
    exact h, fun b xs h => by
    by_cases q : b = a
    · rw [q]; exact ⟨zs, upd_same⟩
    · exact ⟨xs, by rw [upd_ne q]; exact h⟩⟩
theorem Mv.keep {H H' : Hp} {a : Addr} (k : Keep a H H') (p : PoolAt H a) (p' : PoolAt H' a) : Mv H H' := by
  obtain ⟨u, e, n, g, rfl, _⟩ := p
  obtain ⟨u', e', n', g', rfl, _⟩ := p'
  refine ⟨fun b u h nl => k b u h fun q => ?_, fun b ys h => ?_⟩
  · rw [q, e] at h; cases h; exact nl _ rfl
  · by_cases q : b = a
    · rw [q]; exact ⟨_, e'⟩
    · exact ⟨ys, k b _ h q⟩
theorem Num.mv {C : Addr} {H H' : Hp} {v : V} {S D : Int} (h : Num C H v S D) (m : Mv H H') : Num C H' v S D := by
  rcases h with h | ⟨a, dx, e, h⟩
  · exact .inl h
  · exact .inr ⟨a, dx, e, m.1 _ _ h fun ys z => by cases z⟩
theorem fo_mv {K : PySem.W.Frag} {H H' : Hp} {x : V} {T : String} (h : Fo K H x T) (m : Mv H H') : Fo K H' x T := by
  cases h with
  | non => exact .non
  | bl b => exact .bl b
  | int i => exact .int i
  | str x => exact .str x
  | lst e => obtain ⟨zs, e2⟩ := m.2 _ _ e; exact .lst e2
  | tup e => exact .tup (m.1 _ _ e fun ys z => by cases z)
  | dK e => exact .dK (m.1 _ _ e fun ys z => by cases z)
theorem Item.mv {K : PySem.W.Frag} {C : Addr} {D : Int} {H H' : Hp} {x : V} {o : Option Int} (h : Item K C D H x o) (m : Mv H H') : Item K C D H' x o := by
  cases o with
  | some S => exact ⟨h.1.mv m, h.2⟩
  | none =>
    obtain ⟨T, fo, ix⟩ := h
    exact ⟨T, fo_mv fo m, ix⟩
/-- each is an item -/
def Each (K : PySem.W.Frag) (C : Addr) (D : Int) (H : Hp) (ys : List V) : Prop := ∀ y ∈ ys, ∃ o, Item K C D H y o
theorem Each.mv {K : PySem.W.Frag} {C : Addr} {D : Int} {H H' : Hp} {ys : List V} (h : Each K C D H ys) (m : Mv H H') : Each K C D H' ys := fun y hy => let ⟨o, i⟩ := h y hy; ⟨o, i.mv m⟩
theorem Each.items {K : PySem.W.Frag} {C : Addr} {D : Int} {H : Hp} : ∀ {ys : List V}, Each K C D H ys → ∃ os, Items K C D H ys os
  | [], _ => ⟨[], rfl, fun i x e => by simp at e⟩
  | y :: r, h => by
    obtain ⟨o, io⟩ := h y List.mem_cons_self
    obtain ⟨os, hl, hi⟩ := Each.items (ys := r) fun z hz => h z (List.mem_cons_of_mem _ hz)
    refine ⟨o :: os, by rw [List.length_cons, List.length_cons, hl], fun i x e => ?_⟩
    cases i with
    | zero => cases e; exact ⟨o, rfl, io⟩
    | succ i => exact hi i x e
/-- + of two numbers over D -/
theorem add_num {C : Addr} {x y : V} {S S' D : Int} {H : Hp} {Q : VK} (hD : 0 < D) (hDb : D.natAbs < 2 ^ 4000) (hS : S.natAbs < 2 ^ 4000) (hS' : S'.natAbs < 2 ^ 4000) (hx : Num C H x S D) (hy : Num C H y S' D) (k : ∀ v H', Same H H' → Num C H' v (S + S') D → Q v H') :
    (rI0 fun i j => .int (i + j)) x y H Q ∨ rAr C (spAdd C) (spRadd C) x y H Q := by
  have d := low_sum (S := S) (S' := S') hD
  have l1 := low_of hD hS hDb
  have l2 := low_of hD hS' hDb
  have hx' : Nm C H x (lowT S D) (lowB S D) := hx
  have hy' : Nm C H y (lowT S' D) (lowB S' D) := hy
  have k' : ∀ v H', Same H H' → Nm C H' v (lowT (S + S') D) (lowB (S + S') D) → Q v H' := k
  generalize lowT S D = t at *
  generalize lowB S D = n at *
  generalize lowT S' D = t' at *
  generalize lowB S' D = n' at *
  generalize lowT (S + S') D = r at *
  generalize lowB (S + S') D = m at *
  rcases hx' with ⟨rfl, rfl⟩ | ⟨a, dx, rfl, ha⟩
  · rcases hy' with ⟨rfl, rfl⟩ | ⟨b, db, rfl, hb⟩
    · refine .inl ⟨t, t', rfl, rfl, k' _ H (Same.refl H) ?_⟩
      have h := low_int (t * 1 + t' * 1)
      rw [show ((1 : Int) * 1) = 1 from rfl, h.1, h.2] at d
      obtain ⟨d1, d2⟩ := d
      have e : t + t' = r := by
        rw [← d1, Int.mul_one, Int.mul_one]
      exact .inl ⟨congrArg V.int e, d2.symm⟩
    · refine .inr (.inr ⟨t, b, db, _, rfl, rfl, hb, b, db, t, t', n', rfl, hb, l2, l1, fun z dz H' s e => ?_⟩)
      have e1 : t' * 1 + t * n' = t * n' + t' * 1 := Int.add_comm _ _
      rw [e1, Int.mul_comm n' 1, d.1, d.2] at e
      exact k' _ H' s (.inr ⟨z, dz, rfl, e⟩)
  · refine .inr (.inl ⟨a, dx, _, rfl, ha, other_of hy', a, dx, y, t, n, t', n', rfl, ha, hy', l1, l2, fun z dz H' s e => ?_⟩)
    rw [d.1, d.2] at e
    exact k' _ H' s (.inr ⟨z, dz, rfl, e⟩)
end K3

set_option Elab.async false
set_option linter.all false
set_option maxRecDepth 100000
set_option maxHeartbeats 4000000
namespace K3
open PySem L2
abbrev ifElse (s : Stmt) : List Stmt := match s with
  | .If _ _ b _ => b
  | _ => []
abbrev s_spoiled : Stmt := top 33
theorem sc_spoiled : FnScope ["_law_pool_here", "_law_items", "_law_way", "_law_at", "_law_to", "_law_row", "_law_step", "_law_whole", "_law_k"] ["_law_pool_here", "_law_items"] (defScope s_spoiled) := ⟨rfl, rfl, rfl, by decide +kernel, rfl, by decide +kernel, by decide +kernel⟩
abbrev nthS (l : List Stmt) (i : Nat) : Stmt := l.getD i (.Pass ⟨0, 0, 0, 0⟩)
abbrev c0 : Stmt := nthS (defBody s_spoiled) 3
abbrev c1 : Stmt := nthS (ifElse c0) 0
abbrev c2 : Stmt := nthS (ifElse c1) 0
abbrev c3 : Stmt := nthS (ifElse c2) 0
abbrev c4 : Stmt := nthS (ifElse c3) 0
abbrev c5 : Stmt := nthS (ifElse c4) 0
abbrev c6 : Stmt := nthS (ifElse c5) 0
abbrev c7 : Stmt := nthS (ifElse c6) 0
/-- what the row is to be at the end -/
def NxR (K : PySem.W.Frag) (C : Addr) (D : Int) (a L : Addr) (H : Hp) (nx : St → Hp → Prop) : Prop := ∀ σ H' ys, σ[5]? = some (some (.ref L)) → Keep a H H' → PoolAt H' a → H' L = some (.lst ys) → ys.length ≤ 100 → Each K C D H' ys → nx σ H'
/-- the row as it stands ahead -/
structure Row0 (C : Addr) (D W : Int) (a L : Addr) (H H1 : Hp) (ys : List V) (ms : List Int) (v6 : V) : Prop where
  kp : Keep a H H1
  pl : PoolAt H1 a
  la : L ≠ a
  lf : ∀ u, H L = some u → False
  el : H1 L = some (.lst ys)
  nm : Nums C D H1 ys ms
  sm : ∀ m ∈ ms, m.natAbs < 2 ^ 200
  ln : ys.length ≤ 20
  n6 : Num C H1 v6 W D
  w6 : W.natAbs < 2 ^ 200
  hD : 0 < D
  db : D.natAbs < 2 ^ 3000
theorem sm200 {a : Int} (h : a.natAbs < 2 ^ 200) : a.natAbs < 2 ^ 3000 := Nat.lt_trans h (by decide +kernel)
theorem row_put {a L : Addr} {H H1 : Hp} {ys zs : List V} {K : PySem.W.Frag} {C : Addr} {D : Int} {nx : St → Hp → Prop} {σ : St} (n : NxR K C D a L H nx) (kp : Keep a H H1) (pl : PoolAt H1 a) (la : L ≠ a) (lf : ∀ u, H L = some u → False) (el : H1 L = some (.lst ys)) (hz : zs.length ≤ 100) (ez : Each K C D H1 zs) (hσ : σ[5]? = some (some (.ref L))) : nx σ (upd H1 L (.lst zs)) :=
  n σ _ zs hσ (fun b u hu ne => by
    by_cases q : b = L
    · rw [q] at hu; exact (lf u hu).elim
    · rw [upd_ne q]; exact kp b u hu ne) (.upd pl la) upd_same hz (ez.mv (.lst el))
theorem each_set {K : PySem.W.Frag} {C : Addr} {D : Int} {H : Hp} {ys : List V} {j : Nat} {y : V} (h : Each K C D H ys) (hy : ∃ o, Item K C D H y o) : Each K C D H (ys.set j y) := fun z hz => by
  rcases List.mem_or_eq_of_mem_set hz with q | q
  · exact h z q
  · rw [q]; exact hy
theorem Nums.each {K : PySem.W.Frag} {C : Addr} {D : Int} {H : Hp} {ys : List V} {ms : List Int} (h : Nums C D H ys ms) (b : ∀ m ∈ ms, m.natAbs < 2 ^ 200) : Each K C D H ys := fun y hy => by
  obtain ⟨i, hi⟩ := List.getElem?_of_mem hy
  obtain ⟨S, hS, n⟩ := h.2 i y hi
  exact ⟨some S, n, sm200 (b S (mem_of_at hS))⟩
theorem ix_in {n : Nat} {i : Int} (h0 : 0 ≤ i) (h1 : i < n) : ixN n i = some i.toNat := by
  unfold ixN
  rw [if_pos h0, if_pos h1]
theorem at_in {ys : List V} {i : Int} (h0 : 0 ≤ i) (h1 : i < ys.length) : ∃ y, atI ys i = some y ∧ ys[i.toNat]? = some y := by
  have hlt : i.toNat < ys.length := by omega
  refine ⟨ys[i.toNat], ?_, List.getElem?_eq_getElem hlt⟩
  have h := atI_nat (xs := ys) (j := i.toNat) (v := ys[i.toNat]) (List.getElem?_eq_getElem hlt)
  rw [Int.toNat_of_nonneg h0] at h
  exact h
theorem Row0.num {C : Addr} {D W : Int} {a L : Addr} {H H1 : Hp} {ys : List V} {ms : List Int} {v6 : V} (r : Row0 C D W a L H H1 ys ms v6) {i : Int} (h0 : 0 ≤ i) (h1 : i < ys.length) : ∃ y S, atI ys i = some y ∧ ys[i.toNat]? = some y ∧ Num C H1 y S D ∧ S.natAbs < 2 ^ 200 := by
  obtain ⟨y, e1, e2⟩ := at_in h0 h1
  obtain ⟨S, hS, n⟩ := r.nm.2 _ y e2
  exact ⟨y, S, e1, e2, n, r.sm S (mem_of_at hS)⟩
theorem add200 {a b : Int} (ha : a.natAbs < 2 ^ 200) (hb : b.natAbs < 2 ^ 200) : (a + b).natAbs < 2 ^ 201 := by
  have := Int.natAbs_add_le a b
  have e : (2 : Nat) ^ 201 = 2 ^ 200 + 2 ^ 200 := by decide +kernel
  generalize (2 : Nat) ^ 200 = M at *
  generalize (2 : Nat) ^ 201 = N at *
  omega
section
variable {P : Program} {w : World} {K : PySem.W.Frag} {mg : Str → Option Value} {base : Heap} {C B : Addr} {f : Addr} {cdv : Value} {A : Around} {outer : List Env} {s : Shared} {H : Hp} {E : XK}
abbrev XS (P : Program) (w : World) (K : PySem.W.Frag) (mg : Str → Option Value) (base : Heap) (f : Addr) (cdv : Value) (A : Around) (outer : List Env) (s : Shared) (H : Hp) (E : XK) : Cx :=
  (cxOf CX0 P w K mg base ["_law_pool_here", "_law_items", "_law_way", "_law_at", "_law_to", "_law_row", "_law_step", "_law_whole", "_law_k"] "_law_spoiled" (defScope s_spoiled) f cdv A outer s H E).nox
theorem br0 (ad : AddT P w K mg base C) (hr : Room 9 (XS P w K mg base f cdv A outer s H E).A) : ∃ u, PSs (XS P w K mg base f cdv A outer s H E) (ifBody c0) u ∧ ∀ (Dn : Ends) (D W : Int) (a L : Addr) (H1 : Hp) (ys : List V) (ms : List Int) (v6 : V) (v0 v1 v2 v4 v7 v8 : Option V) (i : Int), Row0 C D W a L H H1 ys ms v6 → 0 ≤ i → i < ys.length → NxR K C D a L H Dn.nx →
    u Dn [v0, v1, v2, some (.int i), v4, some (.ref L), some v6, v7, v8] H1 := by
  have o := (ArT.op (X := XS P w K mg base f cdv A outer s H E) ad (hr.mono (by decide)) (hr.mono (by decide))).toR
  refine ⟨_, (pss_one (ps_asg (pe_op (OpR.or op_add o) (pe_ix ix_list (pv 5) (pv 3) (fun _ _ => rfl)) (pv 6)) (pg_sub (pv 5) (pv 3) set_list))), fun Dn D W a L H1 ys ms v6 v0 v1 v2 v4 v7 v8 i r h0 h1 n => ?_⟩
  obtain ⟨y, S, e1, e2, ny, hS⟩ := r.num h0 h1
  refine ⟨_, rfl, _, rfl, L, ys, i, y, rfl, rfl, SqL.of r.el, e1, _, rfl, add_num r.hD (up4000 r.db) (up4000 (sm200 hS)) (up4000 (sm200 r.w6)) ny r.n6 fun v H2 s2 nv => ?_⟩
  refine ⟨_, rfl, _, rfl, L, ys, i, _, rfl, rfl, s2 _ _ r.el, ix_in h0 h1, ?_⟩
  exact row_put n (r.kp.trans (Keep.of s2)) (r.pl.same s2) r.la r.lf (s2 _ _ r.el) (by rw [List.length_set]; have := r.ln; omega) (each_set ((r.nm.same s2).each r.sm) ⟨some _, nv, Nat.lt_trans (add200 hS r.w6) (by decide +kernel)⟩) rfl
theorem br1 (ad : AddT P w K mg base C) (sb : SubT P w K mg base C) (hr : Room 9 (XS P w K mg base f cdv A outer s H E).A) : ∃ u, PSs (XS P w K mg base f cdv A outer s H E) (ifBody c1) u ∧ ∀ (Dn : Ends) (D W : Int) (a L : Addr) (H1 : Hp) (ys : List V) (ms : List Int) (v6 : V) (v0 v1 v2 v7 v8 : Option V) (i j : Int), Row0 C D W a L H H1 ys ms v6 → 0 ≤ i → i < ys.length → 0 ≤ j → j < ys.length → NxR K C D a L H Dn.nx →
    u Dn [v0, v1, v2, some (.int i), some (.int j), some (.ref L), some v6, v7, v8] H1 := by
  have o := (ArT.op (X := XS P w K mg base f cdv A outer s H E) ad (hr.mono (by decide)) (hr.mono (by decide))).toR
  have o2 := (ArT.op (X := XS P w K mg base f cdv A outer s H E) sb (hr.mono (by decide)) (hr.mono (by decide))).toR
  refine ⟨_, (pss_cons (ps_asg (pe_op (OpR.or op_add o) (pe_ix ix_list (pv 5) (pv 3) (fun _ _ => rfl)) (pv 6)) (pg_sub (pv 5) (pv 3) set_list))
    (pss_one (ps_asg (pe_op (OpR.or op_sub o2) (pe_ix ix_list (pv 5) (pv 4) (fun _ _ => rfl)) (pv 6)) (pg_sub (pv 5) (pv 4) set_list)))), fun Dn D W a L H1 ys ms v6 v0 v1 v2 v7 v8 i j r h0 h1 j0 j1 n => ?_⟩
  obtain ⟨y, S, e1, e2, ny, hS⟩ := r.num h0 h1
  refine ⟨_, rfl, _, rfl, L, ys, i, y, rfl, rfl, SqL.of r.el, e1, _, rfl, add_num r.hD (up4000 r.db) (up4000 (sm200 hS)) (up4000 (sm200 r.w6)) ny r.n6 fun v H2 s2 nv => ?_⟩
  refine ⟨_, rfl, _, rfl, L, ys, i, _, rfl, rfl, s2 _ _ r.el, ix_in h0 h1, ?_⟩
  have b201 := add200 hS r.w6
  have el3 : (upd H2 L (.lst (ys.set i.toNat v))) L = some (.lst (ys.set i.toNat v)) := upd_same
  have m3 : Mv H2 (upd H2 L (.lst (ys.set i.toNat v))) := .lst (s2 _ _ r.el)
  have k3 : Keep a H (upd H2 L (.lst (ys.set i.toNat v))) := fun b u hu ne => by
    by_cases q : b = L
    · rw [q] at hu; exact (r.lf u hu).elim
    · rw [upd_ne q]; exact s2 _ _ (r.kp b u hu ne)
  have p3 : PoolAt (upd H2 L (.lst (ys.set i.toNat v))) a := .upd (r.pl.same s2) r.la
  have n63 := (r.n6.same s2).mv m3
  have each3 : ∀ (q : Nat) (z : V), (ys.set i.toNat v)[q]? = some z → ∃ Z, Num C (upd H2 L (.lst (ys.set i.toNat v))) z Z D ∧ Z.natAbs < 2 ^ 201 := fun q z hz => by
    rw [List.getElem?_set] at hz
    split at hz
    · split at hz
      · cases hz; exact ⟨_, nv.mv m3, b201⟩
      · cases hz
    · obtain ⟨Z, hZ, nz⟩ := (r.nm.same s2).2 q z hz
      exact ⟨Z, nz.mv m3, Nat.lt_trans (r.sm Z (mem_of_at hZ)) (by decide +kernel)⟩
  have l3 : (ys.set i.toNat v).length = ys.length := List.length_set
  generalize (upd H2 L (.lst (ys.set i.toNat v))) = H3 at el3 k3 p3 n63 each3 ⊢
  generalize ys.set i.toNat v = zs at el3 each3 l3 ⊢
  obtain ⟨z, f1, f2⟩ := at_in (ys := zs) j0 (by omega)
  obtain ⟨Z, nz, hZ⟩ := each3 _ z f2
  have hZ4 : Z.natAbs < 2 ^ 4000 := Nat.lt_trans hZ (by decide +kernel)
  refine ⟨_, rfl, _, rfl, L, zs, j, z, rfl, rfl, SqL.of el3, f1, _, rfl, sub_num r.hD (up4000 r.db) hZ4 (up4000 (sm200 r.w6)) nz n63 fun v9 H9 s9 n9 => ?_⟩
  refine ⟨_, rfl, _, rfl, L, zs, j, _, rfl, rfl, s9 _ _ el3, ix_in j0 (by omega), ?_⟩
  have ea : Each K C D H9 zs := fun y hy => by
    obtain ⟨q, hq⟩ := List.getElem?_of_mem hy
    obtain ⟨Z2, nz2, hZ2⟩ := each3 q y hq
    exact ⟨some Z2, nz2.same s9, Nat.lt_trans hZ2 (by decide +kernel)⟩
  have sz : (Z - W).natAbs < 2 ^ 3000 := by
    have h2 : W.natAbs < 2 ^ 201 := Nat.lt_trans r.w6 (by decide +kernel)
    have h1 : (Z - W).natAbs ≤ Z.natAbs + W.natAbs := Int.natAbs_sub_le Z W
    have h3 : (2 : Nat) ^ 201 + 2 ^ 201 < 2 ^ 3000 := by decide +kernel
    generalize (2 : Nat) ^ 201 = M at *
    generalize (2 : Nat) ^ 3000 = N at *
    omega
  exact row_put n (k3.trans (Keep.of s9)) (p3.same s9) r.la r.lf (s9 _ _ el3) (by rw [List.length_set, l3]; have := r.ln; omega) (each_set ea ⟨some _, n9, sz⟩) rfl
theorem br2 : ∃ u, PSs (XS P w K mg base f cdv A outer s H E) (ifBody c2) u ∧ ∀ (Dn : Ends) (D W : Int) (a L : Addr) (H1 : Hp) (ys : List V) (ms : List Int) (v6 : V) (v0 v1 v2 v7 v8 : Option V) (i j : Int), Row0 C D W a L H H1 ys ms v6 → 0 ≤ i → i < ys.length → 0 ≤ j → j < ys.length → NxR K C D a L H Dn.nx →
    u Dn [v0, v1, v2, some (.int i), some (.int j), some (.ref L), some v6, v7, v8] H1 := by
  refine ⟨_, (pss_one (ps_asg (pe_tup (pa_cons (pe_ix ix_list (pv 5) (pv 4) (fun _ _ => rfl)) (pa_cons (pe_ix ix_list (pv 5) (pv 3) (fun _ _ => rfl)) pa_nil))) (pg_tup (by rfl) (pgs_cons (pg_sub (pv 5) (pv 3) set_list) (pgs_cons (pg_sub (pv 5) (pv 4) set_list) pgs_nil))))), fun Dn D W a L H1 ys ms v6 v0 v1 v2 v7 v8 i j r h0 h1 j0 j1 n => ?_⟩
  obtain ⟨y, S, e1, e2, ny, hS⟩ := r.num h0 h1
  obtain ⟨z, Z, f1, f2, nz, hZ⟩ := r.num j0 j1
  refine ⟨_, rfl, _, rfl, L, ys, j, z, rfl, rfl, SqL.of r.el, f1, _, rfl, _, rfl, L, ys, i, y, rfl, rfl, SqL.of r.el, e1, by show 2 ≤ sizeLine; decide, fun p np => ?_⟩
  have s2 : Same H1 (upd H1 p (.tup [z, y])) := Same.put np
  have ep : (upd H1 p (.tup [z, y])) p = some (.tup [z, y]) := upd_same
  generalize (upd H1 p (.tup [z, y])) = H2 at s2 ep ⊢
  refine ⟨p, _, rfl, SqT.of ep, rfl, _, _, rfl, _, rfl, _, rfl, L, ys, i, _, rfl, rfl, s2 _ _ r.el, ix_in h0 h1, ?_⟩
  refine ⟨_, _, rfl, _, rfl, _, rfl, L, ys.set i.toNat z, j, _, rfl, rfl, upd_same, ix_in j0 (by rw [List.length_set]; exact j1), rfl, ?_⟩
  rw [upd_upd]
  have ea := (r.nm.same s2).each (K := K) r.sm
  exact row_put n (r.kp.trans (Keep.of s2)) (r.pl.same s2) r.la r.lf (s2 _ _ r.el) (by rw [List.length_set, List.length_set]; have := r.ln; omega)
    (each_set (each_set ea ⟨some Z, nz.same s2, sm200 hZ⟩) ⟨some S, ny.same s2, sm200 hS⟩) rfl
theorem br4 : ∃ u, PSs (XS P w K mg base f cdv A outer s H E) (ifBody c4) u ∧ ∀ (Dn : Ends) (D W : Int) (a L : Addr) (H1 : Hp) (ys : List V) (ms : List Int) (v6 : V) (v0 v1 v2 v4 v7 v8 : Option V) (i : Int), Row0 C D W a L H H1 ys ms v6 → 0 ≤ i → i < ys.length → NxR K C D a L H Dn.nx →
    u Dn [v0, v1, v2, some (.int i), v4, some (.ref L), some v6, v7, v8] H1 := by
  refine ⟨_, (pss_one (ps_expr (pe_bm PySem.F.plainAttrs_list PySem.F.slot_list_pop PySem.F.type_list_pop mt_popAt (pv 5) (pa_cons (pv 3) pa_nil)))), fun Dn D W a L H1 ys ms v6 v0 v1 v2 v4 v7 v8 i r h0 h1 n => ?_⟩
  obtain ⟨y, S, e1, e2, ny, hS⟩ := r.num h0 h1
  have hx := (ixN_seq (ix_in h0 h1)).1
  refine ⟨_, rfl, .inl ⟨rfl, _, SqL.of r.el⟩, _, rfl, L, ys, i, i.toNat, y, rfl, rfl, r.el, by omega, by have := r.ln; omega, hx, e2, ?_⟩
  exact row_put n r.kp r.pl r.la r.lf r.el (by have := List.length_eraseIdx_le ys i.toNat; have := r.ln; omega) (fun z hz => (r.nm.each r.sm) z (List.mem_of_mem_eraseIdx hz)) rfl
theorem br3 (m : MkT P w K mg base C B) (c_pick : Cal P w K mg base 2 "_law_pick" ["_law_pool_here", "_law_things"] (spPick K)) (hr : Room 9 (XS P w K mg base f cdv A outer s H E).A) : ∃ u, PSs (XS P w K mg base f cdv A outer s H E) (ifBody c3) u ∧ ∀ (Dn : Ends) (D W : Int) (a L : Addr) (H1 : Hp) (ys : List V) (ms : List Int) (v6 : V) (v1 v2 v4 v7 v8 : Option V) (i : Int), Row0 C D W a L H H1 ys ms v6 → 0 ≤ i → i < ys.length → NxR K C D a L H Dn.nx →
    u Dn [some (.ref a), v1, v2, some (.int i), v4, some (.ref L), some v6, v7, v8] H1 := by
  refine ⟨_, (pss_one (ps_expr (pe_bm PySem.F.plainAttrs_list PySem.F.slot_list_insert PySem.F.type_list_insert mt_insert (pv 5) (pa_cons (pv 3) (pa_cons (pe_cal c_pick (hr.mono (by decide)) rfl (pa_cons (pv 0) (pa_cons (pe_tup (pa_cons pe_int (pa_cons (pe_share1 m (hr.mono (by decide)) rfl (pa_cons pe_int pa_nil)) (pa_cons pe_int (pa_cons (pe_share1 m (hr.mono (by decide)) rfl (pa_cons (pe_un un_neg pe_int) pa_nil)) pa_nil))))) pa_nil))) pa_nil))))), fun Dn D W a L H1 ys ms v6 v1 v2 v4 v7 v8 i r h0 h1 n => ?_⟩
  refine ⟨_, rfl, .inl ⟨rfl, _, SqL.of r.el⟩, _, rfl, _, rfl, fun z1 d1 hz1 hd1 ne1 => si_ok hz1 hd1 ne1 (a := 0) (b := 1) (by decide) (by decide +kernel) fun H2 s2 e2 => ⟨rfl, ?_⟩⟩
  refine ⟨_, rfl, fun z2 d2 hz2 hd2 ne2 => si_ok hz2 hd2 ne2 (a := -1) (b := 1) (by decide) (by decide +kernel) fun H3 s3 e3 => ⟨rfl, ?_⟩⟩
  refine ⟨by show 4 ≤ sizeLine; decide, fun t nt => ?_⟩
  have s4 : Same H1 (upd H3 t (.tup [.int 0, .ref z1, .int 1, .ref z2])) := (s2.trans s3).trans (Same.put nt)
  have g2 := Same.put (o := .tup [.int 0, .ref z1, .int 1, .ref z2]) nt _ _ (s3 _ _ e2)
  have g3 := Same.put (o := .tup [.int 0, .ref z1, .int 1, .ref z2]) nt _ _ e3
  have p4 : PoolAt (upd H3 t (.tup [.int 0, .ref z1, .int 1, .ref z2])) a := r.pl.same s4
  have st : SqT K (upd H3 t (.tup [.int 0, .ref z1, .int 1, .ref z2])) t [.int 0, .ref z1, .int 1, .ref z2] := .inl (.inl upd_same)
  generalize (upd H3 t (.tup [.int 0, .ref z1, .int 1, .ref z2])) = H4 at s4 g2 g3 p4 st ⊢
  refine ⟨a, t, _, rfl, p4, st, by show 0 < 4; decide, by show 4 < 1000; decide, fun v o hv ho => ?_⟩
  have m5 : Mv H4 (upd H4 a o) := .keep (Keep.put o) p4 (.put ho)
  have iv : ∃ q, Item K C D (upd H4 a o) v q := by
    have w0 := low_whole (i := 0) r.hD
    have w1 := low_whole (i := -1) r.hD
    have l0 := low_int 0
    have l1 := low_int (-1)
    rw [l0.1, l0.2] at g2
    rw [l1.1, l1.2] at g3
    have small : ∀ c : Int, c = 0 ∨ c = 1 ∨ c = -1 → (c * D).natAbs < 2 ^ 3000 := fun c hc => by
      have := r.db
      rcases hc with rfl | rfl | rfl
      · rw [Int.zero_mul]; exact Nat.lt_of_le_of_lt (Nat.zero_le _) this
      · rw [Int.one_mul]; exact this
      · rw [Int.neg_one_mul, Int.natAbs_neg]; exact this
    simp only [List.mem_cons, List.not_mem_nil, or_false] at hv
    rcases hv with rfl | rfl | rfl | rfl
    · exact ⟨some (0 * D), Num.int r.hD 0, small 0 (.inl rfl)⟩
    · refine ⟨some (0 * D), Num.mv ?_ m5, small 0 (.inl rfl)⟩
      unfold Num
      rw [w0.1, w0.2]
      exact .inr ⟨z1, d1, rfl, g2⟩
    · exact ⟨some (1 * D), Num.int r.hD 1, small 1 (.inr (.inl rfl))⟩
    · refine ⟨some (-1 * D), Num.mv ?_ m5, small (-1) (.inr (.inr rfl))⟩
      unfold Num
      rw [w1.1, w1.2]
      exact .inr ⟨z2, d2, rfl, g3⟩
  have e5 : (upd H4 a o) L = some (.lst ys) := by rw [upd_ne r.la]; exact s4 _ _ r.el
  have ea : Each K C D (upd H4 a o) ys := ((r.nm.same s4).each r.sm).mv m5
  refine ⟨L, ys, i, v, rfl, rfl, e5, small1000 (by have := r.ln; omega), h0, by have := r.ln; omega, ?_⟩
  refine row_put n ((r.kp.trans (Keep.of s4)).trans (Keep.put o)) (.put ho) r.la r.lf e5 ?_ (fun y hy => ?_) rfl
  · rw [List.length_append, List.length_append, List.length_take, List.length_drop]
    show min i.toNat ys.length + 1 + (ys.length - i.toNat) ≤ 100
    have := r.ln
    omega
  · rcases List.mem_append.mp hy with hy | hy
    · rcases List.mem_append.mp hy with hy | hy
      · exact ea y (List.mem_of_mem_take hy)
      · rw [List.mem_singleton.mp hy]; exact iv
    · exact ea y (List.mem_of_mem_drop hy)
theorem br5 (c_pick : Cal P w K mg base 2 "_law_pick" ["_law_pool_here", "_law_things"] (spPick K)) (hr : Room 9 (XS P w K mg base f cdv A outer s H E).A) : ∃ u, PSs (XS P w K mg base f cdv A outer s H E) (ifBody c5) u ∧ ∀ (Dn : Ends) (D W : Int) (a L : Addr) (H1 : Hp) (ys : List V) (ms : List Int) (v6 : V) (v1 v2 v4 v7 v8 : Option V) (i : Int), Row0 C D W a L H H1 ys ms v6 → 0 ≤ i → i < ys.length → NxR K C D a L H Dn.nx →
    u Dn [some (.ref a), v1, v2, some (.int i), v4, some (.ref L), some v6, v7, v8] H1 := by
  refine ⟨_, (pss_one (ps_asg (pe_cal c_pick (hr.mono (by decide)) rfl (pa_cons (pv 0) (pa_cons (pe_tup (pa_cons pe_non (pa_cons pe_str (pa_cons (pe_tup (pa_cons pe_int pa_nil)) (pa_cons (pe_lst pa_nil) (pa_cons pe_dnewK (pa_cons pe_bl (pa_cons pe_bl pa_nil)))))))) pa_nil))) (pg_sub (pv 5) (pv 3) set_list))), fun Dn D W a L H1 ys ms v6 v1 v2 v4 v7 v8 i r h0 h1 n => ?_⟩
  refine ⟨_, rfl, by show 1 ≤ sizeLine; decide, fun t1 n1 => ⟨by show 0 ≤ sizeLine; decide, fun t2 n2 => fun t3 n3 => ⟨by show 7 ≤ sizeLine; decide, fun t4 n4 => ?_⟩⟩⟩
  have s4 : Same H1 (upd (upd (upd (upd H1 t1 (.tup [.int 1])) t2 (.lst [])) t3 (.dK [])) t4 (.tup [.non, .str "1", .ref t1, .ref t2, .ref t3, .bl true, .bl false])) := (((Same.put n1).trans (Same.put n2)).trans (Same.put n3)).trans (Same.put n4)
  have g1 := Same.put (o := .tup [.non, .str "1", .ref t1, .ref t2, .ref t3, .bl true, .bl false]) n4 _ _ (Same.put (o := .dK []) n3 _ _ (Same.put (o := .lst []) n2 t1 (.tup [.int 1]) upd_same))
  have g2 := Same.put (o := .tup [.non, .str "1", .ref t1, .ref t2, .ref t3, .bl true, .bl false]) n4 _ _ (Same.put (o := .dK []) n3 t2 (.lst []) upd_same)
  have g3 := Same.put (o := .tup [.non, .str "1", .ref t1, .ref t2, .ref t3, .bl true, .bl false]) n4 t3 (.dK []) upd_same
  have st : SqT K (upd (upd (upd (upd H1 t1 (.tup [.int 1])) t2 (.lst [])) t3 (.dK [])) t4 (.tup [.non, .str "1", .ref t1, .ref t2, .ref t3, .bl true, .bl false])) t4 [.non, .str "1", .ref t1, .ref t2, .ref t3, .bl true, .bl false] := .inl (.inl upd_same)
  generalize (upd (upd (upd (upd H1 t1 (.tup [.int 1])) t2 (.lst [])) t3 (.dK [])) t4 (.tup [.non, .str "1", .ref t1, .ref t2, .ref t3, .bl true, .bl false])) = H4 at s4 g1 g2 g3 st ⊢
  have p4 : PoolAt H4 a := r.pl.same s4
  refine ⟨a, t4, _, rfl, p4, st, by show 0 < 7; decide, by show 7 < 1000; decide, fun v o hv ho => ?_⟩
  have m5 : Mv H4 (upd H4 a o) := .keep (Keep.put o) p4 (.put ho)
  have iv : ∃ q, Item K C D (upd H4 a o) v q := by
    refine ⟨none, ?_⟩
    simp only [List.mem_cons, List.not_mem_nil, or_false] at hv
    rcases hv with rfl | rfl | rfl | rfl | rfl | rfl | rfl
    · exact ⟨_, .non, rfl⟩
    · exact ⟨_, .str _, rfl⟩
    · exact ⟨_, fo_mv (.tup g1) m5, rfl⟩
    · exact ⟨_, fo_mv (.lst g2) m5, rfl⟩
    · exact ⟨_, fo_mv (.dK g3) m5, rfl⟩
    · exact ⟨_, .bl true, rfl⟩
    · exact ⟨_, .bl false, rfl⟩
  have e5 : (upd H4 a o) L = some (.lst ys) := by rw [upd_ne r.la]; exact s4 _ _ r.el
  have ea : Each K C D (upd H4 a o) ys := ((r.nm.same s4).each r.sm).mv m5
  refine ⟨_, rfl, _, rfl, L, ys, i, _, rfl, rfl, e5, ix_in h0 h1, ?_⟩
  exact row_put n ((r.kp.trans (Keep.of s4)).trans (Keep.put o)) (.put ho) r.la r.lf e5 (by rw [List.length_set]; have := r.ln; omega) (each_set ea iv) rfl
end
end K3

set_option Elab.async false
set_option linter.all false
set_option maxRecDepth 100000
set_option maxHeartbeats 4000000
namespace K3
open PySem L2
def spPickL (K : PySem.W.Frag) : Sp := fun vs H Q _ => ∃ (a t : Addr) (xs : List V), vs = [.ref a, .ref t] ∧ PoolAt H a ∧ H t = some (.lst xs) ∧ t ≠ a ∧ 0 < xs.length ∧ xs.length < 1000 ∧ ∀ (x : V) (o : HO), x ∈ xs → PoolL o → Q x (upd H a o)
theorem shaped_ints (ks : List Nat) : SeqAt.shaped (.list (ks.map fun k : Nat => PyData.int (k : Int))) = true := by
  have h1 : ∀ l : List Nat, PyData.canLayAll0 (l.map fun k : Nat => PyData.int (k : Int)) = true := fun l => by
    induction l with
    | nil => rfl
    | cons a r ih =>
      show (true && PyData.canLayAll0 (r.map fun k : Nat => PyData.int (k : Int))) = true
      rw [ih]
      rfl
  have h2 : ∀ l : List Nat, PyData.depthAll (l.map fun k : Nat => PyData.int (k : Int)) ≤ 1 := fun l => by
    induction l with
    | nil => simp [PyData.depthAll]
    | cons a r ih =>
      rw [List.map_cons]
      simp only [PyData.depthAll, PyData.depth] at ih ⊢
      omega
  show (PyData.canLayAll0 _ && decide (PyData.depth _ ≤ 64)) = true
  rw [h1, Bool.true_and]
  refine decide_eq_true ?_
  have := h2 ks
  simp only [PyData.depth]
  omega
section
variable {P : Program} {w : World} {K : PySem.W.Frag} {mg : Str → Option Value} {base : Heap} {C B : Addr}
theorem ok_pickL {f : Addr} {fd : FuncData} (F : Fun K "_law_pick" "_law_pick" s_pick f fd) (T : Bn mg) (c_draw : Cal P w K mg base 1 "_law_draw" ["_law_pool_here", "_law_many"] spDraw) : FnOk P w K mg base CX0 2 f fd ["_law_pool_here", "_law_things"] (spPickL K) := by
  refine F.ok sc_pick (fun vs H Q E h => ?_) (fun cdv A outer s H vs Q E hr h => ?_)
  · obtain ⟨a, t, xs, rfl, _⟩ := h
    rfl
  · obtain ⟨a, t, xs, rfl, hp, ht, ne, h0, h1, k⟩ := h
    refine ⟨_, (pss_one (ps_ret (pe_ix ix_list (pv 1) (pe_cal c_draw (hr.mono (by decide)) rfl (pa_cons (pv 0) (pa_cons (pe_callB call_len_seq (by rfl) T.n_len PySem.boot_len (pa_cons (pv 1) pa_nil)) pa_nil))) (fun _ _ => rfl)))), ?_⟩
    refine ⟨_, rfl, _, rfl, _, rfl, t, xs, rfl, .inl (SqL.of ht), a, _, rfl, hp, by omega, log_small (b := 10) (by show ((xs.length : Int)).natAbs < 2 ^ 10; rw [Int.natAbs_natCast]; omega) (by decide) (by decide), fun r o r0 r1 ho => ?_⟩
    obtain ⟨y, e1, e2⟩ := at_in (ys := xs) r0 r1
    exact ⟨t, xs, r, y, rfl, rfl, SqL.of (by rw [upd_ne ne]; exact ht), e1, k y o (mem_of_at e2) ho⟩
end
section
variable {P : Program} {w : World} {K : PySem.W.Frag} {mg : Str → Option Value} {base : Heap} {C B : Addr} {f : Addr} {cdv : Value} {A : Around} {outer : List Env} {s : Shared} {H : Hp} {E : XK}
/-- number == c -/
theorem num_is {D S : Int} {y : V} {c : Int} {H1 : Hp} {Q : VK} (ny : Num C H1 y S D) (k : ∀ b, Q (.bl b) H1) : rEq y (.int c) H1 Q ∨ rOwnB K C (EqS K C) .Eq y (.int c) H1 Q := by
  rcases ny with ⟨rfl, _⟩ | ⟨a, dx, rfl, e⟩
  · exact .inl ⟨rfl, k _⟩
  · exact .inr ⟨_, (cmp_fo (K := K) (C := C) (y := .int c) e (.int c) rfl).1, k _⟩
theorem br6 (T : ShT K mg C) (n_range : mg "range" = none) (c_eq : EqT P w K mg base C) (c_pick : Cal P w K mg base 2 "_law_pick" ["_law_pool_here", "_law_things"] (spPickL K)) (hr : Room 9 (XS P w K mg base f cdv A outer s H E).A) : ∃ u, PSs (XS P w K mg base f cdv A outer s H E) (ifBody c6) u ∧ ∀ (Dn : Ends) (D W : Int) (a L : Addr) (H1 : Hp) (ys : List V) (ms : List Int) (v6 : V) (v1 v2 v4 v7 : Option V) (i : Int), Row0 C D W a L H H1 ys ms v6 → 0 ≤ i → i < ys.length → NxR K C D a L H Dn.nx →
    u Dn [some (.ref a), v1, v2, some (.int i), v4, some (.ref L), some v6, v7, none] H1 := by
  obtain ⟨fe, fde, O, FE, hbE⟩ := c_eq.ex
  refine ⟨_, (pss_cons (ps_setLc (i := 7) (own := [("_law_k", 8)]) rfl sc_spoiled.nd rfl rfl (sw_true rfl rfl rfl (by decide +kernel)) (pi_range1 (by rfl) n_range (pa_cons (pe_callB call_len_seq (by rfl) T.bn.n_len PySem.boot_len (pa_cons (pv 5) pa_nil)) pa_nil)) (blkOk_by (N := ["_law_pool_here", "_law_items", "_law_way", "_law_at", "_law_to", "_law_row", "_law_step", "_law_whole", "_law_k"]) (sc := defScope s_spoiled) (by decide +kernel)) (fun _ _ _ _ _ => (pg_name (i := 8) sc_spoiled.nd rfl (Or.inl rfl)))
        (fun _ _ _ _ _ => (pts_one (PW.pt (pw_or (pt_cmpR (OpR.or op_eq (show OpR _ _ (rOwnB K C (EqS K C) .Eq) from op_ownB is_eq FE O hbE pass0 (hr.mono (by decide)))) (pe_ix (show IxR _ (rIxL K) from ix_list) (pv 5) (pv 8) (fun _ _ => rfl)) pe_int (nomark _)) (pw_or1 (pt_cmpR (OpR.or op_eq (show OpR _ _ (rOwnB K C (EqS K C) .Eq) from op_ownB is_eq FE O hbE pass0 (hr.mono (by decide)))) (pe_ix (show IxR _ (rIxL K) from ix_list) (pv 5) (pv 8) (fun _ _ => rfl)) pe_int (nomark _))))))) (fun _ _ _ _ _ => (pv 8)))
      (pss_one (ps_if (pt_cmpR (op_neD hr.units) (pv 7) (pe_lst pa_nil) (nomark _))
        (pss_cons (ps_set (i := 3) sc_spoiled.nd rfl (Or.inl rfl) (pe_cal c_pick (hr.mono (by decide)) rfl (pa_cons (pv 0) (pa_cons (pv 7) pa_nil))))
          (pss_one (ps_asg (pe_cmpR (OpR.or op_eq (op_ownB (C := C) is_eq FE O hbE pass0 (hr.mono (by decide)))) (pe_ix ix_list (pv 5) (pv 3) (fun _ _ => rfl)) pe_int (nomark _)) (pg_sub (pv 5) (pv 3) set_list))))
        pss_nil))), fun Dn D W a L H1 ys ms v6 v1 v2 v4 v7 i r h0 h1 n => ?_⟩
  refine ⟨_, rfl, L, ys, rfl, .inl (SqL.of r.el), _, rfl, by have := r.ln; omega, by have := r.ln; omega, fun G nG => ?_⟩
  have ga := r.pl.fresh nG
  have gl : G ≠ L := fun z => by rw [z, r.el] at nG; cases nG
  refine lc_range (fun q H' => Same H1 H' ∧ ∃ ks : List Nat, H' G = some (.lst (ks.map fun k : Nat => V.int (k : Int))) ∧ (∀ k ∈ ks, k < q) ∧ ks.length ≤ q) ⟨Same.put nG, [], upd_same, fun _ h => (nomatch h), Nat.le_refl _⟩ ?_ ?_
  · rintro q H' hq ⟨s2, ks, eG, hk, hl⟩
    have hq2 : q < ys.length := by omega
    obtain ⟨y, S, e1, e2, ny, hS⟩ := r.num (i := (0 : Int) + (q : Int)) (by omega) (by omega)
    have ny2 := ny.same s2
    have el2 := s2 _ _ r.el
    have yes : ∃ acc, H' G = some (.lst acc) ∧ acc.length < sizeLine ∧ Same H1 (upd H' G (.lst (acc ++ [V.int ((0 : Int) + (q : Int))]))) ∧ ∃ ks : List Nat, (upd H' G (.lst (acc ++ [V.int ((0 : Int) + (q : Int))]))) G = some (.lst (ks.map fun k : Nat => V.int (k : Int))) ∧ (∀ k ∈ ks, k < q + 1) ∧ ks.length ≤ q + 1 := by
      refine ⟨_, eG, by rw [List.length_map]; exact small1000 (by have := r.ln; omega), fun b u hu => by rw [upd_ne (ne_of_none hu nG)]; exact s2 _ _ hu, ks ++ [q], ?_, ?_, ?_⟩
      · rw [upd_same, List.map_append, Int.zero_add]
        rfl
      · intro k hm
        rcases List.mem_append.mp hm with h | h
        · have := hk k h
          omega
        · rw [List.mem_singleton.mp h]
          omega
      · rw [List.length_append]
        show ks.length + 1 ≤ q + 1
        omega
    have no : Same H1 H' ∧ ∃ ks : List Nat, H' G = some (.lst (ks.map fun k : Nat => V.int (k : Int))) ∧ (∀ k ∈ ks, k < q + 1) ∧ ks.length ≤ q + 1 := ⟨s2, ks, eG, fun k h => Nat.lt_succ_of_lt (hk k h), Nat.le_succ_of_le hl⟩
    refine ⟨rfl, _, rfl, _, rfl, L, ys, _, y, rfl, rfl, SqL.of el2, e1, num_is ny2 fun b => ⟨b, rfl, iteB (fun _ => iteT ⟨_, rfl, yes⟩) (fun _ => ?_)⟩⟩
    exact ⟨_, rfl, _, rfl, L, ys, _, y, rfl, rfl, SqL.of el2, e1, num_is ny2 fun b2 => ⟨b2, rfl, iteB (fun z => ⟨_, rfl, yes⟩) (fun z => no)⟩⟩
  · rintro H2 ⟨s2, ks, eG, hk, hl⟩
    refine ⟨_, rfl, by show 0 ≤ sizeLine; decide, fun p np => ?_⟩
    have s3 : Same H1 (upd H2 p (.lst [])) := s2.trans (Same.put np)
    have eG3 := Same.put (o := .lst []) np _ _ eG
    have ep : (upd H2 p (.lst [])) p = some (.lst []) := upd_same
    generalize (upd H2 p (.lst [])) = H3 at s3 eG3 ep ⊢
    have dp : ∀ l : List Nat, DpAll K H3 (l.map fun k : Nat => V.int (k : Int)) (l.map fun k : Nat => PyData.int (k : Int)) := fun l => by
      induction l with
      | nil => exact .nil
      | cons a r ih => exact .cons (.int _) ih
    have el3 := s3 _ _ r.el
    refine ⟨.list (ks.map fun k : Nat => PyData.int (k : Int)), .list [], .lst (SqL.of eG3) (dp ks), .lst (SqL.of ep) .nil, shaped_ints ks, shaped_ints [], _, rfl, ?_⟩
    cases ks with
    | nil =>
      rw [show PyData.eqv (.list (([] : List Nat).map fun k : Nat => PyData.int (k : Int))) (.list []) = true from SeqAt.eqv_refl _ (SeqAt.canLay_of_shaped (shaped_ints []))]
      exact iteF (n _ _ ys rfl (r.kp.trans (Keep.of s3)) (r.pl.same s3) el3 (by have := r.ln; omega) ((r.nm.same s3).each r.sm))
    | cons k0 kr =>
      rw [show PyData.eqv (.list ((k0 :: kr).map fun k : Nat => PyData.int (k : Int))) (.list []) = false by simp [PyData.eqv, PyData.eqvAll]]
      refine iteT ⟨_, rfl, _, rfl, a, G, _, rfl, r.pl.same s3, eG3, ga, by rw [List.length_map]; exact Nat.zero_lt_succ _, by rw [List.length_map]; have := r.ln; omega, fun x o hx ho => ?_⟩
      obtain ⟨k, hkm, rfl⟩ := List.mem_map.mp hx
      have hk2 := hk k hkm
      have m4 : Mv H3 (upd H3 a o) := .keep (Keep.put o) (r.pl.same s3) (.put ho)
      have el4 : (upd H3 a o) L = some (.lst ys) := by rw [upd_ne r.la]; exact el3
      obtain ⟨y, S, e1, e2, ny, hS⟩ := r.num (i := (k : Int)) (by omega) (by omega)
      refine ⟨_, rfl, _, rfl, L, ys, _, y, rfl, rfl, SqL.of el4, e1, num_is ((ny.same s3).mv m4) fun b => ⟨_, rfl, _, rfl, L, ys, _, _, rfl, rfl, el4, ix_in (by omega) (by omega), ?_⟩⟩
      exact row_put n ((r.kp.trans (Keep.of s3)).trans (Keep.put o)) (.put ho) r.la r.lf el4 (by rw [List.length_set]; have := r.ln; omega) (each_set (((r.nm.same s3).each r.sm).mv m4) ⟨none, _, .bl b, rfl⟩) rfl
theorem br7 (m : MkT P w K mg base C B) (T : ShT K mg C) (n_list : mg "list" = none) (c_pick : Cal P w K mg base 2 "_law_pick" ["_law_pool_here", "_law_things"] (spPick K)) (hr : Room 9 (XS P w K mg base f cdv A outer s H E).A) : ∃ u, PSs (XS P w K mg base f cdv A outer s H E) (ifElse c6) u ∧ ∀ (Dn : Ends) (D W : Int) (a L : Addr) (H1 : Hp) (ys : List V) (ms : List Int) (v6 : V) (way : Int) (v1 v3 v4 v7 v8 : Option V), Row0 C D W a L H H1 ys ms v6 →
    (∀ (v : V) H', Keep a H H' → PoolAt H' a → Th K C D H' v → Dn.rt v H') →
    u Dn [some (.ref a), v1, some (.int way), v3, v4, some (.ref L), some v6, v7, v8] H1 := by
  refine ⟨_, (pss_one (ps_if (pt_cmpR op_eq (pv 2) pe_int (nomark _))
      (pss_one (ps_ret (pe_callTy call_list_of (by rfl) n_list (by decide +kernel) (pa_cons (pv 5) pa_nil))))
      (pss_one (ps_ret (pe_cal c_pick (hr.mono (by decide)) rfl (pa_cons (pv 0) (pa_cons (pe_tup (pa_cons pe_non (pa_cons pe_int (pa_cons pe_str (pa_cons (pe_share1 m (hr.mono (by decide)) rfl (pa_cons pe_int pa_nil)) (pa_cons (pe_disp (pps_cons pe_int pe_int pps_nil) (by rfl) (by rfl) (fun z => by cases z) (by decide)) (pa_cons (pe_tup pa_nil) (pa_cons (pe_lst pa_nil) (pa_cons pe_bl pa_nil))))))))) pa_nil))))))), fun Dn D W a L H1 ys ms v6 way v1 v3 v4 v7 v8 r k => ?_⟩
  refine ⟨_, rfl, rfl, _, rfl, iteB (fun z => ?_) (fun z => ?_)⟩
  · refine ⟨_, rfl, L, ys, rfl, .inl (SqL.of r.el), fun l nl => ?_⟩
    exact k _ _ (r.kp.trans (Keep.of (Same.put nl))) (r.pl.new nl) (.inr (.fo (.lst upd_same) (by decide)))
  · refine ⟨_, rfl, fun z1 d1 hz1 hd1 ne1 => si_ok hz1 hd1 ne1 (a := 1) (b := 1) (by decide) (by decide +kernel) fun H2 s2 e2 => ⟨rfl, fun t3 n3 => ⟨upd_same, [(.inl 0, .int 1)], rfl, by decide, ?_⟩⟩⟩
    have s3 : Same H2 (upd (upd H2 t3 (.dK [])) t3 (.dK (mergeK [] [(.inl 0, .int 1)]))) := by
      rw [upd_upd]
      exact Same.put n3
    have e3 : (upd (upd H2 t3 (.dK [])) t3 (.dK (mergeK [] [(.inl 0, .int 1)]))) t3 = some (.dK [(.inl 0, .int 1)]) := upd_same
    generalize (upd (upd H2 t3 (.dK [])) t3 (.dK (mergeK [] [(.inl 0, .int 1)]))) = H3 at s3 e3 ⊢
    refine ⟨by show 0 ≤ sizeLine; decide, fun t4 n4 => ⟨by show 0 ≤ sizeLine; decide, fun t5 n5 => ⟨by show 8 ≤ sizeLine; decide, fun t6 n6 => ?_⟩⟩⟩
    have up : Same H3 (upd (upd (upd H3 t4 (.tup [])) t5 (.lst [])) t6 (.tup [.non, .int 1, .str "1", .ref z1, .ref t3, .ref t4, .ref t5, .bl true])) := ((Same.put n4).trans (Same.put n5)).trans (Same.put n6)
    have g2 := up _ _ (s3 _ _ e2)
    have g3 := up _ _ e3
    have g4 := Same.put (o := .tup [.non, .int 1, .str "1", .ref z1, .ref t3, .ref t4, .ref t5, .bl true]) n6 _ _ (Same.put (o := .lst []) n5 t4 (.tup []) upd_same)
    have g5 := Same.put (o := .tup [.non, .int 1, .str "1", .ref z1, .ref t3, .ref t4, .ref t5, .bl true]) n6 t5 (.lst []) upd_same
    have st : SqT K (upd (upd (upd H3 t4 (.tup [])) t5 (.lst [])) t6 (.tup [.non, .int 1, .str "1", .ref z1, .ref t3, .ref t4, .ref t5, .bl true])) t6 [.non, .int 1, .str "1", .ref z1, .ref t3, .ref t4, .ref t5, .bl true] := .inl (.inl upd_same)
    generalize (upd (upd (upd H3 t4 (.tup [])) t5 (.lst [])) t6 (.tup [.non, .int 1, .str "1", .ref z1, .ref t3, .ref t4, .ref t5, .bl true])) = H4 at up g2 g3 g4 g5 st ⊢
    have s4 := (s2.trans s3).trans up
    have p4 : PoolAt H4 a := r.pl.same s4
    refine ⟨a, t6, _, rfl, p4, st, by show 0 < 8; decide, by show 8 < 1000; decide, fun v o hv ho => ?_⟩
    have m5 : Mv H4 (upd H4 a o) := .keep (Keep.put o) p4 (.put ho)
    refine k v _ ((r.kp.trans (Keep.of s4)).trans (Keep.put o)) (.put ho) ?_
    simp only [List.mem_cons, List.not_mem_nil, or_false] at hv
    rcases hv with rfl | rfl | rfl | rfl | rfl | rfl | rfl | rfl
    · exact .inr (.fo .non (by decide))
    · exact .inr (.fo (.int 1) (by decide))
    · exact .inr (.fo (.str _) (by decide))
    · exact .inr (.ins (m5.1 _ _ g2 fun ys z => by cases z))
    · exact .inr (.fo (fo_mv (.dK g3) m5) (by decide))
    · exact .inl ⟨t4, [], [], rfl, m5.1 _ _ g4 (fun ys z => by cases z), ⟨rfl, fun i x e => by simp at e⟩, by decide⟩
    · exact .inr (.fo (fo_mv (.lst g5) m5) (by decide))
    · exact .inr (.fo (.bl true) (by decide))
end
end K3

set_option Elab.async false
set_option linter.all false
set_option maxRecDepth 100000
set_option maxHeartbeats 4000000
namespace K3
open PySem L2
/-- _law_spoiled(pool, items) -/
def spSpoiled (K : PySem.W.Frag) (C : Addr) : Sp := fun vs H Q _ => ∃ (a t : Addr) (xs : List V) (ns : List Int) (W : Int), vs = [.ref a, .ref t] ∧ PoolAt H a ∧ H t = some (.tup xs) ∧ Nums C W H xs ns ∧ (∀ n ∈ ns, n.natAbs < 2 ^ 40) ∧ 1 ≤ ns.length ∧ ns.length ≤ 20 ∧ 0 < W ∧ W.natAbs < 2 ^ 50 ∧
  ∀ (v : V) (D : Int) (H' : Hp), Keep a H H' → PoolAt H' a → 0 < D → D.natAbs < 2 ^ 3000 → Th K C D H' v → Q v H'
section
variable {P : Program} {w : World} {K : PySem.W.Frag} {mg : Str → Option Value} {base : Heap} {C B : Addr}
theorem ok_spoiled {f : Addr} {fd : FuncData} (F : Fun K "_law_spoiled" "_law_spoiled" s_spoiled f fd) (T : ShT K mg C) (m : MkT P w K mg base C B) (n_range : mg "range" = none) (n_list : mg "list" = none) (n_tuple : mg "tuple" = none) (ad : AddT P w K mg base C) (sb : SubT P w K mg base C) (c_eq : EqT P w K mg base C)
    (c_draw : Cal P w K mg base 1 "_law_draw" ["_law_pool_here", "_law_many"] spDraw) (c_pick : Cal P w K mg base 2 "_law_pick" ["_law_pool_here", "_law_things"] (spPick K)) (c_pickL : Cal P w K mg base 2 "_law_pick" ["_law_pool_here", "_law_things"] (spPickL K)) :
    FnOk P w K mg base CX0 10 f fd ["_law_pool_here", "_law_items"] (spSpoiled K C) := by
  refine F.ok sc_spoiled (fun vs H Q E h => ?_) (fun cdv A outer s H vs Q E hr h => ?_)
  · obtain ⟨a, t, xs, ns, W, rfl, _⟩ := h
    rfl
  · obtain ⟨a, t, xs, ns, W, rfl, hp, et, nums, bound, l1, l20, hW, hWb, k⟩ := h
    obtain ⟨u0, g0, q0⟩ := br0 (f := f) (cdv := cdv) (A := A) (outer := outer) (s := s) (H := H) (E := E) ad hr
    obtain ⟨u1, g1, q1⟩ := br1 (f := f) (cdv := cdv) (A := A) (outer := outer) (s := s) (H := H) (E := E) ad sb hr
    obtain ⟨u2, g2, q2⟩ := br2 (P := P) (w := w) (K := K) (mg := mg) (base := base) (C := C) (f := f) (cdv := cdv) (A := A) (outer := outer) (s := s) (H := H) (E := E)
    obtain ⟨u3, g3, q3⟩ := br3 (f := f) (cdv := cdv) (A := A) (outer := outer) (s := s) (H := H) (E := E) m c_pick hr
    obtain ⟨u4, g4, q4⟩ := br4 (P := P) (w := w) (K := K) (mg := mg) (base := base) (C := C) (f := f) (cdv := cdv) (A := A) (outer := outer) (s := s) (H := H) (E := E)
    obtain ⟨u5, g5, q5⟩ := br5 (C := C) (f := f) (cdv := cdv) (A := A) (outer := outer) (s := s) (H := H) (E := E) c_pick hr
    obtain ⟨u6, g6, q6⟩ := br6 (f := f) (cdv := cdv) (A := A) (outer := outer) (s := s) (H := H) (E := E) T n_range c_eq c_pickL hr
    obtain ⟨u7, g7, q7⟩ := br7 (f := f) (cdv := cdv) (A := A) (outer := outer) (s := s) (H := H) (E := E) m T n_list c_pick hr
    refine ⟨_, (pss_cons (ps_par3 (i := 2) (j := 3) (l := 4) (by rfl) sc_spoiled.nd rfl rfl rfl (by decide) (by decide) (by decide) rfl rfl rfl (pa_cons (pe_cal c_draw (hr.mono (by decide)) rfl (pa_cons (pv 0) (pa_cons pe_int pa_nil))) (pa_cons (pe_cal c_draw (hr.mono (by decide)) rfl (pa_cons (pv 0) (pa_cons (pe_callB call_len_seq (by rfl) T.bn.n_len PySem.boot_len (pa_cons (pv 1) pa_nil)) pa_nil))) (pa_cons (pe_cal c_draw (hr.mono (by decide)) rfl (pa_cons (pv 0) (pa_cons (pe_callB call_len_seq (by rfl) T.bn.n_len PySem.boot_len (pa_cons (pv 1) pa_nil)) pa_nil))) pa_nil))) (by rfl))
      (pss_cons (ps_set (i := 5) sc_spoiled.nd rfl (Or.inr rfl) (pe_callTy call_list_of (by rfl) n_list (by decide +kernel) (pa_cons (pv 1) pa_nil)))
      (pss_cons (ps_set (i := 6) sc_spoiled.nd rfl (Or.inl rfl) (pe_share2 m (hr.mono (by decide)) rfl (pa_cons pe_int (pa_cons (pe_op op_add pe_int (pe_cal c_draw (hr.mono (by decide)) rfl (pa_cons (pv 0) (pa_cons pe_int pa_nil)))) pa_nil))))
      (pss_cons (ps_if (pt_cmpR op_eq (pv 2) pe_int (nomark _)) g0
        (pss_one (ps_if (pt_cmpR op_eq (pv 2) pe_int (nomark _)) g1
        (pss_one (ps_if (pt_cmpR op_eq (pv 2) pe_int (nomark _)) g2
        (pss_one (ps_if (pt_cmpR op_eq (pv 2) pe_int (nomark _)) g3
        (pss_one (ps_if (pt_cmpR op_eq (pv 2) pe_int (nomark _)) g4
        (pss_one (ps_if (pt_cmpR op_eq (pv 2) pe_int (nomark _)) g5
        (pss_one (ps_if (pt_cmpR op_eq (pv 2) pe_int (nomark _)) g6 g7)))))))))))))
      (pss_one (ps_ret (pe_callTy call_tuple_of (by rfl) n_tuple (by decide +kernel) (pa_cons (pv 5) pa_nil)))))))), ?_⟩
    have lx : xs.length = ns.length := nums.1
    have ta := hp.ne et
    have hlog : ∀ {z : Int}, 0 < z → z ≤ 20 → z.natAbs.log2 < 9000 := fun h0 h1 => log_small (b := 10) (by omega) (by decide) (by decide)
    refine ⟨_, rfl, a, 9, rfl, hp, by decide, by decide, fun way o1 w0 w1 ho1 => ?_⟩
    have e1 : (upd H a o1) t = some (.tup xs) := by rw [upd_ne ta]; exact et
    refine ⟨_, rfl, _, rfl, t, xs, rfl, .inr (SqT.of e1), a, _, rfl, .put ho1, by omega, hlog (by omega) (by omega), fun i o2 i0 i1 ho2 => ?_⟩
    have e2 : (upd (upd H a o1) a o2) t = some (.tup xs) := by rw [upd_ne ta]; exact e1
    refine ⟨_, rfl, _, rfl, t, xs, rfl, .inr (SqT.of e2), a, _, rfl, .put ho2, by omega, hlog (by omega) (by omega), fun j o3 j0 j1 ho3 => ⟨_, _, _, rfl, ?_⟩⟩
    have k3 : Keep a H (upd (upd (upd H a o1) a o2) a o3) := ((Keep.put o1).trans (Keep.put o2)).trans (Keep.put o3)
    have p3 : PoolAt (upd (upd (upd H a o1) a o2) a o3) a := .put ho3
    generalize (upd (upd (upd H a o1) a o2) a o3) = H3 at k3 p3 ⊢
    have m3 : Mv H H3 := .keep k3 hp p3
    refine ⟨_, rfl, t, xs, rfl, .inr (SqT.of (k3 _ _ et ta)), fun L nL => ?_⟩
    have la := p3.fresh nL
    have lf : ∀ u, H L = some u → False := fun u hu => by
      have := k3 L u hu la
      rw [nL] at this
      cases this
    have s4 : Same H3 (upd H3 L (.lst xs)) := Same.put nL
    have e4 : (upd H3 L (.lst xs)) L = some (.lst xs) := upd_same
    generalize (upd H3 L (.lst xs)) = H4 at s4 e4 ⊢
    refine ⟨_, rfl, a, 9, rfl, p3.same s4, by decide, by decide, fun r o5 r0 r1 ho5 => ⟨1, r, rfl, rfl, ?_⟩⟩
    have k5 : Keep a H (upd H4 a o5) := (k3.trans (Keep.of s4)).trans (Keep.put o5)
    have p5 : PoolAt (upd H4 a o5) a := .put ho5
    have e5 : (upd H4 a o5) L = some (.lst xs) := by rw [upd_ne la]; exact e4
    generalize (upd H4 a o5) = H5 at k5 p5 e5 ⊢
    refine fun z dz hz hd ne => si_ok hz hd ne (a := 1) (b := 1 + r) (by omega) (log_small (b := 10) (by omega) (by decide) (by decide)) fun H6 s6 e6 => ⟨rfl, ?_⟩
    have k6 := k5.trans (Keep.of s6)
    have p6 := p5.same s6
    have c0 : 0 < 1 + r := by omega
    have hD : 0 < (1 + r) * W := Int.mul_pos c0 hW
    have cb : (1 + r).natAbs < 2 ^ 4 := by omega
    have db : ((1 + r) * W).natAbs < 2 ^ 3000 := Nat.lt_trans (mul_lt cb hWb) (by decide +kernel)
    have n6 : Num C H6 (.ref z) W ((1 + r) * W) := by
      have h := low_ratio (a := W) (b := (1 + r) * W) (c := 1) (d := 1 + r) (by omega) (by omega) (by rw [Int.one_mul, Int.mul_comm])
      unfold Num
      rw [h.1, h.2]
      exact .inr ⟨z, dz, rfl, e6⟩
    have nm6 : Nums C ((1 + r) * W) H6 xs (ns.map ((1 + r) * ·)) := by
      have h0 : Nums C W H6 xs ns := ⟨nums.1, fun q x e => let ⟨S, e2, n⟩ := nums.2 q x e; ⟨S, e2, n.mv (Mv.keep k6 hp p6)⟩⟩
      exact h0.scale hW c0
    have row : Row0 C ((1 + r) * W) W a L H H6 xs (ns.map ((1 + r) * ·)) (.ref z) := ⟨k6, p6, la, lf, s6 _ _ e5, nm6, fun q hq => by
      obtain ⟨y, hy, rfl⟩ := List.mem_map.mp hq
      exact Nat.lt_trans (mul_lt cb (bound y hy)) (by decide +kernel), by omega, n6, Nat.lt_trans hWb (by decide +kernel), hD, db⟩
    have nx : NxR K C ((1 + r) * W) a L H (fun σ' H' => (tRet (tCB (fun xs H Q => ∃ p ys, xs = [.ref p] ∧ ((SqL K H p ys ∧ ∀ l, H l = none → Q (.ref l) (upd H l (.tup ys))) ∨ (SqT K H p ys ∧ Q (.ref p) H))) (tCons (tVar 5) tNil))) { nx := fun _ H' => Q .non H', rt := Q } σ' H') := fun σ' H' ys hσ kp pl el hl ea => by
      obtain ⟨os, it⟩ := ea.items
      exact ⟨_, hσ, L, ys, rfl, .inl ⟨SqL.of el, fun l nl => k _ _ _ (kp.trans (Keep.of (Same.put nl))) (pl.new nl) hD db (.inl ⟨l, ys, os, rfl, upd_same, it.same (Same.put nl), by rw [← it.1]; omega⟩)⟩⟩
    refine ⟨_, rfl, rfl, _, rfl, iteB (fun _ => q0 _ _ _ _ _ _ _ _ _ _ _ _ _ _ _ _ row i0 i1 nx) (fun _ => ?_)⟩
    refine ⟨_, rfl, rfl, _, rfl, iteB (fun _ => q1 _ _ _ _ _ _ _ _ _ _ _ _ _ _ _ _ row i0 i1 j0 j1 nx) (fun _ => ?_)⟩
    refine ⟨_, rfl, rfl, _, rfl, iteB (fun _ => q2 _ _ _ _ _ _ _ _ _ _ _ _ _ _ _ _ row i0 i1 j0 j1 nx) (fun _ => ?_)⟩
    refine ⟨_, rfl, rfl, _, rfl, iteB (fun _ => q3 _ _ _ _ _ _ _ _ _ _ _ _ _ _ _ row i0 i1 nx) (fun _ => ?_)⟩
    refine ⟨_, rfl, rfl, _, rfl, iteB (fun _ => q4 _ _ _ _ _ _ _ _ _ _ _ _ _ _ _ _ row i0 i1 nx) (fun _ => ?_)⟩
    refine ⟨_, rfl, rfl, _, rfl, iteB (fun _ => q5 _ _ _ _ _ _ _ _ _ _ _ _ _ _ _ row i0 i1 nx) (fun _ => ?_)⟩
    refine ⟨_, rfl, rfl, _, rfl, iteB (fun _ => q6 _ _ _ _ _ _ _ _ _ _ _ _ _ _ row i0 i1 nx) (fun _ => ?_)⟩
    exact q7 _ _ _ _ _ _ _ _ _ _ _ _ _ _ _ row fun v H' kp pl th => k v _ H' kp pl hD db th
end
end K3

set_option Elab.async false
set_option linter.all false
set_option maxRecDepth 100000
set_option maxHeartbeats 4000000
namespace K3
open PySem L2
structure LawT (P : Program) (w : World) (K : PySem.W.Frag) (mg : Str → Option Value) (base : Heap) (C B : Addr) : Prop where
  T : ShT K mg C
  m : MkT P w K mg base C B
  n_range : mg "range" = none
  n_tuple : mg "tuple" = none
  n_sum : mg "sum" = none
  n_max : mg "max" = none
  tu : PySem.W.kitOne K (.ref C) (.type "tuple") = some false
  q : EqT P w K mg base C
  pool : Cal P w K mg base 1 "_law_pool" ["_law_script"] (spPool K)
  tops : Cal P w K mg base 2 "_law_tops" ["_law_pool_here"] spTops
  part : Cal P w K mg base 2 "_law_part" ["_law_top", "_law_bottom"] spPart
  handed : Cal P w K mg base 6 "_law_handed" ["_law_pool_here", "_law_part_here"] (spHanded C)
  own : Cal P w K mg base 2 "_law_own" ["_law_thing"] (spOwnP K C)
  judged : Cal P w K mg base 12 "_law_judged" ["_law_many", "_law_thing"] (spJudged K C)
  spread : Cal P w K mg base 11 "is_spread" ["many", "thing"] (spSpread K C)
  lspread : Cal P w K mg base 4 "_law_is_spread" ["_law_many", "_law_thing"] (spSpread K C)
  right : Cal P w K mg base 15 "_law_right_places" ["_law_tops_here", "_law_items"] (spRight K C)
  spoiled : Cal P w K mg base 10 "_law_spoiled" ["_law_pool_here", "_law_items"] (spSpoiled K C)
  picked : Cal P w K mg base 14 "_law_picked" ["_law_thing", "_law_share"] (spPicked K C)
abbrev s_law : Stmt := top 37
theorem sc_law : FnScope ["_law_script", "_law_pool_here", "_law_tops_here", "_law_items", "_law_kept", "_law_turn", "_law_thing", "_law_many", "_law_wrong", "_law_told", "_law_item", "_law_top"] ["_law_script"] (defScope s_law) := ⟨rfl, rfl, rfl, by decide +kernel, rfl, by decide +kernel, by decide +kernel⟩
/-- what stands behind the first statements: the items t over the sum W of ns, kept as pairs in the list g -/
structure Std (C : Addr) (a l t g : Addr) (ns : List Int) (xs rs : List V) (H1 : Hp) : Prop where
  pl : PoolAt H1 a
  la : l ≠ a
  ga : g ≠ a
  el : H1 l = some (.lst (ns.map V.int))
  et : H1 t = some (.tup xs)
  eg : H1 g = some (.lst rs)
  nm : Nums C ns.sum H1 xs ns
  nb : ∀ n ∈ ns, 0 ≤ n ∧ n < 2 ^ 40
  l1 : 1 ≤ ns.length
  l20 : ns.length ≤ 20
  ps : 0 < ns.sum
  rl : rs.length = ns.length
  pr : ∀ (q : Nat) (v : V), rs[q]? = some v → ∃ (r : Addr) (n : Int), v = .ref r ∧ ns[q]? = some n ∧ Pair H1 r (lowT n ns.sum) (lowB n ns.sum)
theorem Std.keep {C a l t g : Addr} {ns : List Int} {xs rs : List V} {H1 H2 : Hp} (h : Std C a l t g ns xs rs H1) (k : Keep a H1 H2) (p : PoolAt H2 a) : Std C a l t g ns xs rs H2 :=
  { pl := p, la := h.la, ga := h.ga, el := k _ _ h.el h.la, et := k _ _ h.et (h.pl.ne h.et), eg := k _ _ h.eg h.ga, nm := ⟨h.nm.1, fun i x e => let ⟨S, e2, n⟩ := h.nm.2 i x e; ⟨S, e2, n.mv (.keep k h.pl p)⟩⟩, nb := h.nb, l1 := h.l1, l20 := h.l20, ps := h.ps, rl := h.rl,
    pr := fun q v e => let ⟨r, n, e1, e2, e3⟩ := h.pr q v e; ⟨r, n, e1, e2, k _ _ e3 (h.pl.ne e3)⟩ }
theorem Std.same {C a l t g : Addr} {ns : List Int} {xs rs : List V} {H1 H2 : Hp} (h : Std C a l t g ns xs rs H1) (s : Same H1 H2) : Std C a l t g ns xs rs H2 := h.keep (Keep.of s) (h.pl.same s)
theorem Std.sum {C a l t g : Addr} {ns : List Int} {xs rs : List V} {H1 : Hp} (h : Std C a l t g ns xs rs H1) : ns.sum.natAbs < 2 ^ 45 := by
  have h1 := sum_bound (B := 2 ^ 40) ns fun S hS => by
    have := h.nb S hS
    omega
  have h2 : ns.length * 2 ^ 40 ≤ 20 * 2 ^ 40 := Nat.mul_le_mul_right _ h.l20
  exact Nat.lt_of_le_of_lt (Nat.le_trans h1 h2) (by decide)
theorem big60 {z : Int} (h : z.natAbs < 2 ^ 60) : z.natAbs < 2 ^ 3000 := Nat.lt_trans h (by decide +kernel)
theorem Std.items {K : PySem.W.Frag} {C a l t g : Addr} {ns : List Int} {xs rs : List V} {H1 : Hp} (h : Std C a l t g ns xs rs H1) : Items K C ns.sum H1 xs (ns.map some) :=
  items_of h.nm fun n hn => big60 (by have := h.nb n hn; omega)
theorem Std.items7 {K : PySem.W.Frag} {C a l t g : Addr} {ns : List Int} {xs rs : List V} {H1 : Hp} (h : Std C a l t g ns xs rs H1) : Items K C (7 * ns.sum) H1 xs ((ns.map (7 * ·)).map some) :=
  items_of (h.nm.scale h.ps (by decide)) fun n hn => by
    obtain ⟨z, hz, rfl⟩ := List.mem_map.mp hn
    exact big60 (by have := h.nb z hz; show (7 * z).natAbs < 2 ^ 60; omega)
theorem Std.spr {C a l t g : Addr} {ns : List Int} {xs rs : List V} {H1 : Hp} (h : Std C a l t g ns xs rs H1) : sprB ns.sum (ns.map some) = true := spr_some (fun n hn => (h.nb n hn).1) rfl
theorem Std.spr7 {C a l t g : Addr} {ns : List Int} {xs rs : List V} {H1 : Hp} (h : Std C a l t g ns xs rs H1) : sprB (7 * ns.sum) ((ns.map (7 * ·)).map some) = true := spr_some (fun n hn => by
  obtain ⟨z, hz, rfl⟩ := List.mem_map.mp hn
  have := (h.nb z hz).1
  show 0 ≤ 7 * z
  omega) (sum_mul 7 ns)
theorem eqf {x : V} {A D : Prop} (h : D) : if (!decide (x = x)) = true then A else D := by
  rw [if_neg (by simp)]
  exact h
/-- pairs as data -/
def pairD (W : Int) (n : Int) : PyData := .tuple [.int (lowT n W), .int (lowB n W)]
theorem shaped_pairs (W : Int) (ns : List Int) : SeqAt.shaped (.list (ns.map (pairD W))) = true := by
  have h1 : ∀ l : List Int, PyData.canLayAll0 (l.map (pairD W)) = true := fun l => by
    induction l with
    | nil => rfl
    | cons a r ih =>
      show ((true && (true && true)) && PyData.canLayAll0 (r.map (pairD W))) = true
      rw [ih]
      rfl
  have h2 : ∀ l : List Int, PyData.depthAll (l.map (pairD W)) ≤ 3 := fun l => by
    induction l with
    | nil => simp [PyData.depthAll]
    | cons a r ih =>
      rw [List.map_cons]
      simp only [PyData.depthAll, pairD, PyData.depth] at ih ⊢
      omega
  show (PyData.canLayAll0 _ && decide (PyData.depth _ ≤ 64)) = true
  rw [h1, Bool.true_and]
  refine decide_eq_true ?_
  have := h2 ns
  simp only [PyData.depth]
  omega
theorem dp_pairs {K : PySem.W.Frag} {H : Hp} {W : Int} : ∀ {rs : List V} {ns : List Int}, rs.length = ns.length → (∀ (q : Nat) (v : V), rs[q]? = some v → ∃ (r : Addr) (n : Int), v = .ref r ∧ ns[q]? = some n ∧ Pair H r (lowT n W) (lowB n W)) → DpAll K H rs (ns.map (pairD W))
  | [], [], _, _ => .nil
  | [], _ :: _, h, _ => by cases h
  | _ :: _, [], h, _ => by cases h
  | v :: rs, n :: ns, h, hp => by
    obtain ⟨r, n2, rfl, e, p⟩ := hp 0 v rfl
    cases e
    exact .cons (.tup (.inl (.inl p)) (.cons (.int _) (.cons (.int _) .nil))) (dp_pairs (Nat.succ.inj h) fun q v e => hp (q + 1) v e)
section
variable {P : Program} {w : World} {K : PySem.W.Frag} {mg : Str → Option Value} {base : Heap} {C B : Addr} {f : Addr} {cdv : Value} {A : Around} {outer : List Env} {s : Shared} {H : Hp} {E : XK}
abbrev XW (P : Program) (w : World) (K : PySem.W.Frag) (mg : Str → Option Value) (base : Heap) (f : Addr) (cdv : Value) (A : Around) (outer : List Env) (s : Shared) (H : Hp) (E : XK) : Cx :=
  (cxOf CX0 P w K mg base ["_law_script", "_law_pool_here", "_law_tops_here", "_law_items", "_law_kept", "_law_turn", "_law_thing", "_law_many", "_law_wrong", "_law_told", "_law_item", "_law_top"] "law" (defScope s_law) f cdv A outer s H E).nox
/-- the last row -/
theorem seg9 (L : LawT P w K mg base C B) (hr : Room 15 (XW P w K mg base f cdv A outer s H E).A) {Q : VK} (k : ∀ H', Q (.bl true) H') :
    ∃ u, PSs (XW P w K mg base f cdv A outer s H E) ((defBody s_law).drop 9) u ∧ ∀ (a l t g : Addr) (ns : List Int) (xs rs : List V) (v0 v5 v6 v7 v8 v9 : Option V) (H1 : Hp), Std C a l t g ns xs rs H1 →
      u { nx := fun _ H' => Q .non H', rt := Q } [v0, some (.ref a), some (.ref l), some (.ref t), some (.ref g), v5, v6, v7, v8, v9, none, none] H1 := by
  refine ⟨_, (pss_one (ps_ret (pe_cmpR (op_eqD hr.units) (pe_lc (own := [("_law_item", 10)]) rfl sc_law.nd (pi_tup (pv 3)) (blkOk_by (N := ["_law_script", "_law_pool_here", "_law_tops_here", "_law_items", "_law_kept", "_law_turn", "_law_thing", "_law_many", "_law_wrong", "_law_told", "_law_item", "_law_top"]) (sc := defScope s_law) (by decide +kernel)) (fun _ _ _ _ _ => (pg_name (i := 10) sc_law.nd rfl (Or.inl rfl))) (fun _ _ _ _ _ => pts_nil) (fun _ _ _ _ _ => (pe_cal L.own (hr.mono (by decide)) rfl (pa_cons (pv 10) pa_nil)))) (pv 4) (nomark _)))), fun a l t g ns xs rs v0 v5 v6 v7 v8 v9 H1 st => ?_⟩
  refine ⟨_, rfl, t, rfl, ⟨_, SqT.of st.et⟩, fun G nG => ?_⟩
  refine lc_tup (K := K) (a := t) (xs := xs) (fun i H' => Same H1 H' ∧ ∃ qs : List V, qs.length = i ∧ H' G = some (.lst qs) ∧ ∀ (q : Nat) (v : V), qs[q]? = some v → ∃ (r : Addr) (n : Int), v = .ref r ∧ ns[q]? = some n ∧ Pair H' r (lowT n ns.sum) (lowB n ns.sum)) ⟨Same.put nG, [], rfl, upd_same, fun q v e => by simp at e⟩ (fun i H' _ h => SqT.of (h.1 _ _ st.et)) ?_ ?_
  · rintro i x H' hx ⟨s1, qs, ql, eG, hq⟩
    obtain ⟨n, hn, nm⟩ := (st.nm.same s1).2 i x hx
    have hi : i < ns.length := (List.getElem?_eq_some_iff.mp hn).1
    refine ⟨rfl, yes_of ⟨_, rfl, x, rfl, .inl ⟨_, _, nm, fun r H2 s2 e2 => ⟨qs, s2 _ _ eG, small1000 (by have := st.l20; omega), ?_, qs ++ [.ref r], ?_, upd_same, ?_⟩⟩⟩⟩
    · intro b u hu
      rw [upd_ne (ne_of_none hu nG)]
      exact s2 _ _ (s1 _ _ hu)
    · rw [List.length_append, ql]; rfl
    · have tupG : ∀ {b : Addr} {p q : Int}, Pair H2 b p q → Pair (upd H2 G (.lst (qs ++ [.ref r]))) b p q := fun {b p q} e => by
        unfold Pair at e ⊢
        have gl := s2 _ _ eG
        rw [upd_ne (fun z => by rw [z, gl] at e; cases e)]
        exact e
      intro q v e
      rw [List.getElem?_append] at e
      split at e
      · obtain ⟨r2, n2, e1, e3, e4⟩ := hq q v e
        exact ⟨r2, n2, e1, e3, tupG (s2 _ _ e4)⟩
      · rename_i hlt
        have q0 : q = i := by
          have := (List.getElem?_eq_some_iff.mp e).1
          have l1 : ([V.ref r] : List V).length = 1 := rfl
          omega
        subst q0
        rw [ql, Nat.sub_self] at e
        cases e
        exact ⟨r, n, rfl, hn, tupG e2⟩
  · rintro H2 ⟨s1, qs, ql, eG, hq⟩
    have st2 := st.same s1
    have xl : xs.length = ns.length := st.nm.1
    refine ⟨_, rfl, .list (ns.map (pairD ns.sum)), .list (ns.map (pairD ns.sum)), .lst (SqL.of eG) (dp_pairs (by omega) hq), .lst (SqL.of st2.eg) (dp_pairs st2.rl st2.pr), shaped_pairs _ _, shaped_pairs _ _, ?_⟩
    rw [SeqAt.eqv_refl _ (SeqAt.canLay_of_shaped (shaped_pairs _ _))]
    exact k _
end
end K3

set_option Elab.async false
set_option linter.all false
set_option maxRecDepth 100000
set_option maxHeartbeats 4000000
namespace K3
open PySem L2
/-- what pick is not to take as a share -/
inductive Wr (C : Addr) (W : Int) (H : Hp) : V → Prop where
  | num {x : V} {S : Int} (n : Num C H x S (7 * W)) (b : S.natAbs < 2 ^ 3000) (o : S < 0 ∨ 7 * W ≤ S) : Wr C W H x
  | bl (b : Bool) : Wr C W H (.bl b)
  | non : Wr C W H .non
  | str (x : Str) : Wr C W H (.str x)
  | tup {a : Addr} (e : H a = some (.tup [.int 0])) : Wr C W H (.ref a)
  | lst {a : Addr} (e : H a = some (.lst [])) : Wr C W H (.ref a)
theorem Wr.same {C : Addr} {W : Int} {H H' : Hp} {x : V} (h : Wr C W H x) (s : Same H H') : Wr C W H' x := by
  cases h with
  | num n b o => exact .num (n.same s) b o
  | bl b => exact .bl b
  | non => exact .non
  | str x => exact .str x
  | tup e => exact .tup (s _ _ e)
  | lst e => exact .lst (s _ _ e)
theorem Wr.thing {K : PySem.W.Frag} {C : Addr} {W : Int} {H : Hp} {x : V} (h : Wr C W H x) : Thing K C H x := by
  cases h with
  | num n b o => exact Nm.thing n
  | bl b => exact .fo (.bl b)
  | non => exact .fo .non
  | str x => exact .fo (.str x)
  | tup e => exact .fo (.tup e)
  | lst e => exact .fo (.lst e)
/-- x != x -/
theorem Wr.ne {K : PySem.W.Frag} {C : Addr} {W : Int} {H : Hp} {x : V} {Q : VK} (h : Wr C W H x) (k : Q (.bl false) H) : rNe x x H Q ∨ rNeD K x x H Q ∨ rOwnB K C (EqS K C) .NotEq x x H Q := by
  have scalar : scal x x = true → rNe x x H Q := fun e => ⟨e, by rw [decide_eq_true rfl]; exact k⟩
  have data : ∀ d, Dp K H x d → SeqAt.shaped d = true → rNeD K x x H Q := fun d hd sd => ⟨d, d, hd, hd, sd, sd, by rw [SeqAt.eqv_refl _ (SeqAt.canLay_of_shaped sd)]; exact k⟩
  cases h with
  | num n b o =>
    rcases n with ⟨rfl, _⟩ | ⟨a, dx, rfl, e⟩
    · exact .inl (scalar rfl)
    · exact .inr (.inr ⟨true, .inl ⟨a, dx, _, rfl, e, ⟨dx, _, _, e, .inl ⟨a, dx, _, _, rfl, e, by simp⟩⟩, .inr ⟨a, dx, _, rfl, e⟩⟩, k⟩)
  | bl b => exact .inl (scalar rfl)
  | non => exact .inl (scalar rfl)
  | str x => exact .inl (scalar rfl)
  | tup e => exact .inr (.inl (data (.tuple [.int 0]) (.tup (.inl (.inl e)) (.cons (.int 0) .nil)) rfl))
  | lst e => exact .inr (.inl (data (.list []) (.lst (SqL.of e) .nil) rfl))
section
variable {P : Program} {w : World} {K : PySem.W.Frag} {mg : Str → Option Value} {base : Heap} {C B : Addr} {f : Addr} {cdv : Value} {A : Around} {outer : List Env} {s : Shared} {H : Hp} {E : XK}
theorem no_ne {b : Bool} {A D : Prop} (h : D) : if (!decide (V.bl b = V.bl b)) = true then A else D := by
  rw [if_neg (by simp)]
  exact h
theorem seg8 (L : LawT P w K mg base C B) (hr : Room 15 (XW P w K mg base f cdv A outer s H E).A) {Q : VK} (k : ∀ H', Q (.bl true) H') :
    ∃ u, PSs (XW P w K mg base f cdv A outer s H E) ((defBody s_law).drop 8) u ∧ ∀ (a l t g : Addr) (ns : List Int) (xs rs : List V) (v0 v5 v6 v7 v8 v9 : Option V) (H1 : Hp), Std C a l t g ns xs rs H1 →
      u { nx := fun _ H' => Q .non H', rt := Q } [v0, some (.ref a), some (.ref l), some (.ref t), some (.ref g), v5, v6, v7, v8, v9, none, none] H1 := by
  obtain ⟨u9, h9, q9⟩ := seg9 (f := f) (cdv := cdv) (A := A) (outer := outer) (s := s) (H := H) (E := E) L hr k
  obtain ⟨fe, fde, O, FE, hbE⟩ := L.q.ex
  refine ⟨_, (pss_cons (ps_for PassesOwn.never rfl (pi_tup (pe_tup (pa_cons pe_int (pa_cons (pe_un un_neg pe_int) (pa_cons (pe_share2 L.m (hr.mono (by decide)) rfl (pa_cons (pe_un un_neg pe_int) (pa_cons pe_int pa_nil))) (pa_cons (pe_share1 L.m (hr.mono (by decide)) rfl (pa_cons pe_int pa_nil)) (pa_cons (pe_share2 L.m (hr.mono (by decide)) rfl (pa_cons pe_int (pa_cons pe_int pa_nil))) (pa_cons pe_non (pa_cons pe_str (pa_cons (pe_tup (pa_cons pe_int pa_nil)) (pa_cons (pe_lst pa_nil) (pa_cons pe_bl (pa_cons pe_bl pa_nil))))))))))))) (pg_name (i := 8) sc_law.nd rfl (Or.inl rfl))
    (pss_cons (ps_set (i := 9) sc_law.nd rfl (Or.inl rfl) (pe_cal L.picked (hr.mono (by decide)) rfl (pa_cons (pv 3) (pa_cons (pv 8) pa_nil))))
      (pss_one (ps_if (PW.pt (pw_or (pt_cmpR op_ne (pe_ix ix_tup (pv 9) pe_int (fun _ _ => rfl)) pe_str (nomark _)) (pw_or (pt_cmpR op_ne (pe_callB call_isi (by rfl) L.T.bn.n_isinstance (by decide +kernel) (pa_cons (pe_ix ix_tup (pv 9) pe_int (fun _ _ => rfl)) (pa_cons (pe_bltn (v := .ty "bool") rfl L.T.bn.n_bool (by decide +kernel) rfl) pa_nil))) (pe_callB call_isi (by rfl) L.T.bn.n_isinstance (by decide +kernel) (pa_cons (pv 8) (pa_cons (pe_bltn (v := .ty "bool") rfl L.T.bn.n_bool (by decide +kernel) rfl) pa_nil))) (nomark _)) (pw_or1 (pt_cmpR (OpR.or op_ne (OpR.or (op_neD hr.units) (op_ownB (C := C) is_ne FE O hbE pass0 (hr.mono (by decide))))) (pe_ix ix_tup (pv 9) pe_int (fun _ _ => rfl)) (pv 8) (nomark _))))))
        (pss_one (ps_ret pe_bl))
        pss_nil)))) h9), fun a l t g ns xs rs v0 v5 v6 v7 v8 v9 H1 st => ?_⟩
  have W0 := st.ps
  have wb := st.sum
  have D7 : 0 < 7 * ns.sum := by omega
  refine ⟨1, rfl, 1, rfl, fun z1 d1 hz1 hd1 ne1 => si_ok hz1 hd1 ne1 (a := -1) (b := 7) (by decide) (by decide +kernel) fun H2 s2 e2 => ⟨rfl, ?_⟩⟩
  refine fun z2 d2 hz2 hd2 ne2 => si_ok hz2 hd2 ne2 (a := 1) (b := 1) (by decide) (by decide +kernel) fun H3 s3 e3 => ⟨rfl, ?_⟩
  refine fun z3 d3 hz3 hd3 ne3 => si_ok hz3 hd3 ne3 (a := 8) (b := 7) (by decide) (by decide +kernel) fun H4 s4 e4 => ⟨rfl, ?_⟩
  refine ⟨by show 1 ≤ sizeLine; decide, fun t4 n4 => ⟨by show 0 ≤ sizeLine; decide, fun t5 n5 => ⟨by show 11 ≤ sizeLine; decide, fun t6 n6 => ?_⟩⟩⟩
  have up : Same H4 (upd (upd (upd H4 t4 (.tup [.int 0])) t5 (.lst [])) t6 (.tup [.int 1, .int (-1), .ref z1, .ref z2, .ref z3, .non, .str "0", .ref t4, .ref t5, .bl true, .bl false])) := ((Same.put n4).trans (Same.put n5)).trans (Same.put n6)
  have g1 := up _ _ (s4 _ _ (s3 _ _ e2))
  have g2 := up _ _ (s4 _ _ e3)
  have g3 := up _ _ e4
  have g4 := Same.put (o := .tup [.int 1, .int (-1), .ref z1, .ref z2, .ref z3, .non, .str "0", .ref t4, .ref t5, .bl true, .bl false]) n6 _ _ (Same.put (o := .lst []) n5 t4 (.tup [.int 0]) upd_same)
  have g5 := Same.put (o := .tup [.int 1, .int (-1), .ref z1, .ref z2, .ref z3, .non, .str "0", .ref t4, .ref t5, .bl true, .bl false]) n6 t5 (.lst []) upd_same
  have g6 : (upd (upd (upd H4 t4 (.tup [.int 0])) t5 (.lst [])) t6 (.tup [.int 1, .int (-1), .ref z1, .ref z2, .ref z3, .non, .str "0", .ref t4, .ref t5, .bl true, .bl false])) t6 = some (.tup [.int 1, .int (-1), .ref z1, .ref z2, .ref z3, .non, .str "0", .ref t4, .ref t5, .bl true, .bl false]) := upd_same
  generalize (upd (upd (upd H4 t4 (.tup [.int 0])) t5 (.lst [])) t6 (.tup [.int 1, .int (-1), .ref z1, .ref z2, .ref z3, .non, .str "0", .ref t4, .ref t5, .bl true, .bl false])) = H5 at up g1 g2 g3 g4 g5 g6 ⊢
  have st5 := st.same (((s2.trans s3).trans s4).trans up)
  have share : ∀ {z d : Addr} {p q S : Int}, q ≠ 0 → H5 z = some (.ins C d (shF (lowT p q) (lowB p q))) → p * (7 * ns.sum) = S * q → Num C H5 (.ref z) S (7 * ns.sum) := fun {z d p q S} hq e h => by
    have r := low_ratio (a := S) (b := 7 * ns.sum) (c := p) (d := q) (by omega) hq h.symm
    unfold Num
    rw [r.1, r.2]
    exact .inr ⟨z, d, rfl, e⟩
  have all : ∀ x ∈ ([.int 1, .int (-1), .ref z1, .ref z2, .ref z3, .non, .str "0", .ref t4, .ref t5, .bl true, .bl false] : List V), Wr C ns.sum H5 x := fun x hx => by
    simp only [List.mem_cons, List.not_mem_nil, or_false] at hx
    rcases hx with rfl | rfl | rfl | rfl | rfl | rfl | rfl | rfl | rfl | rfl | rfl
    · exact .num (Num.int D7 1) (big60 (by omega)) (.inr (by omega))
    · exact .num (Num.int D7 (-1)) (big60 (by omega)) (.inl (by omega))
    · exact .num (S := -ns.sum) (share (by decide) g1 (by omega)) (big60 (by omega)) (.inl (by omega))
    · exact .num (S := 7 * ns.sum) (share (by decide) g2 (by omega)) (big60 (by omega)) (.inr (by omega))
    · exact .num (S := 8 * ns.sum) (share (by decide) g3 (by omega)) (big60 (by omega)) (.inr (by omega))
    · exact .non
    · exact .str _
    · exact .tup g4
    · exact .lst g5
    · exact .bl true
    · exact .bl false
  refine ⟨t6, rfl, ⟨_, SqT.of g6⟩, for_tup (K := K) (a := t6) (xs := [.int 1, .int (-1), .ref z1, .ref z2, .ref z3, .non, .str "0", .ref t4, .ref t5, .bl true, .bl false]) (fun j σ H' => Same H5 H' ∧ ∃ w8 w9, σ = [v0, some (.ref a), some (.ref l), some (.ref t), some (.ref g), v5, v6, v7, w8, w9, none, none]) ⟨Same.refl H5, v8, v9, rfl⟩ (fun j σ H' _ h => SqT.of (h.1 _ _ g6)) ?_ ?_⟩
  · rintro j x σ H6 hx ⟨s6, w8, w9, rfl⟩
    have wr := (all x (mem_of_at hx)).same s6
    have st6 := st5.same s6
    have pk : (∃ S, Num C H6 x S (7 * ns.sum) ∧ S.natAbs < 2 ^ 3000 ∧ (S < 0 ∨ 7 * ns.sum ≤ S)) ∨ ∃ T, Fo K H6 x T ∧ isI x = false := by
      cases wr with
      | num n b o => exact .inl ⟨_, n, b, o⟩
      | bl b => exact .inr ⟨_, .bl b, rfl⟩
      | non => exact .inr ⟨_, .non, rfl⟩
      | str x => exact .inr ⟨_, .str x, rfl⟩
      | tup e => exact .inr ⟨_, .tup e, rfl⟩
      | lst e => exact .inr ⟨_, .lst e, rfl⟩
    refine ⟨_, rfl, _, rfl, .ref t, x, rfl, .inl ⟨t, xs, _, 7 * ns.sum, rfl, st6.et, st6.items7, D7, big60 (by omega), by rw [List.length_map, List.length_map]; have := st.l20; omega, st6.spr7, ?_⟩⟩
    rcases pk with ⟨S, n, b, o⟩ | ⟨T', fo, ix⟩
    · refine .inl ⟨S, n, b, .inr ⟨o, fun r H7 s7 e7 => ?_⟩⟩
      have wr7 := wr.same s7
      obtain ⟨ty, ht, _, hb⟩ := (wr7.thing (K := K)).isInt L.T.it
      exact ⟨_, rfl, r, _, 0, _, rfl, rfl, SqT.of e7, i0 (y := x), rfl, _, rfl, eqf ⟨_, rfl, r, _, 1, _, rfl, rfl, SqT.of e7, i1, x, .ty "bool", ty, _, _, rfl, .ty _, ht, hb, _, rfl, x, .ty "bool", ty, _, _, rfl, .ty _, ht, hb, rfl, _, rfl, no_ne ⟨_, rfl, r, _, 1, _, rfl, rfl, SqT.of e7, i1, _, rfl, wr7.ne ⟨_, rfl, iteF ⟨s6.trans s7, _, _, rfl⟩⟩⟩⟩⟩
    · refine .inr ⟨T', fo, ix, fun r H7 s7 e7 => ?_⟩
      have wr7 := wr.same s7
      obtain ⟨ty, ht, _, hb⟩ := (wr7.thing (K := K)).isInt L.T.it
      exact ⟨_, rfl, r, _, 0, _, rfl, rfl, SqT.of e7, i0 (y := x), rfl, _, rfl, eqf ⟨_, rfl, r, _, 1, _, rfl, rfl, SqT.of e7, i1, x, .ty "bool", ty, _, _, rfl, .ty _, ht, hb, _, rfl, x, .ty "bool", ty, _, _, rfl, .ty _, ht, hb, rfl, _, rfl, no_ne ⟨_, rfl, r, _, 1, _, rfl, rfl, SqT.of e7, i1, _, rfl, wr7.ne ⟨_, rfl, iteF ⟨s6.trans s7, _, _, rfl⟩⟩⟩⟩⟩
  · rintro σ H6 ⟨s6, w8, w9, rfl⟩
    exact q9 a l t g ns xs rs _ _ _ _ _ _ H6 (st5.same s6)
end
end K3

set_option Elab.async false
set_option linter.all false
set_option maxRecDepth 100000
set_option maxHeartbeats 4000000
namespace K3
open PySem L2
def spsp : PyData := .tuple [.str "spread", .str "spread"]
theorem sh_spsp : SeqAt.shaped spsp = true := by decide +kernel
theorem dp_spsp {K : PySem.W.Frag} {H : Hp} {r : Addr} (e : H r = some (.tup [.str "spread", .str "spread"])) : Dp K H (.ref r) spsp := .tup (.inl (.inl e)) (.cons (.str _) (.cons (.str _) .nil))
theorem ne_spsp {K : PySem.W.Frag} {H : Hp} {r p : Addr} {Q : VK} (e : H r = some (.tup [.str "spread", .str "spread"])) (e2 : H p = some (.tup [.str "spread", .str "spread"])) (k : Q (.bl false) H) : rNeD K (.ref r) (.ref p) H Q :=
  ⟨spsp, spsp, dp_spsp e, dp_spsp e2, sh_spsp, sh_spsp, by rw [SeqAt.eqv_refl _ (SeqAt.canLay_of_shaped sh_spsp)]; exact k⟩
theorem Th.same {K : PySem.W.Frag} {C : Addr} {D : Int} {H H' : Hp} {x : V} (h : Th K C D H x) (s : Same H H') : Th K C D H' x := by
  rcases h with ⟨t, xs, os, rfl, e, it, hl⟩ | h
  · exact .inl ⟨t, xs, os, rfl, s _ _ e, it.same s, hl⟩
  · exact .inr (h.same s)
section
variable {P : Program} {w : World} {K : PySem.W.Frag} {mg : Str → Option Value} {base : Heap} {C B : Addr} {f : Addr} {cdv : Value} {A : Around} {outer : List Env} {s : Shared} {H : Hp} {E : XK}
abbrev forBody (s : Stmt) : List Stmt := match s with
  | .For _ _ b _ _ => b
  | _ => []
/-- a thing that is no spread -/
def NoSp (K : PySem.W.Frag) (C : Addr) (H : Hp) (v : V) : Prop := (∃ t xs os D, v = .ref t ∧ H t = some (.tup xs) ∧ Items K C D H xs os ∧ 0 < D ∧ D.natAbs < 2 ^ 3000 ∧ os.length ≤ 1000 ∧ sprB D os = false) ∨ NotTup K C H v
theorem NoSp.same {K : PySem.W.Frag} {C : Addr} {H H' : Hp} {v : V} (h : NoSp K C H v) (s : Same H H') : NoSp K C H' v := by
  rcases h with ⟨t, xs, os, D, rfl, e, it, h1, h2, h3, h4⟩ | h
  · exact .inl ⟨t, xs, os, D, rfl, s _ _ e, it.same s, h1, h2, h3, h4⟩
  · exact .inr (h.same s)
theorem segE (L : LawT P w K mg base C B) (hr : Room 15 (XW P w K mg base f cdv A outer s H E).A) :
    ∃ u, PSs (XW P w K mg base f cdv A outer s H E) (ifElse (nthS (forBody (nthS (defBody s_law) 7)) 2)) u ∧ ∀ (Dn : Ends) (σ : St) (v : V) (H1 : Hp), σ[6]? = some (some v) → NoSp K C H1 v → (∀ H', Same H1 H' → Dn.nx σ H') → u Dn σ H1 := by
  refine ⟨_, (pss_one (ps_if (PW.pt (pw_or (pt_cmpR (op_neD hr.units) (pe_cal L.picked (hr.mono (by decide)) rfl (pa_cons (pv 6) (pa_cons (pe_share2 L.m (hr.mono (by decide)) rfl (pa_cons pe_int (pa_cons pe_int pa_nil))) pa_nil))) (pe_tup (pa_cons pe_str (pa_cons pe_str pa_nil))) (nomark _)) (pw_or1 (pt_cmpR (op_neD hr.units) (pe_cal L.picked (hr.mono (by decide)) rfl (pa_cons (pv 6) (pa_cons pe_int pa_nil))) (pe_tup (pa_cons pe_str (pa_cons pe_str pa_nil))) (nomark _)))))
      (pss_one (ps_ret pe_bl))
      pss_nil)), fun Dn σ v H1 hσ ns k => ?_⟩
  refine ⟨v, hσ, fun z dz hz hd ne => si_ok hz hd ne (a := 1) (b := 2) (by decide) (by decide +kernel) fun H6 s6 e6 => ⟨rfl, v, .ref z, rfl, .inr ⟨ns.same s6, fun r H7 s7 e7 => ?_⟩⟩⟩
  refine ⟨by show 2 ≤ sizeLine; decide, fun p np => ne_spsp (Same.put np _ _ e7) upd_same ⟨_, rfl, iteF ?_⟩⟩
  have s8 := (s6.trans s7).trans (Same.put (o := .tup [.str "spread", .str "spread"]) np)
  refine ⟨v, hσ, v, .int 2, rfl, .inr ⟨ns.same s8, fun r2 H9 s9 e9 => ?_⟩⟩
  refine ⟨by show 2 ≤ sizeLine; decide, fun p2 np2 => ne_spsp (Same.put np2 _ _ e9) upd_same ⟨_, rfl, iteF ?_⟩⟩
  exact k _ ((s8.trans s9).trans (Same.put np2))
theorem seg7 (L : LawT P w K mg base C B) (hr : Room 15 (XW P w K mg base f cdv A outer s H E).A) {Q : VK} (k : ∀ H', Q (.bl true) H') :
    ∃ u, PSs (XW P w K mg base f cdv A outer s H E) ((defBody s_law).drop 7) u ∧ ∀ (a l t g : Addr) (ns : List Int) (xs rs : List V) (v0 v5 v6 v7 v8 v9 : Option V) (H1 : Hp), Std C a l t g ns xs rs H1 →
      u { nx := fun _ H' => Q .non H', rt := Q } [v0, some (.ref a), some (.ref l), some (.ref t), some (.ref g), v5, v6, v7, v8, v9, none, none] H1 := by
  obtain ⟨ue, he, qe⟩ := segE (f := f) (cdv := cdv) (A := A) (outer := outer) (s := s) (H := H) (E := E) L hr
  obtain ⟨u8, h8, q8⟩ := seg8 (f := f) (cdv := cdv) (A := A) (outer := outer) (s := s) (H := H) (E := E) L hr k
  refine ⟨_, (pss_cons (ps_for PassesOwn.never rfl (pi_range1 (by rfl) L.n_range (pa_cons pe_int pa_nil)) (pg_name (i := 5) sc_law.nd rfl (Or.inl rfl))
    (pss_cons (ps_set (i := 6) sc_law.nd rfl (Or.inl rfl) (pe_cal L.spoiled (hr.mono (by decide)) rfl (pa_cons (pv 1) (pa_cons (pv 3) pa_nil))))
      (pss_cons (ps_for PassesOwn.never rfl (pi_tup (pe_tup (pa_cons (pe_callB (call_max2 rfl) (by rfl) L.n_max (by decide +kernel) (pa_cons pe_int (pa_cons (pe_op op_sub (pe_callB call_len_seq (by rfl) L.T.bn.n_len PySem.boot_len (pa_cons (pv 3) pa_nil)) pe_int) pa_nil))) (pa_cons (pe_callB call_len_seq (by rfl) L.T.bn.n_len PySem.boot_len (pa_cons (pv 3) pa_nil)) (pa_cons (pe_op op_add (pe_callB call_len_seq (by rfl) L.T.bn.n_len PySem.boot_len (pa_cons (pv 3) pa_nil)) pe_int) pa_nil))))) (pg_name (i := 7) sc_law.nd rfl (Or.inl rfl))
        (pss_one (ps_if (pt_not (pt_val (pe_cal L.judged (hr.mono (by decide)) rfl (pa_cons (pv 7) (pa_cons (pv 6) pa_nil)))))
            (pss_one (ps_ret pe_bl))
            pss_nil)))
      (pss_one (ps_if (PW.pt (pw_and (pt_val (pe_callB call_isi (by rfl) L.T.bn.n_isinstance (by decide +kernel) (pa_cons (pv 6) (pa_cons (pe_bltn (v := .ty "tuple") rfl L.n_tuple (by decide +kernel) rfl) pa_nil)))) (pw_and1 (pt_val (pe_cal L.lspread (hr.mono (by decide)) rfl (pa_cons (pe_callB call_len_seq (by rfl) L.T.bn.n_len PySem.boot_len (pa_cons (pv 6) pa_nil)) (pa_cons (pv 6) pa_nil)))))))
        (pss_one (ps_if (pt_cmpR op_ne (pe_ix ix_tup (pe_cal L.picked (hr.mono (by decide)) rfl (pa_cons (pv 6) (pa_cons pe_int pa_nil))) pe_int (fun _ _ => rfl)) pe_str (nomark _))
            (pss_one (ps_ret pe_bl))
            pss_nil))
        he))))) h8), fun a l t g ns xs rs v0 v5 v6 v7 v8 v9 H1 st => ?_⟩
  refine ⟨4, rfl, by decide, by decide, for_range (n := 4) (fun i σ H' => Std C a l t g ns xs rs H' ∧ ∃ w5 w6 w7, σ = [v0, some (.ref a), some (.ref l), some (.ref t), some (.ref g), w5, w6, w7, v8, v9, none, none]) ⟨st, v5, v6, v7, rfl⟩ ?_ ?_⟩
  · rintro i σ H2 hi ⟨st2, w5, w6, w7, rfl⟩
    have lx : xs.length = ns.length := st2.nm.1
    have wb := st2.sum
    refine ⟨_, rfl, _, rfl, a, t, xs, ns, ns.sum, rfl, st2.pl, st2.et, st2.nm, fun n hn => by have := st2.nb n hn; omega, st2.l1, st2.l20, st2.ps, by omega, fun v D H3 k3 p3 hD hDb th => ?_⟩
    have st3 := st2.keep k3 p3
    have eT : ∀ {H9 : Hp}, Same H3 H9 → SqT K H9 t xs := fun s9 => SqT.of (s9 _ _ st3.et)
    refine ⟨_, rfl, t, xs, rfl, .inr (eT (Same.refl _)), _, _, rfl, rfl, _, _, rfl, _, rfl, t, xs, rfl, .inr (eT (Same.refl _)), _, rfl, t, xs, rfl, .inr (eT (Same.refl _)), _, _, rfl, rfl, by show 3 ≤ sizeLine; decide, fun q nq => ?_⟩
    generalize hm : (if ((xs.length : Int) - 1) > 1 then ((xs.length : Int) - 1) else 1) = mx
    have sq : Same H3 (upd H3 q (.tup [.int mx, .int (xs.length : Int), .int ((xs.length : Int) + 1)])) := Same.put nq
    have eq : (upd H3 q (.tup [.int mx, .int (xs.length : Int), .int ((xs.length : Int) + 1)])) q = some (.tup [.int mx, .int (xs.length : Int), .int ((xs.length : Int) + 1)]) := upd_same
    generalize (upd H3 q (.tup [.int mx, .int (xs.length : Int), .int ((xs.length : Int) + 1)])) = H4 at sq eq ⊢
    refine ⟨q, rfl, ⟨_, SqT.of eq⟩, for_tup (K := K) (a := q) (xs := [.int mx, .int (xs.length : Int), .int ((xs.length : Int) + 1)]) (fun j σ H' => Same H4 H' ∧ ∃ w5 w7, σ = [v0, some (.ref a), some (.ref l), some (.ref t), some (.ref g), w5, some v, w7, v8, v9, none, none]) ⟨Same.refl H4, _, w7, rfl⟩ (fun j σ H' _ h => SqT.of (h.1 _ _ eq)) ?_ ?_⟩
    · rintro j x σ H5 hx ⟨s5, y5, y7, rfl⟩
      have ix : ∃ xv : Int, x = .int xv := by
        have hmm := mem_of_at hx
        simp only [List.mem_cons, List.not_mem_nil, or_false] at hmm
        rcases hmm with rfl | rfl | rfl <;> exact ⟨_, rfl⟩
      obtain ⟨xv, rfl⟩ := ix
      exact ⟨_, rfl, _, rfl, xv, v, D, rfl, th.same (sq.trans s5), hD, up4000 hDb, fun H6 s6 => ⟨_, rfl, iteF ⟨s5.trans s6, _, _, rfl⟩⟩⟩
    · rintro σ H5 ⟨s5, y5, y7, rfl⟩
      have th5 := th.same (sq.trans s5)
      have st5 := st3.same (sq.trans s5)
      rcases th5 with ⟨t', xs', os', rfl, e', it', hl'⟩ | nt
      · refine ⟨_, rfl, .ref t', .ty "tuple", _, _, true, rfl, .ty _, (Fo.tup e').ty, kit_ty (r := true) (by decide +kernel), _, rfl, iteT ?_⟩
        refine ⟨_, rfl, t', xs', rfl, .inr (SqT.of e'), _, rfl, (xs'.length : Int), .ref t', rfl, .inl ⟨t', xs', os', D, rfl, e', it', hD, up4000 hDb, hl', fun H6 s6 => ⟨_, rfl, ?_⟩⟩⟩
        rw [decide_eq_true rfl, Bool.true_and]
        cases hs : sprB D os' with
        | true =>
          refine iteT ⟨_, rfl, .ref t', .int 0, rfl, .inl ⟨t', xs', os', D, rfl, s6 _ _ e', it'.same s6, hD, hDb, hl', hs, .inl ⟨0, ?_, by decide +kernel, .inl ⟨Int.le_refl 0, hD, fun i2 r H7 s7 pl e7 => ?_⟩⟩⟩⟩
          · have h := Num.int (C := C) (H := H6) hD 0
            rw [Int.zero_mul] at h
            exact h
          exact ⟨r, _, 0, _, rfl, rfl, SqT.of e7, i0 (y := .int (i2 : Int)), rfl, _, rfl, eqf ⟨st5.same (s6.trans s7), _, _, _, rfl⟩⟩
        | false => exact iteF (qe _ _ (.ref t') _ rfl (.inl ⟨t', xs', os', D, rfl, s6 _ _ e', it'.same s6, hD, hDb, hl', hs⟩) fun H7 s7 => ⟨st5.same (s6.trans s7), _, _, _, rfl⟩)
      · obtain ⟨ty, h1, h2⟩ := nt.kit L.T.it L.tu
        exact ⟨_, rfl, v, .ty "tuple", ty, _, false, rfl, .ty _, h1, h2, _, rfl, iteF (qe _ _ v _ rfl (.inr nt) fun H7 s7 => ⟨st5.same s7, _, _, _, rfl⟩)⟩
  · rintro σ H2 ⟨st2, w5, w6, w7, rfl⟩
    exact q8 a l t g ns xs rs v0 _ _ _ v8 v9 H2 st2
end
end K3

set_option Elab.async false
set_option linter.all false
set_option maxRecDepth 100000
set_option maxHeartbeats 4000000
namespace K3
open PySem L2
section
variable {P : Program} {w : World} {K : PySem.W.Frag} {mg : Str → Option Value} {base : Heap} {C B : Addr} {f : Addr} {cdv : Value} {A : Around} {outer : List Env} {s : Shared} {H : Hp} {E : XK}
theorem seg4 (L : LawT P w K mg base C B) (hr : Room 15 (XW P w K mg base f cdv A outer s H E).A) {Q : VK} (k : ∀ H', Q (.bl true) H') :
    ∃ u, PSs (XW P w K mg base f cdv A outer s H E) ((defBody s_law).drop 4) u ∧ ∀ (a l t g : Addr) (ns : List Int) (xs rs : List V) (v0 v5 v6 v7 v8 v9 : Option V) (H1 : Hp), Std C a l t g ns xs rs H1 →
      u { nx := fun _ H' => Q .non H', rt := Q } [v0, some (.ref a), some (.ref l), some (.ref t), some (.ref g), v5, v6, v7, v8, v9, none, none] H1 := by
  obtain ⟨u7, h7, q7⟩ := seg7 (f := f) (cdv := cdv) (A := A) (outer := outer) (s := s) (H := H) (E := E) L hr k
  refine ⟨_, (pss_cons (ps_if (PW.pt (pw_or (pt_not (pt_val (pe_cal L.judged (hr.mono (by decide)) rfl (pa_cons (pe_callB call_len_seq (by rfl) L.T.bn.n_len PySem.boot_len (pa_cons (pv 3) pa_nil)) (pa_cons (pv 3) pa_nil))))) (pw_or1 (pt_cmpR op_notBl (pe_cal L.spread (hr.mono (by decide)) rfl (pa_cons (pe_callB call_len_seq (by rfl) L.T.bn.n_len PySem.boot_len (pa_cons (pv 3) pa_nil)) (pa_cons (pv 3) pa_nil))) pe_bl (nomark _)))))
      (pss_one (ps_ret pe_bl))
      pss_nil)
    (pss_cons (ps_if (PW.pt (pw_or (pt_cmpR op_notBl (pe_cal L.spread (hr.mono (by decide)) rfl (pa_cons (pe_op op_add (pe_callB call_len_seq (by rfl) L.T.bn.n_len PySem.boot_len (pa_cons (pv 3) pa_nil)) pe_int) (pa_cons (pv 3) pa_nil))) pe_bl (nomark _)) (pw_or1 (PW.pt (pw_and (pt_cmpR op_gt (pe_callB call_len_seq (by rfl) L.T.bn.n_len PySem.boot_len (pa_cons (pv 3) pa_nil)) pe_int (nomark _)) (pw_and1 (pt_cmpR op_notBl (pe_cal L.spread (hr.mono (by decide)) rfl (pa_cons (pe_op op_sub (pe_callB call_len_seq (by rfl) L.T.bn.n_len PySem.boot_len (pa_cons (pv 3) pa_nil)) pe_int) (pa_cons (pv 3) pa_nil))) pe_bl (nomark _))))))))
      (pss_one (ps_ret pe_bl))
      pss_nil)
    (pss_cons (ps_if (pt_not (pt_val (pe_cal L.right hr rfl (pa_cons (pv 2) (pa_cons (pv 3) pa_nil)))))
      (pss_one (ps_ret pe_bl))
      pss_nil) h7))), fun a l t g ns xs rs v0 v5 v6 v7 v8 v9 H1 st => ?_⟩
  have eT : ∀ {H9 : Hp}, Same H1 H9 → SqT K H9 t xs := fun s9 => SqT.of (s9 _ _ st.et)
  have wb := st.sum
  have db4 : ns.sum.natAbs < 2 ^ 4000 := up4000 (big60 (by omega))
  have ol : (ns.map some).length ≤ 1000 := by rw [List.length_map]; have := st.l20; omega
  refine ⟨_, rfl, t, xs, rfl, .inr (eT (Same.refl _)), _, rfl, (xs.length : Int), .ref t, ns.sum, rfl, .inl ⟨t, xs, _, rfl, st.et, st.items, ol⟩, st.ps, db4, fun H2 s2 => ⟨_, rfl, iteF ?_⟩⟩
  refine ⟨_, rfl, t, xs, rfl, .inr (eT s2), _, rfl, (xs.length : Int), .ref t, rfl, .inl ⟨t, xs, ns.map some, ns.sum, rfl, s2 _ _ st.et, (st.same s2).items, st.ps, db4, ol, fun H3 s3 => ⟨_, true, rfl, rfl, _, rfl, ?_⟩⟩⟩
  rw [st.spr, decide_eq_true (rfl : V.int (xs.length : Int) = V.int (xs.length : Int))]
  refine iteF ?_
  have s13 := s2.trans s3
  refine ⟨_, rfl, t, xs, rfl, .inr (eT s13), _, _, rfl, rfl, _, rfl, ((xs.length : Int) + 1), .ref t, rfl, .inl ⟨t, xs, ns.map some, ns.sum, rfl, s13 _ _ st.et, (st.same s13).items, st.ps, db4, ol, fun H4 s4 => ⟨_, false, rfl, rfl, _, rfl, ?_⟩⟩⟩
  have n1 : decide (V.int (xs.length : Int) = V.int ((xs.length : Int) + 1)) = false := decide_eq_false fun z => by have := V.int.inj z; omega
  have n2 : decide (V.int (xs.length : Int) = V.int ((xs.length : Int) - 1)) = false := decide_eq_false fun z => by have := V.int.inj z; omega
  rw [n1, Bool.false_and]
  refine iteF ?_
  have s14 := s13.trans s4
  refine ⟨_, rfl, t, xs, rfl, .inr (eT s14), _, _, rfl, rfl, _, rfl, iteB (fun z => ?_) (fun z => ?_)⟩
  · refine ⟨_, rfl, t, xs, rfl, .inr (eT s14), _, _, rfl, rfl, _, rfl, ((xs.length : Int) - 1), .ref t, rfl, .inl ⟨t, xs, ns.map some, ns.sum, rfl, s14 _ _ st.et, (st.same s14).items, st.ps, db4, ol, fun H5 s5 => ⟨_, false, rfl, rfl, _, rfl, ?_⟩⟩⟩
    rw [n2, Bool.false_and]
    refine iteF ?_
    have s15 := s14.trans s5
    exact ⟨_, rfl, _, rfl, l, t, ns, xs, rfl, (st.same s15).el, (st.same s15).et, (st.same s15).nm, st.nb, st.l20, st.ps, fun H6 s6 => ⟨_, rfl, iteF (q7 a l t g ns xs rs v0 v5 v6 v7 v8 v9 H6 (st.same (s15.trans s6)))⟩⟩
  · refine iteF ?_
    exact ⟨_, rfl, _, rfl, l, t, ns, xs, rfl, (st.same s14).el, (st.same s14).et, (st.same s14).nm, st.nb, st.l20, st.ps, fun H6 s6 => ⟨_, rfl, iteF (q7 a l t g ns xs rs v0 v5 v6 v7 v8 v9 H6 (st.same (s14.trans s6)))⟩⟩
end
/-- the law -/
def spLaw (K : PySem.W.Frag) : Sp := fun vs H Q _ => ∃ (a : Addr) (ns : List Int), vs = [.ref a] ∧ SqL K H a (ns.map V.int) ∧ ns.length ≤ 63 ∧ ∀ H', Q (.bl true) H'
section
variable {P : Program} {w : World} {K : PySem.W.Frag} {mg : Str → Option Value} {base : Heap} {C B : Addr}
theorem ok_law {f : Addr} {fd : FuncData} (F : Fun K "law" "law" s_law f fd) (L : LawT P w K mg base C B) : FnOk P w K mg base CX0 16 f fd ["_law_script"] (spLaw K) := by
  refine F.ok sc_law (fun vs H Q E h => ?_) (fun cdv A outer s H vs Q E hr h => ?_)
  · obtain ⟨a, ns, rfl, _⟩ := h
    rfl
  · obtain ⟨b, cs, rfl, hb, hcl, k⟩ := h
    obtain ⟨u4, h4, q4⟩ := seg4 (f := f) (cdv := cdv) (A := A) (outer := outer) (s := s) (H := H) (E := E) L hr k
    refine ⟨_, (pss_cons (ps_set (i := 1) sc_law.nd rfl (Or.inr rfl) (pe_cal L.pool (hr.mono (by decide)) rfl (pa_cons (pv 0) pa_nil)))
      (pss_cons (ps_set (i := 2) sc_law.nd rfl (Or.inr rfl) (pe_cal L.tops (hr.mono (by decide)) rfl (pa_cons (pv 1) pa_nil)))
      (pss_cons (ps_set (i := 3) sc_law.nd rfl (Or.inl rfl) (pe_callTy call_tuple_of (by rfl) L.n_tuple (by decide +kernel) (pa_cons (pe_lc (own := [("_law_top", 11)]) rfl sc_law.nd (pi_list (pv 2)) (blkOk_by (N := ["_law_script", "_law_pool_here", "_law_tops_here", "_law_items", "_law_kept", "_law_turn", "_law_thing", "_law_many", "_law_wrong", "_law_told", "_law_item", "_law_top"]) (sc := defScope s_law) (by decide +kernel)) (fun _ _ _ _ _ => (pg_name (i := 11) sc_law.nd rfl (Or.inl rfl))) (fun _ _ _ _ _ => pts_nil) (fun _ _ _ _ _ => (pe_cal L.handed (hr.mono (by decide)) rfl (pa_cons (pv 1) (pa_cons (pe_cal L.part (hr.mono (by decide)) rfl (pa_cons (pv 11) (pa_cons (pe_callB (show CallR _ _ (rSum K) from cr_sum rfl) (by rfl) L.n_sum PyProof.Rows.boot_sum (pa_cons (pv 2) pa_nil)) pa_nil))) pa_nil))))) pa_nil)))
      (pss_cons (ps_setLc (i := 4) (own := [("_law_item", 10)]) rfl sc_law.nd rfl rfl (sw_true rfl rfl rfl (by decide +kernel)) (pi_tup (pv 3)) (blkOk_by (N := ["_law_script", "_law_pool_here", "_law_tops_here", "_law_items", "_law_kept", "_law_turn", "_law_thing", "_law_many", "_law_wrong", "_law_told", "_law_item", "_law_top"]) (sc := defScope s_law) (by decide +kernel)) (fun _ _ _ _ _ => (pg_name (i := 10) sc_law.nd rfl (Or.inl rfl))) (fun _ _ _ _ _ => pts_nil) (fun _ _ _ _ _ => (pe_cal L.own (hr.mono (by decide)) rfl (pa_cons (pv 10) pa_nil))))
      h4)))), ?_⟩
    refine ⟨_, rfl, b, cs, rfl, hb, hcl, fun a H1 s1 na p1 => ?_⟩
    refine ⟨_, rfl, a, rfl, p1, fun l ns H2 k2 p2 la el l1 l20 nb ps => ?_⟩
    have wb : ns.sum.natAbs < 2 ^ 45 := by
      have h1 := sum_bound (B := 2 ^ 40) ns fun S hS => by
        have := nb S hS
        omega
      have h2 : ns.length * 2 ^ 40 ≤ 20 * 2 ^ 40 := Nat.mul_le_mul_right _ l20
      exact Nat.lt_of_le_of_lt (Nat.le_trans h1 h2) (by decide)
    refine ⟨_, rfl, l, rfl, ⟨_, SqL.of el⟩, fun G nG => ?_⟩
    have ga := p2.fresh nG
    have gl : G ≠ l := fun z => by rw [z, el] at nG; cases nG
    refine lc_list (K := K) (a := l) (xs := ns.map V.int) (fun i H' => Keep a H2 H' ∧ PoolAt H' a ∧ ∃ vs : List V, vs.length = i ∧ H' G = some (.lst vs) ∧ ∀ (q : Nat) (v : V), vs[q]? = some v → ∃ n, ns[q]? = some n ∧ Num C H' v n ns.sum)
      ⟨Keep.of (Same.put nG), p2.new nG, [], rfl, upd_same, fun q v e => by simp at e⟩ (fun i H' _ h => SqL.of (h.1 _ _ el la)) ?_ ?_
    · rintro i x H' hx ⟨k3, p3, vs, vl, eG, hv⟩
      obtain ⟨n, hn, rfl⟩ := at_map hx
      have hi : i < ns.length := (List.getElem?_eq_some_iff.mp hn).1
      have hnb := nb n (mem_of_at hn)
      refine ⟨rfl, yes_of ⟨_, rfl, _, rfl, _, rfl, l, ns, rfl, SqL.of (k3 _ _ el la), n, ns.sum, rfl, by omega, log_small (b := 60) (by omega) (by decide) (by decide), fun p H4 s4 np e4 => ?_⟩⟩
      have lo := low_of (S := n) ps (up4000 (big60 (by omega))) (up4000 (big60 (by omega)))
      have p4 := p3.same s4
      refine ⟨a, p, lowT n ns.sum, lowB n ns.sum, rfl, p4, e4, lo, fun v H5 k5 p5 nm => ?_⟩
      have eG5 : H5 G = some (.lst vs) := k5 _ _ (s4 _ _ eG) ga
      have m5 : Mv H5 (upd H5 G (.lst (vs ++ [v]))) := .lst eG5
      have k35 : Mv H' H5 := (Mv.of s4).trans (.keep k5 p4 p5)
      refine ⟨vs, eG5, by rw [vl]; exact small1000 (by omega), ((k3.trans (Keep.of s4)).trans k5).new nG, .upd p5 ga, vs ++ [v], by rw [List.length_append, vl]; rfl, upd_same, ?_⟩
      intro q z e
      rw [List.getElem?_append] at e
      split at e
      · obtain ⟨n2, e1, e2⟩ := hv q z e
        exact ⟨n2, e1, e2.mv (k35.trans m5)⟩
      · rename_i hlt
        have q0 : q = i := by
          have := (List.getElem?_eq_some_iff.mp e).1
          have l1 : ([v] : List V).length = 1 := rfl
          omega
        subst q0
        rw [vl, Nat.sub_self] at e
        cases e
        exact ⟨n, hn, Num.mv nm m5⟩
    rintro H3 ⟨k3, p3, xs, xl, eG, hv⟩
    rw [List.length_map] at xl
    refine ⟨G, xs, rfl, .inl ⟨SqL.of eG, fun t nt => ?_⟩⟩
    have s4 : Same H3 (upd H3 t (.tup xs)) := Same.put nt
    have et : (upd H3 t (.tup xs)) t = some (.tup xs) := upd_same
    have p4 : PoolAt (upd H3 t (.tup xs)) a := p3.new nt
    have el4 : (upd H3 t (.tup xs)) l = some (.lst (ns.map V.int)) := s4 _ _ (k3 _ _ el la)
    have nm4 : Nums C ns.sum (upd H3 t (.tup xs)) xs ns := ⟨xl, fun q v e => let ⟨n, e1, e2⟩ := hv q v e; ⟨n, e1, e2.same s4⟩⟩
    generalize (upd H3 t (.tup xs)) = H4 at s4 et p4 el4 nm4 ⊢
    refine ⟨_, rfl, t, rfl, ⟨_, SqT.of et⟩, fun g ng => ?_⟩
    have gga := p4.fresh ng
    refine lc_tup (K := K) (a := t) (xs := xs) (fun i H' => Same H4 H' ∧ ∃ qs : List V, qs.length = i ∧ H' g = some (.lst qs) ∧ ∀ (q : Nat) (v : V), qs[q]? = some v → ∃ (r : Addr) (n : Int), v = .ref r ∧ ns[q]? = some n ∧ Pair H' r (lowT n ns.sum) (lowB n ns.sum)) ⟨Same.put ng, [], rfl, upd_same, fun q v e => by simp at e⟩ (fun i H' _ h => SqT.of (h.1 _ _ et)) ?_ ?_
    · rintro i x H' hx ⟨s5, qs, ql, eg, hq⟩
      obtain ⟨n, hn, nm⟩ := (nm4.same s5).2 i x hx
      have hi : i < ns.length := (List.getElem?_eq_some_iff.mp hn).1
      refine ⟨rfl, yes_of ⟨_, rfl, x, rfl, .inl ⟨_, _, nm, fun r H6 s6 e6 => ⟨qs, s6 _ _ eg, small1000 (by omega), ?_, qs ++ [.ref r], ?_, upd_same, ?_⟩⟩⟩⟩
      · intro b u hu
        rw [upd_ne (ne_of_none hu ng)]
        exact s6 _ _ (s5 _ _ hu)
      · rw [List.length_append, ql]; rfl
      · have tupG : ∀ {b : Addr} {p q : Int}, Pair H6 b p q → Pair (upd H6 g (.lst (qs ++ [.ref r]))) b p q := fun {b p q} e => by
          unfold Pair at e ⊢
          have gl := s6 _ _ eg
          rw [upd_ne (fun z => by rw [z, gl] at e; cases e)]
          exact e
        intro q v e
        rw [List.getElem?_append] at e
        split at e
        · obtain ⟨r2, n2, e1, e3, e4⟩ := hq q v e
          exact ⟨r2, n2, e1, e3, tupG (s6 _ _ e4)⟩
        · rename_i hlt
          have q0 : q = i := by
            have := (List.getElem?_eq_some_iff.mp e).1
            have l1 : ([V.ref r] : List V).length = 1 := rfl
            omega
          subst q0
          rw [ql, Nat.sub_self] at e
          cases e
          exact ⟨r, n, rfl, hn, tupG e6⟩
    · rintro H5 ⟨s5, qs, ql, eg, hq⟩
      exact q4 a l t g ns xs qs _ none none none none none H5 ⟨p4.same s5, la, gga, s5 _ _ el4, s5 _ _ et, eg, nm4.same s5, nb, l1, l20, ps, by omega, hq⟩
end
end K3

set_option Elab.async false
set_option linter.all false
set_option maxRecDepth 100000
set_option maxHeartbeats 8000000
namespace K3
open PySem L2
theorem kit_sub {K : PySem.W.Frag} {C : Addr} {T : String} {b : Bool} (h : PySem.W.subIn K (.ref C) (.type T) = some b) (m : PySem.W.kitMeta T = true) : PySem.W.kitOne K (.ref C) (.type T) = some b := by
  show (if (Value.ref C == Value.type T) = true then some true else if PySem.W.kitMeta T = true then PySem.W.subIn K (.ref C) (.type T) else none) = some b
  rw [if_neg (show ¬ ((Value.ref C == Value.type T) = true) from fun z => by cases beq_iff_eq.mp z), if_pos m]
  exact h
theorem kit_self (K : PySem.W.Frag) (C : Addr) : PySem.W.kitOne K (.ref C) (.ref C) = some true := by
  show (if (Value.ref C == Value.ref C) = true then some true else _) = some true
  rw [if_pos (beq_iff_eq.mpr rfl)]
theorem is_cls {K : PySem.W.Frag} {C : Addr} (hd : PySem.W.hasDictIn K C = true) (t : PySem.W.typeIn K (.ref C) = some (.type "type")) : ((PySem.W.clsIn K C).isSome && PySem.W.typeIn K (.ref C) == some (.type "type")) = true := by
  obtain ⟨cd, hc, _⟩ := PySem.W.any_some hd
  rw [hc, t] <;> rfl
theorem kit_cref {K : PySem.W.Frag} {C : Addr} {t : Value} {b : Bool} (hd : PySem.W.hasDictIn K C = true) (tC : PySem.W.typeIn K (.ref C) = some (.type "type")) (h : PySem.W.subIn K t (.ref C) = some b) : PySem.W.kitCls K t (.ref C) = some b := by
  show (if ((PySem.W.clsIn K C).isSome && PySem.W.typeIn K (.ref C) == some (.type "type")) = true then PySem.W.subIn K t (.ref C) else none) = some b
  rw [if_pos (is_cls hd tC)]
  exact h
theorem no_ref {C : Addr} : ∀ {l : List Value}, l.all (fun v => match v with | .type _ => true | _ => false) = true → l.contains (.ref C) = false
  | [], _ => rfl
  | a :: r, h => by
    rw [List.all_cons, Bool.and_eq_true] at h
    rw [List.contains_cons, no_ref h.2, Bool.or_false]
    cases a <;> first | rfl | (simp at h)
theorem kit_from {K : PySem.W.Frag} {C : Addr} {T : String} {l : List Value} (hd : PySem.W.hasDictIn K C = true) (tC : PySem.W.typeIn K (.ref C) = some (.type "type")) (e : fastBuiltinMro T = some l) (hl : l.all (fun v => match v with | .type _ => true | _ => false) = true) :
    PySem.W.kitOne K (.type T) (.ref C) = some false := by
  show (if (Value.type T == Value.ref C) = true then some true else PySem.W.kitCls K (.type T) (.ref C)) = some false
  rw [if_neg (show ¬ ((Value.type T == Value.ref C) = true) from fun z => by cases beq_iff_eq.mp z)]
  refine kit_cref hd tC ?_
  show (fastBuiltinMro T).map (·.contains (.ref C)) = some false
  rw [e]
  exact congrArg some (no_ref hl)
section
variable {K : PySem.W.Frag} {mg : Str → Option Value} {h : Heap}
theorem all_mk {l : PySem.W.OpenLaw} {w : World} {fa C B BP BQ W f_WE f_BS f_BP f_BQ f_iw f_tu f_SI f_add f_radd f_neg f_sub f_rsub f_eq f_less f_ish f_sof f_tot f_f0 f_spr f_any f_pks f_pool f_draw f_pick f_num f_divi f_part f_plus f_own f_tops f_hand f_lsp f_spo f_jud f_pkd f_rig f_law T_SI T_WE : Addr} (X : K.In h) (G : h.Ns mainGlobals mg) (hfa : mg "law" = some (.ref fa))
    {oc_WE kV_WE dc_WE pm_WE cd_WE ct_WE oc_BS kV_BS dc_BS pm_BS cd_BS ct_BS oc_BP kV_BP dc_BP pm_BP cd_BP ct_BP oc_BQ kV_BQ dc_BQ pm_BQ cd_BQ ct_BQ oc_iw kV_iw dc_iw pm_iw cd_iw ct_iw oc_tu kV_tu dc_tu pm_tu cd_tu ct_tu oc_SI kV_SI dc_SI pm_SI cd_SI ct_SI oc_add kV_add dc_add pm_add cd_add ct_add oc_radd kV_radd dc_radd pm_radd cd_radd ct_radd oc_neg kV_neg dc_neg pm_neg cd_neg ct_neg oc_sub kV_sub dc_sub pm_sub cd_sub ct_sub oc_rsub kV_rsub dc_rsub pm_rsub cd_rsub ct_rsub oc_eq kV_eq dc_eq pm_eq cd_eq ct_eq oc_less kV_less dc_less pm_less cd_less ct_less oc_ish kV_ish dc_ish pm_ish cd_ish ct_ish oc_sof kV_sof dc_sof pm_sof cd_sof ct_sof oc_tot kV_tot dc_tot pm_tot cd_tot ct_tot oc_f0 kV_f0 dc_f0 pm_f0 cd_f0 ct_f0 oc_spr kV_spr dc_spr pm_spr cd_spr ct_spr oc_any kV_any dc_any pm_any cd_any ct_any oc_pks kV_pks dc_pks pm_pks cd_pks ct_pks oc_pool kV_pool dc_pool pm_pool cd_pool ct_pool oc_draw kV_draw dc_draw pm_draw cd_draw ct_draw oc_pick kV_pick dc_pick pm_pick cd_pick ct_pick oc_num kV_num dc_num pm_num cd_num ct_num oc_divi kV_divi dc_divi pm_divi cd_divi ct_divi oc_part kV_part dc_part pm_part cd_part ct_part oc_plus kV_plus dc_plus pm_plus cd_plus ct_plus oc_own kV_own dc_own pm_own cd_own ct_own oc_tops kV_tops dc_tops pm_tops cd_tops ct_tops oc_hand kV_hand dc_hand pm_hand cd_hand ct_hand oc_lsp kV_lsp dc_lsp pm_lsp cd_lsp ct_lsp oc_spo kV_spo dc_spo pm_spo cd_spo ct_spo oc_jud kV_jud dc_jud pm_jud cd_jud ct_jud oc_pkd kV_pkd dc_pkd pm_pkd cd_pkd ct_pkd oc_rig kV_rig dc_rig pm_rig cd_rig ct_rig oc_law kV_law dc_law pm_law cd_law ct_law : Value} {od_WE an_WE od_BS an_BS od_BP an_BP od_BQ an_BQ od_iw an_iw od_tu an_tu od_SI an_SI od_add an_add od_radd an_radd od_neg an_neg od_sub an_sub od_rsub an_rsub od_eq an_eq od_less an_less od_ish an_ish od_sof an_sof od_tot an_tot od_f0 an_f0 od_spr an_spr od_any an_any od_pks an_pks od_pool an_pool od_draw an_draw od_pick an_pick od_num an_num od_divi an_divi od_part an_part od_plus an_plus od_own an_own od_tops an_tops od_hand an_hand od_lsp an_lsp od_spo an_spo od_jud an_jud od_pkd an_pkd od_rig an_rig od_law an_law : Option Addr} {sl_WE sl_BS sl_BP sl_BQ sl_iw sl_tu sl_SI sl_add sl_radd sl_neg sl_sub sl_rsub sl_eq sl_less sl_ish sl_sof sl_tot sl_f0 sl_spr sl_any sl_pks sl_pool sl_draw sl_pick sl_num sl_divi sl_part sl_plus sl_own sl_tops sl_hand sl_lsp sl_spo sl_jud sl_pkd sl_rig sl_law : Array (Option Value)}
    {tkS tkW : Tok} {xW : Str} {tcS tcW : Value} {tdS tdW : Option Addr} {tnS tnW : Nat} {tsS tsW : Array (Option Value)} {ro_add ro_sub : Option Value}
    {nmB qB : Str} {NB : Addr} {bsB bmB : List Value} {snB : List Str} {subB : List Value} {abB : Bool} {colB : Option Bool} {ddB : Option Addr} {Bk0 Bk1 Bk2 Bk3 Bk5 : Option Value}
    {nmBP qBP : Str} {NBP : Addr} {bsBP bmBP : List Value} {snBP : List Str} {subBP : List Value} {abBP : Bool} {colBP : Option Bool} {ddBP : Option Addr} {BPk0 BPk1 BPk2 BPk3 BPk5 : Option Value}
    {nmBQ qBQ : Str} {NBQ : Addr} {bsBQ bmBQ : List Value} {snBQ : List Str} {subBQ : List Value} {abBQ : Bool} {colBQ : Option Bool} {ddBQ : Option Addr} {BQk0 BQk1 BQk2 BQk3 BQk5 : Option Value}
    (aC : PySem.W.nsIn K mainGlobals "Share" = some (some (.ref C)))
    (aB : PySem.W.nsIn K mainGlobals "BadShare" = some (some (.ref B)))
    (aBP : PySem.W.nsIn K mainGlobals "BadSpread" = some (some (.ref BP)))
    (aBQ : PySem.W.nsIn K mainGlobals "BadFactor" = some (some (.ref BQ)))
    (aW : PySem.W.nsIn K mainGlobals "WalkError" = some (some (.ref W)))
    (aG : PySem.W.nsIn K mainGlobals "gcd" = some (some (.builtin "math.gcd")))
    (n_isinstance : PySem.W.nsIn K mainGlobals "isinstance" = some none)
    (n_int : PySem.W.nsIn K mainGlobals "int" = some none)
    (n_bool : PySem.W.nsIn K mainGlobals "bool" = some none)
    (n_abs : PySem.W.nsIn K mainGlobals "abs" = some none)
    (n_len : PySem.W.nsIn K mainGlobals "len" = some none)
    (n_str : PySem.W.nsIn K mainGlobals "str" = some none)
    (n_divmod : PySem.W.nsIn K mainGlobals "divmod" = some none)
    (n_ValueError : PySem.W.nsIn K mainGlobals "ValueError" = some none)
    (n_tuple : PySem.W.nsIn K mainGlobals "tuple" = some none)
    (n_sum : PySem.W.nsIn K mainGlobals "sum" = some none)
    (n_all : PySem.W.nsIn K mainGlobals "all" = some none)
    (n_range : PySem.W.nsIn K mainGlobals "range" = some none)
    (n_list : PySem.W.nsIn K mainGlobals "list" = some none)
    (n_max : PySem.W.nsIn K mainGlobals "max" = some none)
    (a_WE : PySem.W.findIn K (.ref W) "__init__" = some (some (.ref f_WE)))
    (l_WE : K.lookup f_WE = some ⟨oc_WE, od_WE, .func (PySem.W.fnOf "__init__" "WalkError.__init__" (defArgs s_WE) (defBody s_WE) (defScope s_WE) (.ref T_WE) kV_WE dc_WE pm_WE an_WE cd_WE ct_WE), sl_WE⟩)
    (c_WE : PySem.W.codeIn K cd_WE "WalkError.__init__" = true)
    (k_WE : PySem.W.keepIn K (.ref f_WE) = true)
    (a_BS : PySem.W.findIn K (.ref B) "__init__" = some (some (.ref f_BS)))
    (l_BS : K.lookup f_BS = some ⟨oc_BS, od_BS, .func (PySem.W.fnOf "__init__" "BadShare.__init__" (defArgs s_BS) (defBody s_BS) (defScope s_BS) .none kV_BS dc_BS pm_BS an_BS cd_BS ct_BS), sl_BS⟩)
    (c_BS : PySem.W.codeIn K cd_BS "BadShare.__init__" = true)
    (k_BS : PySem.W.keepIn K (.ref f_BS) = true)
    (a_BP : PySem.W.findIn K (.ref BP) "__init__" = some (some (.ref f_BP)))
    (l_BP : K.lookup f_BP = some ⟨oc_BP, od_BP, .func (PySem.W.fnOf "__init__" "BadSpread.__init__" (defArgs s_BSp) (defBody s_BSp) (defScope s_BSp) .none kV_BP dc_BP pm_BP an_BP cd_BP ct_BP), sl_BP⟩)
    (c_BP : PySem.W.codeIn K cd_BP "BadSpread.__init__" = true)
    (k_BP : PySem.W.keepIn K (.ref f_BP) = true)
    (a_BQ : PySem.W.findIn K (.ref BQ) "__init__" = some (some (.ref f_BQ)))
    (l_BQ : K.lookup f_BQ = some ⟨oc_BQ, od_BQ, .func (PySem.W.fnOf "__init__" "BadFactor.__init__" (defArgs s_BF) (defBody s_BF) (defScope s_BF) .none kV_BQ dc_BQ pm_BQ an_BQ cd_BQ ct_BQ), sl_BQ⟩)
    (c_BQ : PySem.W.codeIn K cd_BQ "BadFactor.__init__" = true)
    (k_BQ : PySem.W.keepIn K (.ref f_BQ) = true)
    (a_iw : PySem.W.nsIn K mainGlobals "is_whole" = some (some (.ref f_iw)))
    (l_iw : K.lookup f_iw = some ⟨oc_iw, od_iw, .func (PySem.W.fnOf "is_whole" "is_whole" (defArgs s_is_whole) (defBody s_is_whole) (defScope s_is_whole) .none kV_iw dc_iw pm_iw an_iw cd_iw ct_iw), sl_iw⟩)
    (c_iw : PySem.W.codeIn K cd_iw "is_whole" = true)
    (k_iw : PySem.W.keepIn K (.ref f_iw) = true)
    (a_tu : PySem.W.nsIn K mainGlobals "is_tuple_of" = some (some (.ref f_tu)))
    (l_tu : K.lookup f_tu = some ⟨oc_tu, od_tu, .func (PySem.W.fnOf "is_tuple_of" "is_tuple_of" (defArgs s_tupOf) (defBody s_tupOf) (defScope s_tupOf) .none kV_tu dc_tu pm_tu an_tu cd_tu ct_tu), sl_tu⟩)
    (c_tu : PySem.W.codeIn K cd_tu "is_tuple_of" = true)
    (k_tu : PySem.W.keepIn K (.ref f_tu) = true)
    (a_SI : PySem.W.findIn K (.ref C) "__init__" = some (some (.ref f_SI)))
    (l_SI : K.lookup f_SI = some ⟨oc_SI, od_SI, .func (PySem.W.fnOf "__init__" "Share.__init__" (defArgs s_SI) (defBody s_SI) (defScope s_SI) (.ref T_SI) kV_SI dc_SI pm_SI an_SI cd_SI ct_SI), sl_SI⟩)
    (c_SI : PySem.W.codeIn K cd_SI "Share.__init__" = true)
    (k_SI : PySem.W.keepIn K (.ref f_SI) = true)
    (a_add : PySem.W.findIn K (.ref C) "__add__" = some (some (.ref f_add)))
    (l_add : K.lookup f_add = some ⟨oc_add, od_add, .func (PySem.W.fnOf "__add__" "Share.__add__" (defArgs s_add) (defBody s_add) (defScope s_add) .none kV_add dc_add pm_add an_add cd_add ct_add), sl_add⟩)
    (c_add : PySem.W.codeIn K cd_add "Share.__add__" = true)
    (k_add : PySem.W.keepIn K (.ref f_add) = true)
    (a_radd : PySem.W.findIn K (.ref C) "__radd__" = some (some (.ref f_radd)))
    (l_radd : K.lookup f_radd = some ⟨oc_radd, od_radd, .func (PySem.W.fnOf "__radd__" "Share.__radd__" (defArgs s_radd) (defBody s_radd) (defScope s_radd) .none kV_radd dc_radd pm_radd an_radd cd_radd ct_radd), sl_radd⟩)
    (c_radd : PySem.W.codeIn K cd_radd "Share.__radd__" = true)
    (k_radd : PySem.W.keepIn K (.ref f_radd) = true)
    (a_neg : PySem.W.findIn K (.ref C) "__neg__" = some (some (.ref f_neg)))
    (l_neg : K.lookup f_neg = some ⟨oc_neg, od_neg, .func (PySem.W.fnOf "__neg__" "Share.__neg__" (defArgs s_neg) (defBody s_neg) (defScope s_neg) .none kV_neg dc_neg pm_neg an_neg cd_neg ct_neg), sl_neg⟩)
    (c_neg : PySem.W.codeIn K cd_neg "Share.__neg__" = true)
    (k_neg : PySem.W.keepIn K (.ref f_neg) = true)
    (a_sub : PySem.W.findIn K (.ref C) "__sub__" = some (some (.ref f_sub)))
    (l_sub : K.lookup f_sub = some ⟨oc_sub, od_sub, .func (PySem.W.fnOf "__sub__" "Share.__sub__" (defArgs s_sub) (defBody s_sub) (defScope s_sub) .none kV_sub dc_sub pm_sub an_sub cd_sub ct_sub), sl_sub⟩)
    (c_sub : PySem.W.codeIn K cd_sub "Share.__sub__" = true)
    (k_sub : PySem.W.keepIn K (.ref f_sub) = true)
    (a_rsub : PySem.W.findIn K (.ref C) "__rsub__" = some (some (.ref f_rsub)))
    (l_rsub : K.lookup f_rsub = some ⟨oc_rsub, od_rsub, .func (PySem.W.fnOf "__rsub__" "Share.__rsub__" (defArgs s_rsub) (defBody s_rsub) (defScope s_rsub) .none kV_rsub dc_rsub pm_rsub an_rsub cd_rsub ct_rsub), sl_rsub⟩)
    (c_rsub : PySem.W.codeIn K cd_rsub "Share.__rsub__" = true)
    (k_rsub : PySem.W.keepIn K (.ref f_rsub) = true)
    (a_eq : PySem.W.findIn K (.ref C) "__eq__" = some (some (.ref f_eq)))
    (l_eq : K.lookup f_eq = some ⟨oc_eq, od_eq, .func (PySem.W.fnOf "__eq__" "Share.__eq__" (defArgs s_eq) (defBody s_eq) (defScope s_eq) .none kV_eq dc_eq pm_eq an_eq cd_eq ct_eq), sl_eq⟩)
    (c_eq : PySem.W.codeIn K cd_eq "Share.__eq__" = true)
    (k_eq : PySem.W.keepIn K (.ref f_eq) = true)
    (a_less : PySem.W.findIn K (.ref C) "less" = some (some (.ref f_less)))
    (l_less : K.lookup f_less = some ⟨oc_less, od_less, .func (PySem.W.fnOf "less" "Share.less" (defArgs s_sless) (defBody s_sless) (defScope s_sless) .none kV_less dc_less pm_less an_less cd_less ct_less), sl_less⟩)
    (c_less : PySem.W.codeIn K cd_less "Share.less" = true)
    (k_less : PySem.W.keepIn K (.ref f_less) = true)
    (a_ish : PySem.W.nsIn K mainGlobals "is_share" = some (some (.ref f_ish)))
    (l_ish : K.lookup f_ish = some ⟨oc_ish, od_ish, .func (PySem.W.fnOf "is_share" "is_share" (defArgs s_is_share) (defBody s_is_share) (defScope s_is_share) .none kV_ish dc_ish pm_ish an_ish cd_ish ct_ish), sl_ish⟩)
    (c_ish : PySem.W.codeIn K cd_ish "is_share" = true)
    (k_ish : PySem.W.keepIn K (.ref f_ish) = true)
    (a_sof : PySem.W.nsIn K mainGlobals "share_of" = some (some (.ref f_sof)))
    (l_sof : K.lookup f_sof = some ⟨oc_sof, od_sof, .func (PySem.W.fnOf "share_of" "share_of" (defArgs s_share_of) (defBody s_share_of) (defScope s_share_of) .none kV_sof dc_sof pm_sof an_sof cd_sof ct_sof), sl_sof⟩)
    (c_sof : PySem.W.codeIn K cd_sof "share_of" = true)
    (k_sof : PySem.W.keepIn K (.ref f_sof) = true)
    (a_tot : PySem.W.nsIn K mainGlobals "total" = some (some (.ref f_tot)))
    (l_tot : K.lookup f_tot = some ⟨oc_tot, od_tot, .func (PySem.W.fnOf "total" "total" (defArgs s_total) (defBody s_total) (defScope s_total) .none kV_tot dc_tot pm_tot an_tot cd_tot ct_tot), sl_tot⟩)
    (c_tot : PySem.W.codeIn K cd_tot "total" = true)
    (k_tot : PySem.W.keepIn K (.ref f_tot) = true)
    (a_f0 : PySem.W.nsIn K mainGlobals "is_from_zero" = some (some (.ref f_f0)))
    (l_f0 : K.lookup f_f0 = some ⟨oc_f0, od_f0, .func (PySem.W.fnOf "is_from_zero" "is_from_zero" (defArgs s_from0) (defBody s_from0) (defScope s_from0) .none kV_f0 dc_f0 pm_f0 an_f0 cd_f0 ct_f0), sl_f0⟩)
    (c_f0 : PySem.W.codeIn K cd_f0 "is_from_zero" = true)
    (k_f0 : PySem.W.keepIn K (.ref f_f0) = true)
    (a_spr : PySem.W.nsIn K mainGlobals "is_spread" = some (some (.ref f_spr)))
    (l_spr : K.lookup f_spr = some ⟨oc_spr, od_spr, .func (PySem.W.fnOf "is_spread" "is_spread" (defArgs s_spread) (defBody s_spread) (defScope s_spread) .none kV_spr dc_spr pm_spr an_spr cd_spr ct_spr), sl_spr⟩)
    (c_spr : PySem.W.codeIn K cd_spr "is_spread" = true)
    (k_spr : PySem.W.keepIn K (.ref f_spr) = true)
    (a_any : PySem.W.nsIn K mainGlobals "is_any_spread" = some (some (.ref f_any)))
    (l_any : K.lookup f_any = some ⟨oc_any, od_any, .func (PySem.W.fnOf "is_any_spread" "is_any_spread" (defArgs s_any) (defBody s_any) (defScope s_any) .none kV_any dc_any pm_any an_any cd_any ct_any), sl_any⟩)
    (c_any : PySem.W.codeIn K cd_any "is_any_spread" = true)
    (k_any : PySem.W.keepIn K (.ref f_any) = true)
    (a_pks : PySem.W.nsIn K mainGlobals "pick" = some (some (.ref f_pks)))
    (l_pks : K.lookup f_pks = some ⟨oc_pks, od_pks, .func (PySem.W.fnOf "pick" "pick" (defArgs s_pickS) (defBody s_pickS) (defScope s_pickS) .none kV_pks dc_pks pm_pks an_pks cd_pks ct_pks), sl_pks⟩)
    (c_pks : PySem.W.codeIn K cd_pks "pick" = true)
    (k_pks : PySem.W.keepIn K (.ref f_pks) = true)
    (a_pool : PySem.W.nsIn K mainGlobals "_law_pool" = some (some (.ref f_pool)))
    (l_pool : K.lookup f_pool = some ⟨oc_pool, od_pool, .func (PySem.W.fnOf "_law_pool" "_law_pool" (defArgs s_pool) (defBody s_pool) (defScope s_pool) .none kV_pool dc_pool pm_pool an_pool cd_pool ct_pool), sl_pool⟩)
    (c_pool : PySem.W.codeIn K cd_pool "_law_pool" = true)
    (k_pool : PySem.W.keepIn K (.ref f_pool) = true)
    (a_draw : PySem.W.nsIn K mainGlobals "_law_draw" = some (some (.ref f_draw)))
    (l_draw : K.lookup f_draw = some ⟨oc_draw, od_draw, .func (PySem.W.fnOf "_law_draw" "_law_draw" (defArgs s_draw) (defBody s_draw) (defScope s_draw) .none kV_draw dc_draw pm_draw an_draw cd_draw ct_draw), sl_draw⟩)
    (c_draw : PySem.W.codeIn K cd_draw "_law_draw" = true)
    (k_draw : PySem.W.keepIn K (.ref f_draw) = true)
    (a_pick : PySem.W.nsIn K mainGlobals "_law_pick" = some (some (.ref f_pick)))
    (l_pick : K.lookup f_pick = some ⟨oc_pick, od_pick, .func (PySem.W.fnOf "_law_pick" "_law_pick" (defArgs s_pick) (defBody s_pick) (defScope s_pick) .none kV_pick dc_pick pm_pick an_pick cd_pick ct_pick), sl_pick⟩)
    (c_pick : PySem.W.codeIn K cd_pick "_law_pick" = true)
    (k_pick : PySem.W.keepIn K (.ref f_pick) = true)
    (a_num : PySem.W.nsIn K mainGlobals "_law_number" = some (some (.ref f_num)))
    (l_num : K.lookup f_num = some ⟨oc_num, od_num, .func (PySem.W.fnOf "_law_number" "_law_number" (defArgs s_number) (defBody s_number) (defScope s_number) .none kV_num dc_num pm_num an_num cd_num ct_num), sl_num⟩)
    (c_num : PySem.W.codeIn K cd_num "_law_number" = true)
    (k_num : PySem.W.keepIn K (.ref f_num) = true)
    (a_divi : PySem.W.nsIn K mainGlobals "_law_divisor" = some (some (.ref f_divi)))
    (l_divi : K.lookup f_divi = some ⟨oc_divi, od_divi, .func (PySem.W.fnOf "_law_divisor" "_law_divisor" (defArgs s_divi) (defBody s_divi) (defScope s_divi) .none kV_divi dc_divi pm_divi an_divi cd_divi ct_divi), sl_divi⟩)
    (c_divi : PySem.W.codeIn K cd_divi "_law_divisor" = true)
    (k_divi : PySem.W.keepIn K (.ref f_divi) = true)
    (a_part : PySem.W.nsIn K mainGlobals "_law_part" = some (some (.ref f_part)))
    (l_part : K.lookup f_part = some ⟨oc_part, od_part, .func (PySem.W.fnOf "_law_part" "_law_part" (defArgs s_part) (defBody s_part) (defScope s_part) .none kV_part dc_part pm_part an_part cd_part ct_part), sl_part⟩)
    (c_part : PySem.W.codeIn K cd_part "_law_part" = true)
    (k_part : PySem.W.keepIn K (.ref f_part) = true)
    (a_plus : PySem.W.nsIn K mainGlobals "_law_plus" = some (some (.ref f_plus)))
    (l_plus : K.lookup f_plus = some ⟨oc_plus, od_plus, .func (PySem.W.fnOf "_law_plus" "_law_plus" (defArgs s_plus) (defBody s_plus) (defScope s_plus) .none kV_plus dc_plus pm_plus an_plus cd_plus ct_plus), sl_plus⟩)
    (c_plus : PySem.W.codeIn K cd_plus "_law_plus" = true)
    (k_plus : PySem.W.keepIn K (.ref f_plus) = true)
    (a_own : PySem.W.nsIn K mainGlobals "_law_own" = some (some (.ref f_own)))
    (l_own : K.lookup f_own = some ⟨oc_own, od_own, .func (PySem.W.fnOf "_law_own" "_law_own" (defArgs s_own) (defBody s_own) (defScope s_own) .none kV_own dc_own pm_own an_own cd_own ct_own), sl_own⟩)
    (c_own : PySem.W.codeIn K cd_own "_law_own" = true)
    (k_own : PySem.W.keepIn K (.ref f_own) = true)
    (a_tops : PySem.W.nsIn K mainGlobals "_law_tops" = some (some (.ref f_tops)))
    (l_tops : K.lookup f_tops = some ⟨oc_tops, od_tops, .func (PySem.W.fnOf "_law_tops" "_law_tops" (defArgs s_tops) (defBody s_tops) (defScope s_tops) .none kV_tops dc_tops pm_tops an_tops cd_tops ct_tops), sl_tops⟩)
    (c_tops : PySem.W.codeIn K cd_tops "_law_tops" = true)
    (k_tops : PySem.W.keepIn K (.ref f_tops) = true)
    (a_hand : PySem.W.nsIn K mainGlobals "_law_handed" = some (some (.ref f_hand)))
    (l_hand : K.lookup f_hand = some ⟨oc_hand, od_hand, .func (PySem.W.fnOf "_law_handed" "_law_handed" (defArgs s_handed) (defBody s_handed) (defScope s_handed) .none kV_hand dc_hand pm_hand an_hand cd_hand ct_hand), sl_hand⟩)
    (c_hand : PySem.W.codeIn K cd_hand "_law_handed" = true)
    (k_hand : PySem.W.keepIn K (.ref f_hand) = true)
    (a_lsp : PySem.W.nsIn K mainGlobals "_law_is_spread" = some (some (.ref f_lsp)))
    (l_lsp : K.lookup f_lsp = some ⟨oc_lsp, od_lsp, .func (PySem.W.fnOf "_law_is_spread" "_law_is_spread" (defArgs s_lspread) (defBody s_lspread) (defScope s_lspread) .none kV_lsp dc_lsp pm_lsp an_lsp cd_lsp ct_lsp), sl_lsp⟩)
    (c_lsp : PySem.W.codeIn K cd_lsp "_law_is_spread" = true)
    (k_lsp : PySem.W.keepIn K (.ref f_lsp) = true)
    (a_spo : PySem.W.nsIn K mainGlobals "_law_spoiled" = some (some (.ref f_spo)))
    (l_spo : K.lookup f_spo = some ⟨oc_spo, od_spo, .func (PySem.W.fnOf "_law_spoiled" "_law_spoiled" (defArgs s_spoiled) (defBody s_spoiled) (defScope s_spoiled) .none kV_spo dc_spo pm_spo an_spo cd_spo ct_spo), sl_spo⟩)
    (c_spo : PySem.W.codeIn K cd_spo "_law_spoiled" = true)
    (k_spo : PySem.W.keepIn K (.ref f_spo) = true)
    (a_jud : PySem.W.nsIn K mainGlobals "_law_judged" = some (some (.ref f_jud)))
    (l_jud : K.lookup f_jud = some ⟨oc_jud, od_jud, .func (PySem.W.fnOf "_law_judged" "_law_judged" (defArgs s_judged) (defBody s_judged) (defScope s_judged) .none kV_jud dc_jud pm_jud an_jud cd_jud ct_jud), sl_jud⟩)
    (c_jud : PySem.W.codeIn K cd_jud "_law_judged" = true)
    (k_jud : PySem.W.keepIn K (.ref f_jud) = true)
    (a_pkd : PySem.W.nsIn K mainGlobals "_law_picked" = some (some (.ref f_pkd)))
    (l_pkd : K.lookup f_pkd = some ⟨oc_pkd, od_pkd, .func (PySem.W.fnOf "_law_picked" "_law_picked" (defArgs s_picked) (defBody s_picked) (defScope s_picked) .none kV_pkd dc_pkd pm_pkd an_pkd cd_pkd ct_pkd), sl_pkd⟩)
    (c_pkd : PySem.W.codeIn K cd_pkd "_law_picked" = true)
    (k_pkd : PySem.W.keepIn K (.ref f_pkd) = true)
    (a_rig : PySem.W.nsIn K mainGlobals "_law_right_places" = some (some (.ref f_rig)))
    (l_rig : K.lookup f_rig = some ⟨oc_rig, od_rig, .func (PySem.W.fnOf "_law_right_places" "_law_right_places" (defArgs s_right) (defBody s_right) (defScope s_right) .none kV_rig dc_rig pm_rig an_rig cd_rig ct_rig), sl_rig⟩)
    (c_rig : PySem.W.codeIn K cd_rig "_law_right_places" = true)
    (k_rig : PySem.W.keepIn K (.ref f_rig) = true)
    (a_law : PySem.W.nsIn K mainGlobals "law" = some (some (.ref f_law)))
    (l_law : K.lookup f_law = some ⟨oc_law, od_law, .func (PySem.W.fnOf "law" "law" (defArgs s_law) (defBody s_law) (defScope s_law) .none kV_law dc_law pm_law an_law cd_law ct_law), sl_law⟩)
    (c_law : PySem.W.codeIn K cd_law "law" = true)
    (k_law : PySem.W.keepIn K (.ref f_law) = true)
    (dSI : K.lookup T_SI = some ⟨tcS, tdS, .seq #[.int 1 tkS] tnS, tsS⟩)
    (dWE : K.lookup T_WE = some ⟨tcW, tdW, .seq #[.str xW tkW] tnW, tsW⟩)
    (pg : PySem.W.plainGet K C Str.empty = true)
    (hd : PySem.W.hasDictIn K C = true)
    (po : PySem.W.plainOver K C = true)
    (sa : PySem.W.findIn K (.ref C) "__setattr__" = some (some (.builtin "object.__setattr__")))
    (mk : PySem.W.makesIn K C = true)
    (kc : PySem.W.keepIn K (.ref C) = true)
    (tC : PySem.W.typeIn K (.ref C) = some (.type "type"))
    (nT : PySem.W.findIn K (.ref C) "top" = some none)
    (nBm : PySem.W.findIn K (.ref C) "bottom" = some none)
    (ha : PySem.W.findIn K (.ref C) "__class__" = some (some (.builtin "object.__class__")))
    (hn : PySem.W.specialIn K (.builtin "object.__class__") "__get__" = some (some (.builtin "getset_descriptor.__get__")))
    (htk : PySem.W.takesIn K (.builtin "object.__class__") = some true)
    (hm : PySem.W.mroIn K C (.type "object") = some true)
    (ne : PySem.W.findIn K (.ref C) "__ne__" = some (some (.builtin "object.__ne__")))
    (sf : PySem.W.selfFirst K C = true)
    (u_int : PySem.W.subIn K (.ref C) (.type "int") = some false)
    (u_bool : PySem.W.subIn K (.ref C) (.type "bool") = some false)
    (u_NoneType : PySem.W.subIn K (.ref C) (.type "NoneType") = some false)
    (u_str : PySem.W.subIn K (.ref C) (.type "str") = some false)
    (u_list : PySem.W.subIn K (.ref C) (.type "list") = some false)
    (u_tuple : PySem.W.subIn K (.ref C) (.type "tuple") = some false)
    (u_dict : PySem.W.subIn K (.ref C) (.type "dict") = some false)
    (u_bytes : PySem.W.subIn K (.ref C) (.type "bytes") = some false)
    (u_bytearray : PySem.W.subIn K (.ref C) (.type "bytearray") = some false)
    (upC : PySem.W.subIn K (.type "int") (.ref C) = some false)
    (d_add : PySem.W.findIn K (.ref C) (PySem.dunder "add") = some (some (.ref f_add)))
    (e_add : PySem.W.findIn K (.ref C) (dunderR "add") = some (some (.ref f_radd)))
    (o_add : PySem.W.findIn K (.type "int") (dunderR "add") = some ro_add)
    (d_sub : PySem.W.findIn K (.ref C) (PySem.dunder "sub") = some (some (.ref f_sub)))
    (e_sub : PySem.W.findIn K (.ref C) (dunderR "sub") = some (some (.ref f_rsub)))
    (o_sub : PySem.W.findIn K (.type "int") (dunderR "sub") = some ro_sub)
    (i_SI : PySem.W.isFn K (.ref f_SI) = true)
    (i_eq : PySem.W.isFn K (.ref f_eq) = true)
    (i_add : PySem.W.isFn K (.ref f_add) = true)
    (i_radd : PySem.W.isFn K (.ref f_radd) = true)
    (i_neg : PySem.W.isFn K (.ref f_neg) = true)
    (i_sub : PySem.W.isFn K (.ref f_sub) = true)
    (i_rsub : PySem.W.isFn K (.ref f_rsub) = true)
    (i_less : PySem.W.isFn K (.ref f_less) = true)
    (xB : K.lookup B = some (excClassObj nmB qB B NB bsB bmB true snB subB abB colB ddB Bk0 Bk1 Bk2 Bk3 Bk5 "ValueError.__new__"))
    (rB : PySem.HandSPX.refsVE bmB = true)
    (saB : PySem.W.findIn K (.ref B) "__setattr__" = some (some (.builtin "object.__setattr__")))
    (exB : PySem.W.subIn K (.ref B) (.type "BaseException") = some true)
    (tB : PySem.W.typeIn K (.ref B) = some (.type "type"))
    (kB : PySem.W.keepIn K (.ref B) = true)
    (tfB : PySem.W.typeIn K (.ref f_BS) = some (.type "function"))
    (hdB : PySem.W.hasDictIn K B = true)
    (xBP : K.lookup BP = some (excClassObj nmBP qBP BP NBP bsBP bmBP true snBP subBP abBP colBP ddBP BPk0 BPk1 BPk2 BPk3 BPk5 "ValueError.__new__"))
    (rBP : PySem.HandSPX.refsVE bmBP = true)
    (saBP : PySem.W.findIn K (.ref BP) "__setattr__" = some (some (.builtin "object.__setattr__")))
    (exBP : PySem.W.subIn K (.ref BP) (.type "BaseException") = some true)
    (tBP : PySem.W.typeIn K (.ref BP) = some (.type "type"))
    (kBP : PySem.W.keepIn K (.ref BP) = true)
    (tfBP : PySem.W.typeIn K (.ref f_BP) = some (.type "function"))
    (hdBP : PySem.W.hasDictIn K BP = true)
    (xBQ : K.lookup BQ = some (excClassObj nmBQ qBQ BQ NBQ bsBQ bmBQ true snBQ subBQ abBQ colBQ ddBQ BQk0 BQk1 BQk2 BQk3 BQk5 "ValueError.__new__"))
    (rBQ : PySem.HandSPX.refsVE bmBQ = true)
    (saBQ : PySem.W.findIn K (.ref BQ) "__setattr__" = some (some (.builtin "object.__setattr__")))
    (exBQ : PySem.W.subIn K (.ref BQ) (.type "BaseException") = some true)
    (tBQ : PySem.W.typeIn K (.ref BQ) = some (.type "type"))
    (kBQ : PySem.W.keepIn K (.ref BQ) = true)
    (tfBQ : PySem.W.typeIn K (.ref f_BQ) = some (.type "function"))
    (hdBQ : PySem.W.hasDictIn K BQ = true)
    (ntB : PySem.W.findIn K (.ref B) "top" = some none)
    (nbB : PySem.W.findIn K (.ref B) "bottom" = some none)
    (npP : PySem.W.findIn K (.ref BP) "part" = some none)
    (nfQ : PySem.W.findIn K (.ref BQ) "factor" = some none)
    (gaBP : PySem.W.findIn K (.ref BP) "__getattribute__" = some (some (.builtin "BaseException.__getattribute__")))
    (ggBP : PySem.W.findIn K (.ref BP) "__getattr__" = some none)
    (ssBP : PySem.W.subIn K (.ref BP) (.ref BP) = some true)
    (gaBQ : PySem.W.findIn K (.ref BQ) "__getattribute__" = some (some (.builtin "BaseException.__getattribute__")))
    (ggBQ : PySem.W.findIn K (.ref BQ) "__getattr__" = some none)
    (ssBQ : PySem.W.subIn K (.ref BQ) (.ref BQ) = some true)
    (sQP : PySem.W.subIn K (.ref BQ) (.ref BP) = some false)
    (rdW : PySem.W.readsIn K W (.type "type") = true)
    (gaW : PySem.W.specialIn K (.ref W) "__getattribute__" = some (some (.builtin "type.__getattribute__")))
    (fcW : PySem.W.findCls K (.ref W) (.type "type") "__init__" = some (.val (.ref f_WE)))
    (vV : PySem.W.findCls K (.type "ValueError") (.type "type") "__init__" = some (.val (.builtin "ValueError.__init__"))) :
    ∃ fd : FuncData, (∀ (s : Shared) (v : Value), BindsTo s fd ⟨[v], []⟩ [("_law_script", v)]) ∧ ∀ base : Heap, K.In base → base.Ns mainGlobals mg → FnOk l.prog w K mg base CX0 16 fa fd ["_law_script"] (spLaw K) := by
  have e := hfa.symm.trans (PySem.W.mg_of X G a_law)
  cases e
  have F_WE : FunD K "__init__" "WalkError.__init__" (defArgs s_WE) (defBody s_WE) (defScope s_WE) [.str xW] [] f_WE _ := ⟨⟨_, _, _, _, _, _, _, _, _, _, rfl, l_WE, c_WE, .inr ⟨by simp, _, _, _, _, rfl, dWE, rfl, .cons ⟨_, rfl⟩ .nil⟩, .inl rfl⟩, k_WE⟩
  have F_BS := fun_mk (st := s_BS) l_BS c_BS k_BS
  have F_BP := fun_mk (st := s_BSp) l_BP c_BP k_BP
  have F_BQ := fun_mk (st := s_BF) l_BQ c_BQ k_BQ
  have F_iw := fun_mk (st := s_is_whole) l_iw c_iw k_iw
  have F_tu := fun_mk (st := s_tupOf) l_tu c_tu k_tu
  have F_SI : FunD K "__init__" "Share.__init__" (defArgs s_SI) (defBody s_SI) (defScope s_SI) [.int 1] [] f_SI _ := ⟨⟨_, _, _, _, _, _, _, _, _, _, rfl, l_SI, c_SI, .inr ⟨by simp, _, _, _, _, rfl, dSI, rfl, .cons ⟨_, rfl⟩ .nil⟩, .inl rfl⟩, k_SI⟩
  have F_add := fun_mk (st := s_add) l_add c_add k_add
  have F_radd := fun_mk (st := s_radd) l_radd c_radd k_radd
  have F_neg := fun_mk (st := s_neg) l_neg c_neg k_neg
  have F_sub := fun_mk (st := s_sub) l_sub c_sub k_sub
  have F_rsub := fun_mk (st := s_rsub) l_rsub c_rsub k_rsub
  have F_eq := fun_mk (st := s_eq) l_eq c_eq k_eq
  have F_less := fun_mk (st := s_sless) l_less c_less k_less
  have F_ish := fun_mk (st := s_is_share) l_ish c_ish k_ish
  have F_sof := fun_mk (st := s_share_of) l_sof c_sof k_sof
  have F_tot := fun_mk (st := s_total) l_tot c_tot k_tot
  have F_f0 := fun_mk (st := s_from0) l_f0 c_f0 k_f0
  have F_spr := fun_mk (st := s_spread) l_spr c_spr k_spr
  have F_any := fun_mk (st := s_any) l_any c_any k_any
  have F_pks := fun_mk (st := s_pickS) l_pks c_pks k_pks
  have F_pool := fun_mk (st := s_pool) l_pool c_pool k_pool
  have F_draw := fun_mk (st := s_draw) l_draw c_draw k_draw
  have F_pick := fun_mk (st := s_pick) l_pick c_pick k_pick
  have F_num := fun_mk (st := s_number) l_num c_num k_num
  have F_divi := fun_mk (st := s_divi) l_divi c_divi k_divi
  have F_part := fun_mk (st := s_part) l_part c_part k_part
  have F_plus := fun_mk (st := s_plus) l_plus c_plus k_plus
  have F_own := fun_mk (st := s_own) l_own c_own k_own
  have F_tops := fun_mk (st := s_tops) l_tops c_tops k_tops
  have F_hand := fun_mk (st := s_handed) l_hand c_hand k_hand
  have F_lsp := fun_mk (st := s_lspread) l_lsp c_lsp k_lsp
  have F_spo := fun_mk (st := s_spoiled) l_spo c_spo k_spo
  have F_jud := fun_mk (st := s_judged) l_jud c_jud k_jud
  have F_pkd := fun_mk (st := s_picked) l_pkd c_pkd k_pkd
  have F_rig := fun_mk (st := s_right) l_rig c_rig k_rig
  have F_law := fun_mk (st := s_law) l_law c_law k_law
  have b_BS := F_BS.binds (ps := ["self", "top", "bottom"]) fun _ _ _ _ _ _ us hl => match us, hl with | [_, _, _], _ => rfl
  have b_BP := F_BP.binds (ps := ["self", "part"]) fun _ _ _ _ _ _ us hl => match us, hl with | [_, _], _ => rfl
  have b_BQ := F_BQ.binds (ps := ["self", "factor"]) fun _ _ _ _ _ _ us hl => match us, hl with | [_, _], _ => rfl
  have b_iw := F_iw.binds (ps := ["thing"]) fun _ _ _ _ _ _ us hl => match us, hl with | [_], _ => rfl
  have b_tu := F_tu.binds (ps := ["many", "thing"]) fun _ _ _ _ _ _ us hl => match us, hl with | [_, _], _ => rfl
  have b_add := F_add.binds (ps := ["self", "other"]) fun _ _ _ _ _ _ us hl => match us, hl with | [_, _], _ => rfl
  have b_radd := F_radd.binds (ps := ["self", "other"]) fun _ _ _ _ _ _ us hl => match us, hl with | [_, _], _ => rfl
  have b_neg := F_neg.binds (ps := ["self"]) fun _ _ _ _ _ _ us hl => match us, hl with | [_], _ => rfl
  have b_sub := F_sub.binds (ps := ["self", "other"]) fun _ _ _ _ _ _ us hl => match us, hl with | [_, _], _ => rfl
  have b_rsub := F_rsub.binds (ps := ["self", "other"]) fun _ _ _ _ _ _ us hl => match us, hl with | [_, _], _ => rfl
  have b_eq := F_eq.binds (ps := ["self", "other"]) fun _ _ _ _ _ _ us hl => match us, hl with | [_, _], _ => rfl
  have b_less := F_less.binds (ps := ["self", "other"]) fun _ _ _ _ _ _ us hl => match us, hl with | [_, _], _ => rfl
  have b_ish := F_ish.binds (ps := ["thing"]) fun _ _ _ _ _ _ us hl => match us, hl with | [_], _ => rfl
  have b_sof := F_sof.binds (ps := ["thing"]) fun _ _ _ _ _ _ us hl => match us, hl with | [_], _ => rfl
  have b_tot := F_tot.binds (ps := ["row"]) fun _ _ _ _ _ _ us hl => match us, hl with | [_], _ => rfl
  have b_f0 := F_f0.binds (ps := ["thing"]) fun _ _ _ _ _ _ us hl => match us, hl with | [_], _ => rfl
  have b_spr := F_spr.binds (ps := ["many", "thing"]) fun _ _ _ _ _ _ us hl => match us, hl with | [_, _], _ => rfl
  have b_any := F_any.binds (ps := ["thing"]) fun _ _ _ _ _ _ us hl => match us, hl with | [_], _ => rfl
  have b_pks := F_pks.binds (ps := ["spread", "share"]) fun _ _ _ _ _ _ us hl => match us, hl with | [_, _], _ => rfl
  have b_pool := F_pool.binds (ps := ["_law_script"]) fun _ _ _ _ _ _ us hl => match us, hl with | [_], _ => rfl
  have b_draw := F_draw.binds (ps := ["_law_pool_here", "_law_many"]) fun _ _ _ _ _ _ us hl => match us, hl with | [_, _], _ => rfl
  have b_pick := F_pick.binds (ps := ["_law_pool_here", "_law_things"]) fun _ _ _ _ _ _ us hl => match us, hl with | [_, _], _ => rfl
  have b_num := F_num.binds (ps := ["_law_thing"]) fun _ _ _ _ _ _ us hl => match us, hl with | [_], _ => rfl
  have b_divi := F_divi.binds (ps := ["_law_one", "_law_other"]) fun _ _ _ _ _ _ us hl => match us, hl with | [_, _], _ => rfl
  have b_part := F_part.binds (ps := ["_law_top", "_law_bottom"]) fun _ _ _ _ _ _ us hl => match us, hl with | [_, _], _ => rfl
  have b_plus := F_plus.binds (ps := ["_law_one", "_law_other"]) fun _ _ _ _ _ _ us hl => match us, hl with | [_, _], _ => rfl
  have b_own := F_own.binds (ps := ["_law_thing"]) fun _ _ _ _ _ _ us hl => match us, hl with | [_], _ => rfl
  have b_tops := F_tops.binds (ps := ["_law_pool_here"]) fun _ _ _ _ _ _ us hl => match us, hl with | [_], _ => rfl
  have b_hand := F_hand.binds (ps := ["_law_pool_here", "_law_part_here"]) fun _ _ _ _ _ _ us hl => match us, hl with | [_, _], _ => rfl
  have b_lsp := F_lsp.binds (ps := ["_law_many", "_law_thing"]) fun _ _ _ _ _ _ us hl => match us, hl with | [_, _], _ => rfl
  have b_spo := F_spo.binds (ps := ["_law_pool_here", "_law_items"]) fun _ _ _ _ _ _ us hl => match us, hl with | [_, _], _ => rfl
  have b_jud := F_jud.binds (ps := ["_law_many", "_law_thing"]) fun _ _ _ _ _ _ us hl => match us, hl with | [_, _], _ => rfl
  have b_pkd := F_pkd.binds (ps := ["_law_thing", "_law_share"]) fun _ _ _ _ _ _ us hl => match us, hl with | [_, _], _ => rfl
  have b_rig := F_rig.binds (ps := ["_law_tops_here", "_law_items"]) fun _ _ _ _ _ _ us hl => match us, hl with | [_, _], _ => rfl
  obtain ⟨d2, v2, bSI2⟩ := F_SI.binds1 (ps := ["self", "top", "bottom"]) 3 1 (by simp) rfl fun _ _ _ _ _ _ _ us its hu hi => match us, its, hu, hi with | [_, _, _], [_], _, _ => ⟨_, rfl, rfl⟩
  cases v2
  obtain ⟨dsS, vS, bSI1⟩ := F_SI.binds1 (ps := ["self", "top", "bottom"]) 2 0 (by simp) rfl fun _ _ _ _ _ _ _ us its hu hi => match us, its, hu, hi with | [_, _], [_], _, _ => ⟨_, rfl, rfl⟩
  obtain ⟨d3, v3, bWE⟩ := F_WE.binds1 (ps := ["self", "words"]) 2 1 (by simp) rfl fun _ _ _ _ _ _ _ us its hu hi => match us, its, hu, hi with | [_, _], [_], _, _ => ⟨_, rfl, rfl⟩
  cases v3
  have bn : Bn mg := ⟨PySem.W.mg_none_of X G n_isinstance, PySem.W.mg_none_of X G n_int, PySem.W.mg_none_of X G n_bool, PySem.W.mg_none_of X G n_abs, PySem.W.mg_none_of X G n_len, PySem.W.mg_none_of X G n_str, PySem.W.mg_none_of X G n_divmod, PySem.W.mg_none_of X G n_ValueError⟩
  have m_tuple := PySem.W.mg_none_of X G n_tuple
  have m_sum := PySem.W.mg_none_of X G n_sum
  have m_all := PySem.W.mg_none_of X G n_all
  have m_range := PySem.W.mg_none_of X G n_range
  have m_list := PySem.W.mg_none_of X G n_list
  have m_max := PySem.W.mg_none_of X G n_max
  have it : InsT K C := ⟨⟨pg, hd, po, sa⟩, ha, hn, htk, hm, kit_sub u_int (by decide +kernel), kit_sub u_bool (by decide +kernel), kit_self K C,
    kit_from hd tC (l := [.type "int", .type "object"]) (by decide +kernel) (by decide +kernel), kit_from hd tC (l := [.type "bool", .type "int", .type "object"]) (by decide +kernel) (by decide +kernel), kit_from hd tC (l := [.type "NoneType", .type "object"]) (by decide +kernel) (by decide +kernel), kit_from hd tC (l := [.type "str", .type "object"]) (by decide +kernel) (by decide +kernel),
    kit_from hd tC (l := [.type "list", .type "object"]) (by decide +kernel) (by decide +kernel), kit_from hd tC (l := [.type "tuple", .type "object"]) (by decide +kernel) (by decide +kernel), kit_from hd tC (l := [.type "dict", .type "object"]) (by decide +kernel) (by decide +kernel)⟩
  have gB : mg "BadShare" = some (.ref B) := PySem.W.mg_of X G aB
  have gP : mg "BadSpread" = some (.ref BP) := PySem.W.mg_of X G aBP
  have gQ : mg "BadFactor" = some (.ref BQ) := PySem.W.mg_of X G aBQ
  have gW : mg "WalkError" = some (.ref W) := PySem.W.mg_of X G aW
  have T : ShT K mg C := { bn := bn, it := it, nT := nT, nB := nBm, g_gcd := PySem.W.mg_of X G aG, g_Share := PySem.W.mg_of X G aC }
  have tu : PySem.W.kitOne K (.ref C) (.type "tuple") = some false := kit_sub u_tuple (by decide +kernel)
  have own : OwnT K C f_eq := { q := ⟨a_eq, ne, hm, i_eq⟩, sint := u_int, sbool := u_bool, snon := u_NoneType, sstr := u_str, slst := u_list, stup := u_tuple, sdct := u_dict }
  have nt : NoTxt K C := ⟨u_str, u_bytes, u_bytearray⟩
  have OB : OexC K B := { cls := ⟨_, _, _, _, _, _, _, _, _, _, _, _, _, _, _, xB, rB⟩, sa := saB, exC := exB, tyC := tB, kC := kB }
  have OP : OexC K BP := { cls := ⟨_, _, _, _, _, _, _, _, _, _, _, _, _, _, _, xBP, rBP⟩, sa := saBP, exC := exBP, tyC := tBP, kC := kBP }
  have OQ : OexC K BQ := { cls := ⟨_, _, _, _, _, _, _, _, _, _, _, _, _, _, _, xBQ, rBQ⟩, sa := saBQ, exC := exBQ, tyC := tBQ, kC := kBQ }
  have x2 : TwT K mg BP BQ := ⟨PySem.W.exm_ref exBP hdBP tBP ssBP, PySem.W.exm_ref exBP hdBP tBP sQP, PySem.W.exm_ref exBQ hdBQ tBQ ssBQ, ⟨gaBP, ggBP, exBP, hdBP⟩, ⟨gaBQ, ggBQ, exBQ, hdBQ⟩, npP, nfQ, gP, gQ⟩
  have LA : ArL K C .Add "+" "add" f_add := ⟨rfl, sf, d_add, i_add⟩
  have RA : ArR K C "add" f_radd := ⟨e_add, i_radd, ⟨_, o_add⟩, PySem.F.fills_int_add, upC, u_int, _, PySem.F.slot_int_add, OA.dec_add⟩
  have LS : ArL K C .Sub "-" "sub" f_sub := ⟨rfl, sf, d_sub, i_sub⟩
  have RS : ArR K C "sub" f_rsub := ⟨e_sub, i_rsub, ⟨_, o_sub⟩, PySem.F.fills_int_sub, upC, u_int, _, PySem.F.slot_int_sub, OA.dec_sub⟩
  refine ⟨_, fun s v => .of_eq rfl, fun base _ _ => ok_law (C := C) (B := B) F_law ?_⟩
  have FnWE := ok_WE (P := l.prog) (w := w) (base := base) F_WE bn vV
  have cW : ClsFn K W (.type "type") "__init__" f_WE := ⟨rdW, gaW, fcW, k_WE⟩
  have Bt : BsT l.prog w K mg base B := { O := OB, nt := ntB, nb := nbB, gB := gB, made := ⟨_, _, a_BS, tfB, ok_BS F_BS gW cW FnWE bWE, b_BS⟩ }
  have TS : OneT l.prog w K mg base BP "BadSpread" "part" := { O := OP, nf := npP, gB := gP, made := ⟨_, _, a_BP, tfBP, ok_BSp F_BP gW cW FnWE bWE, b_BP⟩ }
  have TF : OneT l.prog w K mg base BQ "BadFactor" "factor" := { O := OQ, nf := nfQ, gB := gQ, made := ⟨_, _, a_BQ, tfBQ, ok_BF F_BQ gW cW FnWE bWE, b_BQ⟩ }
  have C_iw : Cal l.prog w K mg base 1 "is_whole" ["thing"] (spWhole K C) := ⟨_, _, PySem.W.mg_of X G a_iw, k_iw, ok_is_whole F_iw bn it, b_iw⟩
  have m : MkT l.prog w K mg base C B := { ex := ⟨_, _, _, ⟨mk, a_SI, i_SI, kc⟩, ok_SI F_SI T Bt C_iw, bSI2, vS, bSI1⟩, gS := T.g_Share }
  have q : EqT l.prog w K mg base C := ⟨_, _, own, ok_eq F_eq T C_iw, b_eq⟩
  have C_ish : Cal l.prog w K mg base 2 "is_share" ["thing"] (spIsShare K C) := ⟨_, _, PySem.W.mg_of X G a_ish, k_ish, ok_is_share F_ish T C_iw, b_ish⟩
  have C_sof : Cal l.prog w K mg base 6 "share_of" ["thing"] (spShareOf C) := ⟨_, _, PySem.W.mg_of X G a_sof, k_sof, ok_share_of F_sof T m, b_sof⟩
  have ls : LsT l.prog w K mg base C := ⟨_, _, ⟨a_less, i_less, k_less⟩, ok_sless F_less T C_sof, b_less⟩
  have FnAdd : FnOk l.prog w K mg base CX0 7 f_add _ ["self", "other"] (spAdd C) := ok_add F_add T m C_ish C_sof
  have adL : ArTL l.prog w K mg base C .Add "+" "add" 7 (spAdd C) := ⟨_, _, _, LA, RA, FnAdd, b_add⟩
  have ad : AddT l.prog w K mg base C := ⟨_, _, _, _, LA, RA, FnAdd, b_add, ok_radd F_radd C_iw adL, b_radd⟩
  have ng : NegT l.prog w K mg base C 6 (spNeg C) := ⟨_, _, a_neg, i_neg, ok_neg F_neg T m, b_neg⟩
  have sb : SubT l.prog w K mg base C := ⟨_, _, _, _, LS, RS, ok_sub F_sub C_ish adL ng, b_sub, ok_rsub F_rsub C_iw adL ng, b_rsub⟩
  have C_tot : Cal l.prog w K mg base 10 "total" ["row"] (spTotal K C) := ⟨_, _, PySem.W.mg_of X G a_tot, k_tot, ok_total F_tot m nt m_sum ad, b_tot⟩
  have C_f0 : Cal l.prog w K mg base 8 "is_from_zero" ["thing"] (spFrom0 K C) := ⟨_, _, PySem.W.mg_of X G a_f0, k_f0, ok_from0 F_f0 T C_ish C_sof ls, b_f0⟩
  have C_tu : Cal l.prog w K mg base 1 "is_tuple_of" ["many", "thing"] (spTupOf K C) := ⟨_, _, PySem.W.mg_of X G a_tu, k_tu, ok_tupOf F_tu T m_tuple tu, b_tu⟩
  have C_spr : Cal l.prog w K mg base 11 "is_spread" ["many", "thing"] (spSpread K C) := ⟨_, _, PySem.W.mg_of X G a_spr, k_spr, ok_spread F_spr m_all C_tu C_f0 C_tot q, b_spr⟩
  have C_any : Cal l.prog w K mg base 12 "is_any_spread" ["thing"] (spAny K C) := ⟨_, _, PySem.W.mg_of X G a_any, k_any, ok_any F_any T m_tuple tu C_spr, b_any⟩
  have pk : PkT l.prog w K mg base C BP BQ := ⟨_, _, PySem.W.mg_of X G a_pks, k_pks, ok_pickS F_pks T C_any C_f0 C_sof ls sb TS TF, b_pks⟩
  have C_pool : Cal l.prog w K mg base 1 "_law_pool" ["_law_script"] (spPool K) := ⟨_, _, PySem.W.mg_of X G a_pool, k_pool, ok_pool F_pool bn, b_pool⟩
  have C_draw : Cal l.prog w K mg base 1 "_law_draw" ["_law_pool_here", "_law_many"] spDraw := ⟨_, _, PySem.W.mg_of X G a_draw, k_draw, ok_draw F_draw bn, b_draw⟩
  have C_pick : Cal l.prog w K mg base 2 "_law_pick" ["_law_pool_here", "_law_things"] (spPick K) := ⟨_, _, PySem.W.mg_of X G a_pick, k_pick, ok_pick F_pick bn C_draw, b_pick⟩
  have C_pickL : Cal l.prog w K mg base 2 "_law_pick" ["_law_pool_here", "_law_things"] (spPickL K) := ⟨_, _, PySem.W.mg_of X G a_pick, k_pick, ok_pickL F_pick bn C_draw, b_pick⟩
  have C_num : Cal l.prog w K mg base 1 "_law_number" ["_law_thing"] (spWhole K C) := ⟨_, _, PySem.W.mg_of X G a_num, k_num, ok_number F_num bn it, b_num⟩
  have C_divi : Cal l.prog w K mg base 1 "_law_divisor" ["_law_one", "_law_other"] spDivi := ⟨_, _, PySem.W.mg_of X G a_divi, k_divi, ok_divi F_divi bn, b_divi⟩
  have C_part : Cal l.prog w K mg base 2 "_law_part" ["_law_top", "_law_bottom"] spPart := ⟨_, _, PySem.W.mg_of X G a_part, k_part, ok_part F_part C_divi, b_part⟩
  have C_plus : Cal l.prog w K mg base 3 "_law_plus" ["_law_one", "_law_other"] spPlus := ⟨_, _, PySem.W.mg_of X G a_plus, k_plus, ok_plus F_plus C_part, b_plus⟩
  have C_own : Cal l.prog w K mg base 2 "_law_own" ["_law_thing"] (spOwnP K C) := ⟨_, _, PySem.W.mg_of X G a_own, k_own, ok_own F_own T C_num, b_own⟩
  have C_tops : Cal l.prog w K mg base 2 "_law_tops" ["_law_pool_here"] spTops := ⟨_, _, PySem.W.mg_of X G a_tops, k_tops, ok_tops F_tops m_range m_sum C_draw, b_tops⟩
  have C_hand : Cal l.prog w K mg base 6 "_law_handed" ["_law_pool_here", "_law_part_here"] (spHanded C) := ⟨_, _, PySem.W.mg_of X G a_hand, k_hand, ok_handed F_hand m C_draw, b_hand⟩
  have C_lsp : Cal l.prog w K mg base 4 "_law_is_spread" ["_law_many", "_law_thing"] (spSpread K C) := ⟨_, _, PySem.W.mg_of X G a_lsp, k_lsp, ok_lspread F_lsp T m_tuple tu C_own C_plus, b_lsp⟩
  have C_spo : Cal l.prog w K mg base 10 "_law_spoiled" ["_law_pool_here", "_law_items"] (spSpoiled K C) := ⟨_, _, PySem.W.mg_of X G a_spo, k_spo, ok_spoiled F_spo T m m_range m_list m_tuple ad sb q C_draw C_pick C_pickL, b_spo⟩
  have C_jud : Cal l.prog w K mg base 12 "_law_judged" ["_law_many", "_law_thing"] (spJudged K C) := ⟨_, _, PySem.W.mg_of X G a_jud, k_jud, ok_judged F_jud T C_spr C_lsp, b_jud⟩
  have C_pkd : Cal l.prog w K mg base 14 "_law_picked" ["_law_thing", "_law_share"] (spPicked K C) := ⟨_, _, PySem.W.mg_of X G a_pkd, k_pkd, ok_picked F_pkd pk x2, b_pkd⟩
  have C_rig : Cal l.prog w K mg base 15 "_law_right_places" ["_law_tops_here", "_law_items"] (spRight K C) := ⟨_, _, PySem.W.mg_of X G a_rig, k_rig, ok_right F_rig T m m_range m_sum C_pkd C_num, b_rig⟩
  exact ⟨T, m, m_range, m_tuple, m_sum, m_max, tu, q, C_pool, C_tops, C_part, C_hand, C_own, C_jud, C_spr, C_lsp, C_rig, C_spo, C_pkd⟩
end
theorem walk {l : PySem.W.OpenLaw} {q : Program} {loose : List Str} {XP : (Str → Option Value) → Heap → Prop} {YP : World → Heap → Prop} {d : DefRec} {K : Params → PySem.W.Frag} (hn : l.most = some 63) (hdf : d.params.defaults = [])
    (hY : ∀ (w : World) (h : Heap), YP w h → (K w.params).In h)
    (F : ∀ (w : World) (mg : Str → Option Value) (fa : Addr) (h : Heap), (K w.params).In h → h.Ns mainGlobals mg → mg d.name = some (.ref fa) →
      ∃ fd : FuncData, (∀ (s : Shared) (u : Value), BindsTo s fd ⟨[u], []⟩ [("_law_script", u)]) ∧ ∀ base : Heap, (K w.params).In base → base.Ns mainGlobals mg → FnOk l.prog w (K w.params) mg base CX0 16 fa fd ["_law_script"] (spLaw (K w.params))) :
    PySem.W.WalkO q loose XP YP l.row.toRowW d [] (fun f vs => PySem.call f vs) :=
  L2.walk_of (n := 63) (k := 16) (x := "_law_script") (CX := fun _ => CX0) (sp := fun w => spLaw (K w.params)) hn (by decide) hdf ⟨rfl, by decide, by decide⟩ hY F (fun _ _ a ns hl _ hS => ⟨a, ns, rfl, hS, hl, fun _ => rfl⟩) fun _ _ _ _ _ z => z
end K3

set_option Elab.async false
set_option maxRecDepth 100000
open PySem PySem.W PyProof.Rows
set_option maxRecDepth 100000
set_option maxHeartbeats 0
open_top head3 for PySem.Challenge.rw_bothwalks_k03_spreads_and_the_place_of_a

set_option Elab.async false
set_option maxRecDepth 100000
set_option maxHeartbeats 0
open PySem PySem.W PyProof.Rows
theorem PySem.Challenge.cw_bothwalks_k03_spreads_and_the_place_of_a_holds : PySem.Challenge.rw_bothwalks_k03_spreads_and_the_place_of_a.Holds := by
  refine head3 ?_
  k_fill
  refine K3.walk (l := PySem.Challenge.rw_bothwalks_k03_spreads_and_the_place_of_a) rfl rfl (fun w h Y => PySem.W.kIn_of Y) ?F
  case F =>
    intro w mg fa h KX G hmg
    refine' K3.all_mk KX G hmg ?aC ?aB ?aBP ?aBQ ?aW ?aG ?n_isinstance ?n_int ?n_bool ?n_abs ?n_len ?n_str ?n_divmod ?n_ValueError ?n_tuple ?n_sum ?n_all ?n_range ?n_list ?n_max ?a_WE ?l_WE ?c_WE ?k_WE ?a_BS ?l_BS ?c_BS ?k_BS ?a_BP ?l_BP ?c_BP ?k_BP ?a_BQ ?l_BQ ?c_BQ ?k_BQ ?a_iw ?l_iw ?c_iw ?k_iw ?a_tu ?l_tu ?c_tu ?k_tu ?a_SI ?l_SI ?c_SI ?k_SI ?a_add ?l_add ?c_add ?k_add ?a_radd ?l_radd ?c_radd ?k_radd ?a_neg ?l_neg ?c_neg ?k_neg ?a_sub ?l_sub ?c_sub ?k_sub ?a_rsub ?l_rsub ?c_rsub ?k_rsub ?a_eq ?l_eq ?c_eq ?k_eq ?a_less ?l_less ?c_less ?k_less ?a_ish ?l_ish ?c_ish ?k_ish ?a_sof ?l_sof ?c_sof ?k_sof ?a_tot ?l_tot ?c_tot ?k_tot ?a_f0 ?l_f0 ?c_f0 ?k_f0 ?a_spr ?l_spr ?c_spr ?k_spr ?a_any ?l_any ?c_any ?k_any ?a_pks ?l_pks ?c_pks ?k_pks ?a_pool ?l_pool ?c_pool ?k_pool ?a_draw ?l_draw ?c_draw ?k_draw ?a_pick ?l_pick ?c_pick ?k_pick ?a_num ?l_num ?c_num ?k_num ?a_divi ?l_divi ?c_divi ?k_divi ?a_part ?l_part ?c_part ?k_part ?a_plus ?l_plus ?c_plus ?k_plus ?a_own ?l_own ?c_own ?k_own ?a_tops ?l_tops ?c_tops ?k_tops ?a_hand ?l_hand ?c_hand ?k_hand ?a_lsp ?l_lsp ?c_lsp ?k_lsp ?a_spo ?l_spo ?c_spo ?k_spo ?a_jud ?l_jud ?c_jud ?k_jud ?a_pkd ?l_pkd ?c_pkd ?k_pkd ?a_rig ?l_rig ?c_rig ?k_rig ?a_law ?l_law ?c_law ?k_law ?dSI ?dWE ?pg ?hd ?po ?sa ?mk ?kc ?tC ?nT ?nBm ?ha ?hn ?htk ?hm ?ne ?sf ?u_int ?u_bool ?u_NoneType ?u_str ?u_list ?u_tuple ?u_dict ?u_bytes ?u_bytearray ?upC ?d_add ?e_add ?o_add ?d_sub ?e_sub ?o_sub ?i_SI ?i_eq ?i_add ?i_radd ?i_neg ?i_sub ?i_rsub ?i_less ?xB ?rB ?saB ?exB ?tB ?kB ?tfB ?hdB ?xBP ?rBP ?saBP ?exBP ?tBP ?kBP ?tfBP ?hdBP ?xBQ ?rBQ ?saBQ ?exBQ ?tBQ ?kBQ ?tfBQ ?hdBQ ?ntB ?nbB ?npP ?nfQ ?gaBP ?ggBP ?ssBP ?gaBQ ?ggBQ ?ssBQ ?sQP ?rdW ?gaW ?fcW ?vV
    (case aC => k_is)
    (case aB => k_is)
    (case aBP => k_is)
    (case aBQ => k_is)
    (case aW => k_is)
    (case aG => k_is)
    (case n_isinstance => k_is)
    (case n_int => k_is)
    (case n_bool => k_is)
    (case n_abs => k_is)
    (case n_len => k_is)
    (case n_str => k_is)
    (case n_divmod => k_is)
    (case n_ValueError => k_is)
    (case n_tuple => k_is)
    (case n_sum => k_is)
    (case n_all => k_is)
    (case n_range => k_is)
    (case n_list => k_is)
    (case n_max => k_is)
    (case a_WE => k_is)
    (case l_WE => k_is)
    (case c_WE => k_is)
    (case k_WE => k_is)
    (case a_BS => k_is)
    (case l_BS => k_is)
    (case c_BS => k_is)
    (case k_BS => k_is)
    (case a_BP => k_is)
    (case l_BP => k_is)
    (case c_BP => k_is)
    (case k_BP => k_is)
    (case a_BQ => k_is)
    (case l_BQ => k_is)
    (case c_BQ => k_is)
    (case k_BQ => k_is)
    (case a_iw => k_is)
    (case l_iw => k_is)
    (case c_iw => k_is)
    (case k_iw => k_is)
    (case a_tu => k_is)
    (case l_tu => k_is)
    (case c_tu => k_is)
    (case k_tu => k_is)
    (case a_SI => k_is)
    (case l_SI => k_is)
    (case c_SI => k_is)
    (case k_SI => k_is)
    (case a_add => k_is)
    (case l_add => k_is)
    (case c_add => k_is)
    (case k_add => k_is)
    (case a_radd => k_is)
    (case l_radd => k_is)
    (case c_radd => k_is)
    (case k_radd => k_is)
    (case a_neg => k_is)
    (case l_neg => k_is)
    (case c_neg => k_is)
    (case k_neg => k_is)
    (case a_sub => k_is)
    (case l_sub => k_is)
    (case c_sub => k_is)
    (case k_sub => k_is)
    (case a_rsub => k_is)
    (case l_rsub => k_is)
    (case c_rsub => k_is)
    (case k_rsub => k_is)
    (case a_eq => k_is)
    (case l_eq => k_is)
    (case c_eq => k_is)
    (case k_eq => k_is)
    (case a_less => k_is)
    (case l_less => k_is)
    (case c_less => k_is)
    (case k_less => k_is)
    (case a_ish => k_is)
    (case l_ish => k_is)
    (case c_ish => k_is)
    (case k_ish => k_is)
    (case a_sof => k_is)
    (case l_sof => k_is)
    (case c_sof => k_is)
    (case k_sof => k_is)
    (case a_tot => k_is)
    (case l_tot => k_is)
    (case c_tot => k_is)
    (case k_tot => k_is)
    (case a_f0 => k_is)
    (case l_f0 => k_is)
    (case c_f0 => k_is)
    (case k_f0 => k_is)
    (case a_spr => k_is)
    (case l_spr => k_is)
    (case c_spr => k_is)
    (case k_spr => k_is)
    (case a_any => k_is)
    (case l_any => k_is)
    (case c_any => k_is)
    (case k_any => k_is)
    (case a_pks => k_is)
    (case l_pks => k_is)
    (case c_pks => k_is)
    (case k_pks => k_is)
    (case a_pool => k_is)
    (case l_pool => k_is)
    (case c_pool => k_is)
    (case k_pool => k_is)
    (case a_draw => k_is)
    (case l_draw => k_is)
    (case c_draw => k_is)
    (case k_draw => k_is)
    (case a_pick => k_is)
    (case l_pick => k_is)
    (case c_pick => k_is)
    (case k_pick => k_is)
    (case a_num => k_is)
    (case l_num => k_is)
    (case c_num => k_is)
    (case k_num => k_is)
    (case a_divi => k_is)
    (case l_divi => k_is)
    (case c_divi => k_is)
    (case k_divi => k_is)
    (case a_part => k_is)
    (case l_part => k_is)
    (case c_part => k_is)
    (case k_part => k_is)
    (case a_plus => k_is)
    (case l_plus => k_is)
    (case c_plus => k_is)
    (case k_plus => k_is)
    (case a_own => k_is)
    (case l_own => k_is)
    (case c_own => k_is)
    (case k_own => k_is)
    (case a_tops => k_is)
    (case l_tops => k_is)
    (case c_tops => k_is)
    (case k_tops => k_is)
    (case a_hand => k_is)
    (case l_hand => k_is)
    (case c_hand => k_is)
    (case k_hand => k_is)
    (case a_lsp => k_is)
    (case l_lsp => k_is)
    (case c_lsp => k_is)
    (case k_lsp => k_is)
    (case a_spo => k_is)
    (case l_spo => k_is)
    (case c_spo => k_is)
    (case k_spo => k_is)
    (case a_jud => k_is)
    (case l_jud => k_is)
    (case c_jud => k_is)
    (case k_jud => k_is)
    (case a_pkd => k_is)
    (case l_pkd => k_is)
    (case c_pkd => k_is)
    (case k_pkd => k_is)
    (case a_rig => k_is)
    (case l_rig => k_is)
    (case c_rig => k_is)
    (case k_rig => k_is)
    (case a_law => k_is)
    (case l_law => k_is)
    (case c_law => k_is)
    (case k_law => k_is)
    (case dSI => k_is)
    (case dWE => k_is)
    (case pg => k_is)
    (case hd => k_is)
    (case po => k_is)
    (case sa => k_is)
    (case mk => k_is)
    (case kc => k_is)
    (case tC => k_is)
    (case nT => k_is)
    (case nBm => k_is)
    (case ha => k_is)
    (case hn => k_is)
    (case htk => k_is)
    (case hm => k_is)
    (case ne => k_is)
    (case sf => k_is)
    (case u_int => k_is)
    (case u_bool => k_is)
    (case u_NoneType => k_is)
    (case u_str => k_is)
    (case u_list => k_is)
    (case u_tuple => k_is)
    (case u_dict => k_is)
    (case u_bytes => k_is)
    (case u_bytearray => k_is)
    (case upC => k_is)
    (case d_add => k_is)
    (case e_add => k_is)
    (case o_add => k_is)
    (case d_sub => k_is)
    (case e_sub => k_is)
    (case o_sub => k_is)
    (case i_SI => k_is)
    (case i_eq => k_is)
    (case i_add => k_is)
    (case i_radd => k_is)
    (case i_neg => k_is)
    (case i_sub => k_is)
    (case i_rsub => k_is)
    (case i_less => k_is)
    (case xB => k_is)
    (case rB => first | rfl | decide +kernel | k_is)
    (case saB => k_is)
    (case exB => k_is)
    (case tB => k_is)
    (case kB => k_is)
    (case tfB => k_is)
    (case hdB => k_is)
    (case xBP => k_is)
    (case rBP => first | rfl | decide +kernel | k_is)
    (case saBP => k_is)
    (case exBP => k_is)
    (case tBP => k_is)
    (case kBP => k_is)
    (case tfBP => k_is)
    (case hdBP => k_is)
    (case xBQ => k_is)
    (case rBQ => first | rfl | decide +kernel | k_is)
    (case saBQ => k_is)
    (case exBQ => k_is)
    (case tBQ => k_is)
    (case kBQ => k_is)
    (case tfBQ => k_is)
    (case hdBQ => k_is)
    (case ntB => k_is)
    (case nbB => k_is)
    (case npP => k_is)
    (case nfQ => k_is)
    (case gaBP => k_is)
    (case ggBP => k_is)
    (case ssBP => first | rfl | k_is)
    (case gaBQ => k_is)
    (case ggBQ => k_is)
    (case ssBQ => first | rfl | k_is)
    (case sQP => first | rfl | k_is)
    (case rdW => k_is)
    (case gaW => k_is)
    (case fcW => k_is)
    (case vV => k_is)


import PyProof.Rows.All
import Wide.All
import OpenK.AllK
import Wide.FinOn
import PyProof.EqAt
import PyProof.EqKinds
import PyProof.NeKinds
import PyProof.TupleCall
import HandS.OwnEq
import HandS.IsInst
import HandS.ForMost
import HandS.ForExc
import HandS.ExcInit
import HandS.ExcField
import HandS.ExcIs
import HandS.Gcd
import HandS.FStr
import HandS.Wide
import HandS.WideBits
import HandS.Star
import HandS.EndBits
import HandS.ClsMeth
import PySem.Challenge.RW_bothwalks_k00_a_share_is_in_lowest_terms
import HandS.Defaults
import HandS.Style
import HandS.Codes
import KE.KCallOwn
set_option Elab.async false
set_option linter.all false
set_option maxRecDepth 100000
set_option maxHeartbeats 4000000
/-! == and != where one side is an instance of an own class with an own __eq__ -/
namespace OC
open PySem PySem.SeqAt PySem.W
open AutoSeq1 (wpAny_loadPart')
open MeetsSeq MeetsSeq2 MeetsSeq3 SeqRoads2

def Is2 (op : CmpOp) : Prop := op = .Eq ∨ op = .NotEq

section
variable {prog : Program} {w : World} {A : Around} {E : Value → Shared → Prop} {s : Shared} {K : Frag} {x C f : Addr} {ox : Obj} {od : Option Obj}

/-- the built-in's own comparison hands back NotImplemented: nothing is known of it, nothing has changed -/
def Decl (prog : Program) (w : World) (A : Around) (s : Shared) (op : CmpOp) (a b : Value) : Prop :=
  ∀ (Q : Option Value → Shared → Prop) (E : Value → Shared → Prop), Q none s → wpAny (model prog w) A (tryCompare a (cmpInfo op).2.1 b) Q E s

theorem int_ref_eq (b : Int) (u : Tok) {o : Obj} (hd : o.data = .plain) (l : Addr) :
    Meets (Builtin.«int.__eq__» ⟨[.int b u, .ref l], []⟩) (fun _ R s => s.heap.get? l = some o ∧ R (.ok (.ret .notImplemented)) s) :=
  .of_wp fun prog w A R s h => by obtain ⟨cls, dd, data, sl⟩ := o; obtain ⟨hp, g, d, tk, os⟩ := s; obtain ⟨hl, h⟩ := h; simp only at hd; subst hd; wp_walk using wpAny_loadPart' hl, wpAny_load hl; exact ⟨_, rfl, h⟩
theorem int_ref_ne (b : Int) (u : Tok) {o : Obj} (hd : o.data = .plain) (l : Addr) :
    Meets (Builtin.«int.__ne__» ⟨[.int b u, .ref l], []⟩) (fun _ R s => s.heap.get? l = some o ∧ R (.ok (.ret .notImplemented)) s) :=
  .of_wp fun prog w A R s h => by obtain ⟨cls, dd, data, sl⟩ := o; obtain ⟨hp, g, d, tk, os⟩ := s; obtain ⟨hl, h⟩ := h; simp only at hd; subst hd; wp_walk using wpAny_loadPart' hl, wpAny_load hl; exact ⟨_, rfl, h⟩
theorem bool_ref_eq (b : Bool) {o : Obj} (hd : o.data = .plain) (l : Addr) :
    Meets (Builtin.«int.__eq__» ⟨[.bool b, .ref l], []⟩) (fun _ R s => s.heap.get? l = some o ∧ R (.ok (.ret .notImplemented)) s) :=
  .of_wp fun prog w A R s h => by obtain ⟨cls, dd, data, sl⟩ := o; obtain ⟨hp, g, d, tk, os⟩ := s; obtain ⟨hl, h⟩ := h; simp only at hd; subst hd; wp_walk using wpAny_loadPart' hl, wpAny_load hl; exact ⟨_, rfl, h⟩
theorem bool_ref_ne (b : Bool) {o : Obj} (hd : o.data = .plain) (l : Addr) :
    Meets (Builtin.«int.__ne__» ⟨[.bool b, .ref l], []⟩) (fun _ R s => s.heap.get? l = some o ∧ R (.ok (.ret .notImplemented)) s) :=
  .of_wp fun prog w A R s h => by obtain ⟨cls, dd, data, sl⟩ := o; obtain ⟨hp, g, d, tk, os⟩ := s; obtain ⟨hl, h⟩ := h; simp only at hd; subst hd; wp_walk using wpAny_loadPart' hl, wpAny_load hl; exact ⟨_, rfl, h⟩
theorem str_ref_eq (b : Str) (u : Tok) {o : Obj} (hd : o.data = .plain) (l : Addr) :
    Meets (Builtin.«str.__eq__» ⟨[.str b u, .ref l], []⟩) (fun _ R s => s.heap.get? l = some o ∧ R (.ok (.ret .notImplemented)) s) :=
  .of_wp fun prog w A R s h => by obtain ⟨cls, dd, data, sl⟩ := o; obtain ⟨hp, g, d, tk, os⟩ := s; obtain ⟨hl, h⟩ := h; simp only at hd; subst hd; wp_walk using wpAny_loadPart' hl, wpAny_load hl; exact ⟨_, rfl, h⟩
theorem str_ref_ne (b : Str) (u : Tok) {o : Obj} (hd : o.data = .plain) (l : Addr) :
    Meets (Builtin.«str.__ne__» ⟨[.str b u, .ref l], []⟩) (fun _ R s => s.heap.get? l = some o ∧ R (.ok (.ret .notImplemented)) s) :=
  .of_wp fun prog w A R s h => by obtain ⟨cls, dd, data, sl⟩ := o; obtain ⟨hp, g, d, tk, os⟩ := s; obtain ⟨hl, h⟩ := h; simp only at hd; subst hd; wp_walk using wpAny_loadPart' hl, wpAny_load hl; exact ⟨_, rfl, h⟩

theorem decl_int {op : CmpOp} (ho : Is2 op) (b : Int) (u : Tok) (hx : s.heap.get? x = some ox) (hd : ox.data = .plain) : Decl prog w A s op (.int b u) (.ref x) := fun Q E hq => by
  rcases ho with rfl | rfl
  · exact wpAny_tryCompare_declines (typeIs_int s b u) F.slot_int_eq (call_meets F.slot_int_eq (typeIs_int s b u) F.entry_int_eq (F.args_int_eq_2 _ _) (int_ref_eq b u hd x) ⟨hx, rfl, hq⟩)
  · exact wpAny_tryCompare_declines (typeIs_int s b u) F.slot_int_ne (call_meets F.slot_int_ne (typeIs_int s b u) F.entry_int_ne (F.args_int_ne_2 _ _) (int_ref_ne b u hd x) ⟨hx, rfl, hq⟩)
theorem decl_bool {op : CmpOp} (ho : Is2 op) (b : Bool) (hx : s.heap.get? x = some ox) (hd : ox.data = .plain) : Decl prog w A s op (.bool b) (.ref x) := fun Q E hq => by
  rcases ho with rfl | rfl
  · exact wpAny_tryCompare_declines (T := "bool") rfl F.slot_bool_eq (call_meets F.slot_bool_eq rfl F.entry_int_eq (F.args_int_eq_2 _ _) (bool_ref_eq b hd x) ⟨hx, rfl, hq⟩)
  · exact wpAny_tryCompare_declines (T := "bool") rfl F.slot_bool_ne (call_meets F.slot_bool_ne rfl F.entry_int_ne (F.args_int_ne_2 _ _) (bool_ref_ne b hd x) ⟨hx, rfl, hq⟩)
theorem decl_str {op : CmpOp} (ho : Is2 op) (b : Str) (u : Tok) (hx : s.heap.get? x = some ox) (hd : ox.data = .plain) : Decl prog w A s op (.str b u) (.ref x) := fun Q E hq => by
  rcases ho with rfl | rfl
  · exact wpAny_tryCompare_declines (typeIs_str s b u) F.slot_str_eq (call_meets F.slot_str_eq (typeIs_str s b u) F.entry_str_eq (F.args_str_eq_2 _ _) (str_ref_eq b u hd x) ⟨hx, rfl, hq⟩)
  · exact wpAny_tryCompare_declines (typeIs_str s b u) F.slot_str_ne (call_meets F.slot_str_ne (typeIs_str s b u) F.entry_str_ne (F.args_str_ne_2 _ _) (str_ref_ne b u hd x) ⟨hx, rfl, hq⟩)
theorem decl_none {op : CmpOp} (ho : Is2 op) : Decl prog w A s op .none (.ref x) := fun Q E hq => by
  rcases ho with rfl | rfl
  · exact wpAny_tryCompare_declines (T := "NoneType") rfl F.slot_NoneType_eq (call_gives F.slot_NoneType_eq rfl F.entry_NoneType_eq (F.args_NoneType_eq_2 _ _) (NoneType___eq___none_ref_0 x) ⟨rfl, hq⟩)
  · exact wpAny_tryCompare_declines (T := "NoneType") rfl F.slot_NoneType_ne (call_gives F.slot_NoneType_ne rfl F.entry_NoneType_ne (F.args_NoneType_ne_2 _ _) (NoneType___ne___none_ref_0 x) ⟨rfl, hq⟩)
end
end OC

set_option Elab.async false
set_option linter.all false
set_option maxRecDepth 100000
set_option maxHeartbeats 4000000
namespace OC
open PySem PySem.SeqAt PySem.W
open AutoSeq1 (wpAny_loadPart')
open MeetsSeq MeetsSeq2 MeetsSeq3 SeqRoads2
section
variable {prog : Program} {w : World} {A : Around} {E : Value → Shared → Prop} {s : Shared} {K : Frag} {x C f : Addr} {ox : Obj} {od : Option Obj}

theorem not_inst {M : Model} {h : Heap} {T : String} (X : K.In h) (I : InstAt h x ox C od) (hn : subIn K (.ref C) (.type T) = some false) : Looks M h (isInstance (.ref x) (.type T)) false :=
  I.type.andThen (looks_subIn X hn)

theorem tup_ref_eq (l : Addr) (items : Array Value) (n : Nat) (dd : Option Addr) (sl : Array (Option Value)) (x : Addr) :
    Meets (Builtin.«tuple.__eq__» ⟨[.ref l, .ref x], []⟩) (fun _ R s => (∀ M : Model, Looks M s.heap (isInstance (.ref x) (.type "tuple")) false) ∧ s.heap.get? l = some { cls := .type "tuple", dict := dd, data := .seq items n, slots := sl } ∧ R (.ok (.ret .notImplemented)) s) :=
  .of_wp fun prog w A R s h => by
    obtain ⟨hp, g, d, tk, os⟩ := s; obtain ⟨L0, hl, h⟩ := h
    have L := L0 (model prog w)
    unfold Builtin.«tuple.__eq__»
    repeat (first | with_reducible refine L.at ?_ | (refine wpAny_bind (m := isInstance (.ref x) (.type "tuple")) (L.at ?_)) | wp_step)
    exact ⟨_, rfl, h⟩
theorem tup_ref_ne (l : Addr) (items : Array Value) (n : Nat) (dd : Option Addr) (sl : Array (Option Value)) (x : Addr) :
    Meets (Builtin.«tuple.__ne__» ⟨[.ref l, .ref x], []⟩) (fun _ R s => (∀ M : Model, Looks M s.heap (isInstance (.ref x) (.type "tuple")) false) ∧ s.heap.get? l = some { cls := .type "tuple", dict := dd, data := .seq items n, slots := sl } ∧ R (.ok (.ret .notImplemented)) s) :=
  .of_wp fun prog w A R s h => by
    obtain ⟨hp, g, d, tk, os⟩ := s; obtain ⟨L0, hl, h⟩ := h
    have L := L0 (model prog w)
    unfold Builtin.«tuple.__ne__»
    repeat (first | with_reducible refine L.at ?_ | (refine wpAny_bind (m := isInstance (.ref x) (.type "tuple")) (L.at ?_)) | wp_step)
    exact ⟨_, rfl, h⟩
theorem list_ref_eq (l : Addr) (items : Array Value) (n : Nat) (dd : Option Addr) (sl : Array (Option Value)) (x : Addr) :
    Meets (Builtin.«list.__eq__» ⟨[.ref l, .ref x], []⟩) (fun _ R s => (∀ M : Model, Looks M s.heap (isInstance (.ref x) (.type "list")) false) ∧ s.heap.get? l = some { cls := .type "list", dict := dd, data := .seq items n, slots := sl } ∧ R (.ok (.ret .notImplemented)) s) :=
  .of_wp fun prog w A R s h => by
    obtain ⟨hp, g, d, tk, os⟩ := s; obtain ⟨L0, hl, h⟩ := h
    have L := L0 (model prog w)
    unfold Builtin.«list.__eq__»
    repeat (first | with_reducible refine L.at ?_ | (refine wpAny_bind (m := isInstance (.ref x) (.type "list")) (L.at ?_)) | wp_step)
    exact ⟨_, rfl, h⟩
theorem list_ref_ne (l : Addr) (items : Array Value) (n : Nat) (dd : Option Addr) (sl : Array (Option Value)) (x : Addr) :
    Meets (Builtin.«list.__ne__» ⟨[.ref l, .ref x], []⟩) (fun _ R s => (∀ M : Model, Looks M s.heap (isInstance (.ref x) (.type "list")) false) ∧ s.heap.get? l = some { cls := .type "list", dict := dd, data := .seq items n, slots := sl } ∧ R (.ok (.ret .notImplemented)) s) :=
  .of_wp fun prog w A R s h => by
    obtain ⟨hp, g, d, tk, os⟩ := s; obtain ⟨L0, hl, h⟩ := h
    have L := L0 (model prog w)
    unfold Builtin.«list.__ne__»
    repeat (first | with_reducible refine L.at ?_ | (refine wpAny_bind (m := isInstance (.ref x) (.type "list")) (L.at ?_)) | wp_step)
    exact ⟨_, rfl, h⟩
theorem dict_ref_eq (l : Addr) (x : Addr) {o : Obj} (ho : o.ExactDict) :
    Meets (Builtin.«dict.__eq__» ⟨[.ref l, .ref x], []⟩) (fun _ R s => (∀ M : Model, Looks M s.heap (isInstance (.ref x) (.type "dict")) false) ∧ s.heap.get? l = some o ∧ R (.ok (.ret .notImplemented)) s) :=
  .of_wp fun prog w A R s h => by
    obtain ⟨hp, g, d, tk, os⟩ := s; obtain ⟨L0, hl, h⟩ := h
    have L := L0 (model prog w)
    show wpAny _ _ (Builtin.Dict.dictSlotArgs "__eq__" ⟨[.ref l, .ref x], []⟩ >>= _) _ _ _
    repeat (first | with_reducible refine L.at ?_ | (refine wpAny_bind (m := isInstance (.ref x) (.type "dict")) (L.at ?_)) | wp_step)
    exact ⟨_, rfl, h⟩
theorem dict_ref_ne (l : Addr) (x : Addr) {o : Obj} (ho : o.ExactDict) :
    Meets (Builtin.«dict.__ne__» ⟨[.ref l, .ref x], []⟩) (fun _ R s => (∀ M : Model, Looks M s.heap (isInstance (.ref x) (.type "dict")) false) ∧ s.heap.get? l = some o ∧ R (.ok (.ret .notImplemented)) s) :=
  .of_wp fun prog w A R s h => by
    obtain ⟨hp, g, d, tk, os⟩ := s; obtain ⟨L0, hl, h⟩ := h
    have L := L0 (model prog w)
    show wpAny _ _ (Builtin.Dict.dictSlotArgs "__ne__" ⟨[.ref l, .ref x], []⟩ >>= _) _ _ _
    repeat (first | with_reducible refine L.at ?_ | (refine wpAny_bind (m := isInstance (.ref x) (.type "dict")) (L.at ?_)) | wp_step)
    exact ⟨_, rfl, h⟩
end
end OC

set_option Elab.async false
set_option linter.all false
set_option maxRecDepth 100000
set_option maxHeartbeats 4000000
namespace OC
open PySem PySem.SeqAt PySem.W Builtin
open AutoSeq1 (wpAny_loadPart')
open MeetsSeq MeetsSeq2 MeetsSeq3 SeqRoads2
section
variable {prog : Program} {w : World} {A : Around} {E : Value → Shared → Prop} {s : Shared} {K : Frag} {x C f : Addr} {ox : Obj} {od : Option Obj} {y : Value}

/-- what the own __eq__ hands back, turned for != -/
def turn (op : CmpOp) (b : Bool) : Bool := match op with | .Eq => b | _ => !b

/-- the class: its own __eq__ at f, its __ne__ is object's -/
structure OwnQ (K : Frag) (C f : Addr) : Prop where
  eq : findIn K (.ref C) "__eq__" = some (some (.ref f))
  ne : findIn K (.ref C) "__ne__" = some (some (.builtin "object.__ne__"))
  ob : mroIn K C (.type "object") = some true
  fn : isFn K (.ref f) = true

theorem ifBound_objNe {M : Model} {args : List Value} {Q : Option Value → Shared → Prop} (X : K.In s.heap) (I : InstAt s.heap x ox C od) (hs : findIn K (.ref C) "__ne__" = some (some (.builtin "object.__ne__")))
    (h : wpAny M A (call (.builtin "object.__ne__") (.ref x :: args)) (fun v => Q (some v)) E s) : wpAny M A (callSpecialIfBound? (.ref x) "__ne__" args) Q E s := by
  simp only [callSpecialIfBound?, bindSpecialIfBound?]
  refine wpAny_holding (wpAny_bind (wpAny_bind (wpAny_bind (I.type.here ((looks_findIn X hs).here ?_)))))
  refine wpAny_bind (wpAny_askSetting (wpAny_ite ?_))
  have fin : wpAny M A (call (.builtin "object.__ne__") ([.ref x] ++ args) >>= fun v => pure (some v)) Q E s := wpAny_bind (wpAny_mono h (fun v s' h' => wpAny_pure h') fun _ _ h' => h')
  split
  · exact wpAny_bind (wpAny_of_eq (F.cmp_object.ne.bind _) (wpAny_pure (by exact fin)))
  · exact wpAny_tryCatch (wpAny_bind (wpAny_of_eq (F.cmp_object.ne.bind _) (wpAny_pure (by exact fin))))

theorem ne_entry {Q : Fin → Shared → Prop} (hu : A.units < cLine) (X : K.In s.heap) (I : InstAt s.heap x ox C od) (O : OwnQ K C f)
    (h : wpAny (model prog w) A (call (.ref f) [.ref x, y]) (fun v s' => ∃ b, v = .bool b ∧ Q (.done (.ret (.bool (!b)))) s') E s) :
    wpAny (model prog w) A (Builtin.«object.__ne__» ⟨[.ref x, y], []⟩) Q E s := by
  obtain ⟨hp, g, d, t, os⟩ := s
  unfold Builtin.«object.__ne__»
  repeat (first
    | with_reducible refine wpAny_cRoomFor hu ?_
    | (refine wpAny_bind (m := callSpecialIfBound? (.ref x) (Str.ofString "__eq__") [y])
        (ifBound_K X I O.eq O.fn (wpAny_mono h (fun r s' hr => by
          obtain ⟨b, rfl, hq⟩ := hr
          repeat (first | exact hq | exact wpAny_pure hq | exact wpAny_truthy_bool hq | (refine wpAny_bind (m := truthy (.bool _)) (wpAny_truthy_bool ?_)) | wp_step)) fun _ _ e => e)))
    | wp_step)

theorem own_try {op : CmpOp} {Q : Value → Shared → Prop} (ho : Is2 op) (hu : A.units + 1 < cLine) (X : K.In s.heap) (I : InstAt s.heap x ox C od) (O : OwnQ K C f)
    (h : ∀ A' : Around, A' = A ∨ A' = A.in1 → wpAny (model prog w) A' (call (.ref f) [.ref x, y]) (fun v s' => ∃ b, v = .bool b ∧ Q (.bool (turn op b)) s') E s) :
    wpAny (model prog w) A (tryCompare (.ref x) (cmpInfo op).2.1 y) (fun r s' => ∃ v, r = some v ∧ Q v s') E s := by
  rcases ho with rfl | rfl
  · unfold tryCompare
    refine wpAny_bind (m := callSpecialIfBound? (.ref x) "__eq__" [y]) (ifBound_K X I O.eq O.fn (wpAny_mono (h A (.inl rfl)) (fun v s' hv => ?_) fun _ _ e => e))
    obtain ⟨b, rfl, hq⟩ := hv
    exact wpAny_pure ⟨_, rfl, hq⟩
  · unfold tryCompare
    refine wpAny_bind (m := callSpecialIfBound? (.ref x) "__ne__" [y]) (ifBound_objNe X I O.ne ?_)
    refine wpAny_call (codeAny_call_builtin F.cmp_object.ne.plain F.cmpEntry_ne (check_slot F.cmpKind_ne F.cmpSplit_ne (I.type.andThen (looks_mroIn X O.ob)) (F.cmpArgs_ne _ _) ?_))
    refine ne_entry (A := A.in1) hu X I O (wpAny_mono (h A.in1 (.inr rfl)) (fun v s' hv => ?_) fun _ _ e => e)
    obtain ⟨b, rfl, hq⟩ := hv
    first
      | exact ⟨b, rfl, wpAny_pure ⟨_, rfl, hq⟩⟩
      | exact ⟨b, rfl, wpAny_pure (wpAny_pure ⟨_, rfl, hq⟩)⟩
      | exact ⟨b, rfl, ⟨_, rfl, hq⟩⟩

theorem compareOp2 {op : CmpOp} (ho : Is2 op) (a b : Value) : compareOp op a b = richCompare op a b := by rcases ho with rfl | rfl <;> rfl

/-- the instance on the left -/
theorem rc_left {op : CmpOp} {tb : Value} {Q : Value → Shared → Prop} (ho : Is2 op) (hu : A.units + 1 < cLine) (X : K.In s.heap) (I : InstAt s.heap x ox C od) (O : OwnQ K C f) (hb : Looks (model prog w) s.heap (typeOf y) tb) (hn : notFirst K C tb = true)
    (h : ∀ A' : Around, A' = A ∨ A' = A.in1 → wpAny (model prog w) A' (call (.ref f) [.ref x, y]) (fun v s' => ∃ b, v = .bool b ∧ Q (.bool (turn op b)) s') E s) :
    wpAny (model prog w) A (richCompare op (.ref x) y) Q E s := by
  have one := own_try ho hu X I O h
  unfold richCompare
  simp only [oneThing_ref]
  refine wpAny_holding (wpAny_bind (wpAny_cRoomFor (Nat.lt_of_succ_lt hu) ?_))
  refine wpAny_bind (I.type.here (wpAny_bind (hb.here ?_)))
  split
  · rename_i q
    have e : subIn K tb (.ref C) = some false := by
      rcases Bool.or_eq_true_iff.mp hn with e | e
      · rw [beq_iff_eq.mp e] at q; simp at q
      · exact beq_iff_eq.mp e
    refine wpAny_bind ((looks_subIn X e).here ?_)
    simp only [Bool.false_eq_true, if_false]
    refine wpAny_bind (wpAny_mono one (fun r s' z => ?_) fun _ _ e => e)
    obtain ⟨v, rfl, hq⟩ := z
    exact wpAny_pure hq
  · refine wpAny_bind (wpAny_pure ?_)
    simp only [Bool.false_eq_true, if_false]
    refine wpAny_bind (wpAny_mono one (fun r s' z => ?_) fun _ _ e => e)
    obtain ⟨v, rfl, hq⟩ := z
    exact wpAny_pure hq

/-- the instance on the right, a value of a built-in type on the left -/
theorem rc_right {op : CmpOp} {T : String} {a : Value} {Q : Value → Shared → Prop} (ho : Is2 op) (hu : A.units + 1 < cLine) (X : K.In s.heap) (I : InstAt s.heap x ox C od) (O : OwnQ K C f) (ha : s.TypeIs a T) (hn : subIn K (.ref C) (.type T) = some false)
    (hne : (oneThing? op a (.ref x)) = none)
    (hd : Decl prog w A s op a (.ref x))
    (h : ∀ A' : Around, A' = A ∨ A' = A.in1 → wpAny (model prog w) A' (call (.ref f) [.ref x, a]) (fun v s' => ∃ b, v = .bool b ∧ Q (.bool (turn op b)) s') E s) :
    wpAny (model prog w) A (richCompare op a (.ref x)) Q E s := by
  have one := own_try ho hu X I O h
  have e2 : (cmpInfo op).2.2 = (cmpInfo op).2.1 := by rcases ho with rfl | rfl <;> rfl
  unfold richCompare
  simp only [hne]
  refine wpAny_holding (wpAny_bind (wpAny_cRoomFor (Nat.lt_of_succ_lt hu) ?_))
  refine wpAny_bind (wpAny_typeOf ha (wpAny_bind (I.type.here ?_)))
  have ne : (Value.type T != Value.ref C) = true := by simp
  simp only [ne, if_true]
  refine wpAny_bind ((looks_subIn X hn).here ?_)
  simp only [Bool.false_eq_true, if_false]
  refine wpAny_bind (m := tryCompare a (cmpInfo op).2.1 (.ref x)) (hd _ _ ?_)
  simp only [Bool.not_false, if_true]
  rw [e2]
  refine wpAny_bind (m := tryCompare (.ref x) (cmpInfo op).2.1 a) (wpAny_mono one (fun r s' z => ?_) fun _ _ e => e)
  obtain ⟨v, rfl, hq⟩ := z
  exact wpAny_pure hq
end
end OC

set_option Elab.async false
set_option linter.all false
set_option maxRecDepth 100000
set_option maxHeartbeats 4000000
namespace L2
open PySem PySem.Spec PyProof.Rows

/-- a foreign thing: its built-in type, its kind told by the heap -/
inductive Fo (K : PySem.W.Frag) (H : Hp) : V → String → Prop where
  | non : Fo K H .non "NoneType"
  | bl (b : Bool) : Fo K H (.bl b) "bool"
  | int (i : Int) : Fo K H (.int i) "int"
  | str (x : Str) : Fo K H (.str x) "str"
  | lst {a : Addr} {xs : List V} (e : H a = some (.lst xs)) : Fo K H (.ref a) "list"
  | tup {a : Addr} {xs : List V} (e : H a = some (.tup xs)) : Fo K H (.ref a) "tuple"
  | dK {a : Addr} {kvs : List (Key × V)} (e : H a = some (.dK kvs)) : Fo K H (.ref a) "dict"
theorem Fo.ty {K : PySem.W.Frag} {H : Hp} {x : V} {T : String} (h : Fo K H x T) : TyX K H x (.type T) := by
  cases h with
  | non => exact .base .non
  | bl b => exact .base (.bl b)
  | int i => exact .base (.int i)
  | str x => exact .base (.str x)
  | lst e => exact .base (.lst e)
  | tup e => exact .base (.tup e)
  | dK e => exact .base (.dK e)

/-- the class at C as far as == and != ask -/
structure OwnT (K : PySem.W.Frag) (C f : Addr) : Prop where
  q : OC.OwnQ K C f
  sint : PySem.W.subIn K (.ref C) (.type "int") = some false
  sbool : PySem.W.subIn K (.ref C) (.type "bool") = some false
  snon : PySem.W.subIn K (.ref C) (.type "NoneType") = some false
  sstr : PySem.W.subIn K (.ref C) (.type "str") = some false
  slst : PySem.W.subIn K (.ref C) (.type "list") = some false
  stup : PySem.W.subIn K (.ref C) (.type "tuple") = some false
  sdct : PySem.W.subIn K (.ref C) (.type "dict") = some false
theorem not_first {K : PySem.W.Frag} {C : Addr} {T : String} {l : List Value} (h : fastBuiltinMro T = some l) (hl : l.all (fun v => match v with | .type _ => true | _ => false) = true) : PySem.W.notFirst K C (.type T) = true := by
  unfold PySem.W.notFirst
  have e : PySem.W.subIn K (.type T) (.ref C) = some false := by
    show (fastBuiltinMro T).map (·.contains (.ref C)) = some false
    rw [h]
    show some (l.contains (.ref C)) = some false
    congr 1
    induction l with
    | nil => rfl
    | cons a r ih =>
      rw [List.all_cons, Bool.and_eq_true] at hl
      rw [List.contains_cons]
      have : (Value.ref C == a) = false := by
        cases a <;> first | rfl | (simp at hl)
        
      rw [this, Bool.false_or]
      clear h
      exact (by
        revert hl
        intro hl
        clear ih this
        have hl2 := hl.2
        clear hl
        induction r with
        | nil => rfl
        | cons b r ih2 =>
          rw [List.all_cons, Bool.and_eq_true] at hl2
          rw [List.contains_cons]
          have : (Value.ref C == b) = false := by
            cases b <;> first | rfl | (simp at hl2)
          rw [this, Bool.false_or]
          exact ih2 hl2.2)
  rw [e]
  simp
theorem Fo.nf {K : PySem.W.Frag} {H : Hp} {x : V} {T : String} {C : Addr} (h : Fo K H x T) : PySem.W.notFirst K C (.type T) = true := by
  cases h with
  | non => exact not_first (l := [.type "NoneType", .type "object"]) (by decide +kernel) (by decide +kernel)
  | bl b => exact not_first (l := [.type "bool", .type "int", .type "object"]) (by decide +kernel) (by decide +kernel)
  | int i => exact not_first (l := [.type "int", .type "object"]) (by decide +kernel) (by decide +kernel)
  | str x => exact not_first (l := [.type "str", .type "object"]) (by decide +kernel) (by decide +kernel)
  | lst e => exact not_first (l := [.type "list", .type "object"]) (by decide +kernel) (by decide +kernel)
  | tup e => exact not_first (l := [.type "tuple", .type "object"]) (by decide +kernel) (by decide +kernel)
  | dK e => exact not_first (l := [.type "dict", .type "object"]) (by decide +kernel) (by decide +kernel)
theorem Fo.sub {K : PySem.W.Frag} {H : Hp} {x : V} {T : String} {C f : Addr} (h : Fo K H x T) (O : OwnT K C f) : PySem.W.subIn K (.ref C) (.type T) = some false := by
  cases h with
  | non => exact O.snon
  | bl b => exact O.sbool
  | int i => exact O.sint
  | str x => exact O.sstr
  | lst e => exact O.slst
  | tup e => exact O.stup
  | dK e => exact O.sdct

section
variable {X : Cx} {pins : List (Addr × Obj)} {σ : St} {H : Hp} {s : Shared}
theorem Fo.typ {x : V} {u : Value} {T : String} (h : Fo X.K H x T) (I : Inv X pins σ H s) (r : RelV x u) : s.TypeIs u T := by
  cases h with
  | non => cases (show u = Value.none from r); rfl
  | bl b => cases (show u = Value.bool b from r); rfl
  | int i => obtain ⟨t, q⟩ := (show ∃ t, u = Value.int i t from r); cases q; rfl
  | str x => obtain ⟨t, q⟩ := (show ∃ t, u = Value.str x t from r); cases q; rfl
  | @lst a xs e =>
    cases (show u = Value.ref a from r)
    obtain ⟨_, _, n, _, h1⟩ := (show ObjOk X.prog X.w H s.heap a (.lst xs) from I.hok a _ e)
    exact ⟨_, h1, rfl⟩
  | @tup a xs e =>
    cases (show u = Value.ref a from r)
    obtain ⟨_, _, _, o, h1, h2, _⟩ := (show ObjOk X.prog X.w H s.heap a (.tup xs) from I.hok a _ e)
    exact ⟨o, h1, h2⟩
  | @dK a kvs e =>
    cases (show u = Value.ref a from r)
    obtain ⟨_, _, vs, _, o, es, ep, h1, h2, _⟩ := (show ObjOk X.prog X.w H s.heap a (.dK kvs) from I.hok a _ e)
    exact ⟨o, h1, h2.1⟩
theorem Fo.looks {x : V} {u : Value} {T : String} (h : Fo X.K H x T) (I : Inv X pins σ H s) (r : RelV x u) : PySem.W.Looks (model X.prog X.w) s.heap (typeOf u) (.type T) := by
  cases h with
  | non => cases (show u = Value.none from r); exact .of_pure rfl
  | bl b => cases (show u = Value.bool b from r); exact .of_pure rfl
  | int i => obtain ⟨t, q⟩ := (show ∃ t, u = Value.int i t from r); cases q; exact .of_pure rfl
  | str x => obtain ⟨t, q⟩ := (show ∃ t, u = Value.str x t from r); cases q; exact .of_pure rfl
  | @lst a xs e =>
    cases (show u = Value.ref a from r)
    obtain ⟨_, _, n, _, h1⟩ := (show ObjOk X.prog X.w H s.heap a (.lst xs) from I.hok a _ e)
    exact (PySem.W.Looks.ld h1).andThen .now
  | @tup a xs e =>
    cases (show u = Value.ref a from r)
    obtain ⟨_, _, _, o, h1, h2, _⟩ := (show ObjOk X.prog X.w H s.heap a (.tup xs) from I.hok a _ e)
    rw [← h2]
    exact (PySem.W.Looks.ld h1).andThen .now
  | @dK a kvs e =>
    cases (show u = Value.ref a from r)
    obtain ⟨_, _, vs, _, o, es, ep, h1, h2, _⟩ := (show ObjOk X.prog X.w H s.heap a (.dK kvs) from I.hok a _ e)
    rw [← h2.1]
    exact (PySem.W.Looks.ld h1).andThen .now
theorem Fo.one {x : V} {u : Value} {T : String} {op : CmpOp} {c : Addr} (h : Fo X.K H x T) (r : RelV x u) : oneThing? op u (.ref c) = none := by
  cases h with
  | non => cases (show u = Value.none from r); rfl
  | bl b => cases (show u = Value.bool b from r); rfl
  | int i => obtain ⟨t, q⟩ := (show ∃ t, u = Value.int i t from r); cases q; rfl
  | str x => obtain ⟨t, q⟩ := (show ∃ t, u = Value.str x t from r); cases q; rfl
  | @lst a xs e => cases (show u = Value.ref a from r); rfl
  | @tup a xs e => cases (show u = Value.ref a from r); rfl
  | @dK a kvs e => cases (show u = Value.ref a from r); rfl
theorem Fo.decl {A : Around} {x : V} {u : Value} {T : String} {op : CmpOp} {c C f : Addr} {ox : Obj} {od : Option Obj} (ho : OC.Is2 op) (h : Fo X.K H x T) (O : OwnT X.K C f) (I : Inv X pins σ H s) (r : RelV x u) (J : PySem.W.InstAt s.heap c ox C od) (hd : ox.data = .plain) :
    OC.Decl X.prog X.w A s op u (.ref c) := by
  cases h with
  | non => cases (show u = Value.none from r); exact OC.decl_none ho
  | bl b => cases (show u = Value.bool b from r); exact OC.decl_bool ho b J.at_ hd
  | int i => obtain ⟨t, q⟩ := (show ∃ t, u = Value.int i t from r); cases q; exact OC.decl_int ho i t J.at_ hd
  | str x => obtain ⟨t, q⟩ := (show ∃ t, u = Value.str x t from r); cases q; exact OC.decl_str ho x t J.at_ hd
  | @lst a xs e =>
    cases (show u = Value.ref a from r)
    obtain ⟨_, its, n, _, h1⟩ := (show ObjOk X.prog X.w H s.heap a (.lst xs) from I.hok a _ e)
    intro Q E hq
    rcases ho with rfl | rfl
    · exact wpAny_tryCompare_declines ⟨_, h1, rfl⟩ F.slot_list_eq (call_meets F.slot_list_eq ⟨_, h1, rfl⟩ F.entry_list_eq (F.args_list_eq_2 _ _) (OC.list_ref_eq a _ n _ _ c) ⟨fun M => OC.not_inst I.kIn J O.slst, h1, rfl, hq⟩)
    · exact wpAny_tryCompare_declines ⟨_, h1, rfl⟩ F.slot_list_ne (call_meets F.slot_list_ne ⟨_, h1, rfl⟩ F.entry_list_ne (F.args_list_ne_2 _ _) (OC.list_ref_ne a _ n _ _ c) ⟨fun M => OC.not_inst I.kIn J O.slst, h1, rfl, hq⟩)
  | @tup a xs e =>
    cases (show u = Value.ref a from r)
    obtain ⟨_, its, _, o, h1, h2, n, h3⟩ := (show ObjOk X.prog X.w H s.heap a (.tup xs) from I.hok a _ e)
    obtain ⟨oc, odd, dt, sl⟩ := o
    simp only at h2 h3
    subst h2 h3
    intro Q E hq
    rcases ho with rfl | rfl
    · exact wpAny_tryCompare_declines ⟨_, h1, rfl⟩ F.slot_tuple_eq (call_meets F.slot_tuple_eq ⟨_, h1, rfl⟩ F.entry_tuple_eq (F.args_tuple_eq_2 _ _) (OC.tup_ref_eq a _ n _ _ c) ⟨fun M => OC.not_inst I.kIn J O.stup, h1, rfl, hq⟩)
    · exact wpAny_tryCompare_declines ⟨_, h1, rfl⟩ F.slot_tuple_ne (call_meets F.slot_tuple_ne ⟨_, h1, rfl⟩ F.entry_tuple_ne (F.args_tuple_ne_2 _ _) (OC.tup_ref_ne a _ n _ _ c) ⟨fun M => OC.not_inst I.kIn J O.stup, h1, rfl, hq⟩)
  | @dK a kvs e =>
    cases (show u = Value.ref a from r)
    obtain ⟨_, _, vs, _, o, es, ep, h1, h2, _⟩ := (show ObjOk X.prog X.w H s.heap a (.dK kvs) from I.hok a _ e)
    intro Q E hq
    rcases ho with rfl | rfl
    · exact wpAny_tryCompare_declines ⟨_, h1, h2.1⟩ F.slot_dict_eq (call_meets F.slot_dict_eq ⟨_, h1, h2.1⟩ F.entry_dict_eq (F.args_dict_eq_2 _ _) (OC.dict_ref_eq a c h2) ⟨fun M => OC.not_inst I.kIn J O.sdct, h1, rfl, hq⟩)
    · exact wpAny_tryCompare_declines ⟨_, h1, h2.1⟩ F.slot_dict_ne (call_meets F.slot_dict_ne ⟨_, h1, h2.1⟩ F.entry_dict_ne (F.args_dict_ne_2 _ _) (OC.dict_ref_ne a c h2) ⟨fun M => OC.not_inst I.kIn J O.sdct, h1, rfl, hq⟩)

/-- what the own == promises: R tells its answer; nothing changes -/
def spOwn (R : Addr → V → Bool → Hp → Prop) : Sp := fun vs H Q _ => ∃ (a : Addr) (y : V) (b : Bool), vs = [.ref a, y] ∧ R a y b H ∧ Q (.bl b) H
/-- x == y, x != y, one of both an instance of the class at C -/
def rOwnB (K : PySem.W.Frag) (C : Addr) (R : Addr → V → Bool → Hp → Prop) (op : CmpOp) : R2 := fun x y H Q => ∃ b : Bool,
  ((∃ a dx fs, x = .ref a ∧ H a = some (.ins C dx fs) ∧ R a y b H ∧ ((∃ T, Fo K H y T) ∨ ∃ c dy gs, y = .ref c ∧ H c = some (.ins C dy gs))) ∨
    (∃ c dy gs T, y = .ref c ∧ H c = some (.ins C dy gs) ∧ Fo K H x T ∧ R c x b H)) ∧ Q (.bl (OC.turn op b)) H

theorem op_ownB {CX : CXT} {C f : Addr} {fd : FuncData} {ps : List Str} {n : Nat} {R : Addr → V → Bool → Hp → Prop} {E : XK} {op : CmpOp} (ho : OC.Is2 op) (F : FnOk X.prog X.w X.K X.mg X.base CX n f fd ps (spOwn R))
    (O : OwnT X.K C f) (hb : Binds X.K fd ps []) (hx : Passes CX X E) (hr : Room (n + 1) X.A) : OpR X (compareOp op) (rOwnB X.K C R op) := by
  intro pins s σ H x y v u Q I rx ry hq
  obtain ⟨b, hc, q⟩ := hq
  rw [OC.compareOp2 ho]
  have hu : X.A.units + 1 < cLine := hu_of hr
  -- the call of __eq__
  have run : ∀ (a : Addr) (y : V) (u : Value) (A' : Around), RelV y u → R a y b H → (A' = X.A ∨ A' = X.A.in1) →
      wpAny (model X.prog X.w) A' (call (.ref f) [.ref a, u]) (fun v s' => ∃ b, v = .bool b ∧ EP X pins σ Q (.bool (OC.turn op b)) s') X.xe s := by
    intro a y u A' ry hR hA
    have sb : Room n A' ∧ A'.frames = X.A.frames := by
      rcases hA with rfl | rfl
      · exact ⟨hr.mono (Nat.le_succ n), rfl⟩
      · exact ⟨hr.in1, rfl⟩
    have hsp : spOwn R [.ref a, y] H (fun v H' => v = .bl b ∧ H' = H) E := ⟨a, y, b, rfl, hR, rfl, rfl⟩
    have e0 : Env0 X.prog X.w X.K X.mg X.base A' X.stack s H := by
      have e := I.env0
      exact ⟨by rw [sb.2]; exact e.frames, e.mod, e.bs, e.bsz, e.funs, e.frf, e.hok, e.bare⟩
    have hl := F.len _ _ _ _ hsp
    have r2 : Vals [V.ref a, y] [Value.ref a, u] := .cons rfl (.cons ry .nil)
    refine wpAny_call (codeAny_mono (F.run A' X.stack s H ⟨[.ref a, u], []⟩ [.ref a, u] [.ref a, y] _ E sb.1 e0 (by
      have := hb s [.ref a, u] I.kIn (by simpa using hl)
      simpa using this) r2 hsp) fun r s' hq => ?_)
    cases r with
    | error e => exact hx pins σ H s e s' I hq
    | ok fl =>
      cases fl with
      | ret w =>
        obtain ⟨z, H', I', rz, ez, ex⟩ := I.after hq
        subst ez ex
        cases rz
        exact ⟨b, rfl, .bl (OC.turn op b), H', I', rfl, q⟩
      | next => exact False.elim hq
      | brk => exact False.elim hq
      | cont => exact False.elim hq
  rcases hc with ⟨a, dx, fs, rfl, ha, hR, hy⟩ | ⟨c, dy, gs, T, rfl, hc, hT, hR⟩
  · cases rx
    obtain ⟨mA, J, _⟩ := ins_get I.hok ha
    obtain ⟨od, J, _⟩ := J.look
    rcases hy with ⟨T, hT⟩ | ⟨c, dy, gs, rfl, hc⟩
    · exact OC.rc_left ho hu I.kIn J O.q (hT.looks I ry) hT.nf fun A' hA => run a y u A' ry hR hA
    · cases ry
      obtain ⟨mB, J', _⟩ := ins_get I.hok hc
      obtain ⟨od', J', _⟩ := J'.look
      exact OC.rc_left ho hu I.kIn J O.q J'.type (by simp [PySem.W.notFirst]) fun A' hA => run a (.ref c) _ A' rfl hR hA
  · cases ry
    obtain ⟨mA, J, _⟩ := ins_get I.hok hc
    obtain ⟨od, J, _⟩ := J.look
    exact OC.rc_right ho hu I.kIn J O.q (hT.typ I rx) (hT.sub O) (hT.one rx) (hT.decl ho O I rx J rfl) fun A' hA => run c x v A' rx hR hA
end
end L2

set_option Elab.async false
set_option linter.all false
set_option maxRecDepth 100000
set_option maxHeartbeats 4000000
namespace Kk
open PySem L2
def top (i : Nat) : Stmt := PySem.Challenge.pw_bothwalks_k00_a_share_is_in_lowest_terms.main.body.getD i (.Pass ⟨0, 0, 0, 0⟩)

/-- a def of the text that stands, is kept and keeps its promise; nothing leaves it -/
structure Cal (P : Program) (w : World) (K : PySem.W.Frag) (mg : Str → Option Value) (base : Heap) (k : Nat) (x : Str) (ps : List Str) (sp : Sp) : Prop where
  ex : ∃ (f : Addr) (fd : FuncData), mg x = some (.ref f) ∧ PySem.W.keepIn K (.ref f) = true ∧ FnOk P w K mg base CX0 k f fd ps sp ∧ Binds K fd ps []
section
variable {X : Cx} {k : Nat} {ps : List Str} {sp : Sp} {x : Str} {p pos : Pos} {e : Expr} {es : List Expr} {t : TA}
theorem pe_cal (c : Cal X.prog X.w X.K X.mg X.base k x ps sp) (hr : Room k X.A) (hg : Gl X x) (ha : PA X (e :: es) t) (hdb : (x == ("__debug__" : Str)) = false := by decide)
    (he : starEach (e :: es) X.env = (false, eval e X.env) :: starEach es X.env := by rfl) (hpl : (backTo pos (starEach es X.env)).any (·.1) = false := by rfl) :
    PE X (.Call (.Name x p) (e :: es) [] pos) (tCall sp [] E0 t) := by
  obtain ⟨f, fd, hm, hk, F, hb⟩ := c.ex
  exact pe_call F hr hg hm hk hb .nil pass0 ha hdb he hpl
end

/-- a thing: a foreign one, or an instance of the class at C -/
inductive Thing (K : PySem.W.Frag) (C : Addr) (H : Hp) : V → Prop where
  | fo {x : V} {T : String} (h : Fo K H x T) : Thing K C H x
  | ins {a dx : Addr} {fs : List (Str × V)} (e : H a = some (.ins C dx fs)) : Thing K C H (.ref a)
def isI : V → Bool
  | .int _ => true
  | _ => false
/-- what isinstance asks of the class at C -/
structure InsT (K : PySem.W.Frag) (C : Addr) : Prop where
  cl : Cls K C
  ha : PySem.W.findIn K (.ref C) "__class__" = some (some (.builtin "object.__class__"))
  hn : PySem.W.specialIn K (.builtin "object.__class__") "__get__" = some (some (.builtin "getset_descriptor.__get__"))
  htk : PySem.W.takesIn K (.builtin "object.__class__") = some true
  hm : PySem.W.mroIn K C (.type "object") = some true
  kint : PySem.W.kitOne K (.ref C) (.type "int") = some false
  kbool : PySem.W.kitOne K (.ref C) (.type "bool") = some false
  kself : PySem.W.kitOne K (.ref C) (.ref C) = some true
  oint : PySem.W.kitOne K (.type "int") (.ref C) = some false
  obool : PySem.W.kitOne K (.type "bool") (.ref C) = some false
  onon : PySem.W.kitOne K (.type "NoneType") (.ref C) = some false
  ostr : PySem.W.kitOne K (.type "str") (.ref C) = some false
  olst : PySem.W.kitOne K (.type "list") (.ref C) = some false
  otup : PySem.W.kitOne K (.type "tuple") (.ref C) = some false
  odct : PySem.W.kitOne K (.type "dict") (.ref C) = some false
theorem InsT.ty {K : PySem.W.Frag} {C : Addr} {H : Hp} {a dx : Addr} {fs : List (Str × V)} (I : InsT K C) (e : H a = some (.ins C dx fs)) : TyX K H (.ref a) (.ref C) :=
  .base (.ins e I.cl I.ha I.hn I.htk I.hm)
theorem InsT.fo {K : PySem.W.Frag} {C : Addr} {H : Hp} {x : V} {T : String} (I : InsT K C) (h : Fo K H x T) : PySem.W.kitOne K (.type T) (.ref C) = some false := by
  cases h with
  | non => exact I.onon
  | bl b => exact I.obool
  | int i => exact I.oint
  | str x => exact I.ostr
  | lst e => exact I.olst
  | tup e => exact I.otup
  | dK e => exact I.odct
/-- isinstance(x, int) of a thing -/
def isIB : V → Bool
  | .int _ => true
  | .bl _ => true
  | _ => false
def isB : V → Bool
  | .bl _ => true
  | _ => false
theorem Thing.isInt {K : PySem.W.Frag} {C : Addr} {H : Hp} {x : V} (I : InsT K C) (h : Thing K C H x) : ∃ t, TyX K H x t ∧ PySem.W.kitOne K t (.type "int") = some (isIB x) ∧ PySem.W.kitOne K t (.type "bool") = some (isB x) := by
  cases h with
  | ins e => exact ⟨_, I.ty e, I.kint, I.kbool⟩
  | fo h =>
    refine ⟨_, h.ty, ?_⟩
    cases h with
    | non => exact ⟨by exact kit_ty (r := false) (by decide +kernel), by exact kit_ty (r := false) (by decide +kernel)⟩
    | bl b => exact ⟨by exact kit_ty (r := true) (by decide +kernel), by exact kit_ty (r := true) (by decide +kernel)⟩
    | int i => exact ⟨by exact kit_ty (r := true) (by decide +kernel), by exact kit_ty (r := false) (by decide +kernel)⟩
    | str x => exact ⟨by exact kit_ty (r := false) (by decide +kernel), by exact kit_ty (r := false) (by decide +kernel)⟩
    | lst e => exact ⟨by exact kit_ty (r := false) (by decide +kernel), by exact kit_ty (r := false) (by decide +kernel)⟩
    | tup e => exact ⟨by exact kit_ty (r := false) (by decide +kernel), by exact kit_ty (r := false) (by decide +kernel)⟩
    | dK e => exact ⟨by exact kit_ty (r := false) (by decide +kernel), by exact kit_ty (r := false) (by decide +kernel)⟩
/-- is_whole(x) -/
def spWhole (K : PySem.W.Frag) (C : Addr) : Sp := fun vs H Q _ => ∃ x, vs = [x] ∧ Thing K C H x ∧ Q (.bl (isI x)) H

/-- the built-in names that stand as they are -/
structure Bn (mg : Str → Option Value) : Prop where
  n_isinstance : mg "isinstance" = none
  n_int : mg "int" = none
  n_bool : mg "bool" = none
  n_abs : mg "abs" = none
  n_len : mg "len" = none
  n_str : mg "str" = none
  n_divmod : mg "divmod" = none
  n_ValueError : mg "ValueError" = none
section
variable {P : Program} {w : World} {K : PySem.W.Frag} {mg : Str → Option Value} {base : Heap} {C : Addr}
abbrev s_is_whole : Stmt := top 6
theorem sc_is_whole : FnScope ["thing"] ["thing"] (defScope s_is_whole) := ⟨rfl, rfl, rfl, by decide +kernel, rfl, by decide +kernel, by decide +kernel⟩
theorem ok_is_whole {f : Addr} {fd : FuncData} (F : Fun K "is_whole" "is_whole" s_is_whole f fd) (T : Bn mg) (I : InsT K C) : FnOk P w K mg base CX0 1 f fd ["thing"] (spWhole K C) := by
  refine F.ok sc_is_whole (fun vs H Q E h => ?_) (fun cdv A outer s H vs Q E hr h => ?_)
  · obtain ⟨x, rfl, _⟩ := h
    rfl
  · obtain ⟨x, rfl, h, k⟩ := h
    refine ⟨_, (pss_one (ps_ret (pe_and (pe_callB call_isi (by rfl) T.n_isinstance (by decide +kernel) (pa_cons (pv 0) (pa_cons (pe_bltn (v := .ty "int") rfl T.n_int (by decide +kernel) rfl) pa_nil))) (pe_one (pe_not (pe_callB call_isi (by rfl) T.n_isinstance (by decide +kernel) (pa_cons (pv 0) (pa_cons (pe_bltn (v := .ty "bool") rfl T.n_bool (by decide +kernel) rfl) pa_nil)))))))), ?_⟩
    obtain ⟨t, ty, k1, k2⟩ := h.isInt I
    refine ⟨_, rfl, x, .ty "int", t, _, _, rfl, .ty _, ty, k1, _, rfl, ?_⟩
    cases e : isIB x with
    | true =>
      refine iteT ⟨_, rfl, x, .ty "bool", t, _, _, rfl, .ty _, ty, k2, _, rfl, ?_⟩
      have : (!isB x) = isI x := by cases x <;> first | rfl | (simp [isIB] at e)
      rw [this]
      exact k
    | false =>
      refine iteF ?_
      have : isI x = false := by cases x <;> first | rfl | (simp [isIB] at e)
      rw [this] at k
      exact k
end
end Kk

set_option Elab.async false
set_option linter.all false
set_option maxRecDepth 100000
set_option maxHeartbeats 4000000
namespace L2
open PySem PySem.Spec PyProof.Rows
/-- C.m(e, ..), C a class of the text by its global name, m a plain def of it, read off the class -/
structure ClsFn (K : PySem.W.Frag) (C : Addr) (mc : Value) (m : Str) (g : Addr) : Prop where
  rd : PySem.W.readsIn K C mc = true
  ga : PySem.W.specialIn K (.ref C) "__getattribute__" = some (some (.builtin "type.__getattribute__"))
  at_ : PySem.W.findCls K (.ref C) mc m = some (.val (.ref g))
  kp : PySem.W.keepIn K (.ref g) = true
theorem pe_clsfn {X : Cx} {CX : CXT} {k : Nat} {C g : Addr} {mc : Value} {fd : FuncData} {ps : List Str} {sp : Sp} {E : XK} {x m : Str} {p1 p2 pos : Pos} {e : Expr} {es : List Expr} {t : TA} {pl : Sem Bool}
    (c : ClsFn X.K C mc m g) (F : FnOk X.prog X.w X.K X.mg X.base CX k g fd ps sp) (hr : Room k X.A) (hg : Gl X x) (hm : X.mg x = some (.ref C)) (hb : Binds X.K fd ps []) (hx : Passes CX X E) (ha : PA X (e :: es) t) (hdb : (x == ("__debug__" : Str)) = false := by decide)
    (hc : eval (.Call (.Attribute (.Name x p1) m p2) (e :: es) [] pos) X.env = (do
      let ov ← eval (.Name x p1) X.env
      standAt p2.atName
      let (f, first) ← holding [ov] (getMethod ov m pl)
      callWith pos f first (backTo pos (starEach (e :: es) X.env)) (backToKw pos (keywordEach [] X.env))) := by rfl)
    (he : starEach (e :: es) X.env = (false, eval e X.env) :: starEach es X.env := by rfl) (hpl : (backTo pos (starEach es X.env)).any (·.1) = false := by rfl) :
    PE X (.Call (.Attribute (.Name x p1) m p2) (e :: es) [] pos) (tCall sp [] E t) := by
  refine ⟨fun pins s σ H Q I h => ?_⟩
  refine PySem.W.methodCall_KW (ld_glob I hg hm ?_ hdb) hc
  refine PySem.W.method_cls I.kIn c.ga (PySem.W.cls_value I.kIn c.rd c.at_ rfl ?_)
  have J := I.tok (s.toks + 1)
  show wpAny _ _ (callWith pos (Value.ref g) [] (backTo pos (starEach (e :: es) X.env)) []) _ _ _
  refine PySem.W.callWith_K (h₀ := X.base) J.ok.mod.kin c.kp (thn (ha.run pos pins _ σ H _ J h) fun us s1 ⟨vs, H1, I1, r, q⟩ => ⟨I1.kIn, ?_⟩) he hpl
  exact run_fn F hr hb .nil hx I1 r q
end L2
namespace Kk
open PySem L2
section
variable {P : Program} {w : World} {K : PySem.W.Frag} {mg : Str → Option Value} {base : Heap}
/-- WalkError.__init__, of an exception that is being made -/
def spWE (K : PySem.W.Frag) : Sp := fun vs H Q _ => ∃ (a C : Addr) (y : V), vs = [.ref a, y] ∧ OexC K C ∧ H a = some (exo a C none) ∧ Q .non H
abbrev s_WE : Stmt := inClass (top 3) 0
theorem sc_WE : FnScope ["self", "words"] ["self", "words"] (defScope s_WE) := ⟨rfl, rfl, rfl, by decide +kernel, rfl, by decide +kernel, by decide +kernel⟩
theorem ok_WE {f : Addr} {fd : FuncData} {dvs : List V} (F : FunD K "__init__" "WalkError.__init__" (defArgs s_WE) (defBody s_WE) (defScope s_WE) dvs [] f fd) (T : Bn mg) (vV : PySem.W.findCls K (.type "ValueError") (.type "type") "__init__" = some (.val (.builtin "ValueError.__init__"))) :
    FnOk P w K mg base CX0 1 f fd ["self", "words"] (spWE K) := by
  refine F.ok sc_WE (fun vs H Q E h => ?_) (fun cdv A outer s H vs Q E hr h => ?_)
  · obtain ⟨a, C, y, rfl, _⟩ := h
    rfl
  · obtain ⟨a, C, y, rfl, O, ha, k⟩ := h
    refine ⟨_, pss_one (ps_expr (pe_veinit rfl T.n_ValueError vV (pa_cons (pv 0) (pa_cons (pv 1) pa_nil)))), ?_⟩
    exact ⟨_, rfl, _, rfl, a, C, [y], rfl, by show 1 ≤ 1000; decide, O, ha, k⟩
/-- BadShare.__init__: the two things are kept -/
def spBS (K : PySem.W.Frag) (B : Addr) : Sp := fun vs H Q _ => ∃ (a : Addr) (y z : V), vs = [.ref a, y, z] ∧ OexC K B ∧ PySem.W.findIn K (.ref B) "top" = some none ∧ PySem.W.findIn K (.ref B) "bottom" = some none ∧ H a = some (exo a B none) ∧
  ∀ dx, H dx = none → dx ≠ a → Q .non (upd (upd (upd H dx (exd dx [("top", y)])) a (exo a B (some dx))) dx (exd dx [("bottom", z), ("top", y)]))
abbrev s_BS : Stmt := inClass (top 4) 0
theorem sc_BS : FnScope ["self", "top", "bottom"] ["self", "top", "bottom"] (defScope s_BS) := ⟨rfl, rfl, rfl, by decide +kernel, rfl, by decide +kernel, by decide +kernel⟩
theorem ok_BS {f g W B : Addr} {mc : Value} {fd fdW : FuncData} (F : Fun K "__init__" "BadShare.__init__" s_BS f fd) (gW : mg "WalkError" = some (.ref W)) (c : ClsFn K W mc "__init__" g) (FW : FnOk P w K mg base CX0 1 g fdW ["self", "words"] (spWE K)) (bW : Binds K fdW ["self", "words"] []) :
    FnOk P w K mg base CX0 2 f fd ["self", "top", "bottom"] (spBS K B) := by
  refine F.ok sc_BS (fun vs H Q E h => ?_) (fun cdv A outer s H vs Q E hr h => ?_)
  · obtain ⟨a, y, z, rfl, _⟩ := h
    rfl
  · obtain ⟨a, y, z, rfl, O, nt, nb, ha, k⟩ := h
    refine ⟨_, pss_cons (ps_expr (pe_clsfn c FW hr rfl gW bW pass0 (pa_cons (pv 0) (pa_cons pe_str pa_nil))))
      (pss_cons (ps_ost (pv 0) (pv 1)) (pss_one (ps_ost (pv 0) (pv 2)))), ?_⟩
    refine ⟨_, rfl, a, B, _, rfl, O, ha, ?_⟩
    refine ⟨_, rfl, _, rfl, a, B, rfl, O, nt, .inl ⟨ha, fun dx hd ne => ?_⟩⟩
    refine ⟨_, rfl, _, rfl, a, B, rfl, O, nb, .inr ⟨dx, [("top", y)], upd_same, ?_, by show 1 ≤ 900; decide, ?_⟩⟩
    · rw [upd_ne ne, upd_same]
    · exact k dx hd ne
end
end Kk

set_option Elab.async false
set_option linter.all false
set_option maxRecDepth 100000
set_option maxHeartbeats 4000000
namespace L2
open PySem PySem.Spec PyProof.Rows
/-- // by any divisor but 0 below 2 ^ 9000 -/
def CDivG (_ j : Int) : Prop := j ≠ 0 ∧ j.natAbs.log2 < 9000
theorem op_fdivG {X : Cx} : OpR X (binaryOp .FloorDiv) (rI CDivG fun i j => .int (i.fdiv j)) := opI fun _ _ _ _ _ _ _ hc q => floordiv_int hc.1 q (.inl (PyProof.noPylong_of_log2 hc.2))
end L2
namespace Kk
open PySem L2
/-! ### a share's numbers -/
theorem kTB : ¬ (("top" : Str) = "bottom") := by decide +kernel
def shF (t n : Int) : List (Str × V) := putF "bottom" (.int n) (putF "top" (.int t) [])
theorem shF_top (t n : Int) : (shF t n).lookup ("top" : Str) = some (.int t) := by
  unfold shF
  rw [lookup_putF, if_neg kTB, lookup_putF, if_pos rfl]
theorem shF_bottom (t n : Int) : (shF t n).lookup ("bottom" : Str) = some (.int n) := by
  unfold shF
  rw [lookup_putF, if_pos rfl]
theorem shF_len (t n : Int) : (shF t n).length ≤ 2 := by
  unfold shF
  have h1 := length_putF ("top" : Str) (V.int t) []
  have h2 := length_putF ("bottom" : Str) (V.int n) (putF "top" (.int t) [])
  have h3 : ([] : List (Str × V)).length = 0 := rfl
  omega
/-- the divisor: the greatest common one, with the bottom's sign -/
def sg (a b : Int) : Int := if 0 < b then ((Nat.gcd a.natAbs b.natAbs : Nat) : Int) else -((Nat.gcd a.natAbs b.natAbs : Nat) : Int)
def lowT (a b : Int) : Int := a.fdiv (sg a b)
def lowB (a b : Int) : Int := b.fdiv (sg a b)
theorem sg_abs (a b : Int) : (sg a b).natAbs = Nat.gcd a.natAbs b.natAbs := by
  unfold sg
  split
  · exact Int.natAbs_natCast _
  · rw [Int.natAbs_neg]
    exact Int.natAbs_natCast _
theorem gcd_pos {a b : Int} (hb : b ≠ 0) : 0 < Nat.gcd a.natAbs b.natAbs := Nat.gcd_pos_of_pos_right _ (Int.natAbs_pos.mpr hb)
theorem gcd_le {a b : Int} (hb : b ≠ 0) : Nat.gcd a.natAbs b.natAbs ≤ b.natAbs := Nat.gcd_le_right _ (Int.natAbs_pos.mpr hb)
theorem sg_ne {a b : Int} (hb : b ≠ 0) : sg a b ≠ 0 := fun z => by
  have h := sg_abs a b
  rw [z] at h
  have := gcd_pos (a := a) hb
  have h0 : (0 : Int).natAbs = 0 := rfl
  omega
theorem log2_mono {m n : Nat} (h : m ≤ n) : m.log2 ≤ n.log2 := by
  by_cases hm : m = 0
  · subst hm
    exact Nat.zero_le _
  · have hn : n ≠ 0 := by omega
    exact (Nat.le_log2 hn).mpr (Nat.le_trans (Nat.log2_self_le hm) h)
theorem sg_div {a b : Int} (hb : b ≠ 0) (hl : b.natAbs.log2 < 9000) (i : Int) : CDivG i (sg a b) :=
  ⟨sg_ne hb, by rw [sg_abs]; exact Nat.lt_of_le_of_lt (log2_mono (gcd_le hb)) hl⟩
/-! ### Share.__init__ -/
def bad (p q : V) : Prop := isI p = false ∨ isI q = false ∨ q = .int 0
def xF (p q : V) : List (Str × V) := [("bottom", q), ("top", p)]
def spSI (K : PySem.W.Frag) (C B : Addr) : Sp := fun vs H Q E => ∃ (x dx : Addr) (p q : V), vs = [.ref x, p, q] ∧ H x = some (.ins C dx []) ∧ Thing K C H p ∧ Thing K C H q ∧
  ((∃ a b : Int, p = .int a ∧ q = .int b ∧ b ≠ 0 ∧ b.natAbs.log2 < 9000 ∧ Q .non (upd H x (.ins C dx (shF (lowT a b) (lowB a b))))) ∨
    (bad p q ∧ ∀ (d : Addr) (H' : Hp), H d = none → Same H H' → H' d = some (.xd (xF p q)) → E (.ref B) (some d) H'))
/-- what the walk asks of the class Share -/
structure ShT (K : PySem.W.Frag) (mg : Str → Option Value) (C : Addr) : Prop where
  bn : Bn mg
  it : InsT K C
  nT : NoAttr K C "top"
  nB : NoAttr K C "bottom"
  g_gcd : mg "gcd" = some (.builtin "math.gcd")
  g_Share : mg "Share" = some (.ref C)
/-- .. of the class BadShare -/
structure BsT (P : Program) (w : World) (K : PySem.W.Frag) (mg : Str → Option Value) (base : Heap) (B : Addr) : Prop where
  O : OexC K B
  nt : PySem.W.findIn K (.ref B) "top" = some none
  nb : PySem.W.findIn K (.ref B) "bottom" = some none
  gB : mg "BadShare" = some (.ref B)
  made : ∃ (fI : Addr) (fd : FuncData), PySem.W.findIn K (.ref B) "__init__" = some (some (.ref fI)) ∧ PySem.W.typeIn K (.ref fI) = some (.type "function") ∧ FnOk P w K mg base CX0 2 fI fd ["self", "top", "bottom"] (spBS K B) ∧ Binds K fd ["self", "top", "bottom"] []
section
variable {P : Program} {w : World} {K : PySem.W.Frag} {mg : Str → Option Value} {base : Heap} {C B : Addr}
theorem iteB {c : Bool} {A B : Prop} (h1 : c = true → A) (h2 : c = false → B) : if c = true then A else B := by
  cases c
  · rw [if_neg (by decide)]
    exact h2 rfl
  · rw [if_pos rfl]
    exact h1 rfl
/-- the exception's dict behind the call of its class -/
theorem bs_end {H : Hp} {a dx : Addr} {p q : V} {B : Addr} (ha : H a = none) (hd : (upd H a (exo a B none)) dx = none) (ne : dx ≠ a) :
    Same H (upd (L2.del (upd (upd (upd (upd H a (exo a B none)) dx (exd dx [("top", p)])) a (exo a B (some dx))) dx (exd dx (xF p q))) a) dx (.xd (xF p q))) := fun b o h => by
  have nb : b ≠ a := ne_of_none h ha
  have nd : b ≠ dx := fun z => by rw [upd_ne ne] at hd; rw [z, hd] at h; cases h
  rw [upd_ne nd, del_ne nb, upd_ne nd, upd_ne nb, upd_ne nd, upd_ne nb]
  exact h
theorem isI_int {p : V} (h : isI p = true) : ∃ a, p = .int a := by cases p <;> first | exact ⟨_, rfl⟩ | cases h
abbrev s_SI : Stmt := inClass (top 10) 0
theorem sc_SI : FnScope ["self", "top", "bottom", "common"] ["self", "top", "bottom"] (defScope s_SI) := ⟨rfl, rfl, rfl, by decide +kernel, rfl, by decide +kernel, by decide +kernel⟩
theorem ok_SI {f : Addr} {fd : FuncData} {dvs : List V} (F : FunD K "__init__" "Share.__init__" (defArgs s_SI) (defBody s_SI) (defScope s_SI) dvs [] f fd) (T : ShT K mg C) (Bt : BsT P w K mg base B) (c_is_whole : Cal P w K mg base 1 "is_whole" ["thing"] (spWhole K C)) :
    FnOk P w K mg base (L2.CX P w) 4 f fd ["self", "top", "bottom"] (spSI K C B) := by
  obtain ⟨fI, fdI, iC, tI, FI, bI⟩ := Bt.made
  refine F.ok sc_SI (fun vs H Q E h => ?_) (fun cdv A outer s H vs Q E hr h => ?_)
  · obtain ⟨x, dx, p, q, rfl, _⟩ := h
    rfl
  · obtain ⟨x, dx, p, q, rfl, hx, hp, hq, k⟩ := h
    refine ⟨_, (pss_cons (ps_if (PW.pt (pw_or (pt_not (pt_val (pe_cal c_is_whole (hr.mono (by decide)) rfl (pa_cons (pv 1) pa_nil)))) (pw_or (pt_not (pt_val (pe_cal c_is_whole (hr.mono (by decide)) rfl (pa_cons (pv 2) pa_nil)))) (pw_or1 (pt_cmpR op_eq (pv 2) pe_int (nomark _))))))
        (pss_one (ps_raise (W := fun cls d _ H => E cls d H) rfl (takes_of rfl rfl rfl rfl) (pmk_oex Bt.O iC tI FI hr bI .nil pass0 rfl Bt.gB (pa_cons (pv 1) (pa_cons (pv 2) pa_nil)))))
        pss_nil)
      (pss_cons (ps_set (i := 3) sc_SI.nd rfl (Or.inl rfl) (pe_ifExp (pt_cmpR op_gt (pv 2) pe_int (nomark _)) (pe_callBfun cr_gcd rfl T.g_gcd (pa_cons (pv 1) (pa_cons (pv 2) pa_nil))) (pe_un un_neg (pe_callBfun cr_gcd rfl T.g_gcd (pa_cons (pv 1) (pa_cons (pv 2) pa_nil))))))
      (pss_cons (ps_fld (pv 0) (pe_op op_fdivG (pv 1) (pv 3)) rfl)
      (pss_one (ps_fld (pv 0) (pe_op op_fdivG (pv 2) (pv 3)) rfl))))), ?_⟩
    -- BadShare(top, bottom)
    have raise : bad p q → ∀ (σ : St), σ[1]? = some (some p) → σ[2]? = some (some q) →
        tMkO B (spBS K B) [] (tCons (tVar 1) (tCons (tVar 2) tNil)) σ H (fun cls d H' => E cls d H') := by
      intro hb σ h1 h2
      rcases k with ⟨a, b, rfl, rfl, nz, _⟩ | ⟨_, k⟩
      · rcases hb with z | z | z
        · cases z
        · cases z
        · exact absurd (V.int.inj z) nz
      · refine ⟨p, h1, q, h2, by show 2 ≤ 1000; decide, fun a ha => ?_⟩
        refine ⟨a, p, q, rfl, Bt.O, Bt.nt, Bt.nb, upd_same, fun d hd ne => ⟨rfl, d, xF p q, ?_, upd_same, ?_, ?_⟩⟩
        · rw [upd_ne ne.symm, upd_same]
        · rw [upd_ne ne] at hd
          exact hd
        · refine k d _ ?_ (bs_end ha hd ne) upd_same
          rw [upd_ne ne] at hd
          exact hd
    refine ⟨_, rfl, p, rfl, hp, _, rfl, iteB (fun z => ?_) (fun z => ?_)⟩
    · refine iteT (raise (.inl ?_) _ rfl rfl)
      simpa using z
    · refine ⟨_, rfl, q, rfl, hq, _, rfl, iteB (fun z2 => ?_) (fun z2 => ?_)⟩
      · refine iteT (raise (.inr (.inl ?_)) _ rfl rfl)
        simpa using z2
      · obtain ⟨a, rfl⟩ := isI_int (p := p) (by simpa using z)
        obtain ⟨b, rfl⟩ := isI_int (p := q) (by simpa using z2)
        refine ⟨_, rfl, rfl, _, rfl, ?_⟩
        refine ite2 (fun e => ?_) (fun e => ?_)
        · have e' : V.int b = V.int 0 := of_decide_eq_true e
          exact raise (.inr (.inr e')) _ rfl rfl
        · have nz : b ≠ 0 := fun z => e (by rw [z]; exact decide_eq_true rfl)
          rcases k with ⟨a', b', ea, eb, _, hl, k⟩ | ⟨hb, _⟩
          · cases ea
            cases eb
            -- common
            refine ⟨_, rfl, _, _, rfl, rfl, _, rfl, ?_⟩
            have rest : ∀ c : Int, c = sg a b → (tSeq (sFld K (tVar 0) (tOp (rI CDivG fun i j => .int (i.fdiv j)) (tVar 1) (tVar 3)) "top") (sFld K (tVar 0) (tOp (rI CDivG fun i j => .int (i.fdiv j)) (tVar 2) (tVar 3)) "bottom"))
                { nx := fun _ H' => Q .non H', rt := Q } [some (.ref x), some (.int a), some (.int b), some (.int c)] H := by
              rintro c rfl
              refine ⟨_, rfl, _, rfl, a, sg a b, rfl, rfl, sg_div nz hl a, ?_⟩
              refine ⟨_, rfl, x, C, dx, [], rfl, hx, T.it.cl, T.nT, by show 0 < 1000; decide, ?_⟩
              refine ⟨_, rfl, _, rfl, b, sg a b, rfl, rfl, sg_div nz hl b, ?_⟩
              refine ⟨_, rfl, x, C, dx, _, rfl, upd_same, T.it.cl, T.nB, by show 1 < 1000; decide, ?_⟩
              rw [upd_upd]
              exact k
            refine ite2 (fun e2 => ?_) (fun e2 => ?_)
            · refine ⟨_, rfl, _, rfl, a, b, rfl, ?_⟩
              refine rest _ ?_
              unfold sg
              rw [if_pos (of_decide_eq_true e2)]
            · refine ⟨_, rfl, _, rfl, a, b, rfl, _, rfl, ?_⟩
              refine rest _ ?_
              unfold sg
              rw [if_neg (fun z => e2 (decide_eq_true z))]
          · rcases hb with z | z | z
            · cases z
            · cases z
            · exact absurd (V.int.inj z) nz
end
end Kk

set_option Elab.async false
set_option linter.all false
set_option maxRecDepth 100000
set_option maxHeartbeats 4000000
namespace Kk
open PySem L2
/-! ### numbers as texts -/
def numT (n : Int) : Str := Str.ofString (toString n)
theorem ofS_app (a b : String) : Str.ofString (a ++ b) = Str.ofString a ++ Str.ofString b := by
  rw [Str.ofString_eq_toList, Str.ofString_eq_toList, Str.ofString_eq_toList, String.toList_append, List.map_append]
  show (⟨_⟩ : Str) = ⟨_⟩
  congr 1
  simp
theorem numT_neg {n : Int} (h : n < 0) : numT n = Str.ofString "-" ++ numT (-n) := by
  unfold numT
  rw [← ofS_app]
  cases n with
  | ofNat m => exact absurd h (by simp)
  | negSucc m => rfl
theorem numT_len {n : Int} (h : n.natAbs.log2 < 1920) : (numT n).length ≤ 1921 := PyProof.Rows.int_text_len_1921 h
theorem join2 (x y : Str) : Txt.join (Str.ofString "") [x, y] = x ++ y := by
  refine TL.ext_tl ?_
  rw [TL.join_eq, TL.tl_join, TL.tl_append]
  rfl
theorem str_nil (x : Str) : Str.ofString "" ++ x = x := by
  refine TL.ext_tl ?_
  rw [TL.tl_append]
  rfl
/-- digits(n), of fewer than 65 digits -/
def spDig : Sp := fun vs H Q _ => ∃ n : Int, vs = [.int n] ∧ n.natAbs < 10 ^ 64 ∧ ∀ H', Same H H' → Q (.str (numT n)) H'
theorem small_log {n : Int} (h : n.natAbs < 10 ^ 64) : n.natAbs.log2 < 1920 := by
  by_cases h0 : n.natAbs = 0
  · rw [h0]
    decide
  · refine (Nat.log2_lt h0).mpr (Nat.lt_trans h ?_)
    decide +kernel
theorem two_texts {x y : Str} (hx : x.length ≤ 10) (hy : y.length ≤ 1921) : (([x, y] : List Str).map (·.length)).sum + ([x, y] : List Str).length * (Str.ofString "").length ≤ 16777216 := by
  have e : (Str.ofString "").length = 0 := rfl
  rw [e]
  show x.length + (y.length + 0) + 2 * 0 ≤ 16777216
  omega
section
variable {P : Program} {w : World} {K : PySem.W.Frag} {mg : Str → Option Value} {base : Heap} {C B : Addr}
abbrev s_digits : Stmt := top 9
theorem sc_digits : FnScope ["number", "blocks", "left", "low", "sign"] ["number"] (defScope s_digits) := ⟨rfl, rfl, rfl, by decide +kernel, rfl, by decide +kernel, by decide +kernel⟩
theorem ok_digits {f : Addr} {fd : FuncData} {tk : Tok} (F : Fun K "digits" "digits" s_digits f fd) (T : Bn mg) (gB : mg "BLOCK" = some (.int (10 ^ 64) tk)) : FnOk P w K mg base CX0 1 f fd ["number"] spDig := by
  refine F.ok sc_digits (fun vs H Q E h => ?_) (fun cdv A outer s H vs Q E hr h => ?_)
  · obtain ⟨n, rfl, _⟩ := h
    rfl
  · obtain ⟨n, rfl, hn, k⟩ := h
    refine ⟨_, (pss_cons (ps_set (i := 1) sc_digits.nd rfl (Or.inl rfl) (pe_lst pa_nil))
      (pss_cons (ps_set (i := 2) sc_digits.nd rfl (Or.inl rfl) (pe_callB call_abs (by rfl) T.n_abs (by decide +kernel) (pa_cons (pv 0) pa_nil)))
      (pss_cons (ps_while PassesOwn.never (pt_cmpR op_ge (pv 2) (pe_glob (v := .int (10 ^ 64)) rfl gB ⟨_, rfl⟩) (nomark _))
        (pss_cons ps_never (pss_one ps_never)))
      (pss_cons (ps_set (i := 4) sc_digits.nd rfl (Or.inl rfl) (pe_ifExp (pt_cmpR op_lt (pv 0) pe_int (nomark _)) pe_str pe_str))
      (pss_one (ps_ret (pe_join pe_str (pe_lst (pa_cons (pv 4) (pa_cons (pe_callTy call_str_int (by rfl) T.n_str (by decide +kernel) (pa_cons (pv 2) pa_nil)) (StX.pa_star (pe_revL (pv 1)) pa_nil))))))))))), ?_⟩
    refine ⟨by show 0 ≤ sizeLine; exact Nat.zero_le _, fun l hl => ?_⟩
    refine ⟨_, rfl, n, rfl, ?_⟩
    generalize hm : (if n < 0 then -n else n) = m
    have m0 : 0 ≤ m := by split at hm <;> omega
    have mn : m.natAbs = n.natAbs := by split at hm <;> omega
    refine while_by (fun σ H' => σ = [some (.int n), some (.ref l), some (.int m), none, none] ∧ H' = upd H l (.lst [])) (fun _ _ => 0) ⟨rfl, rfl⟩ ?_ ?_
    · rintro σ H1 ⟨rfl, rfl⟩
      refine ⟨_, rfl, m, _, rfl, rfl, _, rfl, ?_⟩
      have hlt : ¬ (10 : Int) ^ 64 ≤ m := by
        have h1 : (m.natAbs : Int) < (10 : Int) ^ 64 := by
          rw [mn]
          have := Int.ofNat_lt.mpr hn
          exact Int.lt_of_lt_of_le this (Int.le_of_eq (by decide +kernel))
        omega
      refine iteB (fun z => absurd (of_decide_eq_true z) hlt) (fun _ => ?_)
      have go : ∀ sgn : Str, sgn.length ≤ 10 → sgn ++ numT m = numT n →
          tSeq (tAsg (tC (.str sgn)) (gName 4)) (tRet (tM1 (fun x xs H Q => ∃ a p, ∃ ys : List Str, x = .str a ∧ xs = [.ref p] ∧ (SqL K H p (ys.map V.str) ∨ SqT K H p (ys.map V.str)) ∧
            (ys.map (·.length)).sum + ys.length * a.length ≤ 16777216 ∧ Q (.str (Txt.join a ys)) H) (tC (.str (Str.ofString ""))) (tLst (tCons (tVar 4) (tCons (tCB (fun xs H Q => ∃ i : Int, xs = [.int i] ∧ i.natAbs.log2 < 1920 ∧ Q (.str (toString i)) H) (tCons (tVar 2) tNil)) (StX.tStar K (tRevL K (tVar 1)) tNil))))))
            { nx := fun _ H' => Q .non H', rt := Q } [some (.int n), some (.ref l), some (.int m), none, none] (upd H l (.lst [])) := by
        intro sgn hs he
        refine ⟨⟨_, rfl⟩, _, rfl, _, rfl, m, rfl, by rw [mn]; exact small_log hn, _, rfl, l, [], rfl, .inl (.inl upd_same), fun r hr' => ?_⟩
        refine ⟨r, [], rfl, .inr (SqL.of upd_same), by show 2 ≤ sizeLine; decide, fun d hd => ?_⟩
        refine ⟨_, d, [sgn, numT m], rfl, rfl, .inl (SqL.of upd_same), two_texts hs (numT_len (by rw [mn]; exact small_log hn)), ?_⟩
        rw [join2, he]
        refine k _ fun b o hb => ?_
        have n1 : b ≠ l := ne_of_none hb hl
        have e1 : (upd H l (.lst [])) b = some o := by rw [upd_ne n1]; exact hb
        have n2 : b ≠ r := ne_of_none e1 hr'
        have e2 : (upd (upd H l (.lst [])) r (.lst ([] : List V).reverse)) b = some o := by rw [upd_ne n2]; exact e1
        rw [upd_ne (ne_of_none e2 hd)]
        exact e2
      refine ⟨_, rfl, _, _, rfl, rfl, _, rfl, ite2 (fun e => ?_) (fun e => ?_)⟩
      · have hneg := of_decide_eq_true e
        refine go (Str.ofString "-") (by decide) ?_
        rw [numT_neg hneg, ← hm, if_pos hneg]
      · have hpos : ¬ n < 0 := fun z => e (decide_eq_true z)
        refine go (Str.ofString "") (by decide) ?_
        rw [str_nil, ← hm, if_neg hpos]
    · rintro σ H1 Q1 Q2 hm ⟨v, hv, i, j, e1, e2, k, e3, q⟩
      exact ⟨v, hv, i, j, e1, e2, k, e3, hm _ _ q⟩
end
end Kk

set_option Elab.async false
set_option linter.all false
set_option maxRecDepth 100000
set_option maxHeartbeats 4000000
namespace Kk
open PySem L2
/-- == of a share at a and y -/
def EqS (K : PySem.W.Frag) (C : Addr) (a : Addr) (y : V) (b : Bool) (H : Hp) : Prop := ∃ (dx : Addr) (t n : Int), H a = some (.ins C dx (shF t n)) ∧
  ((∃ (c dy : Addr) (t' n' : Int), y = .ref c ∧ H c = some (.ins C dy (shF t' n')) ∧ b = (decide (V.int t = V.int t') && decide (V.int n = V.int n'))) ∨
    (∃ T, Fo K H y T) ∧ b = (isI y && (decide (V.int n = V.int 1) && decide (V.int t = y))))
def shT (t n : Int) : Str := if V.int n = V.int 1 then numT t else numT t ++ Str.ofString "/" ++ numT n
/-- str(share) -/
def spStr (C : Addr) : Sp := fun vs H Q _ => ∃ (a dx : Addr) (t n : Int), vs = [.ref a] ∧ H a = some (.ins C dx (shF t n)) ∧ t.natAbs < 10 ^ 64 ∧ n.natAbs < 10 ^ 64 ∧ ∀ H', Same H H' → Q (.str (shT t n)) H'
theorem app_len (x y : Str) : (x ++ y).length = x.length + y.length := by
  show (x.cps ++ y.cps).size = x.cps.size + y.cps.size
  exact Array.size_append
theorem emp_app (x : Str) : Str.empty ++ x = x := by
  refine TL.ext_tl ?_
  rw [TL.tl_append]
  rfl
theorem Fo.notIns {K : PySem.W.Frag} {H : Hp} {a dx C : Addr} {fs : List (Str × V)} {T : String} (h : Fo K H (.ref a) T) (e : H a = some (.ins C dx fs)) : False := by
  cases h with
  | lst h => rw [h] at e; cases e
  | tup h => rw [h] at e; cases e
  | dK h => rw [h] at e; cases e
section
variable {P : Program} {w : World} {K : PySem.W.Frag} {mg : Str → Option Value} {base : Heap} {C B : Addr}
abbrev s_eq : Stmt := inClass (top 10) 8
theorem sc_eq : FnScope ["self", "other"] ["self", "other"] (defScope s_eq) := ⟨rfl, rfl, rfl, by decide +kernel, rfl, by decide +kernel, by decide +kernel⟩
theorem ok_eq {f : Addr} {fd : FuncData} (F : Fun K "__eq__" "Share.__eq__" s_eq f fd) (T : ShT K mg C) (c_is_whole : Cal P w K mg base 1 "is_whole" ["thing"] (spWhole K C)) :
    FnOk P w K mg base CX0 2 f fd ["self", "other"] (spOwn (EqS K C)) := by
  refine F.ok sc_eq (fun vs H Q E h => ?_) (fun cdv A outer s H vs Q E hr h => ?_)
  · obtain ⟨a, y, b, rfl, _⟩ := h
    rfl
  · obtain ⟨a, y, b, rfl, ⟨dx, t, n, ha, hy⟩, k⟩ := h
    refine ⟨_, (pss_cons (ps_if (pt_val (pe_callB call_isi (by rfl) T.bn.n_isinstance (by decide +kernel) (pa_cons (pv 1) (pa_cons (pe_glob (v := .ref C) rfl T.g_Share rfl) pa_nil))))
        (pss_one (ps_ret (pe_and (pe_cmpR op_eq (pe_fld (pv 0) rfl) (pe_fld (pv 1) rfl) (nomark _)) (pe_one (pe_cmpR op_eq (pe_fld (pv 0) rfl) (pe_fld (pv 1) rfl) (nomark _))))))
        pss_nil)
      (pss_one (ps_ret (pe_and (pe_cal c_is_whole (hr.mono (by decide)) rfl (pa_cons (pv 1) pa_nil)) (pe_and (pe_cmpR op_eq (pe_fld (pv 0) rfl) pe_int (nomark _)) (pe_one (pe_cmpR op_eq (pe_fld (pv 0) rfl) (pv 1) (nomark _)))))))), ?_⟩
    rcases hy with ⟨c, dy, t', n', rfl, hc, rfl⟩ | ⟨⟨T', hT⟩, rfl⟩
    · refine ⟨_, rfl, .ref c, .ref C, _, _, true, rfl, .own C, T.it.ty hc, T.it.kself, _, rfl, iteT ?_⟩
      refine ⟨_, rfl, a, C, dx, _, _, rfl, ha, T.it.cl, T.nT, shF_top _ _, _, rfl, c, C, dy, _, _, rfl, hc, T.it.cl, T.nT, shF_top _ _, rfl, _, rfl, iteB (fun z => ?_) (fun z => ?_)⟩
      · refine ⟨_, rfl, a, C, dx, _, _, rfl, ha, T.it.cl, T.nB, shF_bottom _ _, _, rfl, c, C, dy, _, _, rfl, hc, T.it.cl, T.nB, shF_bottom _ _, rfl, ?_⟩
        rw [z, Bool.true_and] at k
        exact k
      · rw [z, Bool.false_and] at k
        exact k
    · refine ⟨_, rfl, y, .ref C, _, _, false, rfl, .own C, hT.ty, T.it.fo hT, _, rfl, iteF ?_⟩
      refine ⟨_, rfl, y, rfl, .fo hT, _, rfl, iteB (fun z => ?_) (fun z => ?_)⟩
      · rw [z, Bool.true_and] at k
        obtain ⟨i, rfl⟩ := isI_int z
        refine ⟨_, rfl, a, C, dx, _, _, rfl, ha, T.it.cl, T.nB, shF_bottom _ _, rfl, _, rfl, iteB (fun z => ?_) (fun z => ?_)⟩
        · refine ⟨_, rfl, a, C, dx, _, _, rfl, ha, T.it.cl, T.nT, shF_top _ _, _, rfl, rfl, ?_⟩
          rw [z, Bool.true_and] at k
          exact k
        · rw [z, Bool.false_and] at k
          exact k
      · rw [z, Bool.false_and] at k
        exact k
abbrev s_str : Stmt := inClass (top 10) 9
theorem sc_str : FnScope ["self"] ["self"] (defScope s_str) := ⟨rfl, rfl, rfl, by decide +kernel, rfl, by decide +kernel, by decide +kernel⟩
theorem ok_str {f : Addr} {fd : FuncData} (F : Fun K "__str__" "Share.__str__" s_str f fd) (T : ShT K mg C) (c_digits : Cal P w K mg base 1 "digits" ["number"] spDig) :
    FnOk P w K mg base CX0 2 f fd ["self"] (spStr C) := by
  refine F.ok sc_str (fun vs H Q E h => ?_) (fun cdv A outer s H vs Q E hr h => ?_)
  · obtain ⟨a, dx, t, n, rfl, _⟩ := h
    rfl
  · obtain ⟨a, dx, t, n, rfl, ha, ht, hn, k⟩ := h
    refine ⟨_, (pss_cons (ps_if (pt_cmpR op_eq (pe_fld (pv 0) rfl) pe_int (nomark _))
        (pss_one (ps_ret (pe_joined1 (pe_fmt (pe_cal c_digits (hr.mono (by decide)) rfl (pa_cons (pe_fld (pv 0) rfl) pa_nil))))))
        pss_nil)
      (pss_one (ps_ret (pe_joined (.cons (pe_fmt (pe_cal c_digits (hr.mono (by decide)) rfl (pa_cons (pe_fld (pv 0) rfl) pa_nil))) (.cons pe_str (.cons (pe_fmt (pe_cal c_digits (hr.mono (by decide)) rfl (pa_cons (pe_fld (pv 0) rfl) pa_nil))) .nil))))))), ?_⟩
    have lt := numT_len (small_log ht)
    have ln := numT_len (small_log hn)
    refine ⟨_, rfl, a, C, dx, _, _, rfl, ha, T.it.cl, T.nB, shF_bottom _ _, rfl, _, rfl, iteB (fun z => ?_) (fun z => ?_)⟩
    · have e := of_decide_eq_true z
      refine ⟨_, rfl, a, C, dx, _, _, rfl, ha, T.it.cl, T.nT, shF_top _ _, t, rfl, ht, fun H' hs => .inl ⟨_, rfl, ?_, ?_⟩⟩
      · exact Nat.le_trans lt (by decide)
      · have q := k H' hs
        unfold shT at q
        rw [if_pos e] at q
        exact q
    · have e := of_decide_eq_false z
      refine ⟨_, rfl, a, C, dx, _, _, rfl, ha, T.it.cl, T.nT, shF_top _ _, t, rfl, ht, fun H' hs => .inl ⟨_, rfl, Nat.le_trans lt (by decide), _, rfl, ?_, ?_⟩⟩
      · rw [emp_app]
        exact Nat.le_trans lt (by decide)
      · rw [emp_app]
        refine ⟨_, rfl, ?_, ?_⟩
        · rw [app_len]
          have : (Str.ofString "/").length = 1 := by decide
          exact Nat.le_trans (show _ ≤ 1922 by omega) (by decide)
        · refine ⟨_, rfl, a, C, dx, _, _, rfl, hs _ _ ha, T.it.cl, T.nB, shF_bottom _ _, n, rfl, hn, fun H2 hs2 => .inl ⟨_, rfl, Nat.le_trans ln (by decide), _, rfl, ?_, ?_⟩⟩
          · rw [app_len, app_len]
            have : (Str.ofString "/").length = 1 := by decide
            exact Nat.le_trans (show _ ≤ 3843 by omega) (by decide)
          · have q := k H2 (hs.trans hs2)
            unfold shT at q
            rw [if_neg e] at q
            exact q
end
end Kk

set_option Elab.async false
set_option linter.all false
set_option maxRecDepth 100000
set_option maxHeartbeats 4000000
namespace Kk
open PySem L2
/-! ### the pool of the draws -/
/-- its list: a number below 2 ^ 64, and what is left of the greatest cell -/
def PoolL (o : HO) : Prop := ∃ n g : Int, o = .lst [.int n, .int g] ∧ 0 ≤ n ∧ n < 2 ^ 64 ∧ 0 ≤ g
def PoolAt (H : Hp) (a : Addr) : Prop := ∃ o, H a = some o ∧ PoolL o
theorem PoolAt.put {H : Hp} {a : Addr} {o : HO} (h : PoolL o) : PoolAt (upd H a o) a := ⟨o, upd_same, h⟩
/-- all that was tracked, but the pool, stands -/
def Keep (a : Addr) (H H' : Hp) : Prop := ∀ b o, H b = some o → b ≠ a → H' b = some o
theorem Keep.refl (a : Addr) (H : Hp) : Keep a H H := fun _ _ h _ => h
theorem Keep.trans {a : Addr} {H H1 H2 : Hp} (x : Keep a H H1) (y : Keep a H1 H2) : Keep a H H2 := fun b o h n => y b o (x b o h n) n
theorem Keep.put {a : Addr} {H : Hp} (o : HO) : Keep a H (upd H a o) := fun b u h n => by rw [upd_ne n]; exact h
theorem Keep.of {a : Addr} {H H' : Hp} (s : Same H H') : Keep a H H' := fun b o h _ => s b o h
theorem Same.put {H : Hp} {p : Addr} {o : HO} (h : H p = none) : Same H (upd H p o) := fun b u e => by rw [upd_ne (ne_of_none e h)]; exact e
theorem PoolAt.new {H : Hp} {a p : Addr} {o : HO} (h : PoolAt H a) (hp : H p = none) : PoolAt (upd H p o) a := by
  obtain ⟨u, e, q⟩ := h
  exact ⟨u, by rw [upd_ne (ne_of_none e hp)]; exact e, q⟩
theorem PoolAt.same {H H' : Hp} {a : Addr} (h : PoolAt H a) (s : Same H H') : PoolAt H' a := by
  obtain ⟨u, e, q⟩ := h
  exact ⟨u, s _ _ e, q⟩
theorem PoolAt.ne {H : Hp} {a b : Addr} {xs : List V} (h : PoolAt H a) (e : H b = some (.tup xs)) : b ≠ a := fun z => by
  obtain ⟨u, e2, n, g, q, _⟩ := h
  rw [z, e2, q] at e
  cases e
theorem PoolAt.nei {H : Hp} {a b C dx : Addr} {fs : List (Str × V)} (h : PoolAt H a) (e : H b = some (.ins C dx fs)) : b ≠ a := fun z => by
  obtain ⟨u, e2, n, g, q, _⟩ := h
  rw [z, e2, q] at e
  cases e
theorem SqT.put {K : PySem.W.Frag} {H : Hp} {a t : Addr} {xs : List V} {o : HO} (h : PoolAt H a) (s : SqT K H t xs) : SqT K (upd H a o) t xs := by
  obtain ⟨u, e2, n, g, q, _⟩ := h
  rcases s with (s | ⟨ob, s⟩) | s
  · refine .inl (.inl ?_)
    rw [upd_ne (fun z => by rw [z, e2, q] at s; cases s)]
    exact s
  · refine .inl (.inr ⟨ob, ?_⟩)
    rw [upd_ne (fun z => by rw [z, e2, q] at s; cases s)]
    exact s
  · exact .inr s
/-- the next number of the pool -/
def nextN (n : Int) : Int := ((n + 7919) * 6364136223846793005 + 1442695040888963407).fmod ((2 : Int) ^ (64 : Int).toNat)
theorem nextN_ok (n : Int) : 0 ≤ nextN n ∧ nextN n < 2 ^ 64 := by
  have e2 : ((2 : Int) ^ (64 : Int).toNat) = 18446744073709551616 := by decide +kernel
  unfold nextN
  rw [e2, Int.fmod_eq_emod_of_nonneg _ (by decide)]
  exact ⟨Int.emod_nonneg _ (by decide), Int.emod_lt_of_pos _ (by decide)⟩
def spDraw : Sp := fun vs H Q _ => ∃ (a : Addr) (m : Int), vs = [.ref a, .int m] ∧ PoolAt H a ∧ 0 < m ∧ m.natAbs.log2 < 9000 ∧ ∀ (r : Int) (o : HO), 0 ≤ r → r < m → PoolL o → Q (.int r) (upd H a o)
def spPick (K : PySem.W.Frag) : Sp := fun vs H Q _ => ∃ (a t : Addr) (xs : List V), vs = [.ref a, .ref t] ∧ PoolAt H a ∧ SqT K H t xs ∧ 0 < xs.length ∧ xs.length < 1000 ∧ ∀ (x : V) (o : HO), x ∈ xs → PoolL o → Q x (upd H a o)
theorem log_small {m : Int} {b : Nat} (h : m.natAbs < 2 ^ b) (h0 : 0 < b) (hb : b ≤ 9000) : m.natAbs.log2 < 9000 := Nat.lt_of_lt_of_le (PySem.Flt.log2_lt_of h0 h) hb
theorem at0 {x y : V} : atI [x, y] 0 = some x := by
  have h : ([x, y] : List V)[0]? = some x := rfl
  exact atI_nat h
theorem at1 {x y : V} : atI [x, y] 1 = some y := by
  have h : ([x, y] : List V)[1]? = some y := rfl
  exact atI_nat h
section
variable {P : Program} {w : World} {K : PySem.W.Frag} {mg : Str → Option Value} {base : Heap} {C B : Addr}
abbrev s_draw : Stmt := top 15
theorem sc_draw : FnScope ["_law_pool_here", "_law_many", "_law_digit"] ["_law_pool_here", "_law_many"] (defScope s_draw) := ⟨rfl, rfl, rfl, by decide +kernel, rfl, by decide +kernel, by decide +kernel⟩
theorem ok_draw {f : Addr} {fd : FuncData} (F : Fun K "_law_draw" "_law_draw" s_draw f fd) (T : Bn mg) : FnOk P w K mg base CX0 1 f fd ["_law_pool_here", "_law_many"] spDraw := by
  refine F.ok sc_draw (fun vs H Q E h => ?_) (fun cdv A outer s H vs Q E hr h => ?_)
  · obtain ⟨a, m, rfl, _⟩ := h
    rfl
  · obtain ⟨a, m, rfl, ⟨_, ha, n, g, rfl, n0, n1, g0⟩, m0, ml, k⟩ := h
    have ia : ∀ {H' : Hp} {n g : Int}, H' a = some (.lst [.int n, .int g]) → SqL K H' a [.int n, .int g] := fun h => SqL.of h
    refine ⟨_, (pss_cons (ps_if (pt_cmpR op_ge (pe_ix ix_list (pv 0) pe_int (fun _ _ => rfl)) (pe_op op_pow pe_int pe_int) (nomark _))
        (pss_cons (ps_set (i := 2) sc_draw.nd rfl (Or.inl rfl) (pe_op op_modN (pe_callTy call_int1 (by rfl) T.n_int (by decide +kernel) (pa_cons (pe_ix ix_list (pv 0) pe_int (fun _ _ => rfl)) pa_nil)) (pv 1)))
          (pss_cons (ps_asg (pe_op op_fdivW (pe_ix ix_list (pv 0) pe_int (fun _ _ => rfl)) (pv 1)) (pg_sub (pv 0) pe_int set_list))
          (pss_one (ps_ret (pv 2)))))
        pss_nil)
      (pss_cons (ps_asg (pe_op op_modN (pe_callTy call_int1 (by rfl) T.n_int (by decide +kernel) (pa_cons (pe_op op_add (pe_op op_mul (pe_callTy call_int1 (by rfl) T.n_int (by decide +kernel) (pa_cons (pe_op op_add (pe_ix ix_list (pv 0) pe_int (fun _ _ => rfl)) pe_int) pa_nil)) pe_int) pe_int) pa_nil)) (pe_op op_pow pe_int pe_int)) (pg_sub (pv 0) pe_int set_list))
      (pss_one (ps_ret (pe_op op_modN (pe_callTy call_int1 (by rfl) T.n_int (by decide +kernel) (pa_cons (pe_op op_fdivW (pe_ix ix_list (pv 0) pe_int (fun _ _ => rfl)) pe_int) pa_nil)) (pv 1)))))), ?_⟩
    refine ⟨_, rfl, a, _, 1, _, rfl, rfl, ia ha, at1, 10, 9, rfl, rfl, ⟨by decide, by decide, by decide⟩, g, _, rfl, rfl, _, rfl, ite2 (fun e => ?_) (fun e => ?_)⟩
    · refine ⟨_, rfl, a, _, 1, _, rfl, rfl, ia ha, at1, .inl ⟨g, rfl, _, rfl, g, m, rfl, rfl, by omega, ?_⟩⟩
      refine ⟨_, rfl, a, _, 1, _, rfl, rfl, ia ha, at1, _, rfl, g, m, rfl, rfl, ⟨m0, ml⟩, ?_⟩
      refine ⟨_, rfl, a, _, 1, 1, rfl, rfl, ha, rfl, _, rfl, ?_⟩
      have e1 : g.fmod m = g % m := Int.fmod_eq_emod_of_nonneg g (by omega)
      show Q (.int (g.fmod m)) (upd H a (.lst [.int n, .int (g / m)]))
      rw [e1]
      exact k _ _ (Int.emod_nonneg g (by omega)) (Int.emod_lt_of_pos g m0) ⟨n, g / m, rfl, n0, n1, Int.ediv_nonneg g0 (by omega)⟩
    · refine ⟨_, rfl, a, _, 0, _, rfl, rfl, ia ha, at0, n, 7919, rfl, rfl, .inl ⟨n + 7919, rfl, _, _, rfl, rfl, .inr ⟨by decide, by decide⟩, _, _, rfl, rfl, .inl ⟨_, rfl, ?_⟩⟩⟩
      refine ⟨2, 64, rfl, rfl, ⟨by decide, by decide, by decide⟩, _, _, rfl, rfl, (by show ((2 : Int) ^ (64 : Int).toNat) ≠ 0; decide +kernel), ?_⟩
      refine ⟨_, rfl, a, _, 0, 0, rfl, rfl, ha, rfl, ?_⟩
      obtain ⟨z0, z1⟩ := nextN_ok n
      refine ⟨_, rfl, a, _, 0, _, rfl, rfl, ia (n := nextN n) (g := g) upd_same, at0, nextN n, 65536, rfl, rfl, ⟨by decide, by decide⟩, .inl ⟨_, rfl, _, rfl, _, m, rfl, rfl, by omega, ?_⟩⟩
      have e1 : (nextN n / 65536).fmod m = (nextN n / 65536) % m := Int.fmod_eq_emod_of_nonneg _ (by omega)
      show Q (.int ((nextN n / 65536).fmod m)) (upd H a (.lst [.int (nextN n), .int g]))
      rw [e1]
      exact k _ _ (Int.emod_nonneg _ (by omega)) (Int.emod_lt_of_pos _ m0) ⟨nextN n, g, rfl, z0, z1, g0⟩
abbrev s_pick : Stmt := top 16
theorem sc_pick : FnScope ["_law_pool_here", "_law_things"] ["_law_pool_here", "_law_things"] (defScope s_pick) := ⟨rfl, rfl, rfl, by decide +kernel, rfl, by decide +kernel, by decide +kernel⟩
theorem ok_pick {f : Addr} {fd : FuncData} (F : Fun K "_law_pick" "_law_pick" s_pick f fd) (T : Bn mg) (c_draw : Cal P w K mg base 1 "_law_draw" ["_law_pool_here", "_law_many"] spDraw) :
    FnOk P w K mg base CX0 2 f fd ["_law_pool_here", "_law_things"] (spPick K) := by
  refine F.ok sc_pick (fun vs H Q E h => ?_) (fun cdv A outer s H vs Q E hr h => ?_)
  · obtain ⟨a, t, xs, rfl, _⟩ := h
    rfl
  · obtain ⟨a, t, xs, rfl, hp, ht, h0, h1, k⟩ := h
    refine ⟨_, (pss_one (ps_ret (pe_ix ix_tup (pv 1) (pe_cal c_draw (hr.mono (by decide)) rfl (pa_cons (pv 0) (pa_cons (pe_callB call_len_seq (by rfl) T.n_len PySem.boot_len (pa_cons (pv 1) pa_nil)) pa_nil))) (fun _ _ => rfl)))), ?_⟩
    refine ⟨_, rfl, _, rfl, _, rfl, t, xs, rfl, .inr ht, a, _, rfl, hp, by omega, ?_, fun r o r0 r1 ho => ?_⟩
    · exact log_small (b := 10) (by show ((xs.length : Int)).natAbs < 2 ^ 10; rw [Int.natAbs_natCast]; omega) (by decide) (by decide)
    · have hlt : r.toNat < xs.length := by omega
      refine ⟨t, xs, r, xs[r.toNat], rfl, rfl, SqT.put hp ht, ?_, ?_⟩
      · have h := atI_nat (xs := xs) (j := r.toNat) (v := xs[r.toNat]) (by simp [hlt])
        rw [Int.toNat_of_nonneg r0] at h
        exact h
      · exact k _ _ (List.getElem_mem hlt) ho
end
end Kk

set_option Elab.async false
set_option linter.all false
set_option maxRecDepth 100000
set_option maxHeartbeats 4000000
namespace Kk
open PySem L2
theorem take_more {α : Type} : ∀ {l : List α} {i : Nat} {x : α}, l[i]? = some x → l.take (i + 1) = l.take i ++ [x]
  | [], i, x, h => by simp at h
  | a :: l, 0, x, h => by
    have e : a = x := Option.some.inj h
    subst e
    rfl
  | a :: l, i + 1, x, h => by
    have ih := take_more (l := l) (i := i) (x := x) h
    show a :: l.take (i + 1) = a :: l.take i ++ [x]
    rw [ih]
    rfl
theorem at_map {ms : List Int} {i : Nat} {x : V} (h : (ms.map V.int)[i]? = some x) : ∃ z, ms[i]? = some z ∧ x = .int z := by
  rw [List.getElem?_map] at h
  cases e : ms[i]? with
  | none => rw [e] at h; cases h
  | some z => rw [e] at h; exact ⟨z, rfl, (Option.some.inj h).symm⟩
theorem cut_map (ns : List Int) (lo hi : Option Int) : ∃ ms : List Int, cutV (ns.map V.int) lo hi = ms.map V.int ∧ ms.length ≤ ns.length := by
  refine ⟨(ns.drop (HT.sIx (ns.map V.int).length 0 lo)).take (HT.sIx (ns.map V.int).length (ns.map V.int).length hi - HT.sIx (ns.map V.int).length 0 lo), ?_, ?_⟩
  · unfold cutV
    rw [List.map_take, List.map_drop]
  · rw [List.length_take, List.length_drop]
    omega
theorem yes_of {σ : St} {H : Hp} {A B : Hp → Prop} (h : A H) : tYes σ H (fun b H3 => if b = true then A H3 else B H3) := by
  show (if true = true then A H else B H)
  rw [if_pos rfl]
  exact h
def spPool (K : PySem.W.Frag) : Sp := fun vs H Q _ => ∃ (a : Addr) (ns : List Int), vs = [.ref a] ∧ SqL K H a (ns.map V.int) ∧ ns.length ≤ 63 ∧ ∀ (p : Addr) (H' : Hp), Same H H' → H p = none → PoolAt H' p → Q (.ref p) H'
theorem sml {n : Nat} (h : n ≤ 1000) : n < sizeLine := small1000 h
theorem same_free {H H' : Hp} {p : Addr} (s : Same H H') (h : H' p = none) : H p = none := s.free h
section
variable {P : Program} {w : World} {K : PySem.W.Frag} {mg : Str → Option Value} {base : Heap} {C B : Addr}
abbrev s_pool : Stmt := top 14
theorem sc_pool : FnScope ["_law_script", "_law_cells", "_law_number_here", "_law_cell", "_law_great"] ["_law_script"] (defScope s_pool) := ⟨rfl, rfl, rfl, by decide +kernel, rfl, by decide +kernel, by decide +kernel⟩
theorem ok_pool {f : Addr} {fd : FuncData} (F : Fun K "_law_pool" "_law_pool" s_pool f fd) (T : Bn mg) : FnOk P w K mg base CX0 1 f fd ["_law_script"] (spPool K) := by
  refine F.ok sc_pool (fun vs H Q E h => ?_) (fun cdv A outer s H vs Q E hr h => ?_)
  · obtain ⟨a, ns, rfl, _⟩ := h
    rfl
  · obtain ⟨a, ns, rfl, ha, hl, k⟩ := h
    refine ⟨_, (pss_cons (ps_set (i := 1) sc_pool.nd rfl (Or.inl rfl) (pe_op op_cat (pe_lc (own := [("_law_cell", 3)]) rfl sc_pool.nd (pi_list (pe_slice sl_list (pv 0) po_none (po_some pe_int))) (blkOk_by (N := ["_law_script", "_law_cells", "_law_number_here", "_law_cell", "_law_great"]) (sc := defScope s_pool) (by decide +kernel)) (fun _ _ _ _ _ => (pg_name (i := 3) sc_pool.nd rfl (Or.inl rfl))) (fun _ _ _ _ _ => pts_nil) (fun _ _ _ _ _ => (pe_callTy call_int1 (by rfl) T.n_int (by decide +kernel) (pa_cons (pv 3) pa_nil)))) (pe_lst (pa_cons (pe_callB call_len_seq (by rfl) T.n_len PySem.boot_len (pa_cons (pe_slice sl_list (pv 0) po_none (po_some pe_int)) pa_nil)) pa_nil))))
      (pss_cons (ps_set (i := 2) sc_pool.nd rfl (Or.inl rfl) pe_int)
      (pss_cons (ps_for PassesOwn.never rfl (pi_list (pv 1)) (pg_name (i := 3) sc_pool.nd rfl (Or.inl rfl))
        (pss_one (ps_set (i := 2) sc_pool.nd rfl (Or.inl rfl) (pe_op op_modN (pe_callTy call_int1 (by rfl) T.n_int (by decide +kernel) (pa_cons (pe_op op_add (pe_op op_add (pe_op op_mul (pv 2) pe_int) (pv 3)) pe_int) pa_nil)) (pe_op op_sub (pe_op op_pow pe_int pe_int) pe_int)))))
      (pss_cons (ps_setLc (i := 4) (own := [("_law_cell", 3)]) rfl sc_pool.nd rfl rfl (sw_true rfl rfl rfl (by decide +kernel)) (pi_list (pv 1)) (blkOk_by (N := ["_law_script", "_law_cells", "_law_number_here", "_law_cell", "_law_great"]) (sc := defScope s_pool) (by decide +kernel)) (fun _ _ _ _ _ => (pg_name (i := 3) sc_pool.nd rfl (Or.inl rfl))) (fun _ _ _ _ _ => (pts_one (pt_cmpR op_ge (pe_callB call_abs (by rfl) T.n_abs (by decide +kernel) (pa_cons (pv 3) pa_nil)) (pe_op op_pow pe_int pe_int) (nomark _)))) (fun _ _ _ _ _ => (pe_callB call_abs (by rfl) T.n_abs (by decide +kernel) (pa_cons (pv 3) pa_nil))))
      (pss_one (ps_ret (pe_lst (pa_cons (pv 2) (pa_cons (pe_ix ix_list (pe_op op_cat (pv 4) (pe_lst (pa_cons pe_int pa_nil))) pe_int (fun _ _ => rfl)) pa_nil))))))))), ?_⟩
    obtain ⟨ms, hms, hml⟩ := cut_map ns none (some 60)
    -- the cells
    refine ⟨_, rfl, _, rfl, a, _, rfl, ha, fun p1 np1 => ?_⟩
    rw [hms]
    refine ⟨p1, rfl, ⟨_, SqL.of upd_same⟩, fun D nD => ?_⟩
    refine lc_list (K := K) (a := p1) (xs := ms.map V.int) (fun i H' => H' = upd (upd H p1 (.lst (ms.map V.int))) D (.lst ((ms.take i).map V.int))) rfl (fun i H' hi e => ?_) ?_ ?_
    · rw [e]
      have ne : p1 ≠ D := fun z => by rw [← z, upd_same] at nD; cases nD
      exact SqL.of (by rw [upd_ne ne, upd_same])
    · rintro i x H' hi rfl
      obtain ⟨z, hz, rfl⟩ := at_map hi
      refine ⟨rfl, yes_of ?_⟩
      refine ⟨_, rfl, .inl ⟨z, rfl, _, upd_same, ?_, ?_⟩⟩
      · rw [List.length_map, List.length_take]
        exact sml (by omega)
      · rw [upd_upd, take_more hz, List.map_append]
        rfl
    · rintro H' rfl
      rw [List.length_map, List.take_length]
      have s1 : Same H (upd (upd H p1 (.lst (ms.map V.int))) D (.lst (ms.map V.int))) := (Same.put np1).trans (Same.put nD)
      have eD : (upd (upd H p1 (.lst (ms.map V.int))) D (.lst (ms.map V.int))) D = some (.lst (ms.map V.int)) := upd_same
      generalize (upd (upd H p1 (.lst (ms.map V.int))) D (.lst (ms.map V.int))) = H1 at s1 eD ⊢
      refine ⟨_, rfl, _, rfl, a, _, rfl, s1.seq ha, fun p2 np2 => ?_⟩
      rw [hms]
      refine ⟨p2, _, rfl, .inl (SqL.of upd_same), by show 1 ≤ sizeLine; decide, fun p3 np3 => ?_⟩
      rw [List.length_map]
      have s2 : Same H1 (upd (upd H1 p2 (.lst (ms.map V.int))) p3 (.lst [V.int (ms.length : Int)])) := (Same.put np2).trans (Same.put np3)
      refine ⟨D, p3, ms.map V.int, [V.int (ms.length : Int)], rfl, rfl, s2 _ _ eD, upd_same, ?_, fun p4 np4 => ?_⟩
      · rw [List.length_map]
        exact Nat.le_of_lt (sml (by show ms.length + 1 ≤ 1000; omega))
      have s3 : Same H (upd (upd (upd H1 p2 (.lst (ms.map V.int))) p3 (.lst [V.int (ms.length : Int)])) p4 (.lst ((ms ++ [(ms.length : Int)]).map V.int))) := (s1.trans s2).trans (Same.put np4)
      have e4 : (ms.map V.int ++ [V.int (ms.length : Int)]) = (ms ++ [(ms.length : Int)]).map V.int := by rw [List.map_append]; rfl
      rw [e4]
      have eC : (upd (upd (upd H1 p2 (.lst (ms.map V.int))) p3 (.lst [V.int (ms.length : Int)])) p4 (.lst ((ms ++ [(ms.length : Int)]).map V.int))) p4 = some (.lst ((ms ++ [(ms.length : Int)]).map V.int)) := upd_same
      have hcl : (ms ++ [(ms.length : Int)]).length ≤ 64 := by
        rw [List.length_append]
        show ms.length + 1 ≤ 64
        omega
      generalize (upd (upd (upd H1 p2 (.lst (ms.map V.int))) p3 (.lst [V.int (ms.length : Int)])) p4 (.lst ((ms ++ [(ms.length : Int)]).map V.int))) = H4 at s3 eC ⊢
      generalize ms ++ [(ms.length : Int)] = cs at eC hcl ⊢
      -- the number
      refine ⟨_, rfl, p4, rfl, ⟨_, SqL.of eC⟩, for_list (K := K) (a := p4) (xs := cs.map V.int) (fun i σ H' => H' = H4 ∧ ∃ (n : Int) (v : Option V), 0 ≤ n ∧ n < 2 ^ 64 ∧ σ = [some (.ref a), some (.ref p4), some (.int n), v, none]) ⟨rfl, 7, none, by decide, by decide, rfl⟩ (fun i σ H' _ h => by rw [h.1]; exact SqL.of eC) ?_ ?_⟩
      · rintro i x σ H' hi ⟨rfl, n, v, n0, n1, rfl⟩
        obtain ⟨z, hz, rfl⟩ := at_map hi
        refine ⟨_, rfl, _, _, rfl, rfl, .inr ⟨by decide, by decide⟩, _, rfl, _, _, rfl, rfl, _, _, rfl, rfl, .inl ⟨_, rfl, 2, 61, rfl, rfl, ⟨by decide, by decide, by decide⟩, _, _, rfl, rfl, _, _, rfl, rfl, ?_, rfl, ?_⟩⟩
        · show ((2 : Int) ^ (61 : Int).toNat - 1) ≠ 0
          decide +kernel
        · have e : ((2 : Int) ^ (61 : Int).toNat - 1) = 2305843009213693951 := by decide +kernel
          refine ⟨(n * 48271 + z + 11).fmod ((2 : Int) ^ (61 : Int).toNat - 1), some (.int z), ?_, ?_, rfl⟩
          · rw [e, Int.fmod_eq_emod_of_nonneg _ (by decide)]
            exact Int.emod_nonneg _ (by decide)
          · rw [e, Int.fmod_eq_emod_of_nonneg _ (by decide)]
            exact Int.lt_trans (Int.emod_lt_of_pos _ (by decide)) (by decide)
      · rintro σ H4 ⟨rfl, n, v, n0, n1, rfl⟩
        -- the great cells
        refine ⟨_, rfl, p4, rfl, ⟨_, SqL.of eC⟩, fun G nG => ?_⟩
        refine lc_list (K := K) (a := p4) (xs := cs.map V.int) (fun i H' => ∃ gs : List Int, H' = upd H4 G (.lst (gs.map V.int)) ∧ gs.length ≤ i ∧ ∀ g ∈ gs, 0 ≤ g) ⟨[], rfl, Nat.le_refl _, fun _ h => by cases h⟩ (fun i H' hi h => ?_) ?_ ?_
        · obtain ⟨gs, e, _⟩ := h
          rw [e]
          exact SqL.of (by rw [upd_ne (ne_of_none eC nG)]; exact eC)
        · rintro i x H' hi ⟨gs, rfl, gl, g0⟩
          obtain ⟨z, hz, rfl⟩ := at_map hi
          have hi2 : i < cs.length := (List.getElem?_eq_some_iff.mp hz).1
          refine ⟨rfl, _, rfl, z, rfl, 10, 18, rfl, rfl, ⟨by decide, by decide, by decide⟩, _, _, rfl, rfl, _, rfl, iteB (fun _ => ?_) (fun _ => ?_)⟩
          · refine ⟨_, rfl, z, rfl, _, upd_same, ?_, gs ++ [if z < 0 then -z else z], ?_, ?_, ?_⟩
            · rw [List.length_map]
              exact sml (by omega)
            · rw [upd_upd, List.map_append]
              rfl
            · rw [List.length_append]
              show gs.length + 1 ≤ i + 1
              omega
            · intro g hg
              rcases List.mem_append.mp hg with h | h
              · exact g0 g h
              · have e := List.mem_singleton.mp h
                rw [e]
                split <;> omega
          · exact ⟨gs, rfl, Nat.le_succ_of_le gl, g0⟩
        · rintro H' ⟨gs, rfl, gl, g0⟩
          rw [List.length_map] at gl
          have s4 : Same H (upd H4 G (.lst (gs.map V.int))) := s3.trans (Same.put nG)
          have eG : (upd H4 G (.lst (gs.map V.int))) G = some (.lst (gs.map V.int)) := upd_same
          generalize (upd H4 G (.lst (gs.map V.int))) = H5 at s4 eG ⊢
          refine ⟨_, rfl, _, rfl, by show 1 ≤ sizeLine; decide, fun p5 np5 => ?_⟩
          refine ⟨G, p5, gs.map V.int, [.int 0], rfl, rfl, Same.put np5 _ _ eG, upd_same, ?_, fun p6 np6 => ?_⟩
          · rw [List.length_map]
            exact Nat.le_of_lt (sml (by show gs.length + 1 ≤ 1000; omega))
          have hd : ∃ g : Int, (gs.map V.int ++ [V.int 0])[0]? = some (V.int g) ∧ 0 ≤ g := by
            cases gs with
            | nil => exact ⟨0, rfl, Int.le_refl _⟩
            | cons g r => exact ⟨g, rfl, g0 g (List.mem_cons_self ..)⟩
          obtain ⟨g, hg, gg⟩ := hd
          refine ⟨p6, _, 0, .int g, rfl, rfl, SqL.of upd_same, atI_nat hg, by show 2 ≤ sizeLine; decide, fun p7 np7 => ?_⟩
          have s5 := ((s4.trans (Same.put np5)).trans (Same.put np6)).trans (Same.put (o := .lst [.int n, .int g]) np7)
          exact k p7 _ s5 (((s4.trans (Same.put np5)).trans (Same.put np6)).free np7) ⟨_, upd_same, n, g, rfl, n0, n1, gg⟩
end
end Kk

set_option Elab.async false
set_option linter.all false
set_option maxRecDepth 100000
set_option maxHeartbeats 4000000
namespace Kk
open PySem L2
/-! ### the greatest common divisor -/
theorem gcd_turn (a b : Int) : Nat.gcd b.natAbs (a.fmod b).natAbs = Nat.gcd a.natAbs b.natAbs := by
  have e : a.fmod b = a - b * a.fdiv b := Int.fmod_def a b
  refine Nat.dvd_antisymm (Nat.dvd_gcd ?_ ?_) (Nat.dvd_gcd ?_ ?_)
  · have h1 : ((Nat.gcd b.natAbs (a.fmod b).natAbs : Nat) : Int) ∣ b := Int.ofNat_dvd_left.mpr (Nat.gcd_dvd_left _ _)
    have h2 : ((Nat.gcd b.natAbs (a.fmod b).natAbs : Nat) : Int) ∣ a.fmod b := Int.ofNat_dvd_left.mpr (Nat.gcd_dvd_right _ _)
    refine Int.ofNat_dvd_left.mp ?_
    have e2 : a = a.fmod b + b * a.fdiv b := by omega
    have h3 := Int.dvd_add h2 (Int.dvd_mul_of_dvd_left (c := a.fdiv b) h1)
    rw [← e2] at h3
    exact h3
  · exact Nat.gcd_dvd_left _ _
  · exact Nat.gcd_dvd_right _ _
  · have h1 : ((Nat.gcd a.natAbs b.natAbs : Nat) : Int) ∣ a := Int.ofNat_dvd_left.mpr (Nat.gcd_dvd_left _ _)
    have h2 : ((Nat.gcd a.natAbs b.natAbs : Nat) : Int) ∣ b := Int.ofNat_dvd_left.mpr (Nat.gcd_dvd_right _ _)
    refine Int.ofNat_dvd_left.mp ?_
    rw [e]
    exact Int.dvd_sub h1 (Int.dvd_mul_of_dvd_left h2)
theorem fmod_lt (a : Int) {b : Int} (h : b ≠ 0) : (a.fmod b).natAbs < b.natAbs := by
  have e := Int.fmod_eq_emod (a := a) (b := b)
  have h0 := Int.emod_nonneg a h
  have h1 := Int.emod_lt a h
  split at e
  · omega
  · rename_i hn
    have hb : b < 0 := by
      by_cases z : 0 ≤ b
      · exact absurd (.inl z) hn
      · omega
    have nz : a % b ≠ 0 := fun z => hn (.inr (Int.dvd_of_emod_eq_zero z))
    omega
theorem lowT_neg (a b : Int) : lowT a b = a.fdiv (sg a b) := rfl
/-! ### the law's own helpers -/
def spDivi : Sp := fun vs H Q _ => ∃ a b : Int, vs = [.int a, .int b] ∧ Q (.int ((Nat.gcd a.natAbs b.natAbs : Nat) : Int)) H
def spPart : Sp := fun vs H Q _ => ∃ a b : Int, vs = [.int a, .int b] ∧ b ≠ 0 ∧ b.natAbs.log2 < 9000 ∧ ∀ (t : Addr) (H' : Hp), Same H H' → H t = none → H' t = some (.tup [.int (lowT a b), .int (lowB a b)]) → Q (.ref t) H'
def spInteger : Sp := fun vs H Q _ => ∃ a : Addr, vs = [.ref a] ∧ PoolAt H a ∧ ∀ (n : Int) (H' : Hp), n.natAbs < 10 ^ 12 → Keep a H H' → PoolAt H' a → Q (.int n) H'
def spFraction : Sp := fun vs H Q _ => ∃ a : Addr, vs = [.ref a] ∧ PoolAt H a ∧ ∀ (t : Addr) (x y : Int) (H' : Hp), x.natAbs < 10 ^ 12 → y ≠ 0 → y.natAbs < 10 ^ 12 → Keep a H H' → PoolAt H' a → H' t = some (.tup [.int x, .int y]) → Q (.ref t) H'
section
variable {P : Program} {w : World} {K : PySem.W.Frag} {mg : Str → Option Value} {base : Heap} {C B : Addr}
abbrev s_number : Stmt := top 17
theorem sc_number : FnScope ["_law_thing"] ["_law_thing"] (defScope s_number) := ⟨rfl, rfl, rfl, by decide +kernel, rfl, by decide +kernel, by decide +kernel⟩
theorem ok_number {f : Addr} {fd : FuncData} (F : Fun K "_law_number" "_law_number" s_number f fd) (T : Bn mg) (I : InsT K C) : FnOk P w K mg base CX0 1 f fd ["_law_thing"] (spWhole K C) := by
  refine F.ok sc_number (fun vs H Q E h => ?_) (fun cdv A outer s H vs Q E hr h => ?_)
  · obtain ⟨x, rfl, _⟩ := h
    rfl
  · obtain ⟨x, rfl, h, k⟩ := h
    refine ⟨_, (pss_one (ps_ret (pe_and (pe_callB call_isi (by rfl) T.n_isinstance (by decide +kernel) (pa_cons (pv 0) (pa_cons (pe_bltn (v := .ty "int") rfl T.n_int (by decide +kernel) rfl) pa_nil))) (pe_one (pe_not (pe_callB call_isi (by rfl) T.n_isinstance (by decide +kernel) (pa_cons (pv 0) (pa_cons (pe_bltn (v := .ty "bool") rfl T.n_bool (by decide +kernel) rfl) pa_nil)))))))), ?_⟩
    obtain ⟨t, ty, k1, k2⟩ := h.isInt I
    refine ⟨_, rfl, x, .ty "int", t, _, _, rfl, .ty _, ty, k1, _, rfl, ?_⟩
    cases e : isIB x with
    | true =>
      refine iteT ⟨_, rfl, x, .ty "bool", t, _, _, rfl, .ty _, ty, k2, _, rfl, ?_⟩
      have : (!isB x) = isI x := by cases x <;> first | rfl | (simp [isIB] at e)
      rw [this]
      exact k
    | false =>
      refine iteF ?_
      have : isI x = false := by cases x <;> first | rfl | (simp [isIB] at e)
      rw [this] at k
      exact k
abbrev s_divi : Stmt := top 18
theorem sc_divi : FnScope ["_law_one", "_law_other"] ["_law_one", "_law_other"] (defScope s_divi) := ⟨rfl, rfl, rfl, by decide +kernel, rfl, by decide +kernel, by decide +kernel⟩
theorem ok_divi {f : Addr} {fd : FuncData} (F : Fun K "_law_divisor" "_law_divisor" s_divi f fd) (T : Bn mg) : FnOk P w K mg base CX0 1 f fd ["_law_one", "_law_other"] spDivi := by
  refine F.ok sc_divi (fun vs H Q E h => ?_) (fun cdv A outer s H vs Q E hr h => ?_)
  · obtain ⟨a, b, rfl, _⟩ := h
    rfl
  · obtain ⟨a, b, rfl, k⟩ := h
    refine ⟨_, (pss_cons (ps_while PassesOwn.never (pt_cmpR op_ne (pv 1) pe_int (nomark _))
        (pss_one (ps_par (i := 0) (j := 1) (by rfl) sc_divi.nd rfl rfl (by decide) rfl rfl (pa_cons (pv 1) (pa_cons (pe_op op_modN (pe_callTy call_int1 (by rfl) T.n_int (by decide +kernel) (pa_cons (pv 0) pa_nil)) (pv 1)) pa_nil)) (by rfl))))
      (pss_one (ps_ret (pe_callB call_abs (by rfl) T.n_abs (by decide +kernel) (pa_cons (pv 0) pa_nil))))), ?_⟩
    refine while_by (fun σ H' => H' = H ∧ ∃ x y : Int, σ = [some (.int x), some (.int y)] ∧ Nat.gcd x.natAbs y.natAbs = Nat.gcd a.natAbs b.natAbs) (fun σ _ => match σ with | [_, some (.int y)] => y.natAbs | _ => 0) ⟨rfl, a, b, rfl, rfl⟩ ?_ ?_
    · rintro σ H1 ⟨rfl, x, y, rfl, hg⟩
      refine ⟨_, rfl, rfl, _, rfl, iteB (fun z => ?_) (fun z => ?_)⟩
      · have nz : y ≠ 0 := fun e => by
          rw [e] at z
          simp at z
        refine ⟨_, rfl, _, rfl, .inl ⟨x, rfl, _, rfl, x, y, rfl, rfl, nz, _, _, rfl, ⟨rfl, y, x.fmod y, rfl, ?_⟩, ?_⟩⟩
        · rw [gcd_turn]
          exact hg
        · exact fmod_lt x nz
      · have e : y = 0 := by
          have := of_decide_eq_true (by simpa using z : decide (V.int y = V.int 0) = true)
          exact V.int.inj this
        subst e
        refine ⟨_, rfl, x, rfl, ?_⟩
        have h0 : Nat.gcd x.natAbs (0 : Int).natAbs = x.natAbs := Nat.gcd_zero_right _
        rw [h0] at hg
        have e2 : (if x < 0 then -x else x) = ((Nat.gcd a.natAbs b.natAbs : Nat) : Int) := by
          rw [← hg]
          split <;> omega
        show Q (.int (if x < 0 then -x else x)) _
        rw [e2]
        exact k
    · rintro σ H1 Q1 Q2 hm ⟨v, hv, e1, k, e3, q⟩
      exact ⟨v, hv, e1, k, e3, hm _ _ q⟩
end
end Kk

set_option Elab.async false
set_option linter.all false
set_option maxRecDepth 100000
set_option maxHeartbeats 4000000
namespace Kk
open PySem L2
theorem mulS (i j : Int) (h : -(2 ^ 64) < j ∧ j < 2 ^ 64) : CMul i j := .inr h
theorem mulS' (i j : Int) (h : -(2 ^ 64) < i ∧ i < 2 ^ 64) : CMul i j := .inl h
section
variable {P : Program} {w : World} {K : PySem.W.Frag} {mg : Str → Option Value} {base : Heap} {C B : Addr}
abbrev s_part : Stmt := top 19
theorem sc_part : FnScope ["_law_top", "_law_bottom", "_law_divisor_here"] ["_law_top", "_law_bottom"] (defScope s_part) := ⟨rfl, rfl, rfl, by decide +kernel, rfl, by decide +kernel, by decide +kernel⟩
theorem ok_part {f : Addr} {fd : FuncData} (F : Fun K "_law_part" "_law_part" s_part f fd) (c_divi : Cal P w K mg base 1 "_law_divisor" ["_law_one", "_law_other"] spDivi) : FnOk P w K mg base CX0 2 f fd ["_law_top", "_law_bottom"] spPart := by
  refine F.ok sc_part (fun vs H Q E h => ?_) (fun cdv A outer s H vs Q E hr h => ?_)
  · obtain ⟨a, b, rfl, _⟩ := h
    rfl
  · obtain ⟨a, b, rfl, nz, hl, k⟩ := h
    refine ⟨_, (pss_cons (ps_set (i := 2) sc_part.nd rfl (Or.inl rfl) (pe_cal c_divi (hr.mono (by decide)) rfl (pa_cons (pv 0) (pa_cons (pv 1) pa_nil))))
      (pss_cons (ps_if (pt_cmpR op_lt (pv 1) pe_int (nomark _))
        (pss_one (ps_set (i := 2) sc_part.nd rfl (Or.inl rfl) (pe_un un_neg (pv 2))))
        pss_nil)
      (pss_one (ps_ret (pe_tup (pa_cons (pe_op op_fdivG (pv 0) (pv 2)) (pa_cons (pe_op op_fdivG (pv 1) (pv 2)) pa_nil))))))), ?_⟩
    refine ⟨_, rfl, _, rfl, a, b, rfl, ?_⟩
    have fin : ∀ (c : Int), c = sg a b → (tRet (tTup (tCons (tOp (rI CDivG fun i j => .int (i.fdiv j)) (tVar 0) (tVar 2)) (tCons (tOp (rI CDivG fun i j => .int (i.fdiv j)) (tVar 1) (tVar 2)) tNil))))
        { nx := fun _ H' => Q .non H', rt := Q } [some (.int a), some (.int b), some (.int c)] H := by
      rintro c rfl
      refine ⟨_, rfl, _, rfl, a, _, rfl, rfl, sg_div nz hl a, _, rfl, _, rfl, b, _, rfl, rfl, sg_div nz hl b, by show 2 ≤ sizeLine; decide, fun t nt => ?_⟩
      exact k t _ (Same.put nt) nt upd_same
    refine ⟨_, rfl, b, 0, rfl, rfl, _, rfl, iteB (fun z => ?_) (fun z => ?_)⟩
    · have hb : b < 0 := of_decide_eq_true z
      refine ⟨_, rfl, _, rfl, ?_⟩
      refine fin _ ?_
      unfold sg
      rw [if_neg (by omega)]
    · have hb : ¬ b < 0 := of_decide_eq_false z
      refine fin _ ?_
      unfold sg
      rw [if_pos (by omega)]
abbrev s_integer : Stmt := top 20
theorem sc_integer : FnScope ["_law_pool_here", "_law_way", "_law_number_here"] ["_law_pool_here"] (defScope s_integer) := ⟨rfl, rfl, rfl, by decide +kernel, rfl, by decide +kernel, by decide +kernel⟩
theorem l6 : (6 : Int).natAbs.log2 < 9000 := by decide
theorem ok_integer {f : Addr} {fd : FuncData} (F : Fun K "_law_integer" "_law_integer" s_integer f fd) (c_draw : Cal P w K mg base 1 "_law_draw" ["_law_pool_here", "_law_many"] spDraw) :
    FnOk P w K mg base CX0 2 f fd ["_law_pool_here"] spInteger := by
  refine F.ok sc_integer (fun vs H Q E h => ?_) (fun cdv A outer s H vs Q E hr h => ?_)
  · obtain ⟨a, rfl, _⟩ := h
    rfl
  · obtain ⟨a, rfl, hp, k⟩ := h
    refine ⟨_, (pss_cons (ps_set (i := 1) sc_integer.nd rfl (Or.inl rfl) (pe_cal c_draw (hr.mono (by decide)) rfl (pa_cons (pv 0) (pa_cons pe_int pa_nil))))
      (pss_cons (ps_if (pt_cmpR op_eq (pv 1) pe_int (nomark _))
        (pss_one (ps_set (i := 2) sc_integer.nd rfl (Or.inl rfl) (pe_cal c_draw (hr.mono (by decide)) rfl (pa_cons (pv 0) (pa_cons (pe_op op_pow pe_int pe_int) pa_nil)))))
        (pss_one (ps_if (pt_cmpR op_eq (pv 1) pe_int (nomark _))
            (pss_one (ps_set (i := 2) sc_integer.nd rfl (Or.inl rfl) (pe_op op_sub (pe_op op_sub (pe_op op_pow pe_int pe_int) pe_int) (pe_cal c_draw (hr.mono (by decide)) rfl (pa_cons (pv 0) (pa_cons pe_int pa_nil))))))
            (pss_one (ps_set (i := 2) sc_integer.nd rfl (Or.inl rfl) (pe_cal c_draw (hr.mono (by decide)) rfl (pa_cons (pv 0) (pa_cons (pe_ix ix_tup (pe_tup (pa_cons pe_int (pa_cons pe_int (pa_cons pe_int pa_nil)))) (pe_op op_modN (pv 1) pe_int) (fun _ _ => rfl)) pa_nil))))))))
      (pss_one (ps_ret (pe_op op_mul (pv 2) (pe_op op_sub pe_int (pe_op op_mul pe_int (pe_cal c_draw (hr.mono (by decide)) rfl (pa_cons (pv 0) (pa_cons pe_int pa_nil)))))))))), ?_⟩
    refine ⟨_, rfl, a, 6, rfl, hp, by decide, l6, fun r o r0 r1 ho => ?_⟩
    -- the end: the number and its sign
    have fin : ∀ (n : Int) (H1 : Hp), 0 ≤ n → n < 10 ^ 12 → Keep a H H1 → PoolAt H1 a → (tRet (tOp (rI CMul fun i j => .int (i * j)) (tVar 2) (tOp (rI0 fun i j => .int (i - j)) (tC (.int 1)) (tOp (rI CMul fun i j => .int (i * j)) (tC (.int 2)) (tCall spDraw [] E0 (tCons (tVar 0) (tCons (tC (.int 2)) tNil)))))))
        { nx := fun _ H' => Q .non H', rt := Q } [some (.ref a), some (.int r), some (.int n)] H1 := by
      intro n H1 n0 n1 kp hp1
      refine ⟨_, rfl, _, rfl, a, 2, rfl, hp1, by decide, by decide, fun b o2 b0 b1 ho2 => ?_⟩
      refine ⟨2, b, rfl, rfl, .inl ⟨by decide, by decide⟩, 1, 2 * b, rfl, rfl, n, 1 - 2 * b, rfl, rfl, .inr ⟨by omega, by omega⟩, ?_⟩
      refine k _ _ ?_ (kp.trans (.put o2)) (.put ho2)
      have hb : b = 0 ∨ b = 1 := by omega
      rcases hb with rfl | rfl
      · show (n * (1 - 2 * 0)).natAbs < 10 ^ 12
        omega
      · show (n * (1 - 2 * 1)).natAbs < 10 ^ 12
        omega
    refine ⟨_, rfl, rfl, _, rfl, iteB (fun z => ?_) (fun z => ?_)⟩
    · refine ⟨_, rfl, 10, 12, rfl, rfl, ⟨by decide, by decide, by decide⟩, a, _, rfl, .put ho, by decide, by decide +kernel, fun n o2 n0 n1 ho2 => ?_⟩
      exact fin n _ n0 n1 ((Keep.put o).trans (.put o2)) (.put ho2)
    · refine ⟨_, rfl, rfl, _, rfl, iteB (fun z => ?_) (fun z => ?_)⟩
      · refine ⟨10, 12, rfl, rfl, ⟨by decide, by decide, by decide⟩, _, 1, rfl, rfl, _, rfl, a, 3, rfl, .put ho, by decide, by decide, fun n o2 n0 n1 ho2 => ?_⟩
        refine ⟨_, n, rfl, rfl, ?_⟩
        have e : ((10 : Int) ^ (12 : Int).toNat - 1 - n) = 999999999999 - n := by
          have : ((10 : Int) ^ (12 : Int).toNat) = 1000000000000 := by decide +kernel
          rw [this]
          omega
        refine fin _ _ ?_ ?_ ((Keep.put o).trans (.put o2)) (.put ho2)
        · rw [e]; omega
        · rw [e]; omega
      · refine ⟨_, rfl, by show 3 ≤ sizeLine; decide, fun t nt => ⟨_, rfl, r, 3, rfl, rfl, (by show (3 : Int) ≠ 0; decide), ?_⟩⟩
        have e : r.fmod 3 = r % 3 := Int.fmod_eq_emod_of_nonneg r (by decide)
        have go : ∀ (m : Int), 0 < m → m ≤ 30 → spDraw ([V.ref a, .int m] ++ []) (upd (upd H a o) t (.tup [.int 2, .int 5, .int 30])) (fun v H1 => (tRet (tOp (rI CMul fun i j => .int (i * j)) (tVar 2) (tOp (rI0 fun i j => .int (i - j)) (tC (.int 1)) (tOp (rI CMul fun i j => .int (i * j)) (tC (.int 2)) (tCall spDraw [] E0 (tCons (tVar 0) (tCons (tC (.int 2)) tNil)))))))
            { nx := fun _ H' => Q .non H', rt := Q } [some (.ref a), some (.int r), some v] H1) E0 := by
          intro m m0 m1
          refine ⟨a, m, rfl, (PoolAt.put ho).new nt, m0, log_small (b := 10) (by show m.natAbs < 2 ^ 10; omega) (by decide) (by decide), fun n o2 n0 n1 ho2 => ?_⟩
          exact fin n _ n0 (by omega) (((Keep.put o).trans (.of (Same.put nt))).trans (.put o2)) (.put ho2)
        have hr3 : r % 3 = 0 ∨ r % 3 = 1 ∨ r % 3 = 2 := by omega
        rcases hr3 with h3 | h3 | h3
        · exact ⟨t, _, r.fmod 3, .int 2, rfl, rfl, .inl (.inl upd_same), by rw [e, h3]; rfl, go 2 (by decide) (by decide)⟩
        · exact ⟨t, _, r.fmod 3, .int 5, rfl, rfl, .inl (.inl upd_same), by rw [e, h3]; rfl, go 5 (by decide) (by decide)⟩
        · exact ⟨t, _, r.fmod 3, .int 30, rfl, rfl, .inl (.inl upd_same), by rw [e, h3]; rfl, go 30 (by decide) (by decide)⟩
end
end Kk

set_option Elab.async false
set_option linter.all false
set_option maxRecDepth 100000
set_option maxHeartbeats 4000000
namespace Kk
open PySem L2
theorem cast_goal {v u : V} {F : V → Hp → Prop} {H : Hp} (e : v = u) (h : F u H) : F v H := by
  rw [e]
  exact h
/-- _law_is(share, part), the part the share's own -/
def spIs (C : Addr) : Sp := fun vs H Q _ => ∃ (s t dx : Addr) (x y : Int), vs = [.ref s, .ref t] ∧ H s = some (.ins C dx (shF x y)) ∧ H t = some (.tup [.int x, .int y]) ∧ ∀ H', Same H H' → Q (.bl true) H'
def spText : Sp := fun vs H Q _ => ∃ (t : Addr) (x y : Int), vs = [.ref t] ∧ H t = some (.tup [.int x, .int y]) ∧ x.natAbs < 10 ^ 64 ∧ y.natAbs < 10 ^ 64 ∧ Q (.str (shT x y)) H
/-- how == of the two is told: one of both a share -/
def Cmp (K : PySem.W.Frag) (C : Addr) (H : Hp) (x y : V) (b : Bool) : Prop :=
  (∃ a dx fs, x = .ref a ∧ H a = some (.ins C dx fs) ∧ EqS K C a y b H ∧ ((∃ T, Fo K H y T) ∨ ∃ c dy gs, y = .ref c ∧ H c = some (.ins C dy gs))) ∨
    (∃ c dy gs T, y = .ref c ∧ H c = some (.ins C dy gs) ∧ Fo K H x T ∧ EqS K C c x b H)
def spEqual (K : PySem.W.Frag) (C : Addr) : Sp := fun vs H Q _ => ∃ (x y : V) (b : Bool), vs = [x, y, .bl b] ∧ Cmp K C H x y b ∧ Cmp K C H y x b ∧ ∀ H', Same H H' → Q (.bl true) H'
theorem dp2 {K : PySem.W.Frag} {H : Hp} {t : Addr} {x y : Int} (h : SqT K H t [.int x, .int y]) : Dp K H (.ref t) (.tuple [.int x, .int y]) := .tup h (.cons (.int x) (.cons (.int y) .nil))
theorem sh2 (x y : Int) : SeqAt.shaped (.tuple [.int x, .int y]) = true := rfl
section
variable {P : Program} {w : World} {K : PySem.W.Frag} {mg : Str → Option Value} {base : Heap} {C B : Addr}
abbrev s_fraction : Stmt := top 21
theorem sc_fraction : FnScope ["_law_pool_here", "_law_top", "_law_bottom", "_law_factor"] ["_law_pool_here"] (defScope s_fraction) := ⟨rfl, rfl, rfl, by decide +kernel, rfl, by decide +kernel, by decide +kernel⟩
theorem ok_fraction {f : Addr} {fd : FuncData} (F : Fun K "_law_fraction" "_law_fraction" s_fraction f fd) (T : Bn mg) (c_draw : Cal P w K mg base 1 "_law_draw" ["_law_pool_here", "_law_many"] spDraw)
    (c_pick : Cal P w K mg base 2 "_law_pick" ["_law_pool_here", "_law_things"] (spPick K)) (c_integer : Cal P w K mg base 2 "_law_integer" ["_law_pool_here"] spInteger) : FnOk P w K mg base CX0 3 f fd ["_law_pool_here"] spFraction := by
  refine F.ok sc_fraction (fun vs H Q E h => ?_) (fun cdv A outer s H vs Q E hr h => ?_)
  · obtain ⟨a, rfl, _⟩ := h
    rfl
  · obtain ⟨a, rfl, hp, k⟩ := h
    -- return (top, bottom)
    obtain ⟨u3, h3, q3⟩ : ∃ u, PSs (cxOf CX0 P w K mg base ["_law_pool_here", "_law_top", "_law_bottom", "_law_factor"] "_law_fraction" (defScope s_fraction) f cdv A outer s H E).nox ((defBody s_fraction).drop 3) u ∧
        ∀ (x y : Int) (v : Option V) (H1 : Hp), x.natAbs < 10 ^ 12 → y ≠ 0 → y.natAbs < 10 ^ 12 → Keep a H H1 → PoolAt H1 a → u { nx := fun _ H' => Q .non H', rt := Q } [some (.ref a), some (.int x), some (.int y), v] H1 :=
      ⟨_, pss_one (ps_ret (pe_tup (pa_cons (pv 1) (pa_cons (pv 2) pa_nil)))), fun x y v H1 hx ny hy kp p1 =>
        ⟨_, rfl, _, rfl, by show 2 ≤ sizeLine; decide, fun t nt => k t x y _ hx ny hy (kp.trans (.of (Same.put nt))) (p1.new nt) upd_same⟩⟩
    -- if a draw of 2 is 0: a common factor
    obtain ⟨u2, h2, q2⟩ : ∃ u, PSs (cxOf CX0 P w K mg base ["_law_pool_here", "_law_top", "_law_bottom", "_law_factor"] "_law_fraction" (defScope s_fraction) f cdv A outer s H E).nox ((defBody s_fraction).drop 2) u ∧
        ∀ (x y : Int) (H1 : Hp), x.natAbs < 10 ^ 12 → y ≠ 0 → y.natAbs < 10 ^ 12 → Keep a H H1 → PoolAt H1 a → u { nx := fun _ H' => Q .non H', rt := Q } [some (.ref a), some (.int x), some (.int y), none] H1 := by
      refine ⟨_, pss_cons (ps_if (pt_cmpR op_eq (pe_cal c_draw (hr.mono (by decide)) rfl (pa_cons (pv 0) (pa_cons pe_int pa_nil))) pe_int (nomark _))
          (pss_cons (ps_set (i := 3) sc_fraction.nd rfl (Or.inl rfl) (pe_op op_add pe_int (pe_cal c_draw (hr.mono (by decide)) rfl (pa_cons (pv 0) (pa_cons (pe_cal c_pick (hr.mono (by decide)) rfl (pa_cons (pv 0) (pa_cons (pe_tup (pa_cons pe_int (pa_cons pe_int (pa_cons (pe_op op_sub (pe_op op_pow pe_int pe_int) pe_int) pa_nil)))) pa_nil))) pa_nil)))))
          (pss_cons (ps_set (i := 1) sc_fraction.nd rfl (Or.inl rfl) (pe_op op_mul (pe_op op_mul (pe_op op_modN (pe_callTy call_int1 (by rfl) T.n_int (by decide +kernel) (pa_cons (pv 1) pa_nil)) (pe_op op_pow pe_int pe_int)) (pv 3)) (pe_op op_sub pe_int (pe_op op_mul pe_int (pe_cal c_draw (hr.mono (by decide)) rfl (pa_cons (pv 0) (pa_cons pe_int pa_nil)))))))
          (pss_one (ps_set (i := 2) sc_fraction.nd rfl (Or.inl rfl) (pe_op op_mul (pe_op op_mul (pe_op op_add pe_int (pe_op op_modN (pe_callTy call_int1 (by rfl) T.n_int (by decide +kernel) (pa_cons (pv 2) pa_nil)) (pe_op op_sub (pe_op op_pow pe_int pe_int) pe_int))) (pv 3)) (pe_op op_sub pe_int (pe_op op_mul pe_int (pe_cal c_draw (hr.mono (by decide)) rfl (pa_cons (pv 0) (pa_cons pe_int pa_nil))))))))))
          pss_nil) h3, fun x y H1 hx ny hy kp p1 => ?_⟩
      refine ⟨_, rfl, a, 2, rfl, p1, by decide, by decide, fun r o r0 r1 ho => ⟨rfl, _, rfl, iteB (fun z => ?_) (fun z => ?_)⟩⟩
      · have k2 := kp.trans (Keep.put o)
        have p2 : PoolAt (upd H1 a o) a := .put ho
        generalize (upd H1 a o) = H2 at k2 p2 ⊢
        -- the factor
        have e6 : ((10 : Int) ^ (6 : Int).toNat) = 1000000 := by decide +kernel
        refine ⟨_, rfl, _, rfl, 10, 6, rfl, rfl, ⟨by decide, by decide, by decide⟩, _, 2, rfl, rfl, by show 3 ≤ sizeLine; decide, fun t nt => ?_⟩
        rw [e6]
        refine ⟨a, t, _, rfl, p2.new nt, .inl (.inl upd_same), by show 0 < 3; decide, by show 3 < 1000; decide, fun m o3 hm ho3 => ?_⟩
        have k3 := (k2.trans (.of (Same.put (o := .tup [.int 3, .int 60, .int (1000000 - 2)]) nt))).trans (Keep.put o3)
        have p3 : PoolAt (upd (upd H2 t (.tup [.int 3, .int 60, .int (1000000 - 2)])) a o3) a := .put ho3
        generalize (upd (upd H2 t (.tup [.int 3, .int 60, .int (1000000 - 2)])) a o3) = H3 at k3 p3 ⊢
        have hm2 : ∃ i : Int, m = .int i ∧ 0 < i ∧ i ≤ 999998 := by
          rcases List.mem_cons.mp hm with e | hm
          · exact ⟨3, e, by decide, by decide⟩
          · rcases List.mem_cons.mp hm with e | hm
            · exact ⟨60, e, by decide, by decide⟩
            · exact ⟨1000000 - 2, List.mem_singleton.mp hm, by decide, by decide⟩
        obtain ⟨i, rfl, i0, i1⟩ := hm2
        refine ⟨a, i, rfl, p3, i0, log_small (b := 20) (by show i.natAbs < 1048576; omega) (by decide) (by decide), fun r4 o4 r40 r41 ho4 => ?_⟩
        have k4 := k3.trans (Keep.put o4)
        have p4 : PoolAt (upd H3 a o4) a := .put ho4
        generalize (upd H3 a o4) = H4 at k4 p4 ⊢
        refine ⟨2, r4, rfl, rfl, ?_⟩
        -- the top
        refine ⟨_, rfl, .inl ⟨x, rfl, 10, 6, rfl, rfl, ⟨by decide, by decide, by decide⟩, x, _, rfl, rfl, ?_, ?_⟩⟩
        · show ((10 : Int) ^ (6 : Int).toNat) ≠ 0
          decide +kernel
        have f1 : x.fmod ((10 : Int) ^ (6 : Int).toNat) = x % 1000000 := by
          rw [e6]
          exact Int.fmod_eq_emod_of_nonneg x (by decide)
        have g0 : 0 ≤ x % 1000000 := Int.emod_nonneg _ (by decide)
        have g1 : x % 1000000 < 1000000 := Int.emod_lt_of_pos _ (by decide)
        simp only [f1]
        generalize x % 1000000 = xm at g0 g1 ⊢
        refine ⟨_, rfl, xm, 2 + r4, rfl, rfl, .inl ⟨by omega, by omega⟩, _, rfl, a, 2, rfl, p4, by decide, by decide, fun r5 o5 r50 r51 ho5 => ?_⟩
        have k5 := k4.trans (Keep.put o5)
        have p5 : PoolAt (upd H4 a o5) a := .put ho5
        generalize (upd H4 a o5) = H5 at k5 p5 ⊢
        refine ⟨2, r5, rfl, rfl, .inl ⟨by decide, by decide⟩, 1, 2 * r5, rfl, rfl, xm * (2 + r4), 1 - 2 * r5, rfl, rfl, .inr ⟨by omega, by omega⟩, ?_⟩
        -- the bottom
        refine ⟨_, rfl, .inl ⟨y, rfl, 10, 6, rfl, rfl, ⟨by decide, by decide, by decide⟩, _, 1, rfl, rfl, y, _, rfl, rfl, ?_, 1, _, rfl, rfl, ?_⟩⟩
        · show ((10 : Int) ^ (6 : Int).toNat - 1) ≠ 0
          decide +kernel
        have f2 : y.fmod ((10 : Int) ^ (6 : Int).toNat - 1) = y % 999999 := by
          rw [e6]
          exact Int.fmod_eq_emod_of_nonneg y (by decide)
        have j0 : 0 ≤ y % 999999 := Int.emod_nonneg _ (by decide)
        have j1 : y % 999999 < 999999 := Int.emod_lt_of_pos _ (by decide)
        simp only [f2]
        generalize y % 999999 = ym at j0 j1 ⊢
        refine ⟨_, rfl, 1 + ym, 2 + r4, rfl, rfl, .inl ⟨by omega, by omega⟩, _, rfl, a, 2, rfl, p5, by decide, by decide, fun r6 o6 r60 r61 ho6 => ?_⟩
        refine ⟨2, r6, rfl, rfl, .inl ⟨by decide, by decide⟩, 1, 2 * r6, rfl, rfl, (1 + ym) * (2 + r4), 1 - 2 * r6, rfl, rfl, .inr ⟨by omega, by omega⟩, ?_⟩
        have b1 : xm * (2 + r4) ≤ 999999 * (2 + r4) := Int.mul_le_mul_of_nonneg_right (by omega) (by omega)
        have b2 : 0 ≤ xm * (2 + r4) := Int.mul_nonneg g0 (by omega)
        have b3 : (1 + ym) * (2 + r4) ≤ 999999 * (2 + r4) := Int.mul_le_mul_of_nonneg_right (by omega) (by omega)
        have b4 : 0 < (1 + ym) * (2 + r4) := Int.mul_pos (by omega) (by omega)
        have hr4 : 2 + r4 ≤ 999999 := by omega
        generalize xm * (2 + r4) = xs at b1 b2 ⊢
        generalize (1 + ym) * (2 + r4) = ys at b3 b4 ⊢
        have s5 : r5 = 0 ∨ r5 = 1 := by omega
        have s6 : r6 = 0 ∨ r6 = 1 := by omega
        refine q3 (xs * (1 - 2 * r5)) (ys * (1 - 2 * r6)) _ _ ?_ ?_ ?_ (k5.trans (.put o6)) (.put ho6)
        · rcases s5 with rfl | rfl <;> omega
        · rcases s6 with rfl | rfl <;> omega
        · rcases s6 with rfl | rfl <;> omega
      · exact q3 x y none _ hx ny hy (kp.trans (.put o)) (.put ho)
    refine ⟨_, pss_cons (ps_par (i := 1) (j := 2) (by rfl) sc_fraction.nd rfl rfl (by decide) rfl rfl (pa_cons (pe_cal c_integer (hr.mono (by decide)) rfl (pa_cons (pv 0) pa_nil)) (pa_cons (pe_cal c_integer (hr.mono (by decide)) rfl (pa_cons (pv 0) pa_nil)) pa_nil)) (by rfl))
      (pss_cons (ps_if (pt_cmpR op_eq (pv 2) pe_int (nomark _))
        (pss_one (ps_set (i := 2) sc_fraction.nd rfl (Or.inl rfl) (pe_op op_sub pe_int (pe_op op_mul pe_int (pe_cal c_draw (hr.mono (by decide)) rfl (pa_cons (pv 0) (pa_cons pe_int pa_nil)))))))
        pss_nil) h2), ?_⟩
    refine ⟨_, rfl, a, rfl, hp, fun x H1 hx k1 p1 => ⟨_, rfl, a, rfl, p1, fun y H2 hy k2 p2 => ⟨_, _, rfl, ?_⟩⟩⟩
    refine ⟨_, rfl, rfl, _, rfl, iteB (fun z => ?_) (fun z => ?_)⟩
    · refine ⟨_, rfl, a, 2, rfl, p2, by decide, by decide, fun r o r0 r1 ho => ⟨2, r, rfl, rfl, .inl ⟨by decide, by decide⟩, 1, 2 * r, rfl, rfl, ?_⟩⟩
      exact q2 x (1 - 2 * r) _ hx (by omega) (by omega) ((k1.trans k2).trans (.put o)) (.put ho)
    · have e := of_decide_eq_false z
      exact q2 x y _ hx (fun z => e (by rw [z])) hy (k1.trans k2) p2
end
end Kk

set_option Elab.async false
set_option linter.all false
set_option maxRecDepth 100000
set_option maxHeartbeats 4000000
namespace Kk
open PySem L2
theorem str_len1 : (Str.ofString "/").length = 1 := by decide
theorem i0 {x y : V} {xs : List V} : atI (x :: xs) 0 = some x := by
  have h : (x :: xs)[0]? = some x := rfl
  exact atI_nat h
theorem i1 {x y : V} {xs : List V} : atI (x :: y :: xs) 1 = some y := by
  have h : (x :: y :: xs)[1]? = some y := rfl
  exact atI_nat h
theorem i2 {x y z : V} {xs : List V} : atI (x :: y :: z :: xs) 2 = some z := by
  have h : (x :: y :: z :: xs)[2]? = some z := rfl
  exact atI_nat h
/-- __eq__ of the class -/
structure EqT (P : Program) (w : World) (K : PySem.W.Frag) (mg : Str → Option Value) (base : Heap) (C : Addr) : Prop where
  ex : ∃ (f : Addr) (fd : FuncData), OwnT K C f ∧ FnOk P w K mg base CX0 2 f fd ["self", "other"] (spOwn (EqS K C)) ∧ Binds K fd ["self", "other"] []
/-- x == y: by a share, or of plain data -/
theorem EqT.op {X : Cx} {C : Addr} {op : CmpOp} (ho : OC.Is2 op) (c : EqT X.prog X.w X.K X.mg X.base C) (hr : Room 3 X.A) : ∃ r : R2, OpR X (compareOp op) r ∧ ∀ x y b H Q, Cmp X.K C H x y b → Q (.bl (OC.turn op b)) H → r x y H Q := by
  obtain ⟨f, fd, O, F, hb⟩ := c.ex
  exact ⟨_, op_ownB ho F O hb pass0 hr, fun x y b H Q h q => ⟨b, h, q⟩⟩
theorem is_eq : OC.Is2 .Eq := .inl rfl
theorem is_ne : OC.Is2 .NotEq := .inr rfl
section
variable {P : Program} {w : World} {K : PySem.W.Frag} {mg : Str → Option Value} {base : Heap} {C B : Addr}
abbrev s_is : Stmt := top 22
theorem sc_is : FnScope ["_law_share", "_law_part_here"] ["_law_share", "_law_part_here"] (defScope s_is) := ⟨rfl, rfl, rfl, by decide +kernel, rfl, by decide +kernel, by decide +kernel⟩
theorem ok_is {f : Addr} {fd : FuncData} (F : Fun K "_law_is" "_law_is" s_is f fd) (T : ShT K mg C) (c_number : Cal P w K mg base 1 "_law_number" ["_law_thing"] (spWhole K C)) : FnOk P w K mg base CX0 2 f fd ["_law_share", "_law_part_here"] (spIs C) := by
  refine F.ok sc_is (fun vs H Q E h => ?_) (fun cdv A outer s H vs Q E hr h => ?_)
  · obtain ⟨s, t, dx, x, y, rfl, _⟩ := h
    rfl
  · obtain ⟨sh, t, dx, x, y, rfl, hs, ht, k⟩ := h
    refine ⟨_, (pss_one (ps_ret (pe_and (pe_cal c_number (hr.mono (by decide)) rfl (pa_cons (pe_fld (pv 0) rfl) pa_nil)) (pe_and (pe_cal c_number (hr.mono (by decide)) rfl (pa_cons (pe_fld (pv 0) rfl) pa_nil)) (pe_one (pe_cmpR (op_eqD hr.units) (pe_tup (pa_cons (pe_fld (pv 0) rfl) (pa_cons (pe_fld (pv 0) rfl) pa_nil))) (pv 1) (nomark _))))))), ?_⟩
    refine ⟨_, rfl, sh, C, dx, _, _, rfl, hs, T.it.cl, T.nT, shF_top _ _, _, rfl, .fo (.int x), true, rfl, iteT ?_⟩
    refine ⟨_, rfl, sh, C, dx, _, _, rfl, hs, T.it.cl, T.nB, shF_bottom _ _, _, rfl, .fo (.int y), true, rfl, iteT ?_⟩
    refine ⟨_, rfl, sh, C, dx, _, _, rfl, hs, T.it.cl, T.nT, shF_top _ _, _, rfl, sh, C, dx, _, _, rfl, hs, T.it.cl, T.nB, shF_bottom _ _, by show 2 ≤ sizeLine; decide, fun p np => ?_⟩
    refine ⟨_, rfl, _, _, dp2 (.inl (.inl upd_same)), dp2 (.inl (.inl (Same.put np _ _ ht))), sh2 x y, sh2 x y, ?_⟩
    rw [SeqAt.eqv_refl _ (SeqAt.canLay_of_shaped (sh2 x y))]
    exact k _ (Same.put np)
abbrev s_text : Stmt := top 23
theorem sc_text : FnScope ["_law_part_here"] ["_law_part_here"] (defScope s_text) := ⟨rfl, rfl, rfl, by decide +kernel, rfl, by decide +kernel, by decide +kernel⟩
theorem ok_text {f : Addr} {fd : FuncData} (F : Fun K "_law_text" "_law_text" s_text f fd) (T : Bn mg) : FnOk P w K mg base CX0 1 f fd ["_law_part_here"] spText := by
  refine F.ok sc_text (fun vs H Q E h => ?_) (fun cdv A outer s H vs Q E hr h => ?_)
  · obtain ⟨t, x, y, rfl, _⟩ := h
    rfl
  · obtain ⟨t, x, y, rfl, ht, hx, hy, k⟩ := h
    have st : SqT K H t [.int x, .int y] := .inl (.inl ht)
    refine ⟨_, (pss_cons (ps_if (pt_cmpR op_eq (pe_ix ix_tup (pv 0) pe_int (fun _ _ => rfl)) pe_int (nomark _))
        (pss_one (ps_ret (pe_callTy call_str_int (by rfl) T.n_str (by decide +kernel) (pa_cons (pe_ix ix_tup (pv 0) pe_int (fun _ _ => rfl)) pa_nil))))
        pss_nil)
      (pss_one (ps_ret (pe_op op_add_str (pe_op op_add_str (pe_callTy call_str_int (by rfl) T.n_str (by decide +kernel) (pa_cons (pe_ix ix_tup (pv 0) pe_int (fun _ _ => rfl)) pa_nil)) pe_str) (pe_callTy call_str_int (by rfl) T.n_str (by decide +kernel) (pa_cons (pe_ix ix_tup (pv 0) pe_int (fun _ _ => rfl)) pa_nil)))))), ?_⟩
    have lx := numT_len (small_log hx)
    have ly := numT_len (small_log hy)
    unfold shT at k
    refine ⟨_, rfl, t, _, 1, _, rfl, rfl, st, at1, rfl, _, rfl, iteB (fun z => ?_) (fun z => ?_)⟩
    · rw [if_pos (of_decide_eq_true z)] at k
      exact ⟨_, rfl, t, _, 0, _, rfl, rfl, st, at0, x, rfl, small_log hx, k⟩
    · rw [if_neg (of_decide_eq_false z)] at k
      refine ⟨_, rfl, t, _, 0, _, rfl, rfl, st, at0, x, rfl, small_log hx, _, _, rfl, rfl, ?_, _, rfl, t, _, 1, _, rfl, rfl, st, at1, y, rfl, small_log hy, _, _, rfl, rfl, ?_, k⟩
      · rw [str_len1]
        exact Nat.le_trans (show (numT x).length + 1 ≤ 1922 by omega) (by decide)
      · rw [app_len, str_len1]
        exact Nat.le_trans (show (numT x).length + 1 + (numT y).length ≤ 3843 by omega) (by decide)
abbrev s_equal : Stmt := top 24
theorem sc_equal : FnScope ["_law_one", "_law_other", "_law_due"] ["_law_one", "_law_other", "_law_due"] (defScope s_equal) := ⟨rfl, rfl, rfl, by decide +kernel, rfl, by decide +kernel, by decide +kernel⟩
theorem dp4 {K : PySem.W.Frag} {H : Hp} {t : Addr} {a b c d : Bool} (h : SqL K H t [.bl a, .bl b, .bl c, .bl d]) : Dp K H (.ref t) (.list [.bool a, .bool b, .bool c, .bool d]) := .lst h (.cons (.bl a) (.cons (.bl b) (.cons (.bl c) (.cons (.bl d) .nil))))
theorem sh4 (a b c d : Bool) : SeqAt.shaped (.list [.bool a, .bool b, .bool c, .bool d]) = true := rfl
theorem ok_equal {f : Addr} {fd : FuncData} (F : Fun K "_law_equal" "_law_equal" s_equal f fd) (c_eq : EqT P w K mg base C) : FnOk P w K mg base CX0 4 f fd ["_law_one", "_law_other", "_law_due"] (spEqual K C) := by
  refine F.ok sc_equal (fun vs H Q E h => ?_) (fun cdv A outer s H vs Q E hr h => ?_)
  · obtain ⟨x, y, b, rfl, _⟩ := h
    rfl
  · obtain ⟨x, y, b, rfl, c1, c2, k⟩ := h
    obtain ⟨r1, o1, q1⟩ := EqT.op (X := (cxOf CX0 P w K mg base ["_law_one", "_law_other", "_law_due"] "_law_equal" (defScope s_equal) f cdv A outer s H E).nox) is_eq c_eq hr
    obtain ⟨r2, o2, q2⟩ := EqT.op (X := (cxOf CX0 P w K mg base ["_law_one", "_law_other", "_law_due"] "_law_equal" (defScope s_equal) f cdv A outer s H E).nox) is_ne c_eq hr
    refine ⟨_, (pss_one (ps_ret (pe_cmpR (op_eqD hr.units) (pe_lst (pa_cons (pe_cmpR o1 (pv 0) (pv 1) (nomark _)) (pa_cons (pe_cmpR o1 (pv 1) (pv 0) (nomark _)) (pa_cons (pe_cmpR o2 (pv 0) (pv 1) (nomark _)) (pa_cons (pe_cmpR o2 (pv 1) (pv 0) (nomark _)) pa_nil))))) (pe_lst (pa_cons (pv 2) (pa_cons (pv 2) (pa_cons (pe_not (pv 2)) (pa_cons (pe_not (pv 2)) pa_nil))))) (nomark _)))), ?_⟩
    refine ⟨_, rfl, _, rfl, q1 _ _ b _ _ c1 ?_⟩
    refine ⟨_, rfl, _, rfl, q1 _ _ b _ _ c2 ?_⟩
    refine ⟨_, rfl, _, rfl, q2 _ _ b _ _ c1 ?_⟩
    refine ⟨_, rfl, _, rfl, q2 _ _ b _ _ c2 ?_⟩
    refine ⟨by show 4 ≤ sizeLine; decide, fun p np => ?_⟩
    refine ⟨_, rfl, _, rfl, _, rfl, _, rfl, _, rfl, _, rfl, by show 4 ≤ sizeLine; decide, fun p2 np2 => ?_⟩
    refine ⟨_, _, dp4 (a := b) (b := b) (c := !b) (d := !b) (SqL.of (Same.put np2 _ _ upd_same)), dp4 (a := b) (b := b) (c := !b) (d := !b) (SqL.of upd_same), sh4 _ _ _ _, sh4 _ _ _ _, ?_⟩
    rw [SeqAt.eqv_refl _ (SeqAt.canLay_of_shaped (sh4 _ _ _ _))]
    exact k _ ((Same.put np).trans (Same.put np2))
end
end Kk

set_option Elab.async false
set_option linter.all false
set_option maxRecDepth 100000
set_option maxHeartbeats 4000000
namespace L2
open PySem PySem.Spec PyProof.Rows
/-- a try with one clause «except x as n» that serves every exception of the body, and an else: what the clause wishes -/
def wAsT (K : PySem.W.Frag) (c : Value) (i : Nat) (ts : Addr → Value → Option Addr → TS) (D : Ends) : WX := fun cls d σ H =>
  PySem.W.exmOne K cls c = some true ∧ ∀ a, H a = none → ts a cls d { nx := fun σ' H' => D.nx (σ'.set i none) H', rt := D.rt, bk := fun σ' H' => D.bk (σ'.set i none) H', ct := fun σ' H' => D.ct (σ'.set i none) H' } (σ.set i (some (.ref a))) H
section
variable {X : Cx} {x n : Str} {c : Value} {i : Nat} {body suite orelse : List Stmt} {b₀ : Stmt} {np pos pos' : Pos} {tb : WX → TS} {ts : Addr → Value → Option Addr → TS} {u : TS}
theorem ps_try_asE (ho : PSs X orelse u) (hs : X.stack = X.env :: X.outer) (hf : X.env.frame = some X.env.locals) (hN : X.N.Nodup) (hi : X.N[i]? = some n) (hln : X.env.kindOf n = some .local) (hc : Names X x c)
    (hb : ∀ (W : WX) (pn : List (Addr × Obj)) (xe : Value → Shared → Prop), Takes (X.tr pn xe) W → PSs (X.tr pn xe) body (tb W))
    (hsu : ∀ (a : Addr) (oe : Obj) (cls : Value) (d : Option Addr) (pn : List (Addr × Obj)), Zc cls d oe → (∃ vs, oe.data = .fields vs) → PSs (X.suite a ((a, oe) :: pn)) (b₀ :: suite) (ts a cls d)) :
    PS X (.Try body [.ExceptHandler (some (.Name x np)) (some n) (b₀ :: suite) pos'] orelse [] pos) (fun D σ H => tb (wAsT X.K c i ts D) { D with nx := u D } σ H) := by
  refine ⟨fun pins s σ H D I h => wpAny_Try_except ?_⟩
  have ok := I.ok
  -- the clause, from an exception that has left the body
  have catch_ : ∀ (a : Addr) (B : Heap) (sI s' : Shared) (σ' : St) (H' : Hp) (cls : Value) (d : Option Addr), Inv X pins σ' H' sI → (∀ b o, sI.heap.get? b = some o → b ∉ frs X.stack → B.get? b = some o) → sI.heap.UpToSlots s'.heap →
      Sky B X.stack a (Zc cls d) X.env.locals s'.heap → H' a = none → s'.os = sI.os → AllBare s'.gens → wAsT X.K c i ts D cls d σ' H' →
      wpAny (model X.prog X.w) X.A (noteFrame (.ref a) X.env) (fun _ s₂ => wpAny (model X.prog X.w) X.A (setFlight (.ref a) none) (fun _ s₃ =>
        wpAny (model X.prog X.w) X.A (handleBy (.ref a) X.env [.ExceptHandler (some (.Name x np)) (some n) (b₀ :: suite) pos']) (SP X pins D) X.xe s₃) X.xe s₂) X.xe s' := by
    intro a B sI s' σ' H' cls d J nb up sky na os ag ⟨hm, go⟩
    refine Sky.land (outer := X.outer) (L := X.env.locals) Zc.steady (by rw [ok.frames, hs]) hf (by rw [← hs]; exact sky) fun h3 fl up3 => ?_
    have J3 : Inv X pins σ' H' { s' with heap := h3 } := J.landed nb fl.1 (up.trans up3) os ag
    have off : a ∉ frs (X.env :: X.outer) := fun hm2 => by
      obtain ⟨oe, vs, e1, _, e2⟩ := fl.there
      obtain ⟨_, o', e3, hnf⟩ := fl.2.2.1.mem hm2
      rw [e1] at e3
      cases e3
      exact hnf _ e2
    have nL : a ≠ X.env.locals := fun z => off (List.mem_filterMap.mpr ⟨X.env, List.mem_cons_self, by rw [hf, z]⟩)
    have nF : a ∉ X.fs := fun hm2 => by
      obtain ⟨v, h1, h2⟩ := List.mem_filterMap.mp hm2
      exact off (List.mem_filterMap.mpr ⟨v, List.mem_cons_of_mem _ h1, h2⟩)
    obtain ⟨o3, v3, at3, z3, dt3⟩ := fl.there
    have S3 := J3.suite at3 dt3 na nL nF
    refine wpAny_handleBy_cons (codeAny_handlers_test ?_) (by intro q; cases q)
    have ty : PySem.W.Looks (model X.prog X.w) h3 (typeOf (.ref a)) cls := fun A Q E s k q => wpAny_typeOf_ref (k _ _ at3) (by rw [z3.1]; exact q)
    have fits := PySem.W.exm_one (M := model X.prog X.w) J3.kIn ty hm
    have name : ∀ {Q E : Value → Shared → Prop}, Q c { s' with heap := h3 } → wpAny (model X.prog X.w) (X.A.mark (some (.ref a))) (eval (.Name x np) X.env) Q E { s' with heap := h3 } := fun {Q E} q => by
      rcases hc with ⟨g, db, m | ⟨m, v, nn⟩⟩
      · exact ld_glob (X := X.suite a ((a, o3) :: (X.pn ++ pins))) S3 g m q db
      · exact ld_blt (X := X.suite a ((a, o3) :: (X.pn ++ pins))) S3 g m v q nn db
    refine name (fits.here (codeAny_handlers_suite_as (HandSPX.lands_againZ fl fun h4 fl4 up4 => ?_)))
    have J4 : Inv X pins σ' H' { s' with heap := h4 } := J.landed nb fl4.1 ((up.trans up3).trans up4) os ag
    obtain ⟨o4, v4, at4, z4, dt4⟩ := fl4.there
    refine store_ok (X := X.suite a ((a, o4) :: (X.pn ++ pins))) (v := .ref a) (J4.suite at4 dt4 na nL nF) hN hi (.inl hln) rfl (fun s5 S5 => ?_) (.inr hln)
    refine wpAny_mono ((hsu a o4 cls d (X.pn ++ pins) z4 ⟨_, dt4⟩).run [] s5 _ H' _ S5 (go a na)) (fun f s6 q => ?_) (fun _ _ z => z.elim)
    cases f with
    | next =>
      obtain ⟨σ6, H6, S6, q6⟩ := q
      exact gone_ok (S6.unsuite ok) hN hi hln fun s7 J7 => ⟨_, _, J7, q6⟩
    | brk =>
      obtain ⟨σ6, H6, S6, q6⟩ := q
      exact gone_ok (S6.unsuite ok) hN hi hln fun s7 J7 => ⟨_, _, J7, q6⟩
    | cont =>
      obtain ⟨σ6, H6, S6, q6⟩ := q
      exact gone_ok (S6.unsuite ok) hN hi hln fun s7 J7 => ⟨_, _, J7, q6⟩
    | ret r =>
      obtain ⟨v6, σ6, H6, S6, r6, q6⟩ := q
      exact gone_ok (S6.unsuite ok) hN hi hln fun s7 J7 => ⟨_, _, _, J7, r6, q6⟩
  refine wpAny_mono ((hb (wAsT X.K c i ts D) (X.pn ++ pins) _ fun e s' xx => ?_).run [] s σ H { D with nx := u D } (I.toTry _) h) (fun f s1 q => ?_) (fun e s1 z => z)
  · obtain ⟨a, B, sI, pins', σ', H', cls, d, rfl, J', nb, up, sky, na, os, ag, go⟩ := xx
    exact catch_ a B sI s' σ' H' cls d (J'.ofTry ok) nb up sky na os ag go
  · cases f with
    | next =>
      obtain ⟨σ', H', J', q'⟩ := q
      exact ho.run pins s1 σ' H' D (J'.ofTry ok) q'
    | brk =>
      obtain ⟨σ', H', J', q'⟩ := q
      exact ⟨σ', H', J'.ofTry ok, q'⟩
    | cont =>
      obtain ⟨σ', H', J', q'⟩ := q
      exact ⟨σ', H', J'.ofTry ok, q'⟩
    | ret r =>
      obtain ⟨v, σ', H', J', r', q'⟩ := q
      exact ⟨v, σ', H', J'.ofTry ok, r', q'⟩
end
end L2

set_option Elab.async false
set_option linter.all false
set_option maxRecDepth 100000
set_option maxHeartbeats 4000000
namespace L2
open PySem PySem.Spec PyProof.Rows
/-- C(..), what __init__ raises is wished for at the caller's slots -/
def tMakeS (C : Addr) (sp : Sp) (dvs : List V) (E : St → XK) (t : TA) : TE := fun σ H Q => t σ H fun vs H1 => ∀ x dx, H1 x = none → H1 dx = none → dx ≠ x →
  sp (.ref x :: (vs ++ dvs)) (upd (upd H1 dx (.own x)) x (.ins C dx [])) (fun v H2 => v = .non ∧ Q (.ref x) H2) (E σ)
section
variable {X : Cx} {CX : CXT} {k : Nat} {f C : Addr} {fd : FuncData} {ps : List Str} {sp : Sp} {dvs : List V} {ds : List Value} {E : St → XK} {x : Str} {p pos : Pos} {e : Expr} {es : List Expr} {t : TA}
theorem pe_makeS (M : Mk X.K C f) (F : FnOk X.prog X.w X.K X.mg X.base CX k f fd ps sp) (hr : Room (k + 1) X.A) (hg : Gl X x) (hm : X.mg x = some (.ref C)) (hb : Binds X.K fd ps ds) (hd : Vals dvs ds) (hx : ∀ σ, PassesAt CX X σ (E σ))
    (ha : PA X (e :: es) t) (hdb : (x == ("__debug__" : Str)) = false := by decide) (he : starEach (e :: es) X.env = (false, eval e X.env) :: starEach es X.env := by rfl) (hpl : (backTo pos (starEach es X.env)).any (·.1) = false := by rfl) :
    PE X (.Call (.Name x p) (e :: es) [] pos) (tMakeS C sp dvs E t) := by
  refine ⟨fun pins s σ H Q I h => wpAny_Call_Name_kw (ld_glob I hg hm (PySem.W.callWith_K (h₀ := X.base) I.ok.mod.kin M.kp (thn (ha.run pos pins s σ H _ I h) fun us s1 ⟨vs, H1, J, r, go⟩ => ⟨J.kIn, ?_⟩) he hpl) hdb)⟩
  -- the new instance, and its __init__
  let A1 : Addr := s1.heap.objs.size
  have wish := go (A1 + 1) A1 (J.hok.fresh (Nat.le_succ _)) (J.hok.fresh (Nat.le_refl _)) (Nat.ne_of_lt (Nat.lt_succ_self _))
  have J2 := J.made (C := C)
  have vals : Vals (V.ref (A1 + 1) :: (vs ++ dvs)) (Value.ref (A1 + 1) :: (us ++ ds)) := .cons rfl (r.append hd)
  have len : (Value.ref (A1 + 1) :: us ++ ds).length = ps.length := (F.len _ _ _ _ wish).symm.trans vals.length |>.symm
  show wpAny _ _ (call (.ref C) us) _ _ _
  refine wpAny_call (make_map (f := f) J.kIn M.makes M.init (beq_iff_eq.mp M.fn) (codeAny_mono
    (F.run _ X.stack _ _ ⟨Value.ref (A1 + 1) :: us, []⟩ (Value.ref (A1 + 1) :: (us ++ ds)) _ _ (E σ) (hr.make C us []) (J2.env0.make C us []) (hb _ (Value.ref (A1 + 1) :: us) J2.kIn len) vals wish) fun res s2 q => ?_))
  rcases res with err | fl
  · exact hx σ pins _ _ err s2 J2 q
  · cases fl with
    | ret u =>
      obtain ⟨v, H2, J3, rv, rfl, q3⟩ := J2.after q
      exact ⟨rv, .ref (A1 + 1), H2, J3, rfl, q3⟩
    | next => exact q.elim
    | brk => exact q.elim
    | cont => exact q.elim
end
end L2

set_option Elab.async false
set_option linter.all false
set_option maxRecDepth 100000
set_option maxHeartbeats 4000000
namespace L2
open PySem PySem.Spec PySem.W PyProof.Rows PySem.Calls
/-- isinstance says yes as soon as the kind of the thing lies below the class -/
theorem says_yes {K : Frag} {y t c : Value} {P : Heap → Prop} (kind : ∀ (M : Model) (h : Heap), K.In h → P h → Looks M h (typeOf y) t) (ne : (t == c) = false) (below : kitCls K t c = some true) : Answers (fun s => K.In s.heap ∧ P s.heap) y c true := by
  intro dp tk pr wo Ar R s ⟨⟨inn, p⟩, fin⟩
  rcases s with ⟨hp, gs, dd, tt, oo⟩
  have look := kind (model pr wo) hp inn p
  have ⟨l1, l2, l3⟩ := kit_cls (M := model pr wo) inn below
  have l4 : Looks (model pr wo) hp (isInstance y c) true := look.andThen l3
  unfold Builtin.«isinstance.nested»
  refine wpAny_bind (look.at ?_)
  rw [if_neg (show ¬ ((t == c) = true) by rw [ne]; decide)]
  refine wpAny_bind (l1.at ?_)
  rw [if_pos (show ((Value.type "type" == Value.type "type") = true) by decide)]
  k_delta "plainIsInstance"
  refine wpAny_bind ?_
  refine wpAny_bind (l2.at ?_)
  simp only [Bool.not_true, Bool.false_eq_true, if_false]
  refine wpAny_bind (l4.at ?_)
  simp only [if_true]
  first
    | exact wpAny_pure (wpAny_pure (fin tt))
    | exact wpAny_pure (fin tt)
    | exact wpAny_bind (wpAny_pure (wpAny_pure (fin tt)))
/-- isinstance(e, c), e the caught exception, c above its class -/
def rUp (K : Frag) (cls : Value) (a : Addr) : List V → Hp → VK → Prop := fun xs H Q => ∃ (c : V) (cv : Value), xs = [.ref a, c] ∧ (∀ u, RelV c u → u = cv) ∧ (cls == cv) = false ∧ kitCls K cls cv = some true ∧ Q (.bl true) H
theorem call_up {X : Cx} {a : Addr} {cls : Value} {d : Option Addr} {oe : Obj} {pn : List (Addr × Obj)} (hz : Zc cls d oe) : CallR (X.suite a ((a, oe) :: pn)) (.builtin "isinstance") (rUp X.K cls a) := by
  intro pins s σ H xs us Q I r ⟨c, cv, ex, hcv, hne, hup, q⟩
  subst ex
  cases r with
  | cons r1 r2 =>
    cases r2 with
    | cons r3 r4 =>
      cases r4
      cases r1
      cases hcv _ r3
      have there := (I.pin (a, oe) (List.mem_append.mpr (.inl List.mem_cons_self))).1
      refine call_isinstance (S := fun _ R s' => (X.K.In s'.heap ∧ s'.heap.get? a = some oe) ∧ ∀ tk, R (.ok (.ret (.bool true))) { s' with toks := tk }) (fun pr wo A' R s' hs => isinstance_outer (says_yes (P := fun h => h.get? a = some oe) ?_ hne hup 0 _ pr wo A' R s' hs) (fun z => nomatch z)) ⟨⟨I.kIn, there⟩, fun tk => ⟨.bl true, H, I.kept (t' := tk) fun _ _ z => z, rfl, q⟩⟩
      exact fun M h _ e A' Q' E' s' k go => wpAny_typeOf_ref (k _ _ e) (by rw [hz.1]; exact go)
end L2

set_option Elab.async false
set_option linter.all false
set_option maxRecDepth 100000
set_option maxHeartbeats 4000000
namespace Kk
open PySem L2
theorem passX {X : Cx} : Passes (L2.CX X.prog X.w) X E0 := fun _ _ _ _ _ _ _ ⟨_, _, _, _, _, _, _, _, _, _, _, _, h⟩ => h.elim
/-- Share(p, q) and Share(p) -/
structure MkT (P : Program) (w : World) (K : PySem.W.Frag) (mg : Str → Option Value) (base : Heap) (C B : Addr) : Prop where
  ex : ∃ (f : Addr) (fd : FuncData) (ds : List Value), Mk K C f ∧ FnOk P w K mg base (L2.CX P w) 4 f fd ["self", "top", "bottom"] (spSI K C B) ∧ Binds K fd ["self", "top", "bottom"] [] ∧ Vals [.int 1] ds ∧ Binds K fd ["self", "top", "bottom"] ds
  gS : mg "Share" = some (.ref C)
section
variable {X : Cx} {C B : Addr} {p pos : Pos} {e : Expr} {es : List Expr} {t : TA}
theorem pe_share2 (m : MkT X.prog X.w X.K X.mg X.base C B) (hr : Room 5 X.A) (hg : Gl X "Share") (ha : PA X (e :: es) t)
    (he : starEach (e :: es) X.env = (false, eval e X.env) :: starEach es X.env := by rfl) (hpl : (backTo pos (starEach es X.env)).any (·.1) = false := by rfl) :
    PE X (.Call (.Name "Share" p) (e :: es) [] pos) (tMake C (spSI X.K C B) [] E0 t) := by
  obtain ⟨f, fd, ds, M, F, b0, v1, b1⟩ := m.ex
  exact pe_make M F hr hg m.gS b0 .nil passX ha (by decide) he hpl
theorem pe_share1 (m : MkT X.prog X.w X.K X.mg X.base C B) (hr : Room 5 X.A) (hg : Gl X "Share") (ha : PA X (e :: es) t)
    (he : starEach (e :: es) X.env = (false, eval e X.env) :: starEach es X.env := by rfl) (hpl : (backTo pos (starEach es X.env)).any (·.1) = false := by rfl) :
    PE X (.Call (.Name "Share" p) (e :: es) [] pos) (tMake C (spSI X.K C B) [.int 1] E0 t) := by
  obtain ⟨f, fd, ds, M, F, b0, v1, b1⟩ := m.ex
  exact pe_make M F hr hg m.gS b1 v1 passX ha (by decide) he hpl
end
/-- a share is made -/
theorem mk_ok {K : PySem.W.Frag} {C B : Addr} {a b : Int} {H : Hp} {Q : VK} {E : XK} (nz : b ≠ 0) (hl : b.natAbs.log2 < 9000)
    (k : ∀ (x dx : Addr) (H' : Hp), Same H H' → H' x = some (.ins C dx (shF (lowT a b) (lowB a b))) → Q (.ref x) H') :
    ∀ x dx, H x = none → H dx = none → dx ≠ x → spSI K C B [.ref x, .int a, .int b] (upd (upd H dx (.own x)) x (.ins C dx [])) (fun v H2 => v = .non ∧ Q (.ref x) H2) E :=
  fun x dx hx hd ne => ⟨x, dx, .int a, .int b, rfl, upd_same, .fo (.int a), .fo (.int b), .inl ⟨a, b, rfl, rfl, nz, hl, rfl, k x dx _ (by
    rw [upd_upd]
    exact (Same.put hd).trans (Same.put (by rw [upd_ne ne.symm]; exact hx))) upd_same⟩⟩
theorem mk_same {C : Addr} {H : Hp} {x dx : Addr} {o : HO} (hx : H x = none) (hd : H dx = none) (ne : dx ≠ x) : Same H (upd (upd (upd H dx (.own x)) x (.ins C dx [])) x o) := by
  rw [upd_upd]
  exact (Same.put hd).trans (Same.put (by rw [upd_ne ne.symm]; exact hx))
/-- the things that the law hands to Share -/
inductive Any (C : Addr) (H : Hp) : V → Prop where
  | int (i : Int) : Any C H (.int i)
  | bl (b : Bool) : Any C H (.bl b)
  | non : Any C H .non
  | str (x : Str) : Any C H (.str x)
  | tup {a : Addr} (e : H a = some (.tup [.int 1, .int 2])) : Any C H (.ref a)
  | lst {a : Addr} (e : H a = some (.lst [.int 1])) : Any C H (.ref a)
  | dct {a : Addr} (e : H a = some (.dK [(.inl 1, .int 1)])) : Any C H (.ref a)
  | sh {a dx : Addr} {t n : Int} (e : H a = some (.ins C dx (shF t n))) : Any C H (.ref a)
theorem Any.same {C : Addr} {H H' : Hp} {x : V} (h : Any C H x) (s : Same H H') : Any C H' x := by
  cases h with
  | int i => exact .int i
  | bl b => exact .bl b
  | non => exact .non
  | str x => exact .str x
  | tup e => exact .tup (s _ _ e)
  | lst e => exact .lst (s _ _ e)
  | dct e => exact .dct (s _ _ e)
  | sh e => exact .sh (s _ _ e)
theorem Any.keep {C a : Addr} {H H' : Hp} {x : V} (h : Any C H x) (p : PoolAt H a) (s : Keep a H H') : Any C H' x := by
  obtain ⟨u, e2, n, g, q, _⟩ := p
  cases h with
  | int i => exact .int i
  | bl b => exact .bl b
  | non => exact .non
  | str x => exact .str x
  | tup e => exact .tup (s _ _ e fun z => by rw [z, e2, q] at e; cases e)
  | lst e => exact .lst (s _ _ e fun z => by rw [z, e2, q] at e; cases e)
  | dct e => exact .dct (s _ _ e fun z => by rw [z, e2, q] at e; cases e)
  | sh e => exact .sh (s _ _ e fun z => by rw [z, e2, q] at e; cases e)
theorem Any.thing {K : PySem.W.Frag} {C : Addr} {H : Hp} {x : V} (h : Any C H x) : Thing K C H x := by
  cases h with
  | int i => exact .fo (.int i)
  | bl b => exact .fo (.bl b)
  | non => exact .fo .non
  | str x => exact .fo (.str x)
  | tup e => exact .fo (.tup e)
  | lst e => exact .fo (.lst e)
  | dct e => exact .fo (.dK e)
  | sh e => exact .ins e
theorem Thing.isC {K : PySem.W.Frag} {C : Addr} {H : Hp} {x : V} (I : InsT K C) (h : Thing K C H x) : ∃ t b, TyX K H x t ∧ PySem.W.kitOne K t (.ref C) = some b := by
  cases h with
  | ins e => exact ⟨_, _, I.ty e, I.kself⟩
  | fo h => exact ⟨_, _, h.ty, I.fo h⟩
/-- _law_same(x, x) -/
def spSame (C : Addr) : Sp := fun vs H Q _ => ∃ x, vs = [x, x] ∧ Any C H x ∧ Q (.bl true) H
/-- _law_bad(pool) -/
def spBad (C : Addr) : Sp := fun vs H Q _ => ∃ a : Addr, vs = [.ref a] ∧ PoolAt H a ∧ ∀ (v : V) (H' : Hp), Any C H' v → isI v = false → Keep a H H' → PoolAt H' a → Q v H'
/-- _law_refused(p, q) -/
def spRefused (C : Addr) : Sp := fun vs H Q _ => ∃ p q, vs = [p, q] ∧ Any C H p ∧ Any C H q ∧ bad p q ∧ ∀ H', Same H H' → Q (.bl true) H'
section
variable {P : Program} {w : World} {K : PySem.W.Frag} {mg : Str → Option Value} {base : Heap} {C B W : Addr}
theorem no_ne {b : Bool} {A D : Prop} (h : D) : if (!decide (V.bl b = V.bl b)) = true then A else D := by
  rw [if_neg (by simp)]
  exact h
abbrev s_same : Stmt := top 26
theorem sc_same : FnScope ["_law_kept", "_law_passed"] ["_law_kept", "_law_passed"] (defScope s_same) := ⟨rfl, rfl, rfl, by decide +kernel, rfl, by decide +kernel, by decide +kernel⟩
theorem ok_same {f : Addr} {fd : FuncData} (F : Fun K "_law_same" "_law_same" s_same f fd) (T : ShT K mg C) (c_eq : EqT P w K mg base C) : FnOk P w K mg base CX0 4 f fd ["_law_kept", "_law_passed"] (spSame C) := by
  refine F.ok sc_same (fun vs H Q E h => ?_) (fun cdv A outer s H vs Q E hr h => ?_)
  · obtain ⟨x, rfl, _⟩ := h
    rfl
  · obtain ⟨x, rfl, hx, k⟩ := h
    obtain ⟨r1, o1, q1⟩ := EqT.op (X := (cxOf CX0 P w K mg base ["_law_kept", "_law_passed"] "_law_same" (defScope s_same) f cdv A outer s H E).nox) is_eq c_eq hr
    refine ⟨_, (pss_cons (ps_if (PW.pt (pw_or (pt_cmpR op_ne (pe_callB call_isi (by rfl) T.bn.n_isinstance (by decide +kernel) (pa_cons (pv 0) (pa_cons (pe_bltn (v := .ty "bool") rfl T.bn.n_bool (by decide +kernel) rfl) pa_nil))) (pe_callB call_isi (by rfl) T.bn.n_isinstance (by decide +kernel) (pa_cons (pv 1) (pa_cons (pe_bltn (v := .ty "bool") rfl T.bn.n_bool (by decide +kernel) rfl) pa_nil))) (nomark _)) (pw_or1 (pt_cmpR op_ne (pe_callB call_isi (by rfl) T.bn.n_isinstance (by decide +kernel) (pa_cons (pv 0) (pa_cons (pe_glob (v := .ref C) rfl T.g_Share rfl) pa_nil))) (pe_callB call_isi (by rfl) T.bn.n_isinstance (by decide +kernel) (pa_cons (pv 1) (pa_cons (pe_glob (v := .ref C) rfl T.g_Share rfl) pa_nil))) (nomark _)))))
        (pss_one (ps_ret pe_bl))
        pss_nil)
      (pss_one (ps_ret (pe_cmpR (OpR.or op_eq (OpR.or (op_eqD hr.units) (OpR.or (op_eq_dict (Nat.lt_of_le_of_lt (Nat.le_add_right _ _) hr.units)) o1))) (pv 0) (pv 1) (nomark _))))), ?_⟩
    obtain ⟨t, ty, _, k2⟩ := hx.thing.isInt T.it
    obtain ⟨t', b, ty', k3⟩ := hx.thing.isC T.it
    refine ⟨_, rfl, x, .ty "bool", t, _, _, rfl, .ty _, ty, k2, _, rfl, x, .ty "bool", t, _, _, rfl, .ty _, ty, k2, rfl, _, rfl, no_ne ?_⟩
    refine ⟨_, rfl, x, .ref C, t', _, b, rfl, .own C, ty', k3, _, rfl, x, .ref C, t', _, b, rfl, .own C, ty', k3, rfl, _, rfl, no_ne ?_⟩
    refine ⟨_, rfl, _, rfl, ?_⟩
    have data : ∀ d, Dp K H x d → SeqAt.shaped d = true → rEqD K x x H Q := fun d hd sd => ⟨d, d, hd, hd, sd, sd, by rw [SeqAt.eqv_refl _ (SeqAt.canLay_of_shaped sd)]; exact k⟩
    have scalar : scal x x = true → rEq x x H Q := fun h => ⟨h, by rw [decide_eq_true rfl]; exact k⟩
    cases hx with
    | int i => exact .inl (scalar rfl)
    | bl b => exact .inl (scalar rfl)
    | non => exact .inl (scalar rfl)
    | str x => exact .inl (scalar rfl)
    | tup e => exact .inr (.inl (data (.tuple [.int 1, .int 2]) (.tup (.inl (.inl e)) (.cons (.int 1) (.cons (.int 2) .nil))) rfl))
    | lst e => exact .inr (.inl (data (.list [.int 1]) (.lst (SqL.of e) (.cons (.int 1) .nil)) rfl))
    | @dct a e => exact .inr (.inr (.inl ⟨a, a, _, rfl, rfl, e, e, by decide, by decide, k⟩))
    | @sh a dx t n e =>
      refine .inr (.inr (.inr (q1 _ _ true _ _ (.inl ⟨a, dx, _, rfl, e, ⟨dx, t, n, e, .inl ⟨a, dx, t, n, rfl, e, by simp⟩⟩, .inr ⟨a, dx, _, rfl, e⟩⟩) k)))
end
end Kk

set_option Elab.async false
set_option linter.all false
set_option maxRecDepth 100000
set_option maxHeartbeats 4000000
namespace Kk
open PySem L2
/-- the exception class of the text, as the law's except clause and its tests see it -/
structure BxT (K : PySem.W.Frag) (mg : Str → Option Value) (B W : Addr) : Prop where
  xm : PySem.W.exmOne K (.ref B) (.ref B) = some true
  xf : XfC K B
  nt : PySem.W.findIn K (.ref B) "top" = some none
  nb : PySem.W.findIn K (.ref B) "bottom" = some none
  gB : mg "BadShare" = some (.ref B)
  gW : mg "WalkError" = some (.ref W)
  neW : (Value.ref B == Value.ref W) = false
  upW : PySem.W.kitCls K (.ref B) (.ref W) = some true
  upV : PySem.W.kitCls K (.ref B) (.type "ValueError") = some true
section
variable {P : Program} {w : World} {K : PySem.W.Frag} {mg : Str → Option Value} {base : Heap} {C B W : Addr}
abbrev s_bad : Stmt := top 25
theorem sc_bad : FnScope ["_law_pool_here"] ["_law_pool_here"] (defScope s_bad) := ⟨rfl, rfl, rfl, by decide +kernel, rfl, by decide +kernel, by decide +kernel⟩
theorem ok_bad {f : Addr} {fd : FuncData} (F : Fun K "_law_bad" "_law_bad" s_bad f fd) (T : ShT K mg C) (m : MkT P w K mg base C B) (c_pick : Cal P w K mg base 2 "_law_pick" ["_law_pool_here", "_law_things"] (spPick K)) :
    FnOk P w K mg base CX0 6 f fd ["_law_pool_here"] (spBad C) := by
  refine F.ok sc_bad (fun vs H Q E h => ?_) (fun cdv A outer s H vs Q E hr h => ?_)
  · obtain ⟨a, rfl, _⟩ := h
    rfl
  · obtain ⟨a, rfl, hp, k⟩ := h
    refine ⟨_, (pss_one (ps_ret (pe_cal c_pick (hr.mono (by decide)) rfl (pa_cons (pv 0) (pa_cons (pe_tup (pa_cons pe_bl (pa_cons pe_bl (pa_cons pe_non (pa_cons pe_str (pa_cons pe_str (pa_cons (pe_tup (pa_cons pe_int (pa_cons pe_int pa_nil))) (pa_cons (pe_lst (pa_cons pe_int pa_nil)) (pa_cons (pe_disp (pps_cons pe_int pe_int pps_nil) (by rfl) (by rfl) (fun z => by cases z) (by decide)) (pa_cons (pe_share2 m hr rfl (pa_cons pe_int (pa_cons pe_int pa_nil))) (pa_cons (pe_share1 m hr rfl (pa_cons pe_int pa_nil)) pa_nil))))))))))) pa_nil))))), ?_⟩
    refine ⟨_, rfl, ?_⟩
    -- (1, 2)
    refine ⟨by show 2 ≤ sizeLine; decide, fun t1 n1 => ?_⟩
    have s1 : Same H (upd H t1 (.tup [.int 1, .int 2])) := Same.put n1
    have e1 : (upd H t1 (.tup [.int 1, .int 2])) t1 = some (.tup [.int 1, .int 2]) := upd_same
    generalize (upd H t1 (.tup [.int 1, .int 2])) = H1 at s1 e1 ⊢
    -- [1]
    refine ⟨by show 1 ≤ sizeLine; decide, fun t2 n2 => ?_⟩
    have s2 : Same H1 (upd H1 t2 (.lst [.int 1])) := Same.put n2
    have e2 : (upd H1 t2 (.lst [.int 1])) t2 = some (.lst [.int 1]) := upd_same
    generalize (upd H1 t2 (.lst [.int 1])) = H2 at s2 e2 ⊢
    -- {1: 1}
    refine fun t3 n3 => ⟨upd_same, [(.inl 1, .int 1)], rfl, by decide, ?_⟩
    have s3 : Same H2 (upd (upd H2 t3 (.dK [])) t3 (.dK (mergeK [] [(.inl 1, .int 1)]))) := by
      rw [upd_upd]
      exact Same.put n3
    have e3 : (upd (upd H2 t3 (.dK [])) t3 (.dK (mergeK [] [(.inl 1, .int 1)]))) t3 = some (.dK [(.inl 1, .int 1)]) := upd_same
    generalize (upd (upd H2 t3 (.dK [])) t3 (.dK (mergeK [] [(.inl 1, .int 1)]))) = H3 at s3 e3 ⊢
    -- Share(1, 2)
    refine fun t4 d4 hx hd ne => ⟨t4, d4, .int 1, .int 2, rfl, upd_same, .fo (.int 1), .fo (.int 2), .inl ⟨1, 2, rfl, rfl, by decide, by decide +kernel, rfl, ?_⟩⟩
    have s4 := mk_same (C := C) (o := .ins C d4 (shF (lowT 1 2) (lowB 1 2))) hx hd ne
    have e4 : (upd (upd (upd H3 d4 (.own t4)) t4 (.ins C d4 [])) t4 (.ins C d4 (shF (lowT 1 2) (lowB 1 2)))) t4 = some (.ins C d4 (shF (lowT 1 2) (lowB 1 2))) := upd_same
    generalize (upd (upd (upd H3 d4 (.own t4)) t4 (.ins C d4 [])) t4 (.ins C d4 (shF (lowT 1 2) (lowB 1 2)))) = H4 at s4 e4 ⊢
    clear hx hd ne
    -- Share(3)
    refine fun t5 d5 hx hd ne => ⟨t5, d5, .int 3, .int 1, rfl, upd_same, .fo (.int 3), .fo (.int 1), .inl ⟨3, 1, rfl, rfl, by decide, by decide +kernel, rfl, ?_⟩⟩
    have s5 := mk_same (C := C) (o := .ins C d5 (shF (lowT 3 1) (lowB 3 1))) hx hd ne
    have e5 : (upd (upd (upd H4 d5 (.own t5)) t5 (.ins C d5 [])) t5 (.ins C d5 (shF (lowT 3 1) (lowB 3 1)))) t5 = some (.ins C d5 (shF (lowT 3 1) (lowB 3 1))) := upd_same
    generalize (upd (upd (upd H4 d5 (.own t5)) t5 (.ins C d5 [])) t5 (.ins C d5 (shF (lowT 3 1) (lowB 3 1)))) = H5 at s5 e5 ⊢
    clear hx hd ne
    refine ⟨by show 10 ≤ sizeLine; decide, fun t6 n6 => ?_⟩
    have s6 := Same.put (o := .tup [.bl true, .bl false, .non, .str "1", .str "", .ref t1, .ref t2, .ref t3, .ref t4, .ref t5]) n6
    refine ⟨a, t6, [.bl true, .bl false, .non, .str "1", .str "", .ref t1, .ref t2, .ref t3, .ref t4, .ref t5], rfl, ((((((hp.same s1).same s2).same s3).same s4).same s5).same s6), .inl (.inl upd_same), by show 0 < 10; decide, by show 10 < 1000; decide, fun v o hv ho => ?_⟩
    have ss : Same H (upd H5 t6 (.tup [.bl true, .bl false, .non, .str "1", .str "", .ref t1, .ref t2, .ref t3, .ref t4, .ref t5])) := ((((s1.trans s2).trans s3).trans s4).trans s5).trans s6
    have f1 := s6 _ _ (s5 _ _ (s4 _ _ (s3 _ _ (s2 _ _ e1))))
    have f2 := s6 _ _ (s5 _ _ (s4 _ _ (s3 _ _ e2)))
    have f3 := s6 _ _ (s5 _ _ (s4 _ _ e3))
    have f4 := s6 _ _ (s5 _ _ e4)
    have f5 := s6 _ _ e5
    have pp : PoolAt (upd H5 t6 (.tup [.bl true, .bl false, .non, .str "1", .str "", .ref t1, .ref t2, .ref t3, .ref t4, .ref t5])) a := hp.same ss
    generalize (upd H5 t6 (.tup [.bl true, .bl false, .non, .str "1", .str "", .ref t1, .ref t2, .ref t3, .ref t4, .ref t5])) = H6 at ss f1 f2 f3 f4 f5 pp ⊢
    have any : Any C H6 v ∧ isI v = false := by
      simp only [List.mem_cons, List.not_mem_nil, or_false] at hv
      rcases hv with rfl | rfl | rfl | rfl | rfl | rfl | rfl | rfl | rfl | rfl
      · exact ⟨.bl true, rfl⟩
      · exact ⟨.bl false, rfl⟩
      · exact ⟨.non, rfl⟩
      · exact ⟨.str _, rfl⟩
      · exact ⟨.str _, rfl⟩
      · exact ⟨.tup f1, rfl⟩
      · exact ⟨.lst f2, rfl⟩
      · exact ⟨.dct f3, rfl⟩
      · exact ⟨.sh f4, rfl⟩
      · exact ⟨.sh f5, rfl⟩
    exact k v _ (any.1.keep pp (Keep.put o)) any.2 ((Keep.of ss).trans (Keep.put o)) (.put ho)
end
end Kk

set_option Elab.async false
set_option linter.all false
set_option maxRecDepth 100000
set_option maxHeartbeats 4000000
namespace Kk
open PySem L2
section
variable {P : Program} {w : World} {K : PySem.W.Frag} {mg : Str → Option Value} {base : Heap} {C B W : Addr}
theorem xF_top (p q : V) : (xF p q).lookup ("top" : Str) = some p := rfl
theorem xF_bottom (p q : V) : (xF p q).lookup ("bottom" : Str) = some q := rfl
abbrev s_refused : Stmt := top 27
theorem sc_refused : FnScope ["_law_top", "_law_bottom", "e", "_law_kept"] ["_law_top", "_law_bottom"] (defScope s_refused) := ⟨rfl, rfl, rfl, by decide +kernel, rfl, by decide +kernel, by decide +kernel⟩
theorem ok_refused {f : Addr} {fd : FuncData} (F : Fun K "_law_refused" "_law_refused" s_refused f fd) (T : ShT K mg C) (m : MkT P w K mg base C B) (x : BxT K mg B W) (c_same : Cal P w K mg base 4 "_law_same" ["_law_kept", "_law_passed"] (spSame C)) :
    FnOk P w K mg base CX0 6 f fd ["_law_top", "_law_bottom"] (spRefused C) := by
  obtain ⟨fI, fdI, ds, M, FI, b0, _, _⟩ := m.ex
  refine F.ok sc_refused (fun vs H Q E h => ?_) (fun cdv A outer s H vs Q E hr h => ?_)
  · obtain ⟨p, q, rfl, _⟩ := h
    rfl
  · obtain ⟨p, q, rfl, hp, hq, hb, k⟩ := h
    refine ⟨_, (pss_cons (ps_try_asE (i := 2) (c := .ref B) (pss_one (ps_ret pe_bl)) rfl rfl sc_refused.nd rfl (by rfl) ⟨rfl, by decide, .inl x.gB⟩
          (fun W pn xe tk => pss_one (ps_expr (pe_makeS M FI hr rfl T.g_Share b0 .nil (fun σ => passAt tk σ) (pa_cons (pv 0) (pa_cons (pv 1) pa_nil)))))
          (fun a oe cls d pn hz hf => pss_one (ps_set (i := 3) sc_refused.nd rfl (Or.inl rfl) (pe_tup (pa_cons (pe_xf x.xf x.nt hz hf (pv 2)) (pa_cons (pe_xf x.xf x.nb hz hf (pv 2))
            (pa_cons (pe_and (pe_callB (call_up hz) (by rfl) T.bn.n_isinstance (by decide +kernel) (pa_cons (pv 2) (pa_cons (pe_glob (v := .ref W) rfl x.gW rfl) pa_nil))) (pe_one (pe_callB (call_up hz) (by rfl) T.bn.n_isinstance (by decide +kernel) (pa_cons (pv 2) (pa_cons (pe_bltn (v := .ty "ValueError") rfl T.bn.n_ValueError (by decide +kernel) rfl) pa_nil))))) pa_nil)))))))
      (pss_one (ps_ret (pe_and (pe_ix ix_tup (pv 3) pe_int (fun _ _ => rfl)) (pe_and (pe_cal c_same (hr.mono (by decide)) rfl (pa_cons (pe_ix ix_tup (pv 3) pe_int (fun _ _ => rfl)) (pa_cons (pv 0) pa_nil))) (pe_one (pe_cal c_same (hr.mono (by decide)) rfl (pa_cons (pe_ix ix_tup (pv 3) pe_int (fun _ _ => rfl)) (pa_cons (pv 1) pa_nil))))))))), ?_⟩
    refine ⟨p, rfl, q, rfl, fun a dx ha hd ne => ⟨a, dx, p, q, rfl, upd_same, ?_, ?_, .inr ⟨hb, fun d H1 hd1 s1 e1 => ?_⟩⟩⟩
    · exact (hp.same ((Same.put hd).trans (Same.put (by rw [upd_ne ne.symm]; exact ha)))).thing
    · exact (hq.same ((Same.put hd).trans (Same.put (by rw [upd_ne ne.symm]; exact ha)))).thing
    have s0 : Same H H1 := ((Same.put hd).trans (Same.put (by rw [upd_ne ne.symm]; exact ha))).trans s1
    refine ⟨x.xm, fun z hz => ?_⟩
    refine ⟨.ref z, rfl, rfl, rfl, d, xF p q, p, rfl, e1, xF_top p q, .ref z, rfl, rfl, rfl, d, xF p q, q, rfl, e1, xF_bottom p q, ?_⟩
    refine ⟨.ref z, rfl, .ref W, .ref W, rfl, fun u r => r, x.neW, x.upW, _, rfl, iteT ?_⟩
    refine ⟨.ref z, rfl, .ty "ValueError", .type "ValueError", rfl, fun u r => r, rfl, x.upV, ?_⟩
    refine ⟨by show 3 ≤ sizeLine; decide, fun t nt => ?_⟩
    have s2 := s0.trans (Same.put (o := .tup [p, q, .bl true]) nt)
    have st : SqT K (upd H1 t (.tup [p, q, .bl true])) t [p, q, .bl true] := .inl (.inl upd_same)
    generalize (upd H1 t (.tup [p, q, .bl true])) = H2 at s2 st ⊢
    refine ⟨_, rfl, t, _, 2, _, rfl, rfl, st, i2, _, rfl, iteT ?_⟩
    refine ⟨_, rfl, t, _, 0, _, rfl, rfl, st, i0 (y := q), _, rfl, p, rfl, hp.same s2, _, rfl, iteT ?_⟩
    exact ⟨_, rfl, t, _, 1, _, rfl, rfl, st, i1, _, rfl, q, rfl, hq.same s2, k _ s2⟩
end
end Kk

set_option Elab.async false
set_option linter.all false
set_option maxRecDepth 100000
set_option maxHeartbeats 4000000
namespace Kk
open PySem L2
/-! ### lowest terms, once more -/
theorem sg_dvdT (a b : Int) : sg a b ∣ a := by
  have h : ((Nat.gcd a.natAbs b.natAbs : Nat) : Int) ∣ a := Int.ofNat_dvd_left.mpr (Nat.gcd_dvd_left _ _)
  unfold sg
  split
  · exact h
  · exact Int.neg_dvd.mpr h
theorem sg_dvdB (a b : Int) : sg a b ∣ b := by
  have h : ((Nat.gcd a.natAbs b.natAbs : Nat) : Int) ∣ b := Int.ofNat_dvd_left.mpr (Nat.gcd_dvd_right _ _)
  unfold sg
  split
  · exact h
  · exact Int.neg_dvd.mpr h
theorem low_mulT (a b : Int) : lowT a b * sg a b = a := by
  unfold lowT
  exact Int.fdiv_mul_cancel (sg_dvdT a b)
theorem low_mulB (a b : Int) : lowB a b * sg a b = b := by
  unfold lowB
  exact Int.fdiv_mul_cancel (sg_dvdB a b)
theorem abs_le {x g y : Int} (h : x * g = y) (hg : g ≠ 0) : x.natAbs ≤ y.natAbs := by
  rw [← h, Int.natAbs_mul]
  exact Nat.le_mul_of_pos_right _ (Int.natAbs_pos.mpr hg)
theorem lowT_le {a b : Int} (hb : b ≠ 0) : (lowT a b).natAbs ≤ a.natAbs := abs_le (low_mulT a b) (sg_ne hb)
theorem lowB_le {a b : Int} (hb : b ≠ 0) : (lowB a b).natAbs ≤ b.natAbs := abs_le (low_mulB a b) (sg_ne hb)
theorem lowB_pos {a b : Int} (hb : b ≠ 0) : 0 < lowB a b := by
  have e := low_mulB a b
  by_cases h : 0 < b
  · have hs : 0 < sg a b := by
      unfold sg
      rw [if_pos h]
      exact Int.ofNat_lt.mpr (gcd_pos hb)
    by_cases z : 0 < lowB a b
    · exact z
    · have : lowB a b * sg a b ≤ 0 := Int.mul_nonpos_of_nonpos_of_nonneg (by omega) (by omega)
      omega
  · have hs : sg a b < 0 := by
      unfold sg
      rw [if_neg h]
      have := Int.ofNat_lt.mpr (gcd_pos (a := a) hb)
      omega
    by_cases z : 0 < lowB a b
    · exact z
    · have : 0 ≤ lowB a b * sg a b := Int.mul_nonneg_of_nonpos_of_nonpos (by omega) (by omega)
      omega
theorem low_gcd {a b : Int} (hb : b ≠ 0) : Nat.gcd (lowT a b).natAbs (lowB a b).natAbs = 1 := by
  have e1 : (lowT a b).natAbs * Nat.gcd a.natAbs b.natAbs = a.natAbs := by
    rw [← sg_abs, ← Int.natAbs_mul, low_mulT]
  have e2 : (lowB a b).natAbs * Nat.gcd a.natAbs b.natAbs = b.natAbs := by
    rw [← sg_abs, ← Int.natAbs_mul, low_mulB]
  have h : Nat.gcd ((lowT a b).natAbs * Nat.gcd a.natAbs b.natAbs) ((lowB a b).natAbs * Nat.gcd a.natAbs b.natAbs) = Nat.gcd (lowT a b).natAbs (lowB a b).natAbs * Nat.gcd a.natAbs b.natAbs := Nat.gcd_mul_right _ _ _
  rw [e1, e2] at h
  have hp := gcd_pos (a := a) hb
  exact Nat.eq_of_mul_eq_mul_right hp (by rw [← h, Nat.one_mul])
theorem sg_one {x y : Int} (hy : 0 < y) (h : Nat.gcd x.natAbs y.natAbs = 1) : sg x y = 1 := by
  unfold sg
  rw [if_pos hy, h]
  rfl
theorem low_one {x y : Int} (hy : 0 < y) (h : Nat.gcd x.natAbs y.natAbs = 1) : lowT x y = x ∧ lowB x y = y := by
  unfold lowT lowB
  rw [sg_one hy h]
  exact ⟨Int.fdiv_one x, Int.fdiv_one y⟩
theorem low_low {a b : Int} (hb : b ≠ 0) : lowT (lowT a b) (lowB a b) = lowT a b ∧ lowB (lowT a b) (lowB a b) = lowB a b := low_one (lowB_pos hb) (low_gcd hb)
theorem low_int (i : Int) : lowT i 1 = i ∧ lowB i 1 = 1 := low_one (by decide) (by show Nat.gcd i.natAbs 1 = 1; exact Nat.gcd_one_right _)
/-! ### how shares and things compare -/
theorem cmp_fo {K : PySem.W.Frag} {C a dx : Addr} {t n : Int} {H : Hp} {y : V} {T : String} (e : H a = some (.ins C dx (shF t n))) (h : Fo K H y T) {b : Bool} (hb : b = (isI y && (decide (V.int n = V.int 1) && decide (V.int t = y)))) : Cmp K C H (.ref a) y b ∧ Cmp K C H y (.ref a) b :=
  have eq : EqS K C a y b H := ⟨dx, t, n, e, .inr ⟨⟨T, h⟩, hb⟩⟩
  ⟨.inl ⟨a, dx, _, rfl, e, eq, .inl ⟨T, h⟩⟩, .inr ⟨a, dx, _, T, rfl, e, h, eq⟩⟩
theorem cmp_sh {K : PySem.W.Frag} {C a dx c dy : Addr} {t n t' n' : Int} {H : Hp} (e : H a = some (.ins C dx (shF t n))) (e' : H c = some (.ins C dy (shF t' n'))) : Cmp K C H (.ref a) (.ref c) (decide (V.int t = V.int t') && decide (V.int n = V.int n')) :=
  .inl ⟨a, dx, _, rfl, e, ⟨dx, t, n, e, .inl ⟨c, dy, t', n', rfl, e', rfl⟩⟩, .inr ⟨c, dy, _, rfl, e'⟩⟩
theorem cmp_sh2 {K : PySem.W.Frag} {C a dx c dy : Addr} {t n t' n' : Int} {H : Hp} (e : H a = some (.ins C dx (shF t n))) (e' : H c = some (.ins C dy (shF t' n'))) {b : Bool} (hb : b = (decide (V.int t = V.int t') && decide (V.int n = V.int n'))) :
    Cmp K C H (.ref a) (.ref c) b ∧ Cmp K C H (.ref c) (.ref a) b := by
  subst hb
  refine ⟨cmp_sh e e', ?_⟩
  have h := cmp_sh (K := K) e' e
  have z : (decide (V.int t' = V.int t) && decide (V.int n' = V.int n)) = (decide (V.int t = V.int t') && decide (V.int n = V.int n')) := by
    rw [decide_eq_decide.mpr (⟨Eq.symm, Eq.symm⟩ : V.int t' = V.int t ↔ V.int t = V.int t'), decide_eq_decide.mpr (⟨Eq.symm, Eq.symm⟩ : V.int n' = V.int n ↔ V.int n = V.int n')]
  rw [z] at h
  exact h
theorem eqv_pair (x y x' y' : Int) : PyData.eqv (.tuple [.int x, .int y]) (.tuple [.int x', .int y']) = (decide (V.int x = V.int x') && decide (V.int y = V.int y')) := by
  rw [Bool.eq_iff_iff]
  simp [PyData.eqv, PyData.eqvAll]
end Kk

set_option Elab.async false
set_option linter.all false
set_option maxRecDepth 100000
set_option maxHeartbeats 4000000
namespace Kk
open PySem PySem.Spec L2 PyProof.Rows
/-- __str__ of the class -/
structure StrT (P : Program) (w : World) (K : PySem.W.Frag) (mg : Str → Option Value) (base : Heap) (C : Addr) : Prop where
  ex : ∃ (f : Addr) (fd : FuncData), PySem.W.findIn K (.ref C) "__str__" = some (some (.ref f)) ∧ PySem.W.isFn K (.ref f) = true ∧ FnOk P w K mg base CX0 2 f fd ["self"] (spStr C) ∧ Binds K fd ["self"] []
/-- str(share) -/
def rStrS (C : Addr) : List V → Hp → VK → Prop := fun xs H Q => ∃ (a dx : Addr) (t n : Int), xs = [.ref a] ∧ H a = some (.ins C dx (shF t n)) ∧ t.natAbs < 10 ^ 64 ∧ n.natAbs < 10 ^ 64 ∧ ∀ H', Same H H' → Q (.str (shT t n)) H'
theorem call_strS {X : Cx} {C : Addr} (c : StrT X.prog X.w X.K X.mg X.base C) (hr : Room 4 X.A) : CallR X (.type "str") (rStrS C) := by
  intro pins s σ H xs us Q I r h
  obtain ⟨a, dx, t, n, rfl, ha, ht, hn, q⟩ := h
  obtain ⟨f, fd, hs, hf, F, hb⟩ := c.ex
  obtain ⟨u, rfl, ru⟩ := vals1 r
  obtain rfl : u = Value.ref a := ru
  obtain ⟨mA, J, _⟩ := ins_get I.hok ha
  obtain ⟨od, J, _⟩ := J.look
  have hr2 : Room 2 X.A.in1.in1 := hr.in1.in1
  refine PySem.W.kso_call (hr2.units0) I.kIn J hs hf ?_
  have e0 : Env0 X.prog X.w X.K X.mg X.base X.A.in1.in1 X.stack s H := by
    have e := I.env0
    exact ⟨e.frames, e.mod, e.bs, e.bsz, e.funs, e.frf, e.hok, e.bare⟩
  have hsp : spStr C [.ref a] H (fun v H' => v = .str (shT t n) ∧ Same H H') E0 := ⟨a, dx, t, n, rfl, ha, ht, hn, fun H' hs => ⟨rfl, hs⟩⟩
  have hl := F.len _ _ _ _ hsp
  have r2 : Vals [V.ref a] [Value.ref a] := .cons rfl .nil
  refine wpAny_call (codeAny_mono (F.run X.A.in1.in1 X.stack s H ⟨[.ref a], []⟩ [.ref a] [.ref a] _ E0 hr2 e0 (by
    have := hb s [.ref a] I.kIn (by simpa using hl)
    simpa using this) r2 hsp) fun r s' hq => ?_)
  cases r with
  | error e => exact hq.elim
  | ok fl =>
    cases fl with
    | ret w =>
      obtain ⟨z, H', I', rz, ez, ex⟩ := I.after hq
      subst ez
      obtain ⟨tk, rfl⟩ := (show ∃ tk, w = Value.str (shT t n) tk from rz)
      exact ⟨.str (shT t n), H', I', ⟨tk, rfl⟩, q H' ex⟩
    | next => exact False.elim hq
    | brk => exact False.elim hq
    | cont => exact False.elim hq
end Kk

set_option Elab.async false
set_option linter.all false
set_option maxRecDepth 100000
set_option maxHeartbeats 4000000
namespace Kk
open PySem L2
/-- a share and its part -/
def Two (C : Addr) (H : Hp) (pt sh : Addr) (x y : Int) : Prop := ∃ dx, H pt = some (.tup [.int x, .int y]) ∧ H sh = some (.ins C dx (shF x y))
theorem Two.same {C : Addr} {H H' : Hp} {pt sh : Addr} {x y : Int} (h : Two C H pt sh x y) (s : Same H H') : Two C H' pt sh x y := by
  obtain ⟨dx, h1, h2⟩ := h
  exact ⟨dx, s _ _ h1, s _ _ h2⟩
theorem Two.keep {C a : Addr} {H H' : Hp} {pt sh : Addr} {x y : Int} (h : Two C H pt sh x y) (p : PoolAt H a) (s : Keep a H H') : Two C H' pt sh x y := by
  obtain ⟨dx, h1, h2⟩ := h
  exact ⟨dx, s _ _ h1 (p.ne h1), s _ _ h2 (p.nei h2)⟩
structure LawT (P : Program) (w : World) (K : PySem.W.Frag) (mg : Str → Option Value) (base : Heap) (C B : Addr) : Prop where
  T : ShT K mg C
  m : MkT P w K mg base C B
  st : StrT P w K mg base C
  pool : Cal P w K mg base 1 "_law_pool" ["_law_script"] (spPool K)
  draw : Cal P w K mg base 1 "_law_draw" ["_law_pool_here", "_law_many"] spDraw
  pick : Cal P w K mg base 2 "_law_pick" ["_law_pool_here", "_law_things"] (spPick K)
  part : Cal P w K mg base 2 "_law_part" ["_law_top", "_law_bottom"] spPart
  integer : Cal P w K mg base 2 "_law_integer" ["_law_pool_here"] spInteger
  fraction : Cal P w K mg base 3 "_law_fraction" ["_law_pool_here"] spFraction
  is_ : Cal P w K mg base 2 "_law_is" ["_law_share", "_law_part_here"] (spIs C)
  text : Cal P w K mg base 1 "_law_text" ["_law_part_here"] spText
  equal : Cal P w K mg base 4 "_law_equal" ["_law_one", "_law_other", "_law_due"] (spEqual K C)
  bad : Cal P w K mg base 6 "_law_bad" ["_law_pool_here"] (spBad C)
  refused : Cal P w K mg base 6 "_law_refused" ["_law_top", "_law_bottom"] (spRefused C)
def NL : List Str := ["_law_script", "_law_pool_here", "_law_top", "_law_bottom", "_law_part_here", "_law_share", "_law_top2", "_law_bottom2", "_law_part2", "_law_other", "_law_near", "_law_thing", "_law_bad_here", "_law_worse"]
abbrev s_law : Stmt := top 28
theorem sc_law : FnScope ["_law_script", "_law_pool_here", "_law_top", "_law_bottom", "_law_part_here", "_law_share", "_law_top2", "_law_bottom2", "_law_part2", "_law_other", "_law_near", "_law_thing", "_law_bad_here", "_law_worse"] ["_law_script"] (defScope s_law) := ⟨rfl, rfl, rfl, by decide +kernel, rfl, by decide +kernel, by decide +kernel⟩
section
variable {P : Program} {w : World} {K : PySem.W.Frag} {mg : Str → Option Value} {base : Heap} {C B : Addr} {f : Addr} {cdv : Value} {A : Around} {outer : List Env} {s : Shared} {H : Hp} {E : XK}
abbrev XL (P : Program) (w : World) (K : PySem.W.Frag) (mg : Str → Option Value) (base : Heap) (f : Addr) (cdv : Value) (A : Around) (outer : List Env) (s : Shared) (H : Hp) (E : XK) : Cx :=
  (cxOf CX0 P w K mg base ["_law_script", "_law_pool_here", "_law_top", "_law_bottom", "_law_part_here", "_law_share", "_law_top2", "_law_bottom2", "_law_part2", "_law_other", "_law_near", "_law_thing", "_law_bad_here", "_law_worse"] "law" (defScope s_law) f cdv A outer s H E).nox
theorem seg16 (L : LawT P w K mg base C B) (hr : Room 6 (XL P w K mg base f cdv A outer s H E).A) {Q : VK} (k : ∀ H', Q (.bl true) H') :
    ∃ u, PSs (XL P w K mg base f cdv A outer s H E) ((defBody s_law).drop 16) u ∧ ∀ (a pt sh pt2 ot : Addr) (x y p q p2 q2 : Int) (v0 v6 v7 v10 v11 v12 v13 : Option V) (H1 : Hp), PoolAt H1 a → Two C H1 pt sh p q → Two C H1 pt2 ot p2 q2 →
      u { nx := fun _ H' => Q .non H', rt := Q } [v0, some (.ref a), some (.int x), some (.int y), some (.ref pt), some (.ref sh), v6, v7, some (.ref pt2), some (.ref ot), v10, v11, v12, v13] H1 := by
  refine ⟨_, (pss_cons (ps_par (i := 12) (j := 13) (by rfl) sc_law.nd rfl rfl (by decide) rfl rfl (pa_cons (pe_cal L.bad hr rfl (pa_cons (pv 1) pa_nil)) (pa_cons (pe_cal L.bad hr rfl (pa_cons (pv 1) pa_nil)) pa_nil)) (by rfl))
    (pss_cons (ps_if (PW.pt (pw_or (pt_not (pt_val (pe_cal L.refused hr rfl (pa_cons (pv 12) (pa_cons (pv 3) pa_nil))))) (pw_or (pt_not (pt_val (pe_cal L.refused hr rfl (pa_cons (pv 2) (pa_cons (pv 12) pa_nil))))) (pw_or1 (pt_not (pt_val (pe_cal L.refused hr rfl (pa_cons (pv 12) (pa_cons (pv 13) pa_nil)))))))))
        (pss_one (ps_ret pe_bl))
        pss_nil)
    (pss_cons (ps_if (PW.pt (pw_or (pt_not (pt_val (pe_cal L.refused hr rfl (pa_cons (pv 2) (pa_cons pe_int pa_nil))))) (pw_or (pt_not (pt_val (pe_cal L.refused hr rfl (pa_cons (pv 12) (pa_cons pe_int pa_nil))))) (pw_or1 (pt_not (pt_val (pe_cal L.refused hr rfl (pa_cons pe_int (pa_cons pe_int pa_nil)))))))))
        (pss_one (ps_ret pe_bl))
        pss_nil)
    (pss_one (ps_ret (pe_and (pe_cal L.is_ (hr.mono (by decide)) rfl (pa_cons (pv 5) (pa_cons (pv 4) pa_nil))) (pe_one (pe_cal L.is_ (hr.mono (by decide)) rfl (pa_cons (pv 9) (pa_cons (pv 8) pa_nil)))))))))), ?_⟩
  intro a pt sh pt2 ot x y p q p2 q2 v0 v6 v7 v10 v11 v12 v13 H1 hp t1 t2
  refine ⟨_, rfl, a, rfl, hp, fun b H2 hb ib k2 hp2 => ⟨_, rfl, a, rfl, hp2, fun c H3 hc ic k3 hp3 => ⟨_, _, rfl, ?_⟩⟩⟩
  have hb3 := hb.keep hp2 k3
  have t13 := t1.keep hp (k2.trans k3)
  have t23 := t2.keep hp (k2.trans k3)
  refine ⟨_, rfl, _, rfl, b, .int y, rfl, hb3, .int y, .inl ib, fun H4 s4 => ⟨_, rfl, iteF ?_⟩⟩
  refine ⟨_, rfl, _, rfl, .int x, b, rfl, .int x, hb3.same s4, .inr (.inl ib), fun H5 s5 => ⟨_, rfl, iteF ?_⟩⟩
  refine ⟨_, rfl, _, rfl, b, c, rfl, hb3.same (s4.trans s5), hc.same (s4.trans s5), .inl ib, fun H6 s6 => ⟨_, rfl, iteF ?_⟩⟩
  have s36 := (s4.trans s5).trans s6
  refine ⟨_, rfl, .int x, .int 0, rfl, .int x, .int 0, .inr (.inr rfl), fun H7 s7 => ⟨_, rfl, iteF ?_⟩⟩
  refine ⟨_, rfl, b, .int 0, rfl, hb3.same (s36.trans s7), .int 0, .inl ib, fun H8 s8 => ⟨_, rfl, iteF ?_⟩⟩
  refine ⟨.int 0, .int 0, rfl, .int 0, .int 0, .inr (.inr rfl), fun H9 s9 => ⟨_, rfl, iteF ?_⟩⟩
  have s39 := ((s36.trans s7).trans s8).trans s9
  obtain ⟨dx, e1, e2⟩ := t13.same s39
  obtain ⟨dy, e3, e4⟩ := t23.same s39
  refine ⟨_, rfl, _, rfl, sh, pt, dx, p, q, rfl, e2, e1, fun H10 s10 => ⟨_, rfl, iteT ?_⟩⟩
  exact ⟨_, rfl, _, rfl, ot, pt2, dy, p2, q2, rfl, s10 _ _ e4, s10 _ _ e3, fun H11 s11 => k _⟩
end
end Kk

set_option Elab.async false
set_option linter.all false
set_option maxRecDepth 100000
set_option maxHeartbeats 4000000
namespace Kk
open PySem L2
theorem si_ok {K : PySem.W.Frag} {C B : Addr} {a b : Int} {H : Hp} {x dx : Addr} {Q : VK} {E : XK} (hx : H x = none) (hd : H dx = none) (ne : dx ≠ x) (nz : b ≠ 0) (hl : b.natAbs.log2 < 9000)
    (k : ∀ H', Same H H' → H' x = some (.ins C dx (shF (lowT a b) (lowB a b))) → Q .non H') : spSI K C B [.ref x, .int a, .int b] (upd (upd H dx (.own x)) x (.ins C dx [])) Q E :=
  ⟨x, dx, .int a, .int b, rfl, upd_same, .fo (.int a), .fo (.int b), .inl ⟨a, b, rfl, rfl, nz, hl, k _ (mk_same hx hd ne) upd_same⟩⟩
theorem fo_same {K : PySem.W.Frag} {H H' : Hp} {x : V} {T : String} (h : Fo K H x T) (s : Same H H') : Fo K H' x T := by
  cases h with
  | non => exact .non
  | bl b => exact .bl b
  | int i => exact .int i
  | str x => exact .str x
  | lst e => exact .lst (s _ _ e)
  | tup e => exact .tup (s _ _ e)
  | dK e => exact .dK (s _ _ e)
section
variable {P : Program} {w : World} {K : PySem.W.Frag} {mg : Str → Option Value} {base : Heap} {C B : Addr} {f : Addr} {cdv : Value} {A : Around} {outer : List Env} {s : Shared} {H : Hp} {E : XK}
theorem seg14 (L : LawT P w K mg base C B) (hr : Room 6 (XL P w K mg base f cdv A outer s H E).A) {Q : VK} (k : ∀ H', Q (.bl true) H') :
    ∃ u, PSs (XL P w K mg base f cdv A outer s H E) ((defBody s_law).drop 14) u ∧ ∀ (a pt sh pt2 ot : Addr) (x y p q p2 q2 i : Int) (v0 v6 v7 v11 v12 v13 : Option V) (H1 : Hp), p.natAbs < 10 ^ 64 → q.natAbs < 10 ^ 64 → PoolAt H1 a → Two C H1 pt sh p q → Two C H1 pt2 ot p2 q2 →
      u { nx := fun _ H' => Q .non H', rt := Q } [v0, some (.ref a), some (.int x), some (.int y), some (.ref pt), some (.ref sh), v6, v7, some (.ref pt2), some (.ref ot), some (.int i), v11, v12, v13] H1 := by
  obtain ⟨u, hu, qu⟩ := seg16 (f := f) (cdv := cdv) (A := A) (outer := outer) (s := s) (H := H) (E := E) L hr k
  refine ⟨_, (pss_cons (ps_for PassesOwn.never rfl (pi_tup (pe_tup (pa_cons pe_bl (pa_cons pe_bl (pa_cons pe_non (pa_cons (pe_cal L.text (hr.mono (by decide)) rfl (pa_cons (pv 4) pa_nil)) (pa_cons (pv 4) (pa_cons (pe_lst (pa_cons (pv 5) pa_nil)) (pa_cons pe_dnewK pa_nil))))))))) (pg_name (i := 11) sc_law.nd rfl (Or.inl rfl))
        (pss_one (ps_if (PW.pt (pw_or (pt_not (pt_val (pe_cal L.equal (hr.mono (by decide)) rfl (pa_cons (pv 5) (pa_cons (pv 11) (pa_cons pe_bl pa_nil)))))) (pw_or1 (pt_not (pt_val (pe_cal L.equal (hr.mono (by decide)) rfl (pa_cons (pe_share1 L.m (hr.mono (by decide)) rfl (pa_cons (pv 10) pa_nil)) (pa_cons (pv 11) (pa_cons pe_bl pa_nil)))))))))
            (pss_one (ps_ret pe_bl))
            pss_nil)))
    (pss_cons (ps_if (PW.pt (pw_or (pt_not (pt_val (pe_cal L.equal (hr.mono (by decide)) rfl (pa_cons (pe_share1 L.m (hr.mono (by decide)) rfl (pa_cons pe_int pa_nil)) (pa_cons pe_bl (pa_cons pe_bl pa_nil)))))) (pw_or1 (pt_not (pt_val (pe_cal L.equal (hr.mono (by decide)) rfl (pa_cons (pe_share1 L.m (hr.mono (by decide)) rfl (pa_cons pe_int pa_nil)) (pa_cons pe_bl (pa_cons pe_bl pa_nil)))))))))
        (pss_one (ps_ret pe_bl))
        pss_nil) hu)), ?_⟩
  intro a pt sh pt2 ot x y p q p2 q2 i v0 v6 v7 v11 v12 v13 H1 hlp hlq hp t1 t2
  obtain ⟨dx, e1, e2⟩ := t1
  -- the things
  refine ⟨_, rfl, pt, p, q, rfl, e1, hlp, hlq, _, rfl, _, rfl, by show 1 ≤ sizeLine; decide, fun l nl => fun d nd => ⟨by show 7 ≤ sizeLine; decide, fun t nt => ?_⟩⟩
  have s2 : Same H1 (upd (upd (upd H1 l (.lst [.ref sh])) d (.dK [])) t (.tup [.bl true, .bl false, .non, .str (shT p q), .ref pt, .ref l, .ref d])) := ((Same.put nl).trans (Same.put nd)).trans (Same.put nt)
  have el : (upd (upd (upd H1 l (.lst [.ref sh])) d (.dK [])) t (.tup [.bl true, .bl false, .non, .str (shT p q), .ref pt, .ref l, .ref d])) l = some (.lst [.ref sh]) := Same.put nt _ _ (Same.put nd _ _ upd_same)
  have ed : (upd (upd (upd H1 l (.lst [.ref sh])) d (.dK [])) t (.tup [.bl true, .bl false, .non, .str (shT p q), .ref pt, .ref l, .ref d])) d = some (.dK []) := Same.put nt _ _ upd_same
  have et : (upd (upd (upd H1 l (.lst [.ref sh])) d (.dK [])) t (.tup [.bl true, .bl false, .non, .str (shT p q), .ref pt, .ref l, .ref d])) t = some (.tup [.bl true, .bl false, .non, .str (shT p q), .ref pt, .ref l, .ref d]) := upd_same
  generalize (upd (upd (upd H1 l (.lst [.ref sh])) d (.dK [])) t (.tup [.bl true, .bl false, .non, .str (shT p q), .ref pt, .ref l, .ref d])) = H2 at s2 el ed et ⊢
  have all : ∀ z ∈ ([.bl true, .bl false, .non, .str (shT p q), .ref pt, .ref l, .ref d] : List V), (∃ T, Fo K H2 z T) ∧ isI z = false := by
    intro z hz
    simp only [List.mem_cons, List.not_mem_nil, or_false] at hz
    rcases hz with rfl | rfl | rfl | rfl | rfl | rfl | rfl
    · exact ⟨⟨_, .bl true⟩, rfl⟩
    · exact ⟨⟨_, .bl false⟩, rfl⟩
    · exact ⟨⟨_, .non⟩, rfl⟩
    · exact ⟨⟨_, .str _⟩, rfl⟩
    · exact ⟨⟨_, .tup (s2 _ _ e1)⟩, rfl⟩
    · exact ⟨⟨_, .lst el⟩, rfl⟩
    · exact ⟨⟨_, .dK ed⟩, rfl⟩
  refine ⟨t, rfl, ⟨_, SqT.of et⟩, for_tup (K := K) (a := t) (xs := [.bl true, .bl false, .non, .str (shT p q), .ref pt, .ref l, .ref d]) (fun j σ H' => Same H2 H' ∧ ∃ v, σ = [v0, some (.ref a), some (.int x), some (.int y), some (.ref pt), some (.ref sh), v6, v7, some (.ref pt2), some (.ref ot), some (.int i), v, v12, v13])
    ⟨fun _ _ h => h, v11, rfl⟩ (fun j σ H' _ h => ?_) ?_ ?_⟩
  · exact SqT.of (h.1 _ _ et)
  · rintro j z σ H3 hz ⟨s3, v, rfl⟩
    obtain ⟨⟨T, fo⟩, iz⟩ := all z (List.mem_of_getElem? hz)
    have no : ∀ {t n : Int}, false = (isI z && (decide (V.int n = V.int 1) && decide (V.int t = z))) := by
      intro t n
      rw [iz, Bool.false_and]
    obtain ⟨c1, c2⟩ := cmp_fo (C := C) (s3 _ _ (s2 _ _ e2)) (fo_same fo s3) no
    refine ⟨_, rfl, _, rfl, .ref sh, z, false, rfl, c1, c2, fun H4 s4 => ⟨_, rfl, iteF ?_⟩⟩
    refine ⟨_, rfl, fun n dn hn hd ne => si_ok hn hd ne (a := i) (b := 1) (by decide) (by decide +kernel) fun H5 s5 e5 => ⟨rfl, ?_⟩⟩
    obtain ⟨c3, c4⟩ := cmp_fo (C := C) e5 (fo_same fo ((s3.trans s4).trans s5)) no
    exact ⟨_, rfl, .ref n, z, false, rfl, c3, c4, fun H6 s6 => ⟨_, rfl, iteF ⟨((s3.trans s4).trans s5).trans s6, _, rfl⟩⟩⟩
  · rintro σ H3 ⟨s3, v, rfl⟩
    have s13 := s2.trans s3
    refine fun n dn hn hd ne => si_ok hn hd ne (a := 1) (b := 1) (by decide) (by decide +kernel) fun H5 s5 e5 => ⟨rfl, ?_⟩
    obtain ⟨c3, c4⟩ := cmp_fo (K := K) (C := C) (y := .bl true) (b := false) e5 (.bl true) rfl
    refine ⟨.ref n, .bl true, false, rfl, c3, c4, fun H6 s6 => ⟨_, rfl, iteF ?_⟩⟩
    refine fun n2 dn2 hn2 hd2 ne2 => si_ok hn2 hd2 ne2 (a := 0) (b := 1) (by decide) (by decide +kernel) fun H7 s7 e7 => ⟨rfl, ?_⟩
    obtain ⟨c5, c6⟩ := cmp_fo (K := K) (C := C) (y := .bl false) (b := false) e7 (.bl false) rfl
    refine ⟨.ref n2, .bl false, false, rfl, c5, c6, fun H8 s8 => ⟨_, rfl, iteF ?_⟩⟩
    have s18 := ((((s13.trans s5).trans s6).trans s7).trans s8)
    exact qu a pt sh pt2 ot x y p q p2 q2 v0 v6 v7 (some (.int i)) v v12 v13 H8 (hp.same s18) (Two.same ⟨dx, e1, e2⟩ s18) (t2.same s18)
end
end Kk

set_option Elab.async false
set_option linter.all false
set_option maxRecDepth 100000
set_option maxHeartbeats 4000000
namespace Kk
open PySem L2
section
variable {P : Program} {w : World} {K : PySem.W.Frag} {mg : Str → Option Value} {base : Heap} {C B : Addr} {f : Addr} {cdv : Value} {A : Around} {outer : List Env} {s : Shared} {H : Hp} {E : XK}
theorem seg12 (L : LawT P w K mg base C B) (hr : Room 6 (XL P w K mg base f cdv A outer s H E).A) {Q : VK} (k : ∀ H', Q (.bl true) H') :
    ∃ u, PSs (XL P w K mg base f cdv A outer s H E) ((defBody s_law).drop 12) u ∧ ∀ (a pt sh pt2 ot : Addr) (x y p q p2 q2 : Int) (v0 v6 v7 v10 v11 v12 v13 : Option V) (H1 : Hp), p.natAbs < 10 ^ 64 → q.natAbs < 10 ^ 64 → q ≠ 0 → PoolAt H1 a → Two C H1 pt sh p q → Two C H1 pt2 ot p2 q2 →
      u { nx := fun _ H' => Q .non H', rt := Q } [v0, some (.ref a), some (.int x), some (.int y), some (.ref pt), some (.ref sh), v6, v7, some (.ref pt2), some (.ref ot), v10, v11, v12, v13] H1 := by
  obtain ⟨u, hu, qu⟩ := seg14 (f := f) (cdv := cdv) (A := A) (outer := outer) (s := s) (H := H) (E := E) L hr k
  refine ⟨_, (pss_cons (ps_set (i := 10) sc_law.nd rfl (Or.inl rfl) (pe_cal L.pick (hr.mono (by decide)) rfl (pa_cons (pv 1) (pa_cons (pe_tup (pa_cons (pv 2) (pa_cons (pe_ix ix_tup (pv 4) pe_int (fun _ _ => rfl)) (pa_cons (pe_op op_fdivG (pe_ix ix_tup (pv 4) pe_int (fun _ _ => rfl)) (pe_ix ix_tup (pv 4) pe_int (fun _ _ => rfl))) (pa_cons pe_int (pa_cons pe_int (pa_cons (pe_cal L.integer (hr.mono (by decide)) rfl (pa_cons (pv 1) pa_nil)) pa_nil))))))) pa_nil))))
    (pss_cons (ps_if (PW.pt (pw_or (pt_not (pt_val (pe_cal L.equal (hr.mono (by decide)) rfl (pa_cons (pv 5) (pa_cons (pv 10) (pa_cons (pe_cmpR (op_eqD hr.units) (pv 4) (pe_tup (pa_cons (pv 10) (pa_cons pe_int pa_nil))) (nomark _)) pa_nil)))))) (pw_or1 (pt_not (pt_val (pe_cal L.equal (hr.mono (by decide)) rfl (pa_cons (pe_share1 L.m (hr.mono (by decide)) rfl (pa_cons (pv 10) pa_nil)) (pa_cons (pv 10) (pa_cons pe_bl pa_nil)))))))))
        (pss_one (ps_ret pe_bl))
        pss_nil) hu)), ?_⟩
  intro a pt sh pt2 ot x y p q p2 q2 v0 v6 v7 v10 v11 v12 v13 H1 hlp hlq hq hp t1 t2
  obtain ⟨dx, e1, e2⟩ := t1
  have st : SqT K H1 pt [.int p, .int q] := SqT.of e1
  refine ⟨_, rfl, _, rfl, _, rfl, pt, _, 0, _, rfl, rfl, st, at0, _, rfl, pt, _, 0, _, rfl, rfl, st, at0, _, rfl, pt, _, 1, _, rfl, rfl, st, at1, p, q, rfl, rfl, ⟨hq, Nat.lt_trans (small_log hlq) (by decide)⟩, _, rfl, a, rfl, hp, fun n H2 hn k2 hp2 => ⟨by show 6 ≤ sizeLine; decide, fun t nt => ?_⟩⟩
  have s3 : Same H2 (upd H2 t (.tup [.int x, .int p, .int (p.fdiv q), .int 0, .int 1, .int n])) := Same.put nt
  refine ⟨a, t, [.int x, .int p, .int (p.fdiv q), .int 0, .int 1, .int n], rfl, hp2.same s3, .inl (.inl upd_same), by show 0 < 6; decide, by show 6 < 1000; decide, fun v o hv ho => ?_⟩
  have iv : ∃ i : Int, v = .int i := by
    simp only [List.mem_cons, List.not_mem_nil, or_false] at hv
    rcases hv with rfl | rfl | rfl | rfl | rfl | rfl <;> exact ⟨_, rfl⟩
  obtain ⟨i, rfl⟩ := iv
  have k4 : Keep a H1 (upd (upd H2 t (.tup [.int x, .int p, .int (p.fdiv q), .int 0, .int 1, .int n])) a o) := (k2.trans (Keep.of s3)).trans (Keep.put o)
  have hp4 : PoolAt (upd (upd H2 t (.tup [.int x, .int p, .int (p.fdiv q), .int 0, .int 1, .int n])) a o) a := .put ho
  generalize (upd (upd H2 t (.tup [.int x, .int p, .int (p.fdiv q), .int 0, .int 1, .int n])) a o) = H4 at k4 hp4 ⊢
  have t14 : Two C H4 pt sh p q := Two.keep ⟨dx, e1, e2⟩ hp k4
  have t24 := t2.keep hp k4
  obtain ⟨dy, e3, e4⟩ := t14
  -- equal(share, near, ..)
  refine ⟨_, rfl, _, rfl, _, rfl, _, rfl, by show 2 ≤ sizeLine; decide, fun t nt => ?_⟩
  have s5 : Same H4 (upd H4 t (.tup [.int i, .int 1])) := Same.put nt
  refine ⟨_, _, dp2 (.inl (.inl (s5 _ _ e3))), dp2 (.inl (.inl upd_same)), sh2 p q, sh2 i 1, ?_⟩
  generalize (upd H4 t (.tup [.int i, .int 1])) = H5 at s5 ⊢
  rw [eqv_pair]
  obtain ⟨c1, c2⟩ := cmp_fo (K := K) (C := C) (y := .int i) (b := (decide (V.int p = V.int i) && decide (V.int q = V.int 1))) (s5 _ _ e4) (.int i) (by rw [Bool.and_comm]; rfl)
  refine ⟨.ref sh, .int i, _, rfl, c1, c2, fun H6 s6 => ⟨_, rfl, iteF ?_⟩⟩
  refine ⟨_, rfl, fun m dm hm hd ne => si_ok hm hd ne (a := i) (b := 1) (by decide) (by decide +kernel) fun H7 s7 e7 => ⟨rfl, ?_⟩⟩
  obtain ⟨c3, c4⟩ := cmp_fo (K := K) (C := C) (y := .int i) (b := true) e7 (.int i) (by rw [(low_int i).1, (low_int i).2]; simp [isI])
  refine ⟨_, rfl, .ref m, .int i, _, rfl, c3, c4, fun H8 s8 => ⟨_, rfl, iteF ?_⟩⟩
  have s48 := ((s5.trans s6).trans s7).trans s8
  exact qu a pt sh pt2 ot x y p q p2 q2 i v0 v6 v7 v11 v12 v13 H8 hlp hlq (hp4.same s48) (Two.same ⟨dy, e3, e4⟩ s48) (t24.same s48)
end
end Kk

set_option Elab.async false
set_option linter.all false
set_option maxRecDepth 100000
set_option maxHeartbeats 4000000
namespace Kk
open PySem L2
section
variable {P : Program} {w : World} {K : PySem.W.Frag} {mg : Str → Option Value} {base : Heap} {C B : Addr} {f : Addr} {cdv : Value} {A : Around} {outer : List Env} {s : Shared} {H : Hp} {E : XK}
theorem seg8 (L : LawT P w K mg base C B) (hr : Room 6 (XL P w K mg base f cdv A outer s H E).A) {Q : VK} (k : ∀ H', Q (.bl true) H') :
    ∃ u, PSs (XL P w K mg base f cdv A outer s H E) ((defBody s_law).drop 8) u ∧ ∀ (a pt sh : Addr) (x y p q c d : Int) (v0 v8 v9 v10 v11 v12 v13 : Option V) (H1 : Hp), p.natAbs < 10 ^ 64 → q.natAbs < 10 ^ 64 → q ≠ 0 → lowT p q = p → lowB p q = q → d ≠ 0 → d.natAbs < 10 ^ 64 → PoolAt H1 a → Two C H1 pt sh p q →
      u { nx := fun _ H' => Q .non H', rt := Q } [v0, some (.ref a), some (.int x), some (.int y), some (.ref pt), some (.ref sh), some (.int c), some (.int d), v8, v9, v10, v11, v12, v13] H1 := by
  obtain ⟨u, hu, qu⟩ := seg12 (f := f) (cdv := cdv) (A := A) (outer := outer) (s := s) (H := H) (E := E) L hr k
  refine ⟨_, (pss_cons (ps_set (i := 8) sc_law.nd rfl (Or.inl rfl) (pe_cal L.part (hr.mono (by decide)) rfl (pa_cons (pv 6) (pa_cons (pv 7) pa_nil))))
    (pss_cons (ps_set (i := 9) sc_law.nd rfl (Or.inl rfl) (pe_share2 L.m (hr.mono (by decide)) rfl (pa_cons (pv 6) (pa_cons (pv 7) pa_nil))))
    (pss_cons (ps_if (PW.pt (pw_or (pt_not (pt_val (pe_cal L.is_ (hr.mono (by decide)) rfl (pa_cons (pv 9) (pa_cons (pv 8) pa_nil))))) (pw_or1 (pt_not (pt_val (pe_cal L.equal (hr.mono (by decide)) rfl (pa_cons (pv 5) (pa_cons (pv 9) (pa_cons (pe_cmpR (op_eqD hr.units) (pv 4) (pv 8) (nomark _)) pa_nil)))))))))
        (pss_one (ps_ret pe_bl))
        pss_nil)
    (pss_cons (ps_if (PW.pt (pw_or (pt_not (pt_val (pe_cal L.equal (hr.mono (by decide)) rfl (pa_cons (pv 5) (pa_cons (pv 5) (pa_cons pe_bl pa_nil)))))) (pw_or1 (pt_not (pt_val (pe_cal L.equal (hr.mono (by decide)) rfl (pa_cons (pv 5) (pa_cons (pe_share2 L.m (hr.mono (by decide)) rfl (pa_cons (pe_ix ix_tup (pv 4) pe_int (fun _ _ => rfl)) (pa_cons (pe_ix ix_tup (pv 4) pe_int (fun _ _ => rfl)) pa_nil))) (pa_cons pe_bl pa_nil)))))))))
        (pss_one (ps_ret pe_bl))
        pss_nil) hu)))), ?_⟩
  intro a pt sh x y p q c d v0 v8 v9 v10 v11 v12 v13 H1 hlp hlq hq lp lq nz hld hp t1
  have hl9 : d.natAbs.log2 < 9000 := Nat.lt_trans (small_log hld) (by decide)
  obtain ⟨dx, e1, e2⟩ := t1
  refine ⟨_, rfl, _, rfl, c, d, rfl, nz, hl9, fun t H2 s2 nt e3 => ?_⟩
  refine ⟨_, rfl, _, rfl, fun o dy hn hd ne => si_ok hn hd ne (a := c) (b := d) nz hl9 fun H3 s3 e4 => ⟨rfl, ?_⟩⟩
  refine ⟨_, rfl, _, rfl, o, t, dy, _, _, rfl, e4, s3 _ _ e3, fun H4 s4 => ⟨_, rfl, iteF ?_⟩⟩
  have s14 := (s2.trans s3).trans s4
  refine ⟨_, rfl, _, rfl, _, rfl, _, rfl, _, _, dp2 (.inl (.inl (s14 _ _ e1))), dp2 (.inl (.inl (s4 _ _ (s3 _ _ e3)))), sh2 p q, sh2 _ _, ?_⟩
  rw [eqv_pair]
  obtain ⟨c1, c2⟩ := cmp_sh2 (K := K) (C := C) (s14 _ _ e2) (s4 _ _ e4) rfl
  refine ⟨.ref sh, .ref o, _, rfl, c1, c2, fun H5 s5 => ⟨_, rfl, iteF ?_⟩⟩
  have s15 := s14.trans s5
  obtain ⟨c3, c4⟩ := cmp_sh2 (K := K) (C := C) (b := true) (s15 _ _ e2) (s15 _ _ e2) (by simp)
  refine ⟨_, rfl, _, rfl, .ref sh, .ref sh, _, rfl, c3, c4, fun H6 s6 => ⟨_, rfl, iteF ?_⟩⟩
  have s16 := s15.trans s6
  have st : SqT K H6 pt [.int p, .int q] := SqT.of (s16 _ _ e1)
  refine ⟨_, rfl, _, rfl, pt, _, 0, _, rfl, rfl, st, at0, _, rfl, pt, _, 1, _, rfl, rfl, st, at1, fun n dn hn2 hd2 ne2 => si_ok hn2 hd2 ne2 (a := p) (b := q) hq (Nat.lt_trans (small_log hlq) (by decide)) fun H7 s7 e7 => ⟨rfl, ?_⟩⟩
  rw [lp, lq] at e7
  have s17 := s16.trans s7
  obtain ⟨c5, c6⟩ := cmp_sh2 (K := K) (C := C) (b := true) (s17 _ _ e2) e7 (by simp)
  refine ⟨.ref sh, .ref n, _, rfl, c5, c6, fun H8 s8 => ⟨_, rfl, iteF ?_⟩⟩
  have s18 := s17.trans s8
  have s48 : Same H3 H8 := (((s4.trans s5).trans s6).trans s7).trans s8
  exact qu a pt sh t o x y p q _ _ v0 (some (.int c)) (some (.int d)) v10 v11 v12 v13 H8 hlp hlq hq (hp.same s18) (Two.same ⟨dx, e1, e2⟩ s18) (Two.same ⟨dy, s3 _ _ e3, e4⟩ s48)
end
end Kk

set_option Elab.async false
set_option linter.all false
set_option maxRecDepth 100000
set_option maxHeartbeats 4000000
namespace Kk
open PySem L2
section
variable {P : Program} {w : World} {K : PySem.W.Frag} {mg : Str → Option Value} {base : Heap} {C B : Addr} {f : Addr} {cdv : Value} {A : Around} {outer : List Env} {s : Shared} {H : Hp} {E : XK}
theorem seg6 (L : LawT P w K mg base C B) (hr : Room 6 (XL P w K mg base f cdv A outer s H E).A) {Q : VK} (k : ∀ H', Q (.bl true) H') :
    ∃ u, PSs (XL P w K mg base f cdv A outer s H E) ((defBody s_law).drop 6) u ∧ ∀ (a pt sh : Addr) (x y p q : Int) (v0 v6 v7 v8 v9 v10 v11 v12 v13 : Option V) (H1 : Hp), p.natAbs < 10 ^ 12 → q.natAbs < 10 ^ 12 → q ≠ 0 → y ≠ 0 → y.natAbs < 10 ^ 12 → lowT p q = p → lowB p q = q → PoolAt H1 a → Two C H1 pt sh p q →
      u { nx := fun _ H' => Q .non H', rt := Q } [v0, some (.ref a), some (.int x), some (.int y), some (.ref pt), some (.ref sh), v6, v7, v8, v9, v10, v11, v12, v13] H1 := by
  obtain ⟨u, hu, qu⟩ := seg8 (f := f) (cdv := cdv) (A := A) (outer := outer) (s := s) (H := H) (E := E) L hr k
  refine ⟨_, (pss_cons (ps_asg (pe_cal L.fraction (hr.mono (by decide)) rfl (pa_cons (pv 1) pa_nil)) (pg_tup (by rfl) (pgs_cons (pg_name (i := 6) sc_law.nd rfl (Or.inl rfl)) (pgs_cons (pg_name (i := 7) sc_law.nd rfl (Or.inl rfl)) pgs_nil))))
    (pss_cons (ps_if (pt_cmpR op_eq (pe_cal L.draw (hr.mono (by decide)) rfl (pa_cons (pv 1) (pa_cons pe_int pa_nil))) pe_int (nomark _))
      (pss_cons (ps_par (i := 6) (j := 7) (by rfl) sc_law.nd rfl rfl (by decide) rfl rfl (pa_cons (pe_op op_mul pe_int (pe_ix ix_tup (pv 4) pe_int (fun _ _ => rfl))) (pa_cons (pe_op op_mul pe_int (pe_ix ix_tup (pv 4) pe_int (fun _ _ => rfl))) pa_nil)) (by rfl))
        (pss_one (ps_if (pt_cmpR op_ge (pe_op op_add (pe_callB call_abs (by rfl) L.T.bn.n_abs (by decide +kernel) (pa_cons (pv 6) pa_nil)) (pv 7)) (pe_op op_pow pe_int pe_int) (nomark _))
          (pss_one (ps_par (i := 6) (j := 7) (by rfl) sc_law.nd rfl rfl (by decide) rfl rfl (pa_cons (pe_un un_neg (pe_ix ix_tup (pv 4) pe_int (fun _ _ => rfl))) (pa_cons (pe_un un_neg (pe_ix ix_tup (pv 4) pe_int (fun _ _ => rfl))) pa_nil)) (by rfl)))
          pss_nil)))
      (pss_one (ps_if (pt_cmpR op_eq (pe_cal L.draw (hr.mono (by decide)) rfl (pa_cons (pv 1) (pa_cons pe_int pa_nil))) pe_int (nomark _))
          (pss_one (ps_par (i := 6) (j := 7) (by rfl) sc_law.nd rfl rfl (by decide) rfl rfl (pa_cons (pe_un un_neg (pv 2)) (pa_cons (pv 3) pa_nil)) (by rfl)))
          pss_nil))) hu)), ?_⟩
  intro a pt sh x y p q v0 v6 v7 v8 v9 v10 v11 v12 v13 H1 hlp hlq hq hy hly lp lq hp t1
  have big : (10 : Nat) ^ 12 < 10 ^ 64 := by decide
  have big2 : (10 : Nat) ^ 12 + 10 ^ 12 < 10 ^ 64 := by decide
  refine ⟨_, rfl, a, rfl, hp, fun t c d H2 hc hd hld k2 hp2 e2 => ⟨t, _, rfl, SqT.of e2, rfl, _, _, rfl, _, _, rfl, rfl, ?_⟩⟩
  have t12 := t1.keep hp k2
  refine ⟨_, rfl, a, 3, rfl, hp2, by decide, by decide, fun r o r0 r1 ho => ⟨rfl, _, rfl, iteB (fun z => ?_) (fun z => ?_)⟩⟩
  · have hp3 : PoolAt (upd H2 a o) a := .put ho
    have t13 := t12.keep hp2 (Keep.put o)
    generalize (upd H2 a o) = H3 at hp3 t13 ⊢
    obtain ⟨dx, e1, e3⟩ := t13
    have st : SqT K H3 pt [.int p, .int q] := SqT.of e1
    refine ⟨_, rfl, pt, _, 0, _, rfl, rfl, st, at0, 2, p, rfl, rfl, .inl ⟨by decide, by decide⟩, _, rfl, pt, _, 1, _, rfl, rfl, st, at1, 2, q, rfl, rfl, .inl ⟨by decide, by decide⟩, _, _, rfl, ?_⟩
    refine ⟨_, rfl, _, rfl, _, rfl, _, _, rfl, rfl, 10, 12, rfl, rfl, ⟨by decide, by decide, by decide⟩, _, _, rfl, rfl, _, rfl, iteB (fun z => ?_) (fun z => ?_)⟩
    · refine ⟨_, rfl, pt, _, 0, _, rfl, rfl, st, at0, _, rfl, _, rfl, pt, _, 1, _, rfl, rfl, st, at1, _, rfl, _, _, rfl, ?_⟩
      exact qu a pt sh x y p q (-p) (-q) v0 v8 v9 v10 v11 v12 v13 H3 (by omega) (by omega) hq lp lq (by omega) (by omega) hp3 ⟨dx, e1, e3⟩
    · exact qu a pt sh x y p q (2 * p) (2 * q) v0 v8 v9 v10 v11 v12 v13 H3 (by omega) (by omega) hq lp lq (by omega) (by omega) hp3 ⟨dx, e1, e3⟩
  · have hp3 : PoolAt (upd H2 a o) a := .put ho
    have t13 := t12.keep hp2 (Keep.put o)
    generalize (upd H2 a o) = H3 at hp3 t13 ⊢
    refine ⟨_, rfl, a, 2, rfl, hp3, by decide, by decide, fun r o r0 r1 ho => ⟨rfl, _, rfl, iteB (fun z => ?_) (fun z => ?_)⟩⟩
    · refine ⟨_, rfl, _, rfl, _, rfl, _, _, rfl, ?_⟩
      exact qu a pt sh x y p q (-x) y v0 v8 v9 v10 v11 v12 v13 _ (by omega) (by omega) hq lp lq hy (by omega) (.put ho) (t13.keep hp3 (Keep.put o))
    · exact qu a pt sh x y p q c d v0 v8 v9 v10 v11 v12 v13 _ (by omega) (by omega) hq lp lq hd (by omega) (.put ho) (t13.keep hp3 (Keep.put o))
end
end Kk

set_option Elab.async false
set_option linter.all false
set_option maxRecDepth 100000
set_option maxHeartbeats 4000000
namespace Kk
open PySem L2
theorem no_neS {x y : Str} {A D : Prop} (e : x = y) (h : D) : if (!decide (V.str x = V.str y)) = true then A else D := by
  subst e
  rw [if_neg (by simp)]
  exact h
theorem shT_one (x : Int) : shT x 1 = numT x := by
  unfold shT
  rw [if_pos rfl]
/-- the law -/
def spLaw (K : PySem.W.Frag) : Sp := fun vs H Q _ => ∃ (a : Addr) (ns : List Int), vs = [.ref a] ∧ SqL K H a (ns.map V.int) ∧ ns.length ≤ 63 ∧ ∀ H', Q (.bl true) H'
section
variable {P : Program} {w : World} {K : PySem.W.Frag} {mg : Str → Option Value} {base : Heap} {C B : Addr}
theorem ok_law {f : Addr} {fd : FuncData} (F : Fun K "law" "law" s_law f fd) (L : LawT P w K mg base C B) : FnOk P w K mg base CX0 7 f fd ["_law_script"] (spLaw K) := by
  refine F.ok sc_law (fun vs H Q E h => ?_) (fun cdv A outer s H vs Q E hr h => ?_)
  · obtain ⟨a, ns, rfl, _⟩ := h
    rfl
  · obtain ⟨a, ns, rfl, ha, hl, k⟩ := h
    obtain ⟨u, hu, qu⟩ := seg6 (f := f) (cdv := cdv) (A := A) (outer := outer) (s := s) (H := H) (E := E) L hr k
    refine ⟨_, (pss_cons (ps_set (i := 1) sc_law.nd rfl (Or.inl rfl) (pe_cal L.pool (hr.mono (by decide)) rfl (pa_cons (pv 0) pa_nil)))
      (pss_cons (ps_asg (pe_cal L.fraction (hr.mono (by decide)) rfl (pa_cons (pv 1) pa_nil)) (pg_tup (by rfl) (pgs_cons (pg_name (i := 2) sc_law.nd rfl (Or.inl rfl)) (pgs_cons (pg_name (i := 3) sc_law.nd rfl (Or.inl rfl)) pgs_nil))))
      (pss_cons (ps_set (i := 4) sc_law.nd rfl (Or.inl rfl) (pe_cal L.part (hr.mono (by decide)) rfl (pa_cons (pv 2) (pa_cons (pv 3) pa_nil))))
      (pss_cons (ps_set (i := 5) sc_law.nd rfl (Or.inl rfl) (pe_share2 L.m (hr.mono (by decide)) rfl (pa_cons (pv 2) (pa_cons (pv 3) pa_nil))))
      (pss_cons (ps_if (PW.pt (pw_or (pt_not (pt_val (pe_callB call_isi (by rfl) L.T.bn.n_isinstance (by decide +kernel) (pa_cons (pv 5) (pa_cons (pe_glob (v := .ref C) rfl L.T.g_Share rfl) pa_nil))))) (pw_or (pt_not (pt_val (pe_cal L.is_ (hr.mono (by decide)) rfl (pa_cons (pv 5) (pa_cons (pv 4) pa_nil))))) (pw_or1 (pt_cmpR op_ne (pe_callTy (call_strS L.st (hr.mono (by decide))) (by rfl) L.T.bn.n_str (by decide +kernel) (pa_cons (pv 5) pa_nil)) (pe_cal L.text (hr.mono (by decide)) rfl (pa_cons (pv 4) pa_nil)) (nomark _))))))
          (pss_one (ps_ret pe_bl))
          pss_nil)
      (pss_cons (ps_if (PW.pt (pw_or (pt_not (pt_val (pe_cal L.is_ (hr.mono (by decide)) rfl (pa_cons (pe_share1 L.m (hr.mono (by decide)) rfl (pa_cons (pv 2) pa_nil)) (pa_cons (pe_tup (pa_cons (pv 2) (pa_cons pe_int pa_nil))) pa_nil))))) (pw_or1 (pt_cmpR op_ne (pe_callTy (call_strS L.st (hr.mono (by decide))) (by rfl) L.T.bn.n_str (by decide +kernel) (pa_cons (pe_share1 L.m (hr.mono (by decide)) rfl (pa_cons (pv 2) pa_nil)) pa_nil)) (pe_callTy call_str_int (by rfl) L.T.bn.n_str (by decide +kernel) (pa_cons (pv 2) pa_nil)) (nomark _)))))
          (pss_one (ps_ret pe_bl))
          pss_nil) hu)))))), ?_⟩
    have big : (10 : Nat) ^ 12 < 10 ^ 64 := by decide
    refine ⟨_, rfl, a, ns, rfl, ha, hl, fun pl H1 s1 np hp => ?_⟩
    refine ⟨_, rfl, pl, rfl, hp, fun t x y H2 hx hy hly k2 hp2 e2 => ⟨t, _, rfl, SqT.of e2, rfl, _, _, rfl, _, _, rfl, rfl, ?_⟩⟩
    have hl9 : y.natAbs.log2 < 9000 := Nat.lt_trans (small_log (by omega)) (by decide)
    refine ⟨_, rfl, _, rfl, x, y, rfl, hy, hl9, fun pt H3 s3 npt e3 => ?_⟩
    refine ⟨_, rfl, _, rfl, fun sh dx hn hd ne => si_ok hn hd ne (a := x) (b := y) hy hl9 fun H4 s4 e4 => ⟨rfl, ?_⟩⟩
    have lT := lowT_le (a := x) hy
    have lB := lowB_le (a := x) hy
    have pB := lowB_pos (a := x) hy
    obtain ⟨g1, g2⟩ := low_low (a := x) hy
    have hp4 : PoolAt H4 pl := (hp2.same s3).same s4
    have tw : Two C H4 pt sh (lowT x y) (lowB x y) := ⟨dx, s4 _ _ e3, e4⟩
    clear e3 e4 hn hd ne
    generalize lowT x y = p at lT g1 g2 tw ⊢
    generalize lowB x y = q at lB pB g1 g2 tw ⊢
    obtain ⟨dx, e1, e2⟩ := tw
    refine ⟨_, rfl, .ref sh, .ref C, _, _, true, rfl, .own C, L.T.it.ty e2, L.T.it.kself, _, rfl, iteF ?_⟩
    refine ⟨_, rfl, _, rfl, sh, pt, dx, p, q, rfl, e2, e1, fun H5 s5 => ⟨_, rfl, iteF ?_⟩⟩
    refine ⟨_, rfl, sh, dx, p, q, rfl, s5 _ _ e2, by omega, by omega, fun H6 s6 => ⟨_, rfl, pt, p, q, rfl, s6 _ _ (s5 _ _ e1), by omega, by omega, rfl, _, rfl, no_neS rfl ?_⟩⟩
    refine ⟨_, rfl, fun n dn hn hd ne => si_ok hn hd ne (a := x) (b := 1) (by decide) (by decide +kernel) fun H7 s7 e7 => ⟨rfl, ?_⟩⟩
    rw [(low_int x).1, (low_int x).2] at e7
    refine ⟨_, rfl, by show 2 ≤ sizeLine; decide, fun t7 nt7 => ?_⟩
    have s8 : Same H7 (upd H7 t7 (.tup [.int x, .int 1])) := Same.put nt7
    refine ⟨n, t7, dn, x, 1, rfl, s8 _ _ e7, upd_same, fun H9 s9 => ⟨_, rfl, iteF ?_⟩⟩
    refine ⟨_, rfl, fun n2 dn2 hn2 hd2 ne2 => si_ok hn2 hd2 ne2 (a := x) (b := 1) (by decide) (by decide +kernel) fun H10 s10 e10 => ⟨rfl, ?_⟩⟩
    rw [(low_int x).1, (low_int x).2] at e10
    refine ⟨n2, dn2, x, 1, rfl, e10, by omega, by decide, fun H11 s11 => ?_⟩
    refine ⟨_, rfl, x, rfl, small_log (by omega), rfl, _, rfl, no_neS (shT_one x) ?_⟩
    have ss := ((((s5.trans s6).trans s7).trans s8).trans s9).trans (s10.trans s11)
    exact qu pl pt sh x y p q _ none none none none none none none none H11 (by omega) (by omega) (by omega) hy hly g1 g2 (hp4.same ss) (Two.same ⟨dx, e1, e2⟩ ss)
end
end Kk

set_option Elab.async false
set_option linter.all false
set_option maxRecDepth 100000
set_option maxHeartbeats 8000000
namespace Kk
open PySem L2
theorem kit_sub {K : PySem.W.Frag} {C : Addr} {T : String} {b : Bool} (h : PySem.W.subIn K (.ref C) (.type T) = some b) (m : PySem.W.kitMeta T = true) : PySem.W.kitOne K (.ref C) (.type T) = some b := by
  show (if (Value.ref C == Value.type T) = true then some true else if PySem.W.kitMeta T = true then PySem.W.subIn K (.ref C) (.type T) else none) = some b
  rw [if_neg (show ¬ ((Value.ref C == Value.type T) = true) from fun z => by cases beq_iff_eq.mp z), if_pos m]
  exact h
theorem kit_self (K : PySem.W.Frag) (C : Addr) : PySem.W.kitOne K (.ref C) (.ref C) = some true := by
  show (if (Value.ref C == Value.ref C) = true then some true else _) = some true
  rw [if_pos (beq_iff_eq.mpr rfl)]
theorem is_cls {K : PySem.W.Frag} {C : Addr} (hd : PySem.W.hasDictIn K C = true) (t : PySem.W.typeIn K (.ref C) = some (.type "type")) : ((PySem.W.clsIn K C).isSome && PySem.W.typeIn K (.ref C) == some (.type "type")) = true := by
  obtain ⟨cd, hc, _⟩ := PySem.W.any_some hd
  rw [hc, t] <;> rfl
theorem kit_cref {K : PySem.W.Frag} {C : Addr} {t : Value} {b : Bool} (hd : PySem.W.hasDictIn K C = true) (tC : PySem.W.typeIn K (.ref C) = some (.type "type")) (h : PySem.W.subIn K t (.ref C) = some b) : PySem.W.kitCls K t (.ref C) = some b := by
  show (if ((PySem.W.clsIn K C).isSome && PySem.W.typeIn K (.ref C) == some (.type "type")) = true then PySem.W.subIn K t (.ref C) else none) = some b
  rw [if_pos (is_cls hd tC)]
  exact h
theorem no_ref {C : Addr} : ∀ {l : List Value}, l.all (fun v => match v with | .type _ => true | _ => false) = true → l.contains (.ref C) = false
  | [], _ => rfl
  | a :: r, h => by
    rw [List.all_cons, Bool.and_eq_true] at h
    rw [List.contains_cons, no_ref h.2, Bool.or_false]
    cases a <;> first | rfl | (simp at h)
theorem kit_from {K : PySem.W.Frag} {C : Addr} {T : String} {l : List Value} (hd : PySem.W.hasDictIn K C = true) (tC : PySem.W.typeIn K (.ref C) = some (.type "type")) (e : fastBuiltinMro T = some l) (hl : l.all (fun v => match v with | .type _ => true | _ => false) = true) :
    PySem.W.kitOne K (.type T) (.ref C) = some false := by
  show (if (Value.type T == Value.ref C) = true then some true else PySem.W.kitCls K (.type T) (.ref C)) = some false
  rw [if_neg (show ¬ ((Value.type T == Value.ref C) = true) from fun z => by cases beq_iff_eq.mp z)]
  refine kit_cref hd tC ?_
  show (fastBuiltinMro T).map (·.contains (.ref C)) = some false
  rw [e]
  exact congrArg some (no_ref hl)
section
variable {K : PySem.W.Frag} {mg : Str → Option Value} {h : Heap}
theorem all_mk {l : PySem.W.OpenLaw} {w : World} {fa C B W f_WE f_BS f_iw f_dg f_SI f_eq f_sr f_pool f_draw f_pick f_num f_divi f_part f_intg f_frac f_is f_text f_equal f_bad f_same f_refu f_law T_SI T_WE : Addr} (X : K.In h) (G : h.Ns mainGlobals mg) (hfa : mg "law" = some (.ref fa))
    {oc_WE kV_WE dc_WE pm_WE cd_WE ct_WE oc_BS kV_BS dc_BS pm_BS cd_BS ct_BS oc_iw kV_iw dc_iw pm_iw cd_iw ct_iw oc_dg kV_dg dc_dg pm_dg cd_dg ct_dg oc_SI kV_SI dc_SI pm_SI cd_SI ct_SI oc_eq kV_eq dc_eq pm_eq cd_eq ct_eq oc_sr kV_sr dc_sr pm_sr cd_sr ct_sr oc_pool kV_pool dc_pool pm_pool cd_pool ct_pool oc_draw kV_draw dc_draw pm_draw cd_draw ct_draw oc_pick kV_pick dc_pick pm_pick cd_pick ct_pick oc_num kV_num dc_num pm_num cd_num ct_num oc_divi kV_divi dc_divi pm_divi cd_divi ct_divi oc_part kV_part dc_part pm_part cd_part ct_part oc_intg kV_intg dc_intg pm_intg cd_intg ct_intg oc_frac kV_frac dc_frac pm_frac cd_frac ct_frac oc_is kV_is dc_is pm_is cd_is ct_is oc_text kV_text dc_text pm_text cd_text ct_text oc_equal kV_equal dc_equal pm_equal cd_equal ct_equal oc_bad kV_bad dc_bad pm_bad cd_bad ct_bad oc_same kV_same dc_same pm_same cd_same ct_same oc_refu kV_refu dc_refu pm_refu cd_refu ct_refu oc_law kV_law dc_law pm_law cd_law ct_law : Value} {od_WE an_WE od_BS an_BS od_iw an_iw od_dg an_dg od_SI an_SI od_eq an_eq od_sr an_sr od_pool an_pool od_draw an_draw od_pick an_pick od_num an_num od_divi an_divi od_part an_part od_intg an_intg od_frac an_frac od_is an_is od_text an_text od_equal an_equal od_bad an_bad od_same an_same od_refu an_refu od_law an_law : Option Addr} {sl_WE sl_BS sl_iw sl_dg sl_SI sl_eq sl_sr sl_pool sl_draw sl_pick sl_num sl_divi sl_part sl_intg sl_frac sl_is sl_text sl_equal sl_bad sl_same sl_refu sl_law : Array (Option Value)}
    {bl : Int} {tk tkS tkW : Tok} {xW : Str} {tcS tcW : Value} {tdS tdW : Option Addr} {tnS tnW : Nat} {tsS tsW : Array (Option Value)}
    {nmB qB : Str} {NB : Addr} {bsB bmB : List Value} {snB : List Str} {subB : List Value} {abB : Bool} {colB : Option Bool} {ddB : Option Addr} {b0 b1 b2 b3 b5 : Option Value}
    (aC : PySem.W.nsIn K mainGlobals "Share" = some (some (.ref C)))
    (aB : PySem.W.nsIn K mainGlobals "BadShare" = some (some (.ref B)))
    (aW : PySem.W.nsIn K mainGlobals "WalkError" = some (some (.ref W)))
    (aK : PySem.W.nsIn K mainGlobals "BLOCK" = some (some (.int bl tk)))
    (eK : bl = 10 ^ 64)
    (aG : PySem.W.nsIn K mainGlobals "gcd" = some (some (.builtin "math.gcd")))
    (n_isinstance : PySem.W.nsIn K mainGlobals "isinstance" = some none)
    (n_int : PySem.W.nsIn K mainGlobals "int" = some none)
    (n_bool : PySem.W.nsIn K mainGlobals "bool" = some none)
    (n_abs : PySem.W.nsIn K mainGlobals "abs" = some none)
    (n_len : PySem.W.nsIn K mainGlobals "len" = some none)
    (n_str : PySem.W.nsIn K mainGlobals "str" = some none)
    (n_divmod : PySem.W.nsIn K mainGlobals "divmod" = some none)
    (n_ValueError : PySem.W.nsIn K mainGlobals "ValueError" = some none)
    (a_WE : PySem.W.findIn K (.ref W) "__init__" = some (some (.ref f_WE)))
    (l_WE : K.lookup f_WE = some ⟨oc_WE, od_WE, .func (PySem.W.fnOf "__init__" "WalkError.__init__" (defArgs s_WE) (defBody s_WE) (defScope s_WE) (.ref T_WE) kV_WE dc_WE pm_WE an_WE cd_WE ct_WE), sl_WE⟩)
    (c_WE : PySem.W.codeIn K cd_WE "WalkError.__init__" = true)
    (k_WE : PySem.W.keepIn K (.ref f_WE) = true)
    (a_BS : PySem.W.findIn K (.ref B) "__init__" = some (some (.ref f_BS)))
    (l_BS : K.lookup f_BS = some ⟨oc_BS, od_BS, .func (PySem.W.fnOf "__init__" "BadShare.__init__" (defArgs s_BS) (defBody s_BS) (defScope s_BS) .none kV_BS dc_BS pm_BS an_BS cd_BS ct_BS), sl_BS⟩)
    (c_BS : PySem.W.codeIn K cd_BS "BadShare.__init__" = true)
    (k_BS : PySem.W.keepIn K (.ref f_BS) = true)
    (a_iw : PySem.W.nsIn K mainGlobals "is_whole" = some (some (.ref f_iw)))
    (l_iw : K.lookup f_iw = some ⟨oc_iw, od_iw, .func (PySem.W.fnOf "is_whole" "is_whole" (defArgs s_is_whole) (defBody s_is_whole) (defScope s_is_whole) .none kV_iw dc_iw pm_iw an_iw cd_iw ct_iw), sl_iw⟩)
    (c_iw : PySem.W.codeIn K cd_iw "is_whole" = true)
    (k_iw : PySem.W.keepIn K (.ref f_iw) = true)
    (a_dg : PySem.W.nsIn K mainGlobals "digits" = some (some (.ref f_dg)))
    (l_dg : K.lookup f_dg = some ⟨oc_dg, od_dg, .func (PySem.W.fnOf "digits" "digits" (defArgs s_digits) (defBody s_digits) (defScope s_digits) .none kV_dg dc_dg pm_dg an_dg cd_dg ct_dg), sl_dg⟩)
    (c_dg : PySem.W.codeIn K cd_dg "digits" = true)
    (k_dg : PySem.W.keepIn K (.ref f_dg) = true)
    (a_SI : PySem.W.findIn K (.ref C) "__init__" = some (some (.ref f_SI)))
    (l_SI : K.lookup f_SI = some ⟨oc_SI, od_SI, .func (PySem.W.fnOf "__init__" "Share.__init__" (defArgs s_SI) (defBody s_SI) (defScope s_SI) (.ref T_SI) kV_SI dc_SI pm_SI an_SI cd_SI ct_SI), sl_SI⟩)
    (c_SI : PySem.W.codeIn K cd_SI "Share.__init__" = true)
    (k_SI : PySem.W.keepIn K (.ref f_SI) = true)
    (a_eq : PySem.W.findIn K (.ref C) "__eq__" = some (some (.ref f_eq)))
    (l_eq : K.lookup f_eq = some ⟨oc_eq, od_eq, .func (PySem.W.fnOf "__eq__" "Share.__eq__" (defArgs s_eq) (defBody s_eq) (defScope s_eq) .none kV_eq dc_eq pm_eq an_eq cd_eq ct_eq), sl_eq⟩)
    (c_eq : PySem.W.codeIn K cd_eq "Share.__eq__" = true)
    (k_eq : PySem.W.keepIn K (.ref f_eq) = true)
    (a_sr : PySem.W.findIn K (.ref C) "__str__" = some (some (.ref f_sr)))
    (l_sr : K.lookup f_sr = some ⟨oc_sr, od_sr, .func (PySem.W.fnOf "__str__" "Share.__str__" (defArgs s_str) (defBody s_str) (defScope s_str) .none kV_sr dc_sr pm_sr an_sr cd_sr ct_sr), sl_sr⟩)
    (c_sr : PySem.W.codeIn K cd_sr "Share.__str__" = true)
    (k_sr : PySem.W.keepIn K (.ref f_sr) = true)
    (a_pool : PySem.W.nsIn K mainGlobals "_law_pool" = some (some (.ref f_pool)))
    (l_pool : K.lookup f_pool = some ⟨oc_pool, od_pool, .func (PySem.W.fnOf "_law_pool" "_law_pool" (defArgs s_pool) (defBody s_pool) (defScope s_pool) .none kV_pool dc_pool pm_pool an_pool cd_pool ct_pool), sl_pool⟩)
    (c_pool : PySem.W.codeIn K cd_pool "_law_pool" = true)
    (k_pool : PySem.W.keepIn K (.ref f_pool) = true)
    (a_draw : PySem.W.nsIn K mainGlobals "_law_draw" = some (some (.ref f_draw)))
    (l_draw : K.lookup f_draw = some ⟨oc_draw, od_draw, .func (PySem.W.fnOf "_law_draw" "_law_draw" (defArgs s_draw) (defBody s_draw) (defScope s_draw) .none kV_draw dc_draw pm_draw an_draw cd_draw ct_draw), sl_draw⟩)
    (c_draw : PySem.W.codeIn K cd_draw "_law_draw" = true)
    (k_draw : PySem.W.keepIn K (.ref f_draw) = true)
    (a_pick : PySem.W.nsIn K mainGlobals "_law_pick" = some (some (.ref f_pick)))
    (l_pick : K.lookup f_pick = some ⟨oc_pick, od_pick, .func (PySem.W.fnOf "_law_pick" "_law_pick" (defArgs s_pick) (defBody s_pick) (defScope s_pick) .none kV_pick dc_pick pm_pick an_pick cd_pick ct_pick), sl_pick⟩)
    (c_pick : PySem.W.codeIn K cd_pick "_law_pick" = true)
    (k_pick : PySem.W.keepIn K (.ref f_pick) = true)
    (a_num : PySem.W.nsIn K mainGlobals "_law_number" = some (some (.ref f_num)))
    (l_num : K.lookup f_num = some ⟨oc_num, od_num, .func (PySem.W.fnOf "_law_number" "_law_number" (defArgs s_number) (defBody s_number) (defScope s_number) .none kV_num dc_num pm_num an_num cd_num ct_num), sl_num⟩)
    (c_num : PySem.W.codeIn K cd_num "_law_number" = true)
    (k_num : PySem.W.keepIn K (.ref f_num) = true)
    (a_divi : PySem.W.nsIn K mainGlobals "_law_divisor" = some (some (.ref f_divi)))
    (l_divi : K.lookup f_divi = some ⟨oc_divi, od_divi, .func (PySem.W.fnOf "_law_divisor" "_law_divisor" (defArgs s_divi) (defBody s_divi) (defScope s_divi) .none kV_divi dc_divi pm_divi an_divi cd_divi ct_divi), sl_divi⟩)
    (c_divi : PySem.W.codeIn K cd_divi "_law_divisor" = true)
    (k_divi : PySem.W.keepIn K (.ref f_divi) = true)
    (a_part : PySem.W.nsIn K mainGlobals "_law_part" = some (some (.ref f_part)))
    (l_part : K.lookup f_part = some ⟨oc_part, od_part, .func (PySem.W.fnOf "_law_part" "_law_part" (defArgs s_part) (defBody s_part) (defScope s_part) .none kV_part dc_part pm_part an_part cd_part ct_part), sl_part⟩)
    (c_part : PySem.W.codeIn K cd_part "_law_part" = true)
    (k_part : PySem.W.keepIn K (.ref f_part) = true)
    (a_intg : PySem.W.nsIn K mainGlobals "_law_integer" = some (some (.ref f_intg)))
    (l_intg : K.lookup f_intg = some ⟨oc_intg, od_intg, .func (PySem.W.fnOf "_law_integer" "_law_integer" (defArgs s_integer) (defBody s_integer) (defScope s_integer) .none kV_intg dc_intg pm_intg an_intg cd_intg ct_intg), sl_intg⟩)
    (c_intg : PySem.W.codeIn K cd_intg "_law_integer" = true)
    (k_intg : PySem.W.keepIn K (.ref f_intg) = true)
    (a_frac : PySem.W.nsIn K mainGlobals "_law_fraction" = some (some (.ref f_frac)))
    (l_frac : K.lookup f_frac = some ⟨oc_frac, od_frac, .func (PySem.W.fnOf "_law_fraction" "_law_fraction" (defArgs s_fraction) (defBody s_fraction) (defScope s_fraction) .none kV_frac dc_frac pm_frac an_frac cd_frac ct_frac), sl_frac⟩)
    (c_frac : PySem.W.codeIn K cd_frac "_law_fraction" = true)
    (k_frac : PySem.W.keepIn K (.ref f_frac) = true)
    (a_is : PySem.W.nsIn K mainGlobals "_law_is" = some (some (.ref f_is)))
    (l_is : K.lookup f_is = some ⟨oc_is, od_is, .func (PySem.W.fnOf "_law_is" "_law_is" (defArgs s_is) (defBody s_is) (defScope s_is) .none kV_is dc_is pm_is an_is cd_is ct_is), sl_is⟩)
    (c_is : PySem.W.codeIn K cd_is "_law_is" = true)
    (k_is : PySem.W.keepIn K (.ref f_is) = true)
    (a_text : PySem.W.nsIn K mainGlobals "_law_text" = some (some (.ref f_text)))
    (l_text : K.lookup f_text = some ⟨oc_text, od_text, .func (PySem.W.fnOf "_law_text" "_law_text" (defArgs s_text) (defBody s_text) (defScope s_text) .none kV_text dc_text pm_text an_text cd_text ct_text), sl_text⟩)
    (c_text : PySem.W.codeIn K cd_text "_law_text" = true)
    (k_text : PySem.W.keepIn K (.ref f_text) = true)
    (a_equal : PySem.W.nsIn K mainGlobals "_law_equal" = some (some (.ref f_equal)))
    (l_equal : K.lookup f_equal = some ⟨oc_equal, od_equal, .func (PySem.W.fnOf "_law_equal" "_law_equal" (defArgs s_equal) (defBody s_equal) (defScope s_equal) .none kV_equal dc_equal pm_equal an_equal cd_equal ct_equal), sl_equal⟩)
    (c_equal : PySem.W.codeIn K cd_equal "_law_equal" = true)
    (k_equal : PySem.W.keepIn K (.ref f_equal) = true)
    (a_bad : PySem.W.nsIn K mainGlobals "_law_bad" = some (some (.ref f_bad)))
    (l_bad : K.lookup f_bad = some ⟨oc_bad, od_bad, .func (PySem.W.fnOf "_law_bad" "_law_bad" (defArgs s_bad) (defBody s_bad) (defScope s_bad) .none kV_bad dc_bad pm_bad an_bad cd_bad ct_bad), sl_bad⟩)
    (c_bad : PySem.W.codeIn K cd_bad "_law_bad" = true)
    (k_bad : PySem.W.keepIn K (.ref f_bad) = true)
    (a_same : PySem.W.nsIn K mainGlobals "_law_same" = some (some (.ref f_same)))
    (l_same : K.lookup f_same = some ⟨oc_same, od_same, .func (PySem.W.fnOf "_law_same" "_law_same" (defArgs s_same) (defBody s_same) (defScope s_same) .none kV_same dc_same pm_same an_same cd_same ct_same), sl_same⟩)
    (c_same : PySem.W.codeIn K cd_same "_law_same" = true)
    (k_same : PySem.W.keepIn K (.ref f_same) = true)
    (a_refu : PySem.W.nsIn K mainGlobals "_law_refused" = some (some (.ref f_refu)))
    (l_refu : K.lookup f_refu = some ⟨oc_refu, od_refu, .func (PySem.W.fnOf "_law_refused" "_law_refused" (defArgs s_refused) (defBody s_refused) (defScope s_refused) .none kV_refu dc_refu pm_refu an_refu cd_refu ct_refu), sl_refu⟩)
    (c_refu : PySem.W.codeIn K cd_refu "_law_refused" = true)
    (k_refu : PySem.W.keepIn K (.ref f_refu) = true)
    (a_law : PySem.W.nsIn K mainGlobals "law" = some (some (.ref f_law)))
    (l_law : K.lookup f_law = some ⟨oc_law, od_law, .func (PySem.W.fnOf "law" "law" (defArgs s_law) (defBody s_law) (defScope s_law) .none kV_law dc_law pm_law an_law cd_law ct_law), sl_law⟩)
    (c_law : PySem.W.codeIn K cd_law "law" = true)
    (k_law : PySem.W.keepIn K (.ref f_law) = true)
    (dSI : K.lookup T_SI = some ⟨tcS, tdS, .seq #[.int 1 tkS] tnS, tsS⟩)
    (dWE : K.lookup T_WE = some ⟨tcW, tdW, .seq #[.str xW tkW] tnW, tsW⟩)
    (pg : PySem.W.plainGet K C Str.empty = true)
    (hd : PySem.W.hasDictIn K C = true)
    (po : PySem.W.plainOver K C = true)
    (sa : PySem.W.findIn K (.ref C) "__setattr__" = some (some (.builtin "object.__setattr__")))
    (mk : PySem.W.makesIn K C = true)
    (kc : PySem.W.keepIn K (.ref C) = true)
    (tC : PySem.W.typeIn K (.ref C) = some (.type "type"))
    (nT : PySem.W.findIn K (.ref C) "top" = some none)
    (nBm : PySem.W.findIn K (.ref C) "bottom" = some none)
    (ha : PySem.W.findIn K (.ref C) "__class__" = some (some (.builtin "object.__class__")))
    (hn : PySem.W.specialIn K (.builtin "object.__class__") "__get__" = some (some (.builtin "getset_descriptor.__get__")))
    (htk : PySem.W.takesIn K (.builtin "object.__class__") = some true)
    (hm : PySem.W.mroIn K C (.type "object") = some true)
    (ne : PySem.W.findIn K (.ref C) "__ne__" = some (some (.builtin "object.__ne__")))
    (u_int : PySem.W.subIn K (.ref C) (.type "int") = some false)
    (u_bool : PySem.W.subIn K (.ref C) (.type "bool") = some false)
    (u_NoneType : PySem.W.subIn K (.ref C) (.type "NoneType") = some false)
    (u_str : PySem.W.subIn K (.ref C) (.type "str") = some false)
    (u_list : PySem.W.subIn K (.ref C) (.type "list") = some false)
    (u_tuple : PySem.W.subIn K (.ref C) (.type "tuple") = some false)
    (u_dict : PySem.W.subIn K (.ref C) (.type "dict") = some false)
    (i_SI : PySem.W.isFn K (.ref f_SI) = true)
    (i_eq : PySem.W.isFn K (.ref f_eq) = true)
    (i_sr : PySem.W.isFn K (.ref f_sr) = true)
    (xB : K.lookup B = some (excClassObj nmB qB B NB bsB bmB true snB subB abB colB ddB b0 b1 b2 b3 b5 "ValueError.__new__"))
    (rB : PySem.HandSPX.refsVE bmB = true)
    (saB : PySem.W.findIn K (.ref B) "__setattr__" = some (some (.builtin "object.__setattr__")))
    (exB : PySem.W.subIn K (.ref B) (.type "BaseException") = some true)
    (tB : PySem.W.typeIn K (.ref B) = some (.type "type"))
    (kB : PySem.W.keepIn K (.ref B) = true)
    (ntB : PySem.W.findIn K (.ref B) "top" = some none)
    (nbB : PySem.W.findIn K (.ref B) "bottom" = some none)
    (tfB : PySem.W.typeIn K (.ref f_BS) = some (.type "function"))
    (gaB : PySem.W.findIn K (.ref B) "__getattribute__" = some (some (.builtin "BaseException.__getattribute__")))
    (ggB : PySem.W.findIn K (.ref B) "__getattr__" = some none)
    (hdB : PySem.W.hasDictIn K B = true)
    (sBB : PySem.W.subIn K (.ref B) (.ref B) = some true)
    (sBW : PySem.W.subIn K (.ref B) (.ref W) = some true)
    (sWB : PySem.W.subIn K (.ref W) (.ref B) = some false)
    (sBV : PySem.W.subIn K (.ref B) (.type "ValueError") = some true)
    (hdW : PySem.W.hasDictIn K W = true)
    (tW : PySem.W.typeIn K (.ref W) = some (.type "type"))
    (rdW : PySem.W.readsIn K W (.type "type") = true)
    (gaW : PySem.W.specialIn K (.ref W) "__getattribute__" = some (some (.builtin "type.__getattribute__")))
    (fcW : PySem.W.findCls K (.ref W) (.type "type") "__init__" = some (.val (.ref f_WE)))
    (vV : PySem.W.findCls K (.type "ValueError") (.type "type") "__init__" = some (.val (.builtin "ValueError.__init__"))) :
    ∃ fd : FuncData, (∀ (s : Shared) (v : Value), BindsTo s fd ⟨[v], []⟩ [("_law_script", v)]) ∧ ∀ base : Heap, K.In base → base.Ns mainGlobals mg → FnOk l.prog w K mg base CX0 7 fa fd ["_law_script"] (spLaw K) := by
  have e := hfa.symm.trans (PySem.W.mg_of X G a_law)
  cases e
  subst eK
  have F_WE : FunD K "__init__" "WalkError.__init__" (defArgs s_WE) (defBody s_WE) (defScope s_WE) [.str xW] [] f_WE _ := ⟨⟨_, _, _, _, _, _, _, _, _, _, rfl, l_WE, c_WE, .inr ⟨by simp, _, _, _, _, rfl, dWE, rfl, .cons ⟨_, rfl⟩ .nil⟩, .inl rfl⟩, k_WE⟩
  have F_BS := fun_mk (st := s_BS) l_BS c_BS k_BS
  have F_iw := fun_mk (st := s_is_whole) l_iw c_iw k_iw
  have F_dg := fun_mk (st := s_digits) l_dg c_dg k_dg
  have F_SI : FunD K "__init__" "Share.__init__" (defArgs s_SI) (defBody s_SI) (defScope s_SI) [.int 1] [] f_SI _ := ⟨⟨_, _, _, _, _, _, _, _, _, _, rfl, l_SI, c_SI, .inr ⟨by simp, _, _, _, _, rfl, dSI, rfl, .cons ⟨_, rfl⟩ .nil⟩, .inl rfl⟩, k_SI⟩
  have F_eq := fun_mk (st := s_eq) l_eq c_eq k_eq
  have F_sr := fun_mk (st := s_str) l_sr c_sr k_sr
  have F_pool := fun_mk (st := s_pool) l_pool c_pool k_pool
  have F_draw := fun_mk (st := s_draw) l_draw c_draw k_draw
  have F_pick := fun_mk (st := s_pick) l_pick c_pick k_pick
  have F_num := fun_mk (st := s_number) l_num c_num k_num
  have F_divi := fun_mk (st := s_divi) l_divi c_divi k_divi
  have F_part := fun_mk (st := s_part) l_part c_part k_part
  have F_intg := fun_mk (st := s_integer) l_intg c_intg k_intg
  have F_frac := fun_mk (st := s_fraction) l_frac c_frac k_frac
  have F_is := fun_mk (st := s_is) l_is c_is k_is
  have F_text := fun_mk (st := s_text) l_text c_text k_text
  have F_equal := fun_mk (st := s_equal) l_equal c_equal k_equal
  have F_bad := fun_mk (st := s_bad) l_bad c_bad k_bad
  have F_same := fun_mk (st := s_same) l_same c_same k_same
  have F_refu := fun_mk (st := s_refused) l_refu c_refu k_refu
  have F_law := fun_mk (st := s_law) l_law c_law k_law
  have b_BS := F_BS.binds (ps := ["self", "top", "bottom"]) fun _ _ _ _ _ _ us hl => match us, hl with | [_, _, _], _ => rfl
  have b_iw := F_iw.binds (ps := ["thing"]) fun _ _ _ _ _ _ us hl => match us, hl with | [_], _ => rfl
  have b_dg := F_dg.binds (ps := ["number"]) fun _ _ _ _ _ _ us hl => match us, hl with | [_], _ => rfl
  have b_eq := F_eq.binds (ps := ["self", "other"]) fun _ _ _ _ _ _ us hl => match us, hl with | [_, _], _ => rfl
  have b_sr := F_sr.binds (ps := ["self"]) fun _ _ _ _ _ _ us hl => match us, hl with | [_], _ => rfl
  have b_pool := F_pool.binds (ps := ["_law_script"]) fun _ _ _ _ _ _ us hl => match us, hl with | [_], _ => rfl
  have b_draw := F_draw.binds (ps := ["_law_pool_here", "_law_many"]) fun _ _ _ _ _ _ us hl => match us, hl with | [_, _], _ => rfl
  have b_pick := F_pick.binds (ps := ["_law_pool_here", "_law_things"]) fun _ _ _ _ _ _ us hl => match us, hl with | [_, _], _ => rfl
  have b_num := F_num.binds (ps := ["_law_thing"]) fun _ _ _ _ _ _ us hl => match us, hl with | [_], _ => rfl
  have b_divi := F_divi.binds (ps := ["_law_one", "_law_other"]) fun _ _ _ _ _ _ us hl => match us, hl with | [_, _], _ => rfl
  have b_part := F_part.binds (ps := ["_law_top", "_law_bottom"]) fun _ _ _ _ _ _ us hl => match us, hl with | [_, _], _ => rfl
  have b_intg := F_intg.binds (ps := ["_law_pool_here"]) fun _ _ _ _ _ _ us hl => match us, hl with | [_], _ => rfl
  have b_frac := F_frac.binds (ps := ["_law_pool_here"]) fun _ _ _ _ _ _ us hl => match us, hl with | [_], _ => rfl
  have b_is := F_is.binds (ps := ["_law_share", "_law_part_here"]) fun _ _ _ _ _ _ us hl => match us, hl with | [_, _], _ => rfl
  have b_text := F_text.binds (ps := ["_law_part_here"]) fun _ _ _ _ _ _ us hl => match us, hl with | [_], _ => rfl
  have b_equal := F_equal.binds (ps := ["_law_one", "_law_other", "_law_due"]) fun _ _ _ _ _ _ us hl => match us, hl with | [_, _, _], _ => rfl
  have b_bad := F_bad.binds (ps := ["_law_pool_here"]) fun _ _ _ _ _ _ us hl => match us, hl with | [_], _ => rfl
  have b_same := F_same.binds (ps := ["_law_kept", "_law_passed"]) fun _ _ _ _ _ _ us hl => match us, hl with | [_, _], _ => rfl
  have b_refu := F_refu.binds (ps := ["_law_top", "_law_bottom"]) fun _ _ _ _ _ _ us hl => match us, hl with | [_, _], _ => rfl
  obtain ⟨d2, v2, bSI2⟩ := F_SI.binds1 (ps := ["self", "top", "bottom"]) 3 1 (by simp) rfl fun _ _ _ _ _ _ _ us its hu hi => match us, its, hu, hi with | [_, _, _], [_], _, _ => ⟨_, rfl, rfl⟩
  cases v2
  obtain ⟨dsS, vS, bSI1⟩ := F_SI.binds1 (ps := ["self", "top", "bottom"]) 2 0 (by simp) rfl fun _ _ _ _ _ _ _ us its hu hi => match us, its, hu, hi with | [_, _], [_], _, _ => ⟨_, rfl, rfl⟩
  obtain ⟨d3, v3, bWE⟩ := F_WE.binds1 (ps := ["self", "words"]) 2 1 (by simp) rfl fun _ _ _ _ _ _ _ us its hu hi => match us, its, hu, hi with | [_, _], [_], _, _ => ⟨_, rfl, rfl⟩
  cases v3
  have bn : Bn mg := ⟨PySem.W.mg_none_of X G n_isinstance, PySem.W.mg_none_of X G n_int, PySem.W.mg_none_of X G n_bool, PySem.W.mg_none_of X G n_abs, PySem.W.mg_none_of X G n_len, PySem.W.mg_none_of X G n_str, PySem.W.mg_none_of X G n_divmod, PySem.W.mg_none_of X G n_ValueError⟩
  have it : InsT K C := ⟨⟨pg, hd, po, sa⟩, ha, hn, htk, hm, kit_sub u_int (by decide +kernel), kit_sub u_bool (by decide +kernel), kit_self K C,
    kit_from hd tC (l := [.type "int", .type "object"]) (by decide +kernel) (by decide +kernel), kit_from hd tC (l := [.type "bool", .type "int", .type "object"]) (by decide +kernel) (by decide +kernel), kit_from hd tC (l := [.type "NoneType", .type "object"]) (by decide +kernel) (by decide +kernel), kit_from hd tC (l := [.type "str", .type "object"]) (by decide +kernel) (by decide +kernel),
    kit_from hd tC (l := [.type "list", .type "object"]) (by decide +kernel) (by decide +kernel), kit_from hd tC (l := [.type "tuple", .type "object"]) (by decide +kernel) (by decide +kernel), kit_from hd tC (l := [.type "dict", .type "object"]) (by decide +kernel) (by decide +kernel)⟩
  have gB : mg "BadShare" = some (.ref B) := PySem.W.mg_of X G aB
  have gW : mg "WalkError" = some (.ref W) := PySem.W.mg_of X G aW
  have T : ShT K mg C := { bn := bn, it := it, nT := nT, nB := nBm, g_gcd := PySem.W.mg_of X G aG, g_Share := PySem.W.mg_of X G aC }
  have own : OwnT K C f_eq := { q := ⟨a_eq, ne, hm, i_eq⟩, sint := u_int, sbool := u_bool, snon := u_NoneType, sstr := u_str, slst := u_list, stup := u_tuple, sdct := u_dict }
  have O : OexC K B := { cls := ⟨_, _, _, _, _, _, _, _, _, _, _, _, _, _, _, xB, rB⟩, sa := saB, exC := exB, tyC := tB, kC := kB }
  have neW : (Value.ref B == Value.ref W) = false := Bool.eq_false_iff.mpr fun z => by
    have z2 : B = W := Value.ref.inj (beq_iff_eq.mp z)
    rw [z2] at sBB
    rw [z2] at sWB
    rw [sBB] at sWB
    cases sWB
  have upV : PySem.W.kitCls K (.ref B) (.type "ValueError") = some true := by
    show (if PySem.W.kitMeta "ValueError" = true then PySem.W.subIn K (.ref B) (.type "ValueError") else none) = some true
    rw [if_pos (by decide +kernel)]
    exact sBV
  have xt : BxT K mg B W := ⟨PySem.W.exm_ref exB hdB tB sBB, ⟨gaB, ggB, exB, hdB⟩, ntB, nbB, gB, gW, neW, kit_cref hdW tW sBW, upV⟩
  refine ⟨_, fun s v => .of_eq rfl, fun base _ _ => ok_law (C := C) (B := B) F_law ?_⟩
  have FnWE := ok_WE (P := l.prog) (w := w) (base := base) F_WE bn vV
  have FnBS : FnOk l.prog w K mg base CX0 2 f_BS _ ["self", "top", "bottom"] (spBS K B) := ok_BS F_BS gW ⟨rdW, gaW, fcW, k_WE⟩ FnWE bWE
  have Bt : BsT l.prog w K mg base B := { O := O, nt := ntB, nb := nbB, gB := gB, made := ⟨_, _, a_BS, tfB, FnBS, b_BS⟩ }
  have c_iw : Cal l.prog w K mg base 1 "is_whole" ["thing"] (spWhole K C) := ⟨_, _, PySem.W.mg_of X G a_iw, k_iw, ok_is_whole F_iw bn it, b_iw⟩
  have c_dg : Cal l.prog w K mg base 1 "digits" ["number"] spDig := ⟨_, _, PySem.W.mg_of X G a_dg, k_dg, ok_digits F_dg bn (PySem.W.mg_of X G aK), b_dg⟩
  have m : MkT l.prog w K mg base C B := { ex := ⟨_, _, _, ⟨mk, a_SI, i_SI, kc⟩, ok_SI F_SI T Bt c_iw, bSI2, vS, bSI1⟩, gS := T.g_Share }
  have q : EqT l.prog w K mg base C := ⟨_, _, own, ok_eq F_eq T c_iw, b_eq⟩
  have st : StrT l.prog w K mg base C := ⟨_, _, a_sr, i_sr, ok_str F_sr T c_dg, b_sr⟩
  have c_pool : Cal l.prog w K mg base 1 "_law_pool" ["_law_script"] (spPool K) := ⟨_, _, PySem.W.mg_of X G a_pool, k_pool, ok_pool F_pool bn, b_pool⟩
  have c_draw : Cal l.prog w K mg base 1 "_law_draw" ["_law_pool_here", "_law_many"] spDraw := ⟨_, _, PySem.W.mg_of X G a_draw, k_draw, ok_draw F_draw bn, b_draw⟩
  have c_pick : Cal l.prog w K mg base 2 "_law_pick" ["_law_pool_here", "_law_things"] (spPick K) := ⟨_, _, PySem.W.mg_of X G a_pick, k_pick, ok_pick F_pick bn c_draw, b_pick⟩
  have c_num : Cal l.prog w K mg base 1 "_law_number" ["_law_thing"] (spWhole K C) := ⟨_, _, PySem.W.mg_of X G a_num, k_num, ok_number F_num bn it, b_num⟩
  have c_divi : Cal l.prog w K mg base 1 "_law_divisor" ["_law_one", "_law_other"] spDivi := ⟨_, _, PySem.W.mg_of X G a_divi, k_divi, ok_divi F_divi bn, b_divi⟩
  have c_part : Cal l.prog w K mg base 2 "_law_part" ["_law_top", "_law_bottom"] spPart := ⟨_, _, PySem.W.mg_of X G a_part, k_part, ok_part F_part c_divi, b_part⟩
  have c_intg : Cal l.prog w K mg base 2 "_law_integer" ["_law_pool_here"] spInteger := ⟨_, _, PySem.W.mg_of X G a_intg, k_intg, ok_integer F_intg c_draw, b_intg⟩
  have c_frac : Cal l.prog w K mg base 3 "_law_fraction" ["_law_pool_here"] spFraction := ⟨_, _, PySem.W.mg_of X G a_frac, k_frac, ok_fraction F_frac bn c_draw c_pick c_intg, b_frac⟩
  have c_is : Cal l.prog w K mg base 2 "_law_is" ["_law_share", "_law_part_here"] (spIs C) := ⟨_, _, PySem.W.mg_of X G a_is, k_is, ok_is F_is T c_num, b_is⟩
  have c_text : Cal l.prog w K mg base 1 "_law_text" ["_law_part_here"] spText := ⟨_, _, PySem.W.mg_of X G a_text, k_text, ok_text F_text bn, b_text⟩
  have c_equal : Cal l.prog w K mg base 4 "_law_equal" ["_law_one", "_law_other", "_law_due"] (spEqual K C) := ⟨_, _, PySem.W.mg_of X G a_equal, k_equal, ok_equal F_equal q, b_equal⟩
  have c_bad : Cal l.prog w K mg base 6 "_law_bad" ["_law_pool_here"] (spBad C) := ⟨_, _, PySem.W.mg_of X G a_bad, k_bad, ok_bad F_bad T m c_pick, b_bad⟩
  have c_same : Cal l.prog w K mg base 4 "_law_same" ["_law_kept", "_law_passed"] (spSame C) := ⟨_, _, PySem.W.mg_of X G a_same, k_same, ok_same F_same T q, b_same⟩
  have c_refu : Cal l.prog w K mg base 6 "_law_refused" ["_law_top", "_law_bottom"] (spRefused C) := ⟨_, _, PySem.W.mg_of X G a_refu, k_refu, ok_refused F_refu T m xt c_same, b_refu⟩
  exact ⟨T, m, st, c_pool, c_draw, c_pick, c_part, c_intg, c_frac, c_is, c_text, c_equal, c_bad, c_refu⟩
end
theorem walk {l : PySem.W.OpenLaw} {q : Program} {loose : List Str} {XP : (Str → Option Value) → Heap → Prop} {YP : World → Heap → Prop} {d : DefRec} {K : Params → PySem.W.Frag} (hn : l.most = some 63) (hdf : d.params.defaults = [])
    (hY : ∀ (w : World) (h : Heap), YP w h → (K w.params).In h)
    (F : ∀ (w : World) (mg : Str → Option Value) (fa : Addr) (h : Heap), (K w.params).In h → h.Ns mainGlobals mg → mg d.name = some (.ref fa) →
      ∃ fd : FuncData, (∀ (s : Shared) (u : Value), BindsTo s fd ⟨[u], []⟩ [("_law_script", u)]) ∧ ∀ base : Heap, (K w.params).In base → base.Ns mainGlobals mg → FnOk l.prog w (K w.params) mg base CX0 7 fa fd ["_law_script"] (spLaw (K w.params))) :
    PySem.W.WalkO q loose XP YP l.row.toRowW d [] (fun f vs => PySem.call f vs) :=
  L2.walk_of (n := 63) (k := 7) (x := "_law_script") (CX := fun _ => CX0) (sp := fun w => spLaw (K w.params)) hn (by decide) hdf ⟨rfl, by decide, by decide⟩ hY F (fun _ _ a ns hl _ hS => ⟨a, ns, rfl, hS, hl, fun _ => rfl⟩) fun _ _ _ _ _ z => z
end Kk

set_option Elab.async false
set_option maxRecDepth 100000
open PySem PySem.W PyProof.Rows
set_option maxRecDepth 100000
set_option maxHeartbeats 0
open_top head for PySem.Challenge.rw_bothwalks_k00_a_share_is_in_lowest_terms

set_option Elab.async false
set_option maxRecDepth 100000
set_option maxHeartbeats 0
open PySem PySem.W PyProof.Rows
theorem PySem.Challenge.cw_bothwalks_k00_a_share_is_in_lowest_terms_holds : PySem.Challenge.rw_bothwalks_k00_a_share_is_in_lowest_terms.Holds := by
  refine head ?_
  k_fill
  refine Kk.walk (l := PySem.Challenge.rw_bothwalks_k00_a_share_is_in_lowest_terms) rfl rfl (fun w h Y => PySem.W.kIn_of Y) ?F
  case F =>
    intro w mg fa h KX G hmg
    refine' Kk.all_mk KX G hmg ?aC ?aB ?aW ?aK ?eK ?aG ?n_isinstance ?n_int ?n_bool ?n_abs ?n_len ?n_str ?n_divmod ?n_ValueError ?a_WE ?l_WE ?c_WE ?k_WE ?a_BS ?l_BS ?c_BS ?k_BS ?a_iw ?l_iw ?c_iw ?k_iw ?a_dg ?l_dg ?c_dg ?k_dg ?a_SI ?l_SI ?c_SI ?k_SI ?a_eq ?l_eq ?c_eq ?k_eq ?a_sr ?l_sr ?c_sr ?k_sr ?a_pool ?l_pool ?c_pool ?k_pool ?a_draw ?l_draw ?c_draw ?k_draw ?a_pick ?l_pick ?c_pick ?k_pick ?a_num ?l_num ?c_num ?k_num ?a_divi ?l_divi ?c_divi ?k_divi ?a_part ?l_part ?c_part ?k_part ?a_intg ?l_intg ?c_intg ?k_intg ?a_frac ?l_frac ?c_frac ?k_frac ?a_is ?l_is ?c_is ?k_is ?a_text ?l_text ?c_text ?k_text ?a_equal ?l_equal ?c_equal ?k_equal ?a_bad ?l_bad ?c_bad ?k_bad ?a_same ?l_same ?c_same ?k_same ?a_refu ?l_refu ?c_refu ?k_refu ?a_law ?l_law ?c_law ?k_law ?dSI ?dWE ?pg ?hd ?po ?sa ?mk ?kc ?tC ?nT ?nBm ?ha ?hn ?htk ?hm ?ne ?u_int ?u_bool ?u_NoneType ?u_str ?u_list ?u_tuple ?u_dict ?i_SI ?i_eq ?i_sr ?xB ?rB ?saB ?exB ?tB ?kB ?ntB ?nbB ?tfB ?gaB ?ggB ?hdB ?sBB ?sBW ?sWB ?sBV ?hdW ?tW ?rdW ?gaW ?fcW ?vV
    (case aC => k_is)
    (case aB => k_is)
    (case aW => k_is)
    (case aK => k_is)
    (case eK => decide +kernel)
    (case aG => k_is)
    (case n_isinstance => k_is)
    (case n_int => k_is)
    (case n_bool => k_is)
    (case n_abs => k_is)
    (case n_len => k_is)
    (case n_str => k_is)
    (case n_divmod => k_is)
    (case n_ValueError => k_is)
    (case a_WE => k_is)
    (case l_WE => k_is)
    (case c_WE => k_is)
    (case k_WE => k_is)
    (case a_BS => k_is)
    (case l_BS => k_is)
    (case c_BS => k_is)
    (case k_BS => k_is)
    (case a_iw => k_is)
    (case l_iw => k_is)
    (case c_iw => k_is)
    (case k_iw => k_is)
    (case a_dg => k_is)
    (case l_dg => k_is)
    (case c_dg => k_is)
    (case k_dg => k_is)
    (case a_SI => k_is)
    (case l_SI => k_is)
    (case c_SI => k_is)
    (case k_SI => k_is)
    (case a_eq => k_is)
    (case l_eq => k_is)
    (case c_eq => k_is)
    (case k_eq => k_is)
    (case a_sr => k_is)
    (case l_sr => k_is)
    (case c_sr => k_is)
    (case k_sr => k_is)
    (case a_pool => k_is)
    (case l_pool => k_is)
    (case c_pool => k_is)
    (case k_pool => k_is)
    (case a_draw => k_is)
    (case l_draw => k_is)
    (case c_draw => k_is)
    (case k_draw => k_is)
    (case a_pick => k_is)
    (case l_pick => k_is)
    (case c_pick => k_is)
    (case k_pick => k_is)
    (case a_num => k_is)
    (case l_num => k_is)
    (case c_num => k_is)
    (case k_num => k_is)
    (case a_divi => k_is)
    (case l_divi => k_is)
    (case c_divi => k_is)
    (case k_divi => k_is)
    (case a_part => k_is)
    (case l_part => k_is)
    (case c_part => k_is)
    (case k_part => k_is)
    (case a_intg => k_is)
    (case l_intg => k_is)
    (case c_intg => k_is)
    (case k_intg => k_is)
    (case a_frac => k_is)
    (case l_frac => k_is)
    (case c_frac => k_is)
    (case k_frac => k_is)
    (case a_is => k_is)
    (case l_is => k_is)
    (case c_is => k_is)
    (case k_is => k_is)
    (case a_text => k_is)
    (case l_text => k_is)
    (case c_text => k_is)
    (case k_text => k_is)
    (case a_equal => k_is)
    (case l_equal => k_is)
    (case c_equal => k_is)
    (case k_equal => k_is)
    (case a_bad => k_is)
    (case l_bad => k_is)
    (case c_bad => k_is)
    (case k_bad => k_is)
    (case a_same => k_is)
    (case l_same => k_is)
    (case c_same => k_is)
    (case k_same => k_is)
    (case a_refu => k_is)
    (case l_refu => k_is)
    (case c_refu => k_is)
    (case k_refu => k_is)
    (case a_law => k_is)
    (case l_law => k_is)
    (case c_law => k_is)
    (case k_law => k_is)
    (case dSI => k_is)
    (case dWE => k_is)
    (case pg => k_is)
    (case hd => k_is)
    (case po => k_is)
    (case sa => k_is)
    (case mk => k_is)
    (case kc => k_is)
    (case tC => k_is)
    (case nT => k_is)
    (case nBm => k_is)
    (case ha => k_is)
    (case hn => k_is)
    (case htk => k_is)
    (case hm => k_is)
    (case ne => k_is)
    (case u_int => k_is)
    (case u_bool => k_is)
    (case u_NoneType => k_is)
    (case u_str => k_is)
    (case u_list => k_is)
    (case u_tuple => k_is)
    (case u_dict => k_is)
    (case i_SI => k_is)
    (case i_eq => k_is)
    (case i_sr => k_is)
    (case xB => k_is)
    (case rB => first | rfl | decide +kernel | k_is)
    (case saB => k_is)
    (case exB => k_is)
    (case tB => k_is)
    (case kB => k_is)
    (case ntB => k_is)
    (case nbB => k_is)
    (case tfB => k_is)
    (case gaB => k_is)
    (case ggB => k_is)
    (case hdB => k_is)
    (case sBB => first | rfl | k_is)
    (case sBW => first | rfl | k_is)
    (case sWB => first | rfl | k_is)
    (case sBV => k_is)
    (case hdW => k_is)
    (case tW => k_is)
    (case rdW => k_is)
    (case gaW => k_is)
    (case fcW => k_is)
    (case vV => k_is)


import PyProof.Rows.All
import Wide.All
import OpenK.AllK
import Wide.FinOn
import PyProof.EqAt
import PyProof.EqKinds
import PyProof.NeKinds
import PyProof.TupleCall
import HandS.OwnEq
import HandS.IsInst
import HandS.ForMost
import HandS.ForExc
import HandS.ExcInit
import HandS.ExcField
import HandS.ExcIs
import HandS.Gcd
import HandS.FStr
import HandS.Wide
import HandS.WideBits
import HandS.Star
import HandS.EndBits
import HandS.ClsMeth
import PySem.Challenge.RW_bothwalks_k28_free_and_close_ties
import HandS.Defaults
import KE.KOpsOwn
import PyProof.SumAny
import HandS.SortKw
import HandS.Comp
import HandS.DictComp
import HandS.Deep
import KE.KDictDisplayH
import HandS.TupMul
import KE.DataMinMax
import HandS.Conv
import HandS.TupAny
import HandS.Iter
import PyProof.FactsAll.list_3
import HandS.Text
import HandS.WordsExc
import KE.GoesMore
import PyProof.EnumMake
import HandS.Walk
import KE.KDictWalk
import HandS.Zip
import HandS.Small
import KE.DataEq
import HandS.More
import HandS.NoneIn
set_option Elab.async false
set_option linter.all false
set_option maxRecDepth 100000
set_option maxHeartbeats 4000000
/-! == and != where one side is an instance of an own class with an own __eq__ -/
namespace OC
open PySem PySem.SeqAt PySem.W
open AutoSeq1 (wpAny_loadPart')
open MeetsSeq MeetsSeq2 MeetsSeq3 SeqRoads2

def Is2 (op : CmpOp) : Prop := op = .Eq ∨ op = .NotEq

section
variable {prog : Program} {w : World} {A : Around} {E : Value → Shared → Prop} {s : Shared} {K : Frag} {x C f : Addr} {ox : Obj} {od : Option Obj}

/-- the built-in's own comparison hands back NotImplemented: nothing is known of it, nothing has changed -/
def Decl (prog : Program) (w : World) (A : Around) (s : Shared) (op : CmpOp) (a b : Value) : Prop :=
  ∀ (Q : Option Value → Shared → Prop) (E : Value → Shared → Prop), Q none s → wpAny (model prog w) A (tryCompare a (cmpInfo op).2.1 b) Q E s

theorem int_ref_eq (b : Int) (u : Tok) {o : Obj} (hd : o.data = .plain) (l : Addr) :
    Meets (Builtin.«int.__eq__» ⟨[.int b u, .ref l], []⟩) (fun _ R s => s.heap.get? l = some o ∧ R (.ok (.ret .notImplemented)) s) :=
  .of_wp fun prog w A R s h => by obtain ⟨cls, dd, data, sl⟩ := o; obtain ⟨hp, g, d, tk, os⟩ := s; obtain ⟨hl, h⟩ := h; simp only at hd; subst hd; wp_walk using wpAny_loadPart' hl, wpAny_load hl; exact ⟨_, rfl, h⟩
theorem int_ref_ne (b : Int) (u : Tok) {o : Obj} (hd : o.data = .plain) (l : Addr) :
    Meets (Builtin.«int.__ne__» ⟨[.int b u, .ref l], []⟩) (fun _ R s => s.heap.get? l = some o ∧ R (.ok (.ret .notImplemented)) s) :=
  .of_wp fun prog w A R s h => by obtain ⟨cls, dd, data, sl⟩ := o; obtain ⟨hp, g, d, tk, os⟩ := s; obtain ⟨hl, h⟩ := h; simp only at hd; subst hd; wp_walk using wpAny_loadPart' hl, wpAny_load hl; exact ⟨_, rfl, h⟩
theorem bool_ref_eq (b : Bool) {o : Obj} (hd : o.data = .plain) (l : Addr) :
    Meets (Builtin.«int.__eq__» ⟨[.bool b, .ref l], []⟩) (fun _ R s => s.heap.get? l = some o ∧ R (.ok (.ret .notImplemented)) s) :=
  .of_wp fun prog w A R s h => by obtain ⟨cls, dd, data, sl⟩ := o; obtain ⟨hp, g, d, tk, os⟩ := s; obtain ⟨hl, h⟩ := h; simp only at hd; subst hd; wp_walk using wpAny_loadPart' hl, wpAny_load hl; exact ⟨_, rfl, h⟩
theorem bool_ref_ne (b : Bool) {o : Obj} (hd : o.data = .plain) (l : Addr) :
    Meets (Builtin.«int.__ne__» ⟨[.bool b, .ref l], []⟩) (fun _ R s => s.heap.get? l = some o ∧ R (.ok (.ret .notImplemented)) s) :=
  .of_wp fun prog w A R s h => by obtain ⟨cls, dd, data, sl⟩ := o; obtain ⟨hp, g, d, tk, os⟩ := s; obtain ⟨hl, h⟩ := h; simp only at hd; subst hd; wp_walk using wpAny_loadPart' hl, wpAny_load hl; exact ⟨_, rfl, h⟩
theorem str_ref_eq (b : Str) (u : Tok) {o : Obj} (hd : o.data = .plain) (l : Addr) :
    Meets (Builtin.«str.__eq__» ⟨[.str b u, .ref l], []⟩) (fun _ R s => s.heap.get? l = some o ∧ R (.ok (.ret .notImplemented)) s) :=
  .of_wp fun prog w A R s h => by obtain ⟨cls, dd, data, sl⟩ := o; obtain ⟨hp, g, d, tk, os⟩ := s; obtain ⟨hl, h⟩ := h; simp only at hd; subst hd; wp_walk using wpAny_loadPart' hl, wpAny_load hl; exact ⟨_, rfl, h⟩
theorem str_ref_ne (b : Str) (u : Tok) {o : Obj} (hd : o.data = .plain) (l : Addr) :
    Meets (Builtin.«str.__ne__» ⟨[.str b u, .ref l], []⟩) (fun _ R s => s.heap.get? l = some o ∧ R (.ok (.ret .notImplemented)) s) :=
  .of_wp fun prog w A R s h => by obtain ⟨cls, dd, data, sl⟩ := o; obtain ⟨hp, g, d, tk, os⟩ := s; obtain ⟨hl, h⟩ := h; simp only at hd; subst hd; wp_walk using wpAny_loadPart' hl, wpAny_load hl; exact ⟨_, rfl, h⟩

theorem decl_int {op : CmpOp} (ho : Is2 op) (b : Int) (u : Tok) (hx : s.heap.get? x = some ox) (hd : ox.data = .plain) : Decl prog w A s op (.int b u) (.ref x) := fun Q E hq => by
  rcases ho with rfl | rfl
  · exact wpAny_tryCompare_declines (typeIs_int s b u) F.slot_int_eq (call_meets F.slot_int_eq (typeIs_int s b u) F.entry_int_eq (F.args_int_eq_2 _ _) (int_ref_eq b u hd x) ⟨hx, rfl, hq⟩)
  · exact wpAny_tryCompare_declines (typeIs_int s b u) F.slot_int_ne (call_meets F.slot_int_ne (typeIs_int s b u) F.entry_int_ne (F.args_int_ne_2 _ _) (int_ref_ne b u hd x) ⟨hx, rfl, hq⟩)
theorem decl_bool {op : CmpOp} (ho : Is2 op) (b : Bool) (hx : s.heap.get? x = some ox) (hd : ox.data = .plain) : Decl prog w A s op (.bool b) (.ref x) := fun Q E hq => by
  rcases ho with rfl | rfl
  · exact wpAny_tryCompare_declines (T := "bool") rfl F.slot_bool_eq (call_meets F.slot_bool_eq rfl F.entry_int_eq (F.args_int_eq_2 _ _) (bool_ref_eq b hd x) ⟨hx, rfl, hq⟩)
  · exact wpAny_tryCompare_declines (T := "bool") rfl F.slot_bool_ne (call_meets F.slot_bool_ne rfl F.entry_int_ne (F.args_int_ne_2 _ _) (bool_ref_ne b hd x) ⟨hx, rfl, hq⟩)
theorem decl_str {op : CmpOp} (ho : Is2 op) (b : Str) (u : Tok) (hx : s.heap.get? x = some ox) (hd : ox.data = .plain) : Decl prog w A s op (.str b u) (.ref x) := fun Q E hq => by
  rcases ho with rfl | rfl
  · exact wpAny_tryCompare_declines (typeIs_str s b u) F.slot_str_eq (call_meets F.slot_str_eq (typeIs_str s b u) F.entry_str_eq (F.args_str_eq_2 _ _) (str_ref_eq b u hd x) ⟨hx, rfl, hq⟩)
  · exact wpAny_tryCompare_declines (typeIs_str s b u) F.slot_str_ne (call_meets F.slot_str_ne (typeIs_str s b u) F.entry_str_ne (F.args_str_ne_2 _ _) (str_ref_ne b u hd x) ⟨hx, rfl, hq⟩)
theorem decl_none {op : CmpOp} (ho : Is2 op) : Decl prog w A s op .none (.ref x) := fun Q E hq => by
  rcases ho with rfl | rfl
  · exact wpAny_tryCompare_declines (T := "NoneType") rfl F.slot_NoneType_eq (call_gives F.slot_NoneType_eq rfl F.entry_NoneType_eq (F.args_NoneType_eq_2 _ _) (NoneType___eq___none_ref_0 x) ⟨rfl, hq⟩)
  · exact wpAny_tryCompare_declines (T := "NoneType") rfl F.slot_NoneType_ne (call_gives F.slot_NoneType_ne rfl F.entry_NoneType_ne (F.args_NoneType_ne_2 _ _) (NoneType___ne___none_ref_0 x) ⟨rfl, hq⟩)
end
end OC

set_option Elab.async false
set_option linter.all false
set_option maxRecDepth 100000
set_option maxHeartbeats 4000000
namespace OC
open PySem PySem.SeqAt PySem.W
open AutoSeq1 (wpAny_loadPart')
open MeetsSeq MeetsSeq2 MeetsSeq3 SeqRoads2
section
variable {prog : Program} {w : World} {A : Around} {E : Value → Shared → Prop} {s : Shared} {K : Frag} {x C f : Addr} {ox : Obj} {od : Option Obj}

theorem not_inst {M : Model} {h : Heap} {T : String} (X : K.In h) (I : InstAt h x ox C od) (hn : subIn K (.ref C) (.type T) = some false) : Looks M h (isInstance (.ref x) (.type T)) false :=
  I.type.andThen (looks_subIn X hn)

theorem tup_ref_eq (l : Addr) (items : Array Value) (n : Nat) (dd : Option Addr) (sl : Array (Option Value)) (x : Addr) :
    Meets (Builtin.«tuple.__eq__» ⟨[.ref l, .ref x], []⟩) (fun _ R s => (∀ M : Model, Looks M s.heap (isInstance (.ref x) (.type "tuple")) false) ∧ s.heap.get? l = some { cls := .type "tuple", dict := dd, data := .seq items n, slots := sl } ∧ R (.ok (.ret .notImplemented)) s) :=
  .of_wp fun prog w A R s h => by
    obtain ⟨hp, g, d, tk, os⟩ := s; obtain ⟨L0, hl, h⟩ := h
    have L := L0 (model prog w)
    unfold Builtin.«tuple.__eq__»
    repeat (first | with_reducible refine L.at ?_ | (refine wpAny_bind (m := isInstance (.ref x) (.type "tuple")) (L.at ?_)) | wp_step)
    exact ⟨_, rfl, h⟩
theorem tup_ref_ne (l : Addr) (items : Array Value) (n : Nat) (dd : Option Addr) (sl : Array (Option Value)) (x : Addr) :
    Meets (Builtin.«tuple.__ne__» ⟨[.ref l, .ref x], []⟩) (fun _ R s => (∀ M : Model, Looks M s.heap (isInstance (.ref x) (.type "tuple")) false) ∧ s.heap.get? l = some { cls := .type "tuple", dict := dd, data := .seq items n, slots := sl } ∧ R (.ok (.ret .notImplemented)) s) :=
  .of_wp fun prog w A R s h => by
    obtain ⟨hp, g, d, tk, os⟩ := s; obtain ⟨L0, hl, h⟩ := h
    have L := L0 (model prog w)
    unfold Builtin.«tuple.__ne__»
    repeat (first | with_reducible refine L.at ?_ | (refine wpAny_bind (m := isInstance (.ref x) (.type "tuple")) (L.at ?_)) | wp_step)
    exact ⟨_, rfl, h⟩
theorem list_ref_eq (l : Addr) (items : Array Value) (n : Nat) (dd : Option Addr) (sl : Array (Option Value)) (x : Addr) :
    Meets (Builtin.«list.__eq__» ⟨[.ref l, .ref x], []⟩) (fun _ R s => (∀ M : Model, Looks M s.heap (isInstance (.ref x) (.type "list")) false) ∧ s.heap.get? l = some { cls := .type "list", dict := dd, data := .seq items n, slots := sl } ∧ R (.ok (.ret .notImplemented)) s) :=
  .of_wp fun prog w A R s h => by
    obtain ⟨hp, g, d, tk, os⟩ := s; obtain ⟨L0, hl, h⟩ := h
    have L := L0 (model prog w)
    unfold Builtin.«list.__eq__»
    repeat (first | with_reducible refine L.at ?_ | (refine wpAny_bind (m := isInstance (.ref x) (.type "list")) (L.at ?_)) | wp_step)
    exact ⟨_, rfl, h⟩
theorem list_ref_ne (l : Addr) (items : Array Value) (n : Nat) (dd : Option Addr) (sl : Array (Option Value)) (x : Addr) :
    Meets (Builtin.«list.__ne__» ⟨[.ref l, .ref x], []⟩) (fun _ R s => (∀ M : Model, Looks M s.heap (isInstance (.ref x) (.type "list")) false) ∧ s.heap.get? l = some { cls := .type "list", dict := dd, data := .seq items n, slots := sl } ∧ R (.ok (.ret .notImplemented)) s) :=
  .of_wp fun prog w A R s h => by
    obtain ⟨hp, g, d, tk, os⟩ := s; obtain ⟨L0, hl, h⟩ := h
    have L := L0 (model prog w)
    unfold Builtin.«list.__ne__»
    repeat (first | with_reducible refine L.at ?_ | (refine wpAny_bind (m := isInstance (.ref x) (.type "list")) (L.at ?_)) | wp_step)
    exact ⟨_, rfl, h⟩
theorem dict_ref_eq (l : Addr) (x : Addr) {o : Obj} (ho : o.ExactDict) :
    Meets (Builtin.«dict.__eq__» ⟨[.ref l, .ref x], []⟩) (fun _ R s => (∀ M : Model, Looks M s.heap (isInstance (.ref x) (.type "dict")) false) ∧ s.heap.get? l = some o ∧ R (.ok (.ret .notImplemented)) s) :=
  .of_wp fun prog w A R s h => by
    obtain ⟨hp, g, d, tk, os⟩ := s; obtain ⟨L0, hl, h⟩ := h
    have L := L0 (model prog w)
    show wpAny _ _ (Builtin.Dict.dictSlotArgs "__eq__" ⟨[.ref l, .ref x], []⟩ >>= _) _ _ _
    repeat (first | with_reducible refine L.at ?_ | (refine wpAny_bind (m := isInstance (.ref x) (.type "dict")) (L.at ?_)) | wp_step)
    exact ⟨_, rfl, h⟩
theorem dict_ref_ne (l : Addr) (x : Addr) {o : Obj} (ho : o.ExactDict) :
    Meets (Builtin.«dict.__ne__» ⟨[.ref l, .ref x], []⟩) (fun _ R s => (∀ M : Model, Looks M s.heap (isInstance (.ref x) (.type "dict")) false) ∧ s.heap.get? l = some o ∧ R (.ok (.ret .notImplemented)) s) :=
  .of_wp fun prog w A R s h => by
    obtain ⟨hp, g, d, tk, os⟩ := s; obtain ⟨L0, hl, h⟩ := h
    have L := L0 (model prog w)
    show wpAny _ _ (Builtin.Dict.dictSlotArgs "__ne__" ⟨[.ref l, .ref x], []⟩ >>= _) _ _ _
    repeat (first | with_reducible refine L.at ?_ | (refine wpAny_bind (m := isInstance (.ref x) (.type "dict")) (L.at ?_)) | wp_step)
    exact ⟨_, rfl, h⟩
end
end OC

set_option Elab.async false
set_option linter.all false
set_option maxRecDepth 100000
set_option maxHeartbeats 4000000
namespace OC
open PySem PySem.SeqAt PySem.W Builtin
open AutoSeq1 (wpAny_loadPart')
open MeetsSeq MeetsSeq2 MeetsSeq3 SeqRoads2
section
variable {prog : Program} {w : World} {A : Around} {E : Value → Shared → Prop} {s : Shared} {K : Frag} {x C f : Addr} {ox : Obj} {od : Option Obj} {y : Value}

/-- what the own __eq__ hands back, turned for != -/
def turn (op : CmpOp) (b : Bool) : Bool := match op with | .Eq => b | _ => !b

/-- the class: its own __eq__ at f, its __ne__ is object's -/
structure OwnQ (K : Frag) (C f : Addr) : Prop where
  eq : findIn K (.ref C) "__eq__" = some (some (.ref f))
  ne : findIn K (.ref C) "__ne__" = some (some (.builtin "object.__ne__"))
  ob : mroIn K C (.type "object") = some true
  fn : isFn K (.ref f) = true

theorem ifBound_objNe {M : Model} {args : List Value} {Q : Option Value → Shared → Prop} (X : K.In s.heap) (I : InstAt s.heap x ox C od) (hs : findIn K (.ref C) "__ne__" = some (some (.builtin "object.__ne__")))
    (h : wpAny M A (call (.builtin "object.__ne__") (.ref x :: args)) (fun v => Q (some v)) E s) : wpAny M A (callSpecialIfBound? (.ref x) "__ne__" args) Q E s := by
  simp only [callSpecialIfBound?, bindSpecialIfBound?]
  refine wpAny_holding (wpAny_bind (wpAny_bind (wpAny_bind (I.type.here ((looks_findIn X hs).here ?_)))))
  refine wpAny_bind (wpAny_askSetting (wpAny_ite ?_))
  have fin : wpAny M A (call (.builtin "object.__ne__") ([.ref x] ++ args) >>= fun v => pure (some v)) Q E s := wpAny_bind (wpAny_mono h (fun v s' h' => wpAny_pure h') fun _ _ h' => h')
  split
  · exact wpAny_bind (wpAny_of_eq (F.cmp_object.ne.bind _) (wpAny_pure (by exact fin)))
  · exact wpAny_tryCatch (wpAny_bind (wpAny_of_eq (F.cmp_object.ne.bind _) (wpAny_pure (by exact fin))))

theorem ne_entry {Q : Fin → Shared → Prop} (hu : A.units < cLine) (X : K.In s.heap) (I : InstAt s.heap x ox C od) (O : OwnQ K C f)
    (h : wpAny (model prog w) A (call (.ref f) [.ref x, y]) (fun v s' => ∃ b, v = .bool b ∧ Q (.done (.ret (.bool (!b)))) s') E s) :
    wpAny (model prog w) A (Builtin.«object.__ne__» ⟨[.ref x, y], []⟩) Q E s := by
  obtain ⟨hp, g, d, t, os⟩ := s
  unfold Builtin.«object.__ne__»
  repeat (first
    | with_reducible refine wpAny_cRoomFor hu ?_
    | (refine wpAny_bind (m := callSpecialIfBound? (.ref x) (Str.ofString "__eq__") [y])
        (ifBound_K X I O.eq O.fn (wpAny_mono h (fun r s' hr => by
          obtain ⟨b, rfl, hq⟩ := hr
          repeat (first | exact hq | exact wpAny_pure hq | exact wpAny_truthy_bool hq | (refine wpAny_bind (m := truthy (.bool _)) (wpAny_truthy_bool ?_)) | wp_step)) fun _ _ e => e)))
    | wp_step)

theorem own_try {op : CmpOp} {Q : Value → Shared → Prop} (ho : Is2 op) (hu : A.units + 1 < cLine) (X : K.In s.heap) (I : InstAt s.heap x ox C od) (O : OwnQ K C f)
    (h : ∀ A' : Around, A' = A ∨ A' = A.in1 → wpAny (model prog w) A' (call (.ref f) [.ref x, y]) (fun v s' => ∃ b, v = .bool b ∧ Q (.bool (turn op b)) s') E s) :
    wpAny (model prog w) A (tryCompare (.ref x) (cmpInfo op).2.1 y) (fun r s' => ∃ v, r = some v ∧ Q v s') E s := by
  rcases ho with rfl | rfl
  · unfold tryCompare
    refine wpAny_bind (m := callSpecialIfBound? (.ref x) "__eq__" [y]) (ifBound_K X I O.eq O.fn (wpAny_mono (h A (.inl rfl)) (fun v s' hv => ?_) fun _ _ e => e))
    obtain ⟨b, rfl, hq⟩ := hv
    exact wpAny_pure ⟨_, rfl, hq⟩
  · unfold tryCompare
    refine wpAny_bind (m := callSpecialIfBound? (.ref x) "__ne__" [y]) (ifBound_objNe X I O.ne ?_)
    refine wpAny_call (codeAny_call_builtin F.cmp_object.ne.plain F.cmpEntry_ne (check_slot F.cmpKind_ne F.cmpSplit_ne (I.type.andThen (looks_mroIn X O.ob)) (F.cmpArgs_ne _ _) ?_))
    refine ne_entry (A := A.in1) hu X I O (wpAny_mono (h A.in1 (.inr rfl)) (fun v s' hv => ?_) fun _ _ e => e)
    obtain ⟨b, rfl, hq⟩ := hv
    first
      | exact ⟨b, rfl, wpAny_pure ⟨_, rfl, hq⟩⟩
      | exact ⟨b, rfl, wpAny_pure (wpAny_pure ⟨_, rfl, hq⟩)⟩
      | exact ⟨b, rfl, ⟨_, rfl, hq⟩⟩

theorem compareOp2 {op : CmpOp} (ho : Is2 op) (a b : Value) : compareOp op a b = richCompare op a b := by rcases ho with rfl | rfl <;> rfl

/-- the instance on the left -/
theorem rc_left {op : CmpOp} {tb : Value} {Q : Value → Shared → Prop} (ho : Is2 op) (hu : A.units + 1 < cLine) (X : K.In s.heap) (I : InstAt s.heap x ox C od) (O : OwnQ K C f) (hb : Looks (model prog w) s.heap (typeOf y) tb) (hn : notFirst K C tb = true)
    (h : ∀ A' : Around, A' = A ∨ A' = A.in1 → wpAny (model prog w) A' (call (.ref f) [.ref x, y]) (fun v s' => ∃ b, v = .bool b ∧ Q (.bool (turn op b)) s') E s) :
    wpAny (model prog w) A (richCompare op (.ref x) y) Q E s := by
  have one := own_try ho hu X I O h
  unfold richCompare
  simp only [oneThing_ref]
  refine wpAny_holding (wpAny_bind (wpAny_cRoomFor (Nat.lt_of_succ_lt hu) ?_))
  refine wpAny_bind (I.type.here (wpAny_bind (hb.here ?_)))
  split
  · rename_i q
    have e : subIn K tb (.ref C) = some false := by
      rcases Bool.or_eq_true_iff.mp hn with e | e
      · rw [beq_iff_eq.mp e] at q; simp at q
      · exact beq_iff_eq.mp e
    refine wpAny_bind ((looks_subIn X e).here ?_)
    simp only [Bool.false_eq_true, if_false]
    refine wpAny_bind (wpAny_mono one (fun r s' z => ?_) fun _ _ e => e)
    obtain ⟨v, rfl, hq⟩ := z
    exact wpAny_pure hq
  · refine wpAny_bind (wpAny_pure ?_)
    simp only [Bool.false_eq_true, if_false]
    refine wpAny_bind (wpAny_mono one (fun r s' z => ?_) fun _ _ e => e)
    obtain ⟨v, rfl, hq⟩ := z
    exact wpAny_pure hq

/-- the instance on the right, a value of a built-in type on the left -/
theorem rc_right {op : CmpOp} {T : String} {a : Value} {Q : Value → Shared → Prop} (ho : Is2 op) (hu : A.units + 1 < cLine) (X : K.In s.heap) (I : InstAt s.heap x ox C od) (O : OwnQ K C f) (ha : s.TypeIs a T) (hn : subIn K (.ref C) (.type T) = some false)
    (hne : (oneThing? op a (.ref x)) = none)
    (hd : Decl prog w A s op a (.ref x))
    (h : ∀ A' : Around, A' = A ∨ A' = A.in1 → wpAny (model prog w) A' (call (.ref f) [.ref x, a]) (fun v s' => ∃ b, v = .bool b ∧ Q (.bool (turn op b)) s') E s) :
    wpAny (model prog w) A (richCompare op a (.ref x)) Q E s := by
  have one := own_try ho hu X I O h
  have e2 : (cmpInfo op).2.2 = (cmpInfo op).2.1 := by rcases ho with rfl | rfl <;> rfl
  unfold richCompare
  simp only [hne]
  refine wpAny_holding (wpAny_bind (wpAny_cRoomFor (Nat.lt_of_succ_lt hu) ?_))
  refine wpAny_bind (wpAny_typeOf ha (wpAny_bind (I.type.here ?_)))
  have ne : (Value.type T != Value.ref C) = true := by simp
  simp only [ne, if_true]
  refine wpAny_bind ((looks_subIn X hn).here ?_)
  simp only [Bool.false_eq_true, if_false]
  refine wpAny_bind (m := tryCompare a (cmpInfo op).2.1 (.ref x)) (hd _ _ ?_)
  simp only [Bool.not_false, if_true]
  rw [e2]
  refine wpAny_bind (m := tryCompare (.ref x) (cmpInfo op).2.1 a) (wpAny_mono one (fun r s' z => ?_) fun _ _ e => e)
  obtain ⟨v, rfl, hq⟩ := z
  exact wpAny_pure hq
end
end OC

set_option Elab.async false
set_option linter.all false
set_option maxRecDepth 100000
set_option maxHeartbeats 4000000
namespace L2
open PySem PySem.Spec PyProof.Rows

/-- a foreign thing: its built-in type, its kind told by the heap -/
inductive Fo (K : PySem.W.Frag) (H : Hp) : V → String → Prop where
  | non : Fo K H .non "NoneType"
  | bl (b : Bool) : Fo K H (.bl b) "bool"
  | int (i : Int) : Fo K H (.int i) "int"
  | str (x : Str) : Fo K H (.str x) "str"
  | lst {a : Addr} {xs : List V} (e : H a = some (.lst xs)) : Fo K H (.ref a) "list"
  | tup {a : Addr} {xs : List V} (e : H a = some (.tup xs)) : Fo K H (.ref a) "tuple"
  | dK {a : Addr} {kvs : List (Key × V)} (e : H a = some (.dK kvs)) : Fo K H (.ref a) "dict"
theorem Fo.ty {K : PySem.W.Frag} {H : Hp} {x : V} {T : String} (h : Fo K H x T) : TyX K H x (.type T) := by
  cases h with
  | non => exact .base .non
  | bl b => exact .base (.bl b)
  | int i => exact .base (.int i)
  | str x => exact .base (.str x)
  | lst e => exact .base (.lst e)
  | tup e => exact .base (.tup e)
  | dK e => exact .base (.dK e)

/-- the class at C as far as == and != ask -/
structure OwnT (K : PySem.W.Frag) (C f : Addr) : Prop where
  q : OC.OwnQ K C f
  sint : PySem.W.subIn K (.ref C) (.type "int") = some false
  sbool : PySem.W.subIn K (.ref C) (.type "bool") = some false
  snon : PySem.W.subIn K (.ref C) (.type "NoneType") = some false
  sstr : PySem.W.subIn K (.ref C) (.type "str") = some false
  slst : PySem.W.subIn K (.ref C) (.type "list") = some false
  stup : PySem.W.subIn K (.ref C) (.type "tuple") = some false
  sdct : PySem.W.subIn K (.ref C) (.type "dict") = some false
theorem not_first {K : PySem.W.Frag} {C : Addr} {T : String} {l : List Value} (h : fastBuiltinMro T = some l) (hl : l.all (fun v => match v with | .type _ => true | _ => false) = true) : PySem.W.notFirst K C (.type T) = true := by
  unfold PySem.W.notFirst
  have e : PySem.W.subIn K (.type T) (.ref C) = some false := by
    show (fastBuiltinMro T).map (·.contains (.ref C)) = some false
    rw [h]
    show some (l.contains (.ref C)) = some false
    congr 1
    induction l with
    | nil => rfl
    | cons a r ih =>
      rw [List.all_cons, Bool.and_eq_true] at hl
      rw [List.contains_cons]
      have : (Value.ref C == a) = false := by
        cases a <;> first | rfl | (simp at hl)
        
      rw [this, Bool.false_or]
      clear h
      exact (by
        revert hl
        intro hl
        clear ih this
        have hl2 := hl.2
        clear hl
        induction r with
        | nil => rfl
        | cons b r ih2 =>
          rw [List.all_cons, Bool.and_eq_true] at hl2
          rw [List.contains_cons]
          have : (Value.ref C == b) = false := by
            cases b <;> first | rfl | (simp at hl2)
          rw [this, Bool.false_or]
          exact ih2 hl2.2)
  rw [e]
  simp
theorem Fo.nf {K : PySem.W.Frag} {H : Hp} {x : V} {T : String} {C : Addr} (h : Fo K H x T) : PySem.W.notFirst K C (.type T) = true := by
  cases h with
  | non => exact not_first (l := [.type "NoneType", .type "object"]) (by decide +kernel) (by decide +kernel)
  | bl b => exact not_first (l := [.type "bool", .type "int", .type "object"]) (by decide +kernel) (by decide +kernel)
  | int i => exact not_first (l := [.type "int", .type "object"]) (by decide +kernel) (by decide +kernel)
  | str x => exact not_first (l := [.type "str", .type "object"]) (by decide +kernel) (by decide +kernel)
  | lst e => exact not_first (l := [.type "list", .type "object"]) (by decide +kernel) (by decide +kernel)
  | tup e => exact not_first (l := [.type "tuple", .type "object"]) (by decide +kernel) (by decide +kernel)
  | dK e => exact not_first (l := [.type "dict", .type "object"]) (by decide +kernel) (by decide +kernel)
theorem Fo.sub {K : PySem.W.Frag} {H : Hp} {x : V} {T : String} {C f : Addr} (h : Fo K H x T) (O : OwnT K C f) : PySem.W.subIn K (.ref C) (.type T) = some false := by
  cases h with
  | non => exact O.snon
  | bl b => exact O.sbool
  | int i => exact O.sint
  | str x => exact O.sstr
  | lst e => exact O.slst
  | tup e => exact O.stup
  | dK e => exact O.sdct

section
variable {X : Cx} {pins : List (Addr × Obj)} {σ : St} {H : Hp} {s : Shared}
theorem Fo.typ {x : V} {u : Value} {T : String} (h : Fo X.K H x T) (I : Inv X pins σ H s) (r : RelV x u) : s.TypeIs u T := by
  cases h with
  | non => cases (show u = Value.none from r); rfl
  | bl b => cases (show u = Value.bool b from r); rfl
  | int i => obtain ⟨t, q⟩ := (show ∃ t, u = Value.int i t from r); cases q; rfl
  | str x => obtain ⟨t, q⟩ := (show ∃ t, u = Value.str x t from r); cases q; rfl
  | @lst a xs e =>
    cases (show u = Value.ref a from r)
    obtain ⟨_, _, n, _, h1⟩ := (show ObjOk X.prog X.w H s.heap a (.lst xs) from I.hok a _ e)
    exact ⟨_, h1, rfl⟩
  | @tup a xs e =>
    cases (show u = Value.ref a from r)
    obtain ⟨_, _, _, o, h1, h2, _⟩ := (show ObjOk X.prog X.w H s.heap a (.tup xs) from I.hok a _ e)
    exact ⟨o, h1, h2⟩
  | @dK a kvs e =>
    cases (show u = Value.ref a from r)
    obtain ⟨_, _, vs, _, o, es, ep, h1, h2, _⟩ := (show ObjOk X.prog X.w H s.heap a (.dK kvs) from I.hok a _ e)
    exact ⟨o, h1, h2.1⟩
theorem Fo.looks {x : V} {u : Value} {T : String} (h : Fo X.K H x T) (I : Inv X pins σ H s) (r : RelV x u) : PySem.W.Looks (model X.prog X.w) s.heap (typeOf u) (.type T) := by
  cases h with
  | non => cases (show u = Value.none from r); exact .of_pure rfl
  | bl b => cases (show u = Value.bool b from r); exact .of_pure rfl
  | int i => obtain ⟨t, q⟩ := (show ∃ t, u = Value.int i t from r); cases q; exact .of_pure rfl
  | str x => obtain ⟨t, q⟩ := (show ∃ t, u = Value.str x t from r); cases q; exact .of_pure rfl
  | @lst a xs e =>
    cases (show u = Value.ref a from r)
    obtain ⟨_, _, n, _, h1⟩ := (show ObjOk X.prog X.w H s.heap a (.lst xs) from I.hok a _ e)
    exact (PySem.W.Looks.ld h1).andThen .now
  | @tup a xs e =>
    cases (show u = Value.ref a from r)
    obtain ⟨_, _, _, o, h1, h2, _⟩ := (show ObjOk X.prog X.w H s.heap a (.tup xs) from I.hok a _ e)
    rw [← h2]
    exact (PySem.W.Looks.ld h1).andThen .now
  | @dK a kvs e =>
    cases (show u = Value.ref a from r)
    obtain ⟨_, _, vs, _, o, es, ep, h1, h2, _⟩ := (show ObjOk X.prog X.w H s.heap a (.dK kvs) from I.hok a _ e)
    rw [← h2.1]
    exact (PySem.W.Looks.ld h1).andThen .now
theorem Fo.one {x : V} {u : Value} {T : String} {op : CmpOp} {c : Addr} (h : Fo X.K H x T) (r : RelV x u) : oneThing? op u (.ref c) = none := by
  cases h with
  | non => cases (show u = Value.none from r); rfl
  | bl b => cases (show u = Value.bool b from r); rfl
  | int i => obtain ⟨t, q⟩ := (show ∃ t, u = Value.int i t from r); cases q; rfl
  | str x => obtain ⟨t, q⟩ := (show ∃ t, u = Value.str x t from r); cases q; rfl
  | @lst a xs e => cases (show u = Value.ref a from r); rfl
  | @tup a xs e => cases (show u = Value.ref a from r); rfl
  | @dK a kvs e => cases (show u = Value.ref a from r); rfl
theorem Fo.decl {A : Around} {x : V} {u : Value} {T : String} {op : CmpOp} {c C f : Addr} {ox : Obj} {od : Option Obj} (ho : OC.Is2 op) (h : Fo X.K H x T) (O : OwnT X.K C f) (I : Inv X pins σ H s) (r : RelV x u) (J : PySem.W.InstAt s.heap c ox C od) (hd : ox.data = .plain) :
    OC.Decl X.prog X.w A s op u (.ref c) := by
  cases h with
  | non => cases (show u = Value.none from r); exact OC.decl_none ho
  | bl b => cases (show u = Value.bool b from r); exact OC.decl_bool ho b J.at_ hd
  | int i => obtain ⟨t, q⟩ := (show ∃ t, u = Value.int i t from r); cases q; exact OC.decl_int ho i t J.at_ hd
  | str x => obtain ⟨t, q⟩ := (show ∃ t, u = Value.str x t from r); cases q; exact OC.decl_str ho x t J.at_ hd
  | @lst a xs e =>
    cases (show u = Value.ref a from r)
    obtain ⟨_, its, n, _, h1⟩ := (show ObjOk X.prog X.w H s.heap a (.lst xs) from I.hok a _ e)
    intro Q E hq
    rcases ho with rfl | rfl
    · exact wpAny_tryCompare_declines ⟨_, h1, rfl⟩ F.slot_list_eq (call_meets F.slot_list_eq ⟨_, h1, rfl⟩ F.entry_list_eq (F.args_list_eq_2 _ _) (OC.list_ref_eq a _ n _ _ c) ⟨fun M => OC.not_inst I.kIn J O.slst, h1, rfl, hq⟩)
    · exact wpAny_tryCompare_declines ⟨_, h1, rfl⟩ F.slot_list_ne (call_meets F.slot_list_ne ⟨_, h1, rfl⟩ F.entry_list_ne (F.args_list_ne_2 _ _) (OC.list_ref_ne a _ n _ _ c) ⟨fun M => OC.not_inst I.kIn J O.slst, h1, rfl, hq⟩)
  | @tup a xs e =>
    cases (show u = Value.ref a from r)
    obtain ⟨_, its, _, o, h1, h2, n, h3⟩ := (show ObjOk X.prog X.w H s.heap a (.tup xs) from I.hok a _ e)
    obtain ⟨oc, odd, dt, sl⟩ := o
    simp only at h2 h3
    subst h2 h3
    intro Q E hq
    rcases ho with rfl | rfl
    · exact wpAny_tryCompare_declines ⟨_, h1, rfl⟩ F.slot_tuple_eq (call_meets F.slot_tuple_eq ⟨_, h1, rfl⟩ F.entry_tuple_eq (F.args_tuple_eq_2 _ _) (OC.tup_ref_eq a _ n _ _ c) ⟨fun M => OC.not_inst I.kIn J O.stup, h1, rfl, hq⟩)
    · exact wpAny_tryCompare_declines ⟨_, h1, rfl⟩ F.slot_tuple_ne (call_meets F.slot_tuple_ne ⟨_, h1, rfl⟩ F.entry_tuple_ne (F.args_tuple_ne_2 _ _) (OC.tup_ref_ne a _ n _ _ c) ⟨fun M => OC.not_inst I.kIn J O.stup, h1, rfl, hq⟩)
  | @dK a kvs e =>
    cases (show u = Value.ref a from r)
    obtain ⟨_, _, vs, _, o, es, ep, h1, h2, _⟩ := (show ObjOk X.prog X.w H s.heap a (.dK kvs) from I.hok a _ e)
    intro Q E hq
    rcases ho with rfl | rfl
    · exact wpAny_tryCompare_declines ⟨_, h1, h2.1⟩ F.slot_dict_eq (call_meets F.slot_dict_eq ⟨_, h1, h2.1⟩ F.entry_dict_eq (F.args_dict_eq_2 _ _) (OC.dict_ref_eq a c h2) ⟨fun M => OC.not_inst I.kIn J O.sdct, h1, rfl, hq⟩)
    · exact wpAny_tryCompare_declines ⟨_, h1, h2.1⟩ F.slot_dict_ne (call_meets F.slot_dict_ne ⟨_, h1, h2.1⟩ F.entry_dict_ne (F.args_dict_ne_2 _ _) (OC.dict_ref_ne a c h2) ⟨fun M => OC.not_inst I.kIn J O.sdct, h1, rfl, hq⟩)

/-- what the own == promises: R tells its answer; nothing changes -/
def spOwn (R : Addr → V → Bool → Hp → Prop) : Sp := fun vs H Q _ => ∃ (a : Addr) (y : V) (b : Bool), vs = [.ref a, y] ∧ R a y b H ∧ Q (.bl b) H
/-- x == y, x != y, one of both an instance of the class at C -/
def rOwnB (K : PySem.W.Frag) (C : Addr) (R : Addr → V → Bool → Hp → Prop) (op : CmpOp) : R2 := fun x y H Q => ∃ b : Bool,
  ((∃ a dx fs, x = .ref a ∧ H a = some (.ins C dx fs) ∧ R a y b H ∧ ((∃ T, Fo K H y T) ∨ ∃ c dy gs, y = .ref c ∧ H c = some (.ins C dy gs))) ∨
    (∃ c dy gs T, y = .ref c ∧ H c = some (.ins C dy gs) ∧ Fo K H x T ∧ R c x b H)) ∧ Q (.bl (OC.turn op b)) H

theorem op_ownB {CX : CXT} {C f : Addr} {fd : FuncData} {ps : List Str} {n : Nat} {R : Addr → V → Bool → Hp → Prop} {E : XK} {op : CmpOp} (ho : OC.Is2 op) (F : FnOk X.prog X.w X.K X.mg X.base CX n f fd ps (spOwn R))
    (O : OwnT X.K C f) (hb : Binds X.K fd ps []) (hx : Passes CX X E) (hr : Room (n + 1) X.A) : OpR X (compareOp op) (rOwnB X.K C R op) := by
  intro pins s σ H x y v u Q I rx ry hq
  obtain ⟨b, hc, q⟩ := hq
  rw [OC.compareOp2 ho]
  have hu : X.A.units + 1 < cLine := hu_of hr
  -- the call of __eq__
  have run : ∀ (a : Addr) (y : V) (u : Value) (A' : Around), RelV y u → R a y b H → (A' = X.A ∨ A' = X.A.in1) →
      wpAny (model X.prog X.w) A' (call (.ref f) [.ref a, u]) (fun v s' => ∃ b, v = .bool b ∧ EP X pins σ Q (.bool (OC.turn op b)) s') X.xe s := by
    intro a y u A' ry hR hA
    have sb : Room n A' ∧ A'.frames = X.A.frames := by
      rcases hA with rfl | rfl
      · exact ⟨hr.mono (Nat.le_succ n), rfl⟩
      · exact ⟨hr.in1, rfl⟩
    have hsp : spOwn R [.ref a, y] H (fun v H' => v = .bl b ∧ H' = H) E := ⟨a, y, b, rfl, hR, rfl, rfl⟩
    have e0 : Env0 X.prog X.w X.K X.mg X.base A' X.stack s H := by
      have e := I.env0
      exact ⟨by rw [sb.2]; exact e.frames, e.mod, e.bs, e.bsz, e.funs, e.frf, e.hok, e.bare⟩
    have hl := F.len _ _ _ _ hsp
    have r2 : Vals [V.ref a, y] [Value.ref a, u] := .cons rfl (.cons ry .nil)
    refine wpAny_call (codeAny_mono (F.run A' X.stack s H ⟨[.ref a, u], []⟩ [.ref a, u] [.ref a, y] _ E sb.1 e0 (by
      have := hb s [.ref a, u] I.kIn (by simpa using hl)
      simpa using this) r2 hsp) fun r s' hq => ?_)
    cases r with
    | error e => exact hx pins σ H s e s' I hq
    | ok fl =>
      cases fl with
      | ret w =>
        obtain ⟨z, H', I', rz, ez, ex⟩ := I.after hq
        subst ez ex
        cases rz
        exact ⟨b, rfl, .bl (OC.turn op b), H', I', rfl, q⟩
      | next => exact False.elim hq
      | brk => exact False.elim hq
      | cont => exact False.elim hq
  rcases hc with ⟨a, dx, fs, rfl, ha, hR, hy⟩ | ⟨c, dy, gs, T, rfl, hc, hT, hR⟩
  · cases rx
    obtain ⟨mA, J, _⟩ := ins_get I.hok ha
    obtain ⟨od, J, _⟩ := J.look
    rcases hy with ⟨T, hT⟩ | ⟨c, dy, gs, rfl, hc⟩
    · exact OC.rc_left ho hu I.kIn J O.q (hT.looks I ry) hT.nf fun A' hA => run a y u A' ry hR hA
    · cases ry
      obtain ⟨mB, J', _⟩ := ins_get I.hok hc
      obtain ⟨od', J', _⟩ := J'.look
      exact OC.rc_left ho hu I.kIn J O.q J'.type (by simp [PySem.W.notFirst]) fun A' hA => run a (.ref c) _ A' rfl hR hA
  · cases ry
    obtain ⟨mA, J, _⟩ := ins_get I.hok hc
    obtain ⟨od, J, _⟩ := J.look
    exact OC.rc_right ho hu I.kIn J O.q (hT.typ I rx) (hT.sub O) (hT.one rx) (hT.decl ho O I rx J rfl) fun A' hA => run c x v A' rx hR hA
end
end L2

set_option Elab.async false
set_option linter.all false
set_option maxRecDepth 100000
set_option maxHeartbeats 4000000
namespace K8
open PySem L2
def top (i : Nat) : Stmt := PySem.Challenge.pw_bothwalks_k28_free_and_close_ties.main.body.getD i (.Pass ⟨0, 0, 0, 0⟩)

/-- a def of the text that stands, is kept and keeps its promise; nothing leaves it -/
structure Cal (P : Program) (w : World) (K : PySem.W.Frag) (mg : Str → Option Value) (base : Heap) (k : Nat) (x : Str) (ps : List Str) (sp : Sp) : Prop where
  ex : ∃ (f : Addr) (fd : FuncData), mg x = some (.ref f) ∧ PySem.W.keepIn K (.ref f) = true ∧ FnOk P w K mg base CX0 k f fd ps sp ∧ Binds K fd ps []
section
variable {X : Cx} {k : Nat} {ps : List Str} {sp : Sp} {x : Str} {p pos : Pos} {e : Expr} {es : List Expr} {t : TA}
theorem pe_cal (c : Cal X.prog X.w X.K X.mg X.base k x ps sp) (hr : Room k X.A) (hg : Gl X x) (ha : PA X (e :: es) t) (hdb : (x == ("__debug__" : Str)) = false := by decide)
    (he : starEach (e :: es) X.env = (false, eval e X.env) :: starEach es X.env := by rfl) (hpl : (backTo pos (starEach es X.env)).any (·.1) = false := by rfl) :
    PE X (.Call (.Name x p) (e :: es) [] pos) (tCall sp [] E0 t) := by
  obtain ⟨f, fd, hm, hk, F, hb⟩ := c.ex
  exact pe_call F hr hg hm hk hb .nil pass0 ha hdb he hpl
end

/-- a thing: a foreign one, or an instance of the class at C -/
inductive Thing (K : PySem.W.Frag) (C : Addr) (H : Hp) : V → Prop where
  | fo {x : V} {T : String} (h : Fo K H x T) : Thing K C H x
  | ins {a dx : Addr} {fs : List (Str × V)} (e : H a = some (.ins C dx fs)) : Thing K C H (.ref a)
def isI : V → Bool
  | .int _ => true
  | _ => false
/-- what isinstance asks of the class at C -/
structure InsT (K : PySem.W.Frag) (C : Addr) : Prop where
  cl : Cls K C
  ha : PySem.W.findIn K (.ref C) "__class__" = some (some (.builtin "object.__class__"))
  hn : PySem.W.specialIn K (.builtin "object.__class__") "__get__" = some (some (.builtin "getset_descriptor.__get__"))
  htk : PySem.W.takesIn K (.builtin "object.__class__") = some true
  hm : PySem.W.mroIn K C (.type "object") = some true
  kint : PySem.W.kitOne K (.ref C) (.type "int") = some false
  kbool : PySem.W.kitOne K (.ref C) (.type "bool") = some false
  kself : PySem.W.kitOne K (.ref C) (.ref C) = some true
  oint : PySem.W.kitOne K (.type "int") (.ref C) = some false
  obool : PySem.W.kitOne K (.type "bool") (.ref C) = some false
  onon : PySem.W.kitOne K (.type "NoneType") (.ref C) = some false
  ostr : PySem.W.kitOne K (.type "str") (.ref C) = some false
  olst : PySem.W.kitOne K (.type "list") (.ref C) = some false
  otup : PySem.W.kitOne K (.type "tuple") (.ref C) = some false
  odct : PySem.W.kitOne K (.type "dict") (.ref C) = some false
theorem InsT.ty {K : PySem.W.Frag} {C : Addr} {H : Hp} {a dx : Addr} {fs : List (Str × V)} (I : InsT K C) (e : H a = some (.ins C dx fs)) : TyX K H (.ref a) (.ref C) :=
  .base (.ins e I.cl I.ha I.hn I.htk I.hm)
theorem InsT.fo {K : PySem.W.Frag} {C : Addr} {H : Hp} {x : V} {T : String} (I : InsT K C) (h : Fo K H x T) : PySem.W.kitOne K (.type T) (.ref C) = some false := by
  cases h with
  | non => exact I.onon
  | bl b => exact I.obool
  | int i => exact I.oint
  | str x => exact I.ostr
  | lst e => exact I.olst
  | tup e => exact I.otup
  | dK e => exact I.odct
/-- isinstance(x, int) of a thing -/
def isIB : V → Bool
  | .int _ => true
  | .bl _ => true
  | _ => false
def isB : V → Bool
  | .bl _ => true
  | _ => false
theorem Thing.isInt {K : PySem.W.Frag} {C : Addr} {H : Hp} {x : V} (I : InsT K C) (h : Thing K C H x) : ∃ t, TyX K H x t ∧ PySem.W.kitOne K t (.type "int") = some (isIB x) ∧ PySem.W.kitOne K t (.type "bool") = some (isB x) := by
  cases h with
  | ins e => exact ⟨_, I.ty e, I.kint, I.kbool⟩
  | fo h =>
    refine ⟨_, h.ty, ?_⟩
    cases h with
    | non => exact ⟨by exact kit_ty (r := false) (by decide +kernel), by exact kit_ty (r := false) (by decide +kernel)⟩
    | bl b => exact ⟨by exact kit_ty (r := true) (by decide +kernel), by exact kit_ty (r := true) (by decide +kernel)⟩
    | int i => exact ⟨by exact kit_ty (r := true) (by decide +kernel), by exact kit_ty (r := false) (by decide +kernel)⟩
    | str x => exact ⟨by exact kit_ty (r := false) (by decide +kernel), by exact kit_ty (r := false) (by decide +kernel)⟩
    | lst e => exact ⟨by exact kit_ty (r := false) (by decide +kernel), by exact kit_ty (r := false) (by decide +kernel)⟩
    | tup e => exact ⟨by exact kit_ty (r := false) (by decide +kernel), by exact kit_ty (r := false) (by decide +kernel)⟩
    | dK e => exact ⟨by exact kit_ty (r := false) (by decide +kernel), by exact kit_ty (r := false) (by decide +kernel)⟩
/-- is_whole(x) -/
def spWhole (K : PySem.W.Frag) (C : Addr) : Sp := fun vs H Q _ => ∃ x, vs = [x] ∧ Thing K C H x ∧ Q (.bl (isI x)) H

/-- the built-in names that stand as they are -/
structure Bn (mg : Str → Option Value) : Prop where
  n_isinstance : mg "isinstance" = none
  n_int : mg "int" = none
  n_bool : mg "bool" = none
  n_abs : mg "abs" = none
  n_len : mg "len" = none
  n_str : mg "str" = none
  n_divmod : mg "divmod" = none
  n_ValueError : mg "ValueError" = none
section
variable {P : Program} {w : World} {K : PySem.W.Frag} {mg : Str → Option Value} {base : Heap} {C : Addr}
abbrev s_is_whole : Stmt := top 9
theorem sc_is_whole : FnScope ["thing"] ["thing"] (defScope s_is_whole) := ⟨rfl, rfl, rfl, by decide +kernel, rfl, by decide +kernel, by decide +kernel⟩
theorem ok_is_whole {f : Addr} {fd : FuncData} (F : Fun K "is_whole" "is_whole" s_is_whole f fd) (T : Bn mg) (I : InsT K C) : FnOk P w K mg base CX0 1 f fd ["thing"] (spWhole K C) := by
  refine F.ok sc_is_whole (fun vs H Q E h => ?_) (fun cdv A outer s H vs Q E hr h => ?_)
  · obtain ⟨x, rfl, _⟩ := h
    rfl
  · obtain ⟨x, rfl, h, k⟩ := h
    refine ⟨_, (pss_one (ps_ret (pe_and (pe_callB call_isi (by rfl) T.n_isinstance (by decide +kernel) (pa_cons (pv 0) (pa_cons (pe_bltn (v := .ty "int") rfl T.n_int (by decide +kernel) rfl) pa_nil))) (pe_one (pe_not (pe_callB call_isi (by rfl) T.n_isinstance (by decide +kernel) (pa_cons (pv 0) (pa_cons (pe_bltn (v := .ty "bool") rfl T.n_bool (by decide +kernel) rfl) pa_nil)))))))), ?_⟩
    obtain ⟨t, ty, k1, k2⟩ := h.isInt I
    refine ⟨_, rfl, x, .ty "int", t, _, _, rfl, .ty _, ty, k1, _, rfl, ?_⟩
    cases e : isIB x with
    | true =>
      refine iteT ⟨_, rfl, x, .ty "bool", t, _, _, rfl, .ty _, ty, k2, _, rfl, ?_⟩
      have : (!isB x) = isI x := by cases x <;> first | rfl | (simp [isIB] at e)
      rw [this]
      exact k
    | false =>
      refine iteF ?_
      have : isI x = false := by cases x <;> first | rfl | (simp [isIB] at e)
      rw [this] at k
      exact k
end
end K8

set_option Elab.async false
set_option linter.all false
set_option maxRecDepth 100000
set_option maxHeartbeats 4000000
namespace L2
open PySem PySem.Spec PyProof.Rows
/-- C.m(e, ..), C a class of the text by its global name, m a plain def of it, read off the class -/
structure ClsFn (K : PySem.W.Frag) (C : Addr) (mc : Value) (m : Str) (g : Addr) : Prop where
  rd : PySem.W.readsIn K C mc = true
  ga : PySem.W.specialIn K (.ref C) "__getattribute__" = some (some (.builtin "type.__getattribute__"))
  at_ : PySem.W.findCls K (.ref C) mc m = some (.val (.ref g))
  kp : PySem.W.keepIn K (.ref g) = true
theorem pe_clsfn {X : Cx} {CX : CXT} {k : Nat} {C g : Addr} {mc : Value} {fd : FuncData} {ps : List Str} {sp : Sp} {E : XK} {x m : Str} {p1 p2 pos : Pos} {e : Expr} {es : List Expr} {t : TA} {pl : Sem Bool}
    (c : ClsFn X.K C mc m g) (F : FnOk X.prog X.w X.K X.mg X.base CX k g fd ps sp) (hr : Room k X.A) (hg : Gl X x) (hm : X.mg x = some (.ref C)) (hb : Binds X.K fd ps []) (hx : Passes CX X E) (ha : PA X (e :: es) t) (hdb : (x == ("__debug__" : Str)) = false := by decide)
    (hc : eval (.Call (.Attribute (.Name x p1) m p2) (e :: es) [] pos) X.env = (do
      let ov ← eval (.Name x p1) X.env
      standAt p2.atName
      let (f, first) ← holding [ov] (getMethod ov m pl)
      callWith pos f first (backTo pos (starEach (e :: es) X.env)) (backToKw pos (keywordEach [] X.env))) := by rfl)
    (he : starEach (e :: es) X.env = (false, eval e X.env) :: starEach es X.env := by rfl) (hpl : (backTo pos (starEach es X.env)).any (·.1) = false := by rfl) :
    PE X (.Call (.Attribute (.Name x p1) m p2) (e :: es) [] pos) (tCall sp [] E t) := by
  refine ⟨fun pins s σ H Q I h => ?_⟩
  refine PySem.W.methodCall_KW (ld_glob I hg hm ?_ hdb) hc
  refine PySem.W.method_cls I.kIn c.ga (PySem.W.cls_value I.kIn c.rd c.at_ rfl ?_)
  have J := I.tok (s.toks + 1)
  show wpAny _ _ (callWith pos (Value.ref g) [] (backTo pos (starEach (e :: es) X.env)) []) _ _ _
  refine PySem.W.callWith_K (h₀ := X.base) J.ok.mod.kin c.kp (thn (ha.run pos pins _ σ H _ J h) fun us s1 ⟨vs, H1, I1, r, q⟩ => ⟨I1.kIn, ?_⟩) he hpl
  exact run_fn F hr hb .nil hx I1 r q
end L2
namespace K8
open PySem L2
section
variable {P : Program} {w : World} {K : PySem.W.Frag} {mg : Str → Option Value} {base : Heap}
/-- WalkError.__init__, of an exception that is being made -/
def spWE (K : PySem.W.Frag) : Sp := fun vs H Q _ => ∃ (a C : Addr) (y : V), vs = [.ref a, y] ∧ OexC K C ∧ H a = some (exo a C none) ∧ Q .non H
abbrev s_WE : Stmt := inClass (top 3) 0
theorem sc_WE : FnScope ["self", "words"] ["self", "words"] (defScope s_WE) := ⟨rfl, rfl, rfl, by decide +kernel, rfl, by decide +kernel, by decide +kernel⟩
theorem ok_WE {f : Addr} {fd : FuncData} {dvs : List V} (F : FunD K "__init__" "WalkError.__init__" (defArgs s_WE) (defBody s_WE) (defScope s_WE) dvs [] f fd) (T : Bn mg) (vV : PySem.W.findCls K (.type "ValueError") (.type "type") "__init__" = some (.val (.builtin "ValueError.__init__"))) :
    FnOk P w K mg base CX0 1 f fd ["self", "words"] (spWE K) := by
  refine F.ok sc_WE (fun vs H Q E h => ?_) (fun cdv A outer s H vs Q E hr h => ?_)
  · obtain ⟨a, C, y, rfl, _⟩ := h
    rfl
  · obtain ⟨a, C, y, rfl, O, ha, k⟩ := h
    refine ⟨_, pss_one (ps_expr (pe_veinit rfl T.n_ValueError vV (pa_cons (pv 0) (pa_cons (pv 1) pa_nil)))), ?_⟩
    exact ⟨_, rfl, _, rfl, a, C, [y], rfl, by show 1 ≤ 1000; decide, O, ha, k⟩
/-- BadShare.__init__: the two things are kept -/
def spBS (K : PySem.W.Frag) (B : Addr) : Sp := fun vs H Q _ => ∃ (a : Addr) (y z : V), vs = [.ref a, y, z] ∧ OexC K B ∧ PySem.W.findIn K (.ref B) "top" = some none ∧ PySem.W.findIn K (.ref B) "bottom" = some none ∧ H a = some (exo a B none) ∧
  ∀ dx, H dx = none → dx ≠ a → Q .non (upd (upd (upd H dx (exd dx [("top", y)])) a (exo a B (some dx))) dx (exd dx [("bottom", z), ("top", y)]))
abbrev s_BS : Stmt := inClass (top 4) 0
theorem sc_BS : FnScope ["self", "top", "bottom"] ["self", "top", "bottom"] (defScope s_BS) := ⟨rfl, rfl, rfl, by decide +kernel, rfl, by decide +kernel, by decide +kernel⟩
theorem ok_BS {f g W B : Addr} {mc : Value} {fd fdW : FuncData} (F : Fun K "__init__" "BadShare.__init__" s_BS f fd) (gW : mg "WalkError" = some (.ref W)) (c : ClsFn K W mc "__init__" g) (FW : FnOk P w K mg base CX0 1 g fdW ["self", "words"] (spWE K)) (bW : Binds K fdW ["self", "words"] []) :
    FnOk P w K mg base CX0 2 f fd ["self", "top", "bottom"] (spBS K B) := by
  refine F.ok sc_BS (fun vs H Q E h => ?_) (fun cdv A outer s H vs Q E hr h => ?_)
  · obtain ⟨a, y, z, rfl, _⟩ := h
    rfl
  · obtain ⟨a, y, z, rfl, O, nt, nb, ha, k⟩ := h
    refine ⟨_, pss_cons (ps_expr (pe_clsfn c FW hr rfl gW bW pass0 (pa_cons (pv 0) (pa_cons pe_str pa_nil))))
      (pss_cons (ps_ost (pv 0) (pv 1)) (pss_one (ps_ost (pv 0) (pv 2)))), ?_⟩
    refine ⟨_, rfl, a, B, _, rfl, O, ha, ?_⟩
    refine ⟨_, rfl, _, rfl, a, B, rfl, O, nt, .inl ⟨ha, fun dx hd ne => ?_⟩⟩
    refine ⟨_, rfl, _, rfl, a, B, rfl, O, nb, .inr ⟨dx, [("top", y)], upd_same, ?_, by show 1 ≤ 900; decide, ?_⟩⟩
    · rw [upd_ne ne, upd_same]
    · exact k dx hd ne
end
end K8

set_option Elab.async false
set_option linter.all false
set_option maxRecDepth 100000
set_option maxHeartbeats 4000000
namespace L2
open PySem PySem.Spec PyProof.Rows
/-- // by any divisor but 0 below 2 ^ 9000 -/
def CDivG (_ j : Int) : Prop := j ≠ 0 ∧ j.natAbs.log2 < 9000
theorem op_fdivG {X : Cx} : OpR X (binaryOp .FloorDiv) (rI CDivG fun i j => .int (i.fdiv j)) := opI fun _ _ _ _ _ _ _ hc q => floordiv_int hc.1 q (.inl (PyProof.noPylong_of_log2 hc.2))
end L2
namespace K8
open PySem L2
/-! ### a share's numbers -/
theorem kTB : ¬ (("top" : Str) = "bottom") := by decide +kernel
def shF (t n : Int) : List (Str × V) := putF "bottom" (.int n) (putF "top" (.int t) [])
theorem shF_top (t n : Int) : (shF t n).lookup ("top" : Str) = some (.int t) := by
  unfold shF
  rw [lookup_putF, if_neg kTB, lookup_putF, if_pos rfl]
theorem shF_bottom (t n : Int) : (shF t n).lookup ("bottom" : Str) = some (.int n) := by
  unfold shF
  rw [lookup_putF, if_pos rfl]
theorem shF_len (t n : Int) : (shF t n).length ≤ 2 := by
  unfold shF
  have h1 := length_putF ("top" : Str) (V.int t) []
  have h2 := length_putF ("bottom" : Str) (V.int n) (putF "top" (.int t) [])
  have h3 : ([] : List (Str × V)).length = 0 := rfl
  omega
/-- the divisor: the greatest common one, with the bottom's sign -/
def sg (a b : Int) : Int := if 0 < b then ((Nat.gcd a.natAbs b.natAbs : Nat) : Int) else -((Nat.gcd a.natAbs b.natAbs : Nat) : Int)
def lowT (a b : Int) : Int := a.fdiv (sg a b)
def lowB (a b : Int) : Int := b.fdiv (sg a b)
theorem sg_abs (a b : Int) : (sg a b).natAbs = Nat.gcd a.natAbs b.natAbs := by
  unfold sg
  split
  · exact Int.natAbs_natCast _
  · rw [Int.natAbs_neg]
    exact Int.natAbs_natCast _
theorem gcd_pos {a b : Int} (hb : b ≠ 0) : 0 < Nat.gcd a.natAbs b.natAbs := Nat.gcd_pos_of_pos_right _ (Int.natAbs_pos.mpr hb)
theorem gcd_le {a b : Int} (hb : b ≠ 0) : Nat.gcd a.natAbs b.natAbs ≤ b.natAbs := Nat.gcd_le_right _ (Int.natAbs_pos.mpr hb)
theorem sg_ne {a b : Int} (hb : b ≠ 0) : sg a b ≠ 0 := fun z => by
  have h := sg_abs a b
  rw [z] at h
  have := gcd_pos (a := a) hb
  have h0 : (0 : Int).natAbs = 0 := rfl
  omega
theorem log2_mono {m n : Nat} (h : m ≤ n) : m.log2 ≤ n.log2 := by
  by_cases hm : m = 0
  · subst hm
    exact Nat.zero_le _
  · have hn : n ≠ 0 := by omega
    exact (Nat.le_log2 hn).mpr (Nat.le_trans (Nat.log2_self_le hm) h)
theorem sg_div {a b : Int} (hb : b ≠ 0) (hl : b.natAbs.log2 < 9000) (i : Int) : CDivG i (sg a b) :=
  ⟨sg_ne hb, by rw [sg_abs]; exact Nat.lt_of_le_of_lt (log2_mono (gcd_le hb)) hl⟩
/-! ### Share.__init__ -/
def bad (p q : V) : Prop := isI p = false ∨ isI q = false ∨ q = .int 0
def xF (p q : V) : List (Str × V) := [("bottom", q), ("top", p)]
def spSI (K : PySem.W.Frag) (C B : Addr) : Sp := fun vs H Q E => ∃ (x dx : Addr) (p q : V), vs = [.ref x, p, q] ∧ H x = some (.ins C dx []) ∧ Thing K C H p ∧ Thing K C H q ∧
  ((∃ a b : Int, p = .int a ∧ q = .int b ∧ b ≠ 0 ∧ b.natAbs.log2 < 9000 ∧ Q .non (upd H x (.ins C dx (shF (lowT a b) (lowB a b))))) ∨
    (bad p q ∧ ∀ (d : Addr) (H' : Hp), H d = none → Same H H' → H' d = some (.xd (xF p q)) → E (.ref B) (some d) H'))
/-- what the walk asks of the class Share -/
structure ShT (K : PySem.W.Frag) (mg : Str → Option Value) (C : Addr) : Prop where
  bn : Bn mg
  it : InsT K C
  nT : NoAttr K C "top"
  nB : NoAttr K C "bottom"
  g_gcd : mg "gcd" = some (.builtin "math.gcd")
  g_Share : mg "Share" = some (.ref C)
/-- .. of the class BadShare -/
structure BsT (P : Program) (w : World) (K : PySem.W.Frag) (mg : Str → Option Value) (base : Heap) (B : Addr) : Prop where
  O : OexC K B
  nt : PySem.W.findIn K (.ref B) "top" = some none
  nb : PySem.W.findIn K (.ref B) "bottom" = some none
  gB : mg "BadShare" = some (.ref B)
  made : ∃ (fI : Addr) (fd : FuncData), PySem.W.findIn K (.ref B) "__init__" = some (some (.ref fI)) ∧ PySem.W.typeIn K (.ref fI) = some (.type "function") ∧ FnOk P w K mg base CX0 2 fI fd ["self", "top", "bottom"] (spBS K B) ∧ Binds K fd ["self", "top", "bottom"] []
section
variable {P : Program} {w : World} {K : PySem.W.Frag} {mg : Str → Option Value} {base : Heap} {C B : Addr}
theorem iteB {c : Bool} {A B : Prop} (h1 : c = true → A) (h2 : c = false → B) : if c = true then A else B := by
  cases c
  · rw [if_neg (by decide)]
    exact h2 rfl
  · rw [if_pos rfl]
    exact h1 rfl
/-- the exception's dict behind the call of its class -/
theorem bs_end {H : Hp} {a dx : Addr} {p q : V} {B : Addr} (ha : H a = none) (hd : (upd H a (exo a B none)) dx = none) (ne : dx ≠ a) :
    Same H (upd (L2.del (upd (upd (upd (upd H a (exo a B none)) dx (exd dx [("top", p)])) a (exo a B (some dx))) dx (exd dx (xF p q))) a) dx (.xd (xF p q))) := fun b o h => by
  have nb : b ≠ a := ne_of_none h ha
  have nd : b ≠ dx := fun z => by rw [upd_ne ne] at hd; rw [z, hd] at h; cases h
  rw [upd_ne nd, del_ne nb, upd_ne nd, upd_ne nb, upd_ne nd, upd_ne nb]
  exact h
theorem isI_int {p : V} (h : isI p = true) : ∃ a, p = .int a := by cases p <;> first | exact ⟨_, rfl⟩ | cases h
abbrev s_SI : Stmt := inClass (top 22) 0
theorem sc_SI : FnScope ["self", "top", "bottom", "common"] ["self", "top", "bottom"] (defScope s_SI) := ⟨rfl, rfl, rfl, by decide +kernel, rfl, by decide +kernel, by decide +kernel⟩
theorem ok_SI {f : Addr} {fd : FuncData} {dvs : List V} (F : FunD K "__init__" "Share.__init__" (defArgs s_SI) (defBody s_SI) (defScope s_SI) dvs [] f fd) (T : ShT K mg C) (Bt : BsT P w K mg base B) (c_is_whole : Cal P w K mg base 1 "is_whole" ["thing"] (spWhole K C)) :
    FnOk P w K mg base (L2.CX P w) 4 f fd ["self", "top", "bottom"] (spSI K C B) := by
  obtain ⟨fI, fdI, iC, tI, FI, bI⟩ := Bt.made
  refine F.ok sc_SI (fun vs H Q E h => ?_) (fun cdv A outer s H vs Q E hr h => ?_)
  · obtain ⟨x, dx, p, q, rfl, _⟩ := h
    rfl
  · obtain ⟨x, dx, p, q, rfl, hx, hp, hq, k⟩ := h
    refine ⟨_, (pss_cons (ps_if (PW.pt (pw_or (pt_not (pt_val (pe_cal c_is_whole (hr.mono (by decide)) rfl (pa_cons (pv 1) pa_nil)))) (pw_or (pt_not (pt_val (pe_cal c_is_whole (hr.mono (by decide)) rfl (pa_cons (pv 2) pa_nil)))) (pw_or1 (pt_cmpR op_eq (pv 2) pe_int (nomark _))))))
        (pss_one (ps_raise (W := fun cls d _ H => E cls d H) rfl (takes_of rfl rfl rfl rfl) (pmk_oex Bt.O iC tI FI hr bI .nil pass0 rfl Bt.gB (pa_cons (pv 1) (pa_cons (pv 2) pa_nil)))))
        pss_nil)
      (pss_cons (ps_set (i := 3) sc_SI.nd rfl (Or.inl rfl) (pe_ifExp (pt_cmpR op_gt (pv 2) pe_int (nomark _)) (pe_callBfun cr_gcd rfl T.g_gcd (pa_cons (pv 1) (pa_cons (pv 2) pa_nil))) (pe_un un_neg (pe_callBfun cr_gcd rfl T.g_gcd (pa_cons (pv 1) (pa_cons (pv 2) pa_nil))))))
      (pss_cons (ps_fld (pv 0) (pe_op op_fdivG (pv 1) (pv 3)) rfl)
      (pss_one (ps_fld (pv 0) (pe_op op_fdivG (pv 2) (pv 3)) rfl))))), ?_⟩
    -- BadShare(top, bottom)
    have raise : bad p q → ∀ (σ : St), σ[1]? = some (some p) → σ[2]? = some (some q) →
        tMkO B (spBS K B) [] (tCons (tVar 1) (tCons (tVar 2) tNil)) σ H (fun cls d H' => E cls d H') := by
      intro hb σ h1 h2
      rcases k with ⟨a, b, rfl, rfl, nz, _⟩ | ⟨_, k⟩
      · rcases hb with z | z | z
        · cases z
        · cases z
        · exact absurd (V.int.inj z) nz
      · refine ⟨p, h1, q, h2, by show 2 ≤ 1000; decide, fun a ha => ?_⟩
        refine ⟨a, p, q, rfl, Bt.O, Bt.nt, Bt.nb, upd_same, fun d hd ne => ⟨rfl, d, xF p q, ?_, upd_same, ?_, ?_⟩⟩
        · rw [upd_ne ne.symm, upd_same]
        · rw [upd_ne ne] at hd
          exact hd
        · refine k d _ ?_ (bs_end ha hd ne) upd_same
          rw [upd_ne ne] at hd
          exact hd
    refine ⟨_, rfl, p, rfl, hp, _, rfl, iteB (fun z => ?_) (fun z => ?_)⟩
    · refine iteT (raise (.inl ?_) _ rfl rfl)
      simpa using z
    · refine ⟨_, rfl, q, rfl, hq, _, rfl, iteB (fun z2 => ?_) (fun z2 => ?_)⟩
      · refine iteT (raise (.inr (.inl ?_)) _ rfl rfl)
        simpa using z2
      · obtain ⟨a, rfl⟩ := isI_int (p := p) (by simpa using z)
        obtain ⟨b, rfl⟩ := isI_int (p := q) (by simpa using z2)
        refine ⟨_, rfl, rfl, _, rfl, ?_⟩
        refine ite2 (fun e => ?_) (fun e => ?_)
        · have e' : V.int b = V.int 0 := of_decide_eq_true e
          exact raise (.inr (.inr e')) _ rfl rfl
        · have nz : b ≠ 0 := fun z => e (by rw [z]; exact decide_eq_true rfl)
          rcases k with ⟨a', b', ea, eb, _, hl, k⟩ | ⟨hb, _⟩
          · cases ea
            cases eb
            -- common
            refine ⟨_, rfl, _, _, rfl, rfl, _, rfl, ?_⟩
            have rest : ∀ c : Int, c = sg a b → (tSeq (sFld K (tVar 0) (tOp (rI CDivG fun i j => .int (i.fdiv j)) (tVar 1) (tVar 3)) "top") (sFld K (tVar 0) (tOp (rI CDivG fun i j => .int (i.fdiv j)) (tVar 2) (tVar 3)) "bottom"))
                { nx := fun _ H' => Q .non H', rt := Q } [some (.ref x), some (.int a), some (.int b), some (.int c)] H := by
              rintro c rfl
              refine ⟨_, rfl, _, rfl, a, sg a b, rfl, rfl, sg_div nz hl a, ?_⟩
              refine ⟨_, rfl, x, C, dx, [], rfl, hx, T.it.cl, T.nT, by show 0 < 1000; decide, ?_⟩
              refine ⟨_, rfl, _, rfl, b, sg a b, rfl, rfl, sg_div nz hl b, ?_⟩
              refine ⟨_, rfl, x, C, dx, _, rfl, upd_same, T.it.cl, T.nB, by show 1 < 1000; decide, ?_⟩
              rw [upd_upd]
              exact k
            refine ite2 (fun e2 => ?_) (fun e2 => ?_)
            · refine ⟨_, rfl, _, rfl, a, b, rfl, ?_⟩
              refine rest _ ?_
              unfold sg
              rw [if_pos (of_decide_eq_true e2)]
            · refine ⟨_, rfl, _, rfl, a, b, rfl, _, rfl, ?_⟩
              refine rest _ ?_
              unfold sg
              rw [if_neg (fun z => e2 (decide_eq_true z))]
          · rcases hb with z | z | z
            · cases z
            · cases z
            · exact absurd (V.int.inj z) nz
end
end K8

set_option Elab.async false
set_option linter.all false
set_option maxRecDepth 100000
set_option maxHeartbeats 4000000
namespace K8
open PySem L2
/-- == of a share at a and y -/
def EqS (K : PySem.W.Frag) (C : Addr) (a : Addr) (y : V) (b : Bool) (H : Hp) : Prop := ∃ (dx : Addr) (t n : Int), H a = some (.ins C dx (shF t n)) ∧
  ((∃ (c dy : Addr) (t' n' : Int), y = .ref c ∧ H c = some (.ins C dy (shF t' n')) ∧ b = (decide (V.int t = V.int t') && decide (V.int n = V.int n'))) ∨
    (∃ T, Fo K H y T) ∧ b = (isI y && (decide (V.int n = V.int 1) && decide (V.int t = y))))
theorem app_len (x y : Str) : (x ++ y).length = x.length + y.length := by
  show (x.cps ++ y.cps).size = x.cps.size + y.cps.size
  exact Array.size_append
theorem Fo.notIns {K : PySem.W.Frag} {H : Hp} {a dx C : Addr} {fs : List (Str × V)} {T : String} (h : Fo K H (.ref a) T) (e : H a = some (.ins C dx fs)) : False := by
  cases h with
  | lst h => rw [h] at e; cases e
  | tup h => rw [h] at e; cases e
  | dK h => rw [h] at e; cases e
section
variable {P : Program} {w : World} {K : PySem.W.Frag} {mg : Str → Option Value} {base : Heap} {C B : Addr}
abbrev s_eq : Stmt := inClass (top 22) 8
theorem sc_eq : FnScope ["self", "other"] ["self", "other"] (defScope s_eq) := ⟨rfl, rfl, rfl, by decide +kernel, rfl, by decide +kernel, by decide +kernel⟩
theorem ok_eq {f : Addr} {fd : FuncData} (F : Fun K "__eq__" "Share.__eq__" s_eq f fd) (T : ShT K mg C) (c_is_whole : Cal P w K mg base 1 "is_whole" ["thing"] (spWhole K C)) :
    FnOk P w K mg base CX0 2 f fd ["self", "other"] (spOwn (EqS K C)) := by
  refine F.ok sc_eq (fun vs H Q E h => ?_) (fun cdv A outer s H vs Q E hr h => ?_)
  · obtain ⟨a, y, b, rfl, _⟩ := h
    rfl
  · obtain ⟨a, y, b, rfl, ⟨dx, t, n, ha, hy⟩, k⟩ := h
    refine ⟨_, (pss_cons (ps_if (pt_val (pe_callB call_isi (by rfl) T.bn.n_isinstance (by decide +kernel) (pa_cons (pv 1) (pa_cons (pe_glob (v := .ref C) rfl T.g_Share rfl) pa_nil))))
        (pss_one (ps_ret (pe_and (pe_cmpR op_eq (pe_fld (pv 0) rfl) (pe_fld (pv 1) rfl) (nomark _)) (pe_one (pe_cmpR op_eq (pe_fld (pv 0) rfl) (pe_fld (pv 1) rfl) (nomark _))))))
        pss_nil)
      (pss_one (ps_ret (pe_and (pe_cal c_is_whole (hr.mono (by decide)) rfl (pa_cons (pv 1) pa_nil)) (pe_and (pe_cmpR op_eq (pe_fld (pv 0) rfl) pe_int (nomark _)) (pe_one (pe_cmpR op_eq (pe_fld (pv 0) rfl) (pv 1) (nomark _)))))))), ?_⟩
    rcases hy with ⟨c, dy, t', n', rfl, hc, rfl⟩ | ⟨⟨T', hT⟩, rfl⟩
    · refine ⟨_, rfl, .ref c, .ref C, _, _, true, rfl, .own C, T.it.ty hc, T.it.kself, _, rfl, iteT ?_⟩
      refine ⟨_, rfl, a, C, dx, _, _, rfl, ha, T.it.cl, T.nT, shF_top _ _, _, rfl, c, C, dy, _, _, rfl, hc, T.it.cl, T.nT, shF_top _ _, rfl, _, rfl, iteB (fun z => ?_) (fun z => ?_)⟩
      · refine ⟨_, rfl, a, C, dx, _, _, rfl, ha, T.it.cl, T.nB, shF_bottom _ _, _, rfl, c, C, dy, _, _, rfl, hc, T.it.cl, T.nB, shF_bottom _ _, rfl, ?_⟩
        rw [z, Bool.true_and] at k
        exact k
      · rw [z, Bool.false_and] at k
        exact k
    · refine ⟨_, rfl, y, .ref C, _, _, false, rfl, .own C, hT.ty, T.it.fo hT, _, rfl, iteF ?_⟩
      refine ⟨_, rfl, y, rfl, .fo hT, _, rfl, iteB (fun z => ?_) (fun z => ?_)⟩
      · rw [z, Bool.true_and] at k
        obtain ⟨i, rfl⟩ := isI_int z
        refine ⟨_, rfl, a, C, dx, _, _, rfl, ha, T.it.cl, T.nB, shF_bottom _ _, rfl, _, rfl, iteB (fun z => ?_) (fun z => ?_)⟩
        · refine ⟨_, rfl, a, C, dx, _, _, rfl, ha, T.it.cl, T.nT, shF_top _ _, _, rfl, rfl, ?_⟩
          rw [z, Bool.true_and] at k
          exact k
        · rw [z, Bool.false_and] at k
          exact k
      · rw [z, Bool.false_and] at k
        exact k
end
end K8

set_option Elab.async false
set_option linter.all false
set_option maxRecDepth 100000
set_option maxHeartbeats 4000000
namespace K8
open PySem L2
/-! ### the pool of the draws -/
/-- its list: a number below 2 ^ 64, and what is left of the greatest cell -/
def PoolL (o : HO) : Prop := ∃ n g : Int, o = .lst [.int n, .int g] ∧ 0 ≤ n ∧ n < 2 ^ 64 ∧ 0 ≤ g
def PoolAt (H : Hp) (a : Addr) : Prop := ∃ o, H a = some o ∧ PoolL o
theorem PoolAt.put {H : Hp} {a : Addr} {o : HO} (h : PoolL o) : PoolAt (upd H a o) a := ⟨o, upd_same, h⟩
/-- all that was tracked, but the pool, stands -/
def Keep (a : Addr) (H H' : Hp) : Prop := ∀ b o, H b = some o → b ≠ a → H' b = some o
theorem Keep.refl (a : Addr) (H : Hp) : Keep a H H := fun _ _ h _ => h
theorem Keep.trans {a : Addr} {H H1 H2 : Hp} (x : Keep a H H1) (y : Keep a H1 H2) : Keep a H H2 := fun b o h n => y b o (x b o h n) n
theorem Keep.put {a : Addr} {H : Hp} (o : HO) : Keep a H (upd H a o) := fun b u h n => by rw [upd_ne n]; exact h
theorem Keep.of {a : Addr} {H H' : Hp} (s : Same H H') : Keep a H H' := fun b o h _ => s b o h
theorem Same.put {H : Hp} {p : Addr} {o : HO} (h : H p = none) : Same H (upd H p o) := fun b u e => by rw [upd_ne (ne_of_none e h)]; exact e
theorem PoolAt.new {H : Hp} {a p : Addr} {o : HO} (h : PoolAt H a) (hp : H p = none) : PoolAt (upd H p o) a := by
  obtain ⟨u, e, q⟩ := h
  exact ⟨u, by rw [upd_ne (ne_of_none e hp)]; exact e, q⟩
theorem PoolAt.same {H H' : Hp} {a : Addr} (h : PoolAt H a) (s : Same H H') : PoolAt H' a := by
  obtain ⟨u, e, q⟩ := h
  exact ⟨u, s _ _ e, q⟩
theorem PoolAt.ne {H : Hp} {a b : Addr} {xs : List V} (h : PoolAt H a) (e : H b = some (.tup xs)) : b ≠ a := fun z => by
  obtain ⟨u, e2, n, g, q, _⟩ := h
  rw [z, e2, q] at e
  cases e
theorem PoolAt.nei {H : Hp} {a b C dx : Addr} {fs : List (Str × V)} (h : PoolAt H a) (e : H b = some (.ins C dx fs)) : b ≠ a := fun z => by
  obtain ⟨u, e2, n, g, q, _⟩ := h
  rw [z, e2, q] at e
  cases e
theorem SqT.put {K : PySem.W.Frag} {H : Hp} {a t : Addr} {xs : List V} {o : HO} (h : PoolAt H a) (s : SqT K H t xs) : SqT K (upd H a o) t xs := by
  obtain ⟨u, e2, n, g, q, _⟩ := h
  rcases s with (s | ⟨ob, s⟩) | s
  · refine .inl (.inl ?_)
    rw [upd_ne (fun z => by rw [z, e2, q] at s; cases s)]
    exact s
  · refine .inl (.inr ⟨ob, ?_⟩)
    rw [upd_ne (fun z => by rw [z, e2, q] at s; cases s)]
    exact s
  · exact .inr s
/-- the next number of the pool -/
def nextN (n : Int) : Int := ((n + 7919) * 6364136223846793005 + 1442695040888963407).fmod ((2 : Int) ^ (64 : Int).toNat)
theorem nextN_ok (n : Int) : 0 ≤ nextN n ∧ nextN n < 2 ^ 64 := by
  have e2 : ((2 : Int) ^ (64 : Int).toNat) = 18446744073709551616 := by decide +kernel
  unfold nextN
  rw [e2, Int.fmod_eq_emod_of_nonneg _ (by decide)]
  exact ⟨Int.emod_nonneg _ (by decide), Int.emod_lt_of_pos _ (by decide)⟩
def spDraw : Sp := fun vs H Q _ => ∃ (a : Addr) (m : Int), vs = [.ref a, .int m] ∧ PoolAt H a ∧ 0 < m ∧ m.natAbs.log2 < 9000 ∧ ∀ (r : Int) (o : HO), 0 ≤ r → r < m → PoolL o → Q (.int r) (upd H a o)
def spPick (K : PySem.W.Frag) : Sp := fun vs H Q _ => ∃ (a t : Addr) (xs : List V), vs = [.ref a, .ref t] ∧ PoolAt H a ∧ SqT K H t xs ∧ 0 < xs.length ∧ xs.length < 1000 ∧ ∀ (x : V) (o : HO), x ∈ xs → PoolL o → Q x (upd H a o)
theorem log_small {m : Int} {b : Nat} (h : m.natAbs < 2 ^ b) (h0 : 0 < b) (hb : b ≤ 9000) : m.natAbs.log2 < 9000 := Nat.lt_of_lt_of_le (PySem.Flt.log2_lt_of h0 h) hb
theorem at0 {x y : V} : atI [x, y] 0 = some x := by
  have h : ([x, y] : List V)[0]? = some x := rfl
  exact atI_nat h
theorem at1 {x y : V} : atI [x, y] 1 = some y := by
  have h : ([x, y] : List V)[1]? = some y := rfl
  exact atI_nat h
section
variable {P : Program} {w : World} {K : PySem.W.Frag} {mg : Str → Option Value} {base : Heap} {C B : Addr}
abbrev s_draw : Stmt := top 49
theorem sc_draw : FnScope ["_law_pool_here", "_law_many", "_law_digit"] ["_law_pool_here", "_law_many"] (defScope s_draw) := ⟨rfl, rfl, rfl, by decide +kernel, rfl, by decide +kernel, by decide +kernel⟩
theorem ok_draw {f : Addr} {fd : FuncData} (F : Fun K "_law_draw" "_law_draw" s_draw f fd) (T : Bn mg) : FnOk P w K mg base CX0 1 f fd ["_law_pool_here", "_law_many"] spDraw := by
  refine F.ok sc_draw (fun vs H Q E h => ?_) (fun cdv A outer s H vs Q E hr h => ?_)
  · obtain ⟨a, m, rfl, _⟩ := h
    rfl
  · obtain ⟨a, m, rfl, ⟨_, ha, n, g, rfl, n0, n1, g0⟩, m0, ml, k⟩ := h
    have ia : ∀ {H' : Hp} {n g : Int}, H' a = some (.lst [.int n, .int g]) → SqL K H' a [.int n, .int g] := fun h => SqL.of h
    refine ⟨_, (pss_cons (ps_if (pt_cmpR op_ge (pe_ix ix_list (pv 0) pe_int (fun _ _ => rfl)) (pe_op op_pow pe_int pe_int) (nomark _))
        (pss_cons (ps_set (i := 2) sc_draw.nd rfl (Or.inl rfl) (pe_op op_modN (pe_callTy call_int1 (by rfl) T.n_int (by decide +kernel) (pa_cons (pe_ix ix_list (pv 0) pe_int (fun _ _ => rfl)) pa_nil)) (pv 1)))
          (pss_cons (ps_asg (pe_op op_fdivW (pe_ix ix_list (pv 0) pe_int (fun _ _ => rfl)) (pv 1)) (pg_sub (pv 0) pe_int set_list))
          (pss_one (ps_ret (pv 2)))))
        pss_nil)
      (pss_cons (ps_asg (pe_op op_modN (pe_callTy call_int1 (by rfl) T.n_int (by decide +kernel) (pa_cons (pe_op op_add (pe_op op_mul (pe_callTy call_int1 (by rfl) T.n_int (by decide +kernel) (pa_cons (pe_op op_add (pe_ix ix_list (pv 0) pe_int (fun _ _ => rfl)) pe_int) pa_nil)) pe_int) pe_int) pa_nil)) (pe_op op_pow pe_int pe_int)) (pg_sub (pv 0) pe_int set_list))
      (pss_one (ps_ret (pe_op op_modN (pe_callTy call_int1 (by rfl) T.n_int (by decide +kernel) (pa_cons (pe_op op_fdivW (pe_ix ix_list (pv 0) pe_int (fun _ _ => rfl)) pe_int) pa_nil)) (pv 1)))))), ?_⟩
    refine ⟨_, rfl, a, _, 1, _, rfl, rfl, ia ha, at1, 10, 9, rfl, rfl, ⟨by decide, by decide, by decide⟩, g, _, rfl, rfl, _, rfl, ite2 (fun e => ?_) (fun e => ?_)⟩
    · refine ⟨_, rfl, a, _, 1, _, rfl, rfl, ia ha, at1, .inl ⟨g, rfl, _, rfl, g, m, rfl, rfl, by omega, ?_⟩⟩
      refine ⟨_, rfl, a, _, 1, _, rfl, rfl, ia ha, at1, _, rfl, g, m, rfl, rfl, ⟨m0, ml⟩, ?_⟩
      refine ⟨_, rfl, a, _, 1, 1, rfl, rfl, ha, rfl, _, rfl, ?_⟩
      have e1 : g.fmod m = g % m := Int.fmod_eq_emod_of_nonneg g (by omega)
      show Q (.int (g.fmod m)) (upd H a (.lst [.int n, .int (g / m)]))
      rw [e1]
      exact k _ _ (Int.emod_nonneg g (by omega)) (Int.emod_lt_of_pos g m0) ⟨n, g / m, rfl, n0, n1, Int.ediv_nonneg g0 (by omega)⟩
    · refine ⟨_, rfl, a, _, 0, _, rfl, rfl, ia ha, at0, n, 7919, rfl, rfl, .inl ⟨n + 7919, rfl, _, _, rfl, rfl, .inr ⟨by decide, by decide⟩, _, _, rfl, rfl, .inl ⟨_, rfl, ?_⟩⟩⟩
      refine ⟨2, 64, rfl, rfl, ⟨by decide, by decide, by decide⟩, _, _, rfl, rfl, (by show ((2 : Int) ^ (64 : Int).toNat) ≠ 0; decide +kernel), ?_⟩
      refine ⟨_, rfl, a, _, 0, 0, rfl, rfl, ha, rfl, ?_⟩
      obtain ⟨z0, z1⟩ := nextN_ok n
      refine ⟨_, rfl, a, _, 0, _, rfl, rfl, ia (n := nextN n) (g := g) upd_same, at0, nextN n, 65536, rfl, rfl, ⟨by decide, by decide⟩, .inl ⟨_, rfl, _, rfl, _, m, rfl, rfl, by omega, ?_⟩⟩
      have e1 : (nextN n / 65536).fmod m = (nextN n / 65536) % m := Int.fmod_eq_emod_of_nonneg _ (by omega)
      show Q (.int ((nextN n / 65536).fmod m)) (upd H a (.lst [.int (nextN n), .int g]))
      rw [e1]
      exact k _ _ (Int.emod_nonneg _ (by omega)) (Int.emod_lt_of_pos _ m0) ⟨nextN n, g, rfl, z0, z1, g0⟩
abbrev s_pick : Stmt := top 54
theorem sc_pick : FnScope ["_law_pool_here", "_law_things"] ["_law_pool_here", "_law_things"] (defScope s_pick) := ⟨rfl, rfl, rfl, by decide +kernel, rfl, by decide +kernel, by decide +kernel⟩
theorem ok_pick {f : Addr} {fd : FuncData} (F : Fun K "_law_pick" "_law_pick" s_pick f fd) (T : Bn mg) (c_draw : Cal P w K mg base 1 "_law_draw" ["_law_pool_here", "_law_many"] spDraw) :
    FnOk P w K mg base CX0 2 f fd ["_law_pool_here", "_law_things"] (spPick K) := by
  refine F.ok sc_pick (fun vs H Q E h => ?_) (fun cdv A outer s H vs Q E hr h => ?_)
  · obtain ⟨a, t, xs, rfl, _⟩ := h
    rfl
  · obtain ⟨a, t, xs, rfl, hp, ht, h0, h1, k⟩ := h
    refine ⟨_, (pss_one (ps_ret (pe_ix ix_tup (pv 1) (pe_cal c_draw (hr.mono (by decide)) rfl (pa_cons (pv 0) (pa_cons (pe_callB call_len_seq (by rfl) T.n_len PySem.boot_len (pa_cons (pv 1) pa_nil)) pa_nil))) (fun _ _ => rfl)))), ?_⟩
    refine ⟨_, rfl, _, rfl, _, rfl, t, xs, rfl, .inr ht, a, _, rfl, hp, by omega, ?_, fun r o r0 r1 ho => ?_⟩
    · exact log_small (b := 10) (by show ((xs.length : Int)).natAbs < 2 ^ 10; rw [Int.natAbs_natCast]; omega) (by decide) (by decide)
    · have hlt : r.toNat < xs.length := by omega
      refine ⟨t, xs, r, xs[r.toNat], rfl, rfl, SqT.put hp ht, ?_, ?_⟩
      · have h := atI_nat (xs := xs) (j := r.toNat) (v := xs[r.toNat]) (by simp [hlt])
        rw [Int.toNat_of_nonneg r0] at h
        exact h
      · exact k _ _ (List.getElem_mem hlt) ho
end
end K8

set_option Elab.async false
set_option linter.all false
set_option maxRecDepth 100000
set_option maxHeartbeats 4000000
namespace K8
open PySem L2
theorem take_more {α : Type} : ∀ {l : List α} {i : Nat} {x : α}, l[i]? = some x → l.take (i + 1) = l.take i ++ [x]
  | [], i, x, h => by simp at h
  | a :: l, 0, x, h => by
    have e : a = x := Option.some.inj h
    subst e
    rfl
  | a :: l, i + 1, x, h => by
    have ih := take_more (l := l) (i := i) (x := x) h
    show a :: l.take (i + 1) = a :: l.take i ++ [x]
    rw [ih]
    rfl
theorem at_map {ms : List Int} {i : Nat} {x : V} (h : (ms.map V.int)[i]? = some x) : ∃ z, ms[i]? = some z ∧ x = .int z := by
  rw [List.getElem?_map] at h
  cases e : ms[i]? with
  | none => rw [e] at h; cases h
  | some z => rw [e] at h; exact ⟨z, rfl, (Option.some.inj h).symm⟩
theorem cut_map (ns : List Int) (lo hi : Option Int) : ∃ ms : List Int, cutV (ns.map V.int) lo hi = ms.map V.int ∧ ms.length ≤ ns.length := by
  refine ⟨(ns.drop (HT.sIx (ns.map V.int).length 0 lo)).take (HT.sIx (ns.map V.int).length (ns.map V.int).length hi - HT.sIx (ns.map V.int).length 0 lo), ?_, ?_⟩
  · unfold cutV
    rw [List.map_take, List.map_drop]
  · rw [List.length_take, List.length_drop]
    omega
theorem yes_of {σ : St} {H : Hp} {A B : Hp → Prop} (h : A H) : tYes σ H (fun b H3 => if b = true then A H3 else B H3) := by
  show (if true = true then A H else B H)
  rw [if_pos rfl]
  exact h
def spPool (K : PySem.W.Frag) : Sp := fun vs H Q _ => ∃ (a : Addr) (ns : List Int), vs = [.ref a] ∧ SqL K H a (ns.map V.int) ∧ ns.length ≤ 63 ∧ ∀ (p : Addr) (H' : Hp), Same H H' → H p = none → PoolAt H' p → Q (.ref p) H'
theorem sml {n : Nat} (h : n ≤ 1000) : n < sizeLine := small1000 h
theorem same_free {H H' : Hp} {p : Addr} (s : Same H H') (h : H' p = none) : H p = none := s.free h
section
variable {P : Program} {w : World} {K : PySem.W.Frag} {mg : Str → Option Value} {base : Heap} {C B : Addr}
abbrev s_pool : Stmt := top 48
theorem sc_pool : FnScope ["_law_script", "_law_cells", "_law_number", "_law_cell", "_law_great"] ["_law_script"] (defScope s_pool) := ⟨rfl, rfl, rfl, by decide +kernel, rfl, by decide +kernel, by decide +kernel⟩
theorem ok_pool {f : Addr} {fd : FuncData} (F : Fun K "_law_pool" "_law_pool" s_pool f fd) (T : Bn mg) : FnOk P w K mg base CX0 1 f fd ["_law_script"] (spPool K) := by
  refine F.ok sc_pool (fun vs H Q E h => ?_) (fun cdv A outer s H vs Q E hr h => ?_)
  · obtain ⟨a, ns, rfl, _⟩ := h
    rfl
  · obtain ⟨a, ns, rfl, ha, hl, k⟩ := h
    refine ⟨_, (pss_cons (ps_set (i := 1) sc_pool.nd rfl (Or.inl rfl) (pe_op op_cat (pe_lc (own := [("_law_cell", 3)]) rfl sc_pool.nd (pi_list (pe_slice sl_list (pv 0) po_none (po_some pe_int))) (blkOk_by (N := ["_law_script", "_law_cells", "_law_number", "_law_cell", "_law_great"]) (sc := defScope s_pool) (by decide +kernel)) (fun _ _ _ _ _ => (pg_name (i := 3) sc_pool.nd rfl (Or.inl rfl))) (fun _ _ _ _ _ => pts_nil) (fun _ _ _ _ _ => (pe_callTy call_int1 (by rfl) T.n_int (by decide +kernel) (pa_cons (pv 3) pa_nil)))) (pe_lst (pa_cons (pe_callB call_len_seq (by rfl) T.n_len PySem.boot_len (pa_cons (pe_slice sl_list (pv 0) po_none (po_some pe_int)) pa_nil)) pa_nil))))
      (pss_cons (ps_set (i := 2) sc_pool.nd rfl (Or.inl rfl) pe_int)
      (pss_cons (ps_for PassesOwn.never rfl (pi_list (pv 1)) (pg_name (i := 3) sc_pool.nd rfl (Or.inl rfl))
        (pss_one (ps_set (i := 2) sc_pool.nd rfl (Or.inl rfl) (pe_op op_modN (pe_callTy call_int1 (by rfl) T.n_int (by decide +kernel) (pa_cons (pe_op op_add (pe_op op_add (pe_op op_mul (pv 2) pe_int) (pv 3)) pe_int) pa_nil)) (pe_op op_sub (pe_op op_pow pe_int pe_int) pe_int)))))
      (pss_cons (ps_setLc (i := 4) (own := [("_law_cell", 3)]) rfl sc_pool.nd rfl rfl (sw_true rfl rfl rfl (by decide +kernel)) (pi_list (pv 1)) (blkOk_by (N := ["_law_script", "_law_cells", "_law_number", "_law_cell", "_law_great"]) (sc := defScope s_pool) (by decide +kernel)) (fun _ _ _ _ _ => (pg_name (i := 3) sc_pool.nd rfl (Or.inl rfl))) (fun _ _ _ _ _ => (pts_one (pt_cmpR op_ge (pe_callB call_abs (by rfl) T.n_abs (by decide +kernel) (pa_cons (pv 3) pa_nil)) (pe_op op_pow pe_int pe_int) (nomark _)))) (fun _ _ _ _ _ => (pe_callB call_abs (by rfl) T.n_abs (by decide +kernel) (pa_cons (pv 3) pa_nil))))
      (pss_one (ps_ret (pe_lst (pa_cons (pv 2) (pa_cons (pe_ix ix_list (pe_op op_cat (pv 4) (pe_lst (pa_cons pe_int pa_nil))) pe_int (fun _ _ => rfl)) pa_nil))))))))), ?_⟩
    obtain ⟨ms, hms, hml⟩ := cut_map ns none (some 60)
    -- the cells
    refine ⟨_, rfl, _, rfl, a, _, rfl, ha, fun p1 np1 => ?_⟩
    rw [hms]
    refine ⟨p1, rfl, ⟨_, SqL.of upd_same⟩, fun D nD => ?_⟩
    refine lc_list (K := K) (a := p1) (xs := ms.map V.int) (fun i H' => H' = upd (upd H p1 (.lst (ms.map V.int))) D (.lst ((ms.take i).map V.int))) rfl (fun i H' hi e => ?_) ?_ ?_
    · rw [e]
      have ne : p1 ≠ D := fun z => by rw [← z, upd_same] at nD; cases nD
      exact SqL.of (by rw [upd_ne ne, upd_same])
    · rintro i x H' hi rfl
      obtain ⟨z, hz, rfl⟩ := at_map hi
      refine ⟨rfl, yes_of ?_⟩
      refine ⟨_, rfl, .inl ⟨z, rfl, _, upd_same, ?_, ?_⟩⟩
      · rw [List.length_map, List.length_take]
        exact sml (by omega)
      · rw [upd_upd, take_more hz, List.map_append]
        rfl
    · rintro H' rfl
      rw [List.length_map, List.take_length]
      have s1 : Same H (upd (upd H p1 (.lst (ms.map V.int))) D (.lst (ms.map V.int))) := (Same.put np1).trans (Same.put nD)
      have eD : (upd (upd H p1 (.lst (ms.map V.int))) D (.lst (ms.map V.int))) D = some (.lst (ms.map V.int)) := upd_same
      generalize (upd (upd H p1 (.lst (ms.map V.int))) D (.lst (ms.map V.int))) = H1 at s1 eD ⊢
      refine ⟨_, rfl, _, rfl, a, _, rfl, s1.seq ha, fun p2 np2 => ?_⟩
      rw [hms]
      refine ⟨p2, _, rfl, .inl (SqL.of upd_same), by show 1 ≤ sizeLine; decide, fun p3 np3 => ?_⟩
      rw [List.length_map]
      have s2 : Same H1 (upd (upd H1 p2 (.lst (ms.map V.int))) p3 (.lst [V.int (ms.length : Int)])) := (Same.put np2).trans (Same.put np3)
      refine ⟨D, p3, ms.map V.int, [V.int (ms.length : Int)], rfl, rfl, s2 _ _ eD, upd_same, ?_, fun p4 np4 => ?_⟩
      · rw [List.length_map]
        exact Nat.le_of_lt (sml (by show ms.length + 1 ≤ 1000; omega))
      have s3 : Same H (upd (upd (upd H1 p2 (.lst (ms.map V.int))) p3 (.lst [V.int (ms.length : Int)])) p4 (.lst ((ms ++ [(ms.length : Int)]).map V.int))) := (s1.trans s2).trans (Same.put np4)
      have e4 : (ms.map V.int ++ [V.int (ms.length : Int)]) = (ms ++ [(ms.length : Int)]).map V.int := by rw [List.map_append]; rfl
      rw [e4]
      have eC : (upd (upd (upd H1 p2 (.lst (ms.map V.int))) p3 (.lst [V.int (ms.length : Int)])) p4 (.lst ((ms ++ [(ms.length : Int)]).map V.int))) p4 = some (.lst ((ms ++ [(ms.length : Int)]).map V.int)) := upd_same
      have hcl : (ms ++ [(ms.length : Int)]).length ≤ 64 := by
        rw [List.length_append]
        show ms.length + 1 ≤ 64
        omega
      generalize (upd (upd (upd H1 p2 (.lst (ms.map V.int))) p3 (.lst [V.int (ms.length : Int)])) p4 (.lst ((ms ++ [(ms.length : Int)]).map V.int))) = H4 at s3 eC ⊢
      generalize ms ++ [(ms.length : Int)] = cs at eC hcl ⊢
      -- the number
      refine ⟨_, rfl, p4, rfl, ⟨_, SqL.of eC⟩, for_list (K := K) (a := p4) (xs := cs.map V.int) (fun i σ H' => H' = H4 ∧ ∃ (n : Int) (v : Option V), 0 ≤ n ∧ n < 2 ^ 64 ∧ σ = [some (.ref a), some (.ref p4), some (.int n), v, none]) ⟨rfl, 7, none, by decide, by decide, rfl⟩ (fun i σ H' _ h => by rw [h.1]; exact SqL.of eC) ?_ ?_⟩
      · rintro i x σ H' hi ⟨rfl, n, v, n0, n1, rfl⟩
        obtain ⟨z, hz, rfl⟩ := at_map hi
        refine ⟨_, rfl, _, _, rfl, rfl, .inr ⟨by decide, by decide⟩, _, rfl, _, _, rfl, rfl, _, _, rfl, rfl, .inl ⟨_, rfl, 2, 61, rfl, rfl, ⟨by decide, by decide, by decide⟩, _, _, rfl, rfl, _, _, rfl, rfl, ?_, rfl, ?_⟩⟩
        · show ((2 : Int) ^ (61 : Int).toNat - 1) ≠ 0
          decide +kernel
        · have e : ((2 : Int) ^ (61 : Int).toNat - 1) = 2305843009213693951 := by decide +kernel
          refine ⟨(n * 48271 + z + 11).fmod ((2 : Int) ^ (61 : Int).toNat - 1), some (.int z), ?_, ?_, rfl⟩
          · rw [e, Int.fmod_eq_emod_of_nonneg _ (by decide)]
            exact Int.emod_nonneg _ (by decide)
          · rw [e, Int.fmod_eq_emod_of_nonneg _ (by decide)]
            exact Int.lt_trans (Int.emod_lt_of_pos _ (by decide)) (by decide)
      · rintro σ H4 ⟨rfl, n, v, n0, n1, rfl⟩
        -- the great cells
        refine ⟨_, rfl, p4, rfl, ⟨_, SqL.of eC⟩, fun G nG => ?_⟩
        refine lc_list (K := K) (a := p4) (xs := cs.map V.int) (fun i H' => ∃ gs : List Int, H' = upd H4 G (.lst (gs.map V.int)) ∧ gs.length ≤ i ∧ ∀ g ∈ gs, 0 ≤ g) ⟨[], rfl, Nat.le_refl _, fun _ h => by cases h⟩ (fun i H' hi h => ?_) ?_ ?_
        · obtain ⟨gs, e, _⟩ := h
          rw [e]
          exact SqL.of (by rw [upd_ne (ne_of_none eC nG)]; exact eC)
        · rintro i x H' hi ⟨gs, rfl, gl, g0⟩
          obtain ⟨z, hz, rfl⟩ := at_map hi
          have hi2 : i < cs.length := (List.getElem?_eq_some_iff.mp hz).1
          refine ⟨rfl, _, rfl, z, rfl, 10, 18, rfl, rfl, ⟨by decide, by decide, by decide⟩, _, _, rfl, rfl, _, rfl, iteB (fun _ => ?_) (fun _ => ?_)⟩
          · refine ⟨_, rfl, z, rfl, _, upd_same, ?_, gs ++ [if z < 0 then -z else z], ?_, ?_, ?_⟩
            · rw [List.length_map]
              exact sml (by omega)
            · rw [upd_upd, List.map_append]
              rfl
            · rw [List.length_append]
              show gs.length + 1 ≤ i + 1
              omega
            · intro g hg
              rcases List.mem_append.mp hg with h | h
              · exact g0 g h
              · have e := List.mem_singleton.mp h
                rw [e]
                split <;> omega
          · exact ⟨gs, rfl, Nat.le_succ_of_le gl, g0⟩
        · rintro H' ⟨gs, rfl, gl, g0⟩
          rw [List.length_map] at gl
          have s4 : Same H (upd H4 G (.lst (gs.map V.int))) := s3.trans (Same.put nG)
          have eG : (upd H4 G (.lst (gs.map V.int))) G = some (.lst (gs.map V.int)) := upd_same
          generalize (upd H4 G (.lst (gs.map V.int))) = H5 at s4 eG ⊢
          refine ⟨_, rfl, _, rfl, by show 1 ≤ sizeLine; decide, fun p5 np5 => ?_⟩
          refine ⟨G, p5, gs.map V.int, [.int 0], rfl, rfl, Same.put np5 _ _ eG, upd_same, ?_, fun p6 np6 => ?_⟩
          · rw [List.length_map]
            exact Nat.le_of_lt (sml (by show gs.length + 1 ≤ 1000; omega))
          have hd : ∃ g : Int, (gs.map V.int ++ [V.int 0])[0]? = some (V.int g) ∧ 0 ≤ g := by
            cases gs with
            | nil => exact ⟨0, rfl, Int.le_refl _⟩
            | cons g r => exact ⟨g, rfl, g0 g (List.mem_cons_self ..)⟩
          obtain ⟨g, hg, gg⟩ := hd
          refine ⟨p6, _, 0, .int g, rfl, rfl, SqL.of upd_same, atI_nat hg, by show 2 ≤ sizeLine; decide, fun p7 np7 => ?_⟩
          have s5 := ((s4.trans (Same.put np5)).trans (Same.put np6)).trans (Same.put (o := .lst [.int n, .int g]) np7)
          exact k p7 _ s5 (((s4.trans (Same.put np5)).trans (Same.put np6)).free np7) ⟨_, upd_same, n, g, rfl, n0, n1, gg⟩
end
end K8

set_option Elab.async false
set_option linter.all false
set_option maxRecDepth 100000
set_option maxHeartbeats 4000000
/-! + - * with an instance of an own class: its own methods, on the left and on the right -/
namespace OA
open PySem PySem.SeqAt PySem.W Builtin PySem.Calls PyProof.Rows
section
variable {prog : Program} {w : World} {A : Around} {E : Value → Shared → Prop} {s : Shared} {K : Frag} {x C f g : Addr} {ox : Obj} {od : Option Obj} {nm sym : String}
/-- both of one class: the left one's method -/
theorem bin_twins {op : Operator} {b : Value} {Q : Value → Shared → Prop} (hi : op.info = (sym, nm)) (X : K.In s.heap) (I : InstAt s.heap x ox C od) (hc : selfFirst K C = true) (hs : findIn K (.ref C) (PySem.dunder nm) = some (some (.ref f))) (hf : isFn K (.ref f) = true)
    (hb : Looks (model prog w) s.heap (typeOf b) (.ref C)) (h : wpAny (model prog w) A (call (.ref f) [.ref x, b]) (PySem.W.CmpBack Q) E s) : wpAny (model prog w) A (binaryOp op (.ref x) b) Q E s := by
  obtain ⟨cd, rest, hcd, hm⟩ := ksp_first hc
  have one := ksp_try X I hs hf h
  obtain ⟨hp, gs, dd, tk, os⟩ := s
  have T1 : Looks (model prog w) hp (typeOf (.ref x)) (.ref C) := I.type
  have T2 : Looks (model prog w) hp (fillsNumberSlot (.ref C) nm) true := fills_K X hcd hm hs
  simp only [binaryOp, hi]
  refine wpAny_holding (wpAny_bind ?_)
  unfold binaryOp1
  refine wpAny_bind (T1.at (wpAny_bind (hb.at (wpAny_bind (T2.at ?_)))))
  have self : (Value.ref C == Value.ref C) = true := beq_iff_eq.mpr rfl
  simp only [self, if_true]
  ksp_lk
  refine wpAny_mono one (fun r s' hr => ?_) fun _ _ e => e
  obtain ⟨v, rfl, hq⟩ := hr
  ksp_lk
  exact hq
/-- an int on the right of an instance: the instance's method -/
theorem bin_left_int {op : Operator} {i : Int} {ti : Tok} {ro : Option Value} {Q : Value → Shared → Prop} (hi : op.info = (sym, nm)) (X : K.In s.heap) (I : InstAt s.heap x ox C od) (hc : selfFirst K C = true) (hs : findIn K (.ref C) (PySem.dunder nm) = some (some (.ref f))) (hf : isFn K (.ref f) = true)
    (hr : findIn K (.ref C) (dunderR nm) = some (some (.ref g))) (ho : findIn K (.type "int") (dunderR nm) = some ro) (hn : fillsNumberSlot (.type "int") nm = pure true) (hsub : subIn K (.type "int") (.ref C) = some false)
    (h : wpAny (model prog w) A (call (.ref f) [.ref x, .int i ti]) (PySem.W.CmpBack Q) E s) : wpAny (model prog w) A (binaryOp op (.ref x) (.int i ti)) Q E s := by
  obtain ⟨cd, rest, hcd, hm⟩ := ksp_first hc
  have one := ksp_try X I hs hf h
  obtain ⟨hp, gs, dd, tk, os⟩ := s
  have T1 : Looks (model prog w) hp (typeOf (.ref x)) (.ref C) := I.type
  have T2 : Looks (model prog w) hp (fillsNumberSlot (.ref C) nm) true := fills_K X hcd hm hs
  have T3 : Looks (model prog w) hp (typeOf (.int i ti)) (.type "int") := Looks.of_pure rfl
  have T4 : Looks (model prog w) hp (fillsNumberSlot (.type "int") nm) true := Looks.of_pure hn
  have T5 : Looks (model prog w) hp (isSubtype (.type "int") (.ref C)) false := looks_subIn X hsub
  have T6 : Looks (model prog w) hp (numberSlotInPython (.ref C) nm) true := ksp_inPy X hs hr (.inr ⟨_, rfl⟩)
  have T7 : Looks (model prog w) hp (numberSlotInPython (.type "int") nm) false := Looks.of_pure rfl
  have T8 : Looks (model prog w) hp (typeLookup (.type "int") (dunderR nm)) ro := looks_findIn X ho
  have other : (Value.ref C == Value.type "int") = false := Bool.eq_false_iff.mpr fun q => by cases beq_iff_eq.mp q
  simp only [binaryOp, hi]
  refine wpAny_holding (wpAny_bind ?_)
  unfold binaryOp1
  refine wpAny_bind (T1.at (wpAny_bind (T3.at (wpAny_bind (T2.at ?_)))))
  simp only [other, Bool.false_eq_true, if_false]
  ksp_lk
  refine wpAny_mono one (fun r s' hr => ?_) fun _ _ e => e
  obtain ⟨v, rfl, hq⟩ := hr
  ksp_lk
  exact hq
/-- an int on the left: its own method declines, then the instance's reflected one -/
theorem bin_right_int {op : Operator} {i : Int} {ti : Tok} {id : String} {Q : Value → Shared → Prop} (hi : op.info = (sym, nm)) (X : K.In s.heap) (I : InstAt s.heap x ox C od) (hc : selfFirst K C = true) (hs : findIn K (.ref C) (PySem.dunder nm) = some (some (.ref f)))
    (hr : findIn K (.ref C) (dunderR nm) = some (some (.ref g))) (hg : isFn K (.ref g) = true) (hn : fillsNumberSlot (.type "int") nm = pure true) (hsub : subIn K (.ref C) (.type "int") = some false) (sl : Slot "int" (PySem.dunder nm) id)
    (hd : ∀ (Q' : Value → Shared → Prop) (E' : Value → Shared → Prop), Q' .notImplemented s → wpAny (model prog w) A (call (.builtin id) [.int i ti, .ref x]) Q' E' s)
    (h : wpAny (model prog w) A (call (.ref g) [.ref x, .int i ti]) (PySem.W.CmpBack Q) E s) : wpAny (model prog w) A (binaryOp op (.int i ti) (.ref x)) Q E s := by
  obtain ⟨cd, rest, hcd, hm⟩ := ksp_first hc
  have two := ksp_try X I hr hg h
  have one : ∀ (Q' : Option Value → Shared → Prop) (E' : Value → Shared → Prop), Q' none s → wpAny (model prog w) A (tryMethod (.int i ti) (PySem.dunder nm) (.ref x)) Q' E' s := fun Q' E' q => wpAny_tryMethod_declines (typeIs_int s i ti) sl (hd _ _ ⟨rfl, q⟩)
  obtain ⟨hp, gs, dd, tk, os⟩ := s
  have T1 : Looks (model prog w) hp (typeOf (.ref x)) (.ref C) := I.type
  have T2 : Looks (model prog w) hp (fillsNumberSlot (.ref C) nm) true := fills_K X hcd hm hs
  have T3 : Looks (model prog w) hp (typeOf (.int i ti)) (.type "int") := Looks.of_pure rfl
  have T4 : Looks (model prog w) hp (fillsNumberSlot (.type "int") nm) true := Looks.of_pure hn
  have T5 : Looks (model prog w) hp (isSubtype (.ref C) (.type "int")) false := looks_subIn X hsub
  have T7 : Looks (model prog w) hp (numberSlotInPython (.type "int") nm) false := Looks.of_pure rfl
  have other : (Value.type "int" == Value.ref C) = false := Bool.eq_false_iff.mpr fun q => by cases beq_iff_eq.mp q
  simp only [binaryOp, hi]
  refine wpAny_holding (wpAny_bind ?_)
  unfold binaryOp1
  refine wpAny_bind (T3.at (wpAny_bind (T1.at (wpAny_bind (T4.at ?_)))))
  simp only [other, Bool.false_eq_true, if_false]
  ksp_lk
  refine one _ _ ?_
  ksp_lk
  refine wpAny_mono two (fun r s' hr => ?_) fun _ _ e => e
  obtain ⟨v, rfl, hq⟩ := hr
  ksp_lk
  exact hq
end
end OA

set_option Elab.async false
set_option linter.all false
set_option maxRecDepth 100000
set_option maxHeartbeats 4000000
namespace OA
open PySem PySem.SeqAt PySem.W Builtin
open AutoSeq1 (wpAny_loadPart')
open MeetsSeq MeetsSeq2 MeetsSeq3 SeqRoads2
section
variable {prog : Program} {w : World} {A : Around} {E : Value → Shared → Prop} {s : Shared} {x : Addr} {ox : Obj}
/-- the int's own method hands back NotImplemented at an instance -/
def Declines (id : String) : Prop := ∀ (prog : Program) (w : World) (A : Around) (s : Shared) (i : Int) (ti : Tok) (x : Addr) (ox : Obj), s.heap.get? x = some ox → ox.data = .plain → ∀ (Q E : Value → Shared → Prop), Q .notImplemented s → wpAny (model prog w) A (call (.builtin id) [.int i ti, .ref x]) Q E s
theorem at_add (b : Int) (u : Tok) {o : Obj} (hd : o.data = .plain) (l : Addr) : Meets (Builtin.«int.__add__» ⟨[.int b u, .ref l], []⟩) (fun _ R s => s.heap.get? l = some o ∧ R (.ok (.ret .notImplemented)) s) :=
  .of_wp fun prog w A R s h => by obtain ⟨cls, dd, data, sl⟩ := o; obtain ⟨hp, g, d, tk, os⟩ := s; obtain ⟨hl, h⟩ := h; simp only at hd; subst hd; wp_walk using wpAny_loadPart' hl, wpAny_load hl; exact ⟨_, rfl, h⟩
theorem at_sub (b : Int) (u : Tok) {o : Obj} (hd : o.data = .plain) (l : Addr) : Meets (Builtin.«int.__sub__» ⟨[.int b u, .ref l], []⟩) (fun _ R s => s.heap.get? l = some o ∧ R (.ok (.ret .notImplemented)) s) :=
  .of_wp fun prog w A R s h => by obtain ⟨cls, dd, data, sl⟩ := o; obtain ⟨hp, g, d, tk, os⟩ := s; obtain ⟨hl, h⟩ := h; simp only at hd; subst hd; wp_walk using wpAny_loadPart' hl, wpAny_load hl; exact ⟨_, rfl, h⟩
theorem at_mul (b : Int) (u : Tok) {o : Obj} (hd : o.data = .plain) (l : Addr) : Meets (Builtin.«int.__mul__» ⟨[.int b u, .ref l], []⟩) (fun _ R s => s.heap.get? l = some o ∧ R (.ok (.ret .notImplemented)) s) :=
  .of_wp fun prog w A R s h => by obtain ⟨cls, dd, data, sl⟩ := o; obtain ⟨hp, g, d, tk, os⟩ := s; obtain ⟨hl, h⟩ := h; simp only at hd; subst hd; wp_walk using wpAny_loadPart' hl, wpAny_load hl; exact ⟨_, rfl, h⟩
theorem dec_add : Declines "int.__add__" := fun prog w A s i ti x ox hx hd Q E q => call_meets F.slot_int_add (typeIs_int s i ti) F.entry_int_add (F.args_int_add_2 _ _) (at_add i ti hd x) ⟨hx, q⟩
theorem dec_sub : Declines "int.__sub__" := fun prog w A s i ti x ox hx hd Q E q => call_meets F.slot_int_sub (typeIs_int s i ti) F.entry_int_sub (F.args_int_sub_2 _ _) (at_sub i ti hd x) ⟨hx, q⟩
theorem dec_mul : Declines "int.__mul__" := fun prog w A s i ti x ox hx hd Q E q => call_meets F.slot_int_mul (typeIs_int s i ti) F.entry_int_mul (F.args_int_mul_2 _ _) (at_mul i ti hd x) ⟨hx, q⟩
end
end OA

set_option Elab.async false
set_option linter.all false
set_option maxRecDepth 100000
set_option maxHeartbeats 4000000
namespace L2
open PySem PySem.Spec PyProof.Rows
/-- the class's own method for op, at f -/
structure ArL (K : PySem.W.Frag) (C : Addr) (op : Operator) (sym nm : String) (f : Addr) : Prop where
  hi : op.info = (sym, nm)
  hc : PySem.W.selfFirst K C = true
  hs : PySem.W.findIn K (.ref C) (PySem.dunder nm) = some (some (.ref f))
  hf : PySem.W.isFn K (.ref f) = true
/-- its reflected one, at g, and what int says of the op -/
structure ArR (K : PySem.W.Frag) (C : Addr) (nm : String) (g : Addr) : Prop where
  hr : PySem.W.findIn K (.ref C) (dunderR nm) = some (some (.ref g))
  hg : PySem.W.isFn K (.ref g) = true
  ho : ∃ ro, PySem.W.findIn K (.type "int") (dunderR nm) = some ro
  hn : fillsNumberSlot (.type "int") nm = pure true
  up : PySem.W.subIn K (.type "int") (.ref C) = some false
  dn : PySem.W.subIn K (.ref C) (.type "int") = some false
  dec : ∃ id, Slot "int" (PySem.dunder nm) id ∧ OA.Declines id
theorem back_of {z : V} {u : Value} {Q : Value → Shared → Prop} {s : Shared} (r : RelV z u) (q : Q u s) : PySem.W.CmpBack Q u s := by
  cases z with
  | non => cases (show u = Value.none from r); exact q
  | bl b => cases (show u = Value.bool b from r); exact q
  | int i => obtain ⟨t, e⟩ := (show ∃ t, u = Value.int i t from r); cases e; exact q
  | str x => obtain ⟨t, e⟩ := (show ∃ t, u = Value.str x t from r); cases e; exact q
  | byt b => obtain ⟨t, e⟩ := (show ∃ t, u = Value.bytes b t from r); cases e; exact q
  | flt b => obtain ⟨t, e⟩ := (show ∃ t, u = Value.float b t from r); cases e; exact q
  | ref a => cases (show u = Value.ref a from r); exact q
  | ty n => cases (show u = Value.type n from r); exact q
/-- x op y: one of both at least an instance of the class at C, the other one too, or an int -/
def rAr (C : Addr) (spF spG : Sp) : R2 := fun x y H Q =>
  (∃ a dx fs, x = .ref a ∧ H a = some (.ins C dx fs) ∧ ((∃ i, y = .int i) ∨ ∃ c dy gs, y = .ref c ∧ H c = some (.ins C dy gs)) ∧ spF [x, y] H Q E0) ∨
    (∃ i c dy gs, x = .int i ∧ y = .ref c ∧ H c = some (.ins C dy gs) ∧ spG [y, x] H Q E0)
section
variable {X : Cx} {C f g : Addr} {sym nm : String} {fd gd : FuncData} {ps qs : List Str} {n n' : Nat} {spF spG : Sp} {op : Operator}
/-- a def of the text is called by an operator -/
theorem run_two {E : Value → Shared → Prop} {pins : List (Addr × Obj)} {s : Shared} {σ : St} {H : Hp} {x y : V} {v u : Value} {Q : VK} (F : FnOk X.prog X.w X.K X.mg X.base CX0 n f fd ps spF) (hb : Binds X.K fd ps []) (hr : Room n X.A) (I : Inv X pins σ H s) (rx : RelV x v) (ry : RelV y u) (hsp : spF [x, y] H Q E0) :
    wpAny (model X.prog X.w) X.A (call (.ref f) [v, u]) (PySem.W.CmpBack (EP X pins σ Q)) E s := by
  have hl := F.len _ _ _ _ hsp
  have r2 : Vals [x, y] [v, u] := .cons rx (.cons ry .nil)
  refine wpAny_call (codeAny_mono (F.run X.A X.stack s H ⟨[v, u], []⟩ [v, u] [x, y] _ E0 hr I.env0 (by
    have := hb s [v, u] I.kIn (by simpa using hl)
    simpa using this) r2 hsp) fun r s' hq => ?_)
  cases r with
  | error e => exact hq.elim
  | ok fl =>
    cases fl with
    | ret w =>
      obtain ⟨z, H', I', rz, q⟩ := I.after hq
      exact back_of rz ⟨z, H', I', rz, q⟩
    | next => exact False.elim hq
    | brk => exact False.elim hq
    | cont => exact False.elim hq
/-- an operator that lets nothing out -/
def OpN (X : Cx) (f : Value → Value → Sem Value) (r : R2) : Prop := ∀ (E : Value → Shared → Prop) (pins : List (Addr × Obj)) (s : Shared) (σ : St) (H : Hp) (x y : V) (v u : Value) (Q : VK), Inv X pins σ H s → RelV x v → RelV y u → r x y H Q → wpAny (model X.prog X.w) X.A (f v u) (EP X pins σ Q) E s
theorem OpN.toR {f : Value → Value → Sem Value} {r : R2} (h : OpN X f r) : OpR X f r := fun pins s σ H x y v u Q I rx ry q => h _ pins s σ H x y v u Q I rx ry q
theorem op_ar (L : ArL X.K C op sym nm f) (R : ArR X.K C nm g) (F : FnOk X.prog X.w X.K X.mg X.base CX0 n f fd ps spF) (hb : Binds X.K fd ps []) (hr : Room n X.A)
    (G : FnOk X.prog X.w X.K X.mg X.base CX0 n' g gd qs spG) (hbG : Binds X.K gd qs []) (hrG : Room n' X.A) : OpN X (binaryOp op) (rAr C spF spG) := by
  intro E pins s σ H x y v u Q I rx ry hq
  rcases hq with ⟨a, dx, fs, rfl, ha, hy, hsp⟩ | ⟨i, c, dy, gs, rfl, rfl, hc, hsp⟩
  · cases (show v = Value.ref a from rx)
    obtain ⟨mA, J, _⟩ := ins_get I.hok ha
    obtain ⟨od, J, _⟩ := J.look
    have go := run_two (E := E) F hb hr I rx ry hsp
    rcases hy with ⟨i, rfl⟩ | ⟨c, dy, gs, rfl, hc⟩
    · obtain ⟨ti, e⟩ := (show ∃ t, u = Value.int i t from ry)
      subst e
      obtain ⟨ro, ho⟩ := R.ho
      exact OA.bin_left_int L.hi I.kIn J L.hc L.hs L.hf R.hr ho R.hn R.up go
    · cases (show u = Value.ref c from ry)
      obtain ⟨mB, J', _⟩ := ins_get I.hok hc
      obtain ⟨od', J', _⟩ := J'.look
      exact OA.bin_twins L.hi I.kIn J L.hc L.hs L.hf J'.type go
  · cases (show u = Value.ref c from ry)
    obtain ⟨ti, e⟩ := (show ∃ t, v = Value.int i t from rx)
    subst e
    obtain ⟨mA, J, _⟩ := ins_get I.hok hc
    obtain ⟨od, J, _⟩ := J.look
    obtain ⟨id, sl, dec⟩ := R.dec
    exact OA.bin_right_int L.hi I.kIn J L.hc L.hs R.hr R.hg R.hn R.dn sl (fun Q' E' q => dec _ _ _ _ _ _ _ _ J.at_ rfl Q' E' q) (run_two G hbG hrG I ry rx hsp)
end
end L2

set_option Elab.async false
set_option linter.all false
set_option maxRecDepth 100000
set_option maxHeartbeats 4000000
/-! sum(row, start=share): a row of numbers of which some are instances of an own class -/
namespace L2
open PySem PySem.Spec PyProof.Rows
def Cx.inn (X : Cx) : Cx := { X with A := X.A.in1 }
section
variable {X : Cx} {pins : List (Addr × Obj)} {σ : St} {H : Hp} {s : Shared}
theorem Inv.inn (I : Inv X pins σ H s) : Inv X.inn pins σ H s :=
  ⟨⟨I.ok.mod, I.ok.kind, I.ok.glob, I.ok.blt, I.ok.above, I.ok.inj, I.ok.has, I.ok.cab, I.ok.hd, I.ok.frames, I.ok.stk, I.ok.exf, I.ok.bs, I.ok.bsz, I.ok.noex, I.ok.exfs, I.ok.funs, I.ok.frf⟩, I.os, I.bare, I.base, I.loc, I.cell, I.free, I.freeC, I.pin, I.hok, I.len⟩
theorem Inv.outn (I : Inv X.inn pins σ H s) (ok : X.Ok) : Inv X pins σ H s := ⟨ok, I.os, I.bare, I.base, I.loc, I.cell, I.free, I.freeC, I.pin, I.hok, I.len⟩
/-- the state of the sum: a list of the one total -/
def sumSt (v : Value) (c : Nat) : Obj := { cls := .type "list", dict := none, data := .seq #[v] c, slots := #[] }
theorem sum_turns {rA : R2} {l it S : Addr} {xs : List V} {Q : VK} (hc : X.calm = true) (op : OpN X.inn (binaryOp .Add) rA) (Pv : Nat → V → Hp → Prop) (own : ∀ i acc H, Pv i acc H → ∃ a, acc = .ref a) (row : ∀ i acc H, i ≤ xs.length → Pv i acc H → SqT X.K H l xs)
    (step : ∀ i acc x H, xs[i]? = some x → Pv i acc H → rA acc x H (Pv (i + 1))) (fin : ∀ acc H, Pv xs.length acc H → Q acc H) (ne : it ≠ S) :
    ∀ (k i : Nat) (acc : V) (v : Value) (c : Nat) (H : Hp) (s : Shared), xs.length - i = k → i ≤ xs.length → Inv X pins σ H s → RelV acc v → Pv i acc H → s.heap.IsTupleIter it l i → s.heap.get? S = some (sumSt v c) → FpOk X pins H it → FpOk X pins H S →
      codeAny (model X.prog X.w) X.A (.builtin "sum.loop" ⟨[.ref it, .ref S, rawInt 2, rawInt 0], []⟩) (fun r s' => match r with | .ok (.ret v) => EP X pins σ Q v s' | .ok _ => False | .error e => X.xe e s') s := by
  intro k
  induction k with
  | zero =>
    intro i acc v c H s hk hi I rv pv st hS fi fS
    have e : i = xs.length := by omega
    subst e
    obtain ⟨a, rfl⟩ := own _ _ _ pv
    obtain rfl : v = Value.ref a := rv
    obtain ⟨its, ri, pl, hz⟩ := I.tuple (row _ _ _ hi pv)
    have hl := ri.length
    obtain ⟨f0, f1, f2, f3, f4, f5⟩ := fi
    refine codeAny_builtin F.entry_sum_loop ?_
    rw [Around.under_plainId F.plain_sum_loop _]
    show wpAny _ X.A.in1 (seqItems? (.ref S) >>= _) _ _ s
    refine wpAny_bind (wpAny_seqItems hS rfl ?_)
    show wpAny _ X.A.in1 (tryCatch (pyNext (.ref it)) _ >>= _) _ _ s
    refine wpAny_bind (wpAny_tryCatch (wpAny_pyNext_tuple_end (I.ok.hd hc) st (show s.heap.IsTuple l its.toArray from pl) (by simp; omega) fun h' eb => ?_))
    exact wpAny_pure ⟨.ref a, H, I.turned (t' := s.toks) (fun b o hb e => eb b o hb e) f0 f1 f3 f4 f5, rfl, fin _ _ pv⟩
  | succ k ih =>
    intro i acc v c H s hk hi I rv pv st hS fi fS
    have hlt : i < xs.length := by omega
    obtain ⟨a, rfl⟩ := own _ _ _ pv
    obtain rfl : v = Value.ref a := rv
    have hx : xs[i]? = some xs[i] := by simp [hlt]
    obtain ⟨its, ri, pl, hz⟩ := I.tuple (row _ _ _ hi pv)
    obtain ⟨u, hu, ru⟩ := ri.get hx
    have go := step i (.ref a) xs[i] H hx pv
    generalize xs[i] = x at go ru
    obtain ⟨f0, f1, f2, f3, f4, f5⟩ := id fi
    obtain ⟨g0, g1, g2, g3, g4, g5⟩ := id fS
    refine codeAny_builtin F.entry_sum_loop ?_
    rw [Around.under_plainId F.plain_sum_loop _]
    show wpAny _ X.A.in1 (seqItems? (.ref S) >>= _) _ _ s
    refine wpAny_bind (wpAny_seqItems hS rfl ?_)
    show wpAny _ X.A.in1 (tryCatch (pyNext (.ref it)) _ >>= _) _ _ s
    refine wpAny_bind (wpAny_tryCatch (wpAny_pyNext_tuple_item st (show s.heap.IsTuple l its.toArray from pl) (x := u) (by simpa using hu) fun h' st' sb => ?_))
    have I1 : Inv X pins σ H { s with heap := h' } := I.turned (t' := s.toks) (fun b o hb e => (sb.2 b hb).trans e) f0 f1 f3 f4 f5
    have hS1 : h'.get? S = some (sumSt (.ref a) c) := (sb.2 S (Ne.symm ne)).trans hS
    obtain ⟨oi, ei, ci, di⟩ := id st'
    have I2 : Inv X (pins ++ [(it, oi), (S, sumSt (.ref a) c)]) σ H { s with heap := h' } := I1.pins_of fun p hp => by
      rcases List.mem_append.mp hp with hp | hp
      · exact I1.pin p (List.mem_append_right _ hp)
      · rcases List.mem_cons.mp hp with rfl | hp
        · exact ⟨ei, f0, f1, f2, fun v z => by rw [di] at z; cases z⟩
        · rw [List.mem_singleton.mp hp]
          exact ⟨hS1, g0, g1, g2, fun v z => by cases z⟩
    show wpAny _ X.A.in1 ((holding [u] (binaryOp .Add (.ref a) u)).attempt >>= _) _ _ _
    refine wpAny_bind (wpAny_attempt (wpAny_holding (wpAny_mono (op (fun _ _ => False) _ _ σ H (.ref a) x (.ref a) u _ I2.inn rfl ru go) (fun w s2 q => ?_) (fun e s2 z => z.elim))))
    obtain ⟨z, H2, I3, rz, pv2⟩ := q
    have I4 : Inv X (pins ++ [(it, oi), (S, sumSt (.ref a) c)]) σ H2 s2 := I3.outn I.ok
    obtain ⟨ki, ni, _⟩ := I4.pin (it, oi) (List.mem_append_right _ (List.mem_append_right _ List.mem_cons_self))
    obtain ⟨kS, nS, _⟩ := I4.pin (S, sumSt (.ref a) c) (List.mem_append_right _ (List.mem_append_right _ (List.mem_cons_of_mem _ List.mem_cons_self)))
    obtain ⟨a2, rfl⟩ := own _ _ _ pv2
    obtain rfl : w = Value.ref a2 := rz
    have I5 : Inv X pins σ H2 s2 := I4.unpinned
    show wpAny _ X.A.in1 (updateSeq S (fun _ => #[Value.ref a2]) >>= _) _ _ _
    refine wpAny_bind (wpAny_updateSeq kS rfl ?_)
    have hS₂ := Heap.get?_update_self (Obj.mapSeq fun _ => #[Value.ref a2]) kS rfl
    refine wpAny_bind (wpAny_letGo ?_)
    refine wpAny_bind (wpAny_updateSeq hS₂ rfl ?_)
    have hS3 := Heap.get?_update_self (Obj.mapSeq fun _ => #[Value.ref a2]) hS₂ rfl
    have oth : ∀ (b : Addr) (o : Obj), b ≠ S → s2.heap.get? b = some o → ((s2.heap.update S (Obj.mapSeq fun _ => #[Value.ref a2])).update S (Obj.mapSeq fun _ => #[Value.ref a2])).get? b = some o := fun b o hb e =>
      (Heap.get?_update_other _ _ (Ne.symm hb)).trans ((Heap.get?_update_other _ _ (Ne.symm hb)).trans e)
    have I6 : Inv X pins σ H2 { s2 with heap := (s2.heap.update S (Obj.mapSeq fun _ => #[Value.ref a2])).update S (Obj.mapSeq fun _ => #[Value.ref a2]) } := I5.turned (t' := s2.toks) oth nS g1 g3 g4 g5
    refine wpAny_pure ⟨plainId_quiet F.plain_sum_loop _, ih (i + 1) (.ref a2) (.ref a2) c H2 _ (by omega) hlt I6 rfl pv2 ⟨oi, oth it oi ne ki, by obtain ⟨o', e', c', d'⟩ := st'; rw [ei] at e'; cases e'; exact ⟨c', d'⟩⟩ hS3 ⟨ni, f1, f2, f3, f4, f5⟩ ⟨nS, g1, g2, g3, g4, g5⟩⟩
/-- a class that is no text -/
structure NoTxt (K : PySem.W.Frag) (C : Addr) : Prop where
  str : PySem.W.subIn K (.ref C) (.type "str") = some false
  byt : PySem.W.subIn K (.ref C) (.type "bytes") = some false
  bar : PySem.W.subIn K (.ref C) (.type "bytearray") = some false
/-- sum(row, start=an instance): Pv tells the total behind i items -/
def rSumO (K : PySem.W.Frag) (rA : R2) : List V → List V → Hp → VK → Prop := fun xs zs H Q => ∃ (l a C dx : Addr) (fs : List (Str × V)) (row : List V), xs = [.ref l] ∧ zs = [.ref a] ∧ H a = some (.ins C dx fs) ∧ NoTxt K C ∧
  ∃ Pv : Nat → V → Hp → Prop, Pv 0 (.ref a) H ∧ (∀ i acc H', Pv i acc H' → ∃ b, acc = .ref b) ∧ (∀ i acc H', i ≤ row.length → Pv i acc H' → SqT K H' l row) ∧ (∀ i acc x H', row[i]? = some x → Pv i acc H' → rA acc x H' (Pv (i + 1))) ∧ ∀ acc H', Pv row.length acc H' → Q acc H'
theorem argsOk_sum (a b : Value) : argsOk "sum" ⟨[a], [(Str.ofString "start", b)]⟩ := by
  unfold argsOk
  kernel_rfl
theorem cr_sumO {rA : R2} (hc : X.calm = true) (op : OpN X.inn (binaryOp .Add) rA) : CallRK X (.builtin "sum") [Str.ofString "start"] (rSumO X.K rA) := by
  intro pins s σ H xs zs us ws Q I r rz h
  obtain ⟨l, a, C, dx, fs, row, rfl, rfl, ha, nt, Pv, p0, own, kept, step, fin⟩ := h
  obtain rfl := Vals.ref1 r
  obtain rfl := Vals.ref1 rz
  obtain ⟨its, ri, pl, hz⟩ := I.tuple (kept 0 _ _ (Nat.zero_le _) p0)
  obtain ⟨mA, J, _⟩ := ins_get I.hok ha
  obtain ⟨od, J, _⟩ := J.look
  have n1 : ∀ M : Model, PySem.W.Looks M s.heap (isInstance (.ref a) (.type "str")) false := fun M => OC.not_inst I.kIn J nt.str
  have n2 : ∀ M : Model, PySem.W.Looks M s.heap (isInstance (.ref a) (.type "bytes")) false := fun M => OC.not_inst I.kIn J nt.byt
  have n3 : ∀ M : Model, PySem.W.Looks M s.heap (isInstance (.ref a) (.type "bytearray")) false := fun M => OC.not_inst I.kIn J nt.bar
  refine wpAny_call (codeAny_call_builtin F.plain_sum F.entry_sum ?_)
  have body : wpAny (model X.prog X.w) X.A.in1 (Builtin.«sum» ⟨[.ref l], [(Str.ofString "start", .ref a)]⟩) (fun fin s' => match fin with
      | .done f => (match (Except.ok f : Result) with | .ok (.ret v) => EP X pins σ Q v s' | .ok _ => False | .error e => X.xe e s')
      | .again c' => c'.quiet = true ∧ codeAny (model X.prog X.w) X.A c' (fun r s' => match r with | .ok (.ret v) => EP X pins σ Q v s' | .ok _ => False | .error e => X.xe e s') s') X.xe s := by
    unfold Builtin.«sum»
    simp only [List.length_cons, List.length_nil]
    rw [if_neg (by decide)]
    refine wpAny_bind (wpAny_of_eq (show Builtin.Builtins.bindParams "sum" ["start"] 0 ⟨[], [(Str.ofString "start", .ref a)]⟩ = pure [some (.ref a)] from rfl) ?_)
    refine wpAny_bind (wpAny_pyIter_tuple (show s.heap.IsTuple l its.toArray from pl) ?_)
    have up : ∀ b o, s.heap.get? b = some o → (s.heap.push { cls := .type "tuple_iterator", data := .fields #[.ref l, .int 0 0] }).get? b = some o := fun b o e => Heap.get?_push_of_some _ e
    refine wpAny_bind (wpAny_pure ?_)
    simp only [List.forIn_cons, List.forIn_nil]
    refine wpAny_bind (wpAny_bind (wpAny_bind (n1 _ _ _ _ _ up ?_)))
    simp only [Bool.false_eq_true, if_false]
    refine wpAny_pure (wpAny_bind (wpAny_bind (n2 _ _ _ _ _ up ?_)))
    simp only [Bool.false_eq_true, if_false]
    refine wpAny_pure (wpAny_bind (wpAny_bind (n3 _ _ _ _ _ up ?_)))
    simp only [Bool.false_eq_true, if_false]
    refine wpAny_pure (wpAny_pure ?_)
    refine wpAny_bind (wpAny_newObj_type ?_)
    have I1 : Inv X pins σ H { s with heap := s.heap.push { cls := .type "tuple_iterator", data := .fields #[.ref l, .int 0 0] } } := I.kept (t' := s.toks) up
    have sz1 : (s.heap.push { cls := .type "tuple_iterator", data := .fields #[.ref l, .int 0 0] }).objs.size = s.heap.objs.size + 1 := Heap.size_push ..
    have up2 : ∀ b o, (s.heap.push { cls := .type "tuple_iterator", data := .fields #[.ref l, .int 0 0] }).get? b = some o → ((s.heap.push { cls := .type "tuple_iterator", data := .fields #[.ref l, .int 0 0] }).push { cls := .type "list", dict := none, data := .seq #[.ref a] 0 }).get? b = some o := fun b o e => Heap.get?_push_of_some _ e
    have I2 := I1.kept (t' := s.toks) up2
    have le1 : s.heap.objs.size ≤ (s.heap.push { cls := .type "tuple_iterator", data := .fields #[.ref l, .int 0 0] }).objs.size := by rw [sz1]; exact Nat.le_succ _
    exact wpAny_pure ⟨plainId_quiet F.plain_sum_loop _, sum_turns hc op Pv own kept step fin (by show s.heap.objs.size ≠ _; rw [sz1]; exact Nat.ne_of_lt (Nat.lt_succ_self _)) row.length 0 (.ref a) (.ref a) 0 H _ rfl (Nat.zero_le _) I2 rfl p0
      ⟨_, up2 _ _ (Heap.get?_push_size _ rfl), rfl, rfl⟩ (Heap.get?_push_size _ rfl) (I.fpOk (Nat.le_refl _) (I.hok.fresh (Nat.le_refl _))) (I.fpOk le1 (I.hok.fresh le1))⟩
  simp only [checkBuiltinCall, F.kind_sum]
  cases hsig : Manifest.signature? "sum" with
  | none => exact wpAny_pure body
  | some sig =>
    have ha' : Bind.checkArgs "sum" sig ⟨[.ref l], [(Str.ofString "start", .ref a)]⟩ = pure () := by simpa only [argsOk, hsig] using argsOk_sum (.ref l) (.ref a)
    simp only [List.zip_cons_cons, List.zip_nil_right, ha']
    exact wpAny_pure body
end
end L2

set_option Elab.async false
set_option linter.all false
set_option maxRecDepth 100000
set_option maxHeartbeats 4000000
namespace K8
open PySem L2
/-- how == of the two is told: one of both a share -/
def Cmp (K : PySem.W.Frag) (C : Addr) (H : Hp) (x y : V) (b : Bool) : Prop :=
  (∃ a dx fs, x = .ref a ∧ H a = some (.ins C dx fs) ∧ EqS K C a y b H ∧ ((∃ T, Fo K H y T) ∨ ∃ c dy gs, y = .ref c ∧ H c = some (.ins C dy gs))) ∨
    (∃ c dy gs T, y = .ref c ∧ H c = some (.ins C dy gs) ∧ Fo K H x T ∧ EqS K C c x b H)
theorem dp2 {K : PySem.W.Frag} {H : Hp} {t : Addr} {x y : Int} (h : SqT K H t [.int x, .int y]) : Dp K H (.ref t) (.tuple [.int x, .int y]) := .tup h (.cons (.int x) (.cons (.int y) .nil))
theorem sh2 (x y : Int) : SeqAt.shaped (.tuple [.int x, .int y]) = true := rfl
theorem i0 {x y : V} {xs : List V} : atI (x :: xs) 0 = some x := by
  have h : (x :: xs)[0]? = some x := rfl
  exact atI_nat h
theorem i1 {x y : V} {xs : List V} : atI (x :: y :: xs) 1 = some y := by
  have h : (x :: y :: xs)[1]? = some y := rfl
  exact atI_nat h
theorem i2 {x y z : V} {xs : List V} : atI (x :: y :: z :: xs) 2 = some z := by
  have h : (x :: y :: z :: xs)[2]? = some z := rfl
  exact atI_nat h
/-- __eq__ of the class -/
structure EqT (P : Program) (w : World) (K : PySem.W.Frag) (mg : Str → Option Value) (base : Heap) (C : Addr) : Prop where
  ex : ∃ (f : Addr) (fd : FuncData), OwnT K C f ∧ FnOk P w K mg base CX0 2 f fd ["self", "other"] (spOwn (EqS K C)) ∧ Binds K fd ["self", "other"] []
/-- x == y: by a share, or of plain data -/
theorem EqT.op {X : Cx} {C : Addr} {op : CmpOp} (ho : OC.Is2 op) (c : EqT X.prog X.w X.K X.mg X.base C) (hr : Room 3 X.A) : ∃ r : R2, OpR X (compareOp op) r ∧ ∀ x y b H Q, Cmp X.K C H x y b → Q (.bl (OC.turn op b)) H → r x y H Q := by
  obtain ⟨f, fd, O, F, hb⟩ := c.ex
  exact ⟨_, op_ownB ho F O hb pass0 hr, fun x y b H Q h q => ⟨b, h, q⟩⟩
theorem is_eq : OC.Is2 .Eq := .inl rfl
theorem is_ne : OC.Is2 .NotEq := .inr rfl
theorem passX {X : Cx} : Passes (L2.CX X.prog X.w) X E0 := fun _ _ _ _ _ _ _ ⟨_, _, _, _, _, _, _, _, _, _, _, _, h⟩ => h.elim
/-- Share(p, q) and Share(p) -/
structure MkT (P : Program) (w : World) (K : PySem.W.Frag) (mg : Str → Option Value) (base : Heap) (C B : Addr) : Prop where
  ex : ∃ (f : Addr) (fd : FuncData) (ds : List Value), Mk K C f ∧ FnOk P w K mg base (L2.CX P w) 4 f fd ["self", "top", "bottom"] (spSI K C B) ∧ Binds K fd ["self", "top", "bottom"] [] ∧ Vals [.int 1] ds ∧ Binds K fd ["self", "top", "bottom"] ds
  gS : mg "Share" = some (.ref C)
section
variable {X : Cx} {C B : Addr} {p pos : Pos} {e : Expr} {es : List Expr} {t : TA}
theorem pe_share2 (m : MkT X.prog X.w X.K X.mg X.base C B) (hr : Room 5 X.A) (hg : Gl X "Share") (ha : PA X (e :: es) t)
    (he : starEach (e :: es) X.env = (false, eval e X.env) :: starEach es X.env := by rfl) (hpl : (backTo pos (starEach es X.env)).any (·.1) = false := by rfl) :
    PE X (.Call (.Name "Share" p) (e :: es) [] pos) (tMake C (spSI X.K C B) [] E0 t) := by
  obtain ⟨f, fd, ds, M, F, b0, v1, b1⟩ := m.ex
  exact pe_make M F hr hg m.gS b0 .nil passX ha (by decide) he hpl
theorem pe_share1 (m : MkT X.prog X.w X.K X.mg X.base C B) (hr : Room 5 X.A) (hg : Gl X "Share") (ha : PA X (e :: es) t)
    (he : starEach (e :: es) X.env = (false, eval e X.env) :: starEach es X.env := by rfl) (hpl : (backTo pos (starEach es X.env)).any (·.1) = false := by rfl) :
    PE X (.Call (.Name "Share" p) (e :: es) [] pos) (tMake C (spSI X.K C B) [.int 1] E0 t) := by
  obtain ⟨f, fd, ds, M, F, b0, v1, b1⟩ := m.ex
  exact pe_make M F hr hg m.gS b1 v1 passX ha (by decide) he hpl
end
/-- a share is made -/
theorem mk_ok {K : PySem.W.Frag} {C B : Addr} {a b : Int} {H : Hp} {Q : VK} {E : XK} (nz : b ≠ 0) (hl : b.natAbs.log2 < 9000)
    (k : ∀ (x dx : Addr) (H' : Hp), Same H H' → H' x = some (.ins C dx (shF (lowT a b) (lowB a b))) → Q (.ref x) H') :
    ∀ x dx, H x = none → H dx = none → dx ≠ x → spSI K C B [.ref x, .int a, .int b] (upd (upd H dx (.own x)) x (.ins C dx [])) (fun v H2 => v = .non ∧ Q (.ref x) H2) E :=
  fun x dx hx hd ne => ⟨x, dx, .int a, .int b, rfl, upd_same, .fo (.int a), .fo (.int b), .inl ⟨a, b, rfl, rfl, nz, hl, rfl, k x dx _ (by
    rw [upd_upd]
    exact (Same.put hd).trans (Same.put (by rw [upd_ne ne.symm]; exact hx))) upd_same⟩⟩
theorem mk_same {C : Addr} {H : Hp} {x dx : Addr} {o : HO} (hx : H x = none) (hd : H dx = none) (ne : dx ≠ x) : Same H (upd (upd (upd H dx (.own x)) x (.ins C dx [])) x o) := by
  rw [upd_upd]
  exact (Same.put hd).trans (Same.put (by rw [upd_ne ne.symm]; exact hx))
theorem Thing.isC {K : PySem.W.Frag} {C : Addr} {H : Hp} {x : V} (I : InsT K C) (h : Thing K C H x) : ∃ t b, TyX K H x t ∧ PySem.W.kitOne K t (.ref C) = some b := by
  cases h with
  | ins e => exact ⟨_, _, I.ty e, I.kself⟩
  | fo h => exact ⟨_, _, h.ty, I.fo h⟩
/-! ### lowest terms, once more -/
theorem sg_dvdT (a b : Int) : sg a b ∣ a := by
  have h : ((Nat.gcd a.natAbs b.natAbs : Nat) : Int) ∣ a := Int.ofNat_dvd_left.mpr (Nat.gcd_dvd_left _ _)
  unfold sg
  split
  · exact h
  · exact Int.neg_dvd.mpr h
theorem sg_dvdB (a b : Int) : sg a b ∣ b := by
  have h : ((Nat.gcd a.natAbs b.natAbs : Nat) : Int) ∣ b := Int.ofNat_dvd_left.mpr (Nat.gcd_dvd_right _ _)
  unfold sg
  split
  · exact h
  · exact Int.neg_dvd.mpr h
theorem low_mulT (a b : Int) : lowT a b * sg a b = a := by
  unfold lowT
  exact Int.fdiv_mul_cancel (sg_dvdT a b)
theorem low_mulB (a b : Int) : lowB a b * sg a b = b := by
  unfold lowB
  exact Int.fdiv_mul_cancel (sg_dvdB a b)
theorem abs_le {x g y : Int} (h : x * g = y) (hg : g ≠ 0) : x.natAbs ≤ y.natAbs := by
  rw [← h, Int.natAbs_mul]
  exact Nat.le_mul_of_pos_right _ (Int.natAbs_pos.mpr hg)
theorem lowT_le {a b : Int} (hb : b ≠ 0) : (lowT a b).natAbs ≤ a.natAbs := abs_le (low_mulT a b) (sg_ne hb)
theorem lowB_le {a b : Int} (hb : b ≠ 0) : (lowB a b).natAbs ≤ b.natAbs := abs_le (low_mulB a b) (sg_ne hb)
theorem lowB_pos {a b : Int} (hb : b ≠ 0) : 0 < lowB a b := by
  have e := low_mulB a b
  by_cases h : 0 < b
  · have hs : 0 < sg a b := by
      unfold sg
      rw [if_pos h]
      exact Int.ofNat_lt.mpr (gcd_pos hb)
    by_cases z : 0 < lowB a b
    · exact z
    · have : lowB a b * sg a b ≤ 0 := Int.mul_nonpos_of_nonpos_of_nonneg (by omega) (by omega)
      omega
  · have hs : sg a b < 0 := by
      unfold sg
      rw [if_neg h]
      have := Int.ofNat_lt.mpr (gcd_pos (a := a) hb)
      omega
    by_cases z : 0 < lowB a b
    · exact z
    · have : 0 ≤ lowB a b * sg a b := Int.mul_nonneg_of_nonpos_of_nonpos (by omega) (by omega)
      omega
theorem low_gcd {a b : Int} (hb : b ≠ 0) : Nat.gcd (lowT a b).natAbs (lowB a b).natAbs = 1 := by
  have e1 : (lowT a b).natAbs * Nat.gcd a.natAbs b.natAbs = a.natAbs := by
    rw [← sg_abs, ← Int.natAbs_mul, low_mulT]
  have e2 : (lowB a b).natAbs * Nat.gcd a.natAbs b.natAbs = b.natAbs := by
    rw [← sg_abs, ← Int.natAbs_mul, low_mulB]
  have h : Nat.gcd ((lowT a b).natAbs * Nat.gcd a.natAbs b.natAbs) ((lowB a b).natAbs * Nat.gcd a.natAbs b.natAbs) = Nat.gcd (lowT a b).natAbs (lowB a b).natAbs * Nat.gcd a.natAbs b.natAbs := Nat.gcd_mul_right _ _ _
  rw [e1, e2] at h
  have hp := gcd_pos (a := a) hb
  exact Nat.eq_of_mul_eq_mul_right hp (by rw [← h, Nat.one_mul])
theorem sg_one {x y : Int} (hy : 0 < y) (h : Nat.gcd x.natAbs y.natAbs = 1) : sg x y = 1 := by
  unfold sg
  rw [if_pos hy, h]
  rfl
theorem low_one {x y : Int} (hy : 0 < y) (h : Nat.gcd x.natAbs y.natAbs = 1) : lowT x y = x ∧ lowB x y = y := by
  unfold lowT lowB
  rw [sg_one hy h]
  exact ⟨Int.fdiv_one x, Int.fdiv_one y⟩
theorem low_low {a b : Int} (hb : b ≠ 0) : lowT (lowT a b) (lowB a b) = lowT a b ∧ lowB (lowT a b) (lowB a b) = lowB a b := low_one (lowB_pos hb) (low_gcd hb)
theorem low_int (i : Int) : lowT i 1 = i ∧ lowB i 1 = 1 := low_one (by decide) (by show Nat.gcd i.natAbs 1 = 1; exact Nat.gcd_one_right _)
/-! ### how shares and things compare -/
theorem cmp_fo {K : PySem.W.Frag} {C a dx : Addr} {t n : Int} {H : Hp} {y : V} {T : String} (e : H a = some (.ins C dx (shF t n))) (h : Fo K H y T) {b : Bool} (hb : b = (isI y && (decide (V.int n = V.int 1) && decide (V.int t = y)))) : Cmp K C H (.ref a) y b ∧ Cmp K C H y (.ref a) b :=
  have eq : EqS K C a y b H := ⟨dx, t, n, e, .inr ⟨⟨T, h⟩, hb⟩⟩
  ⟨.inl ⟨a, dx, _, rfl, e, eq, .inl ⟨T, h⟩⟩, .inr ⟨a, dx, _, T, rfl, e, h, eq⟩⟩
theorem cmp_sh {K : PySem.W.Frag} {C a dx c dy : Addr} {t n t' n' : Int} {H : Hp} (e : H a = some (.ins C dx (shF t n))) (e' : H c = some (.ins C dy (shF t' n'))) : Cmp K C H (.ref a) (.ref c) (decide (V.int t = V.int t') && decide (V.int n = V.int n')) :=
  .inl ⟨a, dx, _, rfl, e, ⟨dx, t, n, e, .inl ⟨c, dy, t', n', rfl, e', rfl⟩⟩, .inr ⟨c, dy, _, rfl, e'⟩⟩
theorem cmp_sh2 {K : PySem.W.Frag} {C a dx c dy : Addr} {t n t' n' : Int} {H : Hp} (e : H a = some (.ins C dx (shF t n))) (e' : H c = some (.ins C dy (shF t' n'))) {b : Bool} (hb : b = (decide (V.int t = V.int t') && decide (V.int n = V.int n'))) :
    Cmp K C H (.ref a) (.ref c) b ∧ Cmp K C H (.ref c) (.ref a) b := by
  subst hb
  refine ⟨cmp_sh e e', ?_⟩
  have h := cmp_sh (K := K) e' e
  have z : (decide (V.int t' = V.int t) && decide (V.int n' = V.int n)) = (decide (V.int t = V.int t') && decide (V.int n = V.int n')) := by
    rw [decide_eq_decide.mpr (⟨Eq.symm, Eq.symm⟩ : V.int t' = V.int t ↔ V.int t = V.int t'), decide_eq_decide.mpr (⟨Eq.symm, Eq.symm⟩ : V.int n' = V.int n ↔ V.int n = V.int n')]
  rw [z] at h
  exact h
theorem eqv_pair (x y x' y' : Int) : PyData.eqv (.tuple [.int x, .int y]) (.tuple [.int x', .int y']) = (decide (V.int x = V.int x') && decide (V.int y = V.int y')) := by
  rw [Bool.eq_iff_iff]
  simp [PyData.eqv, PyData.eqvAll]
theorem si_ok {K : PySem.W.Frag} {C B : Addr} {a b : Int} {H : Hp} {x dx : Addr} {Q : VK} {E : XK} (hx : H x = none) (hd : H dx = none) (ne : dx ≠ x) (nz : b ≠ 0) (hl : b.natAbs.log2 < 9000)
    (k : ∀ H', Same H H' → H' x = some (.ins C dx (shF (lowT a b) (lowB a b))) → Q .non H') : spSI K C B [.ref x, .int a, .int b] (upd (upd H dx (.own x)) x (.ins C dx [])) Q E :=
  ⟨x, dx, .int a, .int b, rfl, upd_same, .fo (.int a), .fo (.int b), .inl ⟨a, b, rfl, rfl, nz, hl, k _ (mk_same hx hd ne) upd_same⟩⟩
theorem fo_same {K : PySem.W.Frag} {H H' : Hp} {x : V} {T : String} (h : Fo K H x T) (s : Same H H') : Fo K H' x T := by
  cases h with
  | non => exact .non
  | bl b => exact .bl b
  | int i => exact .int i
  | str x => exact .str x
  | lst e => exact .lst (s _ _ e)
  | tup e => exact .tup (s _ _ e)
  | dK e => exact .dK (s _ _ e)
end K8

set_option Elab.async false
set_option linter.all false
set_option maxRecDepth 100000
set_option maxHeartbeats 4000000
namespace L2
open PySem PySem.Spec PyProof.Rows
def rArL (C : Addr) (spF : Sp) : R2 := fun x y H Q => ∃ a dx fs, x = .ref a ∧ H a = some (.ins C dx fs) ∧ ((∃ i, y = .int i) ∨ ∃ c dy gs, y = .ref c ∧ H c = some (.ins C dy gs)) ∧ spF [x, y] H Q E0
section
variable {X : Cx} {C f g : Addr} {sym nm : String} {fd : FuncData} {ps : List Str} {n : Nat} {spF : Sp} {op : Operator}
/-- the same with the instance on the left -/
theorem op_arL (L : ArL X.K C op sym nm f) (R : ArR X.K C nm g) (F : FnOk X.prog X.w X.K X.mg X.base CX0 n f fd ps spF) (hb : Binds X.K fd ps []) (hr : Room n X.A) : OpN X (binaryOp op) (rArL C spF) := by
  intro E pins s σ H x y v u Q I rx ry ⟨a, dx, fs, ex, ha, hy, hsp⟩
  subst ex
  cases (show v = Value.ref a from rx)
  obtain ⟨mA, J, _⟩ := ins_get I.hok ha
  obtain ⟨od, J, _⟩ := J.look
  have go := run_two (E := E) F hb hr I rx ry hsp
  rcases hy with ⟨i, rfl⟩ | ⟨c, dy, gs, rfl, hc⟩
  · obtain ⟨ti, e⟩ := (show ∃ t, u = Value.int i t from ry)
    subst e
    obtain ⟨ro, ho⟩ := R.ho
    exact OA.bin_left_int L.hi I.kIn J L.hc L.hs L.hf R.hr ho R.hn R.up go
  · cases (show u = Value.ref c from ry)
    obtain ⟨mB, J', _⟩ := ins_get I.hok hc
    obtain ⟨od', J', _⟩ := J'.look
    exact OA.bin_twins L.hi I.kIn J L.hc L.hs L.hf J'.type go
/-- -x: of an int, or by the class's own method -/
def rUnO (C : Addr) (spN : Sp) : V → Hp → VK → Prop := fun x H Q => (∃ i, x = .int i ∧ Q (.int (-i)) H) ∨ ∃ a dx fs, x = .ref a ∧ H a = some (.ins C dx fs) ∧ spN [x] H Q E0
theorem un_own (hs : PySem.W.findIn X.K (.ref C) "__neg__" = some (some (.ref f))) (hf : PySem.W.isFn X.K (.ref f) = true) (F : FnOk X.prog X.w X.K X.mg X.base CX0 n f fd ps spF) (hb : Binds X.K fd ps []) (hr : Room n X.A) : UnR X (unaryOp .USub) (rUnO C spF) := by
  intro pins s σ H x v Q I rx h
  rcases h with ⟨i, rfl, q⟩ | ⟨a, dx, fs, rfl, ha, hsp⟩
  · exact un_neg pins s σ H _ v Q I rx ⟨i, rfl, q⟩
  · cases (show v = Value.ref a from rx)
    obtain ⟨mA, J, _⟩ := ins_get I.hok ha
    obtain ⟨od, J, _⟩ := J.look
    have hl := F.len _ _ _ _ hsp
    have r2 : Vals [V.ref a] [Value.ref a] := .cons rfl .nil
    unfold unaryOp
    refine wpAny_holding (wpAny_bind (PySem.W.special_fn I.kIn J hs (beq_iff_eq.mp hf) (wpAny_call (codeAny_mono (F.run X.A X.stack s H ⟨[.ref a], []⟩ [.ref a] [.ref a] _ E0 hr I.env0 (by
      have := hb s [.ref a] I.kIn (by simpa using hl)
      simpa using this) r2 hsp) fun r s' hq => ?_))))
    cases r with
    | error e => exact hq.elim
    | ok fl =>
      cases fl with
      | ret w =>
        obtain ⟨z, H', I', rz, q⟩ := I.after hq
        exact wpAny_pure ⟨z, H', I', rz, q⟩
      | next => exact False.elim hq
      | brk => exact False.elim hq
      | cont => exact False.elim hq
end
end L2

set_option Elab.async false
set_option linter.all false
set_option maxRecDepth 100000
set_option maxHeartbeats 4000000
namespace K8
open PySem L2
/-- a number: an integer, or a share with these fields -/
def Nm (C : Addr) (H : Hp) (v : V) (t n : Int) : Prop := (v = .int t ∧ n = 1) ∨ ∃ a dx, v = .ref a ∧ H a = some (.ins C dx (shF t n))
/-- lowest terms, of a moderate size -/
structure Low (t n : Int) : Prop where
  pos : 0 < n
  gcd : Nat.gcd t.natAbs n.natAbs = 1
  tb : t.natAbs < 2 ^ 4000
  nb : n.natAbs < 2 ^ 4000
theorem Nm.same {C : Addr} {H H' : Hp} {v : V} {t n : Int} (h : Nm C H v t n) (s : Same H H') : Nm C H' v t n := by
  rcases h with h | ⟨a, dx, e, h⟩
  · exact .inl h
  · exact .inr ⟨a, dx, e, s _ _ h⟩
theorem Nm.thing {K : PySem.W.Frag} {C : Addr} {H : Hp} {v : V} {t n : Int} (h : Nm C H v t n) : Thing K C H v := by
  rcases h with ⟨rfl, _⟩ | ⟨a, dx, rfl, h⟩
  · exact .fo (.int t)
  · exact .ins h
theorem Low.mulW {t n t' n' : Int} (h : t.natAbs < 2 ^ 4000) (h' : t'.natAbs < 2 ^ 4000) : CMulW t t' := wide_mul h h' (by decide) (by decide) (by decide)
theorem mul_lt {a b : Int} {i j : Nat} (h : a.natAbs < 2 ^ i) (h' : b.natAbs < 2 ^ j) : (a * b).natAbs < 2 ^ (i + j) := by
  rw [Int.natAbs_mul, Nat.pow_add]
  exact Nat.mul_lt_mul'' h h'
theorem log_of {a : Int} {i : Nat} (h : a.natAbs < 2 ^ i) (h0 : 0 < i) (hi : i ≤ 9000) : a.natAbs.log2 < 9000 := Nat.lt_of_lt_of_le (PySem.Flt.log2_lt_of h0 h) hi
section
variable {P : Program} {w : World} {K : PySem.W.Frag} {mg : Str → Option Value} {base : Heap} {C B : Addr}
/-- is_share(thing) -/
def spIsShare (K : PySem.W.Frag) (C : Addr) : Sp := fun vs H Q _ => ∃ x, vs = [x] ∧ ((∃ t n, Nm C H x t n ∧ Q (.bl true) H) ∨ ∃ T, Fo K H x T ∧ isI x = false ∧ Q (.bl false) H)
abbrev s_is_share : Stmt := top 23
theorem sc_is_share : FnScope ["thing"] ["thing"] (defScope s_is_share) := ⟨rfl, rfl, rfl, by decide +kernel, rfl, by decide +kernel, by decide +kernel⟩
theorem ok_is_share {f : Addr} {fd : FuncData} (F : Fun K "is_share" "is_share" s_is_share f fd) (T : ShT K mg C) (c_is_whole : Cal P w K mg base 1 "is_whole" ["thing"] (spWhole K C)) : FnOk P w K mg base CX0 2 f fd ["thing"] (spIsShare K C) := by
  refine F.ok sc_is_share (fun vs H Q E h => ?_) (fun cdv A outer s H vs Q E hr h => ?_)
  · obtain ⟨x, rfl, _⟩ := h
    rfl
  · obtain ⟨x, rfl, h⟩ := h
    refine ⟨_, (pss_one (ps_ret (pe_or (pe_callB call_isi (by rfl) T.bn.n_isinstance (by decide +kernel) (pa_cons (pv 0) (pa_cons (pe_glob (v := .ref C) rfl T.g_Share rfl) pa_nil))) (pe_one (pe_cal c_is_whole (hr.mono (by decide)) rfl (pa_cons (pv 0) pa_nil)))))), ?_⟩
    rcases h with ⟨t, n, ⟨rfl, rfl⟩ | ⟨a, dx, rfl, e⟩, k⟩ | ⟨T', fo, ix, k⟩
    · refine ⟨_, rfl, .int t, .ref C, _, _, false, rfl, .own C, (Fo.int t).ty, T.it.fo (H := H) (.int t), _, rfl, iteF ?_⟩
      exact ⟨_, rfl, .int t, rfl, .fo (.int t), k⟩
    · exact ⟨_, rfl, .ref a, .ref C, _, _, true, rfl, .own C, T.it.ty e, T.it.kself, _, rfl, iteT k⟩
    · refine ⟨_, rfl, x, .ref C, _, _, false, rfl, .own C, fo.ty, T.it.fo fo, _, rfl, iteF ?_⟩
      refine ⟨_, rfl, x, rfl, .fo fo, ?_⟩
      rw [ix]
      exact k
/-- share_of(number) -/
def spShareOf (C : Addr) : Sp := fun vs H Q _ => ∃ x t n, vs = [x] ∧ Nm C H x t n ∧ ∀ (a dx : Addr) (H' : Hp), Same H H' → H' a = some (.ins C dx (shF t n)) → (∀ b, x = .ref b → a = b) → Q (.ref a) H'
abbrev s_share_of : Stmt := top 24
theorem sc_share_of : FnScope ["thing"] ["thing"] (defScope s_share_of) := ⟨rfl, rfl, rfl, by decide +kernel, rfl, by decide +kernel, by decide +kernel⟩
theorem ok_share_of {f : Addr} {fd : FuncData} (F : Fun K "share_of" "share_of" s_share_of f fd) (T : ShT K mg C) (m : MkT P w K mg base C B) : FnOk P w K mg base CX0 6 f fd ["thing"] (spShareOf C) := by
  refine F.ok sc_share_of (fun vs H Q E h => ?_) (fun cdv A outer s H vs Q E hr h => ?_)
  · obtain ⟨x, t, n, rfl, _⟩ := h
    rfl
  · obtain ⟨x, t, n, rfl, h, k⟩ := h
    refine ⟨_, (pss_cons (ps_if (pt_val (pe_callB call_isi (by rfl) T.bn.n_isinstance (by decide +kernel) (pa_cons (pv 0) (pa_cons (pe_glob (v := .ref C) rfl T.g_Share rfl) pa_nil))))
        (pss_one (ps_ret (pv 0)))
        pss_nil)
      (pss_one (ps_ret (pe_share1 m hr rfl (pa_cons (pv 0) pa_nil))))), ?_⟩
    rcases h with ⟨rfl, rfl⟩ | ⟨a, dx, rfl, e⟩
    · refine ⟨_, rfl, .int t, .ref C, _, _, false, rfl, .own C, (Fo.int t).ty, T.it.fo (H := H) (.int t), _, rfl, iteF ?_⟩
      refine ⟨_, rfl, fun z dz hz hd ne => si_ok hz hd ne (a := t) (b := 1) (by decide) (by decide +kernel) fun H' s e => ⟨rfl, ?_⟩⟩
      rw [(low_int t).1, (low_int t).2] at e
      exact k z dz _ s e (fun b q => by cases q)
    · exact ⟨_, rfl, .ref a, .ref C, _, _, true, rfl, .own C, T.it.ty e, T.it.kself, _, rfl, iteT ⟨_, rfl, k a dx H (Same.refl H) e (fun b q => V.ref.inj q)⟩⟩
/-- share.less(number) -/
def spLess (C : Addr) : Sp := fun vs H Q _ => ∃ (a dx : Addr) (y : V) (t n t' n' : Int), vs = [.ref a, y] ∧ H a = some (.ins C dx (shF t n)) ∧ Nm C H y t' n' ∧ Low t n ∧ Low t' n' ∧ ∀ H', Same H H' → Q (.bl (decide (t * n' < t' * n))) H'
abbrev s_sless : Stmt := inClass (top 22) 12
theorem sc_sless : FnScope ["self", "other", "beside"] ["self", "other"] (defScope s_sless) := ⟨rfl, rfl, rfl, by decide +kernel, rfl, by decide +kernel, by decide +kernel⟩
theorem ok_sless {f : Addr} {fd : FuncData} (F : Fun K "less" "Share.less" s_sless f fd) (T : ShT K mg C) (c_of : Cal P w K mg base 6 "share_of" ["thing"] (spShareOf C)) : FnOk P w K mg base CX0 7 f fd ["self", "other"] (spLess C) := by
  refine F.ok sc_sless (fun vs H Q E h => ?_) (fun cdv A outer s H vs Q E hr h => ?_)
  · obtain ⟨a, dx, y, t, n, t', n', rfl, _⟩ := h
    rfl
  · obtain ⟨a, dx, y, t, n, t', n', rfl, ha, hy, l1, l2, k⟩ := h
    refine ⟨_, (pss_cons (ps_set (i := 2) sc_sless.nd rfl (Or.inl rfl) (pe_cal c_of hr rfl (pa_cons (pv 1) pa_nil)))
      (pss_one (ps_ret (pe_cmpR op_lt (pe_op op_mulW (pe_fld (pv 0) rfl) (pe_fld (pv 2) rfl)) (pe_op op_mulW (pe_fld (pv 2) rfl) (pe_fld (pv 0) rfl)) (nomark _))))), ?_⟩
    refine ⟨_, rfl, y, t', n', rfl, hy, fun b db H1 s1 e1 _ => ?_⟩
    have ha1 := s1 _ _ ha
    refine ⟨_, rfl, a, C, dx, _, _, rfl, ha1, T.it.cl, T.nT, shF_top _ _, _, rfl, b, C, db, _, _, rfl, e1, T.it.cl, T.nB, shF_bottom _ _, t, n', rfl, rfl, wide_mul l1.tb l2.nb (by decide) (by decide) (by decide), ?_⟩
    refine ⟨_, rfl, b, C, db, _, _, rfl, e1, T.it.cl, T.nT, shF_top _ _, _, rfl, a, C, dx, _, _, rfl, ha1, T.it.cl, T.nB, shF_bottom _ _, t', n, rfl, rfl, wide_mul l2.tb l1.nb (by decide) (by decide) (by decide), ?_⟩
    exact ⟨_, _, rfl, rfl, k _ s1⟩
end
end K8

set_option Elab.async false
set_option linter.all false
set_option maxRecDepth 100000
set_option maxHeartbeats 4000000
namespace K8
open PySem L2
theorem Low.neg {t n : Int} (h : Low t n) : Low (-t) n := ⟨h.pos, by rw [Int.natAbs_neg]; exact h.gcd, by rw [Int.natAbs_neg]; exact h.tb, h.nb⟩
theorem Low.one {i : Int} (h : i.natAbs < 2 ^ 4000) : Low i 1 := ⟨by decide, by show Nat.gcd i.natAbs 1 = 1; exact Nat.gcd_one_right _, h, by decide +kernel⟩
theorem Nm.neg_int {C : Addr} {H : Hp} (i : Int) : Nm C H (.int i) i 1 := .inl ⟨rfl, rfl⟩
/-- the methods for + and - are where they should be -/
structure ArT (P : Program) (w : World) (K : PySem.W.Frag) (mg : Str → Option Value) (base : Heap) (C : Addr) (op : Operator) (sym nm : String) (k k' : Nat) (sp spR : Sp) : Prop where
  ex : ∃ (f g : Addr) (fd gd : FuncData), ArL K C op sym nm f ∧ ArR K C nm g ∧ FnOk P w K mg base CX0 k f fd ["self", "other"] sp ∧ Binds K fd ["self", "other"] [] ∧ FnOk P w K mg base CX0 k' g gd ["self", "other"] spR ∧ Binds K gd ["self", "other"] []
/-- the left method alone -/
structure ArTL (P : Program) (w : World) (K : PySem.W.Frag) (mg : Str → Option Value) (base : Heap) (C : Addr) (op : Operator) (sym nm : String) (k : Nat) (sp : Sp) : Prop where
  ex : ∃ (f g : Addr) (fd : FuncData), ArL K C op sym nm f ∧ ArR K C nm g ∧ FnOk P w K mg base CX0 k f fd ["self", "other"] sp ∧ Binds K fd ["self", "other"] []
structure NegT (P : Program) (w : World) (K : PySem.W.Frag) (mg : Str → Option Value) (base : Heap) (C : Addr) (k : Nat) (sp : Sp) : Prop where
  ex : ∃ (f : Addr) (fd : FuncData), PySem.W.findIn K (.ref C) "__neg__" = some (some (.ref f)) ∧ PySem.W.isFn K (.ref f) = true ∧ FnOk P w K mg base CX0 k f fd ["self"] sp ∧ Binds K fd ["self"] []
theorem ArTL.op {X : Cx} {C : Addr} {op : Operator} {sym nm : String} {k : Nat} {sp : Sp} (c : ArTL X.prog X.w X.K X.mg X.base C op sym nm k sp) (hr : Room k X.A) : OpN X (binaryOp op) (rArL C sp) := by
  obtain ⟨f, g, fd, L, R, F, b⟩ := c.ex
  exact op_arL L R F b hr
theorem ArT.op {X : Cx} {C : Addr} {op : Operator} {sym nm : String} {k k' : Nat} {sp spR : Sp} (c : ArT X.prog X.w X.K X.mg X.base C op sym nm k k' sp spR) (hr : Room k X.A) (hr' : Room k' X.A) : OpN X (binaryOp op) (rAr C sp spR) := by
  obtain ⟨f, g, fd, gd, L, R, F, b, G, b'⟩ := c.ex
  exact op_ar L R F b hr G b' hr'
theorem NegT.op {X : Cx} {C : Addr} {k : Nat} {sp : Sp} (c : NegT X.prog X.w X.K X.mg X.base C k sp) (hr : Room k X.A) : UnR X (unaryOp .USub) (rUnO C sp) := by
  obtain ⟨f, fd, h1, h2, F, b⟩ := c.ex
  exact un_own h1 h2 F b hr
theorem other_of {C : Addr} {H : Hp} {y : V} {t n : Int} (h : Nm C H y t n) : (∃ i, y = .int i) ∨ ∃ c dy gs, y = .ref c ∧ H c = some (.ins C dy gs) := by
  rcases h with ⟨rfl, _⟩ | ⟨a, dx, rfl, e⟩
  · exact .inl ⟨t, rfl⟩
  · exact .inr ⟨a, dx, _, rfl, e⟩
/-- a new share with the lowest terms of a over b -/
def NewSh (C : Addr) (H : Hp) (Q : VK) (a b : Int) : Prop := ∀ (z dz : Addr) (H' : Hp), Same H H' → H' z = some (.ins C dz (shF (lowT a b) (lowB a b))) → Q (.ref z) H'
def spNeg (C : Addr) : Sp := fun vs H Q _ => ∃ (a dx : Addr) (t n : Int), vs = [.ref a] ∧ H a = some (.ins C dx (shF t n)) ∧ Low t n ∧ ∀ (z dz : Addr) (H' : Hp), Same H H' → H' z = some (.ins C dz (shF (-t) n)) → Q (.ref z) H'
def spAdd (C : Addr) : Sp := fun vs H Q _ => ∃ (a dx : Addr) (y : V) (t n t' n' : Int), vs = [.ref a, y] ∧ H a = some (.ins C dx (shF t n)) ∧ Nm C H y t' n' ∧ Low t n ∧ Low t' n' ∧ NewSh C H Q (t * n' + t' * n) (n * n')
def spSub (C : Addr) : Sp := fun vs H Q _ => ∃ (a dx : Addr) (y : V) (t n t' n' : Int), vs = [.ref a, y] ∧ H a = some (.ins C dx (shF t n)) ∧ Nm C H y t' n' ∧ Low t n ∧ Low t' n' ∧ NewSh C H Q (t * n' + -t' * n) (n * n')
def spRadd (C : Addr) : Sp := fun vs H Q _ => ∃ (a dx : Addr) (i t n : Int), vs = [.ref a, .int i] ∧ H a = some (.ins C dx (shF t n)) ∧ Low t n ∧ Low i 1 ∧ NewSh C H Q (t * 1 + i * n) (n * 1)
def spRsub (C : Addr) : Sp := fun vs H Q _ => ∃ (a dx : Addr) (i t n : Int), vs = [.ref a, .int i] ∧ H a = some (.ins C dx (shF t n)) ∧ Low t n ∧ Low i 1 ∧ NewSh C H Q (-t * 1 + i * n) (n * 1)
section
variable {P : Program} {w : World} {K : PySem.W.Frag} {mg : Str → Option Value} {base : Heap} {C B : Addr}
abbrev s_neg : Stmt := inClass (top 22) 3
theorem sc_neg : FnScope ["self"] ["self"] (defScope s_neg) := ⟨rfl, rfl, rfl, by decide +kernel, rfl, by decide +kernel, by decide +kernel⟩
theorem ok_neg {f : Addr} {fd : FuncData} (F : Fun K "__neg__" "Share.__neg__" s_neg f fd) (T : ShT K mg C) (m : MkT P w K mg base C B) : FnOk P w K mg base CX0 6 f fd ["self"] (spNeg C) := by
  refine F.ok sc_neg (fun vs H Q E h => ?_) (fun cdv A outer s H vs Q E hr h => ?_)
  · obtain ⟨a, dx, t, n, rfl, _⟩ := h
    rfl
  · obtain ⟨a, dx, t, n, rfl, ha, l, k⟩ := h
    refine ⟨_, (pss_one (ps_ret (pe_share2 m hr rfl (pa_cons (pe_un un_neg (pe_fld (pv 0) rfl)) (pa_cons (pe_fld (pv 0) rfl) pa_nil))))), ?_⟩
    refine ⟨_, rfl, a, C, dx, _, _, rfl, ha, T.it.cl, T.nT, shF_top _ _, t, rfl, _, rfl, a, C, dx, _, _, rfl, ha, T.it.cl, T.nB, shF_bottom _ _, fun z dz hz hd ne => si_ok hz hd ne (a := -t) (b := n) (by have := l.pos; omega) (log_of l.nb (by decide) (by decide)) fun H' s e => ⟨rfl, ?_⟩⟩
    have h1 := low_one (x := -t) l.pos (by rw [Int.natAbs_neg]; exact l.gcd)
    rw [h1.1, h1.2] at e
    exact k z dz H' s e
abbrev s_add : Stmt := inClass (top 22) 1
theorem sc_add : FnScope ["self", "other", "beside"] ["self", "other"] (defScope s_add) := ⟨rfl, rfl, rfl, by decide +kernel, rfl, by decide +kernel, by decide +kernel⟩
theorem ok_add {f : Addr} {fd : FuncData} (F : Fun K "__add__" "Share.__add__" s_add f fd) (T : ShT K mg C) (m : MkT P w K mg base C B) (c_is : Cal P w K mg base 2 "is_share" ["thing"] (spIsShare K C)) (c_of : Cal P w K mg base 6 "share_of" ["thing"] (spShareOf C)) :
    FnOk P w K mg base CX0 7 f fd ["self", "other"] (spAdd C) := by
  refine F.ok sc_add (fun vs H Q E h => ?_) (fun cdv A outer s H vs Q E hr h => ?_)
  · obtain ⟨a, dx, y, t, n, t', n', rfl, _⟩ := h
    rfl
  · obtain ⟨a, dx, y, t, n, t', n', rfl, ha, hy, l1, l2, k⟩ := h
    refine ⟨_, (pss_cons (ps_if (pt_not (pt_val (pe_cal c_is (hr.mono (by decide)) rfl (pa_cons (pv 1) pa_nil))))
        pss_never
        pss_nil)
      (pss_cons (ps_set (i := 2) sc_add.nd rfl (Or.inl rfl) (pe_cal c_of hr rfl (pa_cons (pv 1) pa_nil)))
      (pss_one (ps_ret (pe_share2 m (hr.mono (by decide)) rfl (pa_cons (pe_op op_add (pe_op op_mulW (pe_fld (pv 0) rfl) (pe_fld (pv 2) rfl)) (pe_op op_mulW (pe_fld (pv 2) rfl) (pe_fld (pv 0) rfl))) (pa_cons (pe_op op_mulW (pe_fld (pv 0) rfl) (pe_fld (pv 2) rfl)) pa_nil))))))), ?_⟩
    refine ⟨_, rfl, y, rfl, .inl ⟨t', n', hy, _, rfl, iteF ?_⟩⟩
    refine ⟨_, rfl, y, t', n', rfl, hy, fun b db H1 s1 e1 _ => ?_⟩
    have ha1 := s1 _ _ ha
    refine ⟨_, rfl, a, C, dx, _, _, rfl, ha1, T.it.cl, T.nT, shF_top _ _, _, rfl, b, C, db, _, _, rfl, e1, T.it.cl, T.nB, shF_bottom _ _, t, n', rfl, rfl, wide_mul l1.tb l2.nb (by decide) (by decide) (by decide), ?_⟩
    refine ⟨_, rfl, b, C, db, _, _, rfl, e1, T.it.cl, T.nT, shF_top _ _, _, rfl, a, C, dx, _, _, rfl, ha1, T.it.cl, T.nB, shF_bottom _ _, t', n, rfl, rfl, wide_mul l2.tb l1.nb (by decide) (by decide) (by decide), ?_⟩
    refine ⟨_, _, rfl, rfl, _, rfl, a, C, dx, _, _, rfl, ha1, T.it.cl, T.nB, shF_bottom _ _, _, rfl, b, C, db, _, _, rfl, e1, T.it.cl, T.nB, shF_bottom _ _, n, n', rfl, rfl, wide_mul l1.nb l2.nb (by decide) (by decide) (by decide), ?_⟩
    have p1 := l1.pos
    have p2 := l2.pos
    have pp : 0 < n * n' := Int.mul_pos p1 p2
    refine fun z dz hz hd ne => si_ok hz hd ne (a := t * n' + t' * n) (b := n * n') (by omega) (log_of (mul_lt l1.nb l2.nb) (by decide) (by decide)) fun H' s e => ⟨rfl, ?_⟩
    exact k z dz H' (s1.trans s) e
abbrev s_radd : Stmt := inClass (top 22) 2
theorem sc_radd : FnScope ["self", "other"] ["self", "other"] (defScope s_radd) := ⟨rfl, rfl, rfl, by decide +kernel, rfl, by decide +kernel, by decide +kernel⟩
theorem ok_radd {f : Addr} {fd : FuncData} (F : Fun K "__radd__" "Share.__radd__" s_radd f fd) (c_is_whole : Cal P w K mg base 1 "is_whole" ["thing"] (spWhole K C)) (ad : ArTL P w K mg base C .Add "+" "add" 7 (spAdd C)) :
    FnOk P w K mg base CX0 8 f fd ["self", "other"] (spRadd C) := by
  refine F.ok sc_radd (fun vs H Q E h => ?_) (fun cdv A outer s H vs Q E hr h => ?_)
  · obtain ⟨a, dx, i, t, n, rfl, _⟩ := h
    rfl
  · obtain ⟨a, dx, i, t, n, rfl, ha, l1, l2, k⟩ := h
    have o := (ArTL.op (X := (cxOf CX0 P w K mg base ["self", "other"] "Share.__radd__" (defScope s_radd) f cdv A outer s H E).nox) ad hr).toR
    refine ⟨_, (pss_cons (ps_if (pt_not (pt_val (pe_cal c_is_whole (hr.mono (by decide)) rfl (pa_cons (pv 1) pa_nil))))
        pss_never
        pss_nil)
      (pss_one (ps_ret (pe_op o (pv 0) (pv 1))))), ?_⟩
    refine ⟨_, rfl, .int i, rfl, .fo (.int i), _, rfl, iteF ?_⟩
    exact ⟨_, rfl, _, rfl, a, dx, _, rfl, ha, .inl ⟨i, rfl⟩, a, dx, .int i, t, n, i, 1, rfl, ha, .inl ⟨rfl, rfl⟩, l1, l2, k⟩
abbrev s_sub : Stmt := inClass (top 22) 4
theorem sc_sub : FnScope ["self", "other"] ["self", "other"] (defScope s_sub) := ⟨rfl, rfl, rfl, by decide +kernel, rfl, by decide +kernel, by decide +kernel⟩
theorem ok_sub {f : Addr} {fd : FuncData} (F : Fun K "__sub__" "Share.__sub__" s_sub f fd) (c_is : Cal P w K mg base 2 "is_share" ["thing"] (spIsShare K C)) (ad : ArTL P w K mg base C .Add "+" "add" 7 (spAdd C)) (ng : NegT P w K mg base C 6 (spNeg C)) :
    FnOk P w K mg base CX0 8 f fd ["self", "other"] (spSub C) := by
  refine F.ok sc_sub (fun vs H Q E h => ?_) (fun cdv A outer s H vs Q E hr h => ?_)
  · obtain ⟨a, dx, y, t, n, t', n', rfl, _⟩ := h
    rfl
  · obtain ⟨a, dx, y, t, n, t', n', rfl, ha, hy, l1, l2, k⟩ := h
    have o := (ArTL.op (X := (cxOf CX0 P w K mg base ["self", "other"] "Share.__sub__" (defScope s_sub) f cdv A outer s H E).nox) ad hr).toR
    have un := NegT.op (X := (cxOf CX0 P w K mg base ["self", "other"] "Share.__sub__" (defScope s_sub) f cdv A outer s H E).nox) ng (hr.mono (by decide))
    refine ⟨_, (pss_cons (ps_if (pt_not (pt_val (pe_cal c_is (hr.mono (by decide)) rfl (pa_cons (pv 1) pa_nil))))
        pss_never
        pss_nil)
      (pss_one (ps_ret (pe_op o (pv 0) (pe_un un (pv 1)))))), ?_⟩
    refine ⟨_, rfl, y, rfl, .inl ⟨t', n', hy, _, rfl, iteF ?_⟩⟩
    refine ⟨_, rfl, _, rfl, ?_⟩
    rcases hy with ⟨rfl, rfl⟩ | ⟨b, db, rfl, hb⟩
    · exact .inl ⟨t', rfl, a, dx, _, rfl, ha, .inl ⟨_, rfl⟩, a, dx, .int (-t'), t, n, -t', 1, rfl, ha, .inl ⟨rfl, rfl⟩, l1, l2.neg, k⟩
    · refine .inr ⟨b, db, _, rfl, hb, b, db, t', n', rfl, hb, l2, fun z dz H1 s1 e1 => ?_⟩
      exact ⟨a, dx, _, rfl, s1 _ _ ha, .inr ⟨z, dz, _, rfl, e1⟩, a, dx, .ref z, t, n, -t', n', rfl, s1 _ _ ha, .inr ⟨z, dz, rfl, e1⟩, l1, l2.neg, fun z2 dz2 H2 s2 e2 => k z2 dz2 H2 (s1.trans s2) e2⟩
abbrev s_rsub : Stmt := inClass (top 22) 5
theorem sc_rsub : FnScope ["self", "other"] ["self", "other"] (defScope s_rsub) := ⟨rfl, rfl, rfl, by decide +kernel, rfl, by decide +kernel, by decide +kernel⟩
theorem ok_rsub {f : Addr} {fd : FuncData} (F : Fun K "__rsub__" "Share.__rsub__" s_rsub f fd) (c_is_whole : Cal P w K mg base 1 "is_whole" ["thing"] (spWhole K C)) (ad : ArTL P w K mg base C .Add "+" "add" 7 (spAdd C)) (ng : NegT P w K mg base C 6 (spNeg C)) :
    FnOk P w K mg base CX0 8 f fd ["self", "other"] (spRsub C) := by
  refine F.ok sc_rsub (fun vs H Q E h => ?_) (fun cdv A outer s H vs Q E hr h => ?_)
  · obtain ⟨a, dx, i, t, n, rfl, _⟩ := h
    rfl
  · obtain ⟨a, dx, i, t, n, rfl, ha, l1, l2, k⟩ := h
    have o := (ArTL.op (X := (cxOf CX0 P w K mg base ["self", "other"] "Share.__rsub__" (defScope s_rsub) f cdv A outer s H E).nox) ad hr).toR
    have un := NegT.op (X := (cxOf CX0 P w K mg base ["self", "other"] "Share.__rsub__" (defScope s_rsub) f cdv A outer s H E).nox) ng (hr.mono (by decide))
    refine ⟨_, (pss_cons (ps_if (pt_not (pt_val (pe_cal c_is_whole (hr.mono (by decide)) rfl (pa_cons (pv 1) pa_nil))))
        pss_never
        pss_nil)
      (pss_one (ps_ret (pe_op o (pe_un un (pv 0)) (pv 1))))), ?_⟩
    refine ⟨_, rfl, .int i, rfl, .fo (.int i), _, rfl, iteF ?_⟩
    refine ⟨_, rfl, .inr ⟨a, dx, _, rfl, ha, a, dx, t, n, rfl, ha, l1, fun z dz H1 s1 e1 => ⟨_, rfl, ?_⟩⟩⟩
    exact ⟨z, dz, _, rfl, e1, .inl ⟨i, rfl⟩, z, dz, .int i, -t, n, i, 1, rfl, e1, .inl ⟨rfl, rfl⟩, l1.neg, l2, fun z2 dz2 H2 s2 e2 => k z2 dz2 H2 (s1.trans s2) e2⟩
end
end K8

set_option Elab.async false
set_option linter.all false
set_option maxRecDepth 100000
set_option maxHeartbeats 4000000
namespace K8
open PySem L2
theorem low_cross (S D : Int) : lowT S D * D = S * lowB S D := by
  have h1 := low_mulT S D
  have h2 := low_mulB S D
  calc lowT S D * D = lowT S D * (lowB S D * sg S D) := by rw [h2]
    _ = (lowT S D * sg S D) * lowB S D := by rw [Int.mul_comm (lowB S D), Int.mul_assoc]
    _ = S * lowB S D := by rw [h1]
/-- lowest terms are told by the ratio -/
theorem low_unique {p q p' q' : Int} (hq : 0 < q) (hq' : 0 < q') (g : Nat.gcd p.natAbs q.natAbs = 1) (g' : Nat.gcd p'.natAbs q'.natAbs = 1) (e : p * q' = p' * q) : p = p' ∧ q = q' := by
  have ea : p.natAbs * q'.natAbs = p'.natAbs * q.natAbs := by rw [← Int.natAbs_mul, ← Int.natAbs_mul, e]
  have d1 : q.natAbs ∣ q'.natAbs := by
    have c : Nat.Coprime q.natAbs p.natAbs := by
      show Nat.gcd q.natAbs p.natAbs = 1
      rw [Nat.gcd_comm]
      exact g
    exact c.dvd_of_dvd_mul_left ⟨p'.natAbs, by rw [ea, Nat.mul_comm]⟩
  have d2 : q'.natAbs ∣ q.natAbs := by
    have c : Nat.Coprime q'.natAbs p'.natAbs := by
      show Nat.gcd q'.natAbs p'.natAbs = 1
      rw [Nat.gcd_comm]
      exact g'
    exact c.dvd_of_dvd_mul_left ⟨p.natAbs, by rw [← ea, Nat.mul_comm]⟩
  have eq : q = q' := by
    have := Nat.dvd_antisymm d1 d2
    omega
  subst eq
  exact ⟨Int.eq_of_mul_eq_mul_right (by omega) e, rfl⟩
theorem low_ratio {a b c d : Int} (hb : b ≠ 0) (hd : d ≠ 0) (e : a * d = c * b) : lowT a b = lowT c d ∧ lowB a b = lowB c d := by
  refine low_unique (lowB_pos hb) (lowB_pos hd) (low_gcd hb) (low_gcd hd) ?_
  have h1 := low_cross a b
  have h2 := low_cross c d
  have key : (lowT a b * lowB c d) * (b * d) = (lowT c d * lowB a b) * (b * d) := by
    calc (lowT a b * lowB c d) * (b * d) = (lowT a b * b) * (d * lowB c d) := by ac_rfl
      _ = (a * lowB a b) * (d * lowB c d) := by rw [h1]
      _ = (a * d) * (lowB a b * lowB c d) := by ac_rfl
      _ = (c * b) * (lowB a b * lowB c d) := by rw [e]
      _ = (c * lowB c d) * (lowB a b * b) := by ac_rfl
      _ = (lowT c d * d) * (lowB a b * b) := by rw [← h2]
      _ = (lowT c d * lowB a b) * (b * d) := by ac_rfl
  exact Int.eq_of_mul_eq_mul_right (Int.mul_ne_zero hb hd) key
/-- v is the number S over D -/
def Num (C : Addr) (H : Hp) (v : V) (S D : Int) : Prop := Nm C H v (lowT S D) (lowB S D)
theorem Num.same {C : Addr} {H H' : Hp} {v : V} {S D : Int} (h : Num C H v S D) (s : Same H H') : Num C H' v S D := Nm.same h s
theorem low_of {S D : Int} (hD : 0 < D) (hS : S.natAbs < 2 ^ 4000) (hDb : D.natAbs < 2 ^ 4000) : Low (lowT S D) (lowB S D) :=
  ⟨lowB_pos (by omega), low_gcd (by omega), Nat.lt_of_le_of_lt (lowT_le (by omega)) hS, Nat.lt_of_le_of_lt (lowB_le (by omega)) hDb⟩
theorem low_sum {S S' D : Int} (hD : 0 < D) : lowT (lowT S D * lowB S' D + lowT S' D * lowB S D) (lowB S D * lowB S' D) = lowT (S + S') D ∧ lowB (lowT S D * lowB S' D + lowT S' D * lowB S D) (lowB S D * lowB S' D) = lowB (S + S') D := by
  have p1 := lowB_pos (a := S) (b := D) (by omega)
  have p2 := lowB_pos (a := S') (b := D) (by omega)
  refine low_ratio (Int.mul_ne_zero (by omega) (by omega)) (by omega) ?_
  have h1 := low_cross S D
  have h2 := low_cross S' D
  rw [Int.add_mul, Int.add_mul]
  congr 1
  · calc lowT S D * lowB S' D * D = (lowT S D * D) * lowB S' D := by ac_rfl
      _ = S * (lowB S D * lowB S' D) := by rw [h1]; ac_rfl
  · calc lowT S' D * lowB S D * D = (lowT S' D * D) * lowB S D := by ac_rfl
      _ = S' * (lowB S D * lowB S' D) := by rw [h2]; ac_rfl
theorem low_neg {S D : Int} (hD : 0 < D) : lowT (-S) D = -lowT S D ∧ lowB (-S) D = lowB S D := by
  refine low_unique (lowB_pos (by omega)) (lowB_pos (by omega)) (low_gcd (by omega)) (by rw [Int.natAbs_neg]; exact low_gcd (by omega)) ?_
  have h1 := low_cross (-S) D
  have h2 := low_cross S D
  have key : (lowT (-S) D * lowB S D) * D = (-lowT S D * lowB (-S) D) * D := by
    calc (lowT (-S) D * lowB S D) * D = (lowT (-S) D * D) * lowB S D := by ac_rfl
      _ = (-S * lowB (-S) D) * lowB S D := by rw [h1]
      _ = -(S * lowB S D) * lowB (-S) D := by rw [Int.neg_mul, Int.neg_mul, Int.neg_mul]; congr 1; ac_rfl
      _ = -(lowT S D * D) * lowB (-S) D := by rw [h2]
      _ = (-lowT S D * lowB (-S) D) * D := by rw [Int.neg_mul, Int.neg_mul, Int.neg_mul]; congr 1; ac_rfl
  exact Int.eq_of_mul_eq_mul_right (by omega) key
theorem low_diff {S S' D : Int} (hD : 0 < D) : lowT (lowT S D * lowB S' D + -lowT S' D * lowB S D) (lowB S D * lowB S' D) = lowT (S - S') D ∧ lowB (lowT S D * lowB S' D + -lowT S' D * lowB S D) (lowB S D * lowB S' D) = lowB (S - S') D := by
  have h := low_sum (S := S) (S' := -S') hD
  rw [(low_neg (S := S') hD).1, (low_neg (S := S') hD).2] at h
  rw [Int.sub_eq_add_neg]
  exact h
theorem low_lt {S S' D : Int} (hD : 0 < D) : (lowT S D * lowB S' D < lowT S' D * lowB S D) ↔ S < S' := by
  have p1 := lowB_pos (a := S) (b := D) (by omega)
  have p2 := lowB_pos (a := S') (b := D) (by omega)
  have h1 := low_cross S D
  have h2 := low_cross S' D
  have e1 : (lowT S D * lowB S' D) * D = S * (lowB S D * lowB S' D) := by
    calc lowT S D * lowB S' D * D = (lowT S D * D) * lowB S' D := by ac_rfl
      _ = S * (lowB S D * lowB S' D) := by rw [h1]; ac_rfl
  have e2 : (lowT S' D * lowB S D) * D = S' * (lowB S D * lowB S' D) := by
    calc lowT S' D * lowB S D * D = (lowT S' D * D) * lowB S D := by ac_rfl
      _ = S' * (lowB S D * lowB S' D) := by rw [h2]; ac_rfl
  have pp : 0 < lowB S D * lowB S' D := Int.mul_pos p1 p2
  constructor
  · intro h
    have := Int.mul_lt_mul_of_pos_right h hD
    rw [e1, e2] at this
    exact Int.lt_of_mul_lt_mul_right this (Int.le_of_lt pp)
  · intro h
    have := Int.mul_lt_mul_of_pos_right h pp
    rw [← e1, ← e2] at this
    exact Int.lt_of_mul_lt_mul_right this (Int.le_of_lt hD)
theorem low_whole {i D : Int} (hD : 0 < D) : lowT (i * D) D = i ∧ lowB (i * D) D = 1 := by
  have h := low_ratio (a := i * D) (b := D) (c := i) (d := 1) (by omega) (by decide) (by rw [Int.mul_one])
  rw [h.1, h.2]
  exact low_int i
theorem Num.int {C : Addr} {H : Hp} {D : Int} (hD : 0 < D) (i : Int) : Num C H (.int i) (i * D) D := by
  unfold Num
  rw [(low_whole hD).1, (low_whole hD).2]
  exact .inl ⟨rfl, rfl⟩
theorem low_one_iff {S D : Int} (hD : 0 < D) : (lowT S D = 1 ∧ lowB S D = 1) ↔ S = D := by
  have h := low_cross S D
  constructor
  · rintro ⟨h1, h2⟩
    rw [h1, h2] at h
    omega
  · rintro rfl
    have := low_whole (i := 1) hD
    rw [Int.one_mul] at this
    exact this
end K8

set_option Elab.async false
set_option linter.all false
set_option maxRecDepth 100000
set_option maxHeartbeats 4000000
namespace K8
open PySem L2
theorem sum_bound {B : Nat} : ∀ (l : List Int), (∀ S ∈ l, S.natAbs ≤ B) → l.sum.natAbs ≤ l.length * B
  | [], _ => by simp
  | a :: r, h => by
    have h1 := sum_bound r fun S hS => h S (List.mem_cons_of_mem _ hS)
    have h2 := h a List.mem_cons_self
    rw [List.sum_cons, List.length_cons, Nat.succ_mul]
    have := Int.natAbs_add_le a r.sum
    omega
theorem sum_small {l : List Int} (hl : l.length ≤ 1000) (h : ∀ S ∈ l, S.natAbs < 2 ^ 3000) : l.sum.natAbs < 2 ^ 4000 := by
  have h1 := sum_bound (B := 2 ^ 3000) l fun S hS => Nat.le_of_lt (h S hS)
  have h2 : l.length * 2 ^ 3000 ≤ 1000 * 2 ^ 3000 := Nat.mul_le_mul_right _ hl
  exact Nat.lt_of_le_of_lt (Nat.le_trans h1 h2) (by decide +kernel)
theorem mem_of_at {α : Type} {l : List α} {i : Nat} {x : α} (h : l[i]? = some x) : x ∈ l := List.mem_of_getElem? h
/-- numbers over D -/
def Nums (C : Addr) (D : Int) (H : Hp) (xs : List V) (Ss : List Int) : Prop := xs.length = Ss.length ∧ ∀ (i : Nat) (x : V), xs[i]? = some x → ∃ S : Int, Ss[i]? = some S ∧ Num C H x S D
theorem Nums.same {C : Addr} {D : Int} {H H' : Hp} {xs : List V} {Ss : List Int} (h : Nums C D H xs Ss) (s : Same H H') : Nums C D H' xs Ss := ⟨h.1, fun i x e => let ⟨S, e2, n⟩ := h.2 i x e; ⟨S, e2, n.same s⟩⟩
theorem SqT.same {K : PySem.W.Frag} {H H' : Hp} {a : Addr} {xs : List V} (h : SqT K H a xs) (e : Same H H') : SqT K H' a xs := by
  rcases h with (h | ⟨o, h⟩) | h
  · exact .inl (.inl (e _ _ h))
  · exact .inl (.inr ⟨o, e _ _ h⟩)
  · exact .inr h
abbrev AddT (P : Program) (w : World) (K : PySem.W.Frag) (mg : Str → Option Value) (base : Heap) (C : Addr) : Prop := ArT P w K mg base C .Add "+" "add" 7 8 (spAdd C) (spRadd C)
abbrev SubT (P : Program) (w : World) (K : PySem.W.Frag) (mg : Str → Option Value) (base : Heap) (C : Addr) : Prop := ArT P w K mg base C .Sub "-" "sub" 8 8 (spSub C) (spRsub C)
/-- total(row) -/
def spTotal (K : PySem.W.Frag) (C : Addr) : Sp := fun vs H Q _ => ∃ (l : Addr) (xs : List V) (Ss : List Int) (D : Int), vs = [.ref l] ∧ SqT K H l xs ∧ Nums C D H xs Ss ∧ 0 < D ∧ D.natAbs < 2 ^ 4000 ∧ Ss.length ≤ 1000 ∧ (∀ S ∈ Ss, S.natAbs < 2 ^ 3000) ∧
  ∀ (a dx : Addr) (H' : Hp), Same H H' → H' a = some (.ins C dx (shF (lowT Ss.sum D) (lowB Ss.sum D))) → Q (.ref a) H'
section
variable {P : Program} {w : World} {K : PySem.W.Frag} {mg : Str → Option Value} {base : Heap} {C B : Addr}
abbrev s_total : Stmt := top 26
theorem sc_total : FnScope ["row"] ["row"] (defScope s_total) := ⟨rfl, rfl, rfl, by decide +kernel, rfl, by decide +kernel, by decide +kernel⟩
theorem ok_total {f : Addr} {fd : FuncData} (F : Fun K "total" "total" s_total f fd) (m : MkT P w K mg base C B) (nt : NoTxt K C) (n_sum : mg "sum" = none) (ad : AddT P w K mg base C) : FnOk P w K mg base CX0 10 f fd ["row"] (spTotal K C) := by
  refine F.ok sc_total (fun vs H Q E h => ?_) (fun cdv A outer s H vs Q E hr h => ?_)
  · obtain ⟨l, xs, Ss, D, rfl, _⟩ := h
    rfl
  · obtain ⟨l, xs, Ss, D, rfl, hl, hn, hD, hDb, hlen, hS, k⟩ := h
    have o := ArT.op (X := (cxOf CX0 P w K mg base ["row"] "total" (defScope s_total) f cdv A outer s H E).nox.inn) ad (hr.in1.mono (by decide)) (hr.in1.mono (by decide))
    refine ⟨_, pss_one (ps_ret (pe_callBK (cr_sumO rfl o) rfl n_sum PyProof.Rows.boot_sum (pa_cons (pv 0) pa_nil) (pk_cons (pe_share1 m (hr.mono (by decide)) rfl (pa_cons pe_int pa_nil)) pk_nil))), ?_⟩
    refine ⟨_, rfl, fun z dz hz hd ne => si_ok hz hd ne (a := 0) (b := 1) (by decide) (by decide +kernel) fun H1 s1 e1 => ⟨rfl, ?_⟩⟩
    have e0 : shF (lowT 0 1) (lowB 0 1) = shF (lowT (Ss.take 0).sum D) (lowB (Ss.take 0).sum D) := by
      have h1 := low_whole (i := 0) hD
      have h2 := low_int 0
      rw [Int.zero_mul] at h1
      rw [h2.1, h2.2, List.take_zero, List.sum_nil, h1.1, h1.2]
    rw [e0] at e1
    refine ⟨l, z, C, dz, _, xs, rfl, rfl, e1, nt, fun i acc H' => Same H1 H' ∧ ∃ a dx, acc = .ref a ∧ H' a = some (.ins C dx (shF (lowT (Ss.take i).sum D) (lowB (Ss.take i).sum D))),
      ⟨Same.refl _, z, dz, rfl, e1⟩, fun i acc H' ⟨_, a, _, e, _⟩ => ⟨a, e⟩, fun i acc H' _ ⟨s2, _⟩ => SqT.same hl (s1.trans s2), ?_, ?_⟩
    · rintro i acc x H' hx ⟨s2, a, dx, rfl, ea⟩
      obtain ⟨S, hSi, nx⟩ := (hn.same (s1.trans s2)).2 i x hx
      have hi : i < Ss.length := (List.getElem?_eq_some_iff.mp hSi).1
      have b1 : (Ss.take i).sum.natAbs < 2 ^ 4000 := sum_small (by rw [List.length_take]; omega) fun S hm => hS S (List.mem_of_mem_take hm)
      have b2 : S.natAbs < 2 ^ 4000 := Nat.lt_trans (hS S (mem_of_at hSi)) (by decide +kernel)
      refine .inl ⟨a, dx, _, rfl, ea, other_of nx, a, dx, x, _, _, _, _, rfl, ea, nx, low_of hD b1 hDb, low_of hD b2 hDb, fun z2 dz2 H2 s3 e3 => ?_⟩
      rw [(low_sum hD).1, (low_sum hD).2] at e3
      refine ⟨s2.trans s3, z2, dz2, rfl, ?_⟩
      rw [take_more hSi, List.sum_append, List.sum_cons, List.sum_nil, Int.add_zero]
      exact e3
    · rintro acc H' ⟨s2, a, dx, rfl, ea⟩
      rw [hn.1, List.take_length] at ea
      exact k a dx H' (s1.trans s2) ea
/-- is_from_zero(thing) -/
def spFrom0 (K : PySem.W.Frag) (C : Addr) : Sp := fun vs H Q _ => ∃ x, vs = [x] ∧ ((∃ S D, Num C H x S D ∧ 0 < D ∧ S.natAbs < 2 ^ 4000 ∧ D.natAbs < 2 ^ 4000 ∧ ∀ H', Same H H' → Q (.bl (decide (0 ≤ S))) H') ∨ ∃ T, Fo K H x T ∧ isI x = false ∧ ∀ H', Same H H' → Q (.bl false) H')
/-- the method less -/
structure LsT (P : Program) (w : World) (K : PySem.W.Frag) (mg : Str → Option Value) (base : Heap) (C : Addr) : Prop where
  ex : ∃ (f : Addr) (fd : FuncData), Meth K C "less" f ∧ FnOk P w K mg base CX0 7 f fd ["self", "other"] (spLess C) ∧ Binds K fd ["self", "other"] []
theorem less_none (t n : Int) : (shF t n).lookup ("less" : Str) = none := by
  unfold shF
  rw [lookup_putF, if_neg (by decide +kernel), lookup_putF, if_neg (by decide +kernel)]
  rfl
abbrev s_from0 : Stmt := top 27
theorem sc_from0 : FnScope ["thing"] ["thing"] (defScope s_from0) := ⟨rfl, rfl, rfl, by decide +kernel, rfl, by decide +kernel, by decide +kernel⟩
theorem ok_from0 {f : Addr} {fd : FuncData} (F : Fun K "is_from_zero" "is_from_zero" s_from0 f fd) (T : ShT K mg C) (c_is : Cal P w K mg base 2 "is_share" ["thing"] (spIsShare K C)) (c_of : Cal P w K mg base 6 "share_of" ["thing"] (spShareOf C)) (ls : LsT P w K mg base C) :
    FnOk P w K mg base CX0 8 f fd ["thing"] (spFrom0 K C) := by
  obtain ⟨g, gd, M, G, bG⟩ := ls.ex
  refine F.ok sc_from0 (fun vs H Q E h => ?_) (fun cdv A outer s H vs Q E hr h => ?_)
  · obtain ⟨x, rfl, _⟩ := h
    rfl
  · obtain ⟨x, rfl, h⟩ := h
    refine ⟨_, (pss_one (ps_ret (pe_and (pe_cal c_is (hr.mono (by decide)) rfl (pa_cons (pv 0) pa_nil)) (pe_one (pe_not (pe_meth (pl := _) (pe_cal c_of (hr.mono (by decide)) rfl (pa_cons (pv 0) pa_nil)) T.it.cl M G hr bG .nil pass0 (pa_cons pe_int pa_nil))))))), ?_⟩
    rcases h with ⟨S, D, hx, hD, hS, hDb, k⟩ | ⟨T', fo, ix, k⟩
    · refine ⟨_, rfl, x, rfl, .inl ⟨_, _, hx, _, rfl, iteT ?_⟩⟩
      refine ⟨_, rfl, x, _, _, rfl, hx, fun a dx H1 s1 e1 _ => ⟨a, dx, _, rfl, e1, less_none _ _, a, dx, .int 0, _, _, 0, 1, rfl, e1, .inl ⟨rfl, rfl⟩, low_of hD hS hDb, Low.one (by decide +kernel), fun H2 s2 => ⟨_, rfl, ?_⟩⟩⟩
      have h := low_lt (S := S) (S' := 0 * D) hD
      rw [(low_whole hD).1, (low_whole hD).2, Int.zero_mul] at h
      have e : (!decide (lowT S D * 1 < 0 * lowB S D)) = decide (0 ≤ S) := by
        rw [Bool.eq_iff_iff]
        simp only [Bool.not_eq_true', decide_eq_false_iff_not, decide_eq_true_eq]
        rw [Int.zero_mul, h]
        omega
      rw [e]
      exact k H2 (s1.trans s2)
    · exact ⟨_, rfl, x, rfl, .inr ⟨T', fo, ix, _, rfl, iteF (k H (Same.refl H))⟩⟩
end
end K8

set_option Elab.async false
set_option linter.all false
set_option maxRecDepth 100000
set_option maxHeartbeats 4000000
namespace K8
open PySem L2
/-- a thing that is no tuple -/
inductive NotTup (K : PySem.W.Frag) (C : Addr) (H : Hp) : V → Prop where
  | fo {x : V} {T : String} (h : Fo K H x T) (ne : T ≠ "tuple") : NotTup K C H x
  | ins {a dx : Addr} {fs : List (Str × V)} (e : H a = some (.ins C dx fs)) : NotTup K C H (.ref a)
theorem NotTup.kit {K : PySem.W.Frag} {C : Addr} {H : Hp} {x : V} (I : InsT K C) (tu : PySem.W.kitOne K (.ref C) (.type "tuple") = some false) (h : NotTup K C H x) : ∃ t, TyX K H x t ∧ PySem.W.kitOne K t (.type "tuple") = some false := by
  cases h with
  | ins e => exact ⟨_, I.ty e, tu⟩
  | fo h ne =>
    refine ⟨_, h.ty, ?_⟩
    cases h with
    | non => exact kit_ty (r := false) (by decide +kernel)
    | bl b => exact kit_ty (r := false) (by decide +kernel)
    | int i => exact kit_ty (r := false) (by decide +kernel)
    | str x => exact kit_ty (r := false) (by decide +kernel)
    | lst e => exact kit_ty (r := false) (by decide +kernel)
    | tup e => exact absurd rfl ne
    | dK e => exact kit_ty (r := false) (by decide +kernel)
/-- an item: a number over D, or a thing that is none -/
def Item (K : PySem.W.Frag) (C : Addr) (D : Int) (H : Hp) (x : V) : Option Int → Prop
  | some S => Num C H x S D ∧ S.natAbs < 2 ^ 3000
  | none => ∃ T, Fo K H x T ∧ isI x = false
theorem fo_up {K : PySem.W.Frag} {H H' : Hp} {x : V} {T : String} (h : Fo K H x T) (s : Same H H') : Fo K H' x T := fo_same h s
theorem Item.same {K : PySem.W.Frag} {C : Addr} {D : Int} {H H' : Hp} {x : V} {o : Option Int} (h : Item K C D H x o) (s : Same H H') : Item K C D H' x o := by
  cases o with
  | some S => exact ⟨h.1.same s, h.2⟩
  | none =>
    obtain ⟨T, fo, ix⟩ := h
    exact ⟨T, fo_same fo s, ix⟩
def Items (K : PySem.W.Frag) (C : Addr) (D : Int) (H : Hp) (xs : List V) (os : List (Option Int)) : Prop := xs.length = os.length ∧ ∀ (i : Nat) (x : V), xs[i]? = some x → ∃ o : Option Int, os[i]? = some o ∧ Item K C D H x o
theorem Items.same {K : PySem.W.Frag} {C : Addr} {D : Int} {H H' : Hp} {xs : List V} {os : List (Option Int)} (h : Items K C D H xs os) (s : Same H H') : Items K C D H' xs os := ⟨h.1, fun i x e => let ⟨o, e2, n⟩ := h.2 i x e; ⟨o, e2, n.same s⟩⟩
def from0 : Option Int → Bool
  | some S => decide (0 ≤ S)
  | none => false
/-- a spread over D -/
def sprB (D : Int) (os : List (Option Int)) : Bool := (os.map from0).all id && decide ((os.map (·.getD 0)).sum = D)
theorem Items.nums {K : PySem.W.Frag} {C : Addr} {D : Int} {H : Hp} {xs : List V} {os : List (Option Int)} (h : Items K C D H xs os) (a : (os.map from0).all id = true) : Nums C D H xs (os.map (·.getD 0)) ∧ ∀ S ∈ os.map (·.getD 0), S.natAbs < 2 ^ 3000 := by
  have each : ∀ o ∈ os, ∃ S, o = some S := fun o ho => by
    have := List.all_eq_true.mp a (from0 o) (List.mem_map_of_mem ho)
    cases o with
    | some S => exact ⟨S, rfl⟩
    | none => cases this
  have bound : ∀ (i : Nat) (o : Option Int), os[i]? = some o → ∃ x, xs[i]? = some x := fun i o e => by
    have hi := (List.getElem?_eq_some_iff.mp e).1
    rw [← h.1] at hi
    exact ⟨xs[i], List.getElem?_eq_getElem hi⟩
  refine ⟨⟨by rw [List.length_map]; exact h.1, fun i x e => ?_⟩, fun S hS => ?_⟩
  · obtain ⟨o, e2, n⟩ := h.2 i x e
    obtain ⟨S, rfl⟩ := each o (mem_of_at e2)
    exact ⟨S, by rw [List.getElem?_map, e2]; rfl, n.1⟩
  · obtain ⟨o, ho, rfl⟩ := List.mem_map.mp hS
    obtain ⟨S, rfl⟩ := each o ho
    obtain ⟨i, hi⟩ := List.getElem?_of_mem ho
    obtain ⟨x, hx⟩ := bound i _ hi
    obtain ⟨o2, e2, n⟩ := h.2 i x hx
    rw [hi] at e2
    cases e2
    exact n.2
def spTupOf (K : PySem.W.Frag) (C : Addr) : Sp := fun vs H Q _ => ∃ (many : Int) (x : V), vs = [.int many, x] ∧ ((∃ t xs, x = .ref t ∧ H t = some (.tup xs) ∧ Q (.bl (decide (V.int (xs.length : Int) = V.int many))) H) ∨ (NotTup K C H x ∧ Q (.bl false) H))
def spSpread (K : PySem.W.Frag) (C : Addr) : Sp := fun vs H Q _ => ∃ (many : Int) (x : V), vs = [.int many, x] ∧ ((∃ t xs os D, x = .ref t ∧ H t = some (.tup xs) ∧ Items K C D H xs os ∧ 0 < D ∧ D.natAbs < 2 ^ 4000 ∧ os.length ≤ 1000 ∧
  ∀ H', Same H H' → Q (.bl (decide (V.int (xs.length : Int) = V.int many) && sprB D os)) H') ∨ (NotTup K C H x ∧ ∀ H', Same H H' → Q (.bl false) H'))
section
variable {P : Program} {w : World} {K : PySem.W.Frag} {mg : Str → Option Value} {base : Heap} {C B : Addr}
abbrev s_tupOf : Stmt := top 14
theorem sc_tupOf : FnScope ["many", "thing"] ["many", "thing"] (defScope s_tupOf) := ⟨rfl, rfl, rfl, by decide +kernel, rfl, by decide +kernel, by decide +kernel⟩
theorem ok_tupOf {f : Addr} {fd : FuncData} (F : Fun K "is_tuple_of" "is_tuple_of" s_tupOf f fd) (T : ShT K mg C) (n_tuple : mg "tuple" = none) (tu : PySem.W.kitOne K (.ref C) (.type "tuple") = some false) : FnOk P w K mg base CX0 1 f fd ["many", "thing"] (spTupOf K C) := by
  refine F.ok sc_tupOf (fun vs H Q E h => ?_) (fun cdv A outer s H vs Q E hr h => ?_)
  · obtain ⟨many, x, rfl, _⟩ := h
    rfl
  · obtain ⟨many, x, rfl, h⟩ := h
    refine ⟨_, (pss_one (ps_ret (pe_and (pe_callB call_isi (by rfl) T.bn.n_isinstance (by decide +kernel) (pa_cons (pv 1) (pa_cons (pe_bltn (v := .ty "tuple") rfl n_tuple (by decide +kernel) rfl) pa_nil))) (pe_one (pe_cmpR op_eq (pe_callB call_len_seq (by rfl) T.bn.n_len PySem.boot_len (pa_cons (pv 1) pa_nil)) (pv 0) (nomark _)))))), ?_⟩
    rcases h with ⟨t, xs, rfl, e, k⟩ | ⟨nt, k⟩
    · refine ⟨_, rfl, .ref t, .ty "tuple", _, _, true, rfl, .ty _, (Fo.tup e).ty, kit_ty (r := true) (by decide +kernel), _, rfl, iteT ?_⟩
      exact ⟨_, rfl, t, xs, rfl, .inr (.inl (.inl e)), _, rfl, rfl, k⟩
    · obtain ⟨ty, h1, h2⟩ := nt.kit T.it tu
      exact ⟨_, rfl, x, .ty "tuple", ty, _, false, rfl, .ty _, h1, h2, _, rfl, iteF k⟩
abbrev s_spread : Stmt := top 28
theorem sc_spread : FnScope ["many", "thing", "part"] ["many", "thing"] (defScope s_spread) := ⟨rfl, rfl, rfl, by decide +kernel, rfl, by decide +kernel, by decide +kernel⟩
theorem ok_spread {f : Addr} {fd : FuncData} (F : Fun K "is_spread" "is_spread" s_spread f fd) (n_all : mg "all" = none) (c_tup : Cal P w K mg base 1 "is_tuple_of" ["many", "thing"] (spTupOf K C)) (c_f0 : Cal P w K mg base 8 "is_from_zero" ["thing"] (spFrom0 K C)) (c_total : Cal P w K mg base 10 "total" ["row"] (spTotal K C)) (c_eq : EqT P w K mg base C) :
    FnOk P w K mg base CX0 11 f fd ["many", "thing"] (spSpread K C) := by
  refine F.ok sc_spread (fun vs H Q E h => ?_) (fun cdv A outer s H vs Q E hr h => ?_)
  · obtain ⟨many, x, rfl, _⟩ := h
    rfl
  · obtain ⟨many, x, rfl, h⟩ := h
    obtain ⟨r1, o1, q1⟩ := EqT.op (X := (cxOf CX0 P w K mg base ["many", "thing", "part"] "is_spread" (defScope s_spread) f cdv A outer s H E).nox) is_eq c_eq (hr.mono (by decide))
    refine ⟨_, (pss_cons (ps_if (PW.pt (pw_or (pt_not (pt_val (pe_cal c_tup (hr.mono (by decide)) rfl (pa_cons (pv 0) (pa_cons (pv 1) pa_nil))))) (pw_or1 (pt_not (pt_val (pe_callB (cr_all rfl) (by rfl) n_all PyProof.Rows.boot_all (pa_cons (pe_lc (own := [("part", 2)]) rfl sc_spread.nd (pi_tup (pv 1)) (blkOk_by (N := ["many", "thing", "part"]) (sc := defScope s_spread) (by decide +kernel)) (fun _ _ _ _ _ => (pg_name (i := 2) sc_spread.nd rfl (Or.inl rfl))) (fun _ _ _ _ _ => pts_nil) (fun _ _ _ _ _ => (pe_cal c_f0 (hr.mono (by decide)) rfl (pa_cons (pv 2) pa_nil)))) pa_nil)))))))
        (pss_one (ps_ret pe_bl))
        pss_nil)
      (pss_one (ps_ret (pe_cmpR o1 (pe_cal c_total (hr.mono (by decide)) rfl (pa_cons (pv 1) pa_nil)) pe_int (nomark _))))), ?_⟩
    rcases h with ⟨t, xs, os, D, rfl, e, it, hD, hDb, hlen, k⟩ | ⟨nt, k⟩
    · refine ⟨_, rfl, _, rfl, many, .ref t, rfl, .inl ⟨t, xs, rfl, e, _, rfl, ?_⟩⟩
      cases hb : decide (V.int (xs.length : Int) = V.int many) with
      | false =>
        refine iteT ?_
        have k2 := k H (Same.refl H)
        rw [hb, Bool.false_and] at k2
        exact k2
      | true =>
        refine iteF ⟨_, rfl, t, rfl, ⟨_, SqT.of e⟩, fun L nL => ?_⟩
        refine lc_tup (K := K) (a := t) (xs := xs) (fun i H' => Same H H' ∧ H' L = some (.lst ((os.take i).map fun o => V.bl (from0 o)))) ⟨Same.put nL, upd_same⟩ (fun i H' _ p => SqT.of (p.1 _ _ e)) ?_ ?_
        · rintro i x H' hx ⟨s1, eL⟩
          obtain ⟨o, ho, io⟩ := (it.same s1).2 i x hx
          have hi : i < os.length := (List.getElem?_eq_some_iff.mp ho).1
          refine ⟨rfl, yes_of ?_⟩
          have fin : ∀ H2, Same H' H2 → ∃ acc, H2 L = some (.lst acc) ∧ acc.length < sizeLine ∧ Same H (upd H2 L (.lst (acc ++ [V.bl (from0 o)]))) ∧ (upd H2 L (.lst (acc ++ [V.bl (from0 o)]))) L = some (.lst ((os.take (i + 1)).map fun o => V.bl (from0 o))) := fun H2 s2 => by
            refine ⟨_, s2 _ _ eL, ?_, ?_, ?_⟩
            · rw [List.length_map, List.length_take]
              exact small1000 (by omega)
            · refine fun b u hu => ?_
              rw [upd_ne (ne_of_none hu nL)]
              exact s2 _ _ (s1 _ _ hu)
            · rw [upd_same, take_more ho, List.map_append]
              rfl
          refine ⟨_, rfl, x, rfl, ?_⟩
          cases o with
          | some S => exact .inl ⟨S, D, io.1, hD, Nat.lt_trans io.2 (by decide +kernel), hDb, fin⟩
          | none =>
            obtain ⟨T', fo, ix⟩ := io
            exact .inr ⟨T', fo, ix, fin⟩
        · rintro H1 ⟨s1, eL⟩
          rw [it.1, List.take_length] at eL
          refine ⟨L, os.map from0, rfl, SqL.of (by rw [List.map_map]; exact eL), _, rfl, ?_⟩
          cases ha : (os.map from0).all id with
          | false =>
            refine iteT ?_
            have k2 := k H1 s1
            unfold sprB at k2
            rw [hb, ha, Bool.false_and, Bool.and_false] at k2
            exact k2
          | true =>
            refine iteF ?_
            obtain ⟨nums, small⟩ := (it.same s1).nums ha
            refine ⟨_, rfl, t, xs, os.map (·.getD 0), D, rfl, SqT.of (s1 _ _ e), nums, hD, hDb, by rw [List.length_map]; exact hlen, small, fun a dx H2 s2 e2 => ?_⟩
            obtain ⟨c1, c2⟩ := cmp_fo (K := K) (C := C) (y := .int 1) (b := sprB D os) e2 (.int 1) (by
              unfold sprB
              rw [ha, Bool.true_and, Bool.eq_iff_iff]
              have h := low_one_iff (S := (os.map (·.getD 0)).sum) hD
              simp only [isI, Bool.true_and, Bool.and_eq_true, decide_eq_true_eq, V.int.injEq]
              rw [← h]
              exact And.comm)
            have k2 := k H2 (s1.trans s2)
            rw [hb, Bool.true_and] at k2
            exact q1 _ _ _ _ _ c1 k2
    · refine ⟨_, rfl, _, rfl, many, x, rfl, .inr ⟨nt, _, rfl, iteT (k H (Same.refl H))⟩⟩
end
end K8

set_option Elab.async false
set_option linter.all false
set_option maxRecDepth 100000
set_option maxHeartbeats 4000000
/-! a dict comprehension whose keys are tuples; x in a tuple of data; a block that is never reached -/
namespace L2
open PySem PySem.Spec PyProof.Rows
/-- the new dict D takes a pair -/
theorem putT_set {Y : Cx} {ps : List (Addr × Obj)} {τ : St} {G : Hp} {z : Shared} {Er : Value → Shared → Prop} {D b : Addr} {kvs : List (List Key × V)} {k : List Key} {v : V} {u r : Value} {Q : Unit → Shared → Prop} (hu : Y.A.units + 1 < cLine)
    (I : Inv Y ps τ G z) (eD : G D = some (.dT kvs)) (room : kvs.length < sizeLine) (eb : G b = some (.tup (k.map kV))) (ry : RelV (.ref b) u) (rv : RelV v r) (go : ∀ z', Inv Y ps τ (upd G D (.dT (putK kvs k v))) z' → Q () z') :
    wpAny (model Y.prog Y.w) Y.A (dictSet D u r) Q Er z := by
  obtain rfl : u = Value.ref b := ry
  obtain ⟨sz, hd, xs, rel, dd⟩ := dt_of I.hok eD
  have sz1 : xs.length ≤ sizeLine := (Paired.length rel) ▸ sz
  have sz2 : (putK kvs k v).length ≤ sizeLine := by
    have := length_putK kvs k v
    omega
  refine wpAny_dictSet_heap (hsz := sz1) (knd := tupleKind (mixKind Y.prog Y.w)) (by first | exact Nat.lt_of_succ_lt hu | exact hu) (key_of I.hok eb) dd fun h1 d1 same => go _ ?_
  obtain ⟨ob, es, ep, g1, g2, g3, g4, _, g6⟩ := d1
  refine d_write I (by rw [eD]; trivial) same ⟨ob, g1⟩ ⟨sz2, hd, _, KT.keeps (rel.put k eb rv) fun c ys ec => ?_, ob, es, ep, g1, g2, g3, g4, g6⟩
  rw [upd_ne (ne_of ec eD (by intro q; cases q))]
  exact ec
/-- {k: v for target in iter if ..}, keys tuples of ints and texts -/
def tDcT (wi : TI) (g : TG) (tt : TT) (tk tv : TE) (vs : List Nat) : TE := fun σ H Q => wi σ H fun J H1 => ∀ D, H1 D = none → ∃ W : Nat → Nat → Hp → Prop, (∃ m, W 0 m (upd H1 D (.dT []))) ∧
  ∀ i m H, W i m H → (J.stop i H ∧ Q (.ref D) H) ∨ (J.go i H ∧ ∃ Nx : Hp → Prop, (∀ H', Nx H' → ∃ m', m' < m ∧ W (i + 1) m' H') ∧
    ∀ x H', J.yld i H x H' → g x (wipe σ vs) H' fun σ2 H2 => wipe σ2 vs = wipe σ vs ∧ tt σ2 H2 fun b H3 => if b = true then tk σ2 H3 fun y H4 => tv σ2 H4 fun z H5 =>
      ∃ kvs k c, y = .ref c ∧ H5 c = some (.tup (k.map kV)) ∧ H5 D = some (.dT kvs) ∧ kvs.length < sizeLine ∧ Nx (upd H5 D (.dT (putK kvs k z))) else Nx H3)
section
variable {X : Cx}
theorem pe_dcT {kx vx tg iter : Expr} {ifs : List Expr} {scope : Scope} {own : List (Str × Nat)} {pos : Pos} {wi : TI} {g : TG} {tt : TT} {tk tv : TE} (hc : X.calm = true) (hu : X.A.units + 1 < cLine) (hN : X.N.Nodup) (hi : PI X tg iter wi) (ok : BlkOk X.N X.env.scope scope own)
    (hg : ∀ (z : Shared) (G : Hp) (C : Addr) (cl : List (Str × Addr)) (fp : List Addr), PG (X.blk z G scope (compEnvC scope cl C X.env) fp) tg g)
    (ht : ∀ (z : Shared) (G : Hp) (C : Addr) (cl : List (Str × Addr)) (fp : List Addr), PTs (X.blk z G scope (compEnvC scope cl C X.env) fp) ifs tt)
    (hk : ∀ (z : Shared) (G : Hp) (C : Addr) (cl : List (Str × Addr)) (fp : List Addr), PE (X.blk z G scope (compEnvC scope cl C X.env) fp) kx tk)
    (hv : ∀ (z : Shared) (G : Hp) (C : Addr) (cl : List (Str × Addr)) (fp : List Addr), PE (X.blk z G scope (compEnvC scope cl C X.env) fp) vx tv) (hf : ∀ x, foldedSetIterable iter X.env x = pure x := by intro _; rfl) :
    PE X (.DictComp kx vx [⟨tg, iter, ifs, 0⟩] scope pos) (tDcT wi g tt tk tv (own.map (·.2))) := by
  refine ⟨fun ps z0 σ G Q I want => ?_⟩
  rw [arm_eval_DictComp]
  have cells : ∀ y ∈ scope.names, y.2 = .free → ∃ c, X.env.cells.lookup y.1 = some c := fun y hy e => by
    rcases ok.free y hy e with q | q
    · exact I.ok.has _ (.inl q)
    · exact I.ok.has _ (.inr q)
  refine wpAny_comprehension_free rfl hf (closure_ok cells) ok.kind (fun y hy e => by rw [ok.uniq y hy, e])
    (thn (hi.run ps z0 σ G _ I want) fun xv z1 hx => thn hx fun itv z2 got => ?_)
  obtain ⟨it, fp, tn, J, G2, e, I2, T, at2, fresh2, plan⟩ := got
  subst e
  refine wpAny_newObj_type (newEnv_comp ?_)
  generalize eD : z2.heap.objs.size = D
  have noD : G2 D = none := I2.hok.fresh (Nat.le_of_eq eD)
  obtain ⟨W, ⟨m0, start⟩, turn⟩ := plan D noD
  generalize e3 : ({ z2 with heap := z2.heap.push { cls := .type "dict", data := .dict #[] } } : Shared) = z3
  have I3 : Inv X ps σ (upd G2 D (.dT [])) z3 := by
    subst e3
    refine I2.laid (t' := z2.toks) (fun b o q => Heap.get?_push_of_some _ q) (Nat.le_of_eq eD) ?_
    subst eD
    exact dt_empty z2.heap I2.big
  have heap3 : z3.heap = z2.heap.push { cls := .type "dict", data := .dict #[] } := by subst e3; rfl
  have low : ∀ b ∈ fp, b < z2.heap.objs.size := fun b hb => let ⟨_, q, _⟩ := T.obj _ _ at2 b hb; Heap.lt_size q
  have fresh3 : ∀ b ∈ fp, FpOk X ps (upd G2 D (.dT [])) b ∧ b < z3.heap.objs.size := fun b hb => by
    have lb := low b hb
    have nb : (upd G2 D (.dT [])) b = none := by
      rw [upd_ne (by subst eD; exact Nat.ne_of_lt lb)]
      exact (fresh2 b hb).1
    exact ⟨⟨nb, (fresh2 b hb).2⟩, by rw [heap3, Heap.size_push]; exact Nat.lt_succ_of_lt lb⟩
  have at3 : tn 0 z3.heap := T.keep _ _ _ at2 fun b _ o q => by rw [heap3]; exact Heap.get?_push_of_some _ q
  have I4 := block_start I3 ok hN fresh3
  generalize eH : upd G2 D (.dT []) = G3 at I3 I4 start fresh3
  show codeAny _ _ (.compStart _ 0 (.ref it) (.ref D) (compEnvC scope (cellsFrom (z3.heap.objs.size + 1) scope.names (cloFrom X.env.cells scope.names [])) z3.heap.objs.size X.env)) (compPost (model X.prog X.w) X.A X.xe none _ (.ref D) z3.heap.objs.size) { z3 with heap := pushCells (z3.heap.push { cls := .type "dict", data := .dict #[] }) scope.names }
  have ppg := hg z3 G3 z3.heap.objs.size (cellsFrom (z3.heap.objs.size + 1) scope.names (cloFrom X.env.cells scope.names [])) fp
  have ppt := ht z3 G3 z3.heap.objs.size (cellsFrom (z3.heap.objs.size + 1) scope.names (cloFrom X.env.cells scope.names [])) fp
  have ppk := hk z3 G3 z3.heap.objs.size (cellsFrom (z3.heap.objs.size + 1) scope.names (cloFrom X.env.cells scope.names [])) fp
  have ppv := hv z3 G3 z3.heap.objs.size (cellsFrom (z3.heap.objs.size + 1) scope.names (cloFrom X.env.cells scope.names [])) fp
  generalize eE : compEnvC scope (cellsFrom (z3.heap.objs.size + 1) scope.names (cloFrom X.env.cells scope.names [])) z3.heap.objs.size X.env = ce at I4 ppg ppt ppk ppv ⊢
  have loc : ce.locals = z3.heap.objs.size := by subst eE; rfl
  generalize e4 : ({ z3 with heap := pushCells (z3.heap.push { cls := .type "dict", data := .dict #[] }) scope.names } : Shared) = z4 at I4 ⊢
  have at4 : tn 0 z4.heap := T.keep _ _ _ at3 fun b _ o q => by subst e4; exact pushCells_keeps _ _ _ _ (Heap.get?_push_of_some _ q)
  let B : Cx := X.blk z3 G3 scope ce fp
  have calmB : B.calm = true := hc
  -- what is the same at each turn's begin
  let At : Nat → Nat → Hp → Shared → Prop := fun i m G' z' => Inv B [] (wipe σ (own.map (·.2))) G' z' ∧ tn i z'.heap ∧ (∀ b ∈ fp, G' b = none) ∧ W i m G'
  have fps : ∀ {τ : St} {G' : Hp} {z' : Shared}, Inv B [] τ G' z' → (∀ b ∈ fp, G' b = none) → ∀ b ∈ fp, FpOk B [] G' b := fun {τ G' z'} I' no b hb =>
    ⟨no b hb, (I'.ok.exf b hb).1, I'.ok.exfs b hb, .inl hb, fun _ c q => (I'.ok.exf b hb).2 _ c q, fun p hp => absurd (show p ∈ (([] : List (Addr × Obj)) ++ ([] : List (Addr × Obj))) from hp) List.not_mem_nil⟩
  have whole : codeAny (model X.prog X.w) X.A (.compLoop (.DictComp kx vx [⟨tg, iter, ifs, 0⟩] scope pos) 0 (.ref it) (.ref D) ce) (compPost (model X.prog X.w) X.A X.xe none (EP X ps σ Q) (.ref D) z3.heap.objs.size) z4 := by
    refine compLoop_anyD (fun m z' => ∃ i G', At i m G' z') (fun m z' ⟨i, G', I', at', no, w'⟩ => ?_) m0 ⟨0, G3, I4, at4, fun b hb => (fresh3 b hb).1.1, start⟩
    rcases turn i m G' w' with ⟨stop, won⟩ | ⟨more, Nx, next, step⟩
    · refine thnF (T.done B rfl rfl rfl calmB i [] z' _ G' (fun _ _ => False) I' (fps I' no) at' stop) fun r z5 ⟨er, I5⟩ => ?_
      subst er
      have outer : Inv X ps σ G' z5 := I3.call' (ch := fp) I5.os I5.base I5.hok I5.bare fun b hb =>
        let q := (fresh3 b hb).1.2
        ⟨q.2.2.1, q.1, q.2.2.2.1, q.2.2.2.2⟩
      have freeC : G' z3.heap.objs.size = none := loc ▸ (show G' ce.locals = none from I5.free)
      obtain ⟨mm, ns, _⟩ := I5.loc
      have ns : z5.heap.Ns z3.heap.objs.size mm := loc ▸ (show z5.heap.Ns ce.locals mm from ns)
      obtain ⟨f0, f1, f2, f3, f4, f5⟩ := I3.fpOk (Nat.le_refl _) freeC
      exact ⟨mm, ns, fun h2 sb => ⟨.ref D, G', outer.turned (t' := z5.toks) (fun b o hb q => (sb.2 b hb).trans q) f0 f1 f3 f4 f5, rfl, won⟩⟩
    · refine thnF (T.item B rfl rfl rfl calmB i [] z' _ G' (fun _ _ => False) I' (fps I' no) at' more) fun r z5 ⟨u, er, then5⟩ => ?_
      subst er
      refine thnF then5 fun _ z6 ⟨x, G6, I6, r6, y6, at6, no6⟩ => ?_
      refine thnF (ppg.run _ z6 _ G6 x u _ (I6.pinned (fps I6 no6) (T.obj _ _ at6)) r6 (step x G6 y6)) fun _ z7 ⟨τ, G7, I7, wiped, q7⟩ => ?_
      refine thnF (ppt.run _ z7 τ G7 _ I7 q7) fun b z8 ⟨G8, I8, q8⟩ => ?_
      have onward : ∀ {z9 : Shared} {G9 : Hp}, Inv B ([] ++ pinsAt fp z6.heap) τ G9 z9 → Nx G9 → ∃ m', m' < m ∧ ∃ i G', At i m' G' z9 := fun {z9 G9} I9 nx => by
        obtain ⟨m', lt, w9⟩ := next G9 nx
        have held : ∀ b ∈ fp, ∀ o, z6.heap.get? b = some o → z9.heap.get? b = some o ∧ G9 b = none := fun b hb o q =>
          have pin := I9.pin (b, o) (List.mem_append_right _ (List.mem_append_right _ (mem_pinsAt hb q)))
          ⟨pin.1, pin.2.1⟩
        have len : (wipe σ (own.map (·.2))).length = τ.length := by rw [← wiped, wipe_length]
        refine ⟨m', lt, i + 1, G9, (I9.unpinned (pins := [])).weak len (fun j v q => (wipe_some (wiped.symm ▸ q : (wipe τ (own.map (·.2)))[j]? = some (some v))).1), T.keep _ _ _ at6 fun b hb o q => (held b hb o q).1, fun b hb => ?_, w9⟩
        obtain ⟨o, q, _⟩ := T.obj _ _ at6 b hb
        exact (held b hb o q).2
      cases b with
      | false =>
        rw [if_neg (by decide)] at q8 ⊢
        exact onward I8 q8
      | true =>
        rw [if_pos rfl] at q8 ⊢
        refine thnF (ppk.run _ z8 τ G8 _ I8 q8) fun ku z9 ⟨y, G9, I9, r9, q9⟩ => ?_
        refine thnF (ppv.run _ z9 τ G9 _ I9 q9) fun vu z10 ⟨v, G10, I10, r10, kvs, k, c, ec, e1, e2, e3', nx⟩ => ?_
        subst ec
        exact putT_set (Y := B) hu I10 e2 e3' e1 r9 r10 fun z11 I11 => onward I11 nx
  exact codeAny_compStart_dict whole (T.self X.A 0 _ _ _ at4 whole)
/-- over a list that stays -/
theorem dcT_list {K : PySem.W.Frag} {a : Addr} {xs : List V} {g : TG} {tt : TT} {tk tv : TE} {vs : List Nat} {σ : St} {H1 : Hp} {D : Addr} {Qd : Hp → Prop} (Pv : Nat → Hp → Prop) (h0 : Pv 0 (upd H1 D (.dT []))) (stays : ∀ i H, i ≤ xs.length → Pv i H → SqL K H a xs)
    (hs : ∀ i x H, xs[i]? = some x → Pv i H → g x (wipe σ vs) H fun σ2 H2 => wipe σ2 vs = wipe σ vs ∧ tt σ2 H2 fun b H3 => if b = true then tk σ2 H3 fun y H4 => tv σ2 H4 fun z H5 =>
      ∃ kvs k c, y = .ref c ∧ H5 c = some (.tup (k.map kV)) ∧ H5 D = some (.dT kvs) ∧ kvs.length < sizeLine ∧ Pv (i + 1) (upd H5 D (.dT (putK kvs k z))) else Pv (i + 1) H3) (hd : ∀ H, Pv xs.length H → Qd H) :
    ∃ W : Nat → Nat → Hp → Prop, (∃ m, W 0 m (upd H1 D (.dT []))) ∧ ∀ i m H, W i m H → ((Itl K a).stop i H ∧ Qd H) ∨ ((Itl K a).go i H ∧ ∃ Nx : Hp → Prop, (∀ H', Nx H' → ∃ m', m' < m ∧ W (i + 1) m' H') ∧
      ∀ x H', (Itl K a).yld i H x H' → g x (wipe σ vs) H' fun σ2 H2 => wipe σ2 vs = wipe σ vs ∧ tt σ2 H2 fun b H3 => if b = true then tk σ2 H3 fun y H4 => tv σ2 H4 fun z H5 =>
        ∃ kvs k c, y = .ref c ∧ H5 c = some (.tup (k.map kV)) ∧ H5 D = some (.dT kvs) ∧ kvs.length < sizeLine ∧ Nx (upd H5 D (.dT (putK kvs k z))) else Nx H3) := by
  refine ⟨fun i m H => m + i = xs.length ∧ Pv i H, ⟨xs.length, by omega, h0⟩, fun i m H ⟨em, p⟩ => ?_⟩
  have q := stays i H (by omega) p
  cases m with
  | zero =>
    obtain rfl : i = xs.length := by omega
    exact .inl ⟨⟨xs, q, Nat.le_refl _⟩, hd H p⟩
  | succ m =>
    have lt : i < xs.length := by omega
    refine .inr ⟨⟨xs, xs[i], q, by simp [lt]⟩, Pv (i + 1), fun H' p' => ⟨m, Nat.lt_succ_self m, by omega, p'⟩, fun x H' y => ?_⟩
    obtain ⟨e, y⟩ := y
    subst e
    exact hs i x _ (y xs q) p
def rInDT (K : PySem.W.Frag) : R2 := fun x y H Q => ∃ d ds, Dp K H x d ∧ Dp K H y (.tuple ds) ∧ SeqAt.shaped d = true ∧ SeqAt.shaped (.tuple ds) = true ∧ Q (.bl (ds.any fun z => PyData.eqv z d)) H
/-- x in t, t a tuple of data -/
theorem op_inDT (hu : X.A.units + 65 < cLine) : OpR X (compareOp .In) (rInDT X.K) := by
  intro ps z σ G x y v u Q I rx ry ⟨d, ds, hd, he, sd, se, q⟩
  obtain ⟨as, r1⟩ := Dp.reads I d x v hd rx
  obtain ⟨bs, r2⟩ := Dp.reads I (.tuple ds) y u he ry
  exact SeqAt.in_tuple_reads r2 r1 (SeqAt.canLay_of_shaped se) (SeqAt.canLay_of_shaped sd) (room_in_shaped sd hu) ⟨.bl _, G, I, rfl, q⟩
end
end L2

set_option Elab.async false
set_option linter.all false
set_option maxRecDepth 100000
set_option maxHeartbeats 4000000
/-! a sequence that may be a list or a tuple, gone through -/
namespace L2
open PySem PySem.Spec PyProof.Rows
def Sq (H : Hp) (a : Addr) (xs : List V) : Prop := H a = some (.lst xs) ∨ H a = some (.tup xs)
theorem Sq.same {H H' : Hp} {a : Addr} {xs : List V} (h : Sq H a xs) (s : ∀ o, H a = some o → H' a = some o) : Sq H' a xs := h.elim (fun e => .inl (s _ e)) fun e => .inr (s _ e)
/-- its iterator -/
def JS (K : PySem.W.Frag) (H : Hp) (a : Addr) (xs : List V) (J : It) : Prop := (J = Itl K a ∧ H a = some (.lst xs)) ∨ (J = Itt K a ∧ H a = some (.tup xs))
abbrev iSq (K : PySem.W.Frag) (tl : TE) : TI := fun σ H R => iList K tl σ H R ∨ iTup K tl σ H R
section
variable {X : Cx} {tg e : Expr} {t : TE}
theorem pi_sq (h : PE X e t) : PI X tg e (iSq X.K t) :=
  ⟨fun ps s σ H R I h2 => h2.elim ((pi_list (tg := tg) h).run ps s σ H R I) ((pi_tup (tg := tg) h).run ps s σ H R I)⟩
end
theorem it_sq {K : PySem.W.Frag} {i : Nat} {σ : St} {H : Hp} {a : Addr} {xs : List V} {R : It → Hp → Prop} (e : σ[i]? = some (some (V.ref a))) (h : Sq H a xs) (k : ∀ J, JS K H a xs J → R J H) : iSq K (tVar i) σ H R := by
  rcases h with h | h
  · exact .inl ⟨_, e, a, rfl, ⟨_, SqL.of h⟩, k _ (.inl ⟨rfl, h⟩)⟩
  · exact .inr ⟨_, e, a, rfl, ⟨_, SqT.of h⟩, k _ (.inr ⟨rfl, h⟩)⟩
theorem lc_sq {K : PySem.W.Frag} {a : Addr} {xs : List V} {J : It} {g : TG} {tt : TT} {te : TE} {vs : List Nat} {σ : St} {H0 H1 : Hp} {D : Addr} {Qd : Hp → Prop} (j : JS K H0 a xs J) (Pv : Nat → Hp → Prop) (h0 : Pv 0 (upd H1 D (.lst []))) (hl : ∀ i H, i ≤ xs.length → Pv i H → ∀ o, H0 a = some o → H a = some o)
    (hs : ∀ i x H, xs[i]? = some x → Pv i H → g x (wipe σ vs) H fun σ2 H2 => wipe σ2 vs = wipe σ vs ∧ tt σ2 H2 fun b H3 =>
      if b = true then te σ2 H3 fun y H4 => ∃ acc, H4 D = some (.lst acc) ∧ acc.length < sizeLine ∧ Pv (i + 1) (upd H4 D (.lst (acc ++ [y]))) else Pv (i + 1) H3) (hd : ∀ H, Pv xs.length H → Qd H) :
    ∃ W : Nat → Nat → Hp → Prop, (∃ m, W 0 m (upd H1 D (.lst []))) ∧ ∀ i m H, W i m H →
      (J.stop i H ∧ Qd H) ∨ (J.go i H ∧ ∃ Nx : Hp → Prop, (∀ H', Nx H' → ∃ m', m' < m ∧ W (i + 1) m' H') ∧ ∀ x H', J.yld i H x H' → g x (wipe σ vs) H' fun σ2 H2 => wipe σ2 vs = wipe σ vs ∧ tt σ2 H2 fun b H3 =>
        if b = true then te σ2 H3 fun y H4 => ∃ acc, H4 D = some (.lst acc) ∧ acc.length < sizeLine ∧ Nx (upd H4 D (.lst (acc ++ [y]))) else Nx H3) := by
  rcases j with ⟨rfl, e⟩ | ⟨rfl, e⟩
  · exact lc_list (K := K) Pv h0 (fun i H hi p => SqL.of (hl i H hi p _ e)) hs hd
  · exact lc_tup (K := K) Pv h0 (fun i H hi p => SqT.of (hl i H hi p _ e)) hs hd
theorem for_sq {K : PySem.W.Frag} {a : Addr} {xs : List V} {J : It} {g : TG} {tb : TS} {D : Ends} {σ : St} {H0 H : Hp} (j : JS K H0 a xs J) (Pv : Nat → St → Hp → Prop) (h0 : Pv 0 σ H) (hl : ∀ i σ H, i ≤ xs.length → Pv i σ H → ∀ o, H0 a = some o → H a = some o)
    (hs : ∀ i x σ H, xs[i]? = some x → Pv i σ H → g x σ H fun σ2 H2 => tb { D with nx := Pv (i + 1), ct := Pv (i + 1), bk := D.nx } σ2 H2) (hd : ∀ σ H, Pv xs.length σ H → D.nx σ H) :
    ∃ W : Nat → Nat → St → Hp → Prop, (∃ m, W 0 m σ H) ∧ ∀ i m σ H, W i m σ H →
      (J.stop i H ∧ D.nx σ H) ∨ (J.go i H ∧ ∃ N : St → Hp → Prop, (∀ σ' H', N σ' H' → ∃ m', m' < m ∧ W (i + 1) m' σ' H') ∧ ∀ x H', J.yld i H x H' → g x σ H' fun σ2 H2 => tb { D with nx := N, ct := N, bk := D.nx } σ2 H2) := by
  rcases j with ⟨rfl, e⟩ | ⟨rfl, e⟩
  · exact for_list (K := K) Pv h0 (fun i σ H hi p => SqL.of (hl i σ H hi p _ e)) hs hd
  · exact for_tup (K := K) Pv h0 (fun i σ H hi p => SqT.of (hl i σ H hi p _ e)) hs hd
theorem dcT_tup {K : PySem.W.Frag} {a : Addr} {xs : List V} {g : TG} {tt : TT} {tk tv : TE} {vs : List Nat} {σ : St} {H1 : Hp} {D : Addr} {Qd : Hp → Prop} (Pv : Nat → Hp → Prop) (h0 : Pv 0 (upd H1 D (.dT []))) (stays : ∀ i H, i ≤ xs.length → Pv i H → SqT K H a xs)
    (hs : ∀ i x H, xs[i]? = some x → Pv i H → g x (wipe σ vs) H fun σ2 H2 => wipe σ2 vs = wipe σ vs ∧ tt σ2 H2 fun b H3 => if b = true then tk σ2 H3 fun y H4 => tv σ2 H4 fun z H5 =>
      ∃ kvs k c, y = .ref c ∧ H5 c = some (.tup (k.map kV)) ∧ H5 D = some (.dT kvs) ∧ kvs.length < sizeLine ∧ Pv (i + 1) (upd H5 D (.dT (putK kvs k z))) else Pv (i + 1) H3) (hd : ∀ H, Pv xs.length H → Qd H) :
    ∃ W : Nat → Nat → Hp → Prop, (∃ m, W 0 m (upd H1 D (.dT []))) ∧ ∀ i m H, W i m H → ((Itt K a).stop i H ∧ Qd H) ∨ ((Itt K a).go i H ∧ ∃ Nx : Hp → Prop, (∀ H', Nx H' → ∃ m', m' < m ∧ W (i + 1) m' H') ∧
      ∀ x H', (Itt K a).yld i H x H' → g x (wipe σ vs) H' fun σ2 H2 => wipe σ2 vs = wipe σ vs ∧ tt σ2 H2 fun b H3 => if b = true then tk σ2 H3 fun y H4 => tv σ2 H4 fun z H5 =>
        ∃ kvs k c, y = .ref c ∧ H5 c = some (.tup (k.map kV)) ∧ H5 D = some (.dT kvs) ∧ kvs.length < sizeLine ∧ Nx (upd H5 D (.dT (putK kvs k z))) else Nx H3) := by
  refine ⟨fun i m H => m = xs.length - i ∧ i ≤ xs.length ∧ Pv i H, ⟨xs.length, by simp, Nat.zero_le _, h0⟩, ?_⟩
  rintro i m H ⟨rfl, hi, p⟩
  have q := stays i H hi p
  by_cases hlt : i < xs.length
  · refine .inr ⟨⟨xs, xs[i], q, by simp [hlt]⟩, Pv (i + 1), fun H' p' => ⟨xs.length - (i + 1), by omega, rfl, hlt, p'⟩, fun x H' y => ?_⟩
    obtain ⟨e, y⟩ := y
    subst e
    exact hs i x _ (y xs q) p
  · have e : i = xs.length := by omega
    subst e
    exact .inl ⟨⟨xs, q, by simp⟩, hd H p⟩
theorem dcT_sq {K : PySem.W.Frag} {a : Addr} {xs : List V} {J : It} {g : TG} {tt : TT} {tk tv : TE} {vs : List Nat} {σ : St} {H0 H1 : Hp} {D : Addr} {Qd : Hp → Prop} (j : JS K H0 a xs J) (Pv : Nat → Hp → Prop) (h0 : Pv 0 (upd H1 D (.dT []))) (hl : ∀ i H, i ≤ xs.length → Pv i H → ∀ o, H0 a = some o → H a = some o)
    (hs : ∀ i x H, xs[i]? = some x → Pv i H → g x (wipe σ vs) H fun σ2 H2 => wipe σ2 vs = wipe σ vs ∧ tt σ2 H2 fun b H3 => if b = true then tk σ2 H3 fun y H4 => tv σ2 H4 fun z H5 =>
      ∃ kvs k c, y = .ref c ∧ H5 c = some (.tup (k.map kV)) ∧ H5 D = some (.dT kvs) ∧ kvs.length < sizeLine ∧ Pv (i + 1) (upd H5 D (.dT (putK kvs k z))) else Pv (i + 1) H3) (hd : ∀ H, Pv xs.length H → Qd H) :
    ∃ W : Nat → Nat → Hp → Prop, (∃ m, W 0 m (upd H1 D (.dT []))) ∧ ∀ i m H, W i m H → (J.stop i H ∧ Qd H) ∨ (J.go i H ∧ ∃ Nx : Hp → Prop, (∀ H', Nx H' → ∃ m', m' < m ∧ W (i + 1) m' H') ∧
      ∀ x H', J.yld i H x H' → g x (wipe σ vs) H' fun σ2 H2 => wipe σ2 vs = wipe σ vs ∧ tt σ2 H2 fun b H3 => if b = true then tk σ2 H3 fun y H4 => tv σ2 H4 fun z H5 =>
        ∃ kvs k c, y = .ref c ∧ H5 c = some (.tup (k.map kV)) ∧ H5 D = some (.dT kvs) ∧ kvs.length < sizeLine ∧ Nx (upd H5 D (.dT (putK kvs k z))) else Nx H3) := by
  rcases j with ⟨rfl, e⟩ | ⟨rfl, e⟩
  · exact dcT_list (K := K) Pv h0 (fun i H hi p => SqL.of (hl i H hi p _ e)) hs hd
  · exact dcT_tup (K := K) Pv h0 (fun i H hi p => SqT.of (hl i H hi p _ e)) hs hd
end L2

set_option Elab.async false
set_option linter.all false
set_option maxRecDepth 100000
set_option maxHeartbeats 4000000
/-! sum(t), t a tuple of ints; t * k, k from 1 on -/
namespace L2
open PySem PySem.Spec PyProof.Rows
theorem preSum_take (ns : List Int) : ∀ n, preSum (fun j => ns.getD j 0) n = (ns.take n).sum
  | 0 => by simp [preSum]
  | n + 1 => by
    rw [preSum, preSum_take ns n]
    rcases Nat.lt_or_ge n ns.length with h | h
    · rw [List.take_succ_eq_append_getElem h, List.sum_append, List.sum_cons, List.sum_nil, Int.add_zero]
      simp [h]
    · rw [List.take_of_length_le h, List.take_of_length_le (by omega)]
      simp [List.getD, List.getElem?_eq_none h]
theorem intsAre_at {its : List Value} {ns : List Int} (h : IntsAre its ns) : ∀ (i : Nat) (v : Value), its[i]? = some v → ∃ t, v = .int (ns.getD i 0) t := by
  induction h with
  | nil => intro i v e; simp at e
  | cons n t h ih =>
    intro i v e
    cases i with
    | zero =>
      have e2 : Value.int n t = v := Option.some.inj e
      exact ⟨t, e2.symm⟩
    | succ i => exact ih i v e
section
variable {prog : Program} {w : World} {A : Around} {E : Value → Shared → Prop} {s : Shared} {l : Addr} {its : List Value} {ns : List Int} {Q : Value → Shared → Prop}
theorem sum_rawT (hh : A.in1.handled = none) (hl : s.heap.IsTuple l its.toArray) (hi : IntsAre its ns)
    (h : ∀ h' tk t', (∀ b o, s.heap.get? b = some o → h'.get? b = some o) → Q (.int ns.sum t') { s with heap := h', toks := tk }) : wpAny (model prog w) A (call (.builtin "sum") [.ref l]) Q E s := by
  refine call_sum_walkAnyS (PySem.W.iter_tupleW (A := A.in1) hh hl fun s₂ e W st fp _ _ => ⟨_, _, _, _, _, _, _, fun j => ns.getD j 0, rfl, W, st, fp, fun i v hv => ?_, fun s' t' hm => ?_⟩)
  · exact intsAre_at hi i v (by simpa using hv)
  · obtain ⟨h', tk, rfl, old⟩ := PySem.W.moved_old e rfl hm
    have hlen : its.toArray.size = ns.length := by rw [List.size_toArray]; exact hi.length
    rw [preSum_take, hlen, List.take_length]
    exact h h' tk t' old
end
section
variable {X : Cx}
def rSumT (K : PySem.W.Frag) : List V → Hp → VK → Prop := fun vs H Q => ∃ (a : Addr) (ns : List Int), vs = [V.ref a] ∧ SqT K H a (ns.map V.int) ∧ Q (.int ns.sum) H
theorem cr_sumT (hc : X.calm = true) : CallR X (.builtin "sum") (rSumT X.K) := by
  intro pins s σ H vs us Q I r h
  obtain ⟨a, ns, rfl, hs, q⟩ := h
  obtain ⟨its, rv, hl, _⟩ := I.tuple hs
  rw [Vals.ref1 r]
  exact sum_rawT (I.ok.hd hc) hl rv.ints fun h' tk t' hk => ⟨.int _, H, I.kept hk, ⟨_, rfl⟩, q⟩
end
end L2

set_option Elab.async false
set_option linter.all false
set_option maxRecDepth 100000
set_option maxHeartbeats 4000000
/-! t * k, t a tuple that is not empty, k from 1 on: for k = 1 it is t itself -/
namespace L2
open PySem PySem.Spec PyProof.Rows
theorem tuple_mul1 (l : Addr) (items : Array Value) (n : Nat) (dd : Option Addr) (sl : Array (Option Value)) (u : Tok) :
    Meets (Builtin.«tuple.__mul__» ⟨[.ref l, .int 1 u], []⟩) (fun _ R s => s.heap.get? l = some { cls := .type "tuple", dict := dd, data := .seq items n, slots := sl } ∧ R (.ok (.ret (Value.ref l))) s) :=
  .of_wp fun prog w A R s h => by
    obtain ⟨hp, g, d, tk, os⟩ := s
    obtain ⟨hl, h⟩ := h
    have f1 := AutoSeq1.idx_int
    have c1 : (items.isEmpty || (1 : Int) == 1) = true := by rw [show ((1 : Int) == 1) = true from rfl, Bool.or_true]
    wp_walk using wpAny_loadPart' hl
    repeat (first
      | (refine wpAny_ite_false (decide_eq_false (by decide)) ?_; wp_walk using wpAny_loadPart' hl)
      | (refine wpAny_ite_true (decide_eq_true (by rw [c1])) ?_; wp_walk using wpAny_loadPart' hl))
    exact ⟨_, rfl, h⟩
def rRepT1 (K : PySem.W.Frag) : R2 := fun x y H Q => ∃ l xs, x = .ref l ∧ y = .int 1 ∧ SqT K H l xs ∧ Q (.ref l) H
section
variable {X : Cx}
theorem op_repT1 : OpR X (binaryOp .Mult) (rRepT1 X.K) := by
  intro pins s σ H x y v u Q I rx ry h
  obtain ⟨l, xs, rfl, rfl, hT, q⟩ := h
  cases rx
  obtain ⟨t, rfl⟩ := ry
  obtain ⟨its, r, ⟨⟨cls, dd, data, sl⟩, ho, hc, n, hd⟩, hs⟩ := I.tuple hT
  simp only at hc hd
  subst hc hd
  refine wpAny_binaryOp_repeat_ref (T := "tuple") (U := "int") (by decide) ⟨_, ho, rfl⟩ (fun s' => typeIs_int s' 1 t) noFill_tuple_mul F.fills_int_mul F.slot_int_rmul repeat_tuple F.slot_int_index.lookup
    (call_meets F.slot_int_rmul (typeIs_int s 1 t) F.entry_int_rmul (F.args_int_rmul_2 _ _) (int_rmul_tuple 1 t l its.toArray n dd sl)
      ⟨ho, rfl, ⟨_, ho, rfl⟩, call_meets F.slot_tuple_mul ⟨_, ho, rfl⟩ F.entry_tuple_mul (F.args_tuple_mul_2 _ _) (tuple_mul1 l its.toArray n dd sl t) ⟨ho, ?_⟩⟩)
  exact ⟨.ref l, H, I, rfl, q⟩
end
end L2

set_option Elab.async false
set_option linter.all false
set_option maxRecDepth 100000
set_option maxHeartbeats 4000000
namespace L2
open PySem PySem.Spec PyProof.Rows
section
variable {X : Cx}
theorem op_orR {f : Value → Value → Sem Value} {r1 r2 : R2} (h1 : OpR X f r1) (h2 : OpR X f r2) : OpR X f (fun x y H Q => r1 x y H Q ∨ r2 x y H Q) :=
  fun ps s σ H x y v u Q I rx ry h => h.elim (h1 ps s σ H x y v u Q I rx ry) (h2 ps s σ H x y v u Q I rx ry)
theorem call_or {f : Value} {r1 r2 : List V → Hp → VK → Prop} (h1 : CallR X f r1) (h2 : CallR X f r2) : CallR X f (fun xs H Q => r1 xs H Q ∨ r2 xs H Q) :=
  fun ps s σ H xs us Q I rx h => h.elim (h1 ps s σ H xs us Q I rx) (h2 ps s σ H xs us Q I rx)
end
end L2
namespace K8
open PySem L2
/-! ### what all of the texts want -/
theorem iteTe {c : Bool} {A D : Prop} (e : c = true) (h : A) : if c = true then A else D := by
  rw [if_pos e]
  exact h
theorem iteN {α : Type} [DecidableEq α] {x : α} {A B : Prop} (h : B) : if (!decide (x = x)) = true then A else B := by
  rw [decide_eq_true rfl]
  exact h
abbrev rfs {α : Type} (ts : List (Addr × α)) : List V := ts.map fun t => V.ref t.1
theorem rfs_snoc {α : Type} {ts : List (Addr × α)} {t : Addr × α} : rfs (ts ++ [t]) = rfs ts ++ [V.ref t.1] := by rw [rfs, List.map_append]; rfl
theorem rfs_len {α : Type} {ts : List (Addr × α)} : (rfs ts).length = ts.length := List.length_map _
theorem rfs_at {α : Type} {ts : List (Addr × α)} {i : Nat} {x : V} (h : (rfs ts)[i]? = some x) : ∃ t, ts[i]? = some t ∧ t ∈ ts ∧ x = .ref t.1 := by
  rw [rfs, List.getElem?_map] at h
  cases e : ts[i]? with
  | none => rw [e] at h; cases h
  | some t => rw [e] at h; exact ⟨t, rfl, List.mem_of_getElem? e, (Option.some.inj h).symm⟩
theorem Same.but {H H' : Hp} {D : Addr} {o : HO} (h : ∀ b u, H b = some u → H' b = some u) (n : H D = none) : ∀ b u, H b = some u → (upd H' D o) b = some u := fun b u e => by
  rw [upd_ne (ne_of_none e n)]
  exact h b u e
/-- the same, beside the pool -/
theorem Keep.but {a D : Addr} {H H' : Hp} {o : HO} (h : Keep a H H') (n : H D = none) : Keep a H (upd H' D o) := fun b u e ne => by
  rw [upd_ne (ne_of_none e n)]
  exact h b u e ne
theorem new_ne {H : Hp} {a t : Addr} (h : PoolAt H a) (n : H t = none) : t ≠ a := fun z => by
  obtain ⟨o, e, _⟩ := h
  rw [z, e] at n
  cases n
theorem PoolAt.other {H : Hp} {a D : Addr} {u : HO} (h : PoolAt H a) (ne : a ≠ D) : PoolAt (upd H D u) a := by
  obtain ⟨o, e, q⟩ := h
  exact ⟨o, by rw [upd_ne ne]; exact e, q⟩
theorem PoolAt.neR {α : Type} {H : Hp} {a b : Addr} {ts : List (Addr × α)} (h : PoolAt H a) (e : H b = some (.lst (rfs ts))) : b ≠ a := fun z => by
  obtain ⟨u, e2, n, g, q, _⟩ := h
  rw [z, e2, q] at e
  cases ts with
  | nil => cases e
  | cons t ts => cases e
theorem pool_ne {H : Hp} {a b : Addr} {o : HO} (h : PoolAt H a) (e : H b = some o) (no : ∀ xs, o ≠ .lst xs) : b ≠ a := fun z => by
  obtain ⟨u, e2, n, g, q, _⟩ := h
  rw [z, e2, q] at e
  exact no _ (Option.some.inj e).symm
abbrev cV (l : List Nat) : List V := l.map fun k : Nat => V.int (k : Int)
theorem cV_at {l : List Nat} {i : Nat} {x : Nat} (h : l[i]? = some x) : (cV l)[i]? = some (V.int (x : Int)) := by rw [List.getElem?_map, h]; rfl
theorem cV_of {l : List Nat} {i : Nat} {x : V} (h : (cV l)[i]? = some x) : ∃ k, l[i]? = some k ∧ x = V.int (k : Int) := by
  rw [List.getElem?_map] at h
  cases e : l[i]? with
  | none => rw [e] at h; cases h
  | some k => rw [e] at h; exact ⟨k, rfl, (Option.some.inj h).symm⟩
theorem cV_set (l : List Nat) (i x : Nat) : (cV l).set i (V.int (x : Int)) = cV (l.set i x) := by
  rw [cV, cV, List.map_set]
theorem cV_ints (l : List Nat) : cV l = (l.map fun k : Nat => (k : Int)).map V.int := by rw [List.map_map]; rfl
theorem sum_ints : ∀ l : List Nat, (l.map fun k : Nat => (k : Int)).sum = ((l.sum : Nat) : Int)
  | [] => rfl
  | a :: l => by
    rw [List.map_cons, List.sum_cons, List.sum_cons, sum_ints l]
    omega
theorem small_len {n : Nat} (h : n ≤ 1000) : n < sizeLine := small1000 h
theorem nsm {n : Nat} (h : n ≤ 1000) : ((n : Int)).natAbs.log2 < 9000 := log_small (b := 10) (by show ((n : Int)).natAbs < 2 ^ 10; omega) (by decide) (by decide)
theorem nat_of {r : Int} (h : 0 ≤ r) : ∃ j : Nat, r = (j : Int) := ⟨r.toNat, by omega⟩
/-- a draw, at what stands -/
theorem drawn {a : Addr} {H0 H : Hp} {o : HO} (hp : PoolAt H a) (k : Keep a H0 H) (ho : PoolL o) : PoolAt (upd H a o) a ∧ Keep a H0 (upd H a o) := ⟨.put ho, k.trans (Keep.put o)⟩
/-- one of the things -/
def spPickQ : Sp := fun vs H Q _ => ∃ (a l : Addr) (xs : List V), vs = [.ref a, .ref l] ∧ PoolAt H a ∧ Sq H l xs ∧ l ≠ a ∧ 0 < xs.length ∧ xs.length ≤ 200 ∧ ∀ (x : V) (o : HO), x ∈ xs → PoolL o → Q x (upd H a o)
section
variable {P : Program} {w : World} {K : PySem.W.Frag} {mg : Str → Option Value} {base : Heap} {C : Addr}
theorem ok_pickQ {f : Addr} {fd : FuncData} (F : Fun K "_law_pick" "_law_pick" s_pick f fd) (T : Bn mg) (c_draw : Cal P w K mg base 1 "_law_draw" ["_law_pool_here", "_law_many"] spDraw) : FnOk P w K mg base CX0 2 f fd ["_law_pool_here", "_law_things"] spPickQ := by
  refine F.ok sc_pick (fun vs H Q E h => ?_) (fun cdv A outer s H vs Q E hr h => ?_)
  · obtain ⟨a, l, xs, rfl, _⟩ := h
    rfl
  · obtain ⟨a, l, xs, rfl, hp, hl, ne, h0, h1, k⟩ := h
    refine ⟨_, (pss_one (ps_ret (pe_ix (show IxR _ (rIx K) from ix_seq) (pv 1) (pe_cal c_draw (hr.mono (by decide)) rfl (pa_cons (pv 0) (pa_cons (pe_callB call_len_seq (by rfl) T.n_len PySem.boot_len (pa_cons (pv 1) pa_nil)) pa_nil))) (fun _ _ => rfl)))), ?_⟩
    refine ⟨_, rfl, _, rfl, _, rfl, l, xs, rfl, hl.elim (fun e => .inl (SqL.of e)) (fun e => .inr (SqT.of e)), a, _, rfl, hp, by omega, nsm (by omega), fun r o r0 r1 ho => ?_⟩
    obtain ⟨j, rfl⟩ := nat_of r0
    have hj : j < xs.length := by omega
    have gj : xs[j]? = some xs[j] := List.getElem?_eq_getElem hj
    have hl2 : Sq (upd H a o) l xs := hl.elim (fun e => .inl (by rw [upd_ne ne]; exact e)) fun e => .inr (by rw [upd_ne ne]; exact e)
    rcases hl2 with e | e
    · exact .inl ⟨l, _, _, _, rfl, rfl, SqL.of e, atI_nat gj, k _ o (List.mem_of_getElem? gj) ho⟩
    · exact .inr (.inl ⟨l, _, _, _, rfl, rfl, SqT.of e, atI_nat gj, k _ o (List.mem_of_getElem? gj) ho⟩)
end
/-! ### rows, as lists of tops -/
def Tps (n : Nat) (ws : List Nat) : Prop := ws.length = n ∧ 0 < ws.sum ∧ ∀ w ∈ ws, w < 2 ^ 40
def TpsAt (n : Nat) (H : Hp) (r : Addr × List Nat) : Prop := H r.1 = some (.tup (cV r.2)) ∧ Tps n r.2
def Rws (n : Nat) (H : Hp) (rs : List (Addr × List Nat)) : Prop := ∀ r ∈ rs, TpsAt n H r
theorem Rws.same {n : Nat} {H H' : Hp} {rs : List (Addr × List Nat)} (h : Rws n H rs) (s : Same H H') : Rws n H' rs := fun r m => ⟨s _ _ (h r m).1, (h r m).2⟩
theorem Rws.keep {n : Nat} {a : Addr} {H H' : Hp} {rs : List (Addr × List Nat)} (h : Rws n H rs) (k : Keep a H H') (hp : PoolAt H a) : Rws n H' rs := fun r m => ⟨k _ _ (h r m).1 (hp.ne (h r m).1), (h r m).2⟩
theorem Rws.lstU {n : Nat} {H : Hp} {D : Addr} {ys : List V} {rs : List (Addr × List Nat)} {o : HO} (h : Rws n H rs) (e : H D = some (.lst ys)) : Rws n (upd H D o) rs := fun r m => by
  have q := (h r m).1
  exact ⟨by rw [upd_ne (fun z => by rw [z, e] at q; cases q)]; exact q, (h r m).2⟩
theorem Rws.snoc {n : Nat} {H : Hp} {rs : List (Addr × List Nat)} {r : Addr × List Nat} (h : Rws n H rs) (e : TpsAt n H r) : Rws n H (rs ++ [r]) := fun u m => by
  rcases List.mem_append.mp m with m | m
  · exact h u m
  · rw [List.mem_singleton.mp m]; exact e
theorem Rws.nil {n : Nat} {H : Hp} : Rws n H [] := fun _ m => by cases m
/-- a tuple of tops -/
def spTops : Sp := fun vs H Q _ => ∃ (a : Addr) (n : Nat), vs = [.ref a, .int (n : Int)] ∧ PoolAt H a ∧ 1 ≤ n ∧ n ≤ 8 ∧ ∀ (t : Addr) (ws : List Nat) (H' : Hp), Keep a H H' → PoolAt H' a → H' t = some (.tup (cV ws)) → Tps n ws → Q (.ref t) H'
/-- a list of them -/
def spRowsG : Sp := fun vs H Q _ => ∃ (a : Addr) (n : Nat), vs = [.ref a, .int (n : Int)] ∧ PoolAt H a ∧ 1 ≤ n ∧ n ≤ 8 ∧
  ∀ (l : Addr) (rs : List (Addr × List Nat)) (H' : Hp), Keep a H H' → PoolAt H' a → H' l = some (.lst (rfs rs)) → Rws n H' rs → rs.length = n → Q (.ref l) H'
theorem sum_pos_of {ws : List Nat} {i x : Nat} (h : ws[i]? = some x) (p : 0 < x) : 0 < ws.sum := by
  have h1 : x ∈ ws := List.mem_of_getElem? h
  induction ws generalizing i with
  | nil => cases h1
  | cons y ws ih =>
    rw [List.sum_cons]
    rcases List.mem_cons.mp h1 with rfl | h1
    · omega
    · obtain ⟨j, hj⟩ := List.mem_iff_getElem?.mp h1
      have := ih hj h1
      omega
theorem ex_pos {ws : List Nat} (h : 0 < ws.sum) : ∃ (i : Nat) (x : Nat), ws[i]? = some x ∧ 0 < x := by
  induction ws with
  | nil => simp at h
  | cons y ws ih =>
    by_cases hy : 0 < y
    · exact ⟨0, y, rfl, hy⟩
    · rw [List.sum_cons] at h
      obtain ⟨i, x, hx, p⟩ := ih (by omega)
      exact ⟨i + 1, x, hx, p⟩
end K8

set_option Elab.async false
set_option linter.all false
set_option maxRecDepth 100000
set_option maxHeartbeats 4000000
namespace K8
open PySem L2
/-- more built-in names that stand as they are -/
structure Bm (mg : Str → Option Value) : Prop where
  b : Bn mg
  n_list : mg "list" = none
  n_tuple : mg "tuple" = none
  n_range : mg "range" = none
  n_sum : mg "sum" = none
  n_min : mg "min" = none
  n_max : mg "max" = none
  n_all : mg "all" = none
theorem cV_snoc (ws : List Nat) (x : Nat) : cV ws ++ [V.int (x : Int)] = cV (ws ++ [x]) := by rw [cV, cV, List.map_append]; rfl
section
variable {P : Program} {w : World} {K : PySem.W.Frag} {mg : Str → Option Value} {base : Heap} {C : Addr}
abbrev s_tops : Stmt := top 52
abbrev nTo : List Str := ["_law_pool_here", "_law_size_here", "_law_tops_here", "_law_k", "_law_top"]
theorem sc_tops : FnScope nTo ["_law_pool_here", "_law_size_here"] (defScope s_tops) := ⟨rfl, rfl, rfl, by decide +kernel, rfl, by decide +kernel, by decide +kernel⟩
abbrev XT (P : Program) (w : World) (K : PySem.W.Frag) (mg : Str → Option Value) (base : Heap) (f : Addr) (cdv : Value) (A : Around) (outer : List Env) (s : Shared) (H : Hp) (E : XK) : Cx :=
  (cxOf CX0 P w K mg base nTo "_law_tops" (defScope s_tops) f cdv A outer s H E).nox
/-- perhaps greater ones; told as a tuple -/
theorem segT2 {f : Addr} {cdv : Value} {A : Around} {outer : List Env} {s : Shared} {H : Hp} {E : XK} {Q : VK} (T : Bm mg) (c_draw : Cal P w K mg base 1 "_law_draw" ["_law_pool_here", "_law_many"] spDraw) (hr : Room 1 (XT P w K mg base f cdv A outer s H E).A) :
    ∃ u, PSs (XT P w K mg base f cdv A outer s H E) ((defBody s_tops).drop 2) u ∧ ∀ (a l : Addr) (n : Nat) (ws : List Nat) (G : Hp), PoolAt G a → l ≠ a → G l = some (.lst (cV ws)) → ws.length = n → n ≤ 8 → 0 < ws.sum → (∀ x ∈ ws, x ≤ 3) →
      (∀ (t : Addr) (ws : List Nat) (H' : Hp), Keep a G H' → PoolAt H' a → H' t = some (.tup (cV ws)) → Tps n ws → Q (.ref t) H') →
      u { nx := fun _ H' => Q .non H', rt := Q } [some (.ref a), some (.int (n : Int)), some (.ref l), none, none] G := by
  refine ⟨_, (pss_cons (ps_if (pt_cmpR op_eq (pe_cal c_draw (hr.mono (by decide)) rfl (pa_cons (pv 0) (pa_cons pe_int pa_nil))) pe_int (nomark _))
      (pss_one (ps_setLc (i := 2) (own := [("_law_top", 4)]) rfl sc_tops.nd rfl rfl (sw_true rfl rfl rfl (by decide +kernel)) (pi_list (pv 2)) (blkOk_by (N := nTo) (sc := defScope s_tops) (by decide +kernel)) (fun _ _ _ _ _ => (pg_name (i := 4) sc_tops.nd rfl (Or.inl rfl))) (fun _ _ _ _ _ => pts_nil) (fun _ _ _ _ _ => (pe_op op_mul (pv 4) (pe_op op_add (pe_op op_pow pe_int pe_int) (pe_cal c_draw (hr.mono (by decide)) rfl (pa_cons (pv 0) (pa_cons (pe_op op_pow pe_int pe_int) pa_nil))))))))
      pss_nil)
    (pss_one (ps_ret (pe_callTy call_tuple_of (by rfl) T.n_tuple (by decide +kernel) (pa_cons (pv 2) pa_nil))))), ?_⟩
  intro a l n ws G hp la el len n8 pos small k
  have fin : ∀ (l : Addr) (ws : List Nat) (G2 : Hp) (c : Addr), Keep a G G2 → PoolAt G2 a → G2 c = none → Tps n ws → Q (.ref c) (upd G2 c (.tup (cV ws))) := fun l ws G2 c kG hpG nc tp =>
    k c ws _ (kG.trans (Keep.of (Same.put nc))) (hpG.same (Same.put nc)) upd_same tp
  refine ⟨_, rfl, a, 40, rfl, hp, by decide, by decide, fun y o y0 y1 ho => ?_⟩
  obtain ⟨p1, k1⟩ := drawn hp (Keep.refl a G) ho
  have el1 := k1 _ _ el la
  generalize (upd G a o) = G1 at p1 k1 el1 ⊢
  refine ⟨rfl, _, rfl, ite2 (fun _ => ?_) (fun _ => ?_)⟩
  · refine ⟨_, rfl, l, rfl, ⟨_, SqL.of el1⟩, fun D nD => ?_⟩
    have Da := new_ne p1 nD
    refine lc_list (K := K) (a := l) (xs := cV ws) (fun i H' => Keep a G1 H' ∧ PoolAt H' a ∧ ∃ us : List Nat, H' D = some (.lst (cV us)) ∧ us.length = i ∧ (∀ x ∈ us, x < 2 ^ 40) ∧ ∀ (j : Nat) (x : Nat), ws[j]? = some x → j < i → 0 < x → ∃ z, us[j]? = some z ∧ 0 < z) ⟨Keep.of (Same.put nD), p1.new nD, [], upd_same, rfl, fun _ m => (by cases m), fun _ _ _ h => absurd h (Nat.not_lt_zero _)⟩ (fun i H' _ h => SqL.of (h.1 _ _ el1 la)) ?_ ?_
    · rintro i x' H' hx' ⟨k2, p2, us, eD, lu, su, pu⟩
      obtain ⟨x, hx, rfl⟩ := cV_of hx'
      have sx := small x (List.mem_of_getElem? hx)
      have il := (List.getElem?_eq_some_iff.mp hx).1
      refine ⟨rfl, yes_of ?_⟩
      refine ⟨_, rfl, 10, 7, rfl, rfl, ⟨by decide, by decide, by decide⟩, _, rfl, 10, 7, rfl, rfl, ⟨by decide, by decide, by decide⟩, a, _, rfl, p2, by decide +kernel, by decide +kernel, fun r o2 r0 r1 ho2 => ?_⟩
      obtain ⟨p3, k3⟩ := drawn p2 k2 ho2
      have eD3 : (upd H' a o2) D = some (.lst (cV us)) := by rw [upd_ne Da]; exact eD
      generalize (upd H' a o2) = H3 at p3 k3 eD3 ⊢
      obtain ⟨r, rfl⟩ := nat_of r0
      have e7 : ((10 : Int) ^ (7 : Int).toNat) = 10000000 := by decide +kernel
      rw [e7] at r1
      refine ⟨(10 : Int) ^ (7 : Int).toNat, (r : Int), rfl, rfl, (x : Int), _, rfl, rfl, .inl ⟨by omega, by omega⟩, ?_⟩
      have e : ((x : Int) * ((10 : Int) ^ (7 : Int).toNat + (r : Int))) = ((x * (10000000 + r) : Nat) : Int) := by rw [e7, Int.natCast_mul, Int.natCast_add]; rfl
      refine ⟨_, eD3, by rw [List.length_map]; exact small_len (by omega), k3.but nD, p3.other (Ne.symm Da), us ++ [x * (10000000 + r)], ?_, ?_, ?_, ?_⟩
      · rw [upd_same]
        show some (HO.lst (cV us ++ [V.int ((x : Int) * ((10 : Int) ^ (7 : Int).toNat + (r : Int)))])) = _
        rw [e, cV_snoc]
      · rw [List.length_append, lu]
        rfl
      · intro z hz
        rcases List.mem_append.mp hz with hz | hz
        · exact su z hz
        · rw [List.mem_singleton.mp hz]
          have : x * (10000000 + r) ≤ 3 * 20000000 := Nat.mul_le_mul sx (by omega)
          omega
      · intro j y hy hj py
        rcases Nat.lt_or_ge j i with h | h
        · obtain ⟨z, hz, pz⟩ := pu j y hy h py
          exact ⟨z, by rw [List.getElem?_append_left (by omega)]; exact hz, pz⟩
        · have : j = i := by omega
          subst this
          rw [hx] at hy
          cases hy
          exact ⟨x * (10000000 + r), by rw [List.getElem?_append_right (by omega), lu, Nat.sub_self]; rfl, Nat.mul_pos py (by omega)⟩
    · rintro H' ⟨k2, p2, us, eD, lu, su, pu⟩
      rw [List.length_map] at lu pu
      obtain ⟨j, y, hy, py⟩ := ex_pos pos
      obtain ⟨z, hz, pz⟩ := pu j y hy (List.getElem?_eq_some_iff.mp hy).1 py
      refine ⟨_, rfl, D, _, rfl, .inl ⟨SqL.of eD, fun c nc => ?_⟩⟩
      exact fin D us H' c (k1.trans k2) p2 nc ⟨by omega, sum_pos_of hz pz, su⟩
  · refine ⟨_, rfl, l, _, rfl, .inl ⟨SqL.of el1, fun c nc => ?_⟩⟩
    exact fin l ws G1 c k1 p1 nc ⟨len, pos, fun x m => Nat.lt_of_le_of_lt (small x m) (by decide)⟩
theorem ok_tops {f : Addr} {fd : FuncData} (F : Fun K "_law_tops" "_law_tops" s_tops f fd) (T : Bm mg) (c_draw : Cal P w K mg base 1 "_law_draw" ["_law_pool_here", "_law_many"] spDraw) : FnOk P w K mg base CX0 2 f fd ["_law_pool_here", "_law_size_here"] spTops := by
  refine F.ok sc_tops (fun vs H Q E h => ?_) (fun cdv A outer s H vs Q E hr h => ?_)
  · obtain ⟨a, n, rfl, _⟩ := h
    rfl
  · obtain ⟨a, n, rfl, hp, n1, n8, k⟩ := h
    obtain ⟨u, hu, qu⟩ := segT2 (f := f) (cdv := cdv) (A := A) (outer := outer) (s := s) (H := H) (E := E) (Q := Q) T c_draw (hr.mono (by decide))
    refine ⟨_, (pss_cons (ps_setLc (i := 2) (own := [("_law_k", 3)]) rfl sc_tops.nd rfl rfl (sw_true rfl rfl rfl (by decide +kernel)) (pi_range1 (by rfl) T.n_range (pa_cons (pv 1) pa_nil)) (blkOk_by (N := nTo) (sc := defScope s_tops) (by decide +kernel)) (fun _ _ _ _ _ => (pg_name (i := 3) sc_tops.nd rfl (Or.inl rfl))) (fun _ _ _ _ _ => pts_nil) (fun _ _ _ _ _ => (pe_ix (show IxR _ (rIxT K) from ix_tup) (pe_tup (pa_cons pe_int (pa_cons pe_int (pa_cons pe_int (pa_cons pe_int (pa_cons pe_int (pa_cons pe_int (pa_cons pe_int pa_nil)))))))) (pe_cal c_draw (hr.mono (by decide)) rfl (pa_cons (pv 0) (pa_cons pe_int pa_nil))) (fun _ _ => rfl))))
      (pss_cons (ps_if (pt_cmpR op_eq (pe_callB (cr_sum rfl) (by rfl) T.n_sum PyProof.Rows.boot_sum (pa_cons (pv 2) pa_nil)) pe_int (nomark _))
        (pss_one (ps_asg pe_int (pg_sub (pv 2) (pe_cal c_draw (hr.mono (by decide)) rfl (pa_cons (pv 0) (pa_cons (pv 1) pa_nil))) set_list)))
        pss_nil) hu)), ?_⟩
    refine ⟨_, rfl, _, rfl, by omega, by omega, fun D nD => ?_⟩
    rw [Int.toNat_natCast]
    have Da := new_ne hp nD
    refine lc_range (fun i H' => Keep a H H' ∧ PoolAt H' a ∧ ∃ ws : List Nat, H' D = some (.lst (cV ws)) ∧ ws.length = i ∧ ∀ x ∈ ws, x ≤ 3) ⟨Keep.of (Same.put nD), hp.new nD, [], upd_same, rfl, fun _ m => (by cases m)⟩ ?_ ?_
    · rintro i H' hi ⟨k1, p1, ws, eD, lw, sw⟩
      refine ⟨rfl, yes_of ?_⟩
      refine ⟨by show 7 ≤ sizeLine; decide, fun t nt => ?_⟩
      have s2 := Same.put (o := .tup (cV [0, 0, 0, 1, 1, 2, 3])) nt
      have e2 : (upd H' t (.tup (cV [0, 0, 0, 1, 1, 2, 3]))) t = some (.tup (cV [0, 0, 0, 1, 1, 2, 3])) := upd_same
      have p2 := p1.same s2
      have k2 := k1.trans (Keep.of s2)
      have eD2 := s2 _ _ eD
      show tCall spDraw [] E0 _ _ (upd H' t (.tup (cV [0, 0, 0, 1, 1, 2, 3]))) _
      generalize (upd H' t (.tup (cV [0, 0, 0, 1, 1, 2, 3]))) = H2 at e2 p2 k2 eD2 ⊢
      refine ⟨_, rfl, a, 7, rfl, p2, by decide, by decide, fun r o r0 r1 ho => ?_⟩
      obtain ⟨p3, k3⟩ := drawn p2 k2 ho
      have eD3 : (upd H2 a o) D = some (.lst (cV ws)) := by rw [upd_ne Da]; exact eD2
      have e3 : (upd H2 a o) t = some (.tup (cV [0, 0, 0, 1, 1, 2, 3])) := by rw [upd_ne (p2.ne e2)]; exact e2
      generalize (upd H2 a o) = H3 at p3 k3 eD3 e3 ⊢
      obtain ⟨j, rfl⟩ := nat_of r0
      have hj : j < [0, 0, 0, 1, 1, 2, 3].length := by show j < 7; omega
      have gj : ([0, 0, 0, 1, 1, 2, 3] : List Nat)[j]? = some [0, 0, 0, 1, 1, 2, 3][j] := List.getElem?_eq_getElem hj
      have gx : [0, 0, 0, 1, 1, 2, 3][j] ≤ 3 := (by decide : ∀ x ∈ ([0, 0, 0, 1, 1, 2, 3] : List Nat), x ≤ 3) _ (List.mem_of_getElem? gj)
      generalize [0, 0, 0, 1, 1, 2, 3][j] = x at gj gx
      refine ⟨t, _, _, _, rfl, rfl, SqT.of e3, atI_nat (cV_at gj), ?_⟩
      refine ⟨_, eD3, by rw [List.length_map]; exact small_len (by omega), k3.but nD, p3.other (Ne.symm Da), ws ++ [x], ?_, ?_, ?_⟩
      · rw [upd_same, cV_snoc]
      · rw [List.length_append, lw]
        rfl
      · intro z hz
        rcases List.mem_append.mp hz with hz | hz
        · exact sw z hz
        · rw [List.mem_singleton.mp hz]
          exact gx
    · rintro H1 ⟨k1, p1, ws, eD, lw, sw⟩
      have eI := eD
      rw [cV_ints] at eI
      refine ⟨_, rfl, D, _, rfl, SqL.of eI, rfl, _, rfl, ite2 (fun z => ?_) (fun z => ?_)⟩
      · refine ⟨_, rfl, _, rfl, _, rfl, a, (n : Int), rfl, p1, by omega, nsm (by omega), fun r o r0 r1 ho => ?_⟩
        obtain ⟨p2, k2⟩ := drawn p1 k1 ho
        have eD2 : (upd H1 a o) D = some (.lst (cV ws)) := by rw [upd_ne Da]; exact eD
        generalize (upd H1 a o) = H2 at p2 k2 eD2 ⊢
        obtain ⟨j, rfl⟩ := nat_of r0
        refine ⟨D, _, _, j, rfl, rfl, eD2, ?_, ?_⟩
        · unfold ixN
          rw [if_pos (by omega), if_pos (by rw [List.length_map]; omega), Int.toNat_natCast]
        · have e1 : (cV ws).set j (V.int 1) = cV (ws.set j 1) := cV_set ws j 1
          rw [e1]
          have hs : (ws.set j 1)[j]? = some 1 := by rw [List.getElem?_set_self (by omega)]
          refine qu a D n (ws.set j 1) _ (p2.other (Ne.symm Da)) Da upd_same (by rw [List.length_set]; exact lw) n8 (sum_pos_of hs (by decide)) (fun x m => ?_) fun t us H' kk pp ee tt => k t us H' ((k2.but nD).trans kk) pp ee tt
          rcases List.mem_or_eq_of_mem_set m with m | rfl
          · exact sw x m
          · decide
      · have pos : 0 < ws.sum := by
          rw [sum_ints] at z
          rcases Nat.eq_zero_or_pos ws.sum with h | h
          · rw [h] at z
            exact absurd rfl z
          · exact h
        exact qu a D n ws H1 p1 Da eD lw n8 pos sw fun t us H' kk pp ee tt => k t us H' (k1.trans kk) pp ee tt
end
end K8

set_option Elab.async false
set_option linter.all false
set_option maxRecDepth 100000
set_option maxHeartbeats 4000000
namespace K8
open PySem L2
theorem le_sum {ws : List Nat} {x : Nat} (h : x ∈ ws) : x ≤ ws.sum := by
  induction ws with
  | nil => cases h
  | cons y ws ih =>
    rw [List.sum_cons]
    rcases List.mem_cons.mp h with rfl | h
    · omega
    · have := ih h
      omega
theorem ixN_ok {n j : Nat} (h : j < n) : ixN n (j : Int) = some j := by
  unfold ixN
  rw [if_pos (by omega), if_pos (by omega), Int.toNat_natCast]
theorem cV_len {ws : List Nat} : (cV ws).length = ws.length := List.length_map _
/-- _law_moved_bit(pool, tops) -/
def spMoved : Sp := fun vs H Q _ => ∃ (a t : Addr) (n : Nat) (ws : List Nat), vs = [.ref a, .ref t] ∧ PoolAt H a ∧ H t = some (.tup (cV ws)) ∧ Tps n ws ∧ 1 ≤ n ∧ n ≤ 8 ∧ ∀ (t : Addr) (ws : List Nat) (H' : Hp), Keep a H H' → PoolAt H' a → H' t = some (.tup (cV ws)) → Tps n ws → Q (.ref t) H'
section
variable {P : Program} {w : World} {K : PySem.W.Frag} {mg : Str → Option Value} {base : Heap} {C : Addr}
abbrev s_moved : Stmt := top 53
abbrev nMb : List Str := ["_law_pool_here", "_law_tops_here", "_law_found", "_law_at", "_law_to", "_law_top", "_law_k"]
theorem sc_moved : FnScope nMb ["_law_pool_here", "_law_tops_here"] (defScope s_moved) := ⟨rfl, rfl, rfl, by decide +kernel, rfl, by decide +kernel, by decide +kernel⟩
theorem ok_moved {f : Addr} {fd : FuncData} (F : Fun K "_law_moved_bit" "_law_moved_bit" s_moved f fd) (T : Bm mg) (c_draw : Cal P w K mg base 1 "_law_draw" ["_law_pool_here", "_law_many"] spDraw) : FnOk P w K mg base CX0 2 f fd ["_law_pool_here", "_law_tops_here"] spMoved := by
  refine F.ok sc_moved (fun vs H Q E h => ?_) (fun cdv A outer s H vs Q E hr h => ?_)
  · obtain ⟨a, t, n, ws, rfl, _⟩ := h
    rfl
  · obtain ⟨a, t, n, ws, rfl, hp, et, ⟨lw, pos, sm⟩, n1, n8, k⟩ := h
    refine ⟨_, (pss_cons (ps_if (pt_cmpR op_gt (pe_callB (cr_sumT rfl) (by rfl) T.n_sum PyProof.Rows.boot_sum (pa_cons (pv 1) pa_nil)) (pe_op op_pow pe_int pe_int) (nomark _))
        (pss_one (ps_ret (pe_callTy call_tuple_of (by rfl) T.n_tuple (by decide +kernel) (pa_cons (pv 1) pa_nil))))
        pss_nil)
      (pss_cons (ps_set (i := 2) sc_moved.nd rfl (Or.inr rfl) (pe_lc (own := [("_law_top", 5)]) rfl sc_moved.nd (pi_tup (pv 1)) (blkOk_by (N := nMb) (sc := defScope s_moved) (by decide +kernel)) (fun _ _ _ _ _ => (pg_name (i := 5) sc_moved.nd rfl (Or.inl rfl))) (fun _ _ _ _ _ => pts_nil) (fun _ _ _ _ _ => (pe_op op_mul pe_int (pv 5)))))
      (pss_cons (ps_set (i := 3) sc_moved.nd rfl (Or.inl rfl) (pe_ix ix_list (pe_lc (own := [("_law_k", 6)]) rfl sc_moved.nd (pi_range1 (by rfl) T.n_range (pa_cons (pe_callB call_len_seq (by rfl) T.b.n_len PySem.boot_len (pa_cons (pv 2) pa_nil)) pa_nil)) (blkOk_by (N := nMb) (sc := defScope s_moved) (by decide +kernel)) (fun _ _ _ _ _ => (pg_name (i := 6) sc_moved.nd rfl (Or.inl rfl))) (fun _ _ _ _ _ => (pts_one (pt_cmpR op_gt (pe_ix (show IxR _ (rIxL K) from ix_list) (pv 2) (pv 6) (fun _ _ => rfl)) pe_int (nomark _)))) (fun _ _ _ _ _ => (pv 6))) pe_int (fun _ _ => rfl)))
      (pss_cons (ps_asg (pe_op op_sub (pe_ix ix_list (pv 2) (pv 3) (fun _ _ => rfl)) pe_int) (pg_sub (pv 2) (pv 3) set_list))
      (pss_cons (ps_set (i := 4) sc_moved.nd rfl (Or.inl rfl) (pe_cal c_draw (hr.mono (by decide)) rfl (pa_cons (pv 0) (pa_cons (pe_callB call_len_seq (by rfl) T.b.n_len PySem.boot_len (pa_cons (pv 2) pa_nil)) pa_nil))))
      (pss_cons (ps_asg (pe_op op_add (pe_ix ix_list (pv 2) (pv 4) (fun _ _ => rfl)) pe_int) (pg_sub (pv 2) (pv 4) set_list))
      (pss_one (ps_ret (pe_callTy call_tuple_of (by rfl) T.n_tuple (by decide +kernel) (pa_cons (pv 2) pa_nil)))))))))), ?_⟩
    have eI := et
    rw [cV_ints] at eI
    refine ⟨_, rfl, t, _, rfl, SqT.of eI, 10, 10, rfl, rfl, ⟨by decide, by decide, by decide⟩, _, _, rfl, rfl, _, rfl, iteB (fun z => ?_) (fun z => ?_)⟩
    · exact ⟨_, rfl, t, _, rfl, .inr ⟨SqT.of et, k t ws H (Keep.refl a H) hp et ⟨lw, pos, sm⟩⟩⟩
    have big : ws.sum ≤ 10000000000 := by
      have e10 : ((10 : Int) ^ (10 : Int).toNat) = 10000000000 := by decide +kernel
      have z := of_decide_eq_false z
      rw [sum_ints, e10] at z
      omega
    have b6 : ∀ x ∈ ws, x ≤ 10000000000 := fun x m => Nat.le_trans (le_sum m) big
    refine ⟨_, rfl, t, rfl, ⟨_, SqT.of et⟩, fun D nD => ?_⟩
    have Da := new_ne hp nD
    refine lc_tup (K := K) (a := t) (xs := cV ws) (fun i H' => Same H H' ∧ H' D = some (.lst (cV ((ws.take i).map (6 * ·))))) ⟨Same.put nD, upd_same⟩ (fun i H' _ h => SqT.of (h.1 _ _ et)) ?_ ?_
    · rintro i x' H' hx' ⟨s1, eD⟩
      obtain ⟨x, hx, rfl⟩ := cV_of hx'
      have il := (List.getElem?_eq_some_iff.mp hx).1
      refine ⟨rfl, yes_of ?_⟩
      refine ⟨_, rfl, 6, (x : Int), rfl, rfl, .inl ⟨by decide, by decide⟩, ?_⟩
      refine ⟨_, eD, by rw [cV_len, List.length_map, List.length_take]; exact small_len (by omega), Same.but (fun b u e => s1 _ _ e) nD, ?_⟩
      rw [upd_same, take_more hx, List.map_append]
      show some (HO.lst (cV _ ++ [V.int (6 * (x : Int))])) = _
      rw [show (6 * (x : Int)) = ((6 * x : Nat) : Int) by rw [Int.natCast_mul]; rfl, cV_snoc]
      rfl
    rintro H1 ⟨s1, eD⟩
    rw [cV_len, List.take_length] at eD
    have p1 := hp.same s1
    generalize hfs : ws.map (6 * ·) = fs at eD
    have lf : fs.length = n := by rw [← hfs, List.length_map, lw]
    have bf : ∀ x ∈ fs, x ≤ 60000000000 := by
      intro x m
      rw [← hfs] at m
      obtain ⟨y, my, rfl⟩ := List.mem_map.mp m
      have := b6 y my
      show 6 * y ≤ _
      omega
    have posf : 0 < fs.sum := by
      obtain ⟨i, x, hx, px⟩ := ex_pos pos
      refine sum_pos_of (i := i) (x := 6 * x) ?_ (by omega)
      rw [← hfs, List.getElem?_map, hx]
      rfl
    -- the first above 0
    refine ⟨_, rfl, D, _, rfl, .inl (SqL.of eD), ?_⟩
    rw [cV_len, lf]
    refine ⟨_, rfl, by omega, by omega, fun G nG => ?_⟩
    rw [Int.toNat_natCast]
    refine lc_range (fun i H' => Same H1 H' ∧ H' G = some (.lst (cV ((List.range i).filter fun j => decide (0 < fs.getD j 0))))) ⟨Same.put nG, upd_same⟩ ?_ ?_
    · rintro i H' hi ⟨s2, eG⟩
      rw [Int.zero_add]
      have gi : fs[i]? = some fs[i] := List.getElem?_eq_getElem (by omega)
      have gd : fs.getD i 0 = fs[i] := by rw [List.getD, gi]; rfl
      refine ⟨rfl, ?_⟩
      refine ⟨_, rfl, _, rfl, D, _, _, _, rfl, rfl, SqL.of (s2 _ _ eD), atI_nat (cV_at gi), _, _, rfl, rfl, _, rfl, iteB (fun z => ?_) (fun z => ?_)⟩
      · have z : 0 < fs[i] := by
          have := of_decide_eq_true z
          omega
        refine ⟨_, rfl, _, eG, ?_, Same.but (fun b u e => s2 _ _ e) nG, ?_⟩
        · rw [cV_len]
          have := List.length_filter_le (fun j => decide (0 < fs.getD j 0)) (List.range i)
          rw [List.length_range] at this
          exact small_len (by omega)
        · rw [upd_same, cV_snoc, List.range_succ, List.filter_append, List.filter_cons, gd, decide_eq_true z]
          rfl
      · have z : ¬ 0 < fs[i] := by
          have := of_decide_eq_false z
          omega
        refine ⟨s2, ?_⟩
        rw [List.range_succ, List.filter_append, List.filter_cons, gd, decide_eq_false z]
        simpa using eG
    rintro H2 ⟨s2, eG⟩
    obtain ⟨i, x, hx, px⟩ := ex_pos posf
    have iw : i ∈ (List.range n).filter fun j => decide (0 < fs.getD j 0) := by
      refine List.mem_filter.mpr ⟨List.mem_range.mpr ?_, ?_⟩
      · have := (List.getElem?_eq_some_iff.mp hx).1
        omega
      · rw [List.getD, hx]
        exact decide_eq_true px
    generalize hL : ((List.range n).filter fun j => decide (0 < fs.getD j 0)) = L at iw eG
    obtain ⟨j, rest, rfl⟩ : ∃ j rest, L = j :: rest := by
      cases L with
      | nil => cases iw
      | cons j rest => exact ⟨j, rest, rfl⟩
    obtain ⟨j1, j2⟩ := List.mem_filter.mp (show j ∈ ((List.range n).filter fun j => decide (0 < fs.getD j 0)) by rw [hL]; exact List.mem_cons_self)
    have j1 := List.mem_range.mp j1
    have j2 := of_decide_eq_true j2
    have gj : fs[j]? = some fs[j] := List.getElem?_eq_getElem (by omega)
    have gd : fs.getD j 0 = fs[j] := by rw [List.getD, gj]; rfl
    rw [gd] at j2
    refine ⟨_, _, 0, _, rfl, rfl, SqL.of eG, atI_nat (j := 0) rfl, ?_⟩
    have eD2 := s2 _ _ eD
    have p2 := p1.same s2
    refine ⟨_, rfl, _, rfl, D, _, _, _, rfl, rfl, SqL.of eD2, atI_nat (cV_at gj), _, _, rfl, rfl, _, rfl, _, rfl, D, _, _, j, rfl, rfl, eD2, ixN_ok (by rw [cV_len]; omega), ?_⟩
    have e1 : (cV fs).set j (V.int ((fs[j] : Int) - 1)) = cV (fs.set j (fs[j] - 1)) := by
      rw [show ((fs[j] : Int) - 1) = ((fs[j] - 1 : Nat) : Int) by omega]
      exact cV_set fs j _
    have k3 : Keep a H (upd H2 D (.lst ((cV fs).set j (V.int ((fs[j] : Int) - 1))))) := (Keep.of (s1.trans s2)).but nD
    have p3 : PoolAt (upd H2 D (.lst ((cV fs).set j (V.int ((fs[j] : Int) - 1))))) a := p2.other (Ne.symm Da)
    have e3 : (upd H2 D (.lst ((cV fs).set j (V.int ((fs[j] : Int) - 1))))) D = some (.lst (cV (fs.set j (fs[j] - 1)))) := by rw [upd_same, e1]
    generalize (upd H2 D (.lst ((cV fs).set j (V.int ((fs[j] : Int) - 1))))) = H3 at k3 p3 e3 ⊢
    have lg : (fs.set j (fs[j] - 1)).length = n := by rw [List.length_set, lf]
    have bg : ∀ x ∈ fs.set j (fs[j] - 1), x ≤ 60000000000 := fun x m => by
      rcases List.mem_or_eq_of_mem_set m with m | rfl
      · exact bf x m
      · have := bf fs[j] (List.mem_of_getElem? gj)
        omega
    obtain ⟨gs, e3, lg, bg⟩ : ∃ gs : List Nat, H3 D = some (.lst (cV gs)) ∧ gs.length = n ∧ ∀ x ∈ gs, x ≤ 60000000000 := ⟨_, e3, lg, bg⟩
    clear e1 hL iw eG s2 p2 eD2 hfs s1 p1 eD
    refine ⟨_, rfl, _, rfl, D, _, rfl, .inl (SqL.of e3), a, _, rfl, p3, by rw [cV_len]; omega, by rw [cV_len]; exact nsm (by omega), fun r o r0 r1 ho => ?_⟩
    obtain ⟨p4, k4⟩ := drawn p3 k3 ho
    have e4 : (upd H3 a o) D = some (.lst (cV gs)) := by rw [upd_ne Da]; exact e3
    generalize (upd H3 a o) = H4 at p4 k4 e4 ⊢
    obtain ⟨q, rfl⟩ := nat_of r0
    rw [cV_len] at r1
    have gq : gs[q]? = some gs[q] := List.getElem?_eq_getElem (by omega)
    refine ⟨_, rfl, _, rfl, D, _, _, _, rfl, rfl, SqL.of e4, atI_nat (cV_at gq), _, _, rfl, rfl, _, rfl, _, rfl, D, _, _, q, rfl, rfl, e4, ixN_ok (by rw [cV_len]; omega), ?_⟩
    have e5 : (cV gs).set q (V.int ((gs[q] : Int) + 1)) = cV (gs.set q (gs[q] + 1)) := cV_set gs q (gs[q] + 1)
    refine ⟨_, rfl, D, cV (gs.set q (gs[q] + 1)), rfl, .inl ⟨SqL.of (by rw [upd_same]; exact congrArg (fun l => some (HO.lst l)) e5), fun c nc => ?_⟩⟩
    refine k c (gs.set q (gs[q] + 1)) _ ((k4.but nD).trans (Keep.of (Same.put nc))) ((p4.other (Ne.symm Da)).same (Same.put nc)) upd_same ⟨by rw [List.length_set, lg], sum_pos_of (i := q) (x := gs[q] + 1) (by rw [List.getElem?_set_self (by omega)]) (by omega), fun x m => ?_⟩
    rcases List.mem_or_eq_of_mem_set m with m | rfl
    · exact Nat.lt_of_le_of_lt (bg x m) (by decide)
    · have := bg gs[q] (List.mem_of_getElem? gq)
      exact Nat.lt_of_le_of_lt (show gs[q] + 1 ≤ 60000000001 by omega) (by decide)
end
end K8

set_option Elab.async false
set_option linter.all false
set_option maxRecDepth 100000
set_option maxHeartbeats 4000000
namespace K8
open PySem L2
/-- a list of rows under way -/
structure RowsSt (n : Nat) (a : Addr) (H0 : Hp) (l : Addr) (H : Hp) (rs : List (Addr × List Nat)) : Prop where
  kp : Keep a H0 H
  pl : PoolAt H a
  el : H l = some (.lst (rfs rs))
  rw_ : Rws n H rs
  n0 : H0 l = none
/-- what a step that keeps all but the pool leaves of it -/
theorem RowsSt.step {n : Nat} {a : Addr} {H0 H H' : Hp} {l : Addr} {rs : List (Addr × List Nat)} (h : RowsSt n a H0 l H rs) (k : Keep a H H') (p : PoolAt H' a) : RowsSt n a H0 l H' rs :=
  ⟨h.kp.trans k, p, k _ _ h.el (h.pl.neR h.el), h.rw_.keep k h.pl, h.n0⟩
theorem RowsSt.draw {n : Nat} {a : Addr} {H0 H : Hp} {l : Addr} {rs : List (Addr × List Nat)} {o : HO} (h : RowsSt n a H0 l H rs) (ho : PoolL o) : RowsSt n a H0 l (upd H a o) rs := h.step (Keep.put o) (.put ho)
theorem RowsSt.same {n : Nat} {a : Addr} {H0 H H' : Hp} {l : Addr} {rs : List (Addr × List Nat)} (h : RowsSt n a H0 l H rs) (s : Same H H') : RowsSt n a H0 l H' rs := h.step (Keep.of s) (h.pl.same s)
/-- one more row -/
theorem RowsSt.push {n : Nat} {a : Addr} {H0 H : Hp} {l : Addr} {rs : List (Addr × List Nat)} {r : Addr × List Nat} (h : RowsSt n a H0 l H rs) (e : TpsAt n H r) : RowsSt n a H0 l (upd H l (.lst (rfs rs ++ [V.ref r.1]))) (rs ++ [r]) :=
  ⟨h.kp.but h.n0, h.pl.other (Ne.symm (h.pl.neR h.el)), by rw [upd_same, rfs_snoc], (h.rw_.snoc e).lstU h.el, h.n0⟩
theorem RowsSt.new {n : Nat} {a l : Addr} {H : Hp} (hp : PoolAt H a) (nl : H l = none) : RowsSt n a H l (upd H l (.lst [])) [] := ⟨Keep.of (Same.put nl), hp.new nl, upd_same, Rws.nil, nl⟩
section
variable {P : Program} {w : World} {K : PySem.W.Frag} {mg : Str → Option Value} {base : Heap} {C : Addr}
abbrev s_alike : Stmt := top 55
abbrev nAl : List Str := ["_law_pool_here", "_law_size_here", "_law_rows_here", "_law_k", "_law_way"]
theorem sc_alike : FnScope nAl ["_law_pool_here", "_law_size_here"] (defScope s_alike) := ⟨rfl, rfl, rfl, by decide +kernel, rfl, by decide +kernel, by decide +kernel⟩
theorem ok_alike {f : Addr} {fd : FuncData} (F : Fun K "_law_rows_alike" "_law_rows_alike" s_alike f fd) (T : Bm mg) (c_draw : Cal P w K mg base 1 "_law_draw" ["_law_pool_here", "_law_many"] spDraw) (c_pick : Cal P w K mg base 2 "_law_pick" ["_law_pool_here", "_law_things"] spPickQ)
    (c_tops : Cal P w K mg base 2 "_law_tops" ["_law_pool_here", "_law_size_here"] spTops) (c_moved : Cal P w K mg base 2 "_law_moved_bit" ["_law_pool_here", "_law_tops_here"] spMoved) : FnOk P w K mg base CX0 3 f fd ["_law_pool_here", "_law_size_here"] spRowsG := by
  refine F.ok sc_alike (fun vs H Q E h => ?_) (fun cdv A outer s H vs Q E hr h => ?_)
  · obtain ⟨a, n, rfl, _⟩ := h
    rfl
  · obtain ⟨a, n, rfl, hp, n1, n8, k⟩ := h
    refine ⟨_, (pss_cons (ps_set (i := 2) sc_alike.nd rfl (Or.inl rfl) (pe_lst (pa_cons (pe_cal c_tops (hr.mono (by decide)) rfl (pa_cons (pv 0) (pa_cons (pv 1) pa_nil))) pa_nil)))
      (pss_cons (ps_for PassesOwn.never rfl (pi_range2 (by rfl) T.n_range (pa_cons pe_int (pa_cons (pv 1) pa_nil))) (pg_name (i := 3) sc_alike.nd rfl (Or.inl rfl))
        (pss_cons (ps_set (i := 4) sc_alike.nd rfl (Or.inl rfl) (pe_cal c_draw (hr.mono (by decide)) rfl (pa_cons (pv 0) (pa_cons pe_int pa_nil))))
          (pss_one (ps_if (pt_cmpR op_eq (pv 4) pe_int (nomark _))
            (pss_one (ps_expr (pe_bm PySem.F.plainAttrs_list PySem.F.slot_list_append PySem.F.type_list_append mt_append (pv 2) (pa_cons (pe_cal c_tops (hr.mono (by decide)) rfl (pa_cons (pv 0) (pa_cons (pv 1) pa_nil))) pa_nil))))
            (pss_one (ps_if (pt_cmpR op_eq (pv 4) pe_int (nomark _))
              (pss_one (ps_expr (pe_bm PySem.F.plainAttrs_list PySem.F.slot_list_append PySem.F.type_list_append mt_append (pv 2) (pa_cons (pe_cal c_moved (hr.mono (by decide)) rfl (pa_cons (pv 0) (pa_cons (pe_cal c_pick (hr.mono (by decide)) rfl (pa_cons (pv 0) (pa_cons (pv 2) pa_nil))) pa_nil))) pa_nil))))
              (pss_one (ps_expr (pe_bm PySem.F.plainAttrs_list PySem.F.slot_list_append PySem.F.type_list_append mt_append (pv 2) (pa_cons (pe_cal c_pick (hr.mono (by decide)) rfl (pa_cons (pv 0) (pa_cons (pv 2) pa_nil))) pa_nil))))))))))
      (pss_one (ps_ret (pv 2))))), ?_⟩
    refine ⟨_, rfl, _, rfl, a, n, rfl, hp, n1, n8, fun t ws H1 k1 p1 et tp => ⟨by show 1 ≤ sizeLine; decide, fun l nl => ?_⟩⟩
    have st0 : RowsSt n a H1 l (upd H1 l (.lst (rfs [(t, ws)]))) [(t, ws)] := ⟨Keep.of (Same.put nl), p1.new nl, upd_same, fun r m => by
      rw [List.mem_singleton.mp m]
      exact ⟨Same.put nl _ _ et, tp⟩, nl⟩
    refine ⟨_, rfl, 1, (n : Int), rfl, ⟨by decide, by decide, by omega, by omega⟩, ?_⟩
    have en : ((n : Int) - 1).toNat = n - 1 := by omega
    rw [en]
    refine for_range (fun i σ H' => ∃ v3 v4 rs, σ = [some (.ref a), some (.int (n : Int)), some (.ref l), v3, v4] ∧ RowsSt n a H1 l H' rs ∧ rs.length = i + 1) ⟨none, none, _, rfl, st0, rfl⟩ ?_ ?_
    · rintro i σ H2 hi ⟨v3, v4, rs, rfl, st, lr⟩
      refine ⟨_, rfl, a, 4, rfl, st.pl, by decide, by decide, fun y o y0 y1 ho => ?_⟩
      have st := st.draw ho
      generalize (upd H2 a o) = H3 at st ⊢
      have app : ∀ (r : Addr × List Nat) (H4 : Hp) (D : Ends) (σ : St), RowsSt n a H1 l H4 rs → TpsAt n H4 r → (RowsSt n a H1 l (upd H4 l (.lst (rfs rs ++ [V.ref r.1]))) (rs ++ [r]) → D.nx σ (upd H4 l (.lst (rfs rs ++ [V.ref r.1])))) →
          ∃ a_1 y xs, (V.ref l = V.ref a_1) ∧ [V.ref r.1] = [y] ∧ H4 a_1 = some (.lst xs) ∧ xs.length < sizeLine ∧ D.nx σ (upd H4 a_1 (.lst (xs ++ [y]))) :=
        fun r H4 D σ st4 tr kk => ⟨l, _, _, rfl, rfl, st4.el, by rw [rfs_len]; exact small_len (by omega), kk (st4.push tr)⟩
      refine ⟨_, rfl, rfl, _, rfl, ite2 (fun _ => ?_) (fun _ => ?_)⟩
      · refine ⟨_, rfl, .inl ⟨rfl, _, SqL.of st.el⟩, _, rfl, _, rfl, a, n, rfl, st.pl, n1, n8, fun t2 w2 H4 k4 p4 e4 tp4 => ?_⟩
        have st4 := st.step k4 p4
        exact ⟨l, _, _, rfl, rfl, st4.el, by rw [rfs_len]; exact small_len (by omega), _, _, _, rfl, st4.push (r := (t2, w2)) ⟨e4, tp4⟩, by rw [List.length_append, lr]; rfl⟩
      · have pk : ∀ {Q2 : VK}, (∀ (r : Addr × List Nat) (o : HO), r ∈ rs → PoolL o → Q2 (.ref r.1) (upd H3 a o)) → spPickQ [.ref a, .ref l] H3 Q2 E0 := fun q =>
          ⟨a, l, rfs rs, rfl, st.pl, .inl st.el, st.pl.neR st.el, by rw [rfs_len]; omega, by rw [rfs_len]; omega, fun x o2 hx ho2 => by
            obtain ⟨r, hr2, rfl⟩ := List.mem_map.mp hx
            exact q r o2 hr2 ho2⟩
        refine ⟨_, rfl, rfl, _, rfl, ite2 (fun _ => ?_) (fun _ => ?_)⟩
        · refine ⟨_, rfl, .inl ⟨rfl, _, SqL.of st.el⟩, _, rfl, _, rfl, _, rfl, pk fun r o2 mr ho2 => ?_⟩
          have st2 := st.draw ho2
          have tr := st2.rw_ r mr
          refine ⟨a, r.1, n, r.2, rfl, st2.pl, tr.1, tr.2, n1, n8, fun t2 w2 H4 k4 p4 e4 tp4 => ?_⟩
          have st4 := st2.step k4 p4
          exact ⟨l, _, _, rfl, rfl, st4.el, by rw [rfs_len]; exact small_len (by omega), _, _, _, rfl, st4.push (r := (t2, w2)) ⟨e4, tp4⟩, by rw [List.length_append, lr]; rfl⟩
        · refine ⟨_, rfl, .inl ⟨rfl, _, SqL.of st.el⟩, _, rfl, _, rfl, pk fun r o2 mr ho2 => ?_⟩
          have st2 := st.draw ho2
          have tr := st2.rw_ r mr
          exact ⟨l, _, _, rfl, rfl, st2.el, by rw [rfs_len]; exact small_len (by omega), _, _, _, rfl, st2.push (r := r) tr, by rw [List.length_append, lr]; rfl⟩
    · rintro σ H2 ⟨v3, v4, rs, rfl, st, lr⟩
      exact ⟨_, rfl, k l rs H2 (k1.trans st.kp) st.pl st.el st.rw_ (by omega)⟩
end
end K8

set_option Elab.async false
set_option linter.all false
set_option maxRecDepth 100000
set_option maxHeartbeats 4000000
namespace K8
open PySem L2
def hitW (n g : Nat) : List Nat := (List.range n).map fun j => if j = g then 1 else 0
theorem hit_tps {n g : Nat} (h : g < n) : Tps n (hitW n g) := by
  refine ⟨by rw [hitW, List.length_map, List.length_range], ?_, fun w m => ?_⟩
  · refine sum_pos_of (i := g) (x := 1) ?_ (by decide)
    rw [hitW, List.getElem?_map, List.getElem?_range h]
    simp
  · obtain ⟨j, _, rfl⟩ := List.mem_map.mp m
    split <;> decide
theorem hit_succ (i g : Nat) : cV (hitW i g) ++ [V.int (if i = g then 1 else 0)] = cV (hitW (i + 1) g) := by
  rw [show hitW (i + 1) g = hitW i g ++ [if i = g then 1 else 0] by rw [hitW, hitW, List.range_succ, List.map_append]; rfl, ← cV_snoc]
  split <;> rfl
theorem fmod_nat (x n : Nat) : ((x : Int)).fmod (n : Int) = ((x % n : Nat) : Int) := by
  rw [Int.fmod_eq_emod_of_nonneg _ (by omega)]
  omega
theorem eq_nat (i g : Nat) : decide (V.int (i : Int) = V.int (g : Int)) = decide (i = g) := by
  rw [decide_eq_decide, V.int.injEq]
  omega
section
variable {P : Program} {w : World} {K : PySem.W.Frag} {mg : Str → Option Value} {base : Heap} {C : Addr}
abbrev s_turning : Stmt := top 56
abbrev nTu : List Str := ["_law_pool_here", "_law_size_here", "_law_step", "_law_rows_here", "_law_k", "_law_goal", "_law_j"]
theorem sc_turning : FnScope nTu ["_law_pool_here", "_law_size_here"] (defScope s_turning) := ⟨rfl, rfl, rfl, by decide +kernel, rfl, by decide +kernel, by decide +kernel⟩
def loopTu : List Stmt := match (defBody s_turning).getD 2 (.Pass ⟨0, 0, 0, 0⟩) with
  | .For _ _ b _ _ => b
  | _ => []
abbrev XTu (P : Program) (w : World) (K : PySem.W.Frag) (mg : Str → Option Value) (base : Heap) (f : Addr) (cdv : Value) (A : Around) (outer : List Env) (s : Shared) (H : Hp) (E : XK) : Cx :=
  (cxOf CX0 P w K mg base nTu "_law_rows_turning" (defScope s_turning) f cdv A outer s H E).nox
theorem segTu2 {f : Addr} {cdv : Value} {A : Around} {outer : List Env} {s : Shared} {H : Hp} {E : XK} (T : Bm mg) :
    ∃ u, PSs (XTu P w K mg base f cdv A outer s H E) (loopTu.drop 2) u ∧ ∀ (a l : Addr) (n g : Nat) (rs : List (Addr × List Nat)) (v2 v4 v6 : Option V) (x5 : V) (D : Ends) (H1 G : Hp), x5 = .int (g : Int) → n ≤ 8 → g < n → RowsSt n a H1 l G rs → rs.length ≤ 8 →
      (∀ (v6 : Option V) (r : Addr × List Nat) (H' : Hp), RowsSt n a H1 l H' (rs ++ [r]) → D.nx [some (.ref a), some (.int (n : Int)), v2, some (.ref l), v4, some x5, v6] H') → u D [some (.ref a), some (.int (n : Int)), v2, some (.ref l), v4, some x5, v6] G := by
  refine ⟨_, (pss_one (ps_expr (pe_bm PySem.F.plainAttrs_list PySem.F.slot_list_append PySem.F.type_list_append mt_append (pv 3) (pa_cons (pe_callTy call_tuple_of (by rfl) T.n_tuple (by decide +kernel) (pa_cons (pe_lc (own := [("_law_j", 6)]) rfl sc_turning.nd (pi_range1 (by rfl) T.n_range (pa_cons (pv 1) pa_nil)) (blkOk_by (N := nTu) (sc := defScope s_turning) (by decide +kernel)) (fun _ _ _ _ _ => (pg_name (i := 6) sc_turning.nd rfl (Or.inl rfl))) (fun _ _ _ _ _ => pts_nil) (fun _ _ _ _ _ => (pe_callTy call_int1 (by rfl) T.b.n_int (by decide +kernel) (pa_cons (pe_cmpR op_eq (pv 6) (pv 5) (nomark _)) pa_nil)))) pa_nil)) pa_nil)))), ?_⟩
  intro a l n g rs v2 v4 v6 x5 D H1 G e5 n8 hg st lr k
  subst e5
  refine ⟨_, rfl, .inl ⟨rfl, _, SqL.of st.el⟩, _, rfl, _, rfl, by omega, by omega, fun B nB => ?_⟩
  rw [Int.toNat_natCast]
  refine lc_range (fun i H' => Same G H' ∧ H' B = some (.lst (cV (hitW i g)))) ⟨Same.put nB, upd_same⟩ ?_ ?_
  · rintro i H' hi ⟨s1, eB⟩
    rw [Int.zero_add]
    refine ⟨rfl, yes_of ?_⟩
    refine ⟨_, rfl, _, rfl, rfl, .inr ⟨_, rfl, _, eB, by rw [cV_len, hitW, List.length_map, List.length_range]; exact small_len (by omega), Same.but (fun b u e => s1 _ _ e) nB, ?_⟩⟩
    rw [upd_same, eq_nat, ← hit_succ]
    by_cases e : i = g
    · rw [decide_eq_true e, if_pos e]; rfl
    · rw [decide_eq_false e, if_neg e]; rfl
  · rintro H2 ⟨s1, eB⟩
    refine ⟨B, _, rfl, .inl ⟨SqL.of eB, fun t nt => ?_⟩⟩
    have st2 := (st.same s1).same (Same.put (o := .tup (cV (hitW n g))) nt)
    exact ⟨l, _, _, rfl, rfl, st2.el, by rw [rfs_len]; exact small_len (by omega), k _ (t, hitW n g) _ (st2.push (r := (t, hitW n g)) ⟨upd_same, hit_tps hg⟩)⟩
theorem ok_turning {f : Addr} {fd : FuncData} (F : Fun K "_law_rows_turning" "_law_rows_turning" s_turning f fd) (T : Bm mg) (c_draw : Cal P w K mg base 1 "_law_draw" ["_law_pool_here", "_law_many"] spDraw) : FnOk P w K mg base CX0 3 f fd ["_law_pool_here", "_law_size_here"] spRowsG := by
  refine F.ok sc_turning (fun vs H Q E h => ?_) (fun cdv A outer s H vs Q E hr h => ?_)
  · obtain ⟨a, n, rfl, _⟩ := h
    rfl
  · obtain ⟨a, n, rfl, hp, n1, n8, k⟩ := h
    obtain ⟨u, hu, qu⟩ := segTu2 (P := P) (w := w) (K := K) (mg := mg) (base := base) (f := f) (cdv := cdv) (A := A) (outer := outer) (s := s) (H := H) (E := E) T
    refine ⟨_, (pss_cons (ps_set (i := 2) sc_turning.nd rfl (Or.inl rfl) (pe_cal c_draw (hr.mono (by decide)) rfl (pa_cons (pv 0) (pa_cons (pv 1) pa_nil))))
      (pss_cons (ps_set (i := 3) sc_turning.nd rfl (Or.inl rfl) (pe_lst pa_nil))
      (pss_cons (ps_for PassesOwn.never rfl (pi_range1 (by rfl) T.n_range (pa_cons (pv 1) pa_nil)) (pg_name (i := 4) sc_turning.nd rfl (Or.inl rfl))
        (pss_cons (ps_set (i := 5) sc_turning.nd rfl (Or.inr rfl) (pe_op op_modN (pe_callTy call_int1 (by rfl) T.b.n_int (by decide +kernel) (pa_cons (pe_op op_add (pv 4) (pv 2)) pa_nil)) (pv 1)))
          (pss_cons (ps_if (pt_cmpR op_eq (pe_cal c_draw (hr.mono (by decide)) rfl (pa_cons (pv 0) (pa_cons pe_int pa_nil))) pe_int (nomark _))
            (pss_one (ps_set (i := 5) sc_turning.nd rfl (Or.inr rfl) (pe_cal c_draw (hr.mono (by decide)) rfl (pa_cons (pv 0) (pa_cons (pv 1) pa_nil)))))
            pss_nil) hu)))
      (pss_one (ps_ret (pv 3)))))), ?_⟩
    refine ⟨_, rfl, _, rfl, a, (n : Int), rfl, hp, by omega, nsm (by omega), fun sp o s0 s1 ho => ?_⟩
    have p1 : PoolAt (upd H a o) a := .put ho
    have k1 := Keep.put (a := a) (H := H) o
    generalize (upd H a o) = H1 at p1 k1 ⊢
    obtain ⟨sp, rfl⟩ := nat_of s0
    refine ⟨by show 0 ≤ sizeLine; decide, fun l nl => ?_⟩
    have st0 := RowsSt.new (n := n) p1 nl
    refine ⟨_, rfl, _, rfl, by omega, by omega, ?_⟩
    rw [Int.toNat_natCast]
    refine for_range (fun i σ H' => ∃ v4 v5 v6 rs, σ = [some (.ref a), some (.int (n : Int)), some (.int (sp : Int)), some (.ref l), v4, v5, v6] ∧ RowsSt n a H1 l H' rs ∧ rs.length = i) ⟨none, none, none, [], rfl, st0, rfl⟩ ?_ ?_
    · rintro i σ H2 hi ⟨v4, v5, v6, rs, rfl, st, lr⟩
      rw [Int.zero_add]
      refine ⟨_, rfl, _, rfl, _, _, rfl, rfl, .inl ⟨_, rfl, _, rfl, _, _, rfl, rfl, by omega, ?_⟩⟩
      have em : (((i : Int) + (sp : Int)).fmod (n : Int)) = (((i + sp) % n : Nat) : Int) := by rw [← Int.natCast_add, fmod_nat]
      refine ⟨_, rfl, a, 4, rfl, st.pl, by decide, by decide, fun y o y0 y1 ho => ?_⟩
      have st2 := st.draw ho
      have lt : (i + sp) % n < n := Nat.mod_lt _ (by omega)
      refine ⟨rfl, _, rfl, ite2 (fun _ => ?_) (fun _ => ?_)⟩
      · refine ⟨_, rfl, _, rfl, a, (n : Int), rfl, st2.pl, by omega, nsm (by omega), fun g o2 g0 g1 ho2 => ?_⟩
        have st3 := st2.draw ho2
        obtain ⟨g, rfl⟩ := nat_of g0
        exact qu a l n g rs _ _ _ _ _ H1 _ rfl n8 (by omega) st3 (by omega) fun v6 r H' st' => ⟨_, _, v6, _, rfl, st', by rw [List.length_append, lr]; rfl⟩
      · exact qu a l n ((i + sp) % n) rs _ _ _ _ _ H1 _ (congrArg V.int em) n8 lt st2 (by omega) fun v6 r H' st' => ⟨_, _, v6, _, rfl, st', by rw [List.length_append, lr]; rfl⟩
    · rintro σ H2 ⟨v4, v5, v6, rs, rfl, st, lr⟩
      exact ⟨_, rfl, k l rs H2 (k1.trans st.kp) st.pl st.el st.rw_ lr⟩
end
end K8

set_option Elab.async false
set_option linter.all false
set_option maxRecDepth 100000
set_option maxHeartbeats 4000000
namespace K8
open PySem L2
theorem iteA {c : Bool} {A B : Prop} (h1 : A) (h2 : B) : if c = true then A else B := iteB (fun _ => h1) fun _ => h2
/-- made positive by one item -/
def mend (ws : List Nat) (k : Nat) : List Nat := if ws.sum = 0 then ws.set k 1 else ws
theorem mend_tps {n k : Nat} {ws : List Nat} (lw : ws.length = n) (hk : k < n) (b : ∀ w ∈ ws, w < 2 ^ 40) : Tps n (mend ws k) := by
  unfold mend
  split
  · refine ⟨by rw [List.length_set, lw], sum_pos_of (i := k) (x := 1) (by rw [List.getElem?_set_self (by omega)]) (by decide), fun w m => ?_⟩
    rcases List.mem_or_eq_of_mem_set m with m | rfl
    · exact b w m
    · decide
  · exact ⟨lw, by omega, b⟩
section
variable {P : Program} {w : World} {K : PySem.W.Frag} {mg : Str → Option Value} {base : Heap} {C : Addr}
abbrev s_parted : Stmt := top 57
abbrev nPa : List Str := ["_law_pool_here", "_law_size_here", "_law_cut", "_law_rows_here", "_law_k", "_law_tops_here", "_law_j"]
theorem sc_parted : FnScope nPa ["_law_pool_here", "_law_size_here"] (defScope s_parted) := ⟨rfl, rfl, rfl, by decide +kernel, rfl, by decide +kernel, by decide +kernel⟩
def loopPa : List Stmt := match (defBody s_parted).getD 2 (.Pass ⟨0, 0, 0, 0⟩) with
  | .For _ _ b _ _ => b
  | _ => []
abbrev XPa (P : Program) (w : World) (K : PySem.W.Frag) (mg : Str → Option Value) (base : Heap) (f : Addr) (cdv : Value) (A : Around) (outer : List Env) (s : Shared) (H : Hp) (E : XK) : Cx :=
  (cxOf CX0 P w K mg base nPa "_law_rows_parted" (defScope s_parted) f cdv A outer s H E).nox
theorem segPa2 {f : Addr} {cdv : Value} {A : Around} {outer : List Env} {s : Shared} {H : Hp} {E : XK} (T : Bm mg) :
    ∃ u, PSs (XPa P w K mg base f cdv A outer s H E) (loopPa.drop 2) u ∧ ∀ (a l B : Addr) (n i : Nat) (rs : List (Addr × List Nat)) (ws : List Nat) (v2 v6 : Option V) (D : Ends) (H1 G : Hp), n ≤ 8 → i < n → RowsSt n a H1 l G rs → rs.length ≤ 8 → G B = some (.lst (cV ws)) → H1 B = none → B ≠ a → B ≠ l → ws.length = n → (∀ w ∈ ws, w < 2 ^ 40) →
      (∀ (r : Addr × List Nat) (H' : Hp), RowsSt n a H1 l H' (rs ++ [r]) → D.nx [some (.ref a), some (.int (n : Int)), v2, some (.ref l), some (.int (i : Int)), some (.ref B), v6] H') → u D [some (.ref a), some (.int (n : Int)), v2, some (.ref l), some (.int (i : Int)), some (.ref B), v6] G := by
  refine ⟨_, (pss_cons (ps_if (pt_cmpR op_eq (pe_callB (cr_sum rfl) (by rfl) T.n_sum PyProof.Rows.boot_sum (pa_cons (pv 5) pa_nil)) pe_int (nomark _))
      (pss_one (ps_asg pe_int (pg_sub (pv 5) (pv 4) set_list)))
      pss_nil)
    (pss_one (ps_expr (pe_bm PySem.F.plainAttrs_list PySem.F.slot_list_append PySem.F.type_list_append mt_append (pv 3) (pa_cons (pe_callTy call_tuple_of (by rfl) T.n_tuple (by decide +kernel) (pa_cons (pv 5) pa_nil)) pa_nil))))), ?_⟩
  intro a l B n i rs ws v2 v6 D H1 G n8 hi st lr eB nB Ba Bl lw bw k
  have eI := eB
  rw [cV_ints] at eI
  have tp := mend_tps lw hi bw
  have fin : ∀ (G2 : Hp) (us : List Nat) (t : Addr), RowsSt n a H1 l G2 rs → G2 t = none → Tps n us → rAppend (.ref l) [.ref t] (upd G2 t (.tup (cV us))) fun _ H' => D.nx [some (.ref a), some (.int (n : Int)), v2, some (.ref l), some (.int (i : Int)), some (.ref B), v6] H' := by
    intro G2 us t st2 nt tp
    have st3 := st2.same (Same.put (o := .tup (cV us)) nt)
    exact ⟨l, _, _, rfl, rfl, st3.el, by rw [rfs_len]; exact small_len (by omega), k (t, us) _ (st3.push (r := (t, us)) ⟨upd_same, tp⟩)⟩
  refine ⟨_, rfl, B, _, rfl, SqL.of eI, rfl, _, rfl, ite2 (fun z => ?_) (fun z => ?_)⟩
  · have z0 : ws.sum = 0 := by
      have z := of_decide_eq_true z
      rw [sum_ints, V.int.injEq] at z
      omega
    unfold mend at tp
    rw [if_pos z0] at tp
    refine ⟨_, rfl, _, rfl, B, _, _, i, rfl, rfl, eB, ixN_ok (by rw [cV_len]; omega), ?_⟩
    have e1 : (cV ws).set i (V.int 1) = cV (ws.set i 1) := cV_set ws i 1
    rw [e1]
    have st2 : RowsSt n a H1 l (upd G B (.lst (cV (ws.set i 1)))) rs := ⟨st.kp.but nB, st.pl.other (Ne.symm Ba), by rw [upd_ne (Ne.symm Bl)]; exact st.el, st.rw_.lstU eB, st.n0⟩
    refine ⟨_, rfl, .inl ⟨rfl, _, SqL.of st2.el⟩, _, rfl, B, _, rfl, .inl ⟨SqL.of upd_same, fun t nt => ?_⟩⟩
    exact fin _ _ t st2 nt tp
  · have z0 : ¬ ws.sum = 0 := by
      intro h
      refine z (decide_eq_true ?_)
      rw [sum_ints, h]
      rfl
    unfold mend at tp
    rw [if_neg z0] at tp
    refine ⟨_, rfl, .inl ⟨rfl, _, SqL.of st.el⟩, _, rfl, B, _, rfl, .inl ⟨SqL.of eB, fun t nt => ?_⟩⟩
    exact fin _ _ t st nt tp
def ifT : Stmt → List Stmt
  | .If _ b _ _ => b
  | _ => []
def thenPa : List Stmt := ifT (loopPa.getD 1 (.Pass ⟨0, 0, 0, 0⟩))
theorem segPaT {f : Addr} {cdv : Value} {A : Around} {outer : List Env} {s : Shared} {H : Hp} {E : XK} (T : Bm mg) :
    ∃ u, PSs (XPa P w K mg base f cdv A outer s H E) thenPa u ∧ ∀ (a l B : Addr) (n i : Nat) (ws : List Nat) (c : Int) (v6 : Option V) (D : Ends) (G : Hp), n ≤ 8 → i < n → G B = some (.lst (cV ws)) → ws.length = n → (∀ w ∈ ws, w < 2 ^ 40) →
      (∀ (B2 : Addr) (us : List Nat) (H' : Hp), Same G H' → G B2 = none → H' B2 = some (.lst (cV us)) → us.length = n → (∀ w ∈ us, w < 2 ^ 40) → D.nx [some (.ref a), some (.int (n : Int)), some (.int c), some (.ref l), some (.int (i : Int)), some (.ref B2), v6] H') → u D [some (.ref a), some (.int (n : Int)), some (.int c), some (.ref l), some (.int (i : Int)), some (.ref B), v6] G := by
  refine ⟨_, (pss_one (ps_set (i := 5) sc_parted.nd rfl (Or.inr rfl) (pe_lc (own := [("_law_j", 6)]) rfl sc_parted.nd (pi_range1 (by rfl) T.n_range (pa_cons (pv 1) pa_nil)) (blkOk_by (N := nPa) (sc := defScope s_parted) (by decide +kernel)) (fun _ _ _ _ _ => (pg_name (i := 6) sc_parted.nd rfl (Or.inl rfl))) (fun _ _ _ _ _ => pts_nil) (fun _ _ _ _ _ => (pe_op op_mul (pe_ix (show IxR _ (rIxL K) from ix_list) (pv 5) (pv 6) (fun _ _ => rfl)) (pe_callTy call_int1 (by rfl) T.b.n_int (by decide +kernel) (pa_cons (pe_cmpR op_eq (pe_cmpR op_lt (pv 6) (pv 2) (nomark _)) (pe_cmpR op_lt (pv 4) (pv 2) (nomark _)) (nomark _)) pa_nil))))))), ?_⟩
  intro a l B n i ws c v6 D G n8 hi eB lw bw k
  refine ⟨_, rfl, _, rfl, by omega, by omega, fun B2 nB2 => ?_⟩
  rw [Int.toNat_natCast]
  refine lc_range (fun j H' => Same G H' ∧ ∃ us : List Nat, H' B2 = some (.lst (cV us)) ∧ us.length = j ∧ ∀ w ∈ us, w < 2 ^ 40) ⟨Same.put nB2, [], upd_same, rfl, fun _ m => (by cases m)⟩ ?_ ?_
  · rintro j H' hj ⟨s1, us, e2, lu, bu⟩
    rw [Int.zero_add]
    have gj : ws[j]? = some ws[j] := List.getElem?_eq_getElem (by omega)
    have bj := bw ws[j] (List.mem_of_getElem? gj)
    generalize ws[j] = x at gj bj
    refine ⟨rfl, yes_of ?_⟩
    refine ⟨_, rfl, _, rfl, B, _, _, _, rfl, rfl, SqL.of (s1 _ _ eB), atI_nat (cV_at gj), ?_⟩
    refine ⟨_, rfl, _, rfl, _, _, rfl, rfl, _, rfl, _, rfl, _, _, rfl, rfl, rfl, .inr ⟨_, rfl, (x : Int), _, rfl, rfl, .inl ⟨by omega, by omega⟩, ?_⟩⟩
    have e : ∀ b : Bool, ((x : Int) * (if b = true then 1 else 0)) = (((if b = true then x else 0) : Nat) : Int) := by
      intro b
      cases b
      · rw [if_neg (by decide), if_neg (by decide), Int.mul_zero]; rfl
      · rw [if_pos rfl, if_pos rfl, Int.mul_one]
    have fin : ∀ b : Bool, ∃ acc, H' B2 = some (.lst acc) ∧ acc.length < sizeLine ∧ Same G (upd H' B2 (.lst (acc ++ [V.int ((x : Int) * (if b = true then 1 else 0))]))) ∧ ∃ us : List Nat, (upd H' B2 (.lst (acc ++ [V.int ((x : Int) * (if b = true then 1 else 0))]))) B2 = some (.lst (cV us)) ∧ us.length = j + 1 ∧ ∀ w ∈ us, w < 2 ^ 40 := by
      intro b
      refine ⟨_, e2, by rw [cV_len]; exact small_len (by omega), Same.but (fun b u e => s1 _ _ e) nB2, us ++ [if b = true then x else 0], ?_, ?_, fun w m => ?_⟩
      · rw [upd_same, e, cV_snoc]
      · rw [List.length_append, lu]; rfl
      · rcases List.mem_append.mp m with m | m
        · exact bu w m
        · rw [List.mem_singleton.mp m]
          split
          · exact bj
          · decide
    exact fin _
  · rintro H' ⟨s1, us, e2, lu, bu⟩
    exact k B2 us H' s1 nB2 e2 lu bu
theorem ok_parted {f : Addr} {fd : FuncData} (F : Fun K "_law_rows_parted" "_law_rows_parted" s_parted f fd) (T : Bm mg) (c_draw : Cal P w K mg base 1 "_law_draw" ["_law_pool_here", "_law_many"] spDraw) (c_tops : Cal P w K mg base 2 "_law_tops" ["_law_pool_here", "_law_size_here"] spTops) : FnOk P w K mg base CX0 3 f fd ["_law_pool_here", "_law_size_here"] spRowsG := by
  refine F.ok sc_parted (fun vs H Q E h => ?_) (fun cdv A outer s H vs Q E hr h => ?_)
  · obtain ⟨a, n, rfl, _⟩ := h
    rfl
  · obtain ⟨a, n, rfl, hp, n1, n8, k⟩ := h
    obtain ⟨u, hu, qu⟩ := segPa2 (P := P) (w := w) (K := K) (mg := mg) (base := base) (f := f) (cdv := cdv) (A := A) (outer := outer) (s := s) (H := H) (E := E) T
    obtain ⟨uT, huT, quT⟩ := segPaT (P := P) (w := w) (K := K) (mg := mg) (base := base) (f := f) (cdv := cdv) (A := A) (outer := outer) (s := s) (H := H) (E := E) T
    refine ⟨_, (pss_cons (ps_set (i := 2) sc_parted.nd rfl (Or.inr rfl) (pe_op op_add pe_int (pe_cal c_draw (hr.mono (by decide)) rfl (pa_cons (pv 0) (pa_cons (pe_callB (call_max2 rfl) (by rfl) T.n_max (by decide +kernel) (pa_cons pe_int (pa_cons (pe_op op_sub (pv 1) pe_int) pa_nil))) pa_nil)))))
      (pss_cons (ps_set (i := 3) sc_parted.nd rfl (Or.inl rfl) (pe_lst pa_nil))
      (pss_cons (ps_for PassesOwn.never rfl (pi_range1 (by rfl) T.n_range (pa_cons (pv 1) pa_nil)) (pg_name (i := 4) sc_parted.nd rfl (Or.inr rfl))
        (pss_cons (ps_set (i := 5) sc_parted.nd rfl (Or.inr rfl) (pe_callTy call_list_of (by rfl) T.n_list (by decide +kernel) (pa_cons (pe_cal c_tops (hr.mono (by decide)) rfl (pa_cons (pv 0) (pa_cons (pv 1) pa_nil))) pa_nil)))
          (pss_cons (ps_if (PW.pt (pw_or (pt_cmpR op_gt (pe_cal c_draw (hr.mono (by decide)) rfl (pa_cons (pv 0) (pa_cons pe_int pa_nil))) pe_int (nomark _)) (pw_or1 (pt_cmpR op_in_seq (pv 4) (pe_tup (pa_cons pe_int (pa_cons (pe_op op_sub (pv 1) pe_int) pa_nil))) (by rfl)))))
            huT
            pss_nil) hu)))
      (pss_one (ps_ret (pv 3)))))), ?_⟩
    refine ⟨_, rfl, _, rfl, _, _, rfl, rfl, 1, (n : Int) - 1, rfl, a, _, rfl, hp, by split <;> omega, by split <;> exact log_small (b := 10) (by omega) (by decide) (by decide), fun c o c0 c1 ho => ?_⟩
    have p1 : PoolAt (upd H a o) a := .put ho
    have k1 := Keep.put (a := a) (H := H) o
    generalize (upd H a o) = H1 at p1 k1 ⊢
    refine ⟨_, _, rfl, rfl, by show 0 ≤ sizeLine; decide, fun l nl => ?_⟩
    have st0 := RowsSt.new (n := n) p1 nl
    refine ⟨_, rfl, _, rfl, by omega, by omega, ?_⟩
    rw [Int.toNat_natCast]
    refine for_range (fun i σ H' => ∃ v4 v5 v6 rs, σ = [some (.ref a), some (.int (n : Int)), some (.int (1 + c)), some (.ref l), v4, v5, v6] ∧ RowsSt n a H1 l H' rs ∧ rs.length = i) ⟨none, none, none, [], rfl, st0, rfl⟩ ?_ ?_
    · rintro i σ H2 hi ⟨v4, v5, v6, rs, rfl, st, lr⟩
      rw [Int.zero_add]
      refine ⟨_, rfl, _, rfl, a, n, rfl, st.pl, n1, n8, fun t ws H3 k3 p3 et tp => ?_⟩
      have st3 := st.step k3 p3
      refine ⟨t, _, rfl, .inr (SqT.of et), fun B nB => ?_⟩
      have sB := Same.put (o := .lst (cV ws)) nB
      have eB : (upd H3 B (.lst (cV ws))) B = some (.lst (cV ws)) := upd_same
      have Ba := new_ne p3 nB
      have Bl : B ≠ l := fun z => by rw [z, st3.el] at nB; cases nB
      have nB1 : H1 B = none := by
        cases e : H1 B with
        | none => rfl
        | some o => rw [st3.kp B o e Ba] at nB; cases nB
      have st4 := st3.same sB
      generalize (upd H3 B (.lst (cV ws))) = H4 at eB st4 ⊢
      clear sB nB st3 et k3 p3 st
      refine ⟨_, rfl, a, 3, rfl, st4.pl, by decide, by decide, fun y o2 y0 y1 ho2 => ?_⟩
      have st5 := st4.draw ho2
      have eB5 : (upd H4 a o2) B = some (.lst (cV ws)) := by rw [upd_ne Ba]; exact eB
      generalize (upd H4 a o2) = H5 at st5 eB5 ⊢
      have nb : ∀ (H6 : Hp) (B2 : Addr), Same H5 H6 → H6 B2 = none → H1 B2 = none ∧ B2 ≠ a ∧ B2 ≠ l := by
        intro H6 B2 s6 nB2
        have st6 := st5.same s6
        have B2a := new_ne st6.pl nB2
        refine ⟨?_, B2a, fun z => by rw [z, st6.el] at nB2; cases nB2⟩
        cases e : H1 B2 with
        | none => rfl
        | some o => rw [st6.kp B2 o e B2a] at nB2; cases nB2
      refine ⟨_, _, rfl, rfl, _, rfl, iteB (fun _ => ?_) (fun _ => ?_)⟩
      · refine quT a l B n i ws _ v6 _ H5 n8 hi eB5 tp.1 tp.2.2 fun B2 us H7 s7 nB2 e7 lu bu => ?_
        obtain ⟨q1, q2, q3⟩ := nb H5 B2 (Same.refl H5) nB2
        exact qu a l B2 n i rs us _ v6 _ H1 H7 n8 hi (st5.same s7) (by omega) e7 q1 q2 q3 lu bu fun r H' st' => ⟨_, _, v6, _, rfl, st', by rw [List.length_append, lr]; rfl⟩
      · refine ⟨_, rfl, _, rfl, _, _, rfl, rfl, by show 2 ≤ sizeLine; decide, fun c2 nc2 => ?_⟩
        have s6 := Same.put (o := .tup [.int 0, .int ((n : Int) - 1)]) nc2
        refine ⟨c2, _, rfl, .inr (SqT.of upd_same), rfl, rfl, _, rfl, iteB (fun _ => ?_) (fun _ => ?_)⟩
        · refine quT a l B n i ws _ v6 _ _ n8 hi (s6 _ _ eB5) tp.1 tp.2.2 fun B2 us H7 s7 nB2 e7 lu bu => ?_
          obtain ⟨q1, q2, q3⟩ := nb _ B2 s6 nB2
          exact qu a l B2 n i rs us _ v6 _ H1 H7 n8 hi ((st5.same s6).same s7) (by omega) e7 q1 q2 q3 lu bu fun r H' st' => ⟨_, _, v6, _, rfl, st', by rw [List.length_append, lr]; rfl⟩
        · exact qu a l B n i rs ws _ v6 _ H1 _ n8 hi (st5.same s6) (by omega) (s6 _ _ eB5) nB1 Ba Bl tp.1 tp.2.2 fun r H' st' => ⟨_, _, v6, _, rfl, st', by rw [List.length_append, lr]; rfl⟩
    · rintro σ H2 ⟨v4, v5, v6, rs, rfl, st, lr⟩
      exact ⟨_, rfl, k l rs H2 (k1.trans st.kp) st.pl st.el st.rw_ lr⟩
end
end K8

set_option Elab.async false
set_option linter.all false
set_option maxRecDepth 100000
set_option maxHeartbeats 4000000
namespace K8
open PySem L2
def PosW (ws : List Nat) : Prop := ∃ (j y : Nat), ws[j]? = some y ∧ 0 < y
theorem pos_grow {ws : List Nat} {q x z : Nat} (h : ws[q]? = some x) (p : PosW ws) : PosW (ws.set q (x + z)) := by
  obtain ⟨j, y, hy, py⟩ := p
  have hq := (List.getElem?_eq_some_iff.mp h).1
  by_cases e : q = j
  · subst e
    rw [h] at hy
    cases hy
    exact ⟨q, x + z, by rw [List.getElem?_set_self hq], by omega⟩
  · exact ⟨j, y, by rw [List.getElem?_set_ne e]; exact hy, py⟩
theorem pos_put {ws : List Nat} {q x : Nat} (h : q < ws.length) (p : 0 < x) : PosW (ws.set q x) := ⟨q, x, by rw [List.getElem?_set_self h], p⟩
theorem PosW.sum {ws : List Nat} (h : PosW ws) : 0 < ws.sum := by
  obtain ⟨j, y, hy, py⟩ := h
  exact sum_pos_of hy py
theorem set_le {ws : List Nat} {q x b c : Nat} (h : ∀ w ∈ ws, w ≤ b) (hx : x ≤ c) (hb : b ≤ c) : ∀ w ∈ ws.set q x, w ≤ c := fun w m => by
  rcases List.mem_or_eq_of_mem_set m with m | rfl
  · exact Nat.le_trans (h w m) hb
  · exact hx
section
variable {P : Program} {w : World} {K : PySem.W.Frag} {mg : Str → Option Value} {base : Heap} {C : Addr}
abbrev s_stairs : Stmt := top 58
abbrev nSt : List Str := ["_law_pool_here", "_law_size_here", "_law_rows_here", "_law_up", "_law_k", "_law_tops_here"]
theorem sc_stairs : FnScope nSt ["_law_pool_here", "_law_size_here"] (defScope s_stairs) := ⟨rfl, rfl, rfl, by decide +kernel, rfl, by decide +kernel, by decide +kernel⟩
theorem ok_stairs {f : Addr} {fd : FuncData} (F : Fun K "_law_rows_stairs" "_law_rows_stairs" s_stairs f fd) (T : Bm mg) (c_draw : Cal P w K mg base 1 "_law_draw" ["_law_pool_here", "_law_many"] spDraw) : FnOk P w K mg base CX0 3 f fd ["_law_pool_here", "_law_size_here"] spRowsG := by
  refine F.ok sc_stairs (fun vs H Q E h => ?_) (fun cdv A outer s H vs Q E hr h => ?_)
  · obtain ⟨a, n, rfl, _⟩ := h
    rfl
  · obtain ⟨a, n, rfl, hp, n1, n8, k⟩ := h
    refine ⟨_, (pss_cons (ps_par (i := 2) (j := 3) (by rfl) sc_stairs.nd rfl rfl (by decide) rfl rfl (pa_cons (pe_lst pa_nil) (pa_cons (pe_cal c_draw (hr.mono (by decide)) rfl (pa_cons (pv 0) (pa_cons pe_int pa_nil))) pa_nil)) (by rfl))
      (pss_cons (ps_for PassesOwn.never rfl (pi_range1 (by rfl) T.n_range (pa_cons (pv 1) pa_nil)) (pg_name (i := 4) sc_stairs.nd rfl (Or.inl rfl))
        (pss_cons (ps_set (i := 5) sc_stairs.nd rfl (Or.inl rfl) (pe_op op_rep (pe_lst (pa_cons pe_int pa_nil)) (pv 1)))
          (pss_cons (ps_asg (pe_op op_add (pe_ix ix_list (pv 5) (pe_callB (call_max2 rfl) (by rfl) T.n_max (by decide +kernel) (pa_cons pe_int (pa_cons (pe_op op_sub (pv 4) pe_int) pa_nil))) (fun _ _ => rfl)) pe_int) (pg_sub (pv 5) (pe_callB (call_max2 rfl) (by rfl) T.n_max (by decide +kernel) (pa_cons pe_int (pa_cons (pe_op op_sub (pv 4) pe_int) pa_nil))) set_list))
          (pss_cons (ps_asg (pe_op op_add (pe_ix ix_list (pv 5) (pv 4) (fun _ _ => rfl)) (pe_cal c_draw (hr.mono (by decide)) rfl (pa_cons (pv 0) (pa_cons pe_int pa_nil)))) (pg_sub (pv 5) (pv 4) set_list))
          (pss_cons (ps_asg (pe_op op_add (pe_ix ix_list (pv 5) (pe_callB (call_min2 rfl) (by rfl) T.n_min (by decide +kernel) (pa_cons (pe_op op_sub (pv 1) pe_int) (pa_cons (pe_op op_add (pv 4) pe_int) pa_nil))) (fun _ _ => rfl)) (pv 3)) (pg_sub (pv 5) (pe_callB (call_min2 rfl) (by rfl) T.n_min (by decide +kernel) (pa_cons (pe_op op_sub (pv 1) pe_int) (pa_cons (pe_op op_add (pv 4) pe_int) pa_nil))) set_list))
          (pss_cons (ps_set (i := 3) sc_stairs.nd rfl (Or.inl rfl) (pe_op op_add (pv 3) (pe_cal c_draw (hr.mono (by decide)) rfl (pa_cons (pv 0) (pa_cons pe_int pa_nil)))))
          (pss_one (ps_expr (pe_bm PySem.F.plainAttrs_list PySem.F.slot_list_append PySem.F.type_list_append mt_append (pv 2) (pa_cons (pe_callTy call_tuple_of (by rfl) T.n_tuple (by decide +kernel) (pa_cons (pv 5) pa_nil)) pa_nil))))))))))
      (pss_one (ps_ret (pv 2))))), ?_⟩
    refine ⟨by show 0 ≤ sizeLine; decide, fun l nl => ?_⟩
    have st0 := RowsSt.new (n := n) hp nl
    refine ⟨_, rfl, a, 3, rfl, st0.pl, by decide, by decide, fun up o u0 u1 ho => ?_⟩
    have st0 := st0.draw ho
    generalize (upd (upd H l (.lst [])) a o) = H0 at st0 ⊢
    obtain ⟨up, rfl⟩ := nat_of u0
    refine ⟨_, _, rfl, ?_⟩
    refine ⟨_, rfl, _, rfl, by omega, by omega, ?_⟩
    rw [Int.toNat_natCast]
    refine for_range (fun i σ H' => ∃ (v : Nat) (v4 v5 : Option V) (rs : List (Addr × List Nat)), σ = [some (.ref a), some (.int (n : Int)), some (.ref l), some (.int (v : Int)), v4, v5] ∧ RowsSt n a H l H' rs ∧ rs.length = i ∧ v ≤ 2 + 2 * i) ⟨up, none, none, [], rfl, st0, rfl, by omega⟩ ?_ ?_
    · rintro i σ H2 hi ⟨v, v4, v5, rs, rfl, st, lr, bv⟩
      rw [Int.zero_add]
      refine ⟨by show 1 ≤ sizeLine; decide, fun z nz => ⟨_, rfl, ?_⟩⟩
      have stz := st.same (Same.put (o := .lst [.int 0]) nz)
      refine ⟨z, (n : Int), _, rfl, rfl, upd_same, by omega, by omega, by rw [Int.toNat_natCast]; exact Nat.le_of_lt (small_len (by show 1 * n ≤ 1000; omega)), fun B nB => ?_⟩
      rw [Int.toNat_natCast]
      generalize (upd H2 z (.lst [.int 0])) = H3 at stz nB ⊢
      have e0 : (List.replicate n [V.int 0]).flatten = cV (List.replicate n 0) := by
        rw [cV, List.map_replicate]
        exact List.flatten_replicate_singleton
      rw [e0]
      have Ba := new_ne stz.pl nB
      have Bl : B ≠ l := fun q => by rw [q, stz.el] at nB; cases nB
      have nBH : H B = none := by
        cases e : H B with
        | none => rfl
        | some o => rw [stz.kp B o e Ba] at nB; cases nB
      -- the list of tops under way
      have put : ∀ (G : Hp) (us : List Nat) (ys : List V), RowsSt n a H l G rs → G B = some (.lst ys) → RowsSt n a H l (upd G B (.lst (cV us))) rs := fun G us ys s4 e4 =>
        ⟨s4.kp.but nBH, s4.pl.other (Ne.symm Ba), by rw [upd_ne (Ne.symm Bl)]; exact s4.el, s4.rw_.lstU e4, s4.n0⟩
      have st4 := stz.same (Same.put (o := .lst (cV (List.replicate n 0))) nB)
      have eB : (upd H3 B (.lst (cV (List.replicate n 0)))) B = some (.lst (cV (List.replicate n 0))) := upd_same
      have lw : (List.replicate n 0).length = n := List.length_replicate
      have bw : ∀ x ∈ List.replicate n 0, x ≤ 0 := fun x m => by rw [List.eq_of_mem_replicate m]; exact Nat.le_refl _
      generalize (upd H3 B (.lst (cV (List.replicate n 0)))) = H4 at st4 eB ⊢
      generalize List.replicate n 0 = ws at eB lw bw
      clear stz nz nB e0 st
      -- one below
      obtain ⟨j, ej, hj⟩ : ∃ j : Nat, (if (i : Int) - 1 > 0 then (i : Int) - 1 else 0) = (j : Int) ∧ j < n := ⟨i - 1, by split <;> omega, by omega⟩
      have gj : ws[j]? = some ws[j] := List.getElem?_eq_getElem (by omega)
      have bj := bw ws[j] (List.mem_of_getElem? gj)
      refine ⟨_, rfl, _, rfl, _, _, rfl, rfl, 0, (i : Int) - 1, rfl, B, _, (j : Int), _, rfl, congrArg V.int ej, SqL.of eB, atI_nat (cV_at gj), _, _, rfl, rfl, ?_⟩
      refine ⟨_, rfl, _, rfl, _, _, rfl, rfl, 0, (i : Int) - 1, rfl, B, _, (j : Int), j, rfl, congrArg V.int ej, eB, ixN_ok (by rw [cV_len]; omega), ?_⟩
      have e1 : (cV ws).set j (V.int ((ws[j] : Int) + 4)) = cV (ws.set j (ws[j] + 4)) := cV_set ws j (ws[j] + 4)
      have st5 := put H4 (ws.set j (ws[j] + 4)) _ st4 eB
      have eB5 : (upd H4 B (.lst (cV (ws.set j (ws[j] + 4))))) B = some (.lst (cV (ws.set j (ws[j] + 4)))) := upd_same
      rw [← e1] at st5 eB5
      generalize (upd H4 B (.lst ((cV ws).set j (V.int ((ws[j] : Int) + 4))))) = H5 at st5 eB5 ⊢
      rw [e1] at eB5
      obtain ⟨w5, eB5, l5, b5, p5⟩ : ∃ w5 : List Nat, H5 B = some (.lst (cV w5)) ∧ w5.length = n ∧ (∀ x ∈ w5, x ≤ 4) ∧ PosW w5 := ⟨_, eB5, by rw [List.length_set, lw], set_le bw (by omega) (by omega), pos_put (by omega) (by omega)⟩
      -- its own
      have gi : w5[i]? = some w5[i] := List.getElem?_eq_getElem (by omega)
      have bi := b5 w5[i] (List.mem_of_getElem? gi)
      refine ⟨_, rfl, _, rfl, B, _, (i : Int), _, rfl, rfl, SqL.of eB5, atI_nat (cV_at gi), _, rfl, a, 3, rfl, st5.pl, by decide, by decide, fun d o2 d0 d1 ho2 => ?_⟩
      have st6 := st5.draw ho2
      have eB6 : (upd H5 a o2) B = some (.lst (cV w5)) := by rw [upd_ne Ba]; exact eB5
      generalize (upd H5 a o2) = H6 at st6 eB6 ⊢
      obtain ⟨d, rfl⟩ := nat_of d0
      refine ⟨_, _, rfl, rfl, _, rfl, _, rfl, B, _, (i : Int), i, rfl, rfl, eB6, ixN_ok (by rw [cV_len]; omega), ?_⟩
      have e2 : (cV w5).set i (V.int ((w5[i] : Int) + (d : Int))) = cV (w5.set i (w5[i] + d)) := cV_set w5 i (w5[i] + d)
      have st7 := put H6 (w5.set i (w5[i] + d)) _ st6 eB6
      have eB7 : (upd H6 B (.lst (cV (w5.set i (w5[i] + d))))) B = some (.lst (cV (w5.set i (w5[i] + d)))) := upd_same
      rw [← e2] at st7 eB7
      generalize (upd H6 B (.lst ((cV w5).set i (V.int ((w5[i] : Int) + (d : Int)))))) = H7 at st7 eB7 ⊢
      rw [e2] at eB7
      obtain ⟨w7, eB7, l7, b7, p7⟩ : ∃ w7 : List Nat, H7 B = some (.lst (cV w7)) ∧ w7.length = n ∧ (∀ x ∈ w7, x ≤ 6) ∧ PosW w7 := ⟨_, eB7, by rw [List.length_set, l5], set_le b5 (by omega) (by omega), pos_grow gi p5⟩
      -- one above
      obtain ⟨q, eq, hq⟩ : ∃ q : Nat, (if (i : Int) + 1 < (n : Int) - 1 then (i : Int) + 1 else (n : Int) - 1) = (q : Int) ∧ q < n := ⟨if i + 1 < n - 1 then i + 1 else n - 1, by split <;> split <;> omega, by split <;> omega⟩
      have gq : w7[q]? = some w7[q] := List.getElem?_eq_getElem (by omega)
      have bq := b7 w7[q] (List.mem_of_getElem? gq)
      refine ⟨_, rfl, _, rfl, _, _, rfl, rfl, _, rfl, _, _, rfl, rfl, (n : Int) - 1, (i : Int) + 1, rfl, B, _, (q : Int), _, rfl, congrArg V.int eq, SqL.of eB7, atI_nat (cV_at gq), _, rfl, _, _, rfl, rfl, ?_⟩
      refine ⟨_, rfl, _, rfl, _, _, rfl, rfl, _, rfl, _, _, rfl, rfl, (n : Int) - 1, (i : Int) + 1, rfl, B, _, (q : Int), q, rfl, congrArg V.int eq, eB7, ixN_ok (by rw [cV_len]; omega), ?_⟩
      have e3 : (cV w7).set q (V.int ((w7[q] : Int) + (v : Int))) = cV (w7.set q (w7[q] + v)) := cV_set w7 q (w7[q] + v)
      have st8 := put H7 (w7.set q (w7[q] + v)) _ st7 eB7
      have eB8 : (upd H7 B (.lst (cV (w7.set q (w7[q] + v))))) B = some (.lst (cV (w7.set q (w7[q] + v)))) := upd_same
      rw [← e3] at st8 eB8
      generalize (upd H7 B (.lst ((cV w7).set q (V.int ((w7[q] : Int) + (v : Int)))))) = H8 at st8 eB8 ⊢
      rw [e3] at eB8
      obtain ⟨w8, eB8, l8, b8, p8⟩ : ∃ w8 : List Nat, H8 B = some (.lst (cV w8)) ∧ w8.length = n ∧ (∀ x ∈ w8, x ≤ 100) ∧ PosW w8 := ⟨_, eB8, by rw [List.length_set, l7], set_le b7 (by omega) (by omega), pos_grow gq p7⟩
      refine ⟨_, rfl, _, rfl, a, 3, rfl, st8.pl, by decide, by decide, fun d2 o3 d0' d1' ho3 => ?_⟩
      have st9 := st8.draw ho3
      have eB9 : (upd H8 a o3) B = some (.lst (cV w8)) := by rw [upd_ne Ba]; exact eB8
      generalize (upd H8 a o3) = H9 at st9 eB9 ⊢
      obtain ⟨d2, rfl⟩ := nat_of d0'
      refine ⟨_, _, rfl, rfl, ?_⟩
      refine ⟨_, rfl, .inl ⟨rfl, _, SqL.of st9.el⟩, _, rfl, B, _, rfl, .inl ⟨SqL.of eB9, fun t nt => ?_⟩⟩
      have st10 := st9.same (Same.put (o := .tup (cV w8)) nt)
      refine ⟨l, _, _, rfl, rfl, st10.el, by rw [rfs_len]; exact small_len (by omega), v + d2, _, _, _, rfl, st10.push (r := (t, w8)) ⟨upd_same, l8, p8.sum, fun x m => Nat.lt_of_le_of_lt (b8 x m) (by decide)⟩, by rw [List.length_append, lr]; rfl, by omega⟩
    · rintro σ H2 ⟨v, v4, v5, rs, rfl, st, lr, bv⟩
      exact ⟨_, rfl, k l rs H2 st.kp st.pl st.el st.rw_ lr⟩
end
end K8

set_option Elab.async false
set_option linter.all false
set_option maxRecDepth 100000
set_option maxHeartbeats 4000000
namespace K8
open PySem L2
/-- _law_size(pool, 5) -/
def spSize : Sp := fun vs H Q _ => ∃ (a : Addr), vs = [.ref a, .int 5] ∧ PoolAt H a ∧ ∀ (n : Nat) (H' : Hp), 1 ≤ n → n ≤ 8 → Keep a H H' → PoolAt H' a → Q (.int (n : Int)) H'
section
variable {P : Program} {w : World} {K : PySem.W.Frag} {mg : Str → Option Value} {base : Heap} {C : Addr}
abbrev s_size : Stmt := top 50
theorem sc_size : FnScope ["_law_pool_here", "_law_most"] ["_law_pool_here", "_law_most"] (defScope s_size) := ⟨rfl, rfl, rfl, by decide +kernel, rfl, by decide +kernel, by decide +kernel⟩
theorem ok_size {f : Addr} {fd : FuncData} (F : Fun K "_law_size" "_law_size" s_size f fd) (T : Bm mg) (c_draw : Cal P w K mg base 1 "_law_draw" ["_law_pool_here", "_law_many"] spDraw) : FnOk P w K mg base CX0 2 f fd ["_law_pool_here", "_law_most"] spSize := by
  refine F.ok sc_size (fun vs H Q E h => ?_) (fun cdv A outer s H vs Q E hr h => ?_)
  · obtain ⟨a, rfl, _⟩ := h
    rfl
  · obtain ⟨a, rfl, hp, k⟩ := h
    refine ⟨_, (pss_cons (ps_if (pt_cmpR op_eq (pe_cal c_draw (hr.mono (by decide)) rfl (pa_cons (pv 0) (pa_cons pe_int pa_nil))) pe_int (nomark _))
        (pss_one (ps_ret pe_int))
        pss_nil)
      (pss_one (ps_ret (pe_callB (call_min2 rfl) (by rfl) T.n_min (by decide +kernel) (pa_cons (pv 1) (pa_cons (pe_ix ix_tup (pe_tup (pa_cons pe_int (pa_cons pe_int (pa_cons pe_int (pa_cons pe_int (pa_cons pe_int (pa_cons pe_int (pa_cons pe_int (pa_cons pe_int (pa_cons pe_int (pa_cons pe_int pa_nil))))))))))) (pe_cal c_draw (hr.mono (by decide)) rfl (pa_cons (pv 0) (pa_cons pe_int pa_nil))) (fun _ _ => rfl)) pa_nil)))))), ?_⟩
    refine ⟨_, rfl, a, 30, rfl, hp, by decide, by decide, fun y o y0 y1 ho => ?_⟩
    obtain ⟨p1, k1⟩ := drawn hp (Keep.refl a H) ho
    generalize (upd H a o) = H1 at p1 k1 ⊢
    refine ⟨rfl, _, rfl, iteA (k 1 H1 (by decide) (by decide) k1 p1) ?_⟩
    refine ⟨_, rfl, by show 10 ≤ sizeLine; decide, fun t nt => ?_⟩
    have s2 := Same.put (o := .tup (cV [2, 2, 3, 3, 3, 3, 4, 4, 4, 5])) nt
    have e2 : (upd H1 t (.tup (cV [2, 2, 3, 3, 3, 3, 4, 4, 4, 5]))) t = some (.tup (cV [2, 2, 3, 3, 3, 3, 4, 4, 4, 5])) := upd_same
    have p2 := p1.same s2
    have k2 := k1.trans (Keep.of s2)
    show tCall spDraw [] E0 _ _ (upd H1 t (.tup (cV [2, 2, 3, 3, 3, 3, 4, 4, 4, 5]))) _
    generalize (upd H1 t (.tup (cV [2, 2, 3, 3, 3, 3, 4, 4, 4, 5]))) = H2 at e2 p2 k2 ⊢
    refine ⟨_, rfl, a, 10, rfl, p2, by decide, by decide, fun r o r0 r1 ho => ?_⟩
    obtain ⟨p3, k3⟩ := drawn p2 k2 ho
    have e3 : (upd H2 a o) t = some (.tup (cV [2, 2, 3, 3, 3, 3, 4, 4, 4, 5])) := by rw [upd_ne (p2.ne e2)]; exact e2
    generalize (upd H2 a o) = H3 at p3 k3 e3 ⊢
    obtain ⟨j, rfl⟩ := nat_of r0
    have hj : j < [2, 2, 3, 3, 3, 3, 4, 4, 4, 5].length := by show j < 10; omega
    have gj : ([2, 2, 3, 3, 3, 3, 4, 4, 4, 5] : List Nat)[j]? = some [2, 2, 3, 3, 3, 3, 4, 4, 4, 5][j] := List.getElem?_eq_getElem hj
    have gx : 1 ≤ [2, 2, 3, 3, 3, 3, 4, 4, 4, 5][j] ∧ [2, 2, 3, 3, 3, 3, 4, 4, 4, 5][j] ≤ 5 := (by decide : ∀ x ∈ ([2, 2, 3, 3, 3, 3, 4, 4, 4, 5] : List Nat), 1 ≤ x ∧ x ≤ 5) _ (List.mem_of_getElem? gj)
    generalize [2, 2, 3, 3, 3, 3, 4, 4, 4, 5][j] = x at gj gx
    refine ⟨t, _, _, _, rfl, rfl, SqT.of e3, atI_nat (cV_at gj), 5, (x : Int), rfl, ?_⟩
    have e : (if (x : Int) < 5 then (x : Int) else 5) = (x : Int) := by split <;> omega
    have := k x H3 gx.1 (by omega) k3 p3
    rw [← e] at this
    exact this
abbrev s_rows : Stmt := top 59
abbrev nRo : List Str := ["_law_pool_here", "_law_size_here", "_law_way", "_law_k"]
theorem sc_rows : FnScope nRo ["_law_pool_here", "_law_size_here"] (defScope s_rows) := ⟨rfl, rfl, rfl, by decide +kernel, rfl, by decide +kernel, by decide +kernel⟩
theorem ok_rows {f : Addr} {fd : FuncData} (F : Fun K "_law_rows" "_law_rows" s_rows f fd) (T : Bm mg) (c_draw : Cal P w K mg base 1 "_law_draw" ["_law_pool_here", "_law_many"] spDraw) (c_tops : Cal P w K mg base 2 "_law_tops" ["_law_pool_here", "_law_size_here"] spTops)
    (c_alike : Cal P w K mg base 3 "_law_rows_alike" ["_law_pool_here", "_law_size_here"] spRowsG) (c_turning : Cal P w K mg base 3 "_law_rows_turning" ["_law_pool_here", "_law_size_here"] spRowsG) (c_parted : Cal P w K mg base 3 "_law_rows_parted" ["_law_pool_here", "_law_size_here"] spRowsG)
    (c_stairs : Cal P w K mg base 3 "_law_rows_stairs" ["_law_pool_here", "_law_size_here"] spRowsG) : FnOk P w K mg base CX0 4 f fd ["_law_pool_here", "_law_size_here"] spRowsG := by
  refine F.ok sc_rows (fun vs H Q E h => ?_) (fun cdv A outer s H vs Q E hr h => ?_)
  · obtain ⟨a, n, rfl, _⟩ := h
    rfl
  · obtain ⟨a, n, rfl, hp, n1, n8, k⟩ := h
    refine ⟨_, (pss_cons (ps_set (i := 2) sc_rows.nd rfl (Or.inl rfl) (pe_cal c_draw (hr.mono (by decide)) rfl (pa_cons (pv 0) (pa_cons pe_int pa_nil))))
      (pss_cons (ps_if (pt_cmpR op_lt (pv 2) pe_int (nomark _))
        (pss_one (ps_ret (pe_cal c_alike (hr.mono (by decide)) rfl (pa_cons (pv 0) (pa_cons (pv 1) pa_nil)))))
        pss_nil)
      (pss_cons (ps_if (PW.pt (pw_or (pt_cmpR op_eq (pv 2) pe_int (nomark _)) (pw_or1 (pt_cmpR op_eq (pv 2) pe_int (nomark _)))))
        (pss_one (ps_ret (pe_cal c_turning (hr.mono (by decide)) rfl (pa_cons (pv 0) (pa_cons (pv 1) pa_nil)))))
        pss_nil)
      (pss_cons (ps_if (pt_cmpR op_lt (pv 2) pe_int (nomark _))
        (pss_one (ps_ret (pe_cal c_parted (hr.mono (by decide)) rfl (pa_cons (pv 0) (pa_cons (pv 1) pa_nil)))))
        pss_nil)
      (pss_cons (ps_if (pt_cmpR op_eq (pv 2) pe_int (nomark _))
        (pss_one (ps_ret (pe_cal c_stairs (hr.mono (by decide)) rfl (pa_cons (pv 0) (pa_cons (pv 1) pa_nil)))))
        pss_nil)
      (pss_one (ps_ret (pe_lc (own := [("_law_k", 3)]) rfl sc_rows.nd (pi_range1 (by rfl) T.n_range (pa_cons (pv 1) pa_nil)) (blkOk_by (N := nRo) (sc := defScope s_rows) (by decide +kernel)) (fun _ _ _ _ _ => (pg_name (i := 3) sc_rows.nd rfl (Or.inl rfl))) (fun _ _ _ _ _ => pts_nil) (fun _ _ _ _ _ => (pe_cal c_tops (hr.mono (by decide)) rfl (pa_cons (pv 0) (pa_cons (pv 1) pa_nil)))))))))))), ?_⟩
    refine ⟨_, rfl, a, 9, rfl, hp, by decide, by decide, fun y o y0 y1 ho => ?_⟩
    obtain ⟨p1, k1⟩ := drawn hp (Keep.refl a H) ho
    generalize (upd H a o) = H1 at p1 k1 ⊢
    have sub : spRowsG [.ref a, .int (n : Int)] H1 Q E0 := ⟨a, n, rfl, p1, n1, n8, fun l rs H' k2 p2 el rw_ len => k l rs H' (k1.trans k2) p2 el rw_ len⟩
    refine ⟨_, rfl, _, _, rfl, rfl, _, rfl, iteA ⟨_, rfl, _, rfl, sub⟩ ?_⟩
    refine ⟨_, rfl, rfl, _, rfl, iteA ⟨_, rfl, _, rfl, sub⟩ ?_⟩
    refine ⟨_, rfl, rfl, _, rfl, iteA ⟨_, rfl, _, rfl, sub⟩ ?_⟩
    refine ⟨_, rfl, _, _, rfl, rfl, _, rfl, iteA ⟨_, rfl, _, rfl, sub⟩ ?_⟩
    refine ⟨_, rfl, rfl, _, rfl, iteA ⟨_, rfl, _, rfl, sub⟩ ?_⟩
    refine ⟨_, rfl, _, rfl, by omega, by omega, fun l nl => ?_⟩
    rw [Int.toNat_natCast]
    refine lc_range (fun i H' => ∃ rs, RowsSt n a H1 l H' rs ∧ rs.length = i) ⟨[], RowsSt.new p1 nl, rfl⟩ ?_ ?_
    · rintro i H' hi ⟨rs, st, lr⟩
      refine ⟨rfl, yes_of ?_⟩
      refine ⟨_, rfl, _, rfl, a, n, rfl, st.pl, n1, n8, fun t ws H2 k2 p2 et tp => ?_⟩
      have st2 := st.step k2 p2
      exact ⟨_, st2.el, by rw [rfs_len]; exact small_len (by omega), rs ++ [(t, ws)], st2.push (r := (t, ws)) ⟨et, tp⟩, by rw [List.length_append, lr]; rfl⟩
    · rintro H' ⟨rs, st, lr⟩
      exact k l rs H' (k1.trans st.kp) st.pl st.el st.rw_ lr
end
end K8

set_option Elab.async false
set_option linter.all false
set_option maxRecDepth 100000
set_option maxHeartbeats 4000000
namespace K8
open PySem L2 TL
/-! ### names -/
def Nam (x : Str) : Prop := 1 ≤ x.cps.toList.length ∧ x.cps.toList.length ≤ 8 ∧ ∀ c ∈ x.cps.toList, 97 ≤ c ∧ c ≤ 122
def abc : Str := "abcdefghijklmnopqrstuvwxyz"
theorem abc_tl : abc.cps.toList = (List.range 26).map (97 + ·) := by decide +kernel
theorem abc_at {k : Nat} (h : k < 26) : abc.cps.toList[k]? = some (97 + k) := by
  rw [abc_tl, List.getElem?_map, List.getElem?_range h]
  rfl
theorem abc_mem {c : Nat} (h : 97 ≤ c ∧ c ≤ 122) : c ∈ abc.cps.toList := by
  rw [abc_tl]
  exact List.mem_map.mpr ⟨c - 97, List.mem_range.mpr (by omega), by omega⟩
abbrev one (c : Nat) : Str := ⟨#[c]⟩
theorem join_one : ∀ cs : List Nat, joinL [] (cs.map fun c => [c]) = cs
  | [] => rfl
  | [_] => rfl
  | a :: b :: r => by
    show [a] ++ ([] ++ joinL [] ((b :: r).map fun c => [c])) = a :: b :: r
    rw [join_one (b :: r)]
    rfl
theorem join_tl (cs : List Nat) : (Txt.join "" (cs.map one)).cps.toList = cs := by
  have h := tl_join "" (cs.map one)
  rw [← join_eq] at h
  have e : (cs.map one).map tl = cs.map fun c => [c] := by rw [List.map_map]; rfl
  have e0 : tl ("" : Str) = [] := by decide +kernel
  rw [e, e0, join_one] at h
  exact h
/-- one of many unlike ones is not in a short list -/
theorem pigeon {α : Type} {f : Nat → α} (inj : ∀ i j, f i = f j → i = j) : ∀ (l : List α) (S : List Nat), S.Nodup → l.length < S.length → ∃ k ∈ S, f k ∉ l
  | [], S, _, h => by
    cases S with
    | nil => cases h
    | cons k r => exact ⟨k, List.mem_cons_self, by intro m; cases m⟩
  | a :: r, S, nd, h => by
    by_cases e : ∃ k ∈ S, f k = a
    · obtain ⟨k0, m0, e0⟩ := e
      have len : r.length < (S.erase k0).length := by
        rw [List.length_erase_of_mem m0]
        have : (a :: r).length = r.length + 1 := rfl
        omega
      obtain ⟨k, m, nk⟩ := pigeon inj r (S.erase k0) (nd.erase k0) len
      have mk := (List.Nodup.mem_erase_iff nd).mp m
      refine ⟨k, mk.2, fun q => ?_⟩
      rcases List.mem_cons.mp q with q | q
      · exact mk.1 (inj k k0 (by rw [q, e0]))
      · exact nk q
    · obtain ⟨k, m, nk⟩ := pigeon inj r S nd (by have : (a :: r).length = r.length + 1 := rfl; omega)
      refine ⟨k, m, fun q => ?_⟩
      rcases List.mem_cons.mp q with q | q
      · exact e ⟨k, m, q⟩
      · exact nk q
/-- a spare name -/
def spare (k : Nat) : Str := ("zzzzz" : Str) ++ one (97 + k / 26) ++ one (97 + k % 26)
theorem spare_tl (k : Nat) : (spare k).cps.toList = [122, 122, 122, 122, 122, 97 + k / 26, 97 + k % 26] := by
  show tl (("zzzzz" : Str) ++ one (97 + k / 26) ++ one (97 + k % 26)) = _
  rw [tl_append, tl_append]
  have e : tl ("zzzzz" : Str) = [122, 122, 122, 122, 122] := by decide +kernel
  rw [e]
  rfl
theorem spare_inj (i j : Nat) (h : spare i = spare j) : i = j := by
  have e := congrArg (fun x : Str => x.cps.toList) h
  simp only [spare_tl, List.cons.injEq, and_true, true_and] at e
  omega
theorem spare_nam {k : Nat} (h : k < 676) : Nam (spare k) := by
  unfold Nam
  rw [spare_tl]
  refine ⟨by show 1 ≤ 7; decide, by show 7 ≤ 8; decide, fun c m => ?_⟩
  simp only [List.mem_cons, List.not_mem_nil, or_false] at m
  omega
/-- all but the pool and the list of names so far -/
def Keep2 (a tk : Addr) (H H' : Hp) : Prop := ∀ b o, H b = some o → b ≠ a → b ≠ tk → H' b = some o
abbrev sV (ws : List Str) : List V := ws.map V.str
theorem sV_len {ws : List Str} : (sV ws).length = ws.length := List.length_map _
theorem sV_snoc (ws : List Str) (x : Str) : sV ws ++ [V.str x] = sV (ws ++ [x]) := by rw [sV, sV, List.map_append]; rfl
theorem sV_flat (ws : List Str) : (sV ws).all flatV = true := List.all_eq_true.mpr fun x m => by
  obtain ⟨k, _, rfl⟩ := List.mem_map.mp m
  rfl
theorem inV_mem {x : Str} {ws : List Str} : inV (.str x) (sV ws) = decide (x ∈ ws) := by
  rw [Bool.eq_iff_iff, decide_eq_true_eq]
  unfold inV
  rw [List.any_eq_true]
  constructor
  · rintro ⟨v, m, e⟩
    obtain ⟨y, my, rfl⟩ := List.mem_map.mp m
    have e : (y == x) = true := e
    rw [← beq_iff_eq.mp e]
    exact my
  · intro m
    exact ⟨.str x, List.mem_map.mpr ⟨x, m, rfl⟩, by show (x == x) = true; exact beq_self_eq_true x⟩
def spIsName : Sp := fun vs H Q _ => ∃ x : Str, vs = [.str x] ∧ Nam x ∧ ∀ H', Same H H' → Q (.bl true) H'
/-- _law_name(pool, taken) -/
def spName : Sp := fun vs H Q _ => ∃ (a tk : Addr) (ws : List Str), vs = [.ref a, .ref tk] ∧ PoolAt H a ∧ tk ≠ a ∧ H tk = some (.lst (sV ws)) ∧ ws.length ≤ 8 ∧
  ∀ (x : Str) (H' : Hp), Nam x → Keep2 a tk H H' → PoolAt H' a → H' tk = some (.lst (sV (ws ++ [x]))) → Q (.str x) H'
section
variable {P : Program} {w : World} {K : PySem.W.Frag} {mg : Str → Option Value} {base : Heap} {C : Addr}
abbrev s_is_name : Stmt := top 13
theorem sc_is_name : FnScope ["thing", "letter"] ["thing"] (defScope s_is_name) := ⟨rfl, rfl, rfl, by decide +kernel, rfl, by decide +kernel, by decide +kernel⟩
theorem ok_is_name {f : Addr} {fd : FuncData} (F : Fun K "is_name" "is_name" s_is_name f fd) (T : Bm mg) (gL : ∃ t, mg "LETTERS" = some (.str abc t)) : FnOk P w K mg base CX0 1 f fd ["thing"] spIsName := by
  obtain ⟨tL, gL⟩ := gL
  refine F.ok sc_is_name (fun vs H Q E h => ?_) (fun cdv A outer s H vs Q E hr h => ?_)
  · obtain ⟨x, rfl, _⟩ := h
    rfl
  · obtain ⟨x, rfl, ⟨h1, h2, h3⟩, k⟩ := h
    refine ⟨_, (pss_cons (ps_if (PW.pt (pw_or (pt_not (pt_val (pe_callB call_isi (by rfl) T.b.n_isinstance (by decide +kernel) (pa_cons (pv 0) (pa_cons (pe_bltn (v := .ty "str") rfl T.b.n_str (by decide +kernel) rfl) pa_nil))))) (pw_or1 (pt_not (pt_chain op_le op_le pe_int (pe_callB call_len_str (by rfl) T.b.n_len PySem.boot_len (pa_cons (pv 0) pa_nil)) pe_int)))))
        (pss_one (ps_ret pe_bl))
        pss_nil)
      (pss_one (ps_ret (pe_callB (cr_all rfl) (by rfl) T.n_all PyProof.Rows.boot_all (pa_cons (pe_lc (own := [("letter", 1)]) rfl sc_is_name.nd (pi_str (pv 0)) (blkOk_by (N := ["thing", "letter"]) (sc := defScope s_is_name) (by decide +kernel)) (fun _ _ _ _ _ => (pg_name (i := 1) sc_is_name.nd rfl (Or.inl rfl))) (fun _ _ _ _ _ => pts_nil) (fun _ _ _ _ _ => (pe_cmpR op_in_sign (pv 1) (pe_glob (v := .str abc) rfl gL ⟨_, rfl⟩) (by rfl)))) pa_nil))))), ?_⟩
    have hl : x.length = x.cps.toList.length := (Array.length_toList).symm
    refine ⟨_, rfl, .str x, .ty "str", _, _, true, rfl, .ty _, .base (.str x), kit_ty (r := true) (by decide +kernel), _, rfl, iteF ?_⟩
    refine ⟨_, rfl, x, rfl, Nat.le_of_lt (small_len (by omega)), 1, (x.length : Int), rfl, rfl, _, rfl, iteTe (decide_eq_true (by omega)) ?_⟩
    refine ⟨(x.length : Int), 8, rfl, rfl, true, congrArg V.bl (decide_eq_true (by omega)), iteF ?_⟩
    refine ⟨_, rfl, x, rfl, fun D nD => ?_⟩
    let Pv : Nat → Hp → Prop := fun i H' => Same H H' ∧ H' D = some (.lst ((List.replicate i true).map V.bl))
    refine ⟨fun i m H' => m + i = x.cps.size ∧ Pv i H', ⟨x.cps.size, rfl, Same.put nD, upd_same⟩, fun i m H1 ⟨em, p⟩ => ?_⟩
    have hs : x.cps.size = x.cps.toList.length := (Array.length_toList).symm
    cases m with
    | zero =>
      refine .inl ⟨show x.cps.size ≤ i by omega, D, _, rfl, SqL.of p.2, ?_⟩
      have e : (List.replicate i true).all id = true := List.all_eq_true.mpr fun b m => List.eq_of_mem_replicate m
      rw [e]
      exact k H1 p.1
    | succ m =>
      refine .inr ⟨show i < x.cps.size by omega, Pv (i + 1), fun H' p' => ⟨m, Nat.lt_succ_self m, by omega, p'⟩, fun v H' y => ?_⟩
      obtain ⟨e, c, hc, rfl⟩ := y
      subst e
      have mc : c ∈ x.cps.toList := by
        have := Array.mem_of_getElem? hc
        exact Array.mem_toList_iff.mpr this
      refine ⟨rfl, yes_of ?_⟩
      refine ⟨_, rfl, c, abc, rfl, rfl, ?_⟩
      rw [decide_eq_true (abc_mem (h3 c mc))]
      refine ⟨_, p.2, by rw [List.length_map, List.length_replicate]; exact small_len (by omega), Same.but (fun b u e => p.1 _ _ e) nD, ?_⟩
      rw [upd_same, List.replicate_succ', List.map_append]
      rfl
end
end K8

set_option Elab.async false
set_option linter.all false
set_option maxRecDepth 100000
set_option maxHeartbeats 4000000
namespace K8
open PySem L2 TL
theorem lenZ : ("zzzzz" : Str).length = 5 := by decide +kernel
theorem lenZ1 (c : Nat) : (("zzzzz" : Str) ++ one c).length = 6 := by
  show (("zzzzz" : Str) ++ one c).cps.size = 6
  rw [show (("zzzzz" : Str) ++ one c).cps.size = (tl (("zzzzz" : Str) ++ one c)).length from (Array.length_toList).symm, tl_append, List.length_append]
  have : (tl ("zzzzz" : Str)).length = 5 := by decide +kernel
  rw [this]
  rfl
theorem Keep2.of {a tk : Addr} {H H' : Hp} (k : Keep a H H') : Keep2 a tk H H' := fun b o h n _ => k b o h n
theorem Keep2.put {a tk : Addr} {H H' : Hp} {o : HO} (k : Keep2 a tk H H') : Keep2 a tk H (upd H' tk o) := fun b u h n n2 => by rw [upd_ne n2]; exact k b u h n n2
section
variable {P : Program} {w : World} {K : PySem.W.Frag} {mg : Str → Option Value} {base : Heap} {C : Addr}
abbrev s_name : Stmt := top 60
abbrev nNa : List Str := ["_law_pool_here", "_law_taken", "_law_letters", "_law_size_here", "_law_word", "_law_k", "_law_x"]
theorem sc_name : FnScope nNa ["_law_pool_here", "_law_taken"] (defScope s_name) := ⟨rfl, rfl, rfl, by decide +kernel, rfl, by decide +kernel, by decide +kernel⟩
abbrev XNa (P : Program) (w : World) (K : PySem.W.Frag) (mg : Str → Option Value) (base : Heap) (f : Addr) (cdv : Value) (A : Around) (outer : List Env) (s : Shared) (H : Hp) (E : XK) : Cx :=
  (cxOf CX0 P w K mg base nNa "_law_name" (defScope s_name) f cdv A outer s H E).nox
/-- a word that is taken gives way to a spare one -/
theorem segNa3 {f : Addr} {cdv : Value} {A : Around} {outer : List Env} {s : Shared} {H : Hp} {E : XK} {Q : VK} (T : Bm mg) :
    ∃ u, PSs (XNa P w K mg base f cdv A outer s H E) ((defBody s_name).drop 3) u ∧ ∀ (a tk : Addr) (ws : List Str) (v3 : Option V) (x : Str) (G : Hp), PoolAt G a → tk ≠ a → G tk = some (.lst (sV ws)) → ws.length ≤ 8 → Nam x →
      (∀ (x : Str) (H' : Hp), Nam x → Keep2 a tk G H' → PoolAt H' a → H' tk = some (.lst (sV (ws ++ [x]))) → Q (.str x) H') →
      u { nx := fun _ H' => Q .non H', rt := Q } [some (.ref a), some (.ref tk), some (.str abc), v3, some (.str x), none, none] G := by
  refine ⟨_, (pss_cons (ps_if (pt_cmpR op_in_seq (pv 4) (pv 1) (by rfl))
      (pss_one (ps_set (i := 4) sc_name.nd rfl (Or.inl rfl) (pe_ix ix_list (pe_lc (own := [("_law_x", 6)]) rfl sc_name.nd (pi_list (pe_lc (own := [("_law_k", 5)]) rfl sc_name.nd (pi_range1 (by rfl) T.n_range (pa_cons pe_int pa_nil)) (blkOk_by (N := nNa) (sc := defScope s_name) (by decide +kernel)) (fun _ _ _ _ _ => (pg_name (i := 5) sc_name.nd rfl (Or.inl rfl))) (fun _ _ _ _ _ => pts_nil) (fun _ _ _ _ _ => (pe_op op_add_str (pe_op op_add_str pe_str (pe_ix (show IxR _ rIxS from ix_str) (pv 2) (pe_op op_fdivW (pv 5) pe_int) (fun _ _ => rfl))) (pe_ix (show IxR _ rIxS from ix_str) (pv 2) (pe_op op_modN (pe_callTy call_int1 (by rfl) T.b.n_int (by decide +kernel) (pa_cons (pv 5) pa_nil)) pe_int) (fun _ _ => rfl)))))) (blkOk_by (N := nNa) (sc := defScope s_name) (by decide +kernel)) (fun _ _ _ _ _ => (pg_name (i := 6) sc_name.nd rfl (Or.inl rfl))) (fun _ _ _ _ _ => (pts_one (pt_cmpR (show OpR _ _ (rIn K true) from op_notIn_seq) (pv 6) (pv 1) (by rfl)))) (fun _ _ _ _ _ => (pv 6))) pe_int (fun _ _ => rfl))))
      pss_nil)
    (pss_cons (ps_expr (pe_bm PySem.F.plainAttrs_list PySem.F.slot_list_append PySem.F.type_list_append mt_append (pv 1) (pa_cons (pv 4) pa_nil)))
    (pss_one (ps_ret (pv 4))))), ?_⟩
  intro a tk ws v3 x G hp ta et lw nx k
  have fin : ∀ (y : Str) (G2 : Hp), Nam y → Same G G2 → ∃ l xs z, V.ref tk = .ref l ∧ [V.str y] = [z] ∧ G2 l = some (.lst xs) ∧ xs.length < sizeLine ∧ Q (.str y) (upd G2 l (.lst (xs ++ [z]))) := by
    intro y G2 ny s2
    refine ⟨tk, _, _, rfl, rfl, s2 _ _ et, by rw [sV_len]; exact small_len (by omega), k y _ ny ((Keep2.of (Keep.of s2)).put) ((hp.same s2).other (Ne.symm ta)) (by rw [upd_same, sV_snoc])⟩
  refine ⟨_, rfl, _, rfl, tk, _, rfl, .inl (SqL.of et), rfl, sV_flat ws, _, rfl, iteB (fun _ => ?_) (fun _ => ?_)⟩
  · refine ⟨676, rfl, by decide, by decide, fun B nB => ?_⟩
    refine lc_range (n := 676) (fun i H' => Same G H' ∧ H' B = some (.lst (sV ((List.range i).map spare)))) ⟨Same.put nB, upd_same⟩ ?_ ?_
    · rintro i H' hi ⟨s1, eB⟩
      rw [Int.zero_add]
      refine ⟨rfl, yes_of ?_⟩
      have d26 : ((i : Int) / 26) = ((i / 26 : Nat) : Int) := by omega
      have m26 : ((i : Int)).fmod 26 = ((i % 26 : Nat) : Int) := fmod_nat i 26
      refine ⟨_, rfl, _, rfl, (i : Int), 26, rfl, rfl, ⟨by decide, by decide⟩, abc, ((i / 26 : Nat) : Int), 97 + i / 26, rfl, congrArg V.int d26, Nat.le_of_lt (small_len (by decide +kernel)), atI_nat (abc_at (by omega)), _, _, rfl, rfl, Nat.le_of_lt (small_len (by rw [lenZ]; show 5 + 1 ≤ 1000; decide)), ?_⟩
      refine ⟨_, rfl, _, rfl, .inl ⟨_, rfl, (i : Int), 26, rfl, rfl, (by show (26 : Int) ≠ 0; decide), abc, ((i % 26 : Nat) : Int), 97 + i % 26, rfl, congrArg V.int m26, Nat.le_of_lt (small_len (by decide +kernel)), atI_nat (abc_at (by omega)), _, _, rfl, rfl, Nat.le_of_lt (small_len (by rw [lenZ1]; show 6 + 1 ≤ 1000; decide)), ?_⟩⟩
      refine ⟨_, eB, by rw [sV_len, List.length_map, List.length_range]; exact small_len (by omega), Same.but (fun b u e => s1 _ _ e) nB, ?_⟩
      rw [upd_same, List.range_succ, List.map_append]
      show some (HO.lst (sV _ ++ [V.str (spare i)])) = _
      rw [sV_snoc]
      rfl
    · rintro H1 ⟨s1, eB⟩
      generalize hC : (List.range 676).map spare = cands at eB
      have len : cands.length = 676 := by rw [← hC, List.length_map, List.length_range]
      refine ⟨B, rfl, ⟨_, SqL.of eB⟩, fun L nL => ?_⟩
      refine lc_list (K := K) (a := B) (xs := sV cands) (fun i H' => Same H1 H' ∧ H' L = some (.lst (sV ((cands.take i).filter fun y => !decide (y ∈ ws))))) ⟨Same.put nL, upd_same⟩ (fun i H' _ h => SqL.of (h.1 _ _ eB)) ?_ ?_
      · rintro i v H' hv ⟨s2, eL⟩
        obtain ⟨y, hy, rfl⟩ : ∃ y, cands[i]? = some y ∧ v = .str y := by
          rw [sV, List.getElem?_map] at hv
          cases e : cands[i]? with
          | none => rw [e] at hv; cases hv
          | some y => rw [e] at hv; exact ⟨y, rfl, (Option.some.inj hv).symm⟩
        have il := (List.getElem?_eq_some_iff.mp hy).1
        refine ⟨rfl, ?_⟩
        refine ⟨_, rfl, _, rfl, tk, _, rfl, .inl (SqL.of (s2 _ _ (s1 _ _ et))), rfl, sV_flat ws, ?_⟩
        rw [if_pos rfl, inV_mem]
        refine ⟨_, rfl, iteB (fun z => ?_) (fun z => ?_)⟩
        · refine ⟨_, rfl, _, eL, ?_, Same.but (fun b u e => s2 _ _ e) nL, ?_⟩
          · rw [sV_len]
            have := List.length_filter_le (fun y => !decide (y ∈ ws)) (cands.take i)
            rw [List.length_take] at this
            exact small_len (by omega)
          · rw [upd_same, take_more hy, List.filter_append, List.filter_cons, z, sV_snoc]
            rfl
        · refine ⟨s2, ?_⟩
          rw [take_more hy, List.filter_append, List.filter_cons, z]
          simpa using eL
      · rintro H2 ⟨s2, eL⟩
        rw [sV_len, List.take_length] at eL
        obtain ⟨q, mq, nq⟩ := pigeon spare_inj ws (List.range 676) List.nodup_range (by rw [List.length_range]; omega)
        have mem : spare q ∈ cands.filter fun y => !decide (y ∈ ws) := List.mem_filter.mpr ⟨by rw [← hC]; exact List.mem_map_of_mem mq, by rw [decide_eq_false nq]; rfl⟩
        have all : ∀ y ∈ cands.filter (fun y => !decide (y ∈ ws)), Nam y := fun y m => by
          have := (List.mem_filter.mp m).1
          rw [← hC] at this
          obtain ⟨j, mj, rfl⟩ := List.mem_map.mp this
          exact spare_nam (List.mem_range.mp mj)
        generalize (cands.filter fun y => !decide (y ∈ ws)) = F2 at eL mem all
        obtain ⟨y, r, rfl⟩ : ∃ y r, F2 = y :: r := by
          cases F2 with
          | nil => cases mem
          | cons y r => exact ⟨y, r, rfl⟩
        refine ⟨L, _, 0, _, rfl, rfl, SqL.of eL, atI_nat (j := 0) rfl, ?_⟩
        refine ⟨_, rfl, .inl ⟨rfl, _, SqL.of (s2 _ _ (s1 _ _ et))⟩, _, rfl, ?_⟩
        obtain ⟨l, xs, z, h1, h2, h3, h4, h5⟩ := fin y H2 (all y List.mem_cons_self) (s1.trans s2)
        exact ⟨l, xs, z, h1, h2, h3, h4, _, rfl, h5⟩
  · refine ⟨_, rfl, .inl ⟨rfl, _, SqL.of et⟩, _, rfl, ?_⟩
    obtain ⟨l, xs, z, h1, h2, h3, h4, h5⟩ := fin x G nx (Same.refl G)
    exact ⟨l, xs, z, h1, h2, h3, h4, _, rfl, h5⟩
theorem ok_name {f : Addr} {fd : FuncData} (F : Fun K "_law_name" "_law_name" s_name f fd) (T : Bm mg) (c_draw : Cal P w K mg base 1 "_law_draw" ["_law_pool_here", "_law_many"] spDraw) : FnOk P w K mg base CX0 2 f fd ["_law_pool_here", "_law_taken"] spName := by
  refine F.ok sc_name (fun vs H Q E h => ?_) (fun cdv A outer s H vs Q E hr h => ?_)
  · obtain ⟨a, tk, ws, rfl, _⟩ := h
    rfl
  · obtain ⟨a, tk, ws, rfl, hp, ta, et, lw, k⟩ := h
    obtain ⟨u, hu, qu⟩ := segNa3 (P := P) (w := w) (K := K) (mg := mg) (base := base) (f := f) (cdv := cdv) (A := A) (outer := outer) (s := s) (H := H) (E := E) (Q := Q) T
    refine ⟨_, (pss_cons (ps_set (i := 2) sc_name.nd rfl (Or.inr rfl) pe_str)
      (pss_cons (ps_set (i := 3) sc_name.nd rfl (Or.inl rfl) (pe_ix ix_tup (pe_tup (pa_cons pe_int (pa_cons pe_int (pa_cons pe_int (pa_cons pe_int (pa_cons pe_int pa_nil)))))) (pe_cal c_draw (hr.mono (by decide)) rfl (pa_cons (pv 0) (pa_cons pe_int pa_nil))) (fun _ _ => rfl)))
      (pss_cons (ps_set (i := 4) sc_name.nd rfl (Or.inl rfl) (pe_join pe_str (pe_lc (own := [("_law_k", 5)]) rfl sc_name.nd (pi_range1 (by rfl) T.n_range (pa_cons (pv 3) pa_nil)) (blkOk_by (N := nNa) (sc := defScope s_name) (by decide +kernel)) (fun _ _ _ _ _ => (pg_name (i := 5) sc_name.nd rfl (Or.inl rfl))) (fun _ _ _ _ _ => pts_nil) (fun _ _ _ _ _ => (pe_ix (show IxR _ rIxS from ix_str) (pv 2) (pe_cal c_draw (hr.mono (by decide)) rfl (pa_cons (pv 0) (pa_cons pe_int pa_nil))) (fun _ _ => rfl)))))) hu))), ?_⟩
    refine ⟨by show 5 ≤ sizeLine; decide, fun t nt => ?_⟩
    have s1 := Same.put (o := .tup (cV [1, 1, 2, 3, 8])) nt
    have e1 : (upd H t (.tup (cV [1, 1, 2, 3, 8]))) t = some (.tup (cV [1, 1, 2, 3, 8])) := upd_same
    have p1 := hp.same s1
    have k1 : Keep a H (upd H t (.tup (cV [1, 1, 2, 3, 8]))) := Keep.of s1
    show tCall spDraw [] E0 _ _ (upd H t (.tup (cV [1, 1, 2, 3, 8]))) _
    generalize (upd H t (.tup (cV [1, 1, 2, 3, 8]))) = H1 at e1 p1 k1 ⊢
    refine ⟨_, rfl, a, 5, rfl, p1, by decide, by decide, fun r o r0 r1 ho => ?_⟩
    obtain ⟨p2, k2⟩ := drawn p1 k1 ho
    have e2 : (upd H1 a o) t = some (.tup (cV [1, 1, 2, 3, 8])) := by rw [upd_ne (p1.ne e1)]; exact e1
    generalize (upd H1 a o) = H2 at p2 k2 e2 ⊢
    obtain ⟨j, rfl⟩ := nat_of r0
    have hj : j < [1, 1, 2, 3, 8].length := by show j < 5; omega
    have gj : ([1, 1, 2, 3, 8] : List Nat)[j]? = some [1, 1, 2, 3, 8][j] := List.getElem?_eq_getElem hj
    have gx : 1 ≤ [1, 1, 2, 3, 8][j] ∧ [1, 1, 2, 3, 8][j] ≤ 8 := (by decide : ∀ x ∈ ([1, 1, 2, 3, 8] : List Nat), 1 ≤ x ∧ x ≤ 8) _ (List.mem_of_getElem? gj)
    generalize [1, 1, 2, 3, 8][j] = n at gj gx
    refine ⟨t, _, _, _, rfl, rfl, SqT.of e2, atI_nat (cV_at gj), ?_⟩
    refine ⟨⟨_, rfl⟩, _, rfl, _, rfl, by omega, by omega, fun D nD => ?_⟩
    rw [Int.toNat_natCast]
    have Da := new_ne p2 nD
    refine lc_range (fun i H' => Keep a H2 H' ∧ PoolAt H' a ∧ ∃ cs : List Nat, H' D = some (.lst (sV (cs.map one))) ∧ cs.length = i ∧ ∀ c ∈ cs, 97 ≤ c ∧ c ≤ 122) ⟨Keep.of (Same.put nD), p2.new nD, [], upd_same, rfl, fun _ m => (by cases m)⟩ ?_ ?_
    · rintro i H' hi ⟨k3, p3, cs, eD, lc, bc⟩
      refine ⟨rfl, yes_of ?_⟩
      refine ⟨_, rfl, _, rfl, a, 26, rfl, p3, by decide, by decide, fun r o2 r0 r1 ho2 => ?_⟩
      obtain ⟨p4, k4⟩ := drawn p3 k3 ho2
      have eD4 : (upd H' a o2) D = some (.lst (sV (cs.map one))) := by rw [upd_ne Da]; exact eD
      generalize (upd H' a o2) = H4 at p4 k4 eD4 ⊢
      obtain ⟨r, rfl⟩ := nat_of r0
      refine ⟨abc, (r : Int), 97 + r, rfl, rfl, Nat.le_of_lt (small_len (by decide +kernel)), atI_nat (abc_at (by omega)), ?_⟩
      refine ⟨_, eD4, by rw [sV_len, List.length_map]; exact small_len (by omega), k4.but nD, p4.other (Ne.symm Da), cs ++ [97 + r], ?_, by rw [List.length_append, lc]; rfl, fun c m => ?_⟩
      · rw [upd_same, sV_snoc, List.map_append]
        rfl
      · rcases List.mem_append.mp m with m | m
        · exact bc c m
        · rw [List.mem_singleton.mp m]
          omega
    · rintro H3 ⟨k3, p3, cs, eD, lc, bc⟩
      have kk := k2.trans k3
      have jt := join_tl cs
      refine ⟨"", D, cs.map one, rfl, rfl, .inl (SqL.of eD), ?_, ?_⟩
      · have : ∀ l : List Nat, ((l.map one).map (·.length)).sum = l.length := fun l => by
          induction l with
          | nil => rfl
          | cons c l ih =>
            rw [List.map_cons, List.map_cons, List.sum_cons, ih, List.length_cons]
            show 1 + l.length = _
            omega
        rw [this, List.length_map]
        have e0 : ("" : Str).length = 0 := by decide +kernel
        rw [e0]
        omega
      · exact qu a tk ws _ _ H3 p3 ta (kk _ _ et ta) lw ⟨by rw [jt]; omega, by rw [jt]; omega, fun c m => by rw [jt] at m; exact bc c m⟩ fun x H' nx k5 p5 e5 => k x H' nx (fun b o e n1 n2 => k5 b o (kk b o e n1) n1 n2) p5 e5
end
end K8

set_option Elab.async false
set_option linter.all false
set_option maxRecDepth 100000
set_option maxHeartbeats 4000000
namespace K8
open PySem L2 TL
theorem sV_at {ws : List Str} {i : Nat} {x : Str} (h : ws[i]? = some x) : (sV ws)[i]? = some (V.str x) := by rw [List.getElem?_map, h]; rfl
/-- labels: a tuple of names -/
def Lbs (n : Nat) (ls : List Str) : Prop := ls.length = n ∧ ∀ x ∈ ls, Nam x
def spLabels : Sp := fun vs H Q _ => ∃ (a : Addr) (n : Nat), vs = [.ref a, .int (n : Int)] ∧ PoolAt H a ∧ 1 ≤ n ∧ n ≤ 8 ∧ ∀ (t : Addr) (ls : List Str) (H' : Hp), Keep a H H' → PoolAt H' a → H' t = some (.tup (sV ls)) → Lbs n ls → Q (.ref t) H'
section
variable {P : Program} {w : World} {K : PySem.W.Frag} {mg : Str → Option Value} {base : Heap} {C : Addr}
abbrev s_labels : Stmt := top 61
abbrev nLb : List Str := ["_law_pool_here", "_law_size_here", "_law_taken", "_law_words", "_law_way", "_law_odd", "_law_k"]
theorem sc_labels : FnScope nLb ["_law_pool_here", "_law_size_here"] (defScope s_labels) := ⟨rfl, rfl, rfl, by decide +kernel, rfl, by decide +kernel, by decide +kernel⟩
theorem ok_labels {f : Addr} {fd : FuncData} (F : Fun K "_law_labels" "_law_labels" s_labels f fd) (T : Bm mg) (c_draw : Cal P w K mg base 1 "_law_draw" ["_law_pool_here", "_law_many"] spDraw) (c_name : Cal P w K mg base 2 "_law_name" ["_law_pool_here", "_law_taken"] spName) : FnOk P w K mg base CX0 3 f fd ["_law_pool_here", "_law_size_here"] spLabels := by
  refine F.ok sc_labels (fun vs H Q E h => ?_) (fun cdv A outer s H vs Q E hr h => ?_)
  · obtain ⟨a, n, rfl, _⟩ := h
    rfl
  · obtain ⟨a, n, rfl, hp, n1, n8, k⟩ := h
    refine ⟨_, (pss_cons (ps_set (i := 2) sc_labels.nd rfl (Or.inr rfl) (pe_lst pa_nil))
      (pss_cons (ps_set (i := 3) sc_labels.nd rfl (Or.inr rfl) (pe_lc (own := [("_law_k", 6)]) rfl sc_labels.nd (pi_range1 (by rfl) T.n_range (pa_cons (pv 1) pa_nil)) (blkOk_by (N := nLb) (sc := defScope s_labels) (by decide +kernel)) (fun _ _ _ _ _ => (pg_name (i := 6) sc_labels.nd rfl (Or.inl rfl))) (fun _ _ _ _ _ => pts_nil) (fun _ _ _ _ _ => (pe_cal c_name (hr.mono (by decide)) rfl (pa_cons (pv 0) (pa_cons (pv 2) pa_nil))))))
      (pss_cons (ps_set (i := 4) sc_labels.nd rfl (Or.inl rfl) (pe_cal c_draw (hr.mono (by decide)) rfl (pa_cons (pv 0) (pa_cons pe_int pa_nil))))
      (pss_cons (ps_if (pt_cmpR op_eq (pv 4) pe_int (nomark _))
        (pss_one (ps_ret (pe_callTy call_tuple_of (by rfl) T.n_tuple (by decide +kernel) (pa_cons (pv 3) pa_nil))))
        pss_nil)
      (pss_cons (ps_if (pt_cmpR op_eq (pv 4) pe_int (nomark _))
        (pss_one (ps_ret (pe_op (op_orR op_repT op_repT1) (pe_tup (pa_cons (pe_ix ix_list (pv 3) pe_int (fun _ _ => rfl)) pa_nil)) (pv 1))))
        pss_nil)
      (pss_cons (ps_if (pt_cmpR op_lt (pv 4) pe_int (nomark _))
        (pss_cons (ps_set (i := 5) sc_labels.nd rfl (Or.inr rfl) (pe_cal c_draw (hr.mono (by decide)) rfl (pa_cons (pv 0) (pa_cons (pv 1) pa_nil))))
          (pss_one (ps_ret (pe_callTy call_tuple_of (by rfl) T.n_tuple (by decide +kernel) (pa_cons (pe_lc (own := [("_law_k", 6)]) rfl sc_labels.nd (pi_range1 (by rfl) T.n_range (pa_cons (pv 1) pa_nil)) (blkOk_by (N := nLb) (sc := defScope s_labels) (by decide +kernel)) (fun _ _ _ _ _ => (pg_name (i := 6) sc_labels.nd rfl (Or.inl rfl))) (fun _ _ _ _ _ => pts_nil) (fun _ _ _ _ _ => (pe_ix (show IxR _ (rIxL K) from ix_list) (pv 3) (pe_op op_mul (pe_callTy call_int1 (by rfl) T.b.n_int (by decide +kernel) (pa_cons (pe_cmpR op_eq (pv 6) (pv 5) (nomark _)) pa_nil)) (pe_callTy call_int1 (by rfl) T.b.n_int (by decide +kernel) (pa_cons (pe_cmpR op_gt (pv 1) pe_int (nomark _)) pa_nil))) (fun _ _ => rfl)))) pa_nil)))))
        pss_nil)
      (pss_one (ps_ret (pe_callTy call_tuple_of (by rfl) T.n_tuple (by decide +kernel) (pa_cons (pe_lc (own := [("_law_k", 6)]) rfl sc_labels.nd (pi_range1 (by rfl) T.n_range (pa_cons (pv 1) pa_nil)) (blkOk_by (N := nLb) (sc := defScope s_labels) (by decide +kernel)) (fun _ _ _ _ _ => (pg_name (i := 6) sc_labels.nd rfl (Or.inl rfl))) (fun _ _ _ _ _ => pts_nil) (fun _ _ _ _ _ => (pe_ix (show IxR _ (rIxL K) from ix_list) (pv 3) (pe_cal c_draw (hr.mono (by decide)) rfl (pa_cons (pv 0) (pa_cons (pe_callB (call_min2 rfl) (by rfl) T.n_min (by decide +kernel) (pa_cons pe_int (pa_cons (pv 1) pa_nil))) pa_nil))) (fun _ _ => rfl)))) pa_nil)))))))))), ?_⟩
    refine ⟨by show 0 ≤ sizeLine; decide, fun tk ntk => ?_⟩
    have ta := new_ne hp ntk
    have p1 := hp.new (o := .lst []) ntk
    have k1 : Keep a H (upd H tk (.lst [])) := Keep.of (Same.put ntk)
    have et : (upd H tk (.lst [])) tk = some (.lst (sV [])) := upd_same
    generalize (upd H tk (.lst [])) = H1 at p1 k1 et ⊢
    refine ⟨_, rfl, _, rfl, by omega, by omega, fun D nD => ?_⟩
    rw [Int.toNat_natCast]
    have Da := new_ne p1 nD
    have Dt : tk ≠ D := fun z => by rw [z, nD] at et; cases et
    have nDH : H D = none := by
      cases e : H D with
      | none => rfl
      | some o => rw [k1 D o e Da] at nD; cases nD
    refine lc_range (fun i H' => Keep a H H' ∧ PoolAt H' a ∧ ∃ ws : List Str, H' D = some (.lst (sV ws)) ∧ H' tk = some (.lst (sV ws)) ∧ ws.length = i ∧ ∀ x ∈ ws, Nam x) ⟨k1.trans (Keep.of (Same.put nD)), p1.new nD, [], upd_same, by rw [upd_ne Dt]; exact et, rfl, fun _ m => (by cases m)⟩ ?_ ?_
    · rintro i H' hi ⟨k2, p2, ws, eD, e2, lw, nw⟩
      refine ⟨rfl, yes_of ?_⟩
      refine ⟨_, rfl, _, rfl, a, tk, ws, rfl, p2, ta, e2, by omega, fun x H3 nx k3 p3 e3 => ?_⟩
      have eD3 : H3 D = some (.lst (sV ws)) := k3 _ _ eD Da (Ne.symm Dt)
      have k4 : Keep a H H3 := fun b o e ne => k3 b o (k2 b o e ne) ne (ne_of_none e ntk)
      refine ⟨_, eD3, by rw [sV_len]; exact small_len (by omega), k4.but nDH, p3.other (Ne.symm Da), ws ++ [x], by rw [upd_same, sV_snoc], by rw [upd_ne Dt]; exact e3, by rw [List.length_append, lw]; rfl, fun y m => ?_⟩
      rcases List.mem_append.mp m with m | m
      · exact nw y m
      · rw [List.mem_singleton.mp m]; exact nx
    rintro H2 ⟨k2, p2, ws, eD, _, lw, nw⟩
    refine ⟨_, rfl, a, 8, rfl, p2, by decide, by decide, fun y o y0 y1 ho => ?_⟩
    obtain ⟨p3, k3⟩ := drawn p2 k2 ho
    have eD3 : (upd H2 a o) D = some (.lst (sV ws)) := by rw [upd_ne Da]; exact eD
    generalize (upd H2 a o) = H3 at p3 k3 eD3 ⊢
    have fin : ∀ (t : Addr) (ls : List Str) (G : Hp), Keep a H G → PoolAt G a → G t = none → Lbs n ls → Q (.ref t) (upd G t (.tup (sV ls))) := fun t ls G kG pG nt lb => k t ls _ (kG.trans (Keep.of (Same.put nt))) (pG.same (Same.put nt)) upd_same lb
    have w0 : ws[0]? = some ws[0] := List.getElem?_eq_getElem (by omega)
    have n0 := nw ws[0] (List.mem_of_getElem? w0)
    refine ⟨_, rfl, rfl, _, rfl, iteA ⟨_, rfl, D, _, rfl, .inl ⟨SqL.of eD3, fun t nt => fin t ws H3 k3 p3 nt ⟨lw, nw⟩⟩⟩ ?_⟩
    refine ⟨_, rfl, rfl, _, rfl, iteA ?_ ?_⟩
    · refine ⟨_, rfl, D, _, 0, _, rfl, rfl, SqL.of eD3, atI_nat (j := 0) (sV_at w0), by show 1 ≤ sizeLine; decide, fun c nc => ?_⟩
      have s4 := Same.put (o := .tup [V.str ws[0]]) nc
      have e4 : (upd H3 c (.tup [V.str ws[0]])) c = some (.tup [V.str ws[0]]) := upd_same
      have p4 := p3.same s4
      have k4 := k3.trans (Keep.of s4)
      generalize (upd H3 c (.tup [V.str ws[0]])) = H4 at e4 p4 k4 ⊢
      refine ⟨_, rfl, ?_⟩
      by_cases e : n = 1
      · subst e
        exact .inr ⟨c, _, rfl, rfl, SqT.of e4, k c [ws[0]] H4 k4 p4 e4 ⟨rfl, fun x m => by rw [List.mem_singleton.mp m]; exact n0⟩⟩
      · refine .inl ⟨c, (n : Int), _, rfl, rfl, SqT.of e4, by simp, by omega, by omega, by show 1 ≤ 1000; decide, fun t nt => ?_⟩
        have er : (List.replicate (n : Int).toNat [V.str ws[0]]).flatten = sV (List.replicate n ws[0]) := by
          rw [Int.toNat_natCast, sV, List.map_replicate]
          exact List.flatten_replicate_singleton
        rw [er]
        exact fin t _ H4 k4 p4 nt ⟨List.length_replicate, fun x m => by rw [List.eq_of_mem_replicate m]; exact n0⟩
    refine ⟨_, rfl, _, _, rfl, rfl, _, rfl, iteA ?_ ?_⟩
    · refine ⟨_, rfl, _, rfl, a, (n : Int), rfl, p3, by omega, nsm (by omega), fun q o2 q0 q1 ho2 => ?_⟩
      obtain ⟨p4, k4⟩ := drawn p3 k3 ho2
      have eD4 : (upd H3 a o2) D = some (.lst (sV ws)) := by rw [upd_ne Da]; exact eD3
      generalize (upd H3 a o2) = H4 at p4 k4 eD4 ⊢
      refine ⟨_, rfl, _, rfl, by omega, by omega, fun L nL => ?_⟩
      rw [Int.toNat_natCast]
      refine lc_range (fun i H' => Same H4 H' ∧ ∃ ls : List Str, H' L = some (.lst (sV ls)) ∧ ls.length = i ∧ ∀ x ∈ ls, Nam x) ⟨Same.put nL, [], upd_same, rfl, fun _ m => (by cases m)⟩ ?_ ?_
      · rintro i H' hi ⟨s1, ls, eL, ll, nl⟩
        refine ⟨rfl, yes_of ?_⟩
        obtain ⟨b, hb⟩ : ∃ b : Bool, b = decide (V.int (0 + (i : Int)) = V.int q) := ⟨_, rfl⟩
        refine ⟨_, rfl, _, rfl, _, rfl, rfl, .inr ⟨_, rfl, _, rfl, _, _, rfl, rfl, .inr ⟨_, rfl, _, _, rfl, rfl, .inl ⟨by split <;> decide, by split <;> decide⟩, ?_⟩⟩⟩
        have idx : ∃ j : Nat, ((if decide (V.int (0 + (i : Int)) = V.int q) = true then (1 : Int) else 0) * (if decide ((n : Int) > 1) = true then (1 : Int) else 0)) = (j : Int) ∧ j < n := by
          by_cases h1 : decide (V.int (0 + (i : Int)) = V.int q) = true
          · by_cases h2 : decide ((n : Int) > 1) = true
            · rw [if_pos h1, if_pos h2]
              exact ⟨1, rfl, by have := of_decide_eq_true h2; omega⟩
            · rw [if_pos h1, if_neg h2]
              exact ⟨0, rfl, by omega⟩
          · rw [if_neg h1, Int.zero_mul]
            exact ⟨0, rfl, by omega⟩
        obtain ⟨j, ej, hj⟩ := idx
        have gj : ws[j]? = some ws[j] := List.getElem?_eq_getElem (by omega)
        refine ⟨D, _, (j : Int), _, rfl, congrArg V.int ej, SqL.of (s1 _ _ eD4), atI_nat (sV_at gj), ?_⟩
        refine ⟨_, eL, by rw [sV_len]; exact small_len (by omega), Same.but (fun b u e => s1 _ _ e) nL, ls ++ [ws[j]], by rw [upd_same, sV_snoc], by rw [List.length_append, ll]; rfl, fun y m => ?_⟩
        rcases List.mem_append.mp m with m | m
        · exact nl y m
        · rw [List.mem_singleton.mp m]; exact nw _ (List.mem_of_getElem? gj)
      · rintro H5 ⟨s1, ls, eL, ll, nl⟩
        exact ⟨L, _, rfl, .inl ⟨SqL.of eL, fun t nt => fin t ls H5 (k4.trans (Keep.of s1)) (p4.same s1) nt ⟨ll, nl⟩⟩⟩
    · refine ⟨_, rfl, _, rfl, by omega, by omega, fun L nL => ?_⟩
      rw [Int.toNat_natCast]
      have La := new_ne p3 nL
      refine lc_range (fun i H' => Keep a H3 H' ∧ PoolAt H' a ∧ ∃ ls : List Str, H' L = some (.lst (sV ls)) ∧ ls.length = i ∧ ∀ x ∈ ls, Nam x) ⟨Keep.of (Same.put nL), p3.new nL, [], upd_same, rfl, fun _ m => (by cases m)⟩ ?_ ?_
      · rintro i H' hi ⟨k4, p4, ls, eL, ll, nl⟩
        refine ⟨rfl, yes_of ?_⟩
        refine ⟨_, rfl, _, rfl, _, rfl, 2, (n : Int), rfl, a, _, rfl, p4, by split <;> omega, by split <;> exact log_small (b := 10) (by omega) (by decide) (by decide), fun q o2 q0 q1 ho2 => ?_⟩
        obtain ⟨p5, k5⟩ := drawn p4 k4 ho2
        have eL5 : (upd H' a o2) L = some (.lst (sV ls)) := by rw [upd_ne La]; exact eL
        generalize (upd H' a o2) = H5 at p5 k5 eL5 ⊢
        obtain ⟨j, rfl⟩ := nat_of q0
        have hj : j < n := by
          split at q1 <;> omega
        have gj : ws[j]? = some ws[j] := List.getElem?_eq_getElem (by omega)
        refine ⟨D, _, (j : Int), _, rfl, rfl, SqL.of (k5 _ _ eD3 Da), atI_nat (sV_at gj), ?_⟩
        refine ⟨_, eL5, by rw [sV_len]; exact small_len (by omega), k5.but nL, p5.other (Ne.symm La), ls ++ [ws[j]], by rw [upd_same, sV_snoc], by rw [List.length_append, ll]; rfl, fun y m => ?_⟩
        rcases List.mem_append.mp m with m | m
        · exact nl y m
        · rw [List.mem_singleton.mp m]; exact nw _ (List.mem_of_getElem? gj)
      · rintro H5 ⟨k4, p4, ls, eL, ll, nl⟩
        exact ⟨L, _, rfl, .inl ⟨SqL.of eL, fun t nt => fin t ls H5 (k3.trans k4) p4 nt ⟨ll, nl⟩⟩⟩
end
end K8

set_option Elab.async false
set_option linter.all false
set_option maxRecDepth 100000
set_option maxHeartbeats 4000000
/-! raise C(), C an own exception whose __init__ takes nothing and keeps nothing -/
namespace L2
open PySem PySem.Spec PyProof.Rows
section
variable {X : Cx}
theorem mk_bare {pins : List (Addr × Obj)} {σ : St} {H1 H2 : Hp} {Q : XK} {hp hp2 h2 : Heap} {g1 g2 : Array GenState} {d1 d2 : Drawn} {t1 t2 : Nat} {os1 os2 : OsState} {a C : Addr} (T : Raises X (.ref C)) (I1 : Inv X pins σ H1 ⟨hp, g1, d1, t1, os1⟩)
    (fresh : hp.objs.size ≤ a) (old : ∀ b o, hp.get? b = some o → hp2.get? b = some o) (un : Un (frs X.stack) [] (upd H1 a (exo a C none)) H2 hp2 h2) (okay : HOk X.prog X.w H2 h2) (eos : os2 = os1) (bare : AllBare g2)
    (ea : H2 a = some (exo a C none)) (q : Q (.ref C) none (del H2 a)) : MkP X pins σ Q (.ref a) ⟨h2, g2, d2, t2, os2⟩ := by
  obtain ⟨t0, obj⟩ := exo_at okay ea
  have n1 : H1 a = none := I1.hok.fresh fresh
  -- the heap without the exception
  obtain ⟨G, same, gone⟩ := restrict h2 fun b => decide (b ≠ a)
  have at_b : ∀ b, b ≠ a → G.get? b = h2.get? b := fun b hb => same b (decide_eq_true hb)
  have at_a : G.get? a = none := gone a (by simp)
  have low : ∀ {b : Addr} {o : Obj}, hp.get? b = some o → b ≠ a := fun z => Nat.ne_of_lt (Nat.lt_of_lt_of_le (Heap.lt_size z) fresh)
  have none_up : ∀ {b : Addr}, b ≠ a → H1 b = none → upd H1 a (exo a C none) b = none := fun hb n => by rw [upd_ne hb]; exact n
  have U : Un (frs X.stack) [] H1 (del H2 a) hp G := {
    keep := fun b o z n hf hx => (at_b b (low z)).trans (un.keep b o (old b o z) (none_up (low z) n) hf hx)
    slot := fun b o z n hf hx => by
      rw [at_b b (low z)]
      exact un.slot b o (old b o z) (none_up (low z) n) hf hx
    free := fun b o z n hx => by
      rw [del_ne (low z)]
      exact un.free b o (old b o z) (none_up (low z) n) hx
    there := fun b o z hx => by
      rw [at_b b (low z)]
      exact un.there b o (old b o z) hx
    tups := fun b xs z => by
      have nb := ne_of_none z n1
      rw [del_ne nb]
      exact un.tups b xs (by rw [upd_ne nb]; exact z)
    frzs := fun b o v z => by
      have nb := ne_of_none z n1
      rw [del_ne nb]
      exact un.frzs b o v (by rw [upd_ne nb]; exact z)
    tbls := fun b ps z => by
      have nb := ne_of_none z n1
      rw [del_ne nb]
      exact un.tbls b ps (by rw [upd_ne nb]; exact z) }
  have okG : HOk X.prog X.w (del H2 a) G := fun b o z => by
    have nb : b ≠ a := fun e => by
      rw [e, del_same] at z
      cases z
    rw [del_ne nb] at z
    have owner : ∀ {c : Addr}, H2 c = some (.own b) → c ≠ a := fun hc => at_ne ea hc exo_own
    refine (okay b o z).stay (fun c v hc y => ?_) (fun c hc => by rw [del_ne (owner hc)]; exact hc) (fun c xs hc => by rw [del_ne (at_ne ea hc exo_tup)]; exact hc)
    have nc : c ≠ a := hc.elim (fun e => e ▸ nb) owner
    rw [at_b c nc]
    exact y
  have J : Inv X pins σ (del H2 a) ⟨G, g2, d2, t2, os2⟩ := I1.call' (ch := []) eos U okG bare (fun b z => absurd z (by simp))
  refine ⟨a, _, _, ⟨G, g2, d2, t2, os2⟩, _, .ref C, none, rfl, J, fun b o z => ?_, at_a, obj, ⟨rfl, rfl⟩, rfl, rfl, del_same, rfl, bare, T, q⟩
  by_cases e : b = a
  · rw [e, at_a] at z
    cases z
  · exact (at_b b e).symm.trans z
/-- C(): what its __init__ asks, then the exception without fields -/
def tMk0 (C : Addr) (sp : Sp) : St → Hp → XK → Prop := fun _ H Q => ∀ a, H a = none → sp [.ref a] (upd H a (exo a C none)) (fun v H2 => v = .non ∧ H2 a = some (exo a C none) ∧ Q (.ref C) none (del H2 a)) (fun _ _ _ => False)
theorem pmk_bare {CX : CXT} {x : Str} {p pos : Pos} {C fI : Addr} {k : Nat} {fd : FuncData} {ps : List Str} {sp : Sp} (T : OexC X.K C) (iC : PySem.W.findIn X.K (.ref C) "__init__" = some (some (.ref fI))) (tI : PySem.W.typeIn X.K (.ref fI) = some (.type "function"))
    (F1 : FnOk X.prog X.w X.K X.mg X.base CX k fI fd ps sp) (hr : Room (k + 1) X.A) (hb : Binds X.K fd ps []) (hx : Passes CX X (fun _ _ _ => False)) (hg : Gl X x) (hm : X.mg x = some (.ref C)) (hdb : (x == ("__debug__" : Str)) = false := by decide) :
    PMk X (.Call (.Name x p) [] [] pos) (tMk0 C sp) := by
  intro pins s σ H Q I h
  obtain ⟨nm, qn, N, bs, bm, sn, sub, ab, col, dd, k0, k1, k2, k3, k5, hC, hbm⟩ := T.cls
  refine wpAny_Call_Name_kw (ld_glob I hg hm ?_ hdb)
  refine PySem.W.callWith_K0 I.kIn T.kC ?_
  show wpAny _ _ (call (.ref C) []) _ _ _
  obtain ⟨hp, g, dr, tk, os⟩ := s
  have I0 := I
  have grown : hp.objs.size ≤ hp.objs.size + 1 := Nat.le_succ _
  have want := h (hp.objs.size + 1) (I0.hok.fresh grown)
  have keeps : ∀ b o, hp.get? b = some o → ((hp.push (PySem.W.kdv_tup [])).push (PySem.HandSPX.excO C hp.objs.size)).get? b = some o := fun b o e => Heap.get?_push_of_some _ (Heap.get?_push_of_some _ e)
  have there : ((hp.push (PySem.W.kdv_tup [])).push (PySem.HandSPX.excO C hp.objs.size)).get? (hp.objs.size + 1) = some (PySem.HandSPX.excO C hp.objs.size) := by heap_get
  have I2 : Inv X pins σ (upd H (hp.objs.size + 1) (exo (hp.objs.size + 1) C none)) ⟨(hp.push (PySem.W.kdv_tup [])).push (PySem.HandSPX.excO C hp.objs.size), g, dr, tk, os⟩ := I0.laid (t' := tk) keeps grown (exo_ok there)
  have self : Vals [V.ref (hp.objs.size + 1)] [Value.ref (hp.objs.size + 1)] := .cons rfl .nil
  have one : [Value.ref (hp.objs.size + 1)].length = ps.length := by
    have e := self.length
    rw [F1.len _ _ _ _ want] at e
    exact e.symm
  refine wpAny_call (PySem.HandSPX.call_own F.excBase_ValueError (fun Y => PySem.HandSPX.refsVE_contains Y bm hbm) (I0.kIn _ _ hC) (PySem.W.looks_findIn I0.kIn iC) (fun u => PySem.W.bind_fn I0.kIn u tI) (by show 0 ≤ sizeLine; exact Nat.zero_le _)
    (codeAny_mono (F1.run _ X.stack _ _ ⟨[Value.ref (hp.objs.size + 1)], []⟩ [Value.ref (hp.objs.size + 1)] _ _ (fun _ _ _ => False) (hr.make C [] []) (I2.env0.make C [] []) (by simpa using hb _ [Value.ref (hp.objs.size + 1)] I2.kIn (by simpa using one)) self want) fun r s' done => ?_))
  cases r with
  | error er => exact hx pins σ _ _ er s' I2 done
  | ok fl =>
    cases fl with
    | ret u =>
      obtain ⟨v, H2, os2, bare2, un2, ok2, rv, ev, ea, q2⟩ := done
      subst ev
      obtain ⟨h2, g2, d2, t2, os'⟩ := s'
      exact ⟨rv, mk_bare (raises_own T.exC T.tyC) I0 grown keeps un2 ok2 os2 bare2 ea q2⟩
    | next => exact done.elim
    | brk => exact done.elim
    | cont => exact done.elim
end
end L2

set_option Elab.async false
set_option linter.all false
set_option maxRecDepth 100000
set_option maxHeartbeats 4000000
namespace K8
open PySem L2
/-! ### things, a chain among them -/
inductive Th2 (K : PySem.W.Frag) (C CC : Addr) (H : Hp) : V → Prop
  | th {x : V} (h : Thing K C H x) : Th2 K C CC H x
  | ch {a dx : Addr} {fs : List (Str × V)} (e : H a = some (.ins CC dx fs)) : Th2 K C CC H (.ref a)
theorem Thing.same {K : PySem.W.Frag} {C : Addr} {H H' : Hp} {x : V} (h : Thing K C H x) (s : Same H H') : Thing K C H' x := by
  cases h with
  | fo h => exact .fo (fo_same h s)
  | ins e => exact .ins (s _ _ e)
theorem Th2.same {K : PySem.W.Frag} {C CC : Addr} {H H' : Hp} {x : V} (h : Th2 K C CC H x) (s : Same H H') : Th2 K C CC H' x := by
  cases h with
  | th h => exact .th (h.same s)
  | ch e => exact .ch (s _ _ e)
theorem Th2.isInt {K : PySem.W.Frag} {C CC : Addr} {H : Hp} {x : V} (I : InsT K C) (J : InsT K CC) (h : Th2 K C CC H x) : ∃ t, TyX K H x t ∧ PySem.W.kitOne K t (.type "int") = some (isIB x) ∧ PySem.W.kitOne K t (.type "bool") = some (isB x) := by
  cases h with
  | th h => exact h.isInt I
  | ch e => exact ⟨_, J.ty e, J.kint, J.kbool⟩
theorem isI_IB (x : V) : (isIB x && !isB x) = isI x := by cases x <;> rfl
def btw (a b : Int) : V → Bool
  | .int i => decide (a ≤ i) && decide (i ≤ b)
  | _ => false
theorem btw_no {a b : Int} {x : V} (h : isI x = false) : btw a b x = false := by
  cases x <;> first | rfl | cases h
theorem int_btw {n s : Nat} (h : s < n) : btw 0 ((n : Int) - 1) (.int (s : Int)) = true := by
  show (decide (0 ≤ (s : Int)) && decide ((s : Int) ≤ (n : Int) - 1)) = true
  rw [Bool.and_eq_true, decide_eq_true_eq, decide_eq_true_eq]
  omega
def spWhole2 (K : PySem.W.Frag) (C CC : Addr) : Sp := fun vs H Q _ => ∃ x, vs = [x] ∧ Th2 K C CC H x ∧ Q (.bl (isI x)) H
def spBetween (K : PySem.W.Frag) (C CC : Addr) : Sp := fun vs H Q _ => ∃ (a b : Int) (x : V), vs = [.int a, .int b, x] ∧ Th2 K C CC H x ∧ Q (.bl (btw a b x)) H
def spIndex (K : PySem.W.Frag) (C CC : Addr) : Sp := fun vs H Q _ => ∃ (n : Int) (x : V), vs = [.int n, x] ∧ Th2 K C CC H x ∧ Q (.bl (btw 0 (n - 1) x)) H
/-- NoState.__init__ -/
def spNS (K : PySem.W.Frag) (B : Addr) : Sp := fun vs H Q _ => ∃ (a : Addr) (y : V), vs = [.ref a, y] ∧ OexC K B ∧ PySem.W.findIn K (.ref B) "state" = some none ∧ H a = some (exo a B none) ∧
  ∀ dx, H dx = none → dx ≠ a → Q .non (upd (upd H dx (exd dx [("state", y)])) a (exo a B (some dx)))
structure NsT (P : Program) (w : World) (K : PySem.W.Frag) (mg : Str → Option Value) (base : Heap) (B : Addr) : Prop where
  O : OexC K B
  nf : PySem.W.findIn K (.ref B) "state" = some none
  gB : mg "NoState" = some (.ref B)
  made : ∃ (fI : Addr) (fd : FuncData), PySem.W.findIn K (.ref B) "__init__" = some (some (.ref fI)) ∧ PySem.W.typeIn K (.ref fI) = some (.type "function") ∧ FnOk P w K mg base CX0 2 fI fd ["self", "state"] (spNS K B) ∧ Binds K fd ["self", "state"] []
theorem ns_end {H : Hp} {a dx : Addr} {p : V} {B : Addr} (ha : H a = none) (hd : (upd H a (exo a B none)) dx = none) (ne : dx ≠ a) :
    Same H (upd (L2.del (upd (upd (upd H a (exo a B none)) dx (exd dx [("state", p)])) a (exo a B (some dx))) a) dx (.xd [("state", p)])) := fun b o h => by
  have nb : b ≠ a := ne_of_none h ha
  have nd : b ≠ dx := fun z => by rw [upd_ne ne] at hd; rw [z, hd] at h; cases h
  rw [upd_ne nd, del_ne nb, upd_ne nb, upd_ne nd, upd_ne nb]
  exact h
/-- check_state(size, x) -/
def spCheck (K : PySem.W.Frag) (C CC B : Addr) : Sp := fun vs H Q E => ∃ (n : Int) (x : V), vs = [.int n, x] ∧ Th2 K C CC H x ∧ ((btw 0 (n - 1) x = true ∧ Q .non H) ∨ (btw 0 (n - 1) x = false ∧ ∀ (d : Addr) (H' : Hp), Same H H' → H' d = some (.xd [("state", x)]) → E (.ref B) (some d) H'))
/-- a def that may raise -/
structure CalX (P : Program) (w : World) (K : PySem.W.Frag) (mg : Str → Option Value) (base : Heap) (k : Nat) (x : Str) (ps : List Str) (sp : Sp) : Prop where
  ex : ∃ (f : Addr) (fd : FuncData), mg x = some (.ref f) ∧ PySem.W.keepIn K (.ref f) = true ∧ FnOk P w K mg base (L2.CX P w) k f fd ps sp ∧ Binds K fd ps []
section
variable {X : Cx} {k : Nat} {ps : List Str} {sp : Sp} {x : Str} {p pos : Pos} {e : Expr} {es : List Expr} {t : TA}
theorem pe_calx (c : CalX X.prog X.w X.K X.mg X.base k x ps sp) (hr : Room k X.A) (hg : Gl X x) (ha : PA X (e :: es) t) (hdb : (x == ("__debug__" : Str)) = false := by decide)
    (he : starEach (e :: es) X.env = (false, eval e X.env) :: starEach es X.env := by rfl) (hpl : (backTo pos (starEach es X.env)).any (·.1) = false := by rfl) :
    PE X (.Call (.Name x p) (e :: es) [] pos) (tCall sp [] E0 t) := by
  obtain ⟨f, fd, hm, hk, F, hb⟩ := c.ex
  exact pe_call F hr hg hm hk hb .nil passX ha hdb he hpl
end
section
variable {P : Program} {w : World} {K : PySem.W.Frag} {mg : Str → Option Value} {base : Heap} {C CC B : Addr}
theorem ok_is_whole2 {f : Addr} {fd : FuncData} (F : Fun K "is_whole" "is_whole" s_is_whole f fd) (T : Bn mg) (I : InsT K C) (J : InsT K CC) : FnOk P w K mg base CX0 1 f fd ["thing"] (spWhole2 K C CC) := by
  refine F.ok sc_is_whole (fun vs H Q E h => ?_) (fun cdv A outer s H vs Q E hr h => ?_)
  · obtain ⟨x, rfl, _⟩ := h
    rfl
  · obtain ⟨x, rfl, h, k⟩ := h
    refine ⟨_, (pss_one (ps_ret (pe_and (pe_callB call_isi (by rfl) T.n_isinstance (by decide +kernel) (pa_cons (pv 0) (pa_cons (pe_bltn (v := .ty "int") rfl T.n_int (by decide +kernel) rfl) pa_nil))) (pe_one (pe_not (pe_callB call_isi (by rfl) T.n_isinstance (by decide +kernel) (pa_cons (pv 0) (pa_cons (pe_bltn (v := .ty "bool") rfl T.n_bool (by decide +kernel) rfl) pa_nil)))))))), ?_⟩
    obtain ⟨t, ty, k1, k2⟩ := h.isInt I J
    have e := isI_IB x
    refine ⟨_, rfl, x, .ty "int", t, _, _, rfl, .ty _, ty, k1, _, rfl, iteB (fun z => ?_) (fun z => ?_)⟩
    · refine ⟨_, rfl, x, .ty "bool", t, _, _, rfl, .ty _, ty, k2, _, rfl, ?_⟩
      rw [z, Bool.true_and] at e
      rw [e]
      exact k
    · rw [z, Bool.false_and] at e
      rw [← e] at k
      exact k
abbrev s_is_between : Stmt := top 10
theorem sc_is_between : FnScope ["least", "most", "thing"] ["least", "most", "thing"] (defScope s_is_between) := ⟨rfl, rfl, rfl, by decide +kernel, rfl, by decide +kernel, by decide +kernel⟩
theorem ok_is_between {f : Addr} {fd : FuncData} (F : Fun K "is_between" "is_between" s_is_between f fd) (c_is_whole : Cal P w K mg base 1 "is_whole" ["thing"] (spWhole2 K C CC)) : FnOk P w K mg base CX0 2 f fd ["least", "most", "thing"] (spBetween K C CC) := by
  refine F.ok sc_is_between (fun vs H Q E h => ?_) (fun cdv A outer s H vs Q E hr h => ?_)
  · obtain ⟨a, b, x, rfl, _⟩ := h
    rfl
  · obtain ⟨a, b, x, rfl, h, k⟩ := h
    refine ⟨_, (pss_one (ps_ret (pe_and (pe_cal c_is_whole (hr.mono (by decide)) rfl (pa_cons (pv 2) pa_nil)) (pe_one (pe_chain op_le op_le (pv 0) (pv 2) (pv 1)))))), ?_⟩
    refine ⟨_, rfl, x, rfl, h, _, rfl, iteB (fun z => ?_) (fun z => ?_)⟩
    · obtain ⟨i, rfl⟩ := isI_int z
      refine ⟨_, rfl, _, rfl, a, i, rfl, rfl, _, rfl, iteB (fun z2 => ?_) (fun z2 => ?_)⟩
      · refine ⟨_, rfl, i, b, rfl, rfl, ?_⟩
        show Q (.bl (decide (i ≤ b))) H
        have k : Q (.bl (decide (a ≤ i) && decide (i ≤ b))) H := k
        rw [z2, Bool.true_and] at k
        exact k
      · have k : Q (.bl (decide (a ≤ i) && decide (i ≤ b))) H := k
        rw [z2, Bool.false_and] at k
        exact k
    · rw [btw_no z] at k
      exact k
abbrev s_is_index : Stmt := top 11
theorem sc_is_index : FnScope ["many", "thing"] ["many", "thing"] (defScope s_is_index) := ⟨rfl, rfl, rfl, by decide +kernel, rfl, by decide +kernel, by decide +kernel⟩
theorem ok_is_index {f : Addr} {fd : FuncData} (F : Fun K "is_index" "is_index" s_is_index f fd) (c_is_between : Cal P w K mg base 2 "is_between" ["least", "most", "thing"] (spBetween K C CC)) : FnOk P w K mg base CX0 3 f fd ["many", "thing"] (spIndex K C CC) := by
  refine F.ok sc_is_index (fun vs H Q E h => ?_) (fun cdv A outer s H vs Q E hr h => ?_)
  · obtain ⟨n, x, rfl, _⟩ := h
    rfl
  · obtain ⟨n, x, rfl, h, k⟩ := h
    refine ⟨_, (pss_one (ps_ret (pe_cal c_is_between (hr.mono (by decide)) rfl (pa_cons pe_int (pa_cons (pe_op op_sub (pv 0) pe_int) (pa_cons (pv 1) pa_nil)))))), ?_⟩
    exact ⟨_, rfl, _, _, rfl, rfl, _, rfl, 0, n - 1, x, rfl, h, k⟩
abbrev s_NS : Stmt := inClass (top 6) 0
theorem sc_NS : FnScope ["self", "state"] ["self", "state"] (defScope s_NS) := ⟨rfl, rfl, rfl, by decide +kernel, rfl, by decide +kernel, by decide +kernel⟩
theorem ok_NS {f g W B : Addr} {mc : Value} {fd fdW : FuncData} (F : Fun K "__init__" "NoState.__init__" s_NS f fd) (gW : mg "WalkError" = some (.ref W)) (c : ClsFn K W mc "__init__" g) (FW : FnOk P w K mg base CX0 1 g fdW ["self", "words"] (spWE K)) (bW : Binds K fdW ["self", "words"] []) :
    FnOk P w K mg base CX0 2 f fd ["self", "state"] (spNS K B) := by
  refine F.ok sc_NS (fun vs H Q E h => ?_) (fun cdv A outer s H vs Q E hr h => ?_)
  · obtain ⟨a, y, rfl, _⟩ := h
    rfl
  · obtain ⟨a, y, rfl, O, nt, ha, k⟩ := h
    refine ⟨_, pss_cons (ps_expr (pe_clsfn c FW hr rfl gW bW pass0 (pa_cons (pv 0) (pa_cons pe_str pa_nil)))) (pss_one (ps_ost (pv 0) (pv 1))), ?_⟩
    exact ⟨_, rfl, a, B, _, rfl, O, ha, _, rfl, _, rfl, a, B, rfl, O, nt, .inl ⟨ha, fun dx hd ne => k dx hd ne⟩⟩
/-- the reading of raise NoState(x) -/
theorem ns_raise {p : V} {H : Hp} {E : XK} (T : NsT P w K mg base B) (k : ∀ (d : Addr) (H' : Hp), Same H H' → H' d = some (.xd [("state", p)]) → E (.ref B) (some d) H') {t : TA} {σ : St} (ht : ∀ Q : List V → Hp → Prop, Q [p] H → t σ H Q) :
    tMkO B (spNS K B) [] t σ H (fun cls d H' => E cls d H') := by
  refine ht _ ⟨by show 1 ≤ 1000; decide, fun a ha => ⟨a, p, rfl, T.O, T.nf, upd_same, fun d hd ne => ⟨rfl, d, [("state", p)], upd_same, ?_, ?_, ?_⟩⟩⟩
  · rw [upd_ne ne, upd_same]
  · rw [upd_ne ne] at hd
    exact hd
  · exact k d _ (ns_end ha hd ne) upd_same
abbrev s_check : Stmt := top 12
theorem sc_check : FnScope ["size", "state"] ["size", "state"] (defScope s_check) := ⟨rfl, rfl, rfl, by decide +kernel, rfl, by decide +kernel, by decide +kernel⟩
theorem ok_check {f : Addr} {fd : FuncData} (F : Fun K "check_state" "check_state" s_check f fd) (c_ix : Cal P w K mg base 3 "is_index" ["many", "thing"] (spIndex K C CC)) (N : NsT P w K mg base B) : FnOk P w K mg base (L2.CX P w) 4 f fd ["size", "state"] (spCheck K C CC B) := by
  obtain ⟨fS, fdS, iS, tS, FS, bS⟩ := id N.made
  refine F.okX sc_check (fun vs H Q E h => ?_) (fun cdv A outer s H vs Q E hr h => ?_)
  · obtain ⟨n, x, rfl, _⟩ := h
    rfl
  · obtain ⟨n, x, rfl, h, k⟩ := h
    refine ⟨_, (pss_one (ps_if (pt_not (pt_val (pe_cal c_ix hr rfl (pa_cons (pv 0) (pa_cons (pv 1) pa_nil)))))
        (pss_one (ps_raise (W := fun cls d _ H => E cls d H) rfl (takes_of rfl rfl rfl rfl) (pmk_oex N.O iS tS FS (hr.mono (by decide)) bS .nil pass0 rfl N.gB (pa_cons (pv 1) pa_nil))))
        pss_nil)), ?_⟩
    refine ⟨_, rfl, _, rfl, n, x, rfl, h, _, rfl, ?_⟩
    rcases k with ⟨e, k⟩ | ⟨e, k⟩
    · rw [e]
      exact iteF k
    · rw [e]
      exact iteT (ns_raise N k fun Q q => ⟨x, rfl, q⟩)
end
end K8

set_option Elab.async false
set_option linter.all false
set_option maxRecDepth 100000
set_option maxHeartbeats 4000000
namespace K8
open PySem L2
abbrev iW (ws : List Nat) : List Int := ws.map fun k : Nat => (k : Int)
/-- a row of numbers over their sum -/
def RowIn (C : Addr) (H : Hp) (n : Nat) (r : Addr × List Nat) : Prop := ∃ xs, H r.1 = some (.tup xs) ∧ Nums C (r.2.sum : Int) H xs (iW r.2) ∧ Tps n r.2
/-- a row of shares -/
def RowSh (C : Addr) (H : Hp) (n : Nat) (r : Addr × List Nat) : Prop := ∃ as : List Addr, H r.1 = some (.tup (as.map V.ref)) ∧ as.length = n ∧ Tps n r.2 ∧
  ∀ (i : Nat) (a : Addr), as[i]? = some a → ∃ (dx : Addr) (w : Nat), r.2[i]? = some w ∧ H a = some (.ins C dx (shF (lowT (w : Int) (r.2.sum : Int)) (lowB (w : Int) (r.2.sum : Int))))
theorem RowIn.same {C : Addr} {H H' : Hp} {n : Nat} {r : Addr × List Nat} (h : RowIn C H n r) (s : Same H H') : RowIn C H' n r := by
  obtain ⟨xs, h1, h2, h3⟩ := h
  exact ⟨xs, s _ _ h1, h2.same s, h3⟩
theorem RowSh.same {C : Addr} {H H' : Hp} {n : Nat} {r : Addr × List Nat} (h : RowSh C H n r) (s : Same H H') : RowSh C H' n r := by
  obtain ⟨as, h1, h2, h3, h4⟩ := h
  exact ⟨as, s _ _ h1, h2, h3, fun i a e => let ⟨dx, w, q1, q2⟩ := h4 i a e; ⟨dx, w, q1, s _ _ q2⟩⟩
theorem refs_at {as : List Addr} {i : Nat} {x : V} (h : (as.map V.ref)[i]? = some x) : ∃ a, as[i]? = some a ∧ x = .ref a := by
  rw [List.getElem?_map] at h
  cases e : as[i]? with
  | none => rw [e] at h; cases h
  | some a => rw [e] at h; exact ⟨a, rfl, (Option.some.inj h).symm⟩
theorem RowSh.inn {C : Addr} {H : Hp} {n : Nat} {r : Addr × List Nat} (h : RowSh C H n r) : RowIn C H n r := by
  obtain ⟨as, h1, h2, h3, h4⟩ := h
  refine ⟨_, h1, ⟨by rw [List.length_map, List.length_map, h2, h3.1], fun i x e => ?_⟩, h3⟩
  obtain ⟨a, ha, rfl⟩ := refs_at e
  obtain ⟨dx, w, q1, q2⟩ := h4 i a ha
  exact ⟨(w : Int), by rw [List.getElem?_map, q1]; rfl, .inr ⟨a, dx, rfl, q2⟩⟩
theorem RowSh.keep {C p : Addr} {H H' : Hp} {n : Nat} {r : Addr × List Nat} (h : RowSh C H n r) (k : Keep p H H') (hp : PoolAt H p) : RowSh C H' n r := by
  obtain ⟨as, h1, h2, h3, h4⟩ := h
  exact ⟨as, k _ _ h1 (hp.ne h1), h2, h3, fun i a e => let ⟨dx, w, q1, q2⟩ := h4 i a e; ⟨dx, w, q1, k _ _ q2 (hp.nei q2)⟩⟩
theorem tps_low {n : Nat} {ws : List Nat} (h : Tps n ws) (n8 : n ≤ 8) : 0 < (ws.sum : Int) ∧ ((ws.sum : Int)).natAbs < 2 ^ 4000 ∧ ∀ w ∈ ws, ((w : Int)).natAbs < 2 ^ 3000 := by
  have b : ∀ w ∈ ws, w ≤ 2 ^ 40 := fun w m => Nat.le_of_lt (h.2.2 w m)
  have sb : ∀ l : List Nat, (∀ w ∈ l, w ≤ 2 ^ 40) → l.sum ≤ l.length * 2 ^ 40 := fun l => by
    induction l with
    | nil => intro _; simp
    | cons x l ih =>
      intro hl
      rw [List.sum_cons, List.length_cons]
      have := ih fun w m => hl w (List.mem_cons_of_mem _ m)
      have := hl x List.mem_cons_self
      omega
  have := sb ws b
  rw [h.1] at this
  have s1 : ws.sum ≤ 8 * 2 ^ 40 := Nat.le_trans this (Nat.mul_le_mul_right _ n8)
  refine ⟨by have := h.2.1; omega, ?_, fun w m => ?_⟩
  · rw [Int.natAbs_natCast]
    exact Nat.lt_of_le_of_lt s1 (by decide +kernel)
  · rw [Int.natAbs_natCast]
    exact Nat.lt_trans (h.2.2 w m) (by decide +kernel)
def spSharesOf (C : Addr) : Sp := fun vs H Q _ => ∃ (b : Addr) (n : Nat) (ws : List Nat), vs = [.ref b] ∧ n ≤ 8 ∧ RowIn C H n (b, ws) ∧ ∀ (t : Addr) (H' : Hp), Same H H' → RowSh C H' n (t, ws) → (∀ xs, H b = some (.tup xs) → (∀ v ∈ xs, ∃ a, v = .ref a) → H' t = some (.tup xs)) → Q (.ref t) H'
section
variable {P : Program} {w : World} {K : PySem.W.Frag} {mg : Str → Option Value} {base : Heap} {C CC B : Addr}
abbrev s_shares_of : Stmt := top 25
theorem sc_shares_of : FnScope ["row", "part"] ["row"] (defScope s_shares_of) := ⟨rfl, rfl, rfl, by decide +kernel, rfl, by decide +kernel, by decide +kernel⟩
theorem ok_shares_of {f : Addr} {fd : FuncData} (F : Fun K "shares_of" "shares_of" s_shares_of f fd) (T : Bm mg) (c_of : Cal P w K mg base 6 "share_of" ["thing"] (spShareOf C)) : FnOk P w K mg base CX0 7 f fd ["row"] (spSharesOf C) := by
  refine F.ok sc_shares_of (fun vs H Q E h => ?_) (fun cdv A outer s H vs Q E hr h => ?_)
  · obtain ⟨b, n, ws, rfl, _⟩ := h
    rfl
  · obtain ⟨b, n, ws, rfl, n8, ⟨xs, eb, nu, tp⟩, k⟩ := h
    refine ⟨_, (pss_one (ps_ret (pe_callTy call_tuple_of (by rfl) T.n_tuple (by decide +kernel) (pa_cons (pe_lc (own := [("part", 1)]) rfl sc_shares_of.nd (pi_tup (pv 0)) (blkOk_by (N := ["row", "part"]) (sc := defScope s_shares_of) (by decide +kernel)) (fun _ _ _ _ _ => (pg_name (i := 1) sc_shares_of.nd rfl (Or.inl rfl))) (fun _ _ _ _ _ => pts_nil) (fun _ _ _ _ _ => (pe_cal c_of (hr.mono (by decide)) rfl (pa_cons (pv 1) pa_nil)))) pa_nil)))), ?_⟩
    have eb : H b = some (.tup xs) := eb
    have lx : xs.length = n := by rw [nu.1, List.length_map, tp.1]
    refine ⟨_, rfl, b, rfl, ⟨_, SqT.of eb⟩, fun D nD => ?_⟩
    refine lc_tup (K := K) (a := b) (xs := xs) (fun i H' => Same H H' ∧ ∃ as : List Addr, H' D = some (.lst (as.map V.ref)) ∧ as.length = i ∧
      (∀ (j : Nat) (a : Addr), as[j]? = some a → ∃ (dx : Addr) (w : Nat), ws[j]? = some w ∧ H' a = some (.ins C dx (shF (lowT (w : Int) (ws.sum : Int)) (lowB (w : Int) (ws.sum : Int))))) ∧ ∀ (j : Nat) (b : Addr), j < i → xs[j]? = some (.ref b) → as[j]? = some b) ⟨Same.put nD, [], upd_same, rfl, fun j a e => by simp at e, fun j b hj => absurd hj (Nat.not_lt_zero _)⟩ (fun i H' _ h => SqT.of (h.1 _ _ eb)) ?_ ?_
    · rintro i x H' hx ⟨s1, as, eD, la, fa, ga⟩
      obtain ⟨S, hS, nx⟩ := (nu.same s1).2 i x hx
      obtain ⟨w, hw, rfl⟩ : ∃ w, ws[i]? = some w ∧ S = (w : Int) := by
        have hS : (ws.map fun k : Nat => (k : Int))[i]? = some S := hS
        rw [List.getElem?_map] at hS
        cases e : ws[i]? with
        | none => rw [e] at hS; cases hS
        | some w => rw [e] at hS; exact ⟨w, rfl, (Option.some.inj hS).symm⟩
      have il := (List.getElem?_eq_some_iff.mp hx).1
      refine ⟨rfl, yes_of ?_⟩
      refine ⟨_, rfl, x, _, _, rfl, nx, fun a dx H2 s2 ea oa => ?_⟩
      have aD : ∀ {c dy : Addr} {fs : List (Str × V)}, H2 c = some (.ins C dy fs) → c ≠ D := fun e z => by
        rw [z, s2 _ _ eD] at e
        cases e
      refine ⟨_, s2 _ _ eD, by rw [List.length_map]; exact small_len (by omega), Same.but (fun b u e => s2 _ _ (s1 _ _ e)) nD, as ++ [a], by rw [upd_same, List.map_append]; rfl, by rw [List.length_append, la]; rfl, fun j c hc => ?_, fun j c hj hc => ?_⟩
      rotate_left
      · rcases Nat.lt_or_ge j i with h | h
        · rw [List.getElem?_append_left (by omega)]
          exact ga j c h hc
        · have ej : j = i := by omega
          subst ej
          rw [hx] at hc
          rw [List.getElem?_append_right (by omega), la, Nat.sub_self]
          have := oa c (Option.some.inj hc)
          rw [this]
          rfl
      rcases Nat.lt_or_ge j as.length with h | h
      · rw [List.getElem?_append_left h] at hc
        obtain ⟨dy, v, q1, q2⟩ := fa j c hc
        exact ⟨dy, v, q1, by rw [upd_ne (aD (s2 _ _ q2))]; exact s2 _ _ q2⟩
      · rw [List.getElem?_append_right h] at hc
        have hz : j - as.length = 0 := by
          have := (List.getElem?_eq_some_iff.mp hc).1
          simpa using this
        rw [hz] at hc
        have e : a = c := by simpa using hc
        have ej : j = i := by omega
        rw [← e, ej]
        exact ⟨dx, w, hw, by rw [upd_ne (aD ea)]; exact ea⟩
    · rintro H1 ⟨s1, as, eD, la, fa, ga⟩
      refine ⟨D, _, rfl, .inl ⟨SqL.of eD, fun t nt => ?_⟩⟩
      have st := Same.put (o := .tup (as.map V.ref)) nt
      refine k t _ (s1.trans st) ⟨as, upd_same, by omega, tp, fun j c hc => let ⟨dx, w, q1, q2⟩ := fa j c hc; ⟨dx, w, q1, st _ _ q2⟩⟩ fun ys ey ay => ?_
      have : xs = ys := by rw [eb] at ey; exact HO.tup.inj (Option.some.inj ey)
      subst this
      have : as.map V.ref = xs := by
        refine List.ext_getElem? fun j => ?_
        rcases Nat.lt_or_ge j xs.length with h | h
        · have hx : xs[j]? = some xs[j] := List.getElem?_eq_getElem h
          obtain ⟨c, hc⟩ := ay _ (List.mem_of_getElem? hx)
          rw [hc] at hx
          rw [hx, List.getElem?_map, ga j c h hx]
          rfl
        · rw [List.getElem?_eq_none h, List.getElem?_eq_none (by rw [List.length_map]; omega)]
      rw [← this]
      exact upd_same
end
/-! ### chains -/
theorem nSR : ¬ (("size" : Str) = "_rows") := by decide +kernel
theorem nSL : ¬ (("size" : Str) = "_labels") := by decide +kernel
theorem nRL : ¬ (("_rows" : Str) = "_labels") := by decide +kernel
def chF (n : Nat) (T lb : Addr) : List (Str × V) := putF "_labels" (.ref lb) (putF "_rows" (.ref T) (putF "size" (.int (n : Int)) []))
theorem chF_size (n : Nat) (T lb : Addr) : (chF n T lb).lookup ("size" : Str) = some (.int (n : Int)) := by
  unfold chF
  rw [lookup_putF, if_neg nSL, lookup_putF, if_neg nSR, lookup_putF, if_pos rfl]
theorem chF_rows (n : Nat) (T lb : Addr) : (chF n T lb).lookup ("_rows" : Str) = some (.ref T) := by
  unfold chF
  rw [lookup_putF, if_neg nRL, lookup_putF, if_pos rfl]
theorem chF_labels (n : Nat) (T lb : Addr) : (chF n T lb).lookup ("_labels" : Str) = some (.ref lb) := by
  unfold chF
  rw [lookup_putF, if_pos rfl]
theorem chF_none (n : Nat) (T lb : Addr) {m : Str} (h1 : ¬ m = "_labels") (h2 : ¬ m = "_rows") (h3 : ¬ m = "size") : (chF n T lb).lookup m = none := by
  unfold chF
  rw [lookup_putF, if_neg h1, lookup_putF, if_neg h2, lookup_putF, if_neg h3]
  rfl
/-- a chain of these rows and labels -/
def IsCh (C CC : Addr) (H : Hp) (o : Addr) (n : Nat) (rws : List (List Nat)) (ls : List Str) : Prop := ∃ (dx T lb : Addr) (rs : List (Addr × List Nat)), H o = some (.ins CC dx (chF n T lb)) ∧ H T = some (.tup (rfs rs)) ∧ rs.length = n ∧ (∀ r ∈ rs, RowSh C H n r) ∧ rs.map (·.2) = rws ∧ H lb = some (.tup (sV ls)) ∧ Lbs n ls
theorem IsCh.same {C CC : Addr} {H H' : Hp} {o : Addr} {n : Nat} {rws : List (List Nat)} {ls : List Str} (h : IsCh C CC H o n rws ls) (s : Same H H') : IsCh C CC H' o n rws ls := by
  obtain ⟨dx, T, lb, rs, h1, h2, h3, h4, h5, h6, h7⟩ := h
  exact ⟨dx, T, lb, rs, s _ _ h1, s _ _ h2, h3, fun r m => (h4 r m).same s, h5, s _ _ h6, h7⟩
theorem IsCh.keep {C CC p : Addr} {H H' : Hp} {o : Addr} {n : Nat} {rws : List (List Nat)} {ls : List Str} (h : IsCh C CC H o n rws ls) (k : Keep p H H') (hp : PoolAt H p) : IsCh C CC H' o n rws ls := by
  obtain ⟨dx, T, lb, rs, h1, h2, h3, h4, h5, h6, h7⟩ := h
  exact ⟨dx, T, lb, rs, k _ _ h1 (hp.nei h1), k _ _ h2 (hp.ne h2), h3, fun r m => (h4 r m).keep k hp, h5, k _ _ h6 (hp.ne h6), h7⟩
structure ChT (K : PySem.W.Frag) (mg : Str → Option Value) (CC : Addr) : Prop where
  it : InsT K CC
  nS : NoAttr K CC "size"
  nR : NoAttr K CC "_rows"
  nL : NoAttr K CC "_labels"
  gC : mg "Chain" = some (.ref CC)
  gM : ∃ t, mg "MOST_STATES" = some (.int 8 t)
/-- rows of references are kept item by item -/
def ExR (G H : Hp) (rs rs2 : List (Addr × List Nat)) : Prop := ∀ (i : Nat) (r r2 : Addr × List Nat) (xs : List V), rs[i]? = some r → rs2[i]? = some r2 → G r.1 = some (.tup xs) → (∀ v ∈ xs, ∃ a, v = .ref a) → H r2.1 = some (.tup xs)
/-- Chain.__init__(rows, labels) -/
def spCI (C CC : Addr) : Sp := fun vs H Q _ => ∃ (x dx T lb : Addr) (n : Nat) (rs : List (Addr × List Nat)) (ls : List Str), vs = [.ref x, .ref T, .ref lb] ∧ H x = some (.ins CC dx []) ∧ 1 ≤ n ∧ n ≤ 8 ∧ H T = some (.tup (rfs rs)) ∧ rs.length = n ∧ (∀ r ∈ rs, RowIn C H n r) ∧ H lb = some (.tup (sV ls)) ∧ Lbs n ls ∧
  ∀ (T2 : Addr) (rs2 : List (Addr × List Nat)) (H2 : Hp), Same H H2 → H2 T2 = some (.tup (rfs rs2)) → rs2.length = n → (∀ r ∈ rs2, RowSh C H2 n r) → rs2.map (·.2) = rs.map (·.2) → ExR H H2 rs rs2 → Q .non (upd H2 x (.ins CC dx (chF n T2 lb)))
end K8

set_option Elab.async false
set_option linter.all false
set_option maxRecDepth 100000
set_option maxHeartbeats 4000000
namespace K8
open PySem L2
theorem all_true (n : Nat) : (List.replicate n true).all id = true := List.all_eq_true.mpr fun b m => List.eq_of_mem_replicate m
theorem refs_rep {i : Nat} : (List.replicate i true).map V.bl ++ [V.bl true] = (List.replicate (i + 1) true).map V.bl := by
  rw [List.replicate_succ', List.map_append]
  rfl
theorem spr_ok {ws : List Nat} : sprB (ws.sum : Int) (ws.map fun k : Nat => some (k : Int)) = true := by
  unfold sprB
  rw [Bool.and_eq_true]
  refine ⟨List.all_eq_true.mpr fun b m => ?_, decide_eq_true ?_⟩
  · rw [List.map_map] at m
    obtain ⟨k, _, rfl⟩ := List.mem_map.mp m
    show decide ((0 : Int) ≤ (k : Int)) = true
    exact decide_eq_true (by omega)
  · rw [List.map_map]
    exact sum_ints ws
theorem items_of {K : PySem.W.Frag} {C : Addr} {H : Hp} {n : Nat} {ws : List Nat} {xs : List V} (h : Nums C (ws.sum : Int) H xs (iW ws)) (t : Tps n ws) : Items K C (ws.sum : Int) H xs (ws.map fun k : Nat => some (k : Int)) := by
  refine ⟨by rw [h.1, List.length_map, List.length_map], fun i x e => ?_⟩
  obtain ⟨S, hS, nx⟩ := h.2 i x e
  have hS : (ws.map fun k : Nat => (k : Int))[i]? = some S := hS
  rw [List.getElem?_map] at hS
  cases q : ws[i]? with
  | none => rw [q] at hS; cases hS
  | some w =>
    rw [q] at hS
    cases Option.some.inj hS
    refine ⟨some (w : Int), by rw [List.getElem?_map, q]; rfl, nx, ?_⟩
    rw [Int.natAbs_natCast]
    exact Nat.lt_trans (t.2.2 w (List.mem_of_getElem? q)) (by decide +kernel)
theorem shF_top' (t n : Int) : (shF t n).lookup ("top" : Str) = some (.int t) := by
  unfold shF
  rw [lookup_putF, if_neg (by decide +kernel), lookup_putF, if_pos rfl]
theorem RowIn.upx {C CC x dx : Addr} {H : Hp} {fs : List (Str × V)} {n : Nat} {r : Addr × List Nat} {o : HO} (h : RowIn C H n r) (ex : H x = some (.ins CC dx fs)) (nf : fs.lookup ("top" : Str) = none) : RowIn C (upd H x o) n r := by
  obtain ⟨xs, h1, h2, h3⟩ := h
  refine ⟨xs, by rw [upd_ne (fun z => by rw [z, ex] at h1; cases h1)]; exact h1, ⟨h2.1, fun i v e => ?_⟩, h3⟩
  obtain ⟨S, e2, nx⟩ := h2.2 i v e
  refine ⟨S, e2, ?_⟩
  rcases nx with nx | ⟨a, dy, e3, nx⟩
  · exact .inl nx
  · refine .inr ⟨a, dy, e3, ?_⟩
    rw [upd_ne (fun z => ?_)]
    · exact nx
    · rw [z, ex] at nx
      have e4 := HO.ins.inj (Option.some.inj nx)
      rw [e4.2.2, shF_top'] at nf
      cases nf
theorem RowSh.upx {C CC x dx : Addr} {H : Hp} {fs : List (Str × V)} {n : Nat} {r : Addr × List Nat} {o : HO} (h : RowSh C H n r) (ex : H x = some (.ins CC dx fs)) (nf : fs.lookup ("top" : Str) = none) : RowSh C (upd H x o) n r := by
  obtain ⟨as, h1, h2, h3, h4⟩ := h
  refine ⟨as, by rw [upd_ne (fun z => by rw [z, ex] at h1; cases h1)]; exact h1, h2, h3, fun i a e => ?_⟩
  obtain ⟨dy, w, q1, q2⟩ := h4 i a e
  refine ⟨dy, w, q1, ?_⟩
  rw [upd_ne (fun z => ?_)]
  · exact q2
  · rw [z, ex] at q2
    have e4 := HO.ins.inj (Option.some.inj q2)
    rw [e4.2.2, shF_top'] at nf
    cases nf
section
variable {P : Program} {w : World} {K : PySem.W.Frag} {mg : Str → Option Value} {base : Heap} {C CC B : Addr}
abbrev s_CI : Stmt := inClass (top 31) 0
abbrev nCI : List Str := ["self", "rows", "labels", "row", "label"]
theorem sc_CI : FnScope nCI ["self", "rows", "labels"] (defScope s_CI) := ⟨rfl, rfl, rfl, by decide +kernel, rfl, by decide +kernel, by decide +kernel⟩
abbrev XCI (P : Program) (w : World) (K : PySem.W.Frag) (mg : Str → Option Value) (base : Heap) (f : Addr) (cdv : Value) (A : Around) (outer : List Env) (s : Shared) (H : Hp) (E : XK) : Cx :=
  (cxOf CX0 P w K mg base nCI "Chain.__init__" (defScope s_CI) f cdv A outer s H E).nox
/-- the fields -/
theorem segCI3 {f : Addr} {cdv : Value} {A : Around} {outer : List Env} {s : Shared} {H : Hp} {E : XK} {Q : VK} (T : Bm mg) (t : ChT K mg CC) (c_sh : Cal P w K mg base 7 "shares_of" ["row"] (spSharesOf C)) (hr : Room 7 (XCI P w K mg base f cdv A outer s H E).A) :
    ∃ u, PSs (XCI P w K mg base f cdv A outer s H E) ((defBody s_CI).drop 2) u ∧ ∀ (x dx T0 lb : Addr) (n : Nat) (rs : List (Addr × List Nat)) (G : Hp), G x = some (.ins CC dx []) → n ≤ 8 → G T0 = some (.tup (rfs rs)) → rs.length = n → (∀ r ∈ rs, RowIn C G n r) →
      (∀ (T2 : Addr) (rs2 : List (Addr × List Nat)) (H2 : Hp), Same G H2 → H2 T2 = some (.tup (rfs rs2)) → rs2.length = n → (∀ r ∈ rs2, RowSh C H2 n r) → rs2.map (·.2) = rs.map (·.2) → ExR G H2 rs rs2 → Q .non (upd H2 x (.ins CC dx (chF n T2 lb)))) →
      u { nx := fun _ H' => Q .non H', rt := Q } [some (.ref x), some (.ref T0), some (.ref lb), none, none] G := by
  refine ⟨_, (pss_cons (ps_fld (pv 0) (pe_callB call_len_seq (by rfl) T.b.n_len PySem.boot_len (pa_cons (pv 1) pa_nil)) rfl)
    (pss_cons (ps_fld (pv 0) (pe_callTy call_tuple_of (by rfl) T.n_tuple (by decide +kernel) (pa_cons (pe_lc (own := [("row", 3)]) rfl sc_CI.nd (pi_tup (pv 1)) (blkOk_by (N := nCI) (sc := defScope s_CI) (by decide +kernel)) (fun _ _ _ _ _ => (pg_name (i := 3) sc_CI.nd rfl (Or.inl rfl))) (fun _ _ _ _ _ => pts_nil) (fun _ _ _ _ _ => (pe_cal c_sh (hr.mono (by decide)) rfl (pa_cons (pv 3) pa_nil)))) pa_nil)) rfl)
    (pss_one (ps_fld (pv 0) (pv 2) rfl)))), ?_⟩
  intro x dx T0 lb n rs G ex n8 eT lr rw_ k
  refine ⟨_, rfl, T0, _, rfl, .inr (SqT.of eT), ?_⟩
  rw [rfs_len, lr]
  refine ⟨_, rfl, x, CC, dx, [], rfl, ex, t.it.cl, t.nS, by show 0 < 1000; decide, ?_⟩
  have eT1 : (upd G x (.ins CC dx (putF "size" (.int (n : Int)) []))) T0 = some (.tup (rfs rs)) := by rw [upd_ne (fun z => by rw [z, ex] at eT; cases eT)]; exact eT
  have rw1 : ∀ r ∈ rs, RowIn C (upd G x (.ins CC dx (putF "size" (.int (n : Int)) []))) n r := fun r m => (rw_ r m).upx ex rfl
  have ex1 : (upd G x (.ins CC dx (putF "size" (.int (n : Int)) []))) x = some (.ins CC dx (putF "size" (.int (n : Int)) [])) := upd_same
  refine ⟨_, rfl, T0, rfl, ⟨_, SqT.of eT1⟩, fun D nD => ?_⟩
  have nDG : G D = none := by
    by_cases e : D = x
    · rw [e, ex1] at nD; cases nD
    · rw [upd_ne e] at nD; exact nD
  have xD : x ≠ D := fun z => by rw [z, nDG] at ex; cases ex
  refine lc_tup (K := K) (a := T0) (xs := rfs rs) (fun i H' => Same (upd G x (.ins CC dx (putF "size" (.int (n : Int)) []))) H' ∧ ∃ r2 : List (Addr × List Nat), H' D = some (.lst (rfs r2)) ∧ r2.length = i ∧ (∀ r ∈ r2, RowSh C H' n r) ∧ r2.map (·.2) = (rs.take i).map (·.2) ∧ ExR G H' rs r2) ⟨Same.put nD, [], upd_same, rfl, fun _ m => (by cases m), rfl, fun j r q xs _ e => by simp at e⟩ (fun i H' _ h => SqT.of (h.1 _ _ eT1)) ?_ ?_
  · rintro i y H' hy ⟨s1, r2, eD, l2, h2, q2, ex2⟩
    obtain ⟨r, hr2, mr, rfl⟩ := rfs_at hy
    have il := (List.getElem?_eq_some_iff.mp hr2).1
    refine ⟨rfl, yes_of ?_⟩
    refine ⟨_, rfl, r.1, n, r.2, rfl, n8, (rw1 r mr).same s1, fun t2 H3 s3 sh exq => ?_⟩
    have up : ∀ (q : Addr × List Nat), RowSh C H3 n q → RowSh C (upd H3 D (.lst (rfs r2 ++ [V.ref t2]))) n q := by
      rintro q ⟨as, h1, h2', h3, h4⟩
      have e3 := s3 _ _ eD
      exact ⟨as, by rw [upd_ne (fun z => by rw [z, e3] at h1; cases h1)]; exact h1, h2', h3, fun j c hc => let ⟨dy, v, q1, q2⟩ := h4 j c hc; ⟨dy, v, q1, by rw [upd_ne (fun z => by rw [z, e3] at q2; cases q2)]; exact q2⟩⟩
    refine ⟨_, s3 _ _ eD, by rw [rfs_len]; exact small_len (by omega), Same.but (fun b u e => s3 _ _ (s1 _ _ e)) nD, r2 ++ [(t2, r.2)], by rw [upd_same, rfs_snoc], by rw [List.length_append, l2]; rfl, fun q m => ?_, ?_, fun j r' q xs hj hq hx hr => ?_⟩
    rotate_left 2
    · have qD : ∀ {c : Addr} {ys : List V}, H3 c = some (.tup ys) → c ≠ D := fun e z => by rw [z, s3 _ _ eD] at e; cases e
      rcases Nat.lt_or_ge j r2.length with h | h
      · rw [List.getElem?_append_left h] at hq
        have := s3 _ _ (ex2 j r' q xs hj hq hx hr)
        rw [upd_ne (qD this)]
        exact this
      · rw [List.getElem?_append_right h] at hq
        have hz : j - r2.length = 0 := by
          have := (List.getElem?_eq_some_iff.mp hq).1
          simpa using this
        rw [hz] at hq
        have eq : (t2, r.2) = q := by simpa using hq
        have ej : j = i := by omega
        subst ej
        rw [hr2] at hj
        cases Option.some.inj hj
        have hx' : H' r.1 = some (.tup xs) := s1 _ _ (by rw [upd_ne (fun z => by rw [z, ex] at hx; cases hx)]; exact hx)
        have := exq xs hx' hr
        rw [← eq, upd_ne (qD this)]
        exact this
    · rcases List.mem_append.mp m with m | m
      · exact up q ((h2 q m).same s3)
      · rw [List.mem_singleton.mp m]; exact up _ sh
    · rw [List.map_append, q2, take_more hr2, List.map_append]
      rfl
  · rintro H2 ⟨s2, r2, eD, l2, h2, q2, ex2⟩
    rw [rfs_len] at l2 q2
    rw [List.take_length] at q2
    refine ⟨D, _, rfl, .inl ⟨SqL.of eD, fun T2 nT2 => ?_⟩⟩
    have sT := Same.put (o := .tup (rfs r2)) nT2
    have eT2 : (upd H2 T2 (.tup (rfs r2))) T2 = some (.tup (rfs r2)) := upd_same
    have ex2' := sT _ _ (s2 _ _ ex1)
    have xT2 : T2 ≠ x := fun z => by rw [z, s2 _ _ ex1] at nT2; cases nT2
    refine ⟨_, rfl, x, CC, dx, _, rfl, ex2', t.it.cl, t.nR, by show 1 < 1000; decide, ?_⟩
    refine ⟨_, rfl, _, rfl, x, CC, dx, _, rfl, upd_same, t.it.cl, t.nL, by show 2 < 1000; decide, ?_⟩
    rw [upd_upd]
    -- the heap without the fields: as it stood before
    have sG : Same G (upd (upd H2 T2 (.tup (rfs r2))) x (.ins CC dx [])) := fun b u e => by
      by_cases q : b = x
      · subst q
        rw [upd_same]
        rw [ex] at e
        exact e
      · rw [upd_ne q]
        exact sT _ _ (s2 _ _ (by rw [upd_ne q]; exact e))
    have kk := k T2 r2 _ sG (by rw [upd_ne xT2]; exact eT2) (by omega) (fun r m => ((h2 r m).same sT).upx ex2' rfl) q2 (fun j r q xs hj hq hx hr => by
      have := sT _ _ (ex2 j r q xs hj hq hx hr)
      rw [upd_ne (fun z => by rw [z, ex2'] at this; cases this)]
      exact this)
    rw [upd_upd] at kk
    exact kk
/-- is_tuple_between(least, most, thing), of a tuple that is so -/
def spTupBet : Sp := fun vs H Q _ => ∃ (l m : Int) (t : Addr) (xs : List V), vs = [.int l, .int m, .ref t] ∧ H t = some (.tup xs) ∧ l ≤ (xs.length : Int) ∧ (xs.length : Int) ≤ m ∧ Q (.bl true) H
/-- is_name_row(many, thing), of a tuple of so many names -/
def spNameRow : Sp := fun vs H Q _ => ∃ (lb : Addr) (ls : List Str) (n : Nat), vs = [.int (n : Int), .ref lb] ∧ H lb = some (.tup (sV ls)) ∧ Lbs n ls ∧ ls.length ≤ 8 ∧ ∀ H', Same H H' → Q (.bl true) H'
abbrev s_tupBet : Stmt := top 15
theorem sc_tupBet : FnScope ["least", "most", "thing"] ["least", "most", "thing"] (defScope s_tupBet) := ⟨rfl, rfl, rfl, by decide +kernel, rfl, by decide +kernel, by decide +kernel⟩
theorem ok_tupBet {f : Addr} {fd : FuncData} (F : Fun K "is_tuple_between" "is_tuple_between" s_tupBet f fd) (T : Bm mg) : FnOk P w K mg base CX0 1 f fd ["least", "most", "thing"] spTupBet := by
  refine F.ok sc_tupBet (fun vs H Q E h => ?_) (fun cdv A outer s H vs Q E hr h => ?_)
  · obtain ⟨l, m, t, xs, rfl, _⟩ := h
    rfl
  · obtain ⟨l, m, t, xs, rfl, e, h1, h2, k⟩ := h
    refine ⟨_, (pss_one (ps_ret (pe_and (pe_callB call_isi (by rfl) T.b.n_isinstance (by decide +kernel) (pa_cons (pv 2) (pa_cons (pe_bltn (v := .ty "tuple") rfl T.n_tuple (by decide +kernel) rfl) pa_nil))) (pe_one (pe_chain op_le op_le (pv 0) (pe_callB call_len_seq (by rfl) T.b.n_len PySem.boot_len (pa_cons (pv 2) pa_nil)) (pv 1)))))), ?_⟩
    refine ⟨_, rfl, .ref t, .ty "tuple", _, _, true, rfl, .ty _, .base (.tup e), kit_ty (r := true) (by decide +kernel), _, rfl, iteT ?_⟩
    refine ⟨_, rfl, _, rfl, t, xs, rfl, .inr (SqT.of e), l, _, rfl, rfl, ?_⟩
    refine ⟨true, congrArg V.bl (decide_eq_true h1), iteT ⟨_, rfl, (xs.length : Int), m, rfl, rfl, ?_⟩⟩
    show Q (.bl (decide ((xs.length : Int) ≤ m))) H
    rw [decide_eq_true h2]
    exact k
abbrev s_nameRow : Stmt := top 16
theorem sc_nameRow : FnScope ["many", "thing", "part"] ["many", "thing"] (defScope s_nameRow) := ⟨rfl, rfl, rfl, by decide +kernel, rfl, by decide +kernel, by decide +kernel⟩
theorem ok_nameRow {f : Addr} {fd : FuncData} (F : Fun K "is_name_row" "is_name_row" s_nameRow f fd) (T : Bm mg) (c_tup : Cal P w K mg base 1 "is_tuple_of" ["many", "thing"] (spTupOf K C)) (c_name : Cal P w K mg base 1 "is_name" ["thing"] spIsName) : FnOk P w K mg base CX0 2 f fd ["many", "thing"] spNameRow := by
  refine F.ok sc_nameRow (fun vs H Q E h => ?_) (fun cdv A outer s H vs Q E hr h => ?_)
  · obtain ⟨lb, ls, n, rfl, _⟩ := h
    rfl
  · obtain ⟨lb, ls, n, rfl, el1, ⟨ll, nl⟩, l8, k⟩ := h
    refine ⟨_, (pss_one (ps_ret (pe_and (pe_cal c_tup (hr.mono (by decide)) rfl (pa_cons (pv 0) (pa_cons (pv 1) pa_nil))) (pe_one (pe_callB (cr_all rfl) (by rfl) T.n_all PyProof.Rows.boot_all (pa_cons (pe_lc (own := [("part", 2)]) rfl sc_nameRow.nd (pi_tup (pv 1)) (blkOk_by (N := ["many", "thing", "part"]) (sc := defScope s_nameRow) (by decide +kernel)) (fun _ _ _ _ _ => (pg_name (i := 2) sc_nameRow.nd rfl (Or.inl rfl))) (fun _ _ _ _ _ => pts_nil) (fun _ _ _ _ _ => (pe_cal c_name (hr.mono (by decide)) rfl (pa_cons (pv 2) pa_nil)))) pa_nil)))))), ?_⟩
    refine ⟨_, rfl, _, rfl, _, .ref lb, rfl, .inl ⟨lb, _, rfl, el1, true, congrArg V.bl (decide_eq_true (by rw [sV_len, ll])), iteT ?_⟩⟩
    refine ⟨_, rfl, lb, rfl, ⟨_, SqT.of el1⟩, fun G nG => ?_⟩
    refine lc_tup (K := K) (a := lb) (xs := sV ls) (fun i H' => Same H H' ∧ H' G = some (.lst ((List.replicate i true).map V.bl))) ⟨Same.put nG, upd_same⟩ (fun i H' _ h => SqT.of (h.1 _ _ el1)) ?_ ?_
    · rintro i y H' hy ⟨s2, eG⟩
      obtain ⟨z, hz, rfl⟩ : ∃ z, ls[i]? = some z ∧ y = .str z := by
        rw [sV, List.getElem?_map] at hy
        cases e : ls[i]? with
        | none => rw [e] at hy; cases hy
        | some z => rw [e] at hy; exact ⟨z, rfl, (Option.some.inj hy).symm⟩
      have il := (List.getElem?_eq_some_iff.mp hz).1
      refine ⟨rfl, yes_of ?_⟩
      refine ⟨_, rfl, z, rfl, nl z (List.mem_of_getElem? hz), fun H3 s3 => ?_⟩
      refine ⟨_, s3 _ _ eG, by rw [List.length_map, List.length_replicate]; exact small_len (by omega), Same.but (fun b u e => s3 _ _ (s2 _ _ e)) nG, ?_⟩
      rw [upd_same, refs_rep]
    rintro H2 ⟨s2, eG⟩
    refine ⟨G, _, rfl, SqL.of eG, ?_⟩
    rw [all_true]
    exact k H2 s2
theorem ok_CI {f : Addr} {fd : FuncData} (F : Fun K "__init__" "Chain.__init__" s_CI f fd) (T : Bm mg) (t : ChT K mg CC) (c_spread : Cal P w K mg base 11 "is_spread" ["many", "thing"] (spSpread K C)) (c_bet : Cal P w K mg base 1 "is_tuple_between" ["least", "most", "thing"] spTupBet) (c_nr : Cal P w K mg base 2 "is_name_row" ["many", "thing"] spNameRow) (c_sh : Cal P w K mg base 7 "shares_of" ["row"] (spSharesOf C)) : FnOk P w K mg base CX0 12 f fd ["self", "rows", "labels"] (spCI C CC) := by
  obtain ⟨tM, gM⟩ := t.gM
  refine F.ok sc_CI (fun vs H Q E h => ?_) (fun cdv A outer s H vs Q E hr h => ?_)
  · obtain ⟨x, dx, T0, lb, n, rs, ls, rfl, _⟩ := h
    rfl
  · obtain ⟨x, dx, T0, lb, n, rs, ls, rfl, ex, n1, n8, eT, lr, rw_, el, ⟨ll, nl⟩, k⟩ := h
    obtain ⟨u, hu, qu⟩ := segCI3 (P := P) (w := w) (K := K) (mg := mg) (base := base) (C := C) (f := f) (cdv := cdv) (A := A) (outer := outer) (s := s) (H := H) (E := E) (Q := Q) T t c_sh (hr.mono (by decide))
    refine ⟨_, (pss_cons (ps_if (PW.pt (pw_or (pt_not (pt_val (pe_cal c_bet (hr.mono (by decide)) rfl (pa_cons pe_int (pa_cons (pe_glob (v := .int 8) rfl gM ⟨_, rfl⟩) (pa_cons (pv 1) pa_nil)))))) (pw_or1 (pt_not (pt_val (pe_callB (cr_all rfl) (by rfl) T.n_all PyProof.Rows.boot_all (pa_cons (pe_lc (own := [("row", 3)]) rfl sc_CI.nd (pi_tup (pv 1)) (blkOk_by (N := nCI) (sc := defScope s_CI) (by decide +kernel)) (fun _ _ _ _ _ => (pg_name (i := 3) sc_CI.nd rfl (Or.inl rfl))) (fun _ _ _ _ _ => pts_nil) (fun _ _ _ _ _ => (pe_cal c_spread (hr.mono (by decide)) rfl (pa_cons (pe_callB (show CallR _ _ (fun xs H Q => ∃ p ys, xs = [.ref p] ∧ (SqL K H p ys ∨ SqT K H p ys) ∧ Q (.int ys.length) H) from call_len_seq) (by rfl) T.b.n_len PySem.boot_len (pa_cons (pv 1) pa_nil)) (pa_cons (pv 3) pa_nil))))) pa_nil)))))))
        pss_never
        pss_nil)
      (pss_cons (ps_if (pt_not (pt_val (pe_cal c_nr (hr.mono (by decide)) rfl (pa_cons (pe_callB call_len_seq (by rfl) T.b.n_len PySem.boot_len (pa_cons (pv 1) pa_nil)) (pa_cons (pv 2) pa_nil)))))
        pss_never
        pss_nil) hu)), ?_⟩
    refine ⟨_, rfl, 1, 8, T0, _, rfl, eT, by rw [rfs_len]; omega, by rw [rfs_len]; omega, true, rfl, iteF ?_⟩
    -- the rows are spreads
    refine ⟨_, rfl, T0, rfl, ⟨_, SqT.of eT⟩, fun D nD => ?_⟩
    refine lc_tup (K := K) (a := T0) (xs := rfs rs) (fun i H' => Same H H' ∧ H' D = some (.lst ((List.replicate i true).map V.bl))) ⟨Same.put nD, upd_same⟩ (fun i H' _ h => SqT.of (h.1 _ _ eT)) ?_ ?_
    · rintro i y H' hy ⟨s1, eD⟩
      obtain ⟨r, hr2, mr, rfl⟩ := rfs_at hy
      have il := (List.getElem?_eq_some_iff.mp hr2).1
      obtain ⟨xs, h1, h2, h3⟩ := (rw_ r mr).same s1
      obtain ⟨b1, b2, b3⟩ := tps_low h3 n8
      refine ⟨rfl, yes_of ?_⟩
      refine ⟨_, rfl, T0, _, rfl, .inr (SqT.of (s1 _ _ eT)), _, rfl, _, .ref r.1, rfl, .inl ⟨r.1, xs, _, (r.2.sum : Int), rfl, h1, items_of h2 h3, b1, b2, by rw [List.length_map]; have := h3.1; omega, fun H3 s3 => ?_⟩⟩
      have e : (decide (V.int (xs.length : Int) = V.int ((rfs rs).length : Int)) && sprB (r.2.sum : Int) (r.2.map fun k : Nat => some (k : Int))) = true := by
        rw [spr_ok, Bool.and_true]
        refine decide_eq_true ?_
        rw [rfs_len, h2.1, List.length_map, h3.1, lr]
      rw [e]
      refine ⟨_, s3 _ _ eD, by rw [List.length_map, List.length_replicate]; exact small_len (by omega), Same.but (fun b u e => s3 _ _ (s1 _ _ e)) nD, ?_⟩
      rw [upd_same, refs_rep]
    rintro H1 ⟨s1, eD⟩
    refine ⟨D, _, rfl, SqL.of eD, true, congrArg V.bl (all_true _), iteF ?_⟩
    -- the labels are names
    have el1 := s1 _ _ el
    refine ⟨_, rfl, T0, _, rfl, .inr (SqT.of (s1 _ _ eT)), _, rfl, lb, ls, n, by rw [rfs_len, lr]; rfl, el1, ⟨ll, nl⟩, by omega, fun H2 s2 => ⟨true, rfl, iteF ?_⟩⟩
    have s12 := s1.trans s2
    exact qu x dx T0 lb n rs H2 (s12 _ _ ex) n8 (s12 _ _ eT) lr (fun r m => (rw_ r m).same s12) fun T2 rs2 H3 s3 e2 l2 h2 q2 xr => k T2 rs2 H3 (s12.trans s3) e2 l2 h2 q2 (fun j r q xs hj hq hx hr => xr j r q xs hj hq (s12 _ _ hx) hr)
end
end K8

set_option Elab.async false
set_option linter.all false
set_option maxRecDepth 100000
set_option maxHeartbeats 4000000
/-! enumerate(t), t a tuple -/
namespace PySem
open AutoSeq1 (wpAny_loadPart')
theorem meets_enumerate_newT (l : Addr) (items : Array Value) (n : Nat) (dct : Option Addr) (sl : Array (Option Value)) :
    Meets (Builtin.«enumerate.__new__» ⟨[.type "enumerate", .ref l], []⟩) (fun _ R s => s.heap.get? l = some { cls := .type "tuple", dict := dct, data := .seq items n, slots := sl } ∧
      R (.ok (.ret (.ref (s.heap.push { cls := .type "tuple_iterator", data := .fields #[.ref l, .int 0 0] }).objs.size)))
        { s with heap := (s.heap.push { cls := .type "tuple_iterator", data := .fields #[.ref l, .int 0 0] }).push { cls := .type "enumerate", data := .fields #[.none, .bool false, .ref s.heap.objs.size, rawInt 0, .none, .none] } }) :=
  .of_wp fun prog w A R s h => by
    obtain ⟨hp, g, d, tk, os⟩ := s; obtain ⟨hl, h⟩ := h
    have hsub := sub_enumerate
    have hL : Heap.IsTuple (Shared.heap ⟨hp, g, d, tk, os⟩) l items := ⟨_, hl, rfl, n, rfl⟩
    wp_walk using wpAny_loadPart' hl
    refine wpAny_stack_any fun st => wpAny_pure ?_
    split
    · rename_i c _ _ _ _ _
      cases (c == Value.type "enumerate")
      · wp_walk using wpAny_loadPart' hl, wpAny_pyIter_tuple hL
        exact ⟨_, rfl, h⟩
      · wp_walk using wpAny_loadPart' hl, wpAny_pyIter_tuple hL
        exact ⟨_, rfl, h⟩
    · wp_walk using wpAny_loadPart' hl, wpAny_pyIter_tuple hL
      exact ⟨_, rfl, h⟩
section
variable {prog : Program} {w : World} {A : Around} {E : Value → Shared → Prop} {s : Shared}
theorem call_enumerate_tuple {l : Addr} {items : Array Value} {Q : Value → Shared → Prop} (hL : s.heap.IsTuple l items)
    (h : ∀ h', IsEnum h' (s.heap.objs.size + 1) s.heap.objs.size 0 .none → h'.IsTupleIter s.heap.objs.size l 0 → h'.objs.size = s.heap.objs.size + 2 →
      (∀ b o, s.heap.get? b = some o → h'.get? b = some o) → Q (.ref (s.heap.objs.size + 1)) { s with heap := h' }) :
    wpAny (model prog w) A (call (.type "enumerate") [.ref l]) Q E s := by
  obtain ⟨⟨c, dct, dt, sl⟩, hl, hc, n, hd⟩ := hL
  replace hc : c = .type "tuple" := hc
  replace hd : dt = .seq items n := hd
  subst hc hd
  refine callType_new F.called_enumerate (by decide) (F.typeCall_enumerate_1 _) (F.newCall_enumerate_1 _) (fun obj => F.args_object_init_2 obj _) F.entry_enumerate_new
    (meets_enumerate_newT l items n dct sl) ⟨hl, ?_⟩
  have hz : (s.heap.push { cls := .type "tuple_iterator", data := .fields #[.ref l, .int 0 0] }).objs.size = s.heap.objs.size + 1 := Heap.size_push ..
  show _ ∧ _
  rw [hz]
  have he : IsEnum ((s.heap.push { cls := .type "tuple_iterator", data := .fields #[.ref l, .int 0 0] }).push
      { cls := .type "enumerate", data := .fields #[.none, .bool false, .ref s.heap.objs.size, rawInt 0, .none, .none] }) (s.heap.objs.size + 1) s.heap.objs.size 0 .none := by
    have := Heap.get?_push_size (s.heap.push { cls := .type "tuple_iterator", data := .fields #[.ref l, .int 0 0] })
      (o := { cls := .type "enumerate", data := .fields #[.none, .bool false, .ref s.heap.objs.size, rawInt 0, .none, .none] }) rfl
    rw [hz] at this; exact this
  refine ⟨⟨_, he, rfl⟩, h _ he ⟨_, Heap.get?_push_of_some _ (Heap.get?_push_size _ rfl), rfl, rfl⟩ (by rw [Heap.size_push, hz]) fun b o x => Heap.get?_push_of_some _ (Heap.get?_push_of_some _ x)⟩
end
end PySem
namespace L2
open PySem PySem.Spec PyProof.Rows
/-- the tuple at a, each item in a new pair -/
def IteT (K : PySem.W.Frag) (a : Addr) : It :=
  ⟨fun i H => ∃ (xs : List V) (x : V), SqT K H a xs ∧ xs[i]? = some x, fun i H v H' => ∃ T x, v = .ref T ∧ H T = none ∧ H' = upd H T (.tup [.int (i : Nat), x]) ∧ ∀ xs, SqT K H a xs → xs[i]? = some x, fun i H => ∃ xs : List V, SqT K H a xs ∧ xs.length ≤ i⟩
theorem turn_enumT {P : Program} {w : World} {K : PySem.W.Frag} {elts : List Expr} {kk : Nat} {tpos : Pos} (a e it : Addr) :
    Turn P w K (.Tuple elts kk tpos) (IteT K a) [e, it] e (fun i h => (∃ old, IsEnum h e it ((i : Nat) : Int) old) ∧ h.IsTupleIter it a i ∧ e ≠ it) where
  mem := by simp
  obj := fun i h st b hb => by
    obtain ⟨⟨old, he⟩, ⟨o, ho, hc, hd⟩, _⟩ := st
    have e' : b = e ∨ b = it := by simpa using hb
    rcases e' with z | z
    · rw [z]; exact ⟨_, he, fun v q => nomatch q⟩
    · rw [z]; exact ⟨o, ho, fun v q => by rw [hd] at q; cases q⟩
  keep := fun i h h' st k => let ⟨⟨old, he⟩, hi, hne⟩ := st; ⟨⟨old, k e (by simp) _ he⟩, hi.at fun o q => k it (by simp) o q, hne⟩
  item := by
    intro X hP hw hK hc i pins s σ H E I hf st hg
    subst hP hw hK
    obtain ⟨⟨old, he⟩, hit, hne⟩ := st
    obtain ⟨xs, x, hq, hx⟩ := hg
    obtain ⟨its, rv, p, hz⟩ := I.tuple hq
    obtain ⟨u, hu, ru⟩ := rv.get hx
    have hel : e < s.heap.objs.size := Heap.lt_size he
    have hil : it < s.heap.objs.size := by obtain ⟨_, q, _⟩ := hit; exact Heap.lt_size q
    have p : s.heap.IsTuple a its.toArray := p
    have hil2 : i < its.toArray.size := by
      have := (List.getElem?_eq_some_iff.mp hu).1
      simpa using this
    have hai : a ≠ it := fun z => by
      obtain ⟨o, e1, c1, _⟩ := p
      obtain ⟨o2, e2, c2, _⟩ := hit
      rw [z, e2] at e1
      cases e1
      rw [c2] at c1
      exact absurd (Value.type.inj c1) (by decide)
    have hae : e ≠ a := fun z => by
      obtain ⟨o, e1, c1, _⟩ := p
      rw [← z] at e1
      have e2 : s.heap.get? e = _ := he
      rw [e2] at e1
      cases e1
      exact absurd (Value.type.inj c1) (by decide)
    refine wpAny_pyNext_enum_itemD (PySem.Draws.tuple (A := X.A.in1) (by exact I.ok.hd hc) it a hai its.toArray) he ⟨hit, p⟩ hil2 hne (by simp [hne, hae]) fun x2 h' tk hx2 ho st' hT hsz hk => ?_
    have ex2 : x2 = u := by
      have h1 : its[i]? = some x2 := by simpa using hx2
      rw [hu] at h1
      exact (Option.some.inj h1).symm
    subst ex2
    obtain ⟨hit', _⟩ := st'
    refine ⟨_, rfl, wpAny_letOwnedTupleGo_enum (s := { s with heap := h', toks := tk + 1 }) ho fun h'' he' sb => ?_⟩
    have hT2 : h''.get? s.heap.objs.size = some { cls := .type "tuple", data := .seq #[.int i tk, x2] } := (sb.2 _ (Nat.ne_of_gt hel)).trans hT
    have new : ObjOk X.prog X.w (upd H s.heap.objs.size (.tup [.int (i : Nat), x])) h'' s.heap.objs.size (.tup [.int (i : Nat), x]) :=
      ⟨by show 2 ≤ sizeLine; decide, [.int i tk, x2], .cons ⟨_, rfl⟩ (.cons ru .nil), ⟨_, hT2, rfl, _, rfl⟩⟩
    have I1 : Inv X pins σ (upd H s.heap.objs.size (.tup [.int (i : Nat), x])) { s with heap := h'', toks := tk + 1 } :=
      I.turnedNew (ch := [e, it]) (fun b ob hb q => (sb.2 b (fun z => hb (by simp [z]))).trans (hk b ob (fun z => hb (by simp [z])) (fun z => hb (by simp [z])) q)) hf (Nat.le_refl _) new
    refine ⟨.ref s.heap.objs.size, _, I1, rfl, ⟨_, x, rfl, I.hok.fresh (Nat.le_refl _), rfl, fun ys hy => by rw [I.tuple_inj hy hq]; exact hx⟩, ⟨⟨x2, ?_⟩, hit'.at fun o q => (sb.2 it (Ne.symm hne)).trans q, hne⟩, fun b hb => ?_⟩
    · have e1 : ((i + 1 : Nat) : Int) = (i : Int) + 1 := by omega
      rw [e1]; exact he'
    · have hb' : b < s.heap.objs.size := by
        have e' : b = e ∨ b = it := by simpa using hb
        rcases e' with z | z
        · rw [z]; exact hel
        · rw [z]; exact hil
      rw [upd_ne (Nat.ne_of_lt hb')]
      exact (hf b hb).1
  done := by
    intro X hP hw hK hc i pins s σ H E I hf st hg
    subst hP hw hK
    obtain ⟨⟨old, he⟩, hit, hne⟩ := st
    obtain ⟨xs, hq, hx⟩ := hg
    obtain ⟨its, rv, p, hz⟩ := I.tuple hq
    obtain ⟨f0, f1, f2, f3, f4, f5⟩ := hf it (by simp)
    have hl := rv.length
    have p : s.heap.IsTuple a its.toArray := p
    have hh : X.A.in1.handled = none := by exact I.ok.hd hc
    have hT : s.TypeIs (.ref e) "enumerate" := ⟨_, he, rfl⟩
    unfold pyNext
    refine wpAny_bind (wpAny_attempt (wpAny_callSpecial?_slot (name := Str.ofString "__next__") hT F.slot_enumerate_next
      (wpAny_call_entry F.slot_enumerate_next hT F.entry_enumerate_next ?_ (F.args_enumerate_next_1 _))))
    show wpAny _ _ (field (.ref e) 2 >>= _) _ _ _
    refine wpAny_bind (wpAny_field he rfl (x := .ref it) rfl ?_)
    refine wpAny_bind (wpAny_nextOf_tuple_end hh hit p (by simp; omega) fun h' x he' hx' => ?_)
    obtain ⟨o, ho, hc'⟩ := hx'
    refine wpAny_bind (wpAny_isInstance (T := "StopIteration") (b := true) ⟨o, ho, hc'⟩ isSubtype_stop ?_)
    exact wpAny_pure ⟨rfl, I.turned (t' := s.toks) (fun b o hb q => he' b o hb q) f0 f1 f3 f4 f5⟩
  self := fun A i s Q E st h => let ⟨⟨_, he⟩, _⟩ := st; wpAny_pyIter_enum he h
def iEnumT (K : PySem.W.Frag) (ta : TA) : TI := fun σ H R => ta σ H fun vs H1 => ∃ a xs, vs = [.ref a] ∧ SqT K H1 a xs ∧ R (IteT K a) H1
theorem pi_enumT {X : Cx} {e : Expr} {ta : TA} {p pos tpos : Pos} {elts : List Expr} {kk : Nat} (hg : Gl X "enumerate") (hm : X.mg "enumerate" = none) (ha : PA X [e] ta) (hs : starEach [e] X.env = [(false, eval e X.env)] := by rfl) :
    PI X (.Tuple elts kk tpos) (.Call (.Name "enumerate" p) [e] [] pos) (iEnumT X.K ta) := by
  refine ⟨fun pins s σ H R I h => ?_⟩
  refine Call_ (ld_blt I hg hm boot_enumerate (PyProof.Rows.callWith_type1 (thn (ha.run pos pins s σ H _ I h) fun us s1 ⟨vs, H1, I1, r1, q1⟩ => ?_) hs rfl))
  obtain ⟨a, xs, ex, hq, q⟩ := q1
  subst ex
  cases r1 with
  | cons r rr =>
    cases rr
    cases r
    obtain ⟨its, rv, p', hz⟩ := I1.tuple hq
    refine call_enumerate_tuple p' fun h' he hit hsz hk => wpAny_pyIter_enum he ?_
    have I2 : Inv X pins σ H1 { s1 with heap := h' } := I1.kept (t' := s1.toks) hk
    refine ⟨s1.heap.objs.size + 1, [s1.heap.objs.size + 1, s1.heap.objs.size], _, _, H1, rfl, I2, turn_enumT a (s1.heap.objs.size + 1) s1.heap.objs.size, ⟨⟨.none, he⟩, hit, Nat.succ_ne_self _⟩, fun b hb => ?_, q⟩
    have e' : b = s1.heap.objs.size + 1 ∨ b = s1.heap.objs.size := by simpa using hb
    have hle : s1.heap.objs.size ≤ b := by
      rcases e' with z | z
      · rw [z]; exact Nat.le_add_right _ _
      · rw [z]; exact Nat.le_refl _
    exact I1.fpOk hle (I1.hok.fresh hle)
/-- a dict comprehension over it; T is the pair, taken apart by the target -/
theorem dc_enumT {K : PySem.W.Frag} {a : Addr} {xs : List V} {g : TG} {tt : TT} {tk tv : TE} {vs : List Nat} {σ : St} {H1 : Hp} {D : Addr} {Qd : Hp → Prop} (Pv : Nat → Hp → Prop) (h0 : Pv 0 (upd H1 D (.dK []))) (hl : ∀ i H, i ≤ xs.length → Pv i H → SqT K H a xs)
    (hs : ∀ i x H T, xs[i]? = some x → Pv i H → H T = none → g (.ref T) (wipe σ vs) (upd H T (.tup [.int (i : Nat), x])) fun σ2 H2 => wipe σ2 vs = wipe σ vs ∧ tt σ2 H2 fun b H3 =>
      if b = true then tk σ2 H3 fun y H4 => tv σ2 H4 fun z H5 => ∃ kvs k, y = kV k ∧ H5 D = some (.dK kvs) ∧ kvs.length < sizeLine ∧ Pv (i + 1) (upd H5 D (.dK (putK kvs k z))) else Pv (i + 1) H3) (hd : ∀ H, Pv xs.length H → Qd H) :
    ∃ W : Nat → Nat → Hp → Prop, (∃ m, W 0 m (upd H1 D (.dK []))) ∧ ∀ i m H, W i m H →
      ((IteT K a).stop i H ∧ Qd H) ∨ ((IteT K a).go i H ∧ ∃ Nx : Hp → Prop, (∀ H', Nx H' → ∃ m', m' < m ∧ W (i + 1) m' H') ∧ ∀ x H', (IteT K a).yld i H x H' → g x (wipe σ vs) H' fun σ2 H2 => wipe σ2 vs = wipe σ vs ∧ tt σ2 H2 fun b H3 =>
        if b = true then tk σ2 H3 fun y H4 => tv σ2 H4 fun z H5 => ∃ kvs k, y = kV k ∧ H5 D = some (.dK kvs) ∧ kvs.length < sizeLine ∧ Nx (upd H5 D (.dK (putK kvs k z))) else Nx H3) := by
  refine ⟨fun i m H => m = xs.length - i ∧ i ≤ xs.length ∧ Pv i H, ⟨xs.length, by simp, Nat.zero_le _, h0⟩, ?_⟩
  rintro i m H ⟨rfl, hi, p⟩
  have q := hl i H hi p
  by_cases hlt : i < xs.length
  · refine .inr ⟨⟨xs, xs[i], q, by simp [hlt]⟩, Pv (i + 1), fun H' p' => ⟨xs.length - (i + 1), by omega, rfl, hlt, p'⟩, fun x H' y => ?_⟩
    obtain ⟨T, x', rfl, nT, rfl, hx⟩ := y
    exact hs i x' _ T (hx xs q) p nT
  · have e : i = xs.length := by omega
    subst e
    exact .inl ⟨⟨xs, q, Nat.le_refl _⟩, hd H p⟩
end L2

set_option Elab.async false
set_option linter.all false
set_option maxRecDepth 100000
set_option maxHeartbeats 4000000
namespace L2
open PySem PySem.Spec PyProof.Rows
/-- a dict comprehension over a walk -/
theorem dc_it {J : It} {n : Nat} {G : Hp → Prop} {Y : Nat → Hp → V → Hp → Prop} (w : Walk J n G Y) {g : TG} {tt : TT} {tk tv : TE} {vs : List Nat} {σ : St} {H1 : Hp} {D : Addr} {Qd : Hp → Prop} (Pv : Nat → Hp → Prop) (h0 : Pv 0 (upd H1 D (.dK []))) (hG : ∀ i H, i ≤ n → Pv i H → G H)
    (hs : ∀ i x H H', i < n → Pv i H → Y i H x H' → g x (wipe σ vs) H' fun σ2 H2 => wipe σ2 vs = wipe σ vs ∧ tt σ2 H2 fun b H3 =>
      if b = true then tk σ2 H3 fun y H4 => tv σ2 H4 fun z H5 => ∃ kvs k, y = kV k ∧ H5 D = some (.dK kvs) ∧ kvs.length < sizeLine ∧ Pv (i + 1) (upd H5 D (.dK (putK kvs k z))) else Pv (i + 1) H3) (hd : ∀ H, Pv n H → Qd H) :
    ∃ W : Nat → Nat → Hp → Prop, (∃ m, W 0 m (upd H1 D (.dK []))) ∧ ∀ i m H, W i m H →
      (J.stop i H ∧ Qd H) ∨ (J.go i H ∧ ∃ Nx : Hp → Prop, (∀ H', Nx H' → ∃ m', m' < m ∧ W (i + 1) m' H') ∧ ∀ x H', J.yld i H x H' → g x (wipe σ vs) H' fun σ2 H2 => wipe σ2 vs = wipe σ vs ∧ tt σ2 H2 fun b H3 =>
        if b = true then tk σ2 H3 fun y H4 => tv σ2 H4 fun z H5 => ∃ kvs k, y = kV k ∧ H5 D = some (.dK kvs) ∧ kvs.length < sizeLine ∧ Nx (upd H5 D (.dK (putK kvs k z))) else Nx H3) := by
  refine ⟨fun i m H => m = n - i ∧ i ≤ n ∧ Pv i H, ⟨n, by simp, Nat.zero_le _, h0⟩, ?_⟩
  rintro i m H ⟨rfl, hi, p⟩
  have q := hG i H hi p
  by_cases hlt : i < n
  · exact .inr ⟨w.goes i H hlt q, Pv (i + 1), fun H' p' => ⟨n - (i + 1), by omega, rfl, hlt, p'⟩, fun x H' y => hs i x H H' hlt p (w.yields i H x H' hlt q y)⟩
  · have e : i = n := by omega
    subst e
    exact .inl ⟨w.stops H q, hd H p⟩
end L2
namespace K8
open PySem L2
/-- Chain(rows, labels) -/
structure MkC (P : Program) (w : World) (K : PySem.W.Frag) (mg : Str → Option Value) (base : Heap) (C CC : Addr) : Prop where
  ex : ∃ (f : Addr) (fd : FuncData), Mk K CC f ∧ FnOk P w K mg base CX0 12 f fd ["self", "rows", "labels"] (spCI C CC) ∧ Binds K fd ["self", "rows", "labels"] []
  gC : mg "Chain" = some (.ref CC)
section
variable {X : Cx} {C CC : Addr} {p pos : Pos} {e : Expr} {es : List Expr} {t : TA}
theorem pe_chn (m : MkC X.prog X.w X.K X.mg X.base C CC) (hr : Room 13 X.A) (hg : Gl X "Chain") (ha : PA X (e :: es) t)
    (he : starEach (e :: es) X.env = (false, eval e X.env) :: starEach es X.env := by rfl) (hpl : (backTo pos (starEach es X.env)).any (·.1) = false := by rfl) :
    PE X (.Call (.Name "Chain" p) (e :: es) [] pos) (tMake CC (spCI C CC) [] E0 t) := by
  obtain ⟨f, fd, M, F, b0⟩ := m.ex
  exact pe_make M F hr hg m.gC b0 .nil pass0 ha (by decide) he hpl
end
/-- a chain is made -/
theorem chn_go {C CC : Addr} {n : Nat} {T lb : Addr} {rs : List (Addr × List Nat)} {ls : List Str} {H : Hp} {Qv : VK} {E : XK} {x dx : Addr} (hx : H x = none) (hd : H dx = none) (ne : dx ≠ x) (n1 : 1 ≤ n) (n8 : n ≤ 8) (eT : H T = some (.tup (rfs rs))) (lr : rs.length = n) (rw_ : ∀ r ∈ rs, RowIn C H n r) (el : H lb = some (.tup (sV ls))) (hl : Lbs n ls)
    (k : ∀ (H' : Hp), Same H H' → IsCh C CC H' x n (rs.map (·.2)) ls → Qv .non H') : spCI C CC [.ref x, .ref T, .ref lb] (upd (upd H dx (.own x)) x (.ins CC dx [])) Qv E := by
  have s1 : Same H (upd (upd H dx (.own x)) x (.ins CC dx [])) := (Same.put hd).trans (Same.put (by rw [upd_ne ne.symm]; exact hx))
  refine ⟨x, dx, T, lb, n, rs, ls, rfl, upd_same, n1, n8, s1 _ _ eT, lr, fun r m => (rw_ r m).same s1, s1 _ _ el, hl, fun T2 rs2 H2 s2 e2 l2 h2 q2 _ => ?_⟩
  have ex := s2 _ _ (show (upd (upd H dx (.own x)) x (.ins CC dx [])) x = some (.ins CC dx []) from upd_same)
  refine k _ (fun b u e => ?_) ⟨dx, T2, lb, rs2, upd_same, ?_, l2, fun r m => (h2 r m).upx ex rfl, q2, ?_, hl⟩
  · rw [upd_ne (ne_of_none e hx)]
    exact s2 _ _ (s1 _ _ e)
  · rw [upd_ne (fun z => by rw [z, ex] at e2; cases e2)]
    exact e2
  · have := s2 _ _ (s1 _ _ el)
    rw [upd_ne (fun z => by rw [z, ex] at this; cases this)]
    exact this
/-- the chain at o is made of the rows T and the labels lb, of the very same shares -/
def Made (CC : Addr) (H : Hp) (o T lb : Addr) : Prop := ∃ (dx T2 : Addr) (n : Nat) (rs rs2 : List (Addr × List Nat)), H o = some (.ins CC dx (chF n T2 lb)) ∧ H T = some (.tup (rfs rs)) ∧ H T2 = some (.tup (rfs rs2)) ∧ rs2.length = rs.length ∧
  (∀ (i : Nat) (r r2 : Addr × List Nat), rs[i]? = some r → rs2[i]? = some r2 → ∃ xs, H r.1 = some (.tup xs) ∧ H r2.1 = some (.tup xs) ∧ ∀ v ∈ xs, ∃ a, v = .ref a) ∧ ∃ ls : List Str, H lb = some (.tup (sV ls))
theorem Made.same {CC : Addr} {H H' : Hp} {o T lb : Addr} (h : Made CC H o T lb) (s : Same H H') : Made CC H' o T lb := by
  obtain ⟨dx, T2, n, rs, rs2, h1, h2, h3, h4, h5, ls, h6⟩ := h
  exact ⟨dx, T2, n, rs, rs2, s _ _ h1, s _ _ h2, s _ _ h3, h4, fun i r r2 e e2 => let ⟨xs, q1, q2, q3⟩ := h5 i r r2 e e2; ⟨xs, s _ _ q1, s _ _ q2, q3⟩, ls, s _ _ h6⟩
theorem chn_goX {C CC : Addr} {n : Nat} {T lb : Addr} {rs : List (Addr × List Nat)} {ls : List Str} {H : Hp} {Qv : VK} {E : XK} {x dx : Addr} (hx : H x = none) (hd : H dx = none) (ne : dx ≠ x) (n1 : 1 ≤ n) (n8 : n ≤ 8) (eT : H T = some (.tup (rfs rs))) (lr : rs.length = n) (rw_ : ∀ r ∈ rs, RowSh C H n r) (el : H lb = some (.tup (sV ls))) (hl : Lbs n ls)
    (k : ∀ (H' : Hp), Same H H' → IsCh C CC H' x n (rs.map (·.2)) ls → Made CC H' x T lb → Qv .non H') : spCI C CC [.ref x, .ref T, .ref lb] (upd (upd H dx (.own x)) x (.ins CC dx [])) Qv E := by
  have s1 : Same H (upd (upd H dx (.own x)) x (.ins CC dx [])) := (Same.put hd).trans (Same.put (by rw [upd_ne ne.symm]; exact hx))
  refine ⟨x, dx, T, lb, n, rs, ls, rfl, upd_same, n1, n8, s1 _ _ eT, lr, fun r m => ((rw_ r m).same s1).inn, s1 _ _ el, hl, fun T2 rs2 H2 s2 e2 l2 h2 q2 xr => ?_⟩
  have ex := s2 _ _ (show (upd (upd H dx (.own x)) x (.ins CC dx [])) x = some (.ins CC dx []) from upd_same)
  have up : ∀ {c : Addr} {ys : List V}, H2 c = some (.tup ys) → (upd H2 x (.ins CC dx (chF n T2 lb))) c = some (.tup ys) := fun {c ys} e => by
    rw [upd_ne (fun z => by rw [z, ex] at e; cases e)]
    exact e
  refine k _ (fun b u e => ?_) ⟨dx, T2, lb, rs2, upd_same, up e2, l2, fun r m => (h2 r m).upx ex rfl, q2, up (s2 _ _ (s1 _ _ el)), hl⟩ ⟨dx, T2, n, rs, rs2, upd_same, up (s2 _ _ (s1 _ _ eT)), up e2, by omega, fun i r r2 e e3 => ?_, ls, up (s2 _ _ (s1 _ _ el))⟩
  · rw [upd_ne (ne_of_none e hx)]
    exact s2 _ _ (s1 _ _ e)
  · obtain ⟨as, h1, _⟩ := rw_ r (List.mem_of_getElem? e)
    have g1 := s1 _ _ h1
    have g2 := xr i r r2 _ e e3 g1 (fun v m => by obtain ⟨a, _, rfl⟩ := List.mem_map.mp m; exact ⟨a, rfl⟩)
    exact ⟨_, up (s2 _ _ g1), up g2, fun v m => by obtain ⟨a, _, rfl⟩ := List.mem_map.mp m; exact ⟨a, rfl⟩⟩
/-- chain.row(s) -/
def spChRow (C CC : Addr) : Sp := fun vs H Q _ => ∃ (o : Addr) (n : Nat) (rws : List (List Nat)) (ls : List Str) (s : Nat), vs = [.ref o, .int (s : Int)] ∧ IsCh C CC H o n rws ls ∧ s < n ∧
  ∀ (b : Addr) (ws : List Nat), rws[s]? = some ws → RowSh C H n (b, ws) → Q (.ref b) H
structure RowT (P : Program) (w : World) (K : PySem.W.Frag) (mg : Str → Option Value) (base : Heap) (C CC : Addr) : Prop where
  ex : ∃ (f : Addr) (fd : FuncData), Meth K CC "row" f ∧ FnOk P w K mg base CX0 5 f fd ["self", "state"] (spChRow C CC) ∧ Binds K fd ["self", "state"] []
/-- where a row leads -/
def hasW (ws : List Nat) (t : Nat) : Bool := decide (0 < ws.getD t 0)
abbrev kyI (t : Nat) : Key := Sum.inl (t : Int)
theorem iteFe {c : Bool} {A D : Prop} (e : c = false) (h : D) : if c = true then A else D := by
  rw [e]
  exact h
/-- a dict whose keys are these places, ascending -/
def KeysAt (H : Hp) (d : Addr) (ts : List Nat) : Prop := ∃ kvs : List (Key × V), H d = some (.dK kvs) ∧ kvs.map (·.1) = ts.map kyI
theorem KeysAt.same {H H' : Hp} {d : Addr} {ts : List Nat} (h : KeysAt H d ts) (s : Same H H') : KeysAt H' d ts := by
  obtain ⟨kvs, h1, h2⟩ := h
  exact ⟨kvs, s _ _ h1, h2⟩
theorem valV_none {kvs : List (Key × V)} {k : Key} (h : k ∉ kvs.map (·.1)) : valV kvs k = none := by
  unfold valV
  rw [List.find?_eq_none.mpr fun x m q => h (List.mem_map.mpr ⟨x, m, of_decide_eq_true q⟩)]
  rfl
theorem kyI_inj {a b : Nat} (h : kyI a = kyI b) : a = b := Int.ofNat.inj (Sum.inl.inj h)
theorem low_zero {w : Nat} {D : Int} (hD : 0 < D) : (lowT (w : Int) D = 0) ↔ w = 0 := by
  have h := low_cross (w : Int) D
  have p := lowB_pos (a := (w : Int)) (b := D) (by omega)
  constructor
  · intro e
    rw [e, Int.zero_mul] at h
    have := Int.mul_eq_zero.mp h.symm
    omega
  · rintro rfl
    have h2 : lowT (((0 : Nat)) : Int) D * D = 0 := by rw [h]; show (0 : Int) * _ = 0; rw [Int.zero_mul]
    have := Int.mul_eq_zero.mp h2
    omega
/-- row_moves(row) -/
def spRowMoves (C : Addr) : Sp := fun vs H Q _ => ∃ (b : Addr) (n : Nat) (ws : List Nat), vs = [.ref b] ∧ n ≤ 8 ∧ RowSh C H n (b, ws) ∧ ∀ (d : Addr) (H' : Hp), Same H H' → H d = none → KeysAt H' d ((List.range n).filter (hasW ws)) → Q (.ref d) H'
section
variable {P : Program} {w : World} {K : PySem.W.Frag} {mg : Str → Option Value} {base : Heap} {C CC B : Addr}
abbrev s_chrow : Stmt := inClass (top 31) 1
theorem sc_chrow : FnScope ["self", "state"] ["self", "state"] (defScope s_chrow) := ⟨rfl, rfl, rfl, by decide +kernel, rfl, by decide +kernel, by decide +kernel⟩
theorem ok_chrow {f : Addr} {fd : FuncData} (F : Fun K "row" "Chain.row" s_chrow f fd) (t : ChT K mg CC) (c : CalX P w K mg base 4 "check_state" ["size", "state"] (spCheck K C CC B)) : FnOk P w K mg base CX0 5 f fd ["self", "state"] (spChRow C CC) := by
  refine F.ok sc_chrow (fun vs H Q E h => ?_) (fun cdv A outer s H vs Q E hr h => ?_)
  · obtain ⟨o, n, rws, ls, st, rfl, _⟩ := h
    rfl
  · obtain ⟨o, n, rws, ls, st, rfl, ⟨dx, T, lb, rs, h1, h2, h3, h4, h5, h6, h7⟩, hs, k⟩ := h
    refine ⟨_, (pss_cons (ps_expr (pe_calx c (hr.mono (by decide)) rfl (pa_cons (pe_fld (pv 0) rfl) (pa_cons (pv 1) pa_nil))))
      (pss_one (ps_ret (pe_ix ix_tup (pe_fld (pv 0) rfl) (pv 1) (fun _ _ => rfl))))), ?_⟩
    have gs : rs[st]? = some rs[st] := List.getElem?_eq_getElem (by omega)
    refine ⟨_, rfl, o, CC, dx, _, _, rfl, h1, t.it.cl, t.nS, chF_size _ _ _, _, rfl, (n : Int), .int (st : Int), rfl, .th (.fo (.int _)), .inl ⟨int_btw hs, ?_⟩⟩
    refine ⟨_, rfl, o, CC, dx, _, _, rfl, h1, t.it.cl, t.nR, chF_rows _ _ _, _, rfl, T, _, (st : Int), .ref rs[st].1, rfl, rfl, SqT.of h2, atI_nat (by rw [rfs, List.getElem?_map, gs]; rfl), ?_⟩
    exact k rs[st].1 rs[st].2 (by rw [← h5, List.getElem?_map, gs]; rfl) (h4 _ (List.mem_of_getElem? gs))
end
end K8

set_option Elab.async false
set_option linter.all false
set_option maxRecDepth 100000
set_option maxHeartbeats 4000000
/-! not of use for k03: the methods * and over, to be ported to the rows that want them -/
namespace K8
open PySem L2
def spMul (C : Addr) : Sp := fun vs H Q _ => ∃ (a dx : Addr) (y : V) (t n t' n' : Int), vs = [.ref a, y] ∧ H a = some (.ins C dx (shF t n)) ∧ Nm C H y t' n' ∧ Low t n ∧ Low t' n' ∧ NewSh C H Q (t * t') (n * n')
def spRmul (C : Addr) : Sp := fun vs H Q _ => ∃ (a dx : Addr) (i t n : Int), vs = [.ref a, .int i] ∧ H a = some (.ins C dx (shF t n)) ∧ Low t n ∧ Low i 1 ∧ NewSh C H Q (t * i) (n * 1)
/-- share.over(other): BadShare of the top and the other, or the quotient -/
def spOver (K : PySem.W.Frag) (C B : Addr) : Sp := fun vs H Q E => ∃ (a dx : Addr) (y : V) (t n : Int), vs = [.ref a, y] ∧ H a = some (.ins C dx (shF t n)) ∧ Low t n ∧
  ((∃ t' n', Nm C H y t' n' ∧ Low t' n' ∧ ((t' ≠ 0 ∧ NewSh C H Q (t * n') (n * t')) ∨ (t' = 0 ∧ ∀ (d : Addr) (H' : Hp), Same H H' → H' d = some (.xd (xF (.int t) (.int 0))) → E (.ref B) (some d) H'))) ∨
    (∃ T, Fo K H y T ∧ isI y = false ∧ ∀ (d : Addr) (H' : Hp), Same H H' → H' d = some (.xd (xF (.int t) y)) → E (.ref B) (some d) H'))
section
variable {P : Program} {w : World} {K : PySem.W.Frag} {mg : Str → Option Value} {base : Heap} {C B : Addr}
abbrev s_mul : Stmt := inClass (top 22) 6
theorem sc_mul : FnScope ["self", "other", "beside"] ["self", "other"] (defScope s_mul) := ⟨rfl, rfl, rfl, by decide +kernel, rfl, by decide +kernel, by decide +kernel⟩
theorem ok_mul {f : Addr} {fd : FuncData} (F : Fun K "__mul__" "Share.__mul__" s_mul f fd) (T : ShT K mg C) (m : MkT P w K mg base C B) (c_is : Cal P w K mg base 2 "is_share" ["thing"] (spIsShare K C)) (c_of : Cal P w K mg base 6 "share_of" ["thing"] (spShareOf C)) :
    FnOk P w K mg base CX0 7 f fd ["self", "other"] (spMul C) := by
  refine F.ok sc_mul (fun vs H Q E h => ?_) (fun cdv A outer s H vs Q E hr h => ?_)
  · obtain ⟨a, dx, y, t, n, t', n', rfl, _⟩ := h
    rfl
  · obtain ⟨a, dx, y, t, n, t', n', rfl, ha, hy, l1, l2, k⟩ := h
    refine ⟨_, (pss_cons (ps_if (pt_not (pt_val (pe_cal c_is (hr.mono (by decide)) rfl (pa_cons (pv 1) pa_nil))))
        pss_never
        pss_nil)
      (pss_cons (ps_set (i := 2) sc_mul.nd rfl (Or.inl rfl) (pe_cal c_of hr rfl (pa_cons (pv 1) pa_nil)))
      (pss_one (ps_ret (pe_share2 m (hr.mono (by decide)) rfl (pa_cons (pe_op op_mulW (pe_fld (pv 0) rfl) (pe_fld (pv 2) rfl)) (pa_cons (pe_op op_mulW (pe_fld (pv 0) rfl) (pe_fld (pv 2) rfl)) pa_nil))))))), ?_⟩
    refine ⟨_, rfl, y, rfl, .inl ⟨t', n', hy, _, rfl, iteF ?_⟩⟩
    refine ⟨_, rfl, y, t', n', rfl, hy, fun b db H1 s1 e1 _ => ?_⟩
    have ha1 := s1 _ _ ha
    refine ⟨_, rfl, a, C, dx, _, _, rfl, ha1, T.it.cl, T.nT, shF_top _ _, _, rfl, b, C, db, _, _, rfl, e1, T.it.cl, T.nT, shF_top _ _, t, t', rfl, rfl, wide_mul l1.tb l2.tb (by decide) (by decide) (by decide), ?_⟩
    refine ⟨_, rfl, a, C, dx, _, _, rfl, ha1, T.it.cl, T.nB, shF_bottom _ _, _, rfl, b, C, db, _, _, rfl, e1, T.it.cl, T.nB, shF_bottom _ _, n, n', rfl, rfl, wide_mul l1.nb l2.nb (by decide) (by decide) (by decide), ?_⟩
    have pp : 0 < n * n' := Int.mul_pos l1.pos l2.pos
    refine fun z dz hz hd ne => si_ok hz hd ne (a := t * t') (b := n * n') (by omega) (log_of (mul_lt l1.nb l2.nb) (by decide) (by decide)) fun H' s e => ⟨rfl, ?_⟩
    exact k z dz H' (s1.trans s) e
abbrev MulL (P : Program) (w : World) (K : PySem.W.Frag) (mg : Str → Option Value) (base : Heap) (C : Addr) : Prop := ArTL P w K mg base C .Mult "*" "mul" 7 (spMul C)
abbrev s_rmul : Stmt := inClass (top 22) 7
theorem sc_rmul : FnScope ["self", "other"] ["self", "other"] (defScope s_rmul) := ⟨rfl, rfl, rfl, by decide +kernel, rfl, by decide +kernel, by decide +kernel⟩
theorem ok_rmul {f : Addr} {fd : FuncData} (F : Fun K "__rmul__" "Share.__rmul__" s_rmul f fd) (c_is_whole : Cal P w K mg base 1 "is_whole" ["thing"] (spWhole K C)) (ml : MulL P w K mg base C) :
    FnOk P w K mg base CX0 8 f fd ["self", "other"] (spRmul C) := by
  refine F.ok sc_rmul (fun vs H Q E h => ?_) (fun cdv A outer s H vs Q E hr h => ?_)
  · obtain ⟨a, dx, i, t, n, rfl, _⟩ := h
    rfl
  · obtain ⟨a, dx, i, t, n, rfl, ha, l1, l2, k⟩ := h
    have o := (ArTL.op (X := (cxOf CX0 P w K mg base ["self", "other"] "Share.__rmul__" (defScope s_rmul) f cdv A outer s H E).nox) ml hr).toR
    refine ⟨_, (pss_cons (ps_if (pt_not (pt_val (pe_cal c_is_whole (hr.mono (by decide)) rfl (pa_cons (pv 1) pa_nil))))
        pss_never
        pss_nil)
      (pss_one (ps_ret (pe_op o (pv 0) (pv 1))))), ?_⟩
    refine ⟨_, rfl, .int i, rfl, .fo (.int i), _, rfl, iteF ?_⟩
    exact ⟨_, rfl, _, rfl, a, dx, _, rfl, ha, .inl ⟨i, rfl⟩, a, dx, .int i, t, n, i, 1, rfl, ha, .inl ⟨rfl, rfl⟩, l1, l2, k⟩
abbrev s_over : Stmt := inClass (top 22) 11
theorem sc_over : FnScope ["self", "other", "beside"] ["self", "other"] (defScope s_over) := ⟨rfl, rfl, rfl, by decide +kernel, rfl, by decide +kernel, by decide +kernel⟩
theorem ok_over {f : Addr} {fd : FuncData} (F : Fun K "over" "Share.over" s_over f fd) (T : ShT K mg C) (m : MkT P w K mg base C B) (Bt : BsT P w K mg base B) (c_is : Cal P w K mg base 2 "is_share" ["thing"] (spIsShare K C)) (c_of : Cal P w K mg base 6 "share_of" ["thing"] (spShareOf C)) (c_eq : EqT P w K mg base C) :
    FnOk P w K mg base (L2.CX P w) 7 f fd ["self", "other"] (spOver K C B) := by
  obtain ⟨fI, fdI, iC, tI, FI, bI⟩ := Bt.made
  obtain ⟨fe, fde, O, FE, hbE⟩ := c_eq.ex
  refine F.okX sc_over (fun vs H Q E h => ?_) (fun cdv A outer s H vs Q E hr h => ?_)
  · obtain ⟨a, dx, y, t, n, rfl, _⟩ := h
    rfl
  · obtain ⟨a, dx, y, t, n, rfl, ha, l1, h⟩ := h
    refine ⟨_, (pss_cons (ps_if (pt_not (pt_val (pe_cal c_is (hr.mono (by decide)) rfl (pa_cons (pv 1) pa_nil))))
        (pss_one (ps_raise (W := fun cls d _ H => E cls d H) rfl (takes_of rfl rfl rfl rfl) (pmk_oex Bt.O iC tI FI (hr.mono (by decide)) bI .nil pass0 rfl Bt.gB (pa_cons (pe_fld (pv 0) rfl) (pa_cons (pv 1) pa_nil)))))
        pss_nil)
      (pss_cons (ps_if (pt_cmpR (OpR.or op_eq (op_ownB (C := C) is_eq FE O hbE pass0 (hr.mono (by decide)))) (pv 1) pe_int (nomark _))
        (pss_one (ps_raise (W := fun cls d _ H => E cls d H) rfl (takes_of rfl rfl rfl rfl) (pmk_oex Bt.O iC tI FI (hr.mono (by decide)) bI .nil pass0 rfl Bt.gB (pa_cons (pe_fld (pv 0) rfl) (pa_cons pe_int pa_nil)))))
        pss_nil)
      (pss_cons (ps_set (i := 2) sc_over.nd rfl (Or.inl rfl) (pe_cal c_of hr rfl (pa_cons (pv 1) pa_nil)))
      (pss_one (ps_ret (pe_share2 m (hr.mono (by decide)) rfl (pa_cons (pe_op op_mulW (pe_fld (pv 0) rfl) (pe_fld (pv 2) rfl)) (pa_cons (pe_op op_mulW (pe_fld (pv 0) rfl) (pe_fld (pv 2) rfl)) pa_nil)))))))), ?_⟩
    have raise : ∀ (q : V) (tq : TE) (H1 : Hp) (σ : St), σ[0]? = some (some (.ref a)) → Same H H1 → (∀ QQ : VK, QQ q H1 → tq σ H1 QQ) → (∀ (d : Addr) (H' : Hp), Same H H' → H' d = some (.xd (xF (.int t) q)) → E (.ref B) (some d) H') →
        tMkO B (spBS K B) [] (tCons (tFld K (tVar 0) "top") (tCons tq tNil)) σ H1 (fun cls d H' => E cls d H') := fun q tq H1 σ hσ s1 hq k => by
      refine ⟨_, hσ, a, C, dx, _, _, rfl, s1 _ _ ha, T.it.cl, T.nT, shF_top _ _, hq _ ⟨by show 2 ≤ 1000; decide, fun x hx => ⟨x, .int t, q, rfl, Bt.O, Bt.nt, Bt.nb, upd_same, fun d hd ne => ⟨rfl, d, xF (.int t) q, ?_, upd_same, ?_, ?_⟩⟩⟩⟩
      · rw [upd_ne ne.symm, upd_same]
      · rw [upd_ne ne] at hd
        exact hd
      · exact k d _ (s1.trans (bs_end hx hd ne)) upd_same
    rcases h with ⟨t', n', hy, l2, h⟩ | ⟨T', fo, iy, k⟩
    · refine ⟨_, rfl, y, rfl, .inl ⟨t', n', hy, _, rfl, iteF ?_⟩⟩
      have z0 : decide (t' = 0) = (decide (V.int n' = V.int 1) && decide (V.int t' = V.int 0)) ∨ True := .inr trivial
      have zero : t' = 0 → n' = 1 := fun e => by
        have g := l2.gcd
        have p := l2.pos
        rw [e] at g
        have : Nat.gcd (0 : Int).natAbs n'.natAbs = n'.natAbs := Nat.gcd_zero_left _
        omega
      have test : ∀ {QQ : VK}, QQ (.bl (decide (t' = 0))) H → rEq y (.int 0) H QQ ∨ rOwnB K C (EqS K C) .Eq y (.int 0) H QQ := fun {QQ} q => by
        rcases hy with ⟨rfl, rfl⟩ | ⟨b, db, rfl, hb⟩
        · refine .inl ⟨rfl, ?_⟩
          have e : decide (V.int t' = V.int 0) = decide (t' = 0) := decide_eq_decide.mpr ⟨V.int.inj, congrArg V.int⟩
          rw [e]
          exact q
        · refine .inr ⟨decide (t' = 0), (cmp_fo (K := K) (C := C) (y := .int 0) hb (.int 0) ?_).1, q⟩
          rw [Bool.eq_iff_iff]
          simp only [isI, Bool.true_and, Bool.and_eq_true, decide_eq_true_eq, V.int.injEq]
          exact ⟨fun e => ⟨zero e, e⟩, fun e => e.2⟩
      refine ⟨_, rfl, test ⟨_, rfl, iteB (fun z => ?_) (fun z => ?_)⟩⟩
      · have e0 : t' = 0 := of_decide_eq_true z
        rcases h with ⟨nz, _⟩ | ⟨_, k⟩
        · exact absurd e0 nz
        · exact raise (.int 0) _ H _ rfl (Same.refl H) (fun QQ q => q) k
      · have nz : t' ≠ 0 := of_decide_eq_false z
        rcases h with ⟨_, k⟩ | ⟨e0, _⟩
        · refine ⟨_, rfl, y, t', n', rfl, hy, fun b db H1 s1 e1 _ => ?_⟩
          have ha1 := s1 _ _ ha
          refine ⟨_, rfl, a, C, dx, _, _, rfl, ha1, T.it.cl, T.nT, shF_top _ _, _, rfl, b, C, db, _, _, rfl, e1, T.it.cl, T.nB, shF_bottom _ _, t, n', rfl, rfl, wide_mul l1.tb l2.nb (by decide) (by decide) (by decide), ?_⟩
          refine ⟨_, rfl, a, C, dx, _, _, rfl, ha1, T.it.cl, T.nB, shF_bottom _ _, _, rfl, b, C, db, _, _, rfl, e1, T.it.cl, T.nT, shF_top _ _, n, t', rfl, rfl, wide_mul l1.nb l2.tb (by decide) (by decide) (by decide), ?_⟩
          have p1 := l1.pos
          refine fun z dz hz hd ne => si_ok hz hd ne (a := t * n') (b := n * t') (Int.mul_ne_zero (by omega) nz) (log_of (mul_lt l1.nb l2.tb) (by decide) (by decide)) fun H' s e => ⟨rfl, ?_⟩
          exact k z dz H' (s1.trans s) e
        · exact absurd e0 nz
    · exact ⟨_, rfl, y, rfl, .inr ⟨T', fo, iy, _, rfl, iteT (raise y _ H _ rfl (Same.refl H) (fun QQ q => ⟨y, rfl, q⟩) k)⟩⟩
end
/-! ### products over a common denominator -/
theorem low_prod {S S' D D' : Int} (hD : 0 < D) (hD' : 0 < D') : lowT (lowT S D * lowT S' D') (lowB S D * lowB S' D') = lowT (S * S') (D * D') ∧ lowB (lowT S D * lowT S' D') (lowB S D * lowB S' D') = lowB (S * S') (D * D') := by
  have p1 := lowB_pos (a := S) (b := D) (by omega)
  have p2 := lowB_pos (a := S') (b := D') (by omega)
  refine low_ratio (Int.mul_ne_zero (by omega) (by omega)) (Int.mul_ne_zero (by omega) (by omega)) ?_
  have h1 := low_cross S D
  have h2 := low_cross S' D'
  calc lowT S D * lowT S' D' * (D * D') = (lowT S D * D) * (lowT S' D' * D') := by ac_rfl
    _ = (S * lowB S D) * (S' * lowB S' D') := by rw [h1, h2]
    _ = S * S' * (lowB S D * lowB S' D') := by ac_rfl
end K8

set_option Elab.async false
set_option linter.all false
set_option maxRecDepth 100000
set_option maxHeartbeats 4000000
/-! shares as rational numbers -/
namespace K8
open PySem L2
/-- of a moderate size -/
def Sz (k : Nat) (q : Rat) : Prop := q.num.natAbs < 2 ^ k ∧ q.den < 2 ^ k
theorem Sz.mono {k l : Nat} {q : Rat} (h : Sz k q) (e : k ≤ l) : Sz l q := ⟨Nat.lt_of_lt_of_le h.1 (Nat.pow_le_pow_right (by decide) e), Nat.lt_of_lt_of_le h.2 (Nat.pow_le_pow_right (by decide) e)⟩
theorem low_q {q : Rat} (h : Sz 4000 q) : Low q.num (q.den : Int) := ⟨by have := q.den_nz; omega, by have := q.reduced; exact this, h.1, by rw [Int.natAbs_natCast]; exact h.2⟩
theorem den_ne (q : Rat) : (q.den : Int) ≠ 0 := by have := q.den_nz; omega
theorem low_rat {a b : Int} {q : Rat} (hb : b ≠ 0) (e : Rat.divInt a b = q) : lowT a b = q.num ∧ lowB a b = (q.den : Int) := by
  subst e
  refine low_unique (lowB_pos hb) (by have := (Rat.divInt a b).den_nz; omega) (low_gcd hb) (Rat.divInt a b).reduced ?_
  have h := low_cross a b
  have nz : lowB a b ≠ 0 := by have := lowB_pos (a := a) hb; omega
  have e1 : Rat.divInt (lowT a b) (lowB a b) = Rat.divInt a b := (Rat.divInt_eq_divInt_iff nz hb).mpr h
  have e2 : Rat.divInt (Rat.divInt a b).num (Rat.divInt a b).den = Rat.divInt a b := Rat.num_divInt_den _
  exact (Rat.divInt_eq_divInt_iff nz (den_ne _)).mp (e1.trans e2.symm)
theorem q_add (p q : Rat) : Rat.divInt (p.num * q.den + q.num * p.den) (p.den * q.den) = p + q := by
  rw [← Rat.divInt_add_divInt _ _ (den_ne p) (den_ne q), Rat.num_divInt_den, Rat.num_divInt_den]
theorem q_sub (p q : Rat) : Rat.divInt (p.num * q.den + -q.num * p.den) (p.den * q.den) = p - q := by
  rw [Int.neg_mul, ← Int.sub_eq_add_neg, ← Rat.divInt_sub_divInt _ _ (den_ne p) (den_ne q), Rat.num_divInt_den, Rat.num_divInt_den]
theorem q_mul (p q : Rat) : Rat.divInt (p.num * q.num) (p.den * q.den) = p * q := by
  rw [← Rat.divInt_mul_divInt, Rat.num_divInt_den, Rat.num_divInt_den]
theorem q_over (p q : Rat) : Rat.divInt (p.num * q.den) (p.den * q.num) = p / q := by
  rw [← Rat.divInt_mul_divInt, Rat.num_divInt_den, Rat.div_def]
  congr 1
  rw [← Rat.inv_divInt, Rat.num_divInt_den]
theorem sz_low {a b : Int} {q : Rat} {k : Nat} (hb : b ≠ 0) (e : Rat.divInt a b = q) (ha : a.natAbs < 2 ^ k) (hb2 : b.natAbs < 2 ^ k) : Sz k q := by
  obtain ⟨h1, h2⟩ := low_rat hb e
  refine ⟨?_, ?_⟩
  · rw [← h1]; exact Nat.lt_of_le_of_lt (lowT_le hb) ha
  · have := Nat.lt_of_le_of_lt (lowB_le (a := a) hb) hb2
    rw [h2, Int.natAbs_natCast] at this
    exact this
theorem mul_nz {p q : Rat} : (p.den : Int) * q.den ≠ 0 := Int.mul_ne_zero (den_ne p) (den_ne q)
theorem Sz.d {k : Nat} {q : Rat} (h : Sz k q) : (q.den : Int).natAbs < 2 ^ k := by rw [Int.natAbs_natCast]; exact h.2
theorem add_lt2 {a b : Int} {k : Nat} (h : a.natAbs < 2 ^ k) (h' : b.natAbs < 2 ^ k) : (a + b).natAbs < 2 ^ (k + 1) := by
  have := Int.natAbs_add_le a b
  rw [Nat.pow_succ]
  omega
theorem Sz.add {k l : Nat} {p q : Rat} (h : Sz k p) (h' : Sz l q) : Sz (k + l + 1) (p + q) := by
  refine sz_low mul_nz (q_add p q) ?_ (Nat.lt_trans (mul_lt h.d h'.d) (Nat.pow_lt_pow_right (by decide) (Nat.lt_succ_self _)))
  refine add_lt2 (mul_lt h.1 h'.d) ?_
  rw [Nat.add_comm]
  exact mul_lt h'.1 h.d
theorem Sz.sub {k l : Nat} {p q : Rat} (h : Sz k p) (h' : Sz l q) : Sz (k + l + 1) (p - q) := by
  refine sz_low mul_nz (q_sub p q) ?_ (Nat.lt_trans (mul_lt h.d h'.d) (Nat.pow_lt_pow_right (by decide) (Nat.lt_succ_self _)))
  refine add_lt2 (mul_lt h.1 h'.d) ?_
  rw [Nat.add_comm]
  exact mul_lt (by rw [Int.natAbs_neg]; exact h'.1) h.d
theorem Sz.mul {k l : Nat} {p q : Rat} (h : Sz k p) (h' : Sz l q) : Sz (k + l) (p * q) := sz_low mul_nz (q_mul p q) (mul_lt h.1 h'.1) (mul_lt h.d h'.d)
theorem num_ne {q : Rat} (h : q ≠ 0) : q.num ≠ 0 := fun e => h (Rat.num_eq_zero.mp e)
theorem Sz.over {k l : Nat} {p q : Rat} (h : Sz k p) (h' : Sz l q) (nz : q ≠ 0) : Sz (k + l) (p / q) := sz_low (Int.mul_ne_zero (den_ne p) (num_ne nz)) (q_over p q) (mul_lt h.1 h'.d) (mul_lt h.d h'.1)
theorem Sz.neg {k : Nat} {p : Rat} (h : Sz k p) : Sz k (-p) := ⟨by rw [Rat.neg_num, Int.natAbs_neg]; exact h.1, by rw [Rat.neg_den]; exact h.2⟩
/-- a new share of this value -/
theorem newQ {C : Addr} {H : Hp} {Q : VK} {a b : Int} {q : Rat} (hb : b ≠ 0) (e : Rat.divInt a b = q) (k : ∀ (z dz : Addr) (H' : Hp), Same H H' → H' z = some (.ins C dz (shF q.num q.den)) → Q (.ref z) H') : NewSh C H Q a b := fun z dz H' s h => by
  obtain ⟨h1, h2⟩ := low_rat hb e
  rw [h1, h2] at h
  exact k z dz H' s h
/-- at a a share of the value q -/
def IsS (C : Addr) (H : Hp) (a : Addr) (q : Rat) : Prop := ∃ dx, H a = some (.ins C dx (shF q.num (q.den : Int)))
theorem IsS.same {C : Addr} {H H' : Hp} {a : Addr} {q : Rat} (h : IsS C H a q) (s : Same H H') : IsS C H' a q := let ⟨dx, e⟩ := h; ⟨dx, s _ _ e⟩
theorem IsS.keep {C p : Addr} {H H' : Hp} {a : Addr} {q : Rat} (h : IsS C H a q) (k : Keep p H H') (hp : PoolAt H p) : IsS C H' a q := let ⟨dx, e⟩ := h; ⟨dx, k _ _ e (hp.nei e)⟩
end K8

set_option Elab.async false
set_option linter.all false
set_option maxRecDepth 100000
set_option maxHeartbeats 4000000
namespace K8
open PySem L2
theorem OpR.weak {X : Cx} {f : Value → Value → Sem Value} {r r' : R2} (h : OpR X f r) (w : ∀ x y H Q, r' x y H Q → r x y H Q) : OpR X f r' := fun pins s σ H x y v u Q I rx ry q => h pins s σ H x y v u Q I rx ry (w x y H Q q)
/-- an operation of two shares that gives a new one -/
def rQ (C : Addr) (F : Rat → Rat → Rat) : R2 := fun x y H Q => ∃ a b p q, x = .ref a ∧ y = .ref b ∧ IsS C H a p ∧ IsS C H b q ∧ Sz 4000 p ∧ Sz 4000 q ∧ ∀ z H', Same H H' → IsS C H' z (F p q) → Q (.ref z) H'
section
variable {X : Cx} {C B : Addr}
theorem opQ_add (c : ArTL X.prog X.w X.K X.mg X.base C .Add "+" "add" 7 (spAdd C)) (hr : Room 7 X.A) : OpR X (binaryOp .Add) (rQ C (· + ·)) :=
  OpR.weak (ArTL.op c hr).toR fun x y H Q ⟨a, b, p, q, ex, ey, ⟨da, ha⟩, ⟨db, hb⟩, zp, zq, k⟩ =>
    ⟨a, da, _, ex, ha, .inr ⟨b, db, _, ey, hb⟩, a, da, y, p.num, p.den, q.num, q.den, by rw [ex], ha, .inr ⟨b, db, ey, hb⟩, low_q zp, low_q zq, newQ mul_nz (q_add p q) fun z dz H' s e => k z H' s ⟨dz, e⟩⟩
theorem opQ_sub (c : ArTL X.prog X.w X.K X.mg X.base C .Sub "-" "sub" 8 (spSub C)) (hr : Room 8 X.A) : OpR X (binaryOp .Sub) (rQ C (· - ·)) :=
  OpR.weak (ArTL.op c hr).toR fun x y H Q ⟨a, b, p, q, ex, ey, ⟨da, ha⟩, ⟨db, hb⟩, zp, zq, k⟩ =>
    ⟨a, da, _, ex, ha, .inr ⟨b, db, _, ey, hb⟩, a, da, y, p.num, p.den, q.num, q.den, by rw [ex], ha, .inr ⟨b, db, ey, hb⟩, low_q zp, low_q zq, newQ mul_nz (q_sub p q) fun z dz H' s e => k z H' s ⟨dz, e⟩⟩
theorem opQ_mul (c : MulL X.prog X.w X.K X.mg X.base C) (hr : Room 7 X.A) : OpR X (binaryOp .Mult) (rQ C (· * ·)) :=
  OpR.weak (ArTL.op c hr).toR fun x y H Q ⟨a, b, p, q, ex, ey, ⟨da, ha⟩, ⟨db, hb⟩, zp, zq, k⟩ =>
    ⟨a, da, _, ex, ha, .inr ⟨b, db, _, ey, hb⟩, a, da, y, p.num, p.den, q.num, q.den, by rw [ex], ha, .inr ⟨b, db, ey, hb⟩, low_q zp, low_q zq, newQ mul_nz (q_mul p q) fun z dz H' s e => k z H' s ⟨dz, e⟩⟩
/-- == or != of two shares -/
theorem eqS_q {K : PySem.W.Frag} {H : Hp} {a b : Addr} {p q : Rat} (h : IsS C H a p) (h' : IsS C H b q) : EqS K C a (.ref b) (decide (p = q)) H := by
  obtain ⟨da, ha⟩ := h
  obtain ⟨db, hb⟩ := h'
  refine ⟨da, _, _, ha, .inl ⟨b, db, _, _, rfl, hb, ?_⟩⟩
  rw [Bool.eq_iff_iff, Bool.and_eq_true, decide_eq_true_eq, decide_eq_true_eq, decide_eq_true_eq]
  constructor
  · rintro rfl; exact ⟨rfl, rfl⟩
  · rintro ⟨h1, h2⟩
    have h1 := V.int.inj h1
    have h2 := Int.ofNat_inj.mp (V.int.inj h2)
    exact Rat.ext h1 h2
/-- == or != of a share and an integer -/
theorem eqS_int {K : PySem.W.Frag} {H : Hp} {a : Addr} {p : Rat} {i : Int} (h : IsS C H a p) : EqS K C a (.int i) (decide (p = i)) H := by
  obtain ⟨da, ha⟩ := h
  refine ⟨da, _, _, ha, .inr ⟨⟨_, .int i⟩, ?_⟩⟩
  rw [Bool.eq_iff_iff]
  simp only [isI, Bool.true_and, Bool.and_eq_true, decide_eq_true_eq, V.int.injEq]
  constructor
  · rintro rfl; exact ⟨rfl, rfl⟩
  · rintro ⟨h1, h2⟩
    have h1 : p.den = 1 := by omega
    exact Rat.ext h2 h1
theorem less_q {p q : Rat} : (p.num * (q.den : Int) < q.num * (p.den : Int)) ↔ p < q := (Rat.lt_iff p q).symm
end
end K8

set_option Elab.async false
set_option linter.all false
set_option maxRecDepth 100000
set_option maxHeartbeats 4000000
/-! for k, v in d.items(), the keys tuples -/
namespace L2
open PySem PySem.Spec PyProof.Rows
/-- what is written in the locked dict at d -/
theorem frzT2 {X : Cx} {pins : List (Addr × Obj)} {σ : St} {H : Hp} {s : Shared} {d : Addr} {o : Obj} {kvs : List (List Key × V)} (I : Inv X pins σ H s) (h : H d = some (.frz o (.dT kvs))) :
    (d == sysModules) = false ∧ s.heap.get? d = some o ∧ ∃ (es : Array DictEntry) (ep : Nat), o.data = .dict es ep ∧ es.size = kvs.length ∧ s.heap.DictRaw d es ep ∧
      ∀ (i : Nat) (k : List Key) (v : V), kvs[i]? = some (k, v) → ∃ (en : DictEntry) (q : Addr), es[i]? = some en ∧ en.key = .ref q ∧ H q = some (.tup (k.map kV)) ∧ RelV v en.val := by
  obtain ⟨hd, z, hs, xs, pr, o', es, ep, ho, hx, hdt, he, _⟩ := I.hok d _ h
  rw [hd] at ho
  cases ho
  refine ⟨hs, hd, es, ep, hdt, ?_, ⟨_, hd, hx, hdt⟩, fun i k v e => ?_⟩
  · have l1 : es.size = xs.length := size_of_entries he
    have l2 : kvs.length = xs.length := Paired.length pr
    omega
  · obtain ⟨b, hb, e1, e2, e3⟩ := paired_get pr e
    have q := entry_at he i
    rw [hb] at q
    exact ⟨_, b.2.1, q, rfl, e2, e3⟩
/-- the pairs, each a new tuple of the key's own tuple and the value -/
def Itit (d : Addr) (o : Obj) (kvs : List (List Key × V)) : It :=
  ⟨fun i H => H d = some (.frz o (.dT kvs)) ∧ i < kvs.length, fun i H x H' => ∃ T k v q, kvs[i]? = some (k, v) ∧ H q = some (.tup (k.map kV)) ∧ x = .ref T ∧ H T = none ∧ H' = upd H T (.tup [.ref q, v]), fun i H => H d = some (.frz o (.dT kvs)) ∧ kvs.length ≤ i⟩
theorem turn_itemsT {P : Program} {w : World} {K : PySem.W.Frag} {d : Addr} {o : Obj} {es : Array DictEntry} {ep : Nat} {kvs : List (List Key × V)} {elts : List Expr} {kk : Nat} {tpos : Pos} (it : Addr) (hod : o.data = .dict es ep) :
    Turn P w K (.Tuple elts kk tpos) (Itit d o kvs) [it] it (fun i h => ∃ ok ov, IsItemIter h it d i kvs.length ep ok ov) where
  mem := by simp
  obj := fun i h st b hb => by
    have e : b = it := by simpa using hb
    subst e
    obtain ⟨ok, ov, e⟩ := st
    exact ⟨_, e, fun v z => nomatch z⟩
  keep := fun i h h' st k => let ⟨ok, ov, e⟩ := st; ⟨ok, ov, k it (by simp) _ e⟩
  item := by
    intro X hP hw hK hc i pins s σ H E I hf st hg
    subst hP hw hK
    obtain ⟨hd, hi⟩ := hg
    obtain ⟨hs, hgd, es', ep', hdt, hsz, hm, ent⟩ := frzT2 I hd
    obtain ⟨rfl, rfl⟩ := dict_ep hod hdt
    obtain ⟨⟨k, v⟩, hkv⟩ : ∃ p, kvs[i]? = some p := ⟨kvs[i], List.getElem?_eq_getElem hi⟩
    obtain ⟨en, q, hen, hkey, hq, rv⟩ := ent i k v hkv
    obtain ⟨ok, ov, he⟩ := st
    rw [← hsz] at he
    have hlt : it < s.heap.objs.size := Heap.lt_size he
    have hi' : i < es'.size := by omega
    have hge : es'[i] = en := by
      rw [Array.getElem?_eq_getElem hi'] at hen
      exact Option.some.inj hen
    refine wpAny_pyNext_items_item_raw he hm hi' fun h' ho hT hz hk => ?_
    rw [hge] at ho hT
    refine ⟨_, rfl, wpAny_letOwnedTupleGo_items (s := { s with heap := h' }) ho fun h'' he' sb => ?_⟩
    have hT2 : h''.get? s.heap.objs.size = some { cls := .type "tuple", data := .seq #[en.key, en.val] } := (sb.2 _ (Nat.ne_of_gt hlt)).trans hT
    have new : ObjOk X.prog X.w (upd H s.heap.objs.size (.tup [.ref q, v])) h'' s.heap.objs.size (.tup [.ref q, v]) :=
      ⟨by show 2 ≤ sizeLine; decide, [en.key, en.val], .cons hkey (.cons rv .nil), ⟨_, hT2, rfl, _, rfl⟩⟩
    have I1 : Inv X pins σ (upd H s.heap.objs.size (.tup [.ref q, v])) { s with heap := h'' } :=
      I.turnedNew (t' := s.toks) (ch := [it]) (fun b ob hb e => (sb.2 b (by simpa using hb)).trans (hk b ob (by simpa using hb) e)) hf (Nat.le_refl _) new
    refine ⟨.ref s.heap.objs.size, _, I1, rfl, ⟨_, k, v, q, hkv, hq, rfl, I.hok.fresh (Nat.le_refl _), rfl⟩, ⟨en.key, en.val, ?_⟩, fun b hb => ?_⟩
    · rw [← hsz]; exact he'
    · have e : b = it := by simpa using hb
      rw [e, upd_ne (Nat.ne_of_lt hlt)]
      exact (hf it (by simp)).1
  done := by
    intro X hP hw hK hc i pins s σ H E I hf st hg
    subst hP hw hK
    obtain ⟨hd, hi⟩ := hg
    obtain ⟨f0, f1, f2, f3, f4, f5⟩ := hf it (by simp)
    obtain ⟨hs, hgd, es', ep', hdt, hsz, hm, ent⟩ := frzT2 I hd
    obtain ⟨rfl, rfl⟩ := dict_ep hod hdt
    obtain ⟨ok, ov, he⟩ := st
    rw [← hsz] at he
    exact wpAny_pyNext_items_end_raw (I.ok.hd hc) he hm (by omega) fun h' eb => ⟨rfl, I.turned (t' := s.toks) (fun b ob hb e => eb b ob hb e) f0 f1 f3 f4 f5⟩
  self := fun A i s Q E st h => let ⟨_, _, e⟩ := st; PySem.W.kcp_self e h
theorem walk_itemsT {d : Addr} {o : Obj} {kvs : List (List Key × V)} : Walk (Itit d o kvs) kvs.length (fun H => H d = some (.frz o (.dT kvs))) (fun i H x H' => ∃ T k v q, kvs[i]? = some (k, v) ∧ H q = some (.tup (k.map kV)) ∧ x = .ref T ∧ H T = none ∧ H' = upd H T (.tup [.ref q, v])) :=
  ⟨fun _ _ hi q => ⟨q, hi⟩, fun _ q => ⟨q, Nat.le_refl _⟩, fun _ _ _ _ _ _ y => y⟩
def iItemsT (td : TE) : TI := fun σ H R => td σ H fun x H1 => ∃ d o kvs, x = .ref d ∧ H1 d = some (.frz o (.dT kvs)) ∧ R (Itit d o kvs) H1
theorem pi_itemsT {X : Cx} {e : Expr} {td : TE} {apos cpos : Pos} {elts : List Expr} {kk : Nat} {tpos : Pos} (he : PE X e td) (hbase : attributeBase e "items" X.env (eval e X.env) = eval e X.env := by rfl) (hline : (apos.endLine == cpos.line) = true := by rfl) :
    PI X (.Tuple elts kk tpos) (.Call (.Attribute e "items" apos) [] [] cpos) (iItemsT td) := by
  refine ⟨fun pins s σ H R I h => ?_⟩
  refine wpAny_Call_method (T := "dict") (id := "dict.items") hbase rfl hline F.plainAttrs_dict F.slot_dict_items F.type_dict_items (thn (he.run pins s σ H _ I h) fun u s1 ⟨x, H1, I1, rx, d, o, kvs, ex, hd, q⟩ => ?_)
  subst ex
  obtain rfl : u = Value.ref d := rx
  obtain ⟨hs, hgd, es, ep, hdt, hsz, hm, ent⟩ := frzT2 I1 hd
  refine ⟨hm.typeIs, ?_, ?_⟩
  · intro b q
    cases q
    obtain ⟨ob, h1, h2, _⟩ := id hm
    exact ⟨ob, h1, h2.2.1⟩
  have I2 : Inv X pins σ H1 { s1 with heap := s1.heap.push { cls := .type "dict_items", data := .fields #[.ref d] } } := I1.kept (t' := s1.toks) fun b ob q => Heap.get?_push_of_some _ q
  have fin : wpAny (model X.prog X.w) X.A (pyIter (.ref s1.heap.objs.size)) (PIE X pins σ (.Tuple elts kk tpos) R) X.xe { s1 with heap := s1.heap.push { cls := .type "dict_items", data := .fields #[.ref d] } } := by
    refine wpAny_pyIter_items_raw (d := d) ⟨_, Heap.get?_push_size _ rfl, rfl, rfl⟩ (hm.at fun o e => Heap.get?_push_of_some _ e) (pi_one (tk := s1.toks) I2 _ (turn_itemsT _ hdt) ⟨.none, .none, ?_⟩ q)
    rw [← hsz]
    exact Heap.get?_push_size _ rfl
  show wpAny _ _ (callWith cpos (.builtin "dict.items") [.ref d] [] []) _ X.xe s1
  exact method_meetsIn F.slot_dict_items F.entry_dict_items rfl (PySem.evalArgs_none ⟨rfl, hm.typeIs, F.args_dict_items_1 _, _, meets_dict_items_raw d hs, ⟨⟨_, _, hm⟩, fin⟩⟩)
/-- the bookkeeping of a dict comprehension with tuple keys over a walk -/
theorem dcT_it {J : It} {n : Nat} {G : Hp → Prop} {Y : Nat → Hp → V → Hp → Prop} (w : Walk J n G Y) {g : TG} {tt : TT} {tk tv : TE} {vs : List Nat} {σ : St} {H1 : Hp} {D : Addr} {Qd : Hp → Prop} (Pv : Nat → Hp → Prop) (h0 : Pv 0 (upd H1 D (.dT []))) (hG : ∀ i H, i ≤ n → Pv i H → G H)
    (hs : ∀ i x H H', i < n → Pv i H → Y i H x H' → g x (wipe σ vs) H' fun σ2 H2 => wipe σ2 vs = wipe σ vs ∧ tt σ2 H2 fun b H3 =>
      if b = true then tk σ2 H3 fun y H4 => tv σ2 H4 fun z H5 => ∃ kvs k c, y = .ref c ∧ H5 c = some (.tup (k.map kV)) ∧ H5 D = some (.dT kvs) ∧ kvs.length < sizeLine ∧ Pv (i + 1) (upd H5 D (.dT (putK kvs k z))) else Pv (i + 1) H3) (hd : ∀ H, Pv n H → Qd H) :
    ∃ W : Nat → Nat → Hp → Prop, (∃ m, W 0 m (upd H1 D (.dT []))) ∧ ∀ i m H, W i m H →
      (J.stop i H ∧ Qd H) ∨ (J.go i H ∧ ∃ Nx : Hp → Prop, (∀ H', Nx H' → ∃ m', m' < m ∧ W (i + 1) m' H') ∧ ∀ x H', J.yld i H x H' → g x (wipe σ vs) H' fun σ2 H2 => wipe σ2 vs = wipe σ vs ∧ tt σ2 H2 fun b H3 =>
        if b = true then tk σ2 H3 fun y H4 => tv σ2 H4 fun z H5 => ∃ kvs k c, y = .ref c ∧ H5 c = some (.tup (k.map kV)) ∧ H5 D = some (.dT kvs) ∧ kvs.length < sizeLine ∧ Nx (upd H5 D (.dT (putK kvs k z))) else Nx H3) := by
  refine ⟨fun i m H => m = n - i ∧ i ≤ n ∧ Pv i H, ⟨n, by simp, Nat.zero_le _, h0⟩, ?_⟩
  rintro i m H ⟨rfl, hi, p⟩
  have q := hG i H hi p
  by_cases hlt : i < n
  · exact .inr ⟨w.goes i H hlt q, Pv (i + 1), fun H' p' => ⟨n - (i + 1), by omega, rfl, hlt, p'⟩, fun x H' y => hs i x H H' hlt p (w.yields i H x H' hlt q y)⟩
  · have e : i = n := by omega
    subst e
    exact .inl ⟨w.stops H q, hd H p⟩
end L2

set_option Elab.async false
set_option linter.all false
set_option maxRecDepth 100000
set_option maxHeartbeats 4000000
namespace K8
open PySem L2
/-! ### lists of pairs, each in a tuple of its own -/
abbrev Pt := Addr × Nat × Nat
abbrev prV (p : Nat × Nat) : List V := [.int (p.1 : Int), .int (p.2 : Int)]
abbrev kp (p : Nat × Nat) : List L2.Key := [.inl (p.1 : Int), .inl (p.2 : Int)]
def Pts (H : Hp) (ts : List Pt) : Prop := ∀ t ∈ ts, H t.1 = some (.tup (prV t.2))
theorem Pts.same {H H' : Hp} {ts : List Pt} (h : Pts H ts) (s : Same H H') : Pts H' ts := fun t m => s _ _ (h t m)
theorem Pts.snoc {H : Hp} {ts : List Pt} {t : Pt} (h : Pts H ts) (e : H t.1 = some (.tup (prV t.2))) : Pts H (ts ++ [t]) := fun u m => by
  rcases List.mem_append.mp m with m | m
  · exact h u m
  · rw [List.mem_singleton.mp m]; exact e
theorem Pts.lstU {H : Hp} {D : Addr} {ys : List V} {ts : List Pt} {o : HO} (h : Pts H ts) (e : H D = some (.lst ys)) : Pts (upd H D o) ts := fun t m => by
  have q := h t m
  rw [upd_ne (fun z => by rw [z, e] at q; cases q)]
  exact q
def prs (n : Nat) : List (Nat × Nat) := (List.range n).flatMap fun s => (List.range n).map fun t => (s, t)
def uprs (n : Nat) : List (Nat × Nat) := (prs n).filter fun p => p.1 != p.2
theorem mem_prs {n : Nat} {p : Nat × Nat} : p ∈ prs n ↔ p.1 < n ∧ p.2 < n := by
  unfold prs
  simp only [List.mem_flatMap, List.mem_map, List.mem_range]
  constructor
  · rintro ⟨s, h1, t, h2, rfl⟩; exact ⟨h1, h2⟩
  · rintro ⟨h1, h2⟩; exact ⟨p.1, h1, p.2, h2, rfl⟩
theorem uprs_len {n : Nat} (h : n ≤ 8) : (uprs n).length ≤ 64 := by
  have h2 : ∀ n : Fin 9, (uprs n).length ≤ 64 := by decide +kernel
  exact h2 ⟨n, by omega⟩
/-- index_pairs(n) -/
def spIxPrs : Sp := fun vs H Q _ => ∃ n : Nat, vs = [.int (n : Int)] ∧ n ≤ 8 ∧ ∀ (l : Addr) (ts : List Pt) (H' : Hp), Same H H' → H' l = some (.lst (rfs ts)) → Pts H' ts → ts.map (·.2) = prs n → Q (.ref l) H'
def spUnlike : Sp := fun vs H Q _ => ∃ n : Nat, vs = [.int (n : Int)] ∧ n ≤ 8 ∧ ∀ (l : Addr) (ts : List Pt) (H' : Hp), Same H H' → H' l = some (.lst (rfs ts)) → Pts H' ts → ts.map (·.2) = uprs n → Q (.ref l) H'
theorem prs_len : ∀ n : Nat, n ≤ 8 → (prs n).length ≤ 64 := by
  have h : ∀ n : Fin 9, (prs n).length ≤ 64 := by decide +kernel
  intro n hn
  exact h ⟨n, by omega⟩
def rowsTo (n i : Nat) : List (Nat × Nat) := (List.range i).flatMap fun s => (List.range n).map fun t => (s, t)
theorem rowsTo_succ (n i : Nat) : rowsTo n (i + 1) = rowsTo n i ++ (List.range n).map fun t => (i, t) := by
  unfold rowsTo
  rw [List.range_succ, List.flatMap_append]
  congr 1
  simp
theorem rowsTo_len (n : Nat) : ∀ i, (rowsTo n i).length = i * n
  | 0 => by simp [rowsTo]
  | i + 1 => by rw [rowsTo_succ, List.length_append, rowsTo_len n i, List.length_map, List.length_range, Nat.succ_mul]
section
variable {P : Program} {w : World} {K : PySem.W.Frag} {mg : Str → Option Value} {base : Heap} {C CC B : Addr}
abbrev s_index_pairs : Stmt := top 17
theorem sc_index_pairs : FnScope ["many", "one", "other"] ["many"] (defScope s_index_pairs) := ⟨rfl, rfl, rfl, by decide +kernel, rfl, by decide +kernel, by decide +kernel⟩
theorem ok_index_pairs {f : Addr} {fd : FuncData} (F : Fun K "index_pairs" "index_pairs" s_index_pairs f fd) (T : Bm mg) : FnOk P w K mg base CX0 1 f fd ["many"] spIxPrs := by
  refine F.ok sc_index_pairs (fun vs H Q E h => ?_) (fun cdv A outer s H vs Q E hr h => ?_)
  · obtain ⟨n, rfl, _⟩ := h
    rfl
  · obtain ⟨n, rfl, hn, k⟩ := h
    refine ⟨_, (pss_one (ps_ret (pe_lc2 (own := [("one", 1), ("other", 2)]) (vs1 := [2]) rfl sc_index_pairs.nd (pi_range1 (by rfl) T.n_range (pa_cons (pv 0) pa_nil)) (blkOk_by (N := ["many", "one", "other"]) (sc := defScope s_index_pairs) (by decide +kernel)) (by decide)
      (fun _ _ _ _ _ => (pg_name (i := 1) sc_index_pairs.nd rfl (Or.inl rfl))) (fun _ _ _ _ _ => pts_nil) (fun _ _ _ _ _ => (pi_range1 (by rfl) T.n_range (pa_cons (pv 0) pa_nil))) (fun _ _ _ _ _ => (pg_name (i := 2) sc_index_pairs.nd rfl (Or.inl rfl))) (fun _ _ _ _ _ => pts_nil)
      (fun _ _ _ _ _ => (pe_tup (pa_cons (pv 1) (pa_cons (pv 2) pa_nil))))))), ?_⟩
    refine ⟨_, rfl, _, rfl, by omega, by omega, fun D nD => ?_⟩
    rw [Int.toNat_natCast]
    let Pv : Nat → Nat → Hp → Prop := fun i j H' => ∃ ts : List Pt, Same H H' ∧ H' D = some (.lst (rfs ts)) ∧ Pts H' ts ∧ ts.map (·.2) = rowsTo n i ++ (List.range j).map fun t => (i, t)
    refine ⟨fun i m H' => m + i = n ∧ Pv i 0 H', ⟨n, rfl, [], Same.put nD, upd_same, fun _ m => (by cases m), rfl⟩, fun i m H1 ⟨em, p⟩ => ?_⟩
    cases m with
    | zero =>
      obtain rfl : i = n := by omega
      obtain ⟨ts, s1, e1, p1, q1⟩ := p
      refine .inl ⟨Nat.le_refl _, k D ts H1 s1 e1 p1 ?_⟩
      rw [q1]
      simp [rowsTo, prs]
    | succ m =>
      refine .inr ⟨show i < n by omega, Pv (i + 1) 0, fun H' p' => ⟨m, Nat.lt_succ_self m, by omega, p'⟩, fun x H' y => ?_⟩
      obtain ⟨e, y⟩ := y
      subst e y
      refine ⟨rfl, yes_of ?_⟩
      refine ⟨_, rfl, _, rfl, by omega, by omega, ?_⟩
      rw [Int.toNat_natCast]
      refine ⟨fun j m' H' => m' + j = n ∧ Pv i j H', ⟨n, rfl, p⟩, fun j m' H2 ⟨em', p'⟩ => ?_⟩
      cases m' with
      | zero =>
        obtain rfl : j = n := by omega
        obtain ⟨ts, s1, e1, p1, q1⟩ := p'
        refine .inl ⟨Nat.le_refl _, ts, s1, e1, p1, ?_⟩
        rw [q1, rowsTo_succ]
        simp
      | succ m' =>
        refine .inr ⟨show j < n by omega, Pv i (j + 1), fun H' p' => ⟨m', Nat.lt_succ_self m', by omega, p'⟩, fun x H' y => ?_⟩
        obtain ⟨e, y⟩ := y
        subst e y
        refine ⟨rfl, yes_of ?_⟩
        obtain ⟨ts, s1, e1, p1, q1⟩ := p'
        refine ⟨_, rfl, _, rfl, by show 2 ≤ sizeLine; decide, fun t nt => ?_⟩
        have len : ts.length ≤ 64 := by
          have := congrArg List.length q1
          rw [List.length_map, List.length_append, rowsTo_len, List.length_map, List.length_range] at this
          have h1 : (i + 1) * n ≤ n * n := Nat.mul_le_mul_right n (by omega)
          have h2 : n * n ≤ 8 * 8 := Nat.mul_le_mul hn hn
          rw [Nat.succ_mul] at h1
          omega
        refine ⟨rfs ts, Same.put nt _ _ e1, by rw [rfs_len]; exact small_len (by omega), ts ++ [(t, i, j)], ?_, ?_, ?_, ?_⟩
        · exact Same.but (fun b u e => Same.put nt _ _ (s1 b u e)) nD
        · rw [upd_same, rfs_snoc]
        · have ne : ∀ b u, H' b = some u → u ≠ HO.lst (rfs ts) → b ≠ D := fun b u e z q => z (by rw [q, e1] at e; exact (Option.some.inj e).symm)
          refine Pts.snoc (fun u m => ?_) ?_
          · rw [upd_ne (ne _ _ (p1 u m) (by intro z; cases z))]
            exact Same.put nt _ _ (p1 u m)
          · have nDt : t ≠ D := fun z => by rw [z, e1] at nt; cases nt
            rw [upd_ne nDt, upd_same]
            simp
        · rw [List.map_append, q1, List.range_succ, List.map_append, List.append_assoc]
          rfl
abbrev s_unlike_pairs : Stmt := top 18
theorem sc_unlike_pairs : FnScope ["many", "one", "other"] ["many"] (defScope s_unlike_pairs) := ⟨rfl, rfl, rfl, by decide +kernel, rfl, by decide +kernel, by decide +kernel⟩
theorem ok_unlike {f : Addr} {fd : FuncData} (F : Fun K "unlike_pairs" "unlike_pairs" s_unlike_pairs f fd) (c_index_pairs : Cal P w K mg base 1 "index_pairs" ["many"] spIxPrs) : FnOk P w K mg base CX0 2 f fd ["many"] spUnlike := by
  refine F.ok sc_unlike_pairs (fun vs H Q E h => ?_) (fun cdv A outer s H vs Q E hr h => ?_)
  · obtain ⟨n, rfl, _⟩ := h
    rfl
  · obtain ⟨n, rfl, hn, k⟩ := h
    refine ⟨_, (pss_one (ps_ret (pe_lc (own := [("one", 1), ("other", 2)]) (g := gTup K 2 (gCons (gName 1) (gCons (gName 2) gNil))) rfl sc_unlike_pairs.nd (pi_list (pe_cal c_index_pairs (hr.mono (by decide)) rfl (pa_cons (pv 0) pa_nil))) (blkOk_by (N := ["many", "one", "other"]) (sc := defScope s_unlike_pairs) (by decide +kernel)) (fun _ _ _ _ _ => (pg_tup (by rfl) (pgs_cons (pg_name (i := 1) sc_unlike_pairs.nd rfl (Or.inl rfl)) (pgs_cons (pg_name (i := 2) sc_unlike_pairs.nd rfl (Or.inl rfl)) pgs_nil)))) (fun _ _ _ _ _ => (pts_one (pt_cmpR op_ne (pv 1) (pv 2) (nomark _)))) (fun _ _ _ _ _ => (pe_tup (pa_cons (pv 1) (pa_cons (pv 2) pa_nil))))))), ?_⟩
    refine ⟨_, rfl, n, rfl, hn, fun l ts H1 s1 el pt qt => ?_⟩
    have lt : ts.length ≤ 64 := by
      have := congrArg List.length qt
      rw [List.length_map] at this
      rw [this]; exact prs_len n hn
    refine ⟨l, rfl, ⟨_, SqL.of el⟩, fun D nD => ?_⟩
    refine lc_list (K := K) (a := l) (xs := rfs ts) (fun i H' => Same H1 H' ∧ ∃ us : List Pt, H' D = some (.lst (rfs us)) ∧ Pts H' us ∧ us.map (·.2) = ((ts.take i).map (·.2)).filter fun p => p.1 != p.2) ⟨Same.put nD, [], upd_same, fun _ m => (by cases m), rfl⟩ (fun i H' _ h => SqL.of (h.1 _ _ el)) ?_ ?_
    · rintro i y H' hy ⟨s2, us, eD, pu, qu⟩
      obtain ⟨r, hr2, mr, rfl⟩ := rfs_at hy
      have il := (List.getElem?_eq_some_iff.mp hr2).1
      refine ⟨r.1, prV r.2, rfl, SqT.of (s2 _ _ (pt r mr)), rfl, _, _, rfl, _, _, rfl, rfl, rfl, ?_⟩
      refine ⟨_, rfl, _, rfl, rfl, _, rfl, ?_⟩
      have take : (ts.take (i + 1)).map (·.2) = (ts.take i).map (·.2) ++ [r.2] := by rw [take_more hr2, List.map_append]; rfl
      by_cases e : r.2.1 = r.2.2
      · refine iteFe (by simp [e]) ⟨s2, us, eD, pu, ?_⟩
        rw [take, List.filter_append, qu, List.filter_cons, if_neg (by simp [e])]
        simp
      · refine iteTe (by simp; omega) ?_
        refine ⟨_, rfl, _, rfl, by show 2 ≤ sizeLine; decide, fun t nt => ?_⟩
        have st := Same.put (o := .tup (prV r.2)) nt
        have ul : us.length ≤ 64 := by
          have := congrArg List.length qu
          rw [List.length_map] at this
          have h2 := List.length_filter_le (fun p : Nat × Nat => p.1 != p.2) ((ts.take i).map (·.2))
          rw [List.length_map, List.length_take] at h2
          omega
        have eD2 := st _ _ eD
        refine ⟨rfs us, eD2, by rw [rfs_len]; exact small_len (by omega), Same.but (fun b u e => st _ _ (s2 _ _ e)) nD, us ++ [(t, r.2)], by rw [upd_same, rfs_snoc], ?_, ?_⟩
        · refine Pts.lstU (Pts.snoc (pu.same st) ?_) eD2
          exact upd_same
        · rw [List.map_append, qu, take, List.filter_append, List.filter_cons, if_pos (by simp [e])]
          rfl
    · rintro H2 ⟨s2, us, eD, pu, qu⟩
      refine k D us H2 (s1.trans s2) eD pu ?_
      rw [qu, rfs_len, List.take_length, qt]
      rfl
end
end K8

set_option Elab.async false
set_option linter.all false
set_option maxRecDepth 100000
set_option maxHeartbeats 4000000
namespace K8
open PySem L2
/-! ### dicts from pairs -/
abbrev kvE {α : Type} (es : List (Addr × (Nat × Nat) × α)) : List (List L2.Key × V) := es.map fun e => (kp e.2.1, V.ref e.1)
/-- at d a dict from pairs to shares of these values -/
def PlanAt (C : Addr) (H : Hp) (d : Addr) (L : List ((Nat × Nat) × Rat)) : Prop := ∃ es : List (Addr × (Nat × Nat) × Rat), H d = some (.dT (kvE es)) ∧ es.map (·.2) = L ∧ ∀ e ∈ es, IsS C H e.1 e.2.2
theorem PlanAt.same {C : Addr} {H H' : Hp} {d : Addr} {L : List ((Nat × Nat) × Rat)} (h : PlanAt C H d L) (s : Same H H') : PlanAt C H' d L := let ⟨es, h1, h2, h3⟩ := h; ⟨es, s _ _ h1, h2, fun e m => (h3 e m).same s⟩
theorem kp_inj {p q : Nat × Nat} (h : kp p = kp q) : p = q := by
  injection h with h1 h2
  injection h2 with h2 _
  injection h1 with h1
  injection h2 with h2
  exact Prod.ext (by omega) (by omega)
theorem val_new {α : Type} {es : List (Addr × (Nat × Nat) × α)} {p : Nat × Nat} (h : p ∉ es.map fun e => e.2.1) : valV (kvE es) (kp p) = none := by
  induction es with
  | nil => rfl
  | cons e es ih =>
    rw [List.map_cons, List.mem_cons, not_or] at h
    rw [kvE, List.map_cons, valV_neg (fun z => h.1 (kp_inj z).symm)]
    exact ih h.2
theorem val_at {α : Type} {es : List (Addr × (Nat × Nat) × α)} (nd : (es.map fun e => e.2.1).Nodup) {e : Addr × (Nat × Nat) × α} (m : e ∈ es) : valV (kvE es) (kp e.2.1) = some (.ref e.1) := by
  induction es with
  | nil => cases m
  | cons x es ih =>
    rw [List.map_cons, List.nodup_cons] at nd
    rcases List.mem_cons.mp m with rfl | m
    · exact valV_pos rfl
    · rw [kvE, List.map_cons, valV_neg (fun z => nd.1 (by rw [kp_inj z]; exact List.mem_map.mpr ⟨e, m, rfl⟩))]
      exact ih nd.2 m
theorem put_new {α : Type} {es : List (Addr × (Nat × Nat) × α)} {p : Nat × Nat} {c : Addr} {x : α} (h : p ∉ es.map fun e => e.2.1) : putK (kvE es) (kp p) (.ref c) = kvE (es ++ [(c, p, x)]) := by
  rw [putK_new _ (val_new h), kvE, kvE, List.map_append]
  rfl
theorem kvE_len {α : Type} {es : List (Addr × (Nat × Nat) × α)} : (kvE es).length = es.length := List.length_map _
theorem kvE_at {α : Type} {es : List (Addr × (Nat × Nat) × α)} {i : Nat} {k : List L2.Key} {v : V} (h : (kvE es)[i]? = some (k, v)) : ∃ e, es[i]? = some e ∧ e ∈ es ∧ k = kp e.2.1 ∧ v = .ref e.1 := by
  rw [kvE, List.getElem?_map] at h
  cases q : es[i]? with
  | none => rw [q] at h; cases h
  | some e =>
    rw [q] at h
    injection h with h
    injection h with h1 h2
    exact ⟨e, rfl, List.mem_of_getElem? q, h1.symm, h2.symm⟩
theorem map_keys {α : Type} {es : List (Addr × (Nat × Nat) × α)} {L : List ((Nat × Nat) × α)} (h : es.map (·.2) = L) : (es.map fun e => e.2.1) = L.map (·.1) := by
  rw [← h, List.map_map]
  rfl
theorem notin_take {α β : Type} {es : List α} {f : α → β} {i : Nat} {e : α} (nd : (es.map f).Nodup) (he : es[i]? = some e) : f e ∉ (es.take i).map f := by
  have h : ((es.take (i + 1)).map f).Nodup := nd.sublist ((List.take_sublist _ _).map f)
  rw [take_more he, List.map_append, List.nodup_append] at h
  intro m
  exact h.2.2 _ m _ (by simp) rfl
/-- without_zeros(amounts) -/
def noZ (L : List ((Nat × Nat) × Rat)) : List ((Nat × Nat) × Rat) := L.filter fun e => e.2 != 0
def spWZ (C : Addr) : Sp := fun vs H Q _ => ∃ (a : Addr) (L : List ((Nat × Nat) × Rat)), vs = [.ref a] ∧ PlanAt C H a L ∧ (L.map (·.1)).Nodup ∧ L.length ≤ 64 ∧ ∀ (d : Addr) (H' : Hp), Same H H' → H d = none → PlanAt C H' d (noZ L) → Q (.ref d) H'
section
variable {P : Program} {w : World} {K : PySem.W.Frag} {mg : Str → Option Value} {base : Heap} {C CC B : Addr}
abbrev s_wz : Stmt := top 35
theorem sc_wz : FnScope ["amounts", "pair", "amount"] ["amounts"] (defScope s_wz) := ⟨rfl, rfl, rfl, by decide +kernel, rfl, by decide +kernel, by decide +kernel⟩
theorem ok_wz {f : Addr} {fd : FuncData} (F : Fun K "without_zeros" "without_zeros" s_wz f fd) (eq : EqT P w K mg base C) : FnOk P w K mg base CX0 4 f fd ["amounts"] (spWZ C) := by
  refine F.ok sc_wz (fun vs H Q E h => ?_) (fun cdv A outer s H vs Q E hr h => ?_)
  · obtain ⟨a, L, rfl, _⟩ := h
    rfl
  · obtain ⟨a, L, rfl, ⟨es, ea, qe, ie⟩, nd, l64, k⟩ := h
    obtain ⟨g, gd, O, G, bG⟩ := eq.ex
    have hu := hu_of hr
    refine ⟨_, (pss_one (ps_lock (ps_ret (pe_dcT (own := [("pair", 1), ("amount", 2)]) (g := gTup K 2 (gCons (gName 1) (gCons (gName 2) gNil))) rfl (by exact hu) sc_wz.nd (pi_itemsT (pv 0)) (blkOk_by (N := ["amounts", "pair", "amount"]) (sc := defScope s_wz) (by decide +kernel)) (fun _ _ _ _ _ => (pg_tup (by rfl) (pgs_cons (pg_name (i := 1) sc_wz.nd rfl (Or.inl rfl)) (pgs_cons (pg_name (i := 2) sc_wz.nd rfl (Or.inl rfl)) pgs_nil))))
      (fun _ _ _ _ _ => (pts_one (pt_cmpR (show OpR _ _ (rOwnB K C (EqS K C) .NotEq) from op_ownB is_ne G O bG pass0 (hr.mono (by decide))) (pv 2) pe_int (nomark _)))) (fun _ _ _ _ _ => (pv 1)) (fun _ _ _ _ _ => (pv 2)))))), ?_⟩
    refine ⟨a, _, ea, trivial, fun od => ?_⟩
    refine ⟨_, rfl, a, od, _, rfl, upd_same, fun D nD => ?_⟩
    have aD : a ≠ D := fun z => by rw [z, ← z, upd_same] at nD; cases nD
    have nDH : H D = none := by rw [upd_ne (Ne.symm aD)] at nD; exact nD
    have le : es.length ≤ 64 := by rw [← qe, List.length_map] at l64; exact l64
    have ndE : (es.map fun e => e.2.1).Nodup := by rw [map_keys qe]; exact nd
    refine dcT_it walk_itemsT (fun i H' => H' a = some (.frz od (.dT (kvE es))) ∧ (∀ b u, b ≠ a → H b = some u → H' b = some u) ∧ ∃ us : List (Addr × (Nat × Nat) × Rat), H' D = some (.dT (kvE us)) ∧ us = (es.take i).filter (fun e => e.2.2 != 0)) ⟨by rw [upd_ne aD, upd_same], fun b u ne e => by rw [upd_ne (fun z => by rw [z, nDH] at e; cases e), upd_ne ne]; exact e, [], upd_same, rfl⟩ (fun i H' _ h => h.1) ?_ ?_
    · rintro i x H1 H' hi ⟨f1, s1, us, eD, rfl⟩ ⟨T, kk, v, q, hkv, hq, rfl, nT, rfl⟩
      obtain ⟨e, he, me, rfl, rfl⟩ := kvE_at hkv
      refine ⟨T, [.ref q, .ref e.1], rfl, SqT.of upd_same, rfl, _, _, rfl, _, _, rfl, rfl, rfl, ?_⟩
      have sT := Same.put (o := .tup [.ref q, .ref e.1]) nT
      generalize (upd H1 T (.tup [.ref q, .ref e.1])) = H2 at sT ⊢
      obtain ⟨dx, eS⟩ := ie e me
      have nea : e.1 ≠ a := fun z => by rw [z, ea] at eS; cases eS
      have eS1 := s1 _ _ nea eS
      have eS2 := sT _ _ eS1
      refine ⟨_, rfl, decide (e.2.2 = ((0 : Int) : Rat)), .inl ⟨e.1, dx, _, rfl, eS2, eqS_int ⟨dx, eS2⟩, .inl ⟨_, .int 0⟩⟩, _, rfl, ?_⟩
      have tk : (es.take (i + 1)).filter (fun e => e.2.2 != 0) = (es.take i).filter (fun e => e.2.2 != 0) ++ if e.2.2 != 0 then [e] else [] := by
        rw [take_more he, List.filter_append, List.filter_cons]
        split <;> rfl
      by_cases z : e.2.2 = 0
      · refine iteFe (by rw [z]; rfl) ⟨sT _ _ f1, fun b u ne e => sT _ _ (s1 b u ne e), _, sT _ _ eD, ?_⟩
        rw [tk, if_neg (by simp [z]), List.append_nil]
      · refine iteTe (by rw [decide_eq_false (by exact z)]; rfl) ?_
        have eD2 := sT _ _ eD
        refine ⟨_, rfl, _, rfl, _, kp e.2.1, q, rfl, sT _ _ hq, eD2, ?_, by rw [upd_ne aD]; exact sT _ _ f1, fun b u ne e => ?_, (es.take i).filter (fun e => e.2.2 != 0) ++ [e], ?_, ?_⟩
        · rw [kvE_len]
          have := List.length_filter_le (fun e : Addr × (Nat × Nat) × Rat => e.2.2 != 0) (es.take i)
          rw [List.length_take] at this
          exact small_len (by omega)
        · rw [upd_ne (fun z => by rw [z, nDH] at e; cases e)]
          exact sT _ _ (s1 b u ne e)
        · rw [upd_same]
          have nin : e.2.1 ∉ ((es.take i).filter (fun e => e.2.2 != 0)).map fun e => e.2.1 := fun m => by
            obtain ⟨e2, m2, q2⟩ := List.mem_map.mp m
            exact notin_take ndE he (List.mem_map.mpr ⟨e2, (List.mem_filter.mp m2).1, q2⟩)
          exact congrArg (fun x => some (HO.dT x)) (put_new (x := e.2.2) nin)
        · rw [tk, if_pos (by simp [z])]
    · rintro H2 ⟨f2, s2, us, eD, rfl⟩
      rw [kvE_len, List.take_length] at eD
      have sA : Same H (upd H2 a (.dT (kvE es))) := fun b u e => by
        by_cases q : b = a
        · rw [q, upd_same, ← ea, ← q]; exact e
        · rw [upd_ne q]; exact s2 b u q e
      refine ⟨f2, k D _ sA nDH ⟨_, by rw [upd_ne (Ne.symm aD)]; exact eD, ?_, fun e m => (ie e ((List.mem_filter.mp m).1)).same sA⟩⟩
      rw [← qe, noZ, List.filter_map]
      rfl
end
end K8

set_option Elab.async false
set_option linter.all false
set_option maxRecDepth 100000
set_option maxHeartbeats 4000000
namespace K8
open PySem L2
/-! ### rows as rational numbers -/
def RowQ (C : Addr) (H : Hp) (b : Addr) (n : Nat) (f : Nat → Rat) : Prop := ∃ as : List Addr, H b = some (.tup (as.map V.ref)) ∧ as.length = n ∧ ∀ (i : Nat) (a : Addr), as[i]? = some a → IsS C H a (f i)
theorem RowQ.same {C : Addr} {H H' : Hp} {b : Addr} {n : Nat} {f : Nat → Rat} (h : RowQ C H b n f) (s : Same H H') : RowQ C H' b n f := let ⟨as, h1, h2, h3⟩ := h; ⟨as, s _ _ h1, h2, fun i a e => (h3 i a e).same s⟩
theorem RowQ.keep {C p : Addr} {H H' : Hp} {b : Addr} {n : Nat} {f : Nat → Rat} (h : RowQ C H b n f) (k : Keep p H H') (hp : PoolAt H p) : RowQ C H' b n f := let ⟨as, h1, h2, h3⟩ := h; ⟨as, k _ _ h1 (hp.ne h1), h2, fun i a e => (h3 i a e).keep k hp⟩
theorem RowQ.at {C : Addr} {H : Hp} {b : Addr} {n : Nat} {f : Nat → Rat} {K : PySem.W.Frag} (h : RowQ C H b n f) {i : Nat} (hi : i < n) : ∃ xs a, SqT K H b xs ∧ atI xs (i : Int) = some (.ref a) ∧ IsS C H a (f i) := by
  obtain ⟨as, h1, h2, h3⟩ := h
  have e : as[i]? = some as[i] := List.getElem?_eq_getElem (by omega)
  exact ⟨_, as[i], SqT.of h1, atI_nat (by rw [List.getElem?_map, e]; rfl), h3 i _ e⟩
def fW (ws : List Nat) (i : Nat) : Rat := Rat.divInt (ws.getD i 0 : Nat) (ws.sum : Nat)
theorem RowSh.q {C : Addr} {H : Hp} {n : Nat} {b : Addr} {ws : List Nat} (h : RowSh C H n (b, ws)) : RowQ C H b n (fW ws) := by
  obtain ⟨as, h1, h2, h3, h4⟩ := h
  refine ⟨as, h1, h2, fun i a e => ?_⟩
  obtain ⟨dx, w, q1, q2⟩ := h4 i a e
  have p : 0 < ws.sum := h3.2.1
  have l := low_rat (a := (w : Int)) (b := (ws.sum : Int)) (q := fW ws i) (by omega) (by unfold fW; rw [List.getD, q1]; rfl)
  exact ⟨dx, by rw [← l.1, ← l.2]; exact q2⟩
theorem fW_sz {n : Nat} {ws : List Nat} (h : Tps n ws) (n8 : n ≤ 8) (i : Nat) : Sz 50 (fW ws i) := by
  have p : 0 < ws.sum := h.2.1
  have s1 : ws.sum ≤ 8 * 2 ^ 40 := by
    have h1 : ∀ l : List Nat, (∀ w ∈ l, w < 2 ^ 40) → l.sum ≤ l.length * 2 ^ 40 := fun l => by
      induction l with
      | nil => intro _; exact Nat.zero_le _
      | cons a l ih =>
        intro hm
        have := ih fun w m => hm w (List.mem_cons_of_mem _ m)
        have := hm a List.mem_cons_self
        rw [List.sum_cons, List.length_cons, Nat.succ_mul]
        omega
    refine Nat.le_trans (h1 ws h.2.2) ?_
    rw [h.1]
    exact Nat.mul_le_mul_right _ n8
  refine sz_low (a := ((ws.getD i 0 : Nat) : Int)) (b := ((ws.sum : Nat) : Int)) (by omega) rfl ?_ ?_
  · rw [Int.natAbs_natCast]
    have : ws.getD i 0 < 2 ^ 40 := by
      rw [List.getD]
      cases e : ws[i]? with
      | none => exact Nat.pow_pos (by decide)
      | some w => exact h.2.2 w (List.mem_of_getElem? e)
    exact Nat.lt_of_lt_of_le this (by decide)
  · rw [Int.natAbs_natCast]
    exact Nat.lt_of_le_of_lt s1 (by decide)
theorem prs_nd {n : Nat} (h : n ≤ 8) : (prs n).Nodup := by
  have h2 : ∀ n : Fin 9, (prs n).Nodup := by decide +kernel
  exact h2 ⟨n, by omega⟩
theorem uprs_nd {n : Nat} (h : n ≤ 8) : (uprs n).Nodup := (prs_nd h).filter _
/-- the first i of the pairs are in the dict at D -/
def PvPlan (C D : Addr) (ts : List Pt) (F : Nat × Nat → Rat) (H0 : Hp) (i : Nat) (H' : Hp) : Prop := Same H0 H' ∧ ∃ es : List (Addr × (Nat × Nat) × Rat), H' D = some (.dT (kvE es)) ∧ es.map (·.2) = ((ts.take i).map (·.2)).map (fun p => (p, F p)) ∧ ∀ e ∈ es, IsS C H' e.1 e.2.2
theorem PvPlan.start {C D : Addr} {ts : List Pt} {F : Nat × Nat → Rat} {H0 : Hp} (n : H0 D = none) : PvPlan C D ts F H0 0 (upd H0 D (.dT [])) := ⟨Same.put n, [], upd_same, rfl, fun _ m => by cases m⟩
theorem PvPlan.step {C D : Addr} {ts : List Pt} {F : Nat × Nat → Rat} {H0 H' H5 : Hp} {i : Nat} {r : Pt} {c z : Addr} (h : PvPlan C D ts F H0 i H') (n : H0 D = none) (nd : (ts.map (·.2)).Nodup) (l : ts.length ≤ 64) (he : ts[i]? = some r) (s : Same H' H5) (ec : H5 c = some (.tup (prV r.2))) (iz : IsS C H5 z (F r.2)) :
    ∃ kvs k c', V.ref c = .ref c' ∧ H5 c' = some (.tup (k.map kV)) ∧ H5 D = some (.dT kvs) ∧ kvs.length < sizeLine ∧ PvPlan C D ts F H0 (i + 1) (upd H5 D (.dT (putK kvs k (.ref z)))) := by
  obtain ⟨s0, es, eD, qe, ie⟩ := h
  have eD5 := s _ _ eD
  have le : es.length ≤ 64 := by
    have := congrArg List.length qe
    simp only [List.length_map, List.length_take] at this
    omega
  have nin : r.2 ∉ es.map fun e => e.2.1 := by
    rw [map_keys qe]
    rw [List.map_map, show ((fun x : (Nat × Nat) × Rat => x.1) ∘ fun p => (p, F p)) = id from rfl, List.map_id]
    exact notin_take nd he
  refine ⟨kvE es, kp r.2, c, rfl, ec, eD5, by rw [kvE_len]; exact small_len (by omega), Same.but (fun b u e => s _ _ (s0 _ _ e)) n, es ++ [(z, r.2, F r.2)], ?_, ?_, fun e m => ?_⟩
  · rw [upd_same]
    exact congrArg (fun x => some (HO.dT x)) (put_new nin)
  · rw [take_more he]
    simp only [List.map_append, qe]
    rfl
  · have up : ∀ {a : Addr} {q : Rat}, IsS C H5 a q → IsS C (upd H5 D (.dT (putK (kvE es) (kp r.2) (.ref z)))) a q := fun {a q} ⟨dx, e⟩ => ⟨dx, by rw [upd_ne (fun z => by rw [z, eD5] at e; cases e)]; exact e⟩
    rcases List.mem_append.mp m with m | m
    · exact up ((ie e m).same s)
    · rw [List.mem_singleton.mp m]; exact up iz
theorem PvPlan.done {C D : Addr} {ts : List Pt} {F : Nat × Nat → Rat} {H0 H' : Hp} {ps : List (Nat × Nat)} (h : PvPlan C D ts F H0 ts.length H') (e : ts.map (·.2) = ps) : Same H0 H' ∧ PlanAt C H' D (ps.map fun p => (p, F p)) := by
  obtain ⟨s0, es, eD, qe, ie⟩ := h
  rw [List.take_length, e] at qe
  exact ⟨s0, es, eD, qe, ie⟩
theorem keys_of {ps : List (Nat × Nat)} {F : Nat × Nat → Rat} : ((ps.map fun p => (p, F p)).map (·.1)) = ps := by
  rw [List.map_map]
  exact List.map_id _
/-- free_tie(p, q) -/
def freeL (n : Nat) (f g : Nat → Rat) : List ((Nat × Nat) × Rat) := noZ ((prs n).map fun p => (p, f p.1 * g p.2))
def spFree (C : Addr) : Sp := fun vs H Q _ => ∃ (bp bq : Addr) (n : Nat) (f g : Nat → Rat), vs = [.ref bp, .ref bq] ∧ n ≤ 8 ∧ RowQ C H bp n f ∧ RowQ C H bq n g ∧ (∀ i, Sz 50 (f i)) ∧ (∀ i, Sz 50 (g i)) ∧
  ∀ (d : Addr) (H' : Hp), Same H H' → H d = none → PlanAt C H' d (freeL n f g) → Q (.ref d) H'
section
variable {P : Program} {w : World} {K : PySem.W.Frag} {mg : Str → Option Value} {base : Heap} {C CC B : Addr}
abbrev s_free : Stmt := top 34
theorem sc_free : FnScope ["p", "q", "i", "j"] ["p", "q"] (defScope s_free) := ⟨rfl, rfl, rfl, by decide +kernel, rfl, by decide +kernel, by decide +kernel⟩
theorem ok_free {f : Addr} {fd : FuncData} (F : Fun K "free_tie" "free_tie" s_free f fd) (T : Bm mg) (ml : MulL P w K mg base C) (c_ip : Cal P w K mg base 1 "index_pairs" ["many"] spIxPrs) (c_wz : Cal P w K mg base 4 "without_zeros" ["amounts"] (spWZ C)) : FnOk P w K mg base CX0 8 f fd ["p", "q"] (spFree C) := by
  refine F.ok sc_free (fun vs H Q E h => ?_) (fun cdv A outer s H vs Q E hr h => ?_)
  · obtain ⟨bp, bq, n, f, g, rfl, _⟩ := h
    rfl
  · obtain ⟨bp, bq, n, f, g, rfl, n8, rp, rq, zf, zg, k⟩ := h
    have hu := hu_of hr
    refine ⟨_, (pss_one (ps_ret (pe_cal c_wz (hr.mono (by decide)) rfl (pa_cons (pe_dcT (own := [("i", 2), ("j", 3)]) (g := gTup K 2 (gCons (gName 2) (gCons (gName 3) gNil))) rfl (by exact hu) sc_free.nd (pi_list (pe_cal c_ip (hr.mono (by decide)) rfl (pa_cons (pe_callB call_len_seq (by rfl) T.b.n_len PySem.boot_len (pa_cons (pv 0) pa_nil)) pa_nil))) (blkOk_by (N := ["p", "q", "i", "j"]) (sc := defScope s_free) (by decide +kernel)) (fun _ _ _ _ _ => (pg_tup (by rfl) (pgs_cons (pg_name (i := 2) sc_free.nd rfl (Or.inl rfl)) (pgs_cons (pg_name (i := 3) sc_free.nd rfl (Or.inl rfl)) pgs_nil))))
      (fun _ _ _ _ _ => pts_nil) (fun _ _ _ _ _ => (pe_tup (pa_cons (pv 2) (pa_cons (pv 3) pa_nil)))) (fun _ _ _ _ _ => (pe_op (show OpR _ _ (rQ C (· * ·)) from opQ_mul ml hr) (pe_ix (show IxR _ (rIxT K) from ix_tup) (pv 0) (pv 2) (fun _ _ => rfl)) (pe_ix (show IxR _ (rIxT K) from ix_tup) (pv 1) (pv 3) (fun _ _ => rfl))))) pa_nil)))), ?_⟩
    obtain ⟨ap, ep, lp, fp⟩ := id rp
    refine ⟨_, rfl, bp, _, rfl, .inr (SqT.of ep), ?_⟩
    rw [List.length_map, lp]
    refine ⟨n, rfl, n8, fun l ts H1 s1 el pt qt => ?_⟩
    have lt : ts.length ≤ 64 := by
      have := congrArg List.length qt
      rw [List.length_map] at this
      rw [this]; exact prs_len n n8
    refine ⟨l, rfl, ⟨_, SqL.of el⟩, fun D nD => ?_⟩
    have nd : (ts.map (·.2)).Nodup := by rw [qt]; exact prs_nd n8
    have nDH : H D = none := same_free s1 nD
    refine dcT_it (walk_list (K := K) (a := l) (xs := rfs ts)) (PvPlan C D ts (fun p => f p.1 * g p.2) H1) (PvPlan.start nD) (fun i H' _ h => SqL.of (h.1 _ _ el)) ?_ ?_
    · rintro i x H' H'' hi pv ⟨rfl, hx⟩
      obtain ⟨r, hr2, mr, rfl⟩ := rfs_at hx
      have sH := s1.trans pv.1
      refine ⟨r.1, prV r.2, rfl, SqT.of (pv.1 _ _ (pt r mr)), rfl, _, _, rfl, _, _, rfl, rfl, rfl, ?_⟩
      refine yes_of ?_
      refine ⟨_, rfl, _, rfl, by show 2 ≤ sizeLine; decide, fun c nc => ?_⟩
      have sc := Same.put (o := .tup (prV r.2)) nc
      have mem := mem_prs.mp (show r.2 ∈ prs n by rw [← qt]; exact List.mem_map.mpr ⟨r, mr, rfl⟩)
      obtain ⟨xs, a1, q1, q2, q3⟩ := ((rp.same sH).same sc).at (K := K) mem.1
      obtain ⟨ys, a2, q4, q5, q6⟩ := ((rq.same sH).same sc).at (K := K) mem.2
      refine ⟨_, rfl, _, rfl, bp, xs, _, _, rfl, rfl, q1, q2, _, rfl, _, rfl, bq, ys, _, _, rfl, rfl, q4, q5, ?_⟩
      refine ⟨a1, a2, _, _, rfl, rfl, q3, q6, (zf _).mono (by decide), (zg _).mono (by decide), fun z H5 s5 iz => ?_⟩
      exact pv.step nD nd lt hr2 (sc.trans s5) (s5 _ _ upd_same) iz
    · intro H2 pv
      rw [rfs_len] at pv
      obtain ⟨s2, pl⟩ := pv.done qt
      refine ⟨D, _, rfl, pl, by rw [keys_of]; exact prs_nd n8, by rw [List.length_map]; exact prs_len n n8, fun d H3 s3 nd3 pl3 => ?_⟩
      exact k d H3 ((s1.trans s2).trans s3) (same_free (s1.trans s2) nd3) pl3
end
end K8

set_option Elab.async false
set_option linter.all false
set_option maxRecDepth 100000
set_option maxHeartbeats 4000000
/-! sum(list, start=share) -/
namespace L2
open PySem PySem.Spec PyProof.Rows
section
variable {X : Cx} {pins : List (Addr × Obj)} {σ : St} {H : Hp} {s : Shared}
theorem sum_turnsL {rA : R2} {l it S : Addr} {xs : List V} {Q : VK} (hc : X.calm = true) (op : OpN X.inn (binaryOp .Add) rA) (Pv : Nat → V → Hp → Prop) (own : ∀ i acc H, Pv i acc H → ∃ a, acc = .ref a) (row : ∀ i acc H, i ≤ xs.length → Pv i acc H → SqL X.K H l xs)
    (step : ∀ i acc x H, xs[i]? = some x → Pv i acc H → rA acc x H (Pv (i + 1))) (fin : ∀ acc H, Pv xs.length acc H → Q acc H) (ne : it ≠ S) :
    ∀ (k i : Nat) (acc : V) (v : Value) (c : Nat) (H : Hp) (s : Shared), xs.length - i = k → i ≤ xs.length → Inv X pins σ H s → RelV acc v → Pv i acc H → s.heap.IsListIter it l i → s.heap.get? S = some (sumSt v c) → FpOk X pins H it → FpOk X pins H S →
      codeAny (model X.prog X.w) X.A (.builtin "sum.loop" ⟨[.ref it, .ref S, rawInt 2, rawInt 0], []⟩) (fun r s' => match r with | .ok (.ret v) => EP X pins σ Q v s' | .ok _ => False | .error e => X.xe e s') s := by
  intro k
  induction k with
  | zero =>
    intro i acc v c H s hk hi I rv pv st hS fi fS
    have e : i = xs.length := by omega
    subst e
    obtain ⟨a, rfl⟩ := own _ _ _ pv
    obtain rfl : v = Value.ref a := rv
    obtain ⟨its, ri, pl, hz⟩ := I.list (row _ _ _ hi pv)
    have hl := ri.length
    obtain ⟨f0, f1, f2, f3, f4, f5⟩ := fi
    refine codeAny_builtin F.entry_sum_loop ?_
    rw [Around.under_plainId F.plain_sum_loop _]
    show wpAny _ X.A.in1 (seqItems? (.ref S) >>= _) _ _ s
    refine wpAny_bind (wpAny_seqItems hS rfl ?_)
    show wpAny _ X.A.in1 (tryCatch (pyNext (.ref it)) _ >>= _) _ _ s
    refine wpAny_bind (wpAny_tryCatch (wpAny_pyNext_list_end (I.ok.hd hc) st (show s.heap.IsList l its.toArray from pl.isList) (by simp; omega) fun h' eb => ?_))
    exact wpAny_pure ⟨.ref a, H, I.turned (t' := s.toks) (fun b o hb e => eb b o hb e) f0 f1 f3 f4 f5, rfl, fin _ _ pv⟩
  | succ k ih =>
    intro i acc v c H s hk hi I rv pv st hS fi fS
    have hlt : i < xs.length := by omega
    obtain ⟨a, rfl⟩ := own _ _ _ pv
    obtain rfl : v = Value.ref a := rv
    have hx : xs[i]? = some xs[i] := by simp [hlt]
    obtain ⟨its, ri, pl, hz⟩ := I.list (row _ _ _ hi pv)
    obtain ⟨u, hu, ru⟩ := ri.get hx
    have go := step i (.ref a) xs[i] H hx pv
    generalize xs[i] = x at go ru
    obtain ⟨f0, f1, f2, f3, f4, f5⟩ := id fi
    obtain ⟨g0, g1, g2, g3, g4, g5⟩ := id fS
    refine codeAny_builtin F.entry_sum_loop ?_
    rw [Around.under_plainId F.plain_sum_loop _]
    show wpAny _ X.A.in1 (seqItems? (.ref S) >>= _) _ _ s
    refine wpAny_bind (wpAny_seqItems hS rfl ?_)
    show wpAny _ X.A.in1 (tryCatch (pyNext (.ref it)) _ >>= _) _ _ s
    refine wpAny_bind (wpAny_tryCatch (wpAny_pyNext_list_item st (show s.heap.IsList l its.toArray from pl.isList) (x := u) (by simpa using hu) fun h' st' sb => ?_))
    have I1 : Inv X pins σ H { s with heap := h' } := I.turned (t' := s.toks) (fun b o hb e => (sb.2 b hb).trans e) f0 f1 f3 f4 f5
    have hS1 : h'.get? S = some (sumSt (.ref a) c) := (sb.2 S (Ne.symm ne)).trans hS
    obtain ⟨oi, ei, ci, di⟩ := id st'
    have I2 : Inv X (pins ++ [(it, oi), (S, sumSt (.ref a) c)]) σ H { s with heap := h' } := I1.pins_of fun p hp => by
      rcases List.mem_append.mp hp with hp | hp
      · exact I1.pin p (List.mem_append_right _ hp)
      · rcases List.mem_cons.mp hp with rfl | hp
        · exact ⟨ei, f0, f1, f2, fun v z => by rw [di] at z; cases z⟩
        · rw [List.mem_singleton.mp hp]
          exact ⟨hS1, g0, g1, g2, fun v z => by cases z⟩
    show wpAny _ X.A.in1 ((holding [u] (binaryOp .Add (.ref a) u)).attempt >>= _) _ _ _
    refine wpAny_bind (wpAny_attempt (wpAny_holding (wpAny_mono (op (fun _ _ => False) _ _ σ H (.ref a) x (.ref a) u _ I2.inn rfl ru go) (fun w s2 q => ?_) (fun e s2 z => z.elim))))
    obtain ⟨z, H2, I3, rz, pv2⟩ := q
    have I4 : Inv X (pins ++ [(it, oi), (S, sumSt (.ref a) c)]) σ H2 s2 := I3.outn I.ok
    obtain ⟨ki, ni, _⟩ := I4.pin (it, oi) (List.mem_append_right _ (List.mem_append_right _ List.mem_cons_self))
    obtain ⟨kS, nS, _⟩ := I4.pin (S, sumSt (.ref a) c) (List.mem_append_right _ (List.mem_append_right _ (List.mem_cons_of_mem _ List.mem_cons_self)))
    obtain ⟨a2, rfl⟩ := own _ _ _ pv2
    obtain rfl : w = Value.ref a2 := rz
    have I5 : Inv X pins σ H2 s2 := I4.unpinned
    show wpAny _ X.A.in1 (updateSeq S (fun _ => #[Value.ref a2]) >>= _) _ _ _
    refine wpAny_bind (wpAny_updateSeq kS rfl ?_)
    have hS₂ := Heap.get?_update_self (Obj.mapSeq fun _ => #[Value.ref a2]) kS rfl
    refine wpAny_bind (wpAny_letGo ?_)
    refine wpAny_bind (wpAny_updateSeq hS₂ rfl ?_)
    have hS3 := Heap.get?_update_self (Obj.mapSeq fun _ => #[Value.ref a2]) hS₂ rfl
    have oth : ∀ (b : Addr) (o : Obj), b ≠ S → s2.heap.get? b = some o → ((s2.heap.update S (Obj.mapSeq fun _ => #[Value.ref a2])).update S (Obj.mapSeq fun _ => #[Value.ref a2])).get? b = some o := fun b o hb e =>
      (Heap.get?_update_other _ _ (Ne.symm hb)).trans ((Heap.get?_update_other _ _ (Ne.symm hb)).trans e)
    have I6 : Inv X pins σ H2 { s2 with heap := (s2.heap.update S (Obj.mapSeq fun _ => #[Value.ref a2])).update S (Obj.mapSeq fun _ => #[Value.ref a2]) } := I5.turned (t' := s2.toks) oth nS g1 g3 g4 g5
    refine wpAny_pure ⟨plainId_quiet F.plain_sum_loop _, ih (i + 1) (.ref a2) (.ref a2) c H2 _ (by omega) hlt I6 rfl pv2 ⟨oi, oth it oi ne ki, by obtain ⟨o', e', c', d'⟩ := st'; rw [ei] at e'; cases e'; exact ⟨c', d'⟩⟩ hS3 ⟨ni, f1, f2, f3, f4, f5⟩ ⟨nS, g1, g2, g3, g4, g5⟩⟩
/-- sum(row, start=an instance): Pv tells the total behind i items -/
def rSumOL (K : PySem.W.Frag) (rA : R2) : List V → List V → Hp → VK → Prop := fun xs zs H Q => ∃ (l a C dx : Addr) (fs : List (Str × V)) (row : List V), xs = [.ref l] ∧ zs = [.ref a] ∧ H a = some (.ins C dx fs) ∧ NoTxt K C ∧
  ∃ Pv : Nat → V → Hp → Prop, Pv 0 (.ref a) H ∧ (∀ i acc H', Pv i acc H' → ∃ b, acc = .ref b) ∧ (∀ i acc H', i ≤ row.length → Pv i acc H' → SqL K H' l row) ∧ (∀ i acc x H', row[i]? = some x → Pv i acc H' → rA acc x H' (Pv (i + 1))) ∧ ∀ acc H', Pv row.length acc H' → Q acc H'
theorem cr_sumOL {rA : R2} (hc : X.calm = true) (op : OpN X.inn (binaryOp .Add) rA) : CallRK X (.builtin "sum") [Str.ofString "start"] (rSumOL X.K rA) := by
  intro pins s σ H xs zs us ws Q I r rz h
  obtain ⟨l, a, C, dx, fs, row, rfl, rfl, ha, nt, Pv, p0, own, kept, step, fin⟩ := h
  obtain rfl := Vals.ref1 r
  obtain rfl := Vals.ref1 rz
  obtain ⟨its, ri, pl, hz⟩ := I.list (kept 0 _ _ (Nat.zero_le _) p0)
  obtain ⟨mA, J, _⟩ := ins_get I.hok ha
  obtain ⟨od, J, _⟩ := J.look
  have n1 : ∀ M : Model, PySem.W.Looks M s.heap (isInstance (.ref a) (.type "str")) false := fun M => OC.not_inst I.kIn J nt.str
  have n2 : ∀ M : Model, PySem.W.Looks M s.heap (isInstance (.ref a) (.type "bytes")) false := fun M => OC.not_inst I.kIn J nt.byt
  have n3 : ∀ M : Model, PySem.W.Looks M s.heap (isInstance (.ref a) (.type "bytearray")) false := fun M => OC.not_inst I.kIn J nt.bar
  refine wpAny_call (codeAny_call_builtin F.plain_sum F.entry_sum ?_)
  have body : wpAny (model X.prog X.w) X.A.in1 (Builtin.«sum» ⟨[.ref l], [(Str.ofString "start", .ref a)]⟩) (fun fin s' => match fin with
      | .done f => (match (Except.ok f : Result) with | .ok (.ret v) => EP X pins σ Q v s' | .ok _ => False | .error e => X.xe e s')
      | .again c' => c'.quiet = true ∧ codeAny (model X.prog X.w) X.A c' (fun r s' => match r with | .ok (.ret v) => EP X pins σ Q v s' | .ok _ => False | .error e => X.xe e s') s') X.xe s := by
    unfold Builtin.«sum»
    simp only [List.length_cons, List.length_nil]
    rw [if_neg (by decide)]
    refine wpAny_bind (wpAny_of_eq (show Builtin.Builtins.bindParams "sum" ["start"] 0 ⟨[], [(Str.ofString "start", .ref a)]⟩ = pure [some (.ref a)] from rfl) ?_)
    refine wpAny_bind (wpAny_pyIter_list (show s.heap.IsList l its.toArray from pl.isList) ?_)
    have up : ∀ b o, s.heap.get? b = some o → (s.heap.push { cls := .type "list_iterator", data := .fields #[.ref l, .int 0 0] }).get? b = some o := fun b o e => Heap.get?_push_of_some _ e
    refine wpAny_bind (wpAny_pure ?_)
    simp only [List.forIn_cons, List.forIn_nil]
    refine wpAny_bind (wpAny_bind (wpAny_bind (n1 _ _ _ _ _ up ?_)))
    simp only [Bool.false_eq_true, if_false]
    refine wpAny_pure (wpAny_bind (wpAny_bind (n2 _ _ _ _ _ up ?_)))
    simp only [Bool.false_eq_true, if_false]
    refine wpAny_pure (wpAny_bind (wpAny_bind (n3 _ _ _ _ _ up ?_)))
    simp only [Bool.false_eq_true, if_false]
    refine wpAny_pure (wpAny_pure ?_)
    refine wpAny_bind (wpAny_newObj_type ?_)
    have I1 : Inv X pins σ H { s with heap := s.heap.push { cls := .type "list_iterator", data := .fields #[.ref l, .int 0 0] } } := I.kept (t' := s.toks) up
    have sz1 : (s.heap.push { cls := .type "list_iterator", data := .fields #[.ref l, .int 0 0] }).objs.size = s.heap.objs.size + 1 := Heap.size_push ..
    have up2 : ∀ b o, (s.heap.push { cls := .type "list_iterator", data := .fields #[.ref l, .int 0 0] }).get? b = some o → ((s.heap.push { cls := .type "list_iterator", data := .fields #[.ref l, .int 0 0] }).push { cls := .type "list", dict := none, data := .seq #[.ref a] 0 }).get? b = some o := fun b o e => Heap.get?_push_of_some _ e
    have I2 := I1.kept (t' := s.toks) up2
    have le1 : s.heap.objs.size ≤ (s.heap.push { cls := .type "list_iterator", data := .fields #[.ref l, .int 0 0] }).objs.size := by rw [sz1]; exact Nat.le_succ _
    exact wpAny_pure ⟨plainId_quiet F.plain_sum_loop _, sum_turnsL hc op Pv own kept step fin (by show s.heap.objs.size ≠ _; rw [sz1]; exact Nat.ne_of_lt (Nat.lt_succ_self _)) row.length 0 (.ref a) (.ref a) 0 H _ rfl (Nat.zero_le _) I2 rfl p0
      ⟨_, up2 _ _ (Heap.get?_push_size _ rfl), rfl, rfl⟩ (Heap.get?_push_size _ rfl) (I.fpOk (Nat.le_refl _) (I.hok.fresh (Nat.le_refl _))) (I.fpOk le1 (I.hok.fresh le1))⟩
  simp only [checkBuiltinCall, F.kind_sum]
  cases hsig : Manifest.signature? "sum" with
  | none => exact wpAny_pure body
  | some sig =>
    have ha' : Bind.checkArgs "sum" sig ⟨[.ref l], [(Str.ofString "start", .ref a)]⟩ = pure () := by simpa only [argsOk, hsig] using argsOk_sum (.ref l) (.ref a)
    simp only [List.zip_cons_cons, List.zip_nil_right, ha']
    exact wpAny_pure body
end
end L2

set_option Elab.async false
set_option linter.all false
set_option maxRecDepth 100000
set_option maxHeartbeats 4000000
namespace K8
open PySem L2
/-- Share(i) -/
theorem siQ {K : PySem.W.Frag} {C B : Addr} {i : Int} {H : Hp} {x dx : Addr} {Q : VK} {E : XK} (hx : H x = none) (hd : H dx = none) (ne : dx ≠ x) (k : ∀ H', Same H H' → IsS C H' x (i : Rat) → Q .non H') :
    spSI K C B [.ref x, .int i, .int 1] (upd (upd H dx (.own x)) x (.ins C dx [])) Q E :=
  si_ok hx hd ne (by decide) (by decide +kernel) fun H' s e => k H' s ⟨dx, by rw [(low_int i).1, (low_int i).2] at e; exact e⟩
/-- the sum of the first values -/
def sumQ (h : Nat → Rat) : Nat → Rat
  | 0 => 0
  | i + 1 => sumQ h i + h i
theorem sumQ_sz {h : Nat → Rat} (z : ∀ i, Sz 50 (h i)) : ∀ i, Sz (1 + 51 * i) (sumQ h i)
  | 0 => ⟨by show (0 : Nat) < 2; decide, by show (1 : Nat) < 2; decide⟩
  | i + 1 => by
    have := (sumQ_sz z i).add (z i)
    exact this.mono (by omega)
/-- at l a list of n shares of these values -/
def LstQ (C : Addr) (H : Hp) (l : Addr) (n : Nat) (h : Nat → Rat) : Prop := ∃ as : List Addr, H l = some (.lst (as.map V.ref)) ∧ as.length = n ∧ ∀ (i : Nat) (a : Addr), as[i]? = some a → IsS C H a (h i)
theorem LstQ.same {C : Addr} {H H' : Hp} {b : Addr} {n : Nat} {f : Nat → Rat} (h : LstQ C H b n f) (s : Same H H') : LstQ C H' b n f := let ⟨as, h1, h2, h3⟩ := h; ⟨as, s _ _ h1, h2, fun i a e => (h3 i a e).same s⟩
theorem LstQ.at {C : Addr} {H : Hp} {b : Addr} {n : Nat} {f : Nat → Rat} {K : PySem.W.Frag} (h : LstQ C H b n f) {i : Nat} (hi : i < n) : ∃ xs a, SqL K H b xs ∧ atI xs (i : Int) = some (.ref a) ∧ IsS C H a (f i) := by
  obtain ⟨as, h1, h2, h3⟩ := h
  have e : as[i]? = some as[i] := List.getElem?_eq_getElem (by omega)
  exact ⟨_, as[i], SqL.of h1, atI_nat (by rw [List.getElem?_map, e]; rfl), h3 i _ e⟩
def spTotalL (C : Addr) : Sp := fun vs H Q _ => ∃ (l : Addr) (n : Nat) (h : Nat → Rat), vs = [.ref l] ∧ n ≤ 8 ∧ LstQ C H l n h ∧ (∀ i, Sz 50 (h i)) ∧ ∀ (z : Addr) (H' : Hp), Same H H' → IsS C H' z (sumQ h n) → Q (.ref z) H'
section
variable {P : Program} {w : World} {K : PySem.W.Frag} {mg : Str → Option Value} {base : Heap} {C CC B : Addr}
theorem ok_totalL {f : Addr} {fd : FuncData} (F : Fun K "total" "total" s_total f fd) (m : MkT P w K mg base C B) (nt : NoTxt K C) (n_sum : mg "sum" = none) (ad : AddT P w K mg base C) : FnOk P w K mg base CX0 10 f fd ["row"] (spTotalL C) := by
  refine F.ok sc_total (fun vs H Q E h => ?_) (fun cdv A outer s H vs Q E hr h => ?_)
  · obtain ⟨l, n, g, rfl, _⟩ := h
    rfl
  · obtain ⟨l, n, g, rfl, n8, ⟨as, el, la, ia⟩, zg, k⟩ := h
    have o := ArT.op (X := (cxOf CX0 P w K mg base ["row"] "total" (defScope s_total) f cdv A outer s H E).nox.inn) ad (hr.in1.mono (by decide)) (hr.in1.mono (by decide))
    refine ⟨_, pss_one (ps_ret (pe_callBK (cr_sumOL rfl o) rfl n_sum PyProof.Rows.boot_sum (pa_cons (pv 0) pa_nil) (pk_cons (pe_share1 m (hr.mono (by decide)) rfl (pa_cons pe_int pa_nil)) pk_nil))), ?_⟩
    refine ⟨_, rfl, fun z dz' hz hd ne => siQ hz hd ne fun H1 s1 ⟨dz, e1⟩ => ⟨rfl, ?_⟩⟩
    refine ⟨l, z, C, dz, _, as.map V.ref, rfl, rfl, e1, nt, fun i acc H' => Same H1 H' ∧ ∃ a, acc = .ref a ∧ IsS C H' a (sumQ g i),
      ⟨Same.refl _, z, rfl, ⟨dz, e1⟩⟩, fun i acc H' ⟨_, a, e, _⟩ => ⟨a, e⟩, fun i acc H' _ ⟨s2, _⟩ => SqL.of (s2 _ _ (s1 _ _ el)), ?_, ?_⟩
    · rintro i acc x H' hx ⟨s2, a, rfl, ⟨da, ea⟩⟩
      obtain ⟨b, hb, rfl⟩ := refs_at hx
      have hi : i < n := by have := (List.getElem?_eq_some_iff.mp hb).1; omega
      obtain ⟨db, eb⟩ := ((ia i b hb).same s1).same s2
      have zs := (sumQ_sz zg i).mono (show 1 + 51 * i ≤ 4000 by omega)
      refine .inl ⟨a, da, _, rfl, ea, .inr ⟨b, db, _, rfl, eb⟩, a, da, .ref b, _, _, _, _, rfl, ea, .inr ⟨b, db, rfl, eb⟩, low_q zs, low_q ((zg i).mono (by decide)), newQ mul_nz (q_add _ _) fun z2 dz2 H2 s3 e3 => ?_⟩
      exact ⟨s2.trans s3, z2, rfl, ⟨dz2, e3⟩⟩
    · rintro acc H' ⟨s2, a, rfl, ia2⟩
      rw [List.length_map, la] at ia2
      exact k a H' (s1.trans s2) ia2
end
end K8

set_option Elab.async false
set_option linter.all false
set_option maxRecDepth 100000
set_option maxHeartbeats 4000000
namespace K8
open PySem L2
theorem walk_zipT {K : PySem.W.Frag} {a b : Addr} {xs ys : List V} {n : Nat} (hn : n = min xs.length ys.length) : Walk (RZ.ItzT K a b) n (fun H => SqT K H a xs ∧ SqT K H b ys) (YPair (fun i => xs[i]?) (fun i => ys[i]?)) := by
  subst hn
  refine ⟨fun i _ hi q => ?_, fun _ q => ⟨xs, ys, q.1, q.2, by omega⟩, fun i H v H' _ q y => ?_⟩
  · have h1 : i < xs.length := by omega
    have h2 : i < ys.length := by omega
    exact ⟨xs, ys, xs[i], ys[i], q.1, q.2, by simp [h1], by simp [h2]⟩
  · obtain ⟨T, x, z, h1, h2, h3, h4, h5⟩ := y
    exact ⟨T, x, z, h1, h2, h3, h4 xs q.1, h5 ys q.2⟩
/-! ### close ties -/
def mQ (f g : Nat → Rat) (i : Nat) : Rat := if f i < g i then f i else g i
def lftQ (n : Nat) (f g : Nat → Rat) : Rat := 1 - sumQ (mQ f g) n
def dia (f g : Nat → Rat) (p : Nat × Nat) : Rat := if p.1 = p.2 then mQ f g p.1 else 0
def clo (n : Nat) (f g : Nat → Rat) (p : Nat × Nat) : Rat := dia f g p + (f p.1 - mQ f g p.1) * (g p.2 - mQ f g p.2) / lftQ n f g
def closeL (n : Nat) (f g : Nat → Rat) : List ((Nat × Nat) × Rat) := noZ ((prs n).map fun p => (p, if lftQ n f g = 0 then dia f g p else clo n f g p))
theorem mQ_sz {f g : Nat → Rat} (zf : ∀ i, Sz 50 (f i)) (zg : ∀ i, Sz 50 (g i)) (i : Nat) : Sz 50 (mQ f g i) := by
  unfold mQ
  split
  · exact zf i
  · exact zg i
theorem one_sz : Sz 1 ((1 : Int) : Rat) := ⟨by decide, by decide⟩
theorem lft_sz {f g : Nat → Rat} (zf : ∀ i, Sz 50 (f i)) (zg : ∀ i, Sz 50 (g i)) {n : Nat} (n8 : n ≤ 8) : Sz 500 (lftQ n f g) := by
  have h := one_sz.sub (sumQ_sz (mQ_sz zf zg) n)
  exact Sz.mono (show Sz (1 + (1 + 51 * n) + 1) (lftQ n f g) from h) (by omega)
theorem dia_sz {f g : Nat → Rat} (zf : ∀ i, Sz 50 (f i)) (zg : ∀ i, Sz 50 (g i)) (p : Nat × Nat) : Sz 50 (dia f g p) := by
  unfold dia
  split
  · exact mQ_sz zf zg _
  · exact ⟨by decide, by decide⟩
structure LsT' (P : Program) (w : World) (K : PySem.W.Frag) (mg : Str → Option Value) (base : Heap) (C : Addr) : Prop where
  ls : LsT P w K mg base C
structure OverT (P : Program) (w : World) (K : PySem.W.Frag) (mg : Str → Option Value) (base : Heap) (C B : Addr) : Prop where
  ex : ∃ (f : Addr) (fd : FuncData), Meth K C "over" f ∧ FnOk P w K mg base (L2.CX P w) 7 f fd ["self", "other"] (spOver K C B) ∧ Binds K fd ["self", "other"] []
theorem over_none (t n : Int) : (shF t n).lookup ("over" : Str) = none := by
  unfold shF
  rw [lookup_putF, if_neg (by decide +kernel), lookup_putF, if_neg (by decide +kernel)]
  rfl
/-- share.less(share), by values -/
theorem less_go {C : Addr} {H : Hp} {Q : VK} {E : XK} {a b : Addr} {p q : Rat} (h : IsS C H a p) (h' : IsS C H b q) (zp : Sz 4000 p) (zq : Sz 4000 q) (k : ∀ H', Same H H' → Q (.bl (decide (p < q))) H') : spLess C [.ref a, .ref b] H Q E := by
  obtain ⟨da, ha⟩ := h
  obtain ⟨db, hb⟩ := h'
  refine ⟨a, da, .ref b, _, _, _, _, rfl, ha, .inr ⟨b, db, rfl, hb⟩, low_q zp, low_q zq, fun H' s => ?_⟩
  rw [decide_eq_decide.mpr (less_q (p := p) (q := q))]
  exact k H' s
theorem over_go {K : PySem.W.Frag} {C B : Addr} {H : Hp} {Q : VK} {E : XK} {a b : Addr} {p q : Rat} (h : IsS C H a p) (h' : IsS C H b q) (zp : Sz 4000 p) (zq : Sz 4000 q) (nz : q ≠ 0) (k : ∀ (z : Addr) (H' : Hp), Same H H' → IsS C H' z (p / q) → Q (.ref z) H') : spOver K C B [.ref a, .ref b] H Q E := by
  obtain ⟨da, ha⟩ := h
  obtain ⟨db, hb⟩ := h'
  refine ⟨a, da, .ref b, _, _, rfl, ha, low_q zp, .inl ⟨q.num, q.den, .inr ⟨b, db, rfl, hb⟩, low_q zq, .inl ⟨num_ne nz, newQ (Int.mul_ne_zero (den_ne p) (num_ne nz)) (q_over p q) fun z dz H' s e => k z H' s ⟨dz, e⟩⟩⟩⟩
theorem put_old {α : Type} {es : List (Addr × (Nat × Nat) × α)} {p : Nat × Nat} {c : Addr} {x : α} (h : p ∈ es.map fun e => e.2.1) : putK (kvE es) (kp p) (.ref c) = kvE (es.map fun e => if e.2.1 = p then (c, e.2.1, x) else e) := by
  obtain ⟨e, m, rfl⟩ := List.mem_map.mp h
  unfold putK
  rw [if_pos (List.any_eq_true.mpr ⟨(kp e.2.1, V.ref e.1), List.mem_map.mpr ⟨e, m, rfl⟩, decide_eq_true rfl⟩)]
  rw [kvE, kvE, List.map_map, List.map_map]
  refine List.map_congr_left fun e2 _ => ?_
  by_cases q : e2.2.1 = e.2.1
  · simp [q]
  · have : ¬ kp e2.2.1 = kp e.2.1 := fun z => q (kp_inj z)
    simp only [Function.comp, if_neg q, if_neg this]
theorem IsS.butD {C am : Addr} {H H' : Hp} {a : Addr} {q : Rat} {kvs : List (List L2.Key × V)} (h : IsS C H a q) (k : Keep am H H') (e : H am = some (.dT kvs)) : IsS C H' a q := let ⟨dx, h⟩ := h; ⟨dx, k _ _ h (fun z => by rw [z, e] at h; cases h)⟩
theorem RowQ.butD {C am : Addr} {H H' : Hp} {b : Addr} {n : Nat} {f : Nat → Rat} {kvs : List (List L2.Key × V)} (h : RowQ C H b n f) (k : Keep am H H') (e : H am = some (.dT kvs)) : RowQ C H' b n f := let ⟨as, h1, h2, h3⟩ := h; ⟨as, k _ _ h1 (fun z => by rw [z, e] at h1; cases h1), h2, fun i a q => (h3 i a q).butD k e⟩
theorem LstQ.butD {C am : Addr} {H H' : Hp} {b : Addr} {n : Nat} {f : Nat → Rat} {kvs : List (List L2.Key × V)} (h : LstQ C H b n f) (k : Keep am H H') (e : H am = some (.dT kvs)) : LstQ C H' b n f := let ⟨as, h1, h2, h3⟩ := h; ⟨as, k _ _ h1 (fun z => by rw [z, e] at h1; cases h1), h2, fun i a q => (h3 i a q).butD k e⟩
theorem Pts.butD {am : Addr} {H H' : Hp} {ts : List Pt} {kvs : List (List L2.Key × V)} (h : Pts H ts) (k : Keep am H H') (e : H am = some (.dT kvs)) : Pts H' ts := fun t m => k _ _ (h t m) (fun z => by have := h t m; rw [z, e] at this; cases this)
def spClose (C : Addr) : Sp := fun vs H Q _ => ∃ (bp bq : Addr) (n : Nat) (f g : Nat → Rat), vs = [.ref bp, .ref bq] ∧ n ≤ 8 ∧ RowQ C H bp n f ∧ RowQ C H bq n g ∧ (∀ i, Sz 50 (f i)) ∧ (∀ i, Sz 50 (g i)) ∧
  ∀ (d : Addr) (H' : Hp), Same H H' → H d = none → PlanAt C H' d (closeL n f g) → Q (.ref d) H'
section
variable {P : Program} {w : World} {K : PySem.W.Frag} {mg : Str → Option Value} {base : Heap} {C CC B : Addr}
abbrev s_close : Stmt := top 37
abbrev nCl : List Str := ["p", "q", "both", "left", "amounts", "i", "j", "one", "other"]
theorem sc_close : FnScope nCl ["p", "q"] (defScope s_close) := ⟨rfl, rfl, rfl, by decide +kernel, rfl, by decide +kernel, by decide +kernel⟩
abbrev XCl (P : Program) (w : World) (K : PySem.W.Frag) (mg : Str → Option Value) (base : Heap) (f : Addr) (cdv : Value) (A : Around) (outer : List Env) (s : Shared) (H : Hp) (E : XK) : Cx :=
  (cxOf CX0 P w K mg base nCl "close_tie" (defScope s_close) f cdv A outer s H E).nox
structure CloT (P : Program) (w : World) (K : PySem.W.Frag) (mg : Str → Option Value) (base : Heap) (C B : Addr) : Prop where
  T : Bm mg
  sh : ShT K mg C
  n_zip : mg "zip" = none
  m : MkT P w K mg base C B
  eq : EqT P w K mg base C
  ad : ArTL P w K mg base C .Add "+" "add" 7 (spAdd C)
  sb : ArTL P w K mg base C .Sub "-" "sub" 8 (spSub C)
  ml : MulL P w K mg base C
  ls : LsT P w K mg base C
  ov : OverT P w K mg base C B
  tot : Cal P w K mg base 10 "total" ["row"] (spTotalL C)
  ip : Cal P w K mg base 1 "index_pairs" ["many"] spIxPrs
  wz : Cal P w K mg base 4 "without_zeros" ["amounts"] (spWZ C)
/-- behind the amounts -/
theorem segCl3 {fa : Addr} {cdv : Value} {A : Around} {outer : List Env} {s : Shared} {H : Hp} {E : XK} {Q : VK} (L : CloT P w K mg base C B) (hr : Room 10 (XCl P w K mg base fa cdv A outer s H E).A) :
    ∃ u, PSs (XCl P w K mg base fa cdv A outer s H E) ((defBody s_close).drop 3) u ∧ ∀ (bp bq bo lf am : Addr) (n : Nat) (f g : Nat → Rat) (v7 v8 : Option V) (H0 G : Hp), n ≤ 8 → (∀ i, Sz 50 (f i)) → (∀ i, Sz 50 (g i)) → RowQ C G bp n f → RowQ C G bq n g → LstQ C G bo n (mQ f g) → IsS C G lf (lftQ n f g) → PlanAt C G am ((prs n).map fun p => (p, dia f g p)) → Same H0 G → H0 am = none →
      (∀ (d : Addr) (H' : Hp), Same H0 H' → H0 d = none → PlanAt C H' d (closeL n f g) → Q (.ref d) H') →
      u { nx := fun _ H' => Q .non H', rt := Q } [some (.ref bp), some (.ref bq), some (.ref bo), some (.ref lf), some (.ref am), none, none, v7, v8] G := by
  obtain ⟨fe, fde, O, FE, bE⟩ := L.eq.ex
  obtain ⟨fo, fdo, MO, FO, bO⟩ := L.ov.ex
  have hu := hu_of hr
  refine ⟨_, (pss_cons (ps_if (pt_cmpR (show OpR _ _ (rOwnB K C (EqS K C) .NotEq) from op_ownB is_ne FE O bE pass0 (hr.mono (by decide))) (pv 3) pe_int (nomark _))
      (pss_one (ps_for PassesOwn.never rfl (pi_list (pe_cal L.ip (hr.mono (by decide)) rfl (pa_cons (pe_callB call_len_seq (by rfl) L.T.b.n_len PySem.boot_len (pa_cons (pv 0) pa_nil)) pa_nil))) (pg_tup (by rfl) (pgs_cons (pg_name (i := 5) sc_close.nd rfl (Or.inl rfl)) (pgs_cons (pg_name (i := 6) sc_close.nd rfl (Or.inl rfl)) pgs_nil)))
        (pss_one (ps_asg (pe_op (opQ_add L.ad (hr.mono (by decide))) (pe_dget (by exact hu) (pv 4) (pe_tup (pa_cons (pv 5) (pa_cons (pv 6) pa_nil))) (by intro _ _; rfl))
            (pe_meth (pl := _) (pe_op (opQ_mul L.ml (hr.mono (by decide))) (pe_op (opQ_sub L.sb (hr.mono (by decide))) (pe_ix (show IxR _ (rIxT K) from ix_tup) (pv 0) (pv 5) (fun _ _ => rfl)) (pe_ix (show IxR _ (rIxL K) from ix_list) (pv 2) (pv 5) (fun _ _ => rfl))) (pe_op (opQ_sub L.sb (hr.mono (by decide))) (pe_ix (show IxR _ (rIxT K) from ix_tup) (pv 1) (pv 6) (fun _ _ => rfl)) (pe_ix (show IxR _ (rIxL K) from ix_list) (pv 2) (pv 6) (fun _ _ => rfl)))) L.sh.it.cl MO FO (hr.mono (by decide)) bO .nil passX (pa_cons (pv 3) pa_nil)))
          (pg_sub (pv 4) (pe_tup (pa_cons (pv 5) (pa_cons (pv 6) pa_nil))) (set_dict (by exact hu)))))))
      pss_nil)
    (pss_one (ps_ret (pe_cal L.wz (hr.mono (by decide)) rfl (pa_cons (pv 4) pa_nil))))), ?_⟩
  intro bp bq bo lf am n f g v7 v8 H0 G n8 zf zg rp rq lb il pl s0 nam k
  obtain ⟨dl, el⟩ := id il
  have fin : ∀ (L2 : List ((Nat × Nat) × Rat)) (σ : St) (H2 : Hp), σ[4]? = some (some (.ref am)) → Same H0 H2 → PlanAt C H2 am L2 → L2.map (·.1) = prs n → noZ L2 = closeL n f g → (tRet (tCall (spWZ C) [] E0 (tCons (tVar 4) tNil))) { nx := fun _ H' => Q .non H', rt := Q } σ H2 := by
    intro L2 σ H2 hσ s2 pl2 q1 q2
    refine ⟨_, hσ, am, L2, rfl, pl2, by rw [q1]; exact prs_nd n8, by have := congrArg List.length q1; rw [List.length_map] at this; rw [this]; exact prs_len n n8, fun d H3 s3 nd pl3 => ?_⟩
    rw [q2] at pl3
    exact k d H3 (s2.trans s3) (same_free s2 nd) pl3
  refine ⟨_, rfl, decide (lftQ n f g = ((0 : Int) : Rat)), .inl ⟨lf, dl, _, rfl, el, eqS_int ⟨dl, el⟩, .inl ⟨_, .int 0⟩⟩, _, rfl, ?_⟩
  by_cases lz : lftQ n f g = 0
  · refine iteFe (by rw [lz]; rfl) ?_
    exact fin _ _ G rfl s0 pl keys_of (by rw [closeL]; simp only [lz, if_pos])
  refine iteTe (by rw [decide_eq_false (by exact lz)]; rfl) ?_
  obtain ⟨ap, ep, lp, fp⟩ := id rp
  refine ⟨_, rfl, bp, _, rfl, .inr (SqT.of ep), ?_⟩
  rw [List.length_map, lp]
  refine ⟨n, rfl, n8, fun l ts H1 s1 el1 pt qt => ?_⟩
  have lt : ts.length ≤ 64 := by
    have := congrArg List.length qt
    rw [List.length_map] at this
    rw [this]; exact prs_len n n8
  have pl1 := pl.same s1
  have rp1 := rp.same s1
  have rq1 := rq.same s1
  have lb1 := lb.same s1
  have il1 := il.same s1
  have s01 := s0.trans s1
  obtain ⟨es0, ea0, _, _⟩ := id pl1
  refine ⟨l, rfl, ⟨_, SqL.of el1⟩, ?_⟩
  let Lk : Nat → List ((Nat × Nat) × Rat) := fun i => (prs n).map fun p => (p, if p ∈ (prs n).take i then clo n f g p else dia f g p)
  refine for_it (walk_list (K := K) (a := l) (xs := rfs ts)) (fun i σ H' => ∃ v5 v6, σ = [some (.ref bp), some (.ref bq), some (.ref bo), some (.ref lf), some (.ref am), v5, v6, v7, v8] ∧ Keep am H1 H' ∧ PlanAt C H' am (Lk i)) ⟨none, none, rfl, Keep.refl _ _, by simpa [Lk] using pl1⟩ (fun i σ H' _ h => ?_) ?_ ?_
  · obtain ⟨_, _, _, kp1, _⟩ := h
    exact SqL.of (kp1 _ _ el1 (fun z => by rw [z, ea0] at el1; cases el1))
  · rintro i x σ H'' H' hi ⟨v5, v6, rfl, kp1, pl2⟩ ⟨rfl, hx⟩
    obtain ⟨r, hr2, mr, rfl⟩ := rfs_at hx
    have mp : r.2 ∈ prs n := by rw [← qt]; exact List.mem_map.mpr ⟨r, mr, rfl⟩
    have mem := mem_prs.mp mp
    have hpi : (prs n)[i]? = some r.2 := by rw [← qt, List.getElem?_map, hr2]; rfl
    refine ⟨r.1, prV r.2, rfl, SqT.of ((pt.butD kp1 ea0) r mr), rfl, _, _, rfl, _, _, rfl, rfl, ?_⟩
    have rp2 := rp1.butD kp1 ea0
    have rq2 := rq1.butD kp1 ea0
    have lb2 := lb1.butD kp1 ea0
    have il2 := il1.butD kp1 ea0
    obtain ⟨es, ea, qe, ie⟩ := pl2
    have ndE : (es.map fun e => e.2.1).Nodup := by rw [map_keys qe]; simp only [Lk, List.map_map]; exact (show ((prs n).map id).Nodup by rw [List.map_id]; exact prs_nd n8)
    have nin : r.2 ∉ (prs n).take i := by
      have := notin_take (f := id) (by rw [List.map_id]; exact prs_nd n8) hpi
      rw [List.map_id] at this
      exact this
    obtain ⟨e, me, qe2⟩ : ∃ e ∈ es, e.2 = (r.2, dia f g r.2) := by
      have : (r.2, dia f g r.2) ∈ es.map (·.2) := by
        rw [qe]
        exact List.mem_map.mpr ⟨r.2, mp, by rw [if_neg nin]⟩
      obtain ⟨e, m, q⟩ := List.mem_map.mp this
      exact ⟨e, m, q⟩
    have ek : e.2.1 = r.2 := congrArg Prod.fst qe2
    have ev : e.2.2 = dia f g r.2 := congrArg Prod.snd qe2
    have ies := ie e me
    rw [ev] at ies
    refine ⟨_, rfl, _, rfl, _, rfl, by show 2 ≤ sizeLine; decide, fun c nc => ⟨am, .ref e.1, rfl, ?_, ?_⟩⟩
    · have g1 := DGet.t (k := kp r.2) (Same.put (o := .tup (prV r.2)) nc _ _ ea) upd_same
      rw [← ek, val_at ndE me] at g1
      rw [← ek]
      exact g1
    have sc := Same.put (o := .tup (prV r.2)) nc
    generalize (upd H' c (.tup (prV r.2))) = H2 at sc ⊢
    obtain ⟨xs, a1, q1, q2, q3⟩ := (rp2.same sc).at (K := K) mem.1
    obtain ⟨ys, a2, q4, q5, q6⟩ := (lb2.same sc).at (K := K) mem.1
    refine ⟨_, rfl, _, rfl, bp, xs, _, _, rfl, rfl, q1, q2, _, rfl, _, rfl, bo, ys, _, _, rfl, rfl, q4, q5, ?_⟩
    refine ⟨a1, a2, _, _, rfl, rfl, q3, q6, (zf _).mono (by decide), (mQ_sz zf zg _).mono (by decide), fun z1 H3 s3 iz1 => ?_⟩
    have s13 := sc.trans s3
    obtain ⟨xs, b1, q1, q2, q3⟩ := (rq2.same s13).at (K := K) mem.2
    obtain ⟨ys, b2, q4, q5, q6⟩ := (lb2.same s13).at (K := K) mem.2
    refine ⟨_, rfl, _, rfl, bq, xs, _, _, rfl, rfl, q1, q2, _, rfl, _, rfl, bo, ys, _, _, rfl, rfl, q4, q5, ?_⟩
    refine ⟨b1, b2, _, _, rfl, rfl, q3, q6, (zg _).mono (by decide), (mQ_sz zf zg _).mono (by decide), fun z2 H4 s4 iz2 => ?_⟩
    have t1 : Sz 101 (f r.2.1 - mQ f g r.2.1) := (zf _).sub (mQ_sz zf zg _)
    have t2 : Sz 101 (g r.2.2 - mQ f g r.2.2) := (zg _).sub (mQ_sz zf zg _)
    refine ⟨z1, z2, _, _, rfl, rfl, iz1.same s4, iz2, t1.mono (by decide), t2.mono (by decide), fun z3 H5 s5 iz3 => ?_⟩
    obtain ⟨d3, e3⟩ := id iz3
    have s14 := (s13.trans s4).trans s5
    have t3 := t1.mul t2
    refine ⟨z3, d3, _, rfl, e3, over_none _ _, _, rfl, over_go iz3 (il2.same s14) (t3.mono (by decide)) ((lft_sz zf zg n8).mono (by decide)) lz fun z4 H6 s6 iz4 => ?_⟩
    have s15 := s14.trans s6
    have t4 := t3.over (lft_sz zf zg n8) lz
    refine ⟨e.1, z4, _, _, rfl, rfl, ies.same s15, iz4, (dia_sz zf zg _).mono (by decide), t4.mono (by decide), fun z5 H7 s7 iz5 => ?_⟩
    have s16 := s15.trans s7
    refine ⟨_, rfl, _, rfl, _, rfl, by show 2 ≤ sizeLine; decide, fun c2 nc2 => ?_⟩
    have s17 := s16.trans (Same.put (o := .tup (prV r.2)) nc2)
    have ec2 : (upd H7 c2 (.tup (prV r.2))) c2 = some (.tup (prV r.2)) := upd_same
    have iz6 := iz5.same (Same.put (o := .tup (prV r.2)) nc2)
    generalize (upd H7 c2 (.tup (prV r.2))) = H8 at s17 ec2 iz6 ⊢
    have le : es.length ≤ 64 := by
      have := congrArg List.length qe
      simp only [Lk, List.length_map] at this
      rw [this]; exact prs_len n n8
    refine ⟨am, _, rfl, DPut.t (k := kp r.2) (s17 _ _ ea) ec2 (by rw [kvE_len]; exact small_len (by omega)), _, _, rfl, fun b u e ne => ?_, es.map (fun e => if e.2.1 = r.2 then (z5, e.2.1, clo n f g r.2) else e), ?_, ?_, fun e2 m2 => ?_⟩
    · rw [upd_ne ne]
      exact s17 _ _ (kp1 _ _ e ne)
    · rw [upd_same]
      exact congrArg (fun x => some (HO.dT x)) (put_old (by rw [map_keys qe]; simp only [Lk, List.map_map]; exact List.mem_map.mpr ⟨r.2, mp, rfl⟩))
    · have : (es.map (fun e => if e.2.1 = r.2 then (z5, e.2.1, clo n f g r.2) else e)).map (·.2) = (es.map (·.2)).map fun q => if q.1 = r.2 then (q.1, clo n f g r.2) else q := by
        rw [List.map_map, List.map_map]
        refine List.map_congr_left fun e2 _ => ?_
        simp only [Function.comp]
        split <;> rfl
      rw [this, qe]
      simp only [Lk, List.map_map]
      refine List.map_congr_left fun p mp' => ?_
      simp only [Function.comp]
      have tk : p ∈ (prs n).take (i + 1) ↔ (p ∈ (prs n).take i ∨ p = r.2) := by
        rw [take_more hpi, List.mem_append, List.mem_singleton]
      by_cases q : p = r.2
      · rw [if_pos q, if_pos (tk.mpr (.inr q)), q]
      · rw [if_neg q]
        by_cases q2 : p ∈ (prs n).take i
        · rw [if_pos q2, if_pos (tk.mpr (.inl q2))]
        · rw [if_neg q2, if_neg (fun z => (tk.mp z).elim q2 q)]
    · obtain ⟨e3, m3, rfl⟩ := List.mem_map.mp m2
      have up : ∀ {a : Addr} {q : Rat}, IsS C H8 a q → IsS C (upd H8 am (.dT (putK (kvE es) (kp r.2) (.ref z5)))) a q := fun {a q} ⟨dx, e⟩ => ⟨dx, by rw [upd_ne (fun z => by rw [z, s17 _ _ ea] at e; cases e)]; exact e⟩
      split
      · exact up iz6
      · exact up ((ie e3 m3).same s17)
  · rintro σ H2 ⟨v5, v6, rfl, kp1, pl2⟩
    have sA : Same H0 H2 := fun b u e => kp1 _ _ (s01 _ _ e) (fun z => by rw [z, nam] at e; cases e)
    refine fin _ _ H2 rfl sA pl2 keys_of ?_
    simp only [Lk]
    rw [closeL]
    congr 1
    refine List.map_congr_left fun p mp => ?_
    rw [if_neg lz, if_pos]
    rw [rfs_len, List.take_of_length_le (by have := congrArg List.length qt; rw [List.length_map] at this; omega)]
    exact mp
end
end K8

set_option Elab.async false
set_option linter.all false
set_option maxRecDepth 100000
set_option maxHeartbeats 4000000
/-! name = {k: v for ..} on one line, the name a local, the keys tuples -/
namespace L2
open PySem PySem.Spec PyProof.Rows
section
variable {X : Cx}
theorem dcT_core {ps : List (Addr × Obj)} {z0 : Shared} {σ : St} {G : Hp} {Q : VK} {kx vx tg iter : Expr} {ifs : List Expr} {scope : Scope} {own : List (Str × Nat)} {pos pos' : Pos} {wi : TI} {g : TG} {tt : TT} {tk tv : TE} {use : Option (Value → Sem Unit)} {Qf : Value → Shared → Prop} {mk : Sem Value}
    (hmk : mk = newObj (.type "dict") (.dict #[]))
    (hc : X.calm = true) (hu : X.A.units + 1 < cLine) (hN : X.N.Nodup) (I : Inv X ps σ G z0) (hi : PI X tg iter wi) (ok : BlkOk X.N X.env.scope scope own)
    (hg : ∀ (z : Shared) (G : Hp) (C : Addr) (cl : List (Str × Addr)) (fp : List Addr), PG (X.blk z G scope (compEnvC scope cl C X.env) fp) tg g)
    (ht : ∀ (z : Shared) (G : Hp) (C : Addr) (cl : List (Str × Addr)) (fp : List Addr), PTs (X.blk z G scope (compEnvC scope cl C X.env) fp) ifs tt)
    (hk : ∀ (z : Shared) (G : Hp) (C : Addr) (cl : List (Str × Addr)) (fp : List Addr), PE (X.blk z G scope (compEnvC scope cl C X.env) fp) kx tk)
    (hv : ∀ (z : Shared) (G : Hp) (C : Addr) (cl : List (Str × Addr)) (fp : List Addr), PE (X.blk z G scope (compEnvC scope cl C X.env) fp) vx tv) (hf : ∀ x, foldedSetIterable iter X.env x = pure x)
    (want : tDcT wi g tt tk tv (own.map (·.2)) σ G Q)
    (hRR : ∀ D C s' m H', Inv X ps σ H' s' → Q (.ref D) H' → s'.heap.Ns C m → FpOk X ps H' C → compPost (model X.prog X.w) X.A X.xe use Qf (.ref D) C (.ok .next) s') :
    wpAny (model X.prog X.w) X.A (comprehension (.DictComp kx vx [⟨tg, iter, ifs, 0⟩] scope pos) scope X.env pos' mk false (eval iter X.env) use) Qf X.xe z0 := by
  subst hmk
  have cells : ∀ y ∈ scope.names, y.2 = .free → ∃ c, X.env.cells.lookup y.1 = some c := fun y hy e => by
    rcases ok.free y hy e with q | q
    · exact I.ok.has _ (.inl q)
    · exact I.ok.has _ (.inr q)
  refine wpAny_comprehension_free (use := use) rfl hf (closure_ok cells) ok.kind (fun y hy e => by rw [ok.uniq y hy, e])
    (thn (hi.run ps z0 σ G _ I want) fun xv z1 hx => thn hx fun itv z2 got => ?_)
  obtain ⟨it, fp, tn, J, G2, e, I2, T, at2, fresh2, plan⟩ := got
  subst e
  refine wpAny_newObj_type (newEnv_comp ?_)
  generalize eD : z2.heap.objs.size = D
  have noD : G2 D = none := I2.hok.fresh (Nat.le_of_eq eD)
  obtain ⟨W, ⟨m0, start⟩, turn⟩ := plan D noD
  generalize e3 : ({ z2 with heap := z2.heap.push { cls := .type "dict", data := .dict #[] } } : Shared) = z3
  have I3 : Inv X ps σ (upd G2 D (.dT [])) z3 := by
    subst e3
    refine I2.laid (t' := z2.toks) (fun b o q => Heap.get?_push_of_some _ q) (Nat.le_of_eq eD) ?_
    subst eD
    exact dt_empty z2.heap I2.big
  have heap3 : z3.heap = z2.heap.push { cls := .type "dict", data := .dict #[] } := by subst e3; rfl
  have low : ∀ b ∈ fp, b < z2.heap.objs.size := fun b hb => let ⟨_, q, _⟩ := T.obj _ _ at2 b hb; Heap.lt_size q
  have fresh3 : ∀ b ∈ fp, FpOk X ps (upd G2 D (.dT [])) b ∧ b < z3.heap.objs.size := fun b hb => by
    have lb := low b hb
    have nb : (upd G2 D (.dT [])) b = none := by
      rw [upd_ne (by subst eD; exact Nat.ne_of_lt lb)]
      exact (fresh2 b hb).1
    exact ⟨⟨nb, (fresh2 b hb).2⟩, by rw [heap3, Heap.size_push]; exact Nat.lt_succ_of_lt lb⟩
  have at3 : tn 0 z3.heap := T.keep _ _ _ at2 fun b _ o q => by rw [heap3]; exact Heap.get?_push_of_some _ q
  have I4 := block_start I3 ok hN fresh3
  generalize eH : upd G2 D (.dT []) = G3 at I3 I4 start fresh3
  show codeAny _ _ (.compStart _ 0 (.ref it) (.ref D) (compEnvC scope (cellsFrom (z3.heap.objs.size + 1) scope.names (cloFrom X.env.cells scope.names [])) z3.heap.objs.size X.env)) (compPost (model X.prog X.w) X.A X.xe use Qf (.ref D) z3.heap.objs.size) { z3 with heap := pushCells (z3.heap.push { cls := .type "dict", data := .dict #[] }) scope.names }
  have ppg := hg z3 G3 z3.heap.objs.size (cellsFrom (z3.heap.objs.size + 1) scope.names (cloFrom X.env.cells scope.names [])) fp
  have ppt := ht z3 G3 z3.heap.objs.size (cellsFrom (z3.heap.objs.size + 1) scope.names (cloFrom X.env.cells scope.names [])) fp
  have ppk := hk z3 G3 z3.heap.objs.size (cellsFrom (z3.heap.objs.size + 1) scope.names (cloFrom X.env.cells scope.names [])) fp
  have ppv := hv z3 G3 z3.heap.objs.size (cellsFrom (z3.heap.objs.size + 1) scope.names (cloFrom X.env.cells scope.names [])) fp
  generalize eE : compEnvC scope (cellsFrom (z3.heap.objs.size + 1) scope.names (cloFrom X.env.cells scope.names [])) z3.heap.objs.size X.env = ce at I4 ppg ppt ppk ppv ⊢
  have loc : ce.locals = z3.heap.objs.size := by subst eE; rfl
  generalize e4 : ({ z3 with heap := pushCells (z3.heap.push { cls := .type "dict", data := .dict #[] }) scope.names } : Shared) = z4 at I4 ⊢
  have at4 : tn 0 z4.heap := T.keep _ _ _ at3 fun b _ o q => by subst e4; exact pushCells_keeps _ _ _ _ (Heap.get?_push_of_some _ q)
  let B : Cx := X.blk z3 G3 scope ce fp
  have calmB : B.calm = true := hc
  -- what is the same at each turn's begin
  let At : Nat → Nat → Hp → Shared → Prop := fun i m G' z' => Inv B [] (wipe σ (own.map (·.2))) G' z' ∧ tn i z'.heap ∧ (∀ b ∈ fp, G' b = none) ∧ W i m G'
  have fps : ∀ {τ : St} {G' : Hp} {z' : Shared}, Inv B [] τ G' z' → (∀ b ∈ fp, G' b = none) → ∀ b ∈ fp, FpOk B [] G' b := fun {τ G' z'} I' no b hb =>
    ⟨no b hb, (I'.ok.exf b hb).1, I'.ok.exfs b hb, .inl hb, fun _ c q => (I'.ok.exf b hb).2 _ c q, fun p hp => absurd (show p ∈ (([] : List (Addr × Obj)) ++ ([] : List (Addr × Obj))) from hp) List.not_mem_nil⟩
  have whole : codeAny (model X.prog X.w) X.A (.compLoop (.DictComp kx vx [⟨tg, iter, ifs, 0⟩] scope pos) 0 (.ref it) (.ref D) ce) (compPost (model X.prog X.w) X.A X.xe use Qf (.ref D) z3.heap.objs.size) z4 := by
    refine compLoop_anyD (fun m z' => ∃ i G', At i m G' z') (fun m z' ⟨i, G', I', at', no, w'⟩ => ?_) m0 ⟨0, G3, I4, at4, fun b hb => (fresh3 b hb).1.1, start⟩
    rcases turn i m G' w' with ⟨stop, won⟩ | ⟨more, Nx, next, step⟩
    · refine thnF (T.done B rfl rfl rfl calmB i [] z' _ G' (fun _ _ => False) I' (fps I' no) at' stop) fun r z5 ⟨er, I5⟩ => ?_
      subst er
      have outer : Inv X ps σ G' z5 := I3.call' (ch := fp) I5.os I5.base I5.hok I5.bare fun b hb =>
        let q := (fresh3 b hb).1.2
        ⟨q.2.2.1, q.1, q.2.2.2.1, q.2.2.2.2⟩
      have freeC : G' z3.heap.objs.size = none := loc ▸ (show G' ce.locals = none from I5.free)
      obtain ⟨mm, ns, _⟩ := I5.loc
      have ns : z5.heap.Ns z3.heap.objs.size mm := loc ▸ (show z5.heap.Ns ce.locals mm from ns)
      exact hRR D z3.heap.objs.size z5 mm G' outer won ns (I3.fpOk (Nat.le_refl _) freeC |> fun f => f)
    · refine thnF (T.item B rfl rfl rfl calmB i [] z' _ G' (fun _ _ => False) I' (fps I' no) at' more) fun r z5 ⟨u, er, then5⟩ => ?_
      subst er
      refine thnF then5 fun _ z6 ⟨x, G6, I6, r6, y6, at6, no6⟩ => ?_
      refine thnF (ppg.run _ z6 _ G6 x u _ (I6.pinned (fps I6 no6) (T.obj _ _ at6)) r6 (step x G6 y6)) fun _ z7 ⟨τ, G7, I7, wiped, q7⟩ => ?_
      refine thnF (ppt.run _ z7 τ G7 _ I7 q7) fun b z8 ⟨G8, I8, q8⟩ => ?_
      have onward : ∀ {z9 : Shared} {G9 : Hp}, Inv B ([] ++ pinsAt fp z6.heap) τ G9 z9 → Nx G9 → ∃ m', m' < m ∧ ∃ i G', At i m' G' z9 := fun {z9 G9} I9 nx => by
        obtain ⟨m', lt, w9⟩ := next G9 nx
        have held : ∀ b ∈ fp, ∀ o, z6.heap.get? b = some o → z9.heap.get? b = some o ∧ G9 b = none := fun b hb o q =>
          have pin := I9.pin (b, o) (List.mem_append_right _ (List.mem_append_right _ (mem_pinsAt hb q)))
          ⟨pin.1, pin.2.1⟩
        have len : (wipe σ (own.map (·.2))).length = τ.length := by rw [← wiped, wipe_length]
        refine ⟨m', lt, i + 1, G9, (I9.unpinned (pins := [])).weak len (fun j v q => (wipe_some (wiped.symm ▸ q : (wipe τ (own.map (·.2)))[j]? = some (some v))).1), T.keep _ _ _ at6 fun b hb o q => (held b hb o q).1, fun b hb => ?_, w9⟩
        obtain ⟨o, q, _⟩ := T.obj _ _ at6 b hb
        exact (held b hb o q).2
      cases b with
      | false =>
        rw [if_neg (by decide)] at q8 ⊢
        exact onward I8 q8
      | true =>
        rw [if_pos rfl] at q8 ⊢
        refine thnF (ppk.run _ z8 τ G8 _ I8 q8) fun ku z9 ⟨y, G9, I9, r9, q9⟩ => ?_
        refine thnF (ppv.run _ z9 τ G9 _ I9 q9) fun vu z10 ⟨v, G10, I10, r10, kvs, k, c, ec, e1, e2, e3', nx⟩ => ?_
        subst ec
        exact putT_set (Y := B) hu I10 e2 e3' e1 r9 r10 fun z11 I11 => onward I11 nx
  exact codeAny_compStart_dict whole (T.self X.A 0 _ _ _ at4 whole)

theorem sw_trueD {kx vx : Expr} {gs : List Comprehension} {scope : Scope} {pos py : Pos} {y : Str} {l : Nat} {env : Env} (hk : env.scope.kind = .function) (hy : env.scope.names.lookup y = some .local) (hl : (py.line == pos.line) = true)
    (ha : (scope.names.any fun (n, k) => n == y && (k == .local || k == .cell)) = false) : swapsWith (.DictComp kx vx gs scope pos) (some (.Name y py)) l env = pure true := by
  have ky : env.kindOf y = some .local := hy
  have hb : env.blockKind = .function := by unfold Env.blockKind; rw [hk]; rfl
  unfold swapsWith
  simp only [hb, ky, ha, Expr.pos, hl]
  rfl
theorem ps_setDcT {i : Nat} {y : Str} {py : Pos} {kx vx tg iter : Expr} {ifs : List Expr} {scope : Scope} {own : List (Str × Nat)} {pos spos : Pos} {wi : TI} {g : TG} {tt : TT} {tk tv : TE} (hc : X.calm = true) (hu : X.A.units + 1 < cLine) (hN : X.N.Nodup) (hy : X.N[i]? = some y) (hyl : X.env.scope.names.lookup y = some .local)
    (hsw : swapsWith (.DictComp kx vx [⟨tg, iter, ifs, 0⟩] scope pos) (some (.Name y py)) spos.line X.env = pure true) (hi : PI X tg iter wi) (ok : BlkOk X.N X.env.scope scope own)
    (hg : ∀ (z : Shared) (G : Hp) (C : Addr) (cl : List (Str × Addr)) (fp : List Addr), PG (X.blk z G scope (compEnvC scope cl C X.env) fp) tg g)
    (ht : ∀ (z : Shared) (G : Hp) (C : Addr) (cl : List (Str × Addr)) (fp : List Addr), PTs (X.blk z G scope (compEnvC scope cl C X.env) fp) ifs tt)
    (hk : ∀ (z : Shared) (G : Hp) (C : Addr) (cl : List (Str × Addr)) (fp : List Addr), PE (X.blk z G scope (compEnvC scope cl C X.env) fp) kx tk)
    (hv : ∀ (z : Shared) (G : Hp) (C : Addr) (cl : List (Str × Addr)) (fp : List Addr), PE (X.blk z G scope (compEnvC scope cl C X.env) fp) vx tv) (hf : ∀ x, foldedSetIterable iter X.env x = pure x := by intro _; rfl) :
    PS X (.Assign [.Name y py] (.DictComp kx vx [⟨tg, iter, ifs, 0⟩] scope pos) spos) (tAsg (tDcT wi g tt tk tv (own.map (·.2))) (gName i)) := by
  refine ⟨fun pins s σ H D I h => ?_⟩
  rw [exec_Assign_Name_used _ _ _ _ hsw]
  refine wpAny_bind (wpAny_standAt (wpAny_bind ?_))
  have h : tDcT wi g tt tk tv (own.map (·.2)) σ H (fun x H1 => gName i x σ H1 D.nx) := h
  show wpAny _ X.A (do let _ ← comprehension (.DictComp kx vx [⟨tg, iter, ifs, 0⟩] scope pos) scope X.env (firstIterPos [⟨tg, iter, ifs, 0⟩] pos) (newObj (.type "dict") (.dict #[])) false (eval iter X.env) (some (assign (.Name y py) X.env))) _ _ s
  refine wpAny_bind (thn (dcT_core (Qf := fun _ s' => SP X pins D .next s') rfl hc hu hN I hi ok hg ht hk hv hf h fun L C s' m H' I' q hn f => ?_) fun _ s' hq => wpAny_pure (wpAny_pure hq))
  show wpAny _ _ (assign (.Name y py) X.env (.ref L)) _ _ _
  refine wpAny_assign_Name (store_ok2 (v := V.ref L) I' hN hy (.inl hyl) rfl (fun s2 I2 ⟨a, sb, ha⟩ => ?_) (.inr hyl))
  obtain ⟨f0, f1, f2, f3, f4, f5⟩ := f
  have haC : C ≠ a := by
    rcases ha with z | z
    · rw [z]; exact f1
    · exact fun e => f4 y a z e.symm
  refine ⟨m, hn.sameBut sb haC, fun h3 sb3 => ?_⟩
  exact ⟨_, H', I2.turned (t' := s2.toks) (fun b o hb e => (sb3.2 b hb).trans e) f0 f1 f3 f4 f5, q⟩
end
end L2

set_option Elab.async false
set_option linter.all false
set_option maxRecDepth 100000
set_option maxHeartbeats 4000000
namespace K8
open PySem L2
section
variable {P : Program} {w : World} {K : PySem.W.Frag} {mg : Str → Option Value} {base : Heap} {C CC B : Addr}
theorem ok_close {fa : Addr} {fd : FuncData} (F : Fun K "close_tie" "close_tie" s_close fa fd) (L : CloT P w K mg base C B) : FnOk P w K mg base CX0 11 fa fd ["p", "q"] (spClose C) := by
  obtain ⟨fl, fdl, ML, FL, bL⟩ := L.ls.ex
  refine F.ok sc_close (fun vs H Q E h => ?_) (fun cdv A outer s H vs Q E hr h => ?_)
  · obtain ⟨bp, bq, n, f, g, rfl, _⟩ := h
    rfl
  · obtain ⟨bp, bq, n, f, g, rfl, n8, rp, rq, zf, zg, k⟩ := h
    have hu := hu_of hr
    obtain ⟨u, hu3, qu⟩ := segCl3 (fa := fa) (cdv := cdv) (A := A) (outer := outer) (s := s) (H := H) (E := E) (Q := Q) L hr
    refine ⟨_, (pss_cons (ps_set (i := 2) sc_close.nd rfl (Or.inr rfl) (pe_lc (own := [("one", 7), ("other", 8)]) (g := gTup K 2 (gCons (gName 7) (gCons (gName 8) gNil))) rfl sc_close.nd (RZ.pi_zipA (by rfl) L.n_zip (pa_cons (pv 0) (pa_cons (pv 1) pa_nil))) (blkOk_by (N := nCl) (sc := defScope s_close) (by decide +kernel)) (fun _ _ _ _ _ => (pg_tup (by rfl) (pgs_cons (pg_name (i := 7) sc_close.nd rfl (Or.inl rfl)) (pgs_cons (pg_name (i := 8) sc_close.nd rfl (Or.inl rfl)) pgs_nil)))) (fun _ _ _ _ _ => pts_nil)
        (fun _ _ _ _ _ => (pe_ifExp (pt_val (pe_meth (pl := _) (pv 7) L.sh.it.cl ML FL (hr.mono (by decide)) bL .nil pass0 (pa_cons (pv 8) pa_nil))) (pv 7) (pv 8)))))
      (pss_cons (ps_set (i := 3) sc_close.nd rfl (Or.inl rfl) (pe_op (opQ_sub L.sb (hr.mono (by decide))) (pe_share1 L.m (hr.mono (by decide)) rfl (pa_cons pe_int pa_nil)) (pe_cal L.tot (hr.mono (by decide)) rfl (pa_cons (pv 2) pa_nil))))
      (pss_cons (ps_setDcT (i := 4) (own := [("i", 5), ("j", 6)]) (g := gTup K 2 (gCons (gName 5) (gCons (gName 6) gNil))) rfl (by exact hu) sc_close.nd rfl rfl (sw_trueD rfl rfl rfl (by decide +kernel)) (pi_list (pe_cal L.ip (hr.mono (by decide)) rfl (pa_cons (pe_callB call_len_seq (by rfl) L.T.b.n_len PySem.boot_len (pa_cons (pv 0) pa_nil)) pa_nil))) (blkOk_by (N := nCl) (sc := defScope s_close) (by decide +kernel)) (fun _ _ _ _ _ => (pg_tup (by rfl) (pgs_cons (pg_name (i := 5) sc_close.nd rfl (Or.inl rfl)) (pgs_cons (pg_name (i := 6) sc_close.nd rfl (Or.inl rfl)) pgs_nil))))
        (fun _ _ _ _ _ => pts_nil) (fun _ _ _ _ _ => (pe_tup (pa_cons (pv 5) (pa_cons (pv 6) pa_nil)))) (fun _ _ _ _ _ => (pe_ifExp (tA := tTest (tOp rEq (tVar 5) (tVar 6))) (ta := tOp (rIxL K) (tVar 2) (tVar 5)) (tb := tMake C (spSI K C B) [.int 1] E0 (tCons (tC (.int 0)) tNil)) (pt_cmpR op_eq (pv 5) (pv 6) (nomark _)) (pe_ix (show IxR _ (rIxL K) from ix_list) (pv 2) (pv 5) (fun _ _ => rfl)) (by exact (pe_share1 L.m (hr.mono (by decide)) rfl (pa_cons pe_int pa_nil)))))) hu3))), ?_⟩
    obtain ⟨ap, ep, lp, ip⟩ := id rp
    obtain ⟨aq, eq, lq, iq⟩ := id rq
    refine ⟨_, rfl, _, rfl, bp, bq, _, _, rfl, .inr ⟨SqT.of ep, SqT.of eq, fun D nD => ?_⟩⟩
    refine lc_it (walk_zipT (K := K) (a := bp) (b := bq) (xs := ap.map V.ref) (ys := aq.map V.ref) (n := n) (by rw [List.length_map, List.length_map, lp, lq, Nat.min_self])) (fun i H' => Same H H' ∧ ∃ as : List Addr, H' D = some (.lst (as.map V.ref)) ∧ as.length = i ∧ ∀ (j : Nat) (a : Addr), as[j]? = some a → IsS C H' a (mQ f g j)) ⟨Same.put nD, [], upd_same, rfl, fun j a e => by simp at e⟩ (fun i H' _ h => ⟨SqT.of (h.1 _ _ ep), SqT.of (h.1 _ _ eq)⟩) ?_ ?_
    · rintro i x H1 H' hi ⟨s1, as, eD, la, ia⟩ ⟨Tn, x1, x2, rfl, nT, rfl, hx1, hx2⟩
      obtain ⟨a1, g1, rfl⟩ := refs_at hx1
      obtain ⟨a2, g2, rfl⟩ := refs_at hx2
      have sT := s1.trans (Same.put (o := .tup [.ref a1, .ref a2]) nT)
      refine ⟨Tn, [.ref a1, .ref a2], rfl, SqT.of upd_same, rfl, _, _, rfl, _, _, rfl, rfl, rfl, ?_⟩
      have eD2 := Same.put (o := .tup [.ref a1, .ref a2]) nT _ _ eD
      have ia2 : ∀ (j : Nat) (a : Addr), as[j]? = some a → IsS C (upd H1 Tn (.tup [.ref a1, .ref a2])) a (mQ f g j) := fun j a e => (ia j a e).same (Same.put nT)
      generalize (upd H1 Tn (.tup [.ref a1, .ref a2])) = H2 at sT eD2 ia2 ⊢
      have i1 := (ip i a1 g1).same sT
      have i2 := (iq i a2 g2).same sT
      obtain ⟨d1, e1⟩ := id i1
      refine yes_of ?_
      obtain ⟨d2, e2⟩ := id i2
      refine ⟨_, rfl, a1, d1, _, rfl, e1, less_none _ _, _, rfl, a1, d1, .ref a2, _, _, _, _, rfl, e1, .inr ⟨a2, d2, rfl, e2⟩, low_q ((zf i).mono (by decide)), low_q ((zg i).mono (by decide)), fun H3 s3 => ⟨_, rfl, ?_⟩⟩
      have eD3 := s3 _ _ eD2
      have fin : ∀ b, IsS C H3 b (mQ f g i) → ∃ acc, H3 D = some (.lst acc) ∧ acc.length < sizeLine ∧ Same H (upd H3 D (.lst (acc ++ [.ref b]))) ∧ ∃ as : List Addr, (upd H3 D (.lst (acc ++ [.ref b]))) D = some (.lst (as.map V.ref)) ∧ as.length = i + 1 ∧ ∀ (j : Nat) (a : Addr), as[j]? = some a → IsS C (upd H3 D (.lst (acc ++ [.ref b]))) a (mQ f g j) := fun b ib => by
        refine ⟨_, eD3, by rw [List.length_map]; exact small_len (by omega), Same.but (fun b u e => s3 _ _ (sT _ _ e)) nD, as ++ [b], by rw [upd_same, List.map_append]; rfl, by rw [List.length_append, la]; rfl, fun j a e => ?_⟩
        have up : ∀ {a : Addr} {q : Rat}, IsS C H3 a q → IsS C (upd H3 D (.lst (as.map V.ref ++ [V.ref b]))) a q := fun {a q} ⟨dx, e⟩ => ⟨dx, by rw [upd_ne (fun z => by rw [z, eD3] at e; cases e)]; exact e⟩
        rcases Nat.lt_or_ge j as.length with h | h
        · rw [List.getElem?_append_left h] at e
          exact up ((ia2 j a e).same s3)
        · rw [List.getElem?_append_right h] at e
          have hz : j - as.length = 0 := by
            have := (List.getElem?_eq_some_iff.mp e).1
            simpa using this
          rw [hz] at e
          have q : b = a := by simpa using e
          have ej : j = i := by omega
          rw [← q, ej]
          exact up ib
      by_cases lt : f i < g i
      · refine iteTe (decide_eq_true (less_q.mpr lt)) ⟨_, rfl, fin a1 ?_⟩
        unfold mQ
        rw [if_pos lt]
        exact i1.same s3
      · refine iteFe (decide_eq_false (fun z => lt (less_q.mp z))) ⟨_, rfl, fin a2 ?_⟩
        unfold mQ
        rw [if_neg lt]
        exact i2.same s3
    · rintro H1 ⟨s1, as, eD, la, ia⟩
      have lb : LstQ C H1 D n (mQ f g) := ⟨as, eD, la, ia⟩
      refine fun z dz hz hd ne => siQ hz hd ne fun H2 s2 i1 => ⟨rfl, ?_⟩
      refine ⟨_, rfl, D, n, mQ f g, rfl, n8, lb.same s2, mQ_sz zf zg, fun t H3 s3 it => ?_⟩
      refine ⟨z, t, _, _, rfl, rfl, i1.same s3, it, one_sz.mono (by decide), (sumQ_sz (mQ_sz zf zg) n).mono (by omega), fun lf H4 s4 il => ?_⟩
      have s24 := (s2.trans s3).trans s4
      have s04 := s1.trans s24
      have il : IsS C H4 lf (lftQ n f g) := il
      refine ⟨_, rfl, bp, _, rfl, .inr (SqT.of (s04 _ _ ep)), ?_⟩
      rw [List.length_map, lp]
      refine ⟨n, rfl, n8, fun l ts H5 s5 el pt qt => ?_⟩
      have lt : ts.length ≤ 64 := by
        have := congrArg List.length qt
        rw [List.length_map] at this
        rw [this]; exact prs_len n n8
      refine ⟨l, rfl, ⟨_, SqL.of el⟩, fun am nam => ?_⟩
      have nd : (ts.map (·.2)).Nodup := by rw [qt]; exact prs_nd n8
      have s05 := s04.trans s5
      refine dcT_it (walk_list (K := K) (a := l) (xs := rfs ts)) (PvPlan C am ts (dia f g) H5) (PvPlan.start nam) (fun i H' _ h => SqL.of (h.1 _ _ el)) ?_ ?_
      · rintro i x H'' H' hi pv ⟨rfl, hx⟩
        obtain ⟨r, hr2, mr, rfl⟩ := rfs_at hx
        have mem := mem_prs.mp (show r.2 ∈ prs n by rw [← qt]; exact List.mem_map.mpr ⟨r, mr, rfl⟩)
        refine ⟨r.1, prV r.2, rfl, SqT.of (pv.1 _ _ (pt r mr)), rfl, _, _, rfl, _, _, rfl, rfl, rfl, ?_⟩
        refine yes_of ?_
        refine ⟨_, rfl, _, rfl, by show 2 ≤ sizeLine; decide, fun c nc => ?_⟩
        have sc := Same.put (o := .tup (prV r.2)) nc
        have ec : (upd H' c (.tup (prV r.2))) c = some (.tup (prV r.2)) := upd_same
        generalize (upd H' c (.tup (prV r.2))) = H6 at sc ec ⊢
        have s56 := pv.1.trans sc
        refine ⟨_, rfl, _, rfl, rfl, _, rfl, ?_⟩
        by_cases e : r.2.1 = r.2.2
        · refine iteTe (by simp [e]) ?_
          obtain ⟨ys, a2, q4, q5, q6⟩ := ((lb.same s24).same (s5.trans s56)).at (K := K) mem.1
          refine ⟨_, rfl, _, rfl, D, ys, _, _, rfl, rfl, q4, q5, ?_⟩
          exact pv.step nam nd lt hr2 sc ec (by unfold dia; rw [if_pos e]; exact q6)
        · refine iteFe (by simp; omega) ?_
          refine fun z dz hz hd ne => siQ hz hd ne fun H7 s7 i7 => ⟨rfl, ?_⟩
          exact pv.step nam nd lt hr2 (sc.trans s7) (s7 _ _ ec) (by unfold dia; rw [if_neg e]; exact i7)
      · intro H6 pv
        rw [rfs_len] at pv
        obtain ⟨s6, pl⟩ := pv.done qt
        have s06 := s05.trans s6
        have s26 := s24.trans (s5.trans s6)
        refine qu bp bq D lf am n f g _ _ H H6 n8 zf zg (rp.same s06) (rq.same s06) (lb.same s26) (il.same (s5.trans s6)) pl s06 (same_free s05 nam) k
end
end K8

set_option Elab.async false
set_option linter.all false
set_option maxRecDepth 100000
set_option maxHeartbeats 4000000
namespace K8
open PySem L2
/-! ### ties -/
abbrev Ties := List ((Nat × Nat) × List ((Nat × Nat) × Rat))
/-- at d a dict from pairs to plans; the plans' dicts are new since H0 -/
def TiesF (C : Addr) (H0 H : Hp) (d : Addr) (M : Ties) : Prop := ∃ es : List (Addr × (Nat × Nat) × List ((Nat × Nat) × Rat)), H d = some (.dT (kvE es)) ∧ es.map (·.2) = M ∧ ∀ e ∈ es, e.1 ≠ d ∧ H0 e.1 = none ∧ PlanAt C H e.1 e.2.2
theorem PlanAt.upd {C D a : Addr} {H : Hp} {L : List ((Nat × Nat) × Rat)} {kvs : List (List L2.Key × V)} {o : HO} (h : PlanAt C H a L) (ne : a ≠ D) (e : H D = some (.dT kvs)) : PlanAt C (upd H D o) a L := by
  obtain ⟨es, h1, h2, h3⟩ := h
  exact ⟨es, by rw [upd_ne ne]; exact h1, h2, fun x m => let ⟨dx, q⟩ := h3 x m; ⟨dx, by rw [upd_ne (fun z => by rw [z, e] at q; cases q)]; exact q⟩⟩
def PvTies (C D : Addr) (ts : List Pt) (F : Nat × Nat → List ((Nat × Nat) × Rat)) (H0 : Hp) (i : Nat) (H' : Hp) : Prop := Same H0 H' ∧ ∃ es : List (Addr × (Nat × Nat) × List ((Nat × Nat) × Rat)), H' D = some (.dT (kvE es)) ∧ es.map (·.2) = ((ts.take i).map (·.2)).map (fun p => (p, F p)) ∧ ∀ e ∈ es, e.1 ≠ D ∧ H0 e.1 = none ∧ PlanAt C H' e.1 e.2.2
theorem PvTies.start {C D : Addr} {ts : List Pt} {F : Nat × Nat → List ((Nat × Nat) × Rat)} {H0 : Hp} (n : H0 D = none) : PvTies C D ts F H0 0 (upd H0 D (.dT [])) := ⟨Same.put n, [], upd_same, rfl, fun _ m => by cases m⟩
theorem PvTies.step {C D : Addr} {ts : List Pt} {F : Nat × Nat → List ((Nat × Nat) × Rat)} {H0 H' H5 : Hp} {i : Nat} {r : Pt} {c z : Addr} (h : PvTies C D ts F H0 i H') (n : H0 D = none) (nd : (ts.map (·.2)).Nodup) (l : ts.length ≤ 64) (he : ts[i]? = some r) (s : Same H' H5) (ec : H5 c = some (.tup (prV r.2))) (nz : H' z = none) (iz : PlanAt C H5 z (F r.2)) :
    ∃ kvs k c', V.ref c = .ref c' ∧ H5 c' = some (.tup (k.map kV)) ∧ H5 D = some (.dT kvs) ∧ kvs.length < sizeLine ∧ PvTies C D ts F H0 (i + 1) (upd H5 D (.dT (putK kvs k (.ref z)))) := by
  obtain ⟨s0, es, eD, qe, ie⟩ := h
  have eD5 := s _ _ eD
  have le : es.length ≤ 64 := by
    have := congrArg List.length qe
    simp only [List.length_map, List.length_take] at this
    omega
  have nin : r.2 ∉ es.map fun e => e.2.1 := by
    rw [map_keys qe]
    rw [List.map_map, show ((fun x : (Nat × Nat) × List ((Nat × Nat) × Rat) => x.1) ∘ fun p => (p, F p)) = id from rfl, List.map_id]
    exact notin_take nd he
  refine ⟨kvE es, kp r.2, c, rfl, ec, eD5, by rw [kvE_len]; exact small_len (by omega), Same.but (fun b u e => s _ _ (s0 _ _ e)) n, es ++ [(z, r.2, F r.2)], ?_, ?_, fun e m => ?_⟩
  · rw [upd_same]
    exact congrArg (fun x => some (HO.dT x)) (put_new nin)
  · rw [take_more he]
    simp only [List.map_append, qe]
    rfl
  · rcases List.mem_append.mp m with m | m
    · obtain ⟨m1, m2, m3⟩ := ie e m
      exact ⟨m1, m2, (m3.same s).upd m1 eD5⟩
    · rw [List.mem_singleton.mp m]
      have zD : z ≠ D := fun q => by rw [q, eD] at nz; cases nz
      exact ⟨zD, same_free s0 nz, iz.upd zD eD5⟩
theorem PvTies.done {C D : Addr} {ts : List Pt} {F : Nat × Nat → List ((Nat × Nat) × Rat)} {H0 H' : Hp} {ps : List (Nat × Nat)} (h : PvTies C D ts F H0 ts.length H') (e : ts.map (·.2) = ps) : Same H0 H' ∧ TiesF C H0 H' D (ps.map fun p => (p, F p)) := by
  obtain ⟨s0, es, eD, qe, ie⟩ := h
  rw [List.take_length, e] at qe
  exact ⟨s0, es, eD, qe, ie⟩
def freeM (n : Nat) (rws : List (List Nat)) : Ties := (uprs n).map fun p => (p, freeL n (fW (rws.getD p.1 [])) (fW (rws.getD p.2 [])))
def closeM (n : Nat) (rws : List (List Nat)) : Ties := (uprs n).map fun p => (p, closeL n (fW (rws.getD p.1 [])) (fW (rws.getD p.2 [])))
def spTies (C CC : Addr) (Mf : Nat → List (List Nat) → Ties) : Sp := fun vs H Q _ => ∃ (o : Addr) (n : Nat) (rws : List (List Nat)) (ls : List Str), vs = [.ref o] ∧ n ≤ 8 ∧ IsCh C CC H o n rws ls ∧
  ∀ (d : Addr) (H' : Hp), Same H H' → H d = none → TiesF C H H' d (Mf n rws) → Q (.ref d) H'
theorem mem_uprs {n : Nat} {p : Nat × Nat} (h : p ∈ uprs n) : p.1 < n ∧ p.2 < n := mem_prs.mp (List.mem_filter.mp h).1
section
variable {P : Program} {w : World} {K : PySem.W.Frag} {mg : Str → Option Value} {base : Heap} {C CC B : Addr}
theorem RowSh.tps {C : Addr} {H : Hp} {n : Nat} {r : Addr × List Nat} (h : RowSh C H n r) : Tps n r.2 := by
  obtain ⟨_, _, _, h, _⟩ := h
  exact h
abbrev s_frees : Stmt := top 33
theorem sc_frees : FnScope ["chain", "s", "t"] ["chain"] (defScope s_frees) := ⟨rfl, rfl, rfl, by decide +kernel, rfl, by decide +kernel, by decide +kernel⟩
theorem ok_frees {f : Addr} {fd : FuncData} (F : Fun K "free_ties" "free_ties" s_frees f fd) (t : ChT K mg CC) (rt : RowT P w K mg base C CC) (c_up : Cal P w K mg base 2 "unlike_pairs" ["many"] spUnlike) (c_free : Cal P w K mg base 8 "free_tie" ["p", "q"] (spFree C)) : FnOk P w K mg base CX0 9 f fd ["chain"] (spTies C CC freeM) := by
  obtain ⟨g, gd, M, G, bG⟩ := rt.ex
  refine F.ok sc_frees (fun vs H Q E h => ?_) (fun cdv A outer s H vs Q E hr h => ?_)
  · obtain ⟨o, n, rws, ls, rfl, _⟩ := h
    rfl
  · obtain ⟨o, n, rws, ls, rfl, n8, ch, k⟩ := h
    have hu := hu_of hr
    refine ⟨_, (pss_one (ps_ret (pe_dcT (own := [("s", 1), ("t", 2)]) (g := gTup K 2 (gCons (gName 1) (gCons (gName 2) gNil))) rfl (by exact hu) sc_frees.nd (pi_list (pe_cal c_up (hr.mono (by decide)) rfl (pa_cons (pe_fld (pv 0) rfl) pa_nil))) (blkOk_by (N := ["chain", "s", "t"]) (sc := defScope s_frees) (by decide +kernel)) (fun _ _ _ _ _ => (pg_tup (by rfl) (pgs_cons (pg_name (i := 1) sc_frees.nd rfl (Or.inl rfl)) (pgs_cons (pg_name (i := 2) sc_frees.nd rfl (Or.inl rfl)) pgs_nil))))
      (fun _ _ _ _ _ => pts_nil) (fun _ _ _ _ _ => (pe_tup (pa_cons (pv 1) (pa_cons (pv 2) pa_nil)))) (fun _ _ _ _ _ => (pe_cal c_free (hr.mono (by decide)) rfl (pa_cons (pe_meth (pl := _) (pv 0) t.it.cl M G (hr.mono (by decide)) bG .nil pass0 (pa_cons (pv 1) pa_nil)) (pa_cons (pe_meth (pl := _) (pv 0) t.it.cl M G (hr.mono (by decide)) bG .nil pass0 (pa_cons (pv 2) pa_nil)) pa_nil))))))), ?_⟩
    obtain ⟨dx, T, lb, rs, h1, h2, h3, h4, h5, h6, h7⟩ := id ch
    refine ⟨_, rfl, o, CC, dx, _, _, rfl, h1, t.it.cl, t.nS, chF_size _ _ _, n, rfl, n8, fun l ts H1 s1 el pt qt => ?_⟩
    have lt : ts.length ≤ 64 := by
      have := congrArg List.length qt
      rw [List.length_map] at this
      rw [this]; exact uprs_len n8
    refine ⟨l, rfl, ⟨_, SqL.of el⟩, fun D nD => ?_⟩
    have nd : (ts.map (·.2)).Nodup := by rw [qt]; exact uprs_nd n8
    have nDH : H D = none := same_free s1 nD
    refine dcT_it (walk_list (K := K) (a := l) (xs := rfs ts)) (PvTies C D ts (fun p => freeL n (fW (rws.getD p.1 [])) (fW (rws.getD p.2 []))) H1) (PvTies.start nD) (fun i H' _ h => SqL.of (h.1 _ _ el)) ?_ ?_
    · rintro i x H'' H' hi pv ⟨rfl, hx⟩
      obtain ⟨r, hr2, mr, rfl⟩ := rfs_at hx
      have sH := s1.trans pv.1
      refine ⟨r.1, prV r.2, rfl, SqT.of (pv.1 _ _ (pt r mr)), rfl, _, _, rfl, _, _, rfl, rfl, rfl, ?_⟩
      refine yes_of ?_
      refine ⟨_, rfl, _, rfl, by show 2 ≤ sizeLine; decide, fun c nc => ?_⟩
      have sc := Same.put (o := .tup (prV r.2)) nc
      have ec : (upd H' c (.tup (prV r.2))) c = some (.tup (prV r.2)) := upd_same
      generalize (upd H' c (.tup (prV r.2))) = H2 at sc ec ⊢
      have mem := mem_uprs (show r.2 ∈ uprs n by rw [← qt]; exact List.mem_map.mpr ⟨r, mr, rfl⟩)
      have ch2 := (ch.same sH).same sc
      have hx1 := sc _ _ (sH _ _ h1)
      refine ⟨_, rfl, o, dx, _, rfl, hx1, chF_none _ _ _ (by decide +kernel) (by decide +kernel) (by decide +kernel), _, rfl, o, n, rws, ls, r.2.1, rfl, ch2, mem.1, fun b1 w1 hw1 q1 => ?_⟩
      refine ⟨_, rfl, o, dx, _, rfl, hx1, chF_none _ _ _ (by decide +kernel) (by decide +kernel) (by decide +kernel), _, rfl, o, n, rws, ls, r.2.2, rfl, ch2, mem.2, fun b2 w2 hw2 q2 => ?_⟩
      have g1 : rws.getD r.2.1 [] = w1 := by rw [List.getD, hw1]; rfl
      have g2 : rws.getD r.2.2 [] = w2 := by rw [List.getD, hw2]; rfl
      refine ⟨b1, b2, n, fW w1, fW w2, rfl, n8, q1.q, q2.q, fW_sz (show Tps n w1 from q1.tps) n8, fW_sz (show Tps n w2 from q2.tps) n8, fun z H3 s3 nz pl => ?_⟩
      exact pv.step nD nd lt hr2 (sc.trans s3) (s3 _ _ ec) (same_free sc nz) (by rw [g1, g2]; exact pl)
    · intro H2 pv
      rw [rfs_len] at pv
      obtain ⟨s2, es, q1, q2, q3⟩ := pv.done qt
      exact k D H2 (s1.trans s2) nDH ⟨es, q1, q2, fun e m => ⟨(q3 e m).1, same_free s1 (q3 e m).2.1, (q3 e m).2.2⟩⟩
abbrev s_closes : Stmt := top 36
theorem sc_closes : FnScope ["chain", "s", "t"] ["chain"] (defScope s_closes) := ⟨rfl, rfl, rfl, by decide +kernel, rfl, by decide +kernel, by decide +kernel⟩
theorem ok_closes {f : Addr} {fd : FuncData} (F : Fun K "close_ties" "close_ties" s_closes f fd) (t : ChT K mg CC) (rt : RowT P w K mg base C CC) (c_up : Cal P w K mg base 2 "unlike_pairs" ["many"] spUnlike) (c_close : Cal P w K mg base 11 "close_tie" ["p", "q"] (spClose C)) : FnOk P w K mg base CX0 12 f fd ["chain"] (spTies C CC closeM) := by
  obtain ⟨g, gd, M, G, bG⟩ := rt.ex
  refine F.ok sc_closes (fun vs H Q E h => ?_) (fun cdv A outer s H vs Q E hr h => ?_)
  · obtain ⟨o, n, rws, ls, rfl, _⟩ := h
    rfl
  · obtain ⟨o, n, rws, ls, rfl, n8, ch, k⟩ := h
    have hu := hu_of hr
    refine ⟨_, (pss_one (ps_ret (pe_dcT (own := [("s", 1), ("t", 2)]) (g := gTup K 2 (gCons (gName 1) (gCons (gName 2) gNil))) rfl (by exact hu) sc_closes.nd (pi_list (pe_cal c_up (hr.mono (by decide)) rfl (pa_cons (pe_fld (pv 0) rfl) pa_nil))) (blkOk_by (N := ["chain", "s", "t"]) (sc := defScope s_closes) (by decide +kernel)) (fun _ _ _ _ _ => (pg_tup (by rfl) (pgs_cons (pg_name (i := 1) sc_closes.nd rfl (Or.inl rfl)) (pgs_cons (pg_name (i := 2) sc_closes.nd rfl (Or.inl rfl)) pgs_nil))))
      (fun _ _ _ _ _ => pts_nil) (fun _ _ _ _ _ => (pe_tup (pa_cons (pv 1) (pa_cons (pv 2) pa_nil)))) (fun _ _ _ _ _ => (pe_cal c_close (hr.mono (by decide)) rfl (pa_cons (pe_meth (pl := _) (pv 0) t.it.cl M G (hr.mono (by decide)) bG .nil pass0 (pa_cons (pv 1) pa_nil)) (pa_cons (pe_meth (pl := _) (pv 0) t.it.cl M G (hr.mono (by decide)) bG .nil pass0 (pa_cons (pv 2) pa_nil)) pa_nil))))))), ?_⟩
    obtain ⟨dx, T, lb, rs, h1, h2, h3, h4, h5, h6, h7⟩ := id ch
    refine ⟨_, rfl, o, CC, dx, _, _, rfl, h1, t.it.cl, t.nS, chF_size _ _ _, n, rfl, n8, fun l ts H1 s1 el pt qt => ?_⟩
    have lt : ts.length ≤ 64 := by
      have := congrArg List.length qt
      rw [List.length_map] at this
      rw [this]; exact uprs_len n8
    refine ⟨l, rfl, ⟨_, SqL.of el⟩, fun D nD => ?_⟩
    have nd : (ts.map (·.2)).Nodup := by rw [qt]; exact uprs_nd n8
    have nDH : H D = none := same_free s1 nD
    refine dcT_it (walk_list (K := K) (a := l) (xs := rfs ts)) (PvTies C D ts (fun p => closeL n (fW (rws.getD p.1 [])) (fW (rws.getD p.2 []))) H1) (PvTies.start nD) (fun i H' _ h => SqL.of (h.1 _ _ el)) ?_ ?_
    · rintro i x H'' H' hi pv ⟨rfl, hx⟩
      obtain ⟨r, hr2, mr, rfl⟩ := rfs_at hx
      have sH := s1.trans pv.1
      refine ⟨r.1, prV r.2, rfl, SqT.of (pv.1 _ _ (pt r mr)), rfl, _, _, rfl, _, _, rfl, rfl, rfl, ?_⟩
      refine yes_of ?_
      refine ⟨_, rfl, _, rfl, by show 2 ≤ sizeLine; decide, fun c nc => ?_⟩
      have sc := Same.put (o := .tup (prV r.2)) nc
      have ec : (upd H' c (.tup (prV r.2))) c = some (.tup (prV r.2)) := upd_same
      generalize (upd H' c (.tup (prV r.2))) = H2 at sc ec ⊢
      have mem := mem_uprs (show r.2 ∈ uprs n by rw [← qt]; exact List.mem_map.mpr ⟨r, mr, rfl⟩)
      have ch2 := (ch.same sH).same sc
      have hx1 := sc _ _ (sH _ _ h1)
      refine ⟨_, rfl, o, dx, _, rfl, hx1, chF_none _ _ _ (by decide +kernel) (by decide +kernel) (by decide +kernel), _, rfl, o, n, rws, ls, r.2.1, rfl, ch2, mem.1, fun b1 w1 hw1 q1 => ?_⟩
      refine ⟨_, rfl, o, dx, _, rfl, hx1, chF_none _ _ _ (by decide +kernel) (by decide +kernel) (by decide +kernel), _, rfl, o, n, rws, ls, r.2.2, rfl, ch2, mem.2, fun b2 w2 hw2 q2 => ?_⟩
      have g1 : rws.getD r.2.1 [] = w1 := by rw [List.getD, hw1]; rfl
      have g2 : rws.getD r.2.2 [] = w2 := by rw [List.getD, hw2]; rfl
      refine ⟨b1, b2, n, fW w1, fW w2, rfl, n8, q1.q, q2.q, fW_sz (show Tps n w1 from q1.tps) n8, fW_sz (show Tps n w2 from q2.tps) n8, fun z H3 s3 nz pl => ?_⟩
      exact pv.step nD nd lt hr2 (sc.trans s3) (s3 _ _ ec) (same_free sc nz) (by rw [g1, g2]; exact pl)
    · intro H2 pv
      rw [rfs_len] at pv
      obtain ⟨s2, es, q1, q2, q3⟩ := pv.done qt
      exact k D H2 (s1.trans s2) nDH ⟨es, q1, q2, fun e m => ⟨(q3 e m).1, same_free s1 (q3 e m).2.1, (q3 e m).2.2⟩⟩
end
end K8

set_option Elab.async false
set_option linter.all false
set_option maxRecDepth 100000
set_option maxHeartbeats 4000000
namespace K8
open PySem L2
/-! ### the law's own plans -/
theorem prs_range {n : Nat} (h : n ≤ 8) : prs n = (List.range (n * n)).map fun k => (k / n, k % n) := by
  have h2 : ∀ n : Fin 9, prs n.1 = (List.range (n.1 * n.1)).map fun k => (k / n.1, k % n.1) := by decide +kernel
  exact h2 ⟨n, by omega⟩
def spLesser (C : Addr) : Sp := fun vs H Q _ => ∃ (a b : Addr) (p q : Rat), vs = [.ref a, .ref b] ∧ IsS C H a p ∧ IsS C H b q ∧ Sz 4000 p ∧ Sz 4000 q ∧ ∀ (z : Addr) (H' : Hp), Same H H' → IsS C H' z (if p < q then p else q) → Q (.ref z) H'
theorem pr0 {p : Nat × Nat} : atI (prV p) 0 = some (.int (p.1 : Int)) := i0 (y := .non)
theorem pr1 {p : Nat × Nat} : atI (prV p) 1 = some (.int (p.2 : Int)) := i1
/-- the first i pairs with numbers that are not 0 are in the dict at D -/
def PvZ (C D : Addr) (ts : List Pt) (F : Nat × Nat → Rat) (H0 : Hp) (i : Nat) (H' : Hp) : Prop := Same H0 H' ∧ ∃ es : List (Addr × (Nat × Nat) × Rat), H' D = some (.dT (kvE es)) ∧ es.map (·.2) = noZ (((ts.take i).map (·.2)).map (fun p => (p, F p))) ∧ ∀ e ∈ es, IsS C H' e.1 e.2.2
theorem PvZ.start {C D : Addr} {ts : List Pt} {F : Nat × Nat → Rat} {H0 : Hp} (n : H0 D = none) : PvZ C D ts F H0 0 (upd H0 D (.dT [])) := ⟨Same.put n, [], upd_same, rfl, fun _ m => by cases m⟩
theorem PvZ.skip {C D : Addr} {ts : List Pt} {F : Nat × Nat → Rat} {H0 H' H5 : Hp} {i : Nat} {r : Pt} (h : PvZ C D ts F H0 i H') (he : ts[i]? = some r) (s : Same H' H5) (z : F r.2 = 0) : PvZ C D ts F H0 (i + 1) H5 := by
  obtain ⟨s0, es, eD, qe, ie⟩ := h
  refine ⟨s0.trans s, es, s _ _ eD, ?_, fun e m => (ie e m).same s⟩
  rw [take_more he, qe]
  simp only [noZ, List.map_append, List.filter_append, List.map_cons, List.map_nil, List.filter_cons, List.filter_nil]
  rw [z]
  simp
theorem PvZ.step {C D : Addr} {ts : List Pt} {F : Nat × Nat → Rat} {H0 H' H5 : Hp} {i : Nat} {r : Pt} {c z : Addr} (h : PvZ C D ts F H0 i H') (n : H0 D = none) (nd : (ts.map (·.2)).Nodup) (l : ts.length ≤ 64) (he : ts[i]? = some r) (s : Same H' H5) (ec : H5 c = some (.tup (prV r.2))) (iz : IsS C H5 z (F r.2)) (nz : F r.2 ≠ 0) :
    ∃ H6, DPut H5 D (.ref c) (.ref z) H6 ∧ PvZ C D ts F H0 (i + 1) H6 := by
  obtain ⟨s0, es, eD, qe, ie⟩ := h
  have eD5 := s _ _ eD
  have le : es.length ≤ 64 := by
    have := congrArg List.length qe
    have h2 := List.length_filter_le (fun e : (Nat × Nat) × Rat => e.2 != 0) (((ts.take i).map (·.2)).map (fun p => (p, F p)))
    simp only [noZ, List.length_map, List.length_take] at this h2
    omega
  have nin : r.2 ∉ es.map fun e => e.2.1 := by
    rw [map_keys qe]
    intro m
    obtain ⟨x, mx, qx⟩ := List.mem_map.mp m
    have mx := (List.mem_filter.mp mx).1
    obtain ⟨p, mp, rfl⟩ := List.mem_map.mp mx
    have : p = r.2 := qx
    rw [this] at mp
    exact notin_take nd he mp
  refine ⟨_, DPut.t (k := kp r.2) eD5 ec (by rw [kvE_len]; exact small_len (by omega)), Same.but (fun b u e => s _ _ (s0 _ _ e)) n, es ++ [(z, r.2, F r.2)], ?_, ?_, fun e m => ?_⟩
  · rw [upd_same]
    exact congrArg (fun x => some (HO.dT x)) (put_new nin)
  · rw [take_more he, List.map_append, qe]
    simp only [noZ, List.map_append, List.filter_append, List.map_cons, List.map_nil, List.filter_cons, List.filter_nil]
    simp [nz]
  · have up : ∀ {a : Addr} {q : Rat}, IsS C H5 a q → IsS C (upd H5 D (.dT (putK (kvE es) (kp r.2) (.ref z)))) a q := fun {a q} ⟨dx, e⟩ => ⟨dx, by rw [upd_ne (fun z => by rw [z, eD5] at e; cases e)]; exact e⟩
    rcases List.mem_append.mp m with m | m
    · exact up ((ie e m).same s)
    · rw [List.mem_singleton.mp m]; exact up iz
theorem PvZ.done {C D : Addr} {ts : List Pt} {F : Nat × Nat → Rat} {H0 H' : Hp} {ps : List (Nat × Nat)} (h : PvZ C D ts F H0 ts.length H') (e : ts.map (·.2) = ps) : Same H0 H' ∧ PlanAt C H' D (noZ (ps.map fun p => (p, F p))) := by
  obtain ⟨s0, es, eD, qe, ie⟩ := h
  rw [List.take_length, e] at qe
  exact ⟨s0, es, eD, qe, ie⟩
section
variable {P : Program} {w : World} {K : PySem.W.Frag} {mg : Str → Option Value} {base : Heap} {C CC B : Addr}
abbrev s_lesser : Stmt := top 39
theorem sc_lesser : FnScope ["_law_one", "_law_other"] ["_law_one", "_law_other"] (defScope s_lesser) := ⟨rfl, rfl, rfl, by decide +kernel, rfl, by decide +kernel, by decide +kernel⟩
theorem ok_lesser {f : Addr} {fd : FuncData} (F : Fun K "_law_lesser" "_law_lesser" s_lesser f fd) (sh : ShT K mg C) (ls : LsT P w K mg base C) : FnOk P w K mg base CX0 8 f fd ["_law_one", "_law_other"] (spLesser C) := by
  obtain ⟨fl, fdl, ML, FL, bL⟩ := ls.ex
  refine F.ok sc_lesser (fun vs H Q E h => ?_) (fun cdv A outer s H vs Q E hr h => ?_)
  · obtain ⟨a, b, p, q, rfl, _⟩ := h
    rfl
  · obtain ⟨a, b, p, q, rfl, ia, ib, zp, zq, k⟩ := h
    refine ⟨_, (pss_cons (ps_if (pt_val (pe_meth (pl := _) (pv 0) sh.it.cl ML FL (hr.mono (by decide)) bL .nil pass0 (pa_cons (pv 1) pa_nil)))
        (pss_one (ps_ret (pv 0)))
        pss_nil)
      (pss_one (ps_ret (pv 1)))), ?_⟩
    obtain ⟨d1, e1⟩ := id ia
    obtain ⟨d2, e2⟩ := id ib
    refine ⟨_, rfl, a, d1, _, rfl, e1, less_none _ _, _, rfl, a, d1, .ref b, _, _, _, _, rfl, e1, .inr ⟨b, d2, rfl, e2⟩, low_q zp, low_q zq, fun H3 s3 => ⟨_, rfl, ?_⟩⟩
    by_cases lt : p < q
    · refine iteTe (decide_eq_true (less_q.mpr lt)) ⟨_, rfl, k a H3 s3 ?_⟩
      rw [if_pos lt]
      exact ia.same s3
    · refine iteFe (decide_eq_false (fun z => lt (less_q.mp z))) ⟨_, rfl, k b H3 s3 ?_⟩
      rw [if_neg lt]
      exact ib.same s3
abbrev s_ltotal : Stmt := top 40
theorem sc_ltotal : FnScope ["_law_shares", "_law_found", "_law_share"] ["_law_shares"] (defScope s_ltotal) := ⟨rfl, rfl, rfl, by decide +kernel, rfl, by decide +kernel, by decide +kernel⟩
theorem ok_ltotal {f : Addr} {fd : FuncData} (F : Fun K "_law_total" "_law_total" s_ltotal f fd) (m : MkT P w K mg base C B) (ad : ArTL P w K mg base C .Add "+" "add" 7 (spAdd C)) : FnOk P w K mg base CX0 8 f fd ["_law_shares"] (spTotalL C) := by
  refine F.ok sc_ltotal (fun vs H Q E h => ?_) (fun cdv A outer s H vs Q E hr h => ?_)
  · obtain ⟨l, n, g, rfl, _⟩ := h
    rfl
  · obtain ⟨l, n, g, rfl, n8, ⟨as, el, la, ia⟩, zg, k⟩ := h
    refine ⟨_, (pss_cons (ps_set (i := 1) sc_ltotal.nd rfl (Or.inl rfl) (pe_share1 m (hr.mono (by decide)) rfl (pa_cons pe_int pa_nil)))
      (pss_cons (ps_for PassesOwn.never rfl (pi_list (pv 0)) (pg_name (i := 2) sc_ltotal.nd rfl (Or.inl rfl))
        (pss_one (ps_set (i := 1) sc_ltotal.nd rfl (Or.inl rfl) (pe_op (opQ_add ad (hr.mono (by decide))) (pv 1) (pv 2)))))
      (pss_one (ps_ret (pv 1))))), ?_⟩
    refine fun z dz hz hd ne => siQ hz hd ne fun H1 s1 i1 => ⟨rfl, ?_⟩
    refine ⟨_, rfl, l, rfl, ⟨_, SqL.of (s1 _ _ el)⟩, ?_⟩
    refine for_it (walk_list (K := K) (a := l) (xs := as.map V.ref)) (fun i σ H' => ∃ z v2, σ = [some (.ref l), some (.ref z), v2] ∧ Same H1 H' ∧ IsS C H' z (sumQ g i)) ⟨z, none, rfl, Same.refl _, i1⟩ (fun i σ H' _ h => ?_) ?_ ?_
    · obtain ⟨_, _, _, s2, _⟩ := h
      exact SqL.of (s2 _ _ (s1 _ _ el))
    · rintro i x σ H'' H' hi ⟨z, v2, rfl, s2, iz⟩ ⟨rfl, hx⟩
      obtain ⟨b, hb, rfl⟩ := refs_at hx
      have hi : i < n := by have := (List.getElem?_eq_some_iff.mp hb).1; omega
      have zs := (sumQ_sz zg i).mono (show 1 + 51 * i ≤ 4000 by omega)
      refine ⟨_, rfl, _, rfl, z, b, _, _, rfl, rfl, iz, ((ia i b hb).same s1).same s2, zs, (zg i).mono (by decide), fun z2 H3 s3 iz2 => ?_⟩
      exact ⟨z2, _, rfl, s2.trans s3, iz2⟩
    · rintro σ H2 ⟨z, v2, rfl, s2, iz⟩
      rw [List.length_map, la] at iz
      exact ⟨_, rfl, k z H2 (s1.trans s2) iz⟩
abbrev s_pairs : Stmt := top 41
theorem sc_pairs : FnScope ["_law_size_here", "_law_k"] ["_law_size_here"] (defScope s_pairs) := ⟨rfl, rfl, rfl, by decide +kernel, rfl, by decide +kernel, by decide +kernel⟩
theorem ok_lpairs {f : Addr} {fd : FuncData} (F : Fun K "_law_pairs" "_law_pairs" s_pairs f fd) (T : Bm mg) : FnOk P w K mg base CX0 1 f fd ["_law_size_here"] spIxPrs := by
  refine F.ok sc_pairs (fun vs H Q E h => ?_) (fun cdv A outer s H vs Q E hr h => ?_)
  · obtain ⟨n, rfl, _⟩ := h
    rfl
  · obtain ⟨n, rfl, n8, k⟩ := h
    refine ⟨_, (pss_one (ps_ret (pe_lc (own := [("_law_k", 1)]) rfl sc_pairs.nd (pi_range1 (by rfl) T.n_range (pa_cons (pe_op op_mul (pv 0) (pv 0)) pa_nil)) (blkOk_by (N := ["_law_size_here", "_law_k"]) (sc := defScope s_pairs) (by decide +kernel)) (fun _ _ _ _ _ => (pg_name (i := 1) sc_pairs.nd rfl (Or.inl rfl))) (fun _ _ _ _ _ => pts_nil) (fun _ _ _ _ _ => (pe_tup (pa_cons (pe_op op_fdivW (pv 1) (pv 0)) (pa_cons (pe_op op_modN (pe_callTy call_int1 (by rfl) T.b.n_int (by decide +kernel) (pa_cons (pv 1) pa_nil)) (pv 0)) pa_nil))))))), ?_⟩
    have n64 : n * n ≤ 64 := Nat.mul_le_mul n8 n8
    have cast : (n : Int) * (n : Int) = ((n * n : Nat) : Int) := (Int.natCast_mul n n).symm
    refine ⟨_, rfl, _, rfl, (n : Int), (n : Int), rfl, rfl, .inl ⟨by omega, by omega⟩, ?_⟩
    have c64 : (n : Int) * (n : Int) ≤ 64 := by rw [cast]; omega
    have c0 : 0 ≤ (n : Int) * (n : Int) := by rw [cast]; omega
    refine ⟨(n : Int) * (n : Int), rfl, by omega, by omega, fun D nD => ?_⟩
    rw [cast, Int.toNat_natCast]
    refine lc_range (fun i H' => Same H H' ∧ ∃ ts : List Pt, H' D = some (.lst (rfs ts)) ∧ Pts H' ts ∧ ts.map (·.2) = (List.range i).map fun k => (k / n, k % n)) ⟨Same.put nD, [], upd_same, fun _ m => (by cases m), rfl⟩ ?_ ?_
    · rintro i H' hi ⟨s1, ts, eD, pt, qt⟩
      rw [Int.zero_add]
      have np : 0 < n := by rcases Nat.eq_zero_or_pos n with z | z; rw [z] at hi; omega; exact z
      refine ⟨rfl, yes_of ?_⟩
      have d1 : ((i : Int) / (n : Int)) = ((i / n : Nat) : Int) := (Int.natCast_ediv i n).symm
      have m1 : ((i : Int).fmod (n : Int)) = ((i % n : Nat) : Int) := fmod_nat i n
      refine ⟨_, rfl, _, rfl, (i : Int), (n : Int), rfl, rfl, ⟨by omega, nsm (by omega)⟩, ?_⟩
      refine ⟨_, rfl, .inl ⟨_, rfl, _, rfl, (i : Int), (n : Int), rfl, rfl, by omega, by show 2 ≤ sizeLine; decide, fun t nt => ?_⟩⟩
      simp only [d1, m1]
      have st := Same.put (o := .tup (prV (i / n, i % n))) nt
      have lt : ts.length ≤ 64 := by
        have := congrArg List.length qt
        rw [List.length_map, List.length_map, List.length_range] at this
        omega
      have eD2 := st _ _ eD
      refine ⟨rfs ts, eD2, by rw [rfs_len]; exact small_len (by omega), Same.but (fun b u e => st _ _ (s1 _ _ e)) nD, ts ++ [(t, i / n, i % n)], by rw [upd_same, rfs_snoc], Pts.lstU (Pts.snoc (pt.same st) upd_same) eD2, ?_⟩
      rw [List.map_append, qt, List.range_succ, List.map_append]
      rfl
    · rintro H1 ⟨s1, ts, eD, pt, qt⟩
      exact k D ts H1 s1 eD pt (by rw [qt, prs_range n8])
end
end K8

set_option Elab.async false
set_option linter.all false
set_option maxRecDepth 100000
set_option maxHeartbeats 4000000
namespace K8
open PySem L2
section
variable {P : Program} {w : World} {K : PySem.W.Frag} {mg : Str → Option Value} {base : Heap} {C CC B : Addr}
abbrev s_lunlike : Stmt := top 42
theorem sc_lunlike : FnScope ["_law_size_here", "_law_pair"] ["_law_size_here"] (defScope s_lunlike) := ⟨rfl, rfl, rfl, by decide +kernel, rfl, by decide +kernel, by decide +kernel⟩
theorem ok_lunlike {f : Addr} {fd : FuncData} (F : Fun K "_law_unlike" "_law_unlike" s_lunlike f fd) (c_lp : Cal P w K mg base 1 "_law_pairs" ["_law_size_here"] spIxPrs) : FnOk P w K mg base CX0 2 f fd ["_law_size_here"] spUnlike := by
  refine F.ok sc_lunlike (fun vs H Q E h => ?_) (fun cdv A outer s H vs Q E hr h => ?_)
  · obtain ⟨n, rfl, _⟩ := h
    rfl
  · obtain ⟨n, rfl, hn, k⟩ := h
    refine ⟨_, (pss_one (ps_ret (pe_lc (own := [("_law_pair", 1)]) rfl sc_lunlike.nd (pi_list (pe_cal c_lp (hr.mono (by decide)) rfl (pa_cons (pv 0) pa_nil))) (blkOk_by (N := ["_law_size_here", "_law_pair"]) (sc := defScope s_lunlike) (by decide +kernel)) (fun _ _ _ _ _ => (pg_name (i := 1) sc_lunlike.nd rfl (Or.inl rfl))) (fun _ _ _ _ _ => (pts_one (pt_cmpR op_ne (pe_ix (show IxR _ (rIxT K) from ix_tup) (pv 1) pe_int (fun _ _ => rfl)) (pe_ix (show IxR _ (rIxT K) from ix_tup) (pv 1) pe_int (fun _ _ => rfl)) (nomark _)))) (fun _ _ _ _ _ => (pv 1))))), ?_⟩
    refine ⟨_, rfl, n, rfl, hn, fun l ts H1 s1 el pt qt => ?_⟩
    have lt : ts.length ≤ 64 := by
      have := congrArg List.length qt
      rw [List.length_map] at this
      rw [this]; exact prs_len n hn
    refine ⟨l, rfl, ⟨_, SqL.of el⟩, fun D nD => ?_⟩
    refine lc_list (K := K) (a := l) (xs := rfs ts) (fun i H' => Same H1 H' ∧ ∃ us : List Pt, H' D = some (.lst (rfs us)) ∧ Pts H' us ∧ us.map (·.2) = ((ts.take i).map (·.2)).filter fun p => p.1 != p.2) ⟨Same.put nD, [], upd_same, fun _ m => (by cases m), rfl⟩ (fun i H' _ h => SqL.of (h.1 _ _ el)) ?_ ?_
    · rintro i y H' hy ⟨s2, us, eD, pu, qu⟩
      obtain ⟨r, hr2, mr, rfl⟩ := rfs_at hy
      have il := (List.getElem?_eq_some_iff.mp hr2).1
      have er := s2 _ _ (pt r mr)
      refine ⟨rfl, ?_⟩
      refine ⟨_, rfl, r.1, prV r.2, 0, _, rfl, rfl, SqT.of er, pr0, _, rfl, r.1, prV r.2, 1, _, rfl, rfl, SqT.of er, pr1, rfl, _, rfl, ?_⟩
      have take : (ts.take (i + 1)).map (·.2) = (ts.take i).map (·.2) ++ [r.2] := by rw [take_more hr2, List.map_append]; rfl
      by_cases e : r.2.1 = r.2.2
      · refine iteFe (by simp [e]) ⟨s2, us, eD, pu, ?_⟩
        rw [take, List.filter_append, qu, List.filter_cons, if_neg (by simp [e])]
        simp
      · refine iteTe (by simp; omega) ?_
        have ul : us.length ≤ 64 := by
          have := congrArg List.length qu
          rw [List.length_map] at this
          have h2 := List.length_filter_le (fun p : Nat × Nat => p.1 != p.2) ((ts.take i).map (·.2))
          rw [List.length_map, List.length_take] at h2
          omega
        refine ⟨_, rfl, rfs us, eD, by rw [rfs_len]; exact small_len (by omega), Same.but (fun b u e => s2 _ _ e) nD, us ++ [r], by rw [upd_same, rfs_snoc], Pts.lstU (Pts.snoc pu er) eD, ?_⟩
        rw [List.map_append, qu, take, List.filter_append, List.filter_cons, if_pos (by simp [e])]
        rfl
    · rintro H2 ⟨s2, us, eD, pu, qu⟩
      refine k D us H2 (s1.trans s2) eD pu ?_
      rw [qu, rfs_len, List.take_length, qt]
      rfl
abbrev s_lfree : Stmt := top 43
abbrev nLf : List Str := ["_law_p", "_law_q", "_law_plan", "_law_pair", "_law_amount"]
theorem sc_lfree : FnScope nLf ["_law_p", "_law_q"] (defScope s_lfree) := ⟨rfl, rfl, rfl, by decide +kernel, rfl, by decide +kernel, by decide +kernel⟩
theorem ok_lfree {fa : Addr} {fd : FuncData} (F : Fun K "_law_free" "_law_free" s_lfree fa fd) (T : Bm mg) (eq : EqT P w K mg base C) (ml : MulL P w K mg base C) (c_lp : Cal P w K mg base 1 "_law_pairs" ["_law_size_here"] spIxPrs) : FnOk P w K mg base CX0 8 fa fd ["_law_p", "_law_q"] (spFree C) := by
  obtain ⟨fe, fde, O, FE, bE⟩ := eq.ex
  refine F.ok sc_lfree (fun vs H Q E h => ?_) (fun cdv A outer s H vs Q E hr h => ?_)
  · obtain ⟨bp, bq, n, f, g, rfl, _⟩ := h
    rfl
  · obtain ⟨bp, bq, n, f, g, rfl, n8, rp, rq, zf, zg, k⟩ := h
    have hu := hu_of hr
    refine ⟨_, (pss_cons (ps_set (i := 2) sc_lfree.nd rfl (Or.inl rfl) pe_dnewT)
      (pss_cons (ps_for PassesOwn.never rfl (pi_list (pe_cal c_lp (hr.mono (by decide)) rfl (pa_cons (pe_callB call_len_seq (by rfl) T.b.n_len PySem.boot_len (pa_cons (pv 0) pa_nil)) pa_nil))) (pg_name (i := 3) sc_lfree.nd rfl (Or.inl rfl))
        (pss_cons (ps_set (i := 4) sc_lfree.nd rfl (Or.inl rfl) (pe_op (opQ_mul ml (hr.mono (by decide))) (pe_ix (show IxR _ (rIxT K) from ix_tup) (pv 0) (pe_ix (show IxR _ (rIxT K) from ix_tup) (pv 3) pe_int (fun _ _ => rfl)) (fun _ _ => rfl)) (pe_ix (show IxR _ (rIxT K) from ix_tup) (pv 1) (pe_ix (show IxR _ (rIxT K) from ix_tup) (pv 3) pe_int (fun _ _ => rfl)) (fun _ _ => rfl))))
          (pss_one (ps_if (pt_cmpR (show OpR _ _ (rOwnB K C (EqS K C) .NotEq) from op_ownB is_ne FE O bE pass0 (hr.mono (by decide))) (pv 4) pe_int (nomark _))
            (pss_one (ps_asg (pv 4) (pg_sub (pv 2) (pv 3) (set_dict (by exact hu)))))
            pss_nil))))
      (pss_one (ps_ret (pv 2))))), ?_⟩
    obtain ⟨ap, ep, lp, fp⟩ := id rp
    refine fun D nD => ?_
    have sD := Same.put (o := .dT []) nD
    refine ⟨_, rfl, bp, _, rfl, .inr (SqT.of (sD _ _ ep)), ?_⟩
    rw [List.length_map, lp]
    refine ⟨n, rfl, n8, fun l ts H1 s1 el pt qt => ?_⟩
    have lt : ts.length ≤ 64 := by
      have := congrArg List.length qt
      rw [List.length_map] at this
      rw [this]; exact prs_len n n8
    have nd : (ts.map (·.2)).Nodup := by rw [qt]; exact prs_nd n8
    have eD1 := s1 _ _ (show (upd H D (.dT [])) D = some (.dT []) from upd_same)
    have s01 := sD.trans s1
    have pv0 : PvZ C D ts (fun p => f p.1 * g p.2) H 0 H1 := ⟨s01, [], eD1, rfl, fun _ m => by cases m⟩
    refine ⟨l, rfl, ⟨_, SqL.of el⟩, ?_⟩
    refine for_it (walk_list (K := K) (a := l) (xs := rfs ts)) (fun i σ H' => ∃ v3 v4, σ = [some (.ref bp), some (.ref bq), some (.ref D), v3, v4] ∧ Keep D H1 H' ∧ PvZ C D ts (fun p => f p.1 * g p.2) H i H') ⟨none, none, rfl, Keep.refl _ _, pv0⟩ (fun i σ H' _ h => ?_) ?_ ?_
    · obtain ⟨_, _, _, kp1, _⟩ := h
      exact SqL.of (kp1 _ _ el (fun z => by rw [z, eD1] at el; cases el))
    · rintro i x σ H'' H' hi ⟨v3, v4, rfl, kp1, pvz⟩ ⟨rfl, hx⟩
      obtain ⟨r, hr2, mr, rfl⟩ := rfs_at hx
      have mem := mem_prs.mp (show r.2 ∈ prs n by rw [← qt]; exact List.mem_map.mpr ⟨r, mr, rfl⟩)
      have er := (pt.butD kp1 eD1) r mr
      obtain ⟨xs, a1, q1, q2, q3⟩ := (rp.same pvz.1).at (K := K) mem.1
      obtain ⟨ys, a2, q4, q5, q6⟩ := (rq.same pvz.1).at (K := K) mem.2
      refine ⟨_, rfl, _, rfl, r.1, prV r.2, 0, _, rfl, rfl, SqT.of er, pr0, bp, xs, _, _, rfl, rfl, q1, q2, _, rfl, _, rfl, r.1, prV r.2, 1, _, rfl, rfl, SqT.of er, pr1, bq, ys, _, _, rfl, rfl, q4, q5, ?_⟩
      refine ⟨a1, a2, _, _, rfl, rfl, q3, q6, (zf _).mono (by decide), (zg _).mono (by decide), fun z H5 s5 iz => ?_⟩
      obtain ⟨dz, ez⟩ := id iz
      refine ⟨_, rfl, decide (f r.2.1 * g r.2.2 = ((0 : Int) : Rat)), .inl ⟨z, dz, _, rfl, ez, eqS_int ⟨dz, ez⟩, .inl ⟨_, .int 0⟩⟩, _, rfl, ?_⟩
      have kp5 : Keep D H1 H5 := kp1.trans (Keep.of s5)
      by_cases z0 : f r.2.1 * g r.2.2 = 0
      · refine iteFe (by rw [z0]; rfl) ⟨_, _, rfl, kp5, pvz.skip hr2 s5 z0⟩
      · refine iteTe (by rw [decide_eq_false (by exact z0)]; rfl) ?_
        obtain ⟨H6, dp, pv6⟩ := pvz.step nD nd lt hr2 s5 (s5 _ _ er) iz z0
        refine ⟨_, rfl, _, rfl, _, rfl, D, H6, rfl, dp, _, _, rfl, ?_, pv6⟩
        rcases dp with ⟨kvs, k2, e1, e2, e3, rfl⟩ | ⟨kvs, k2, b, e1, e2, e3, e4, rfl⟩
        · exact fun b u e ne => by rw [upd_ne ne]; exact kp5 b u e ne
        · exact fun b u e ne => by rw [upd_ne ne]; exact kp5 b u e ne
    · rintro σ H2 ⟨v3, v4, rfl, kp1, pvz⟩
      rw [rfs_len] at pvz
      obtain ⟨s2, pl⟩ := pvz.done qt
      exact ⟨_, rfl, k D H2 s2 nD pl⟩
end
end K8

set_option Elab.async false
set_option linter.all false
set_option maxRecDepth 100000
set_option maxHeartbeats 4000000
namespace K8
open PySem L2
/-- the amounts as the law reckons them -/
def cloF (n : Nat) (f g : Nat → Rat) (p : Nat × Nat) : Rat := if p.1 = p.2 then mQ f g p.1 else if lftQ n f g = 0 then 0 else (f p.1 - mQ f g p.1) * (g p.2 - mQ f g p.2) / lftQ n f g
theorem cloF_eq (n : Nat) (f g : Nat → Rat) (p : Nat × Nat) : (if lftQ n f g = 0 then dia f g p else clo n f g p) = cloF n f g p := by
  unfold cloF clo dia
  by_cases e : p.1 = p.2
  · rw [if_pos e, if_pos e]
    split
    · rfl
    · have : (f p.1 - mQ f g p.1) * (g p.2 - mQ f g p.2) = 0 := by
        rw [← e]
        unfold mQ
        split
        · rw [Rat.sub_self, Rat.zero_mul]
        · rw [Rat.sub_self, Rat.mul_zero]
      rw [this, Rat.div_def, Rat.zero_mul, Rat.add_zero]
  · rw [if_neg e, if_neg e]
    split
    · rfl
    · rw [Rat.zero_add]
theorem closeL_eq (n : Nat) (f g : Nat → Rat) : noZ ((prs n).map fun p => (p, cloF n f g p)) = closeL n f g := by
  unfold closeL
  congr 1
  exact List.map_congr_left fun p _ => by rw [cloF_eq]
section
variable {P : Program} {w : World} {K : PySem.W.Frag} {mg : Str → Option Value} {base : Heap} {C CC B : Addr}
abbrev s_lclose : Stmt := top 63
abbrev nLc : List Str := ["_law_p", "_law_q", "_law_both", "_law_left", "_law_plan", "_law_pair", "_law_amount", "_law_k"]
theorem sc_lclose : FnScope nLc ["_law_p", "_law_q"] (defScope s_lclose) := ⟨rfl, rfl, rfl, by decide +kernel, rfl, by decide +kernel, by decide +kernel⟩
def loopLc : List Stmt := match (defBody s_lclose).getD 3 (.Pass ⟨0, 0, 0, 0⟩) with
  | .For _ _ b _ _ => b
  | _ => []
abbrev XLc (P : Program) (w : World) (K : PySem.W.Frag) (mg : Str → Option Value) (base : Heap) (f : Addr) (cdv : Value) (A : Around) (outer : List Env) (s : Shared) (H : Hp) (E : XK) : Cx :=
  (cxOf CX0 P w K mg base nLc "_law_close" (defScope s_lclose) f cdv A outer s H E).nox
/-- the amount is put where it is not 0 -/
theorem segLc2 {fa : Addr} {cdv : Value} {A : Around} {outer : List Env} {s : Shared} {H : Hp} {E : XK} (L : CloT P w K mg base C B) (hr : Room 8 (XLc P w K mg base fa cdv A outer s H E).A) :
    ∃ u, PSs (XLc P w K mg base fa cdv A outer s H E) (loopLc.drop 2) u ∧ ∀ (D5 : Ends) (σ0 σ1 σ2 σ3 v7 : Option V) (D : Addr) (r : Pt) (ts : List Pt) (i : Nat) (F : Nat × Nat → Rat) (H0 H1 H' H5 : Hp) (z : Addr), H0 D = none → Keep D H1 H' → PvZ C D ts F H0 i H' → (ts.map (·.2)).Nodup → ts.length ≤ 64 → ts[i]? = some r → Same H' H5 → H5 r.1 = some (.tup (prV r.2)) → IsS C H5 z (F r.2) →
      (∀ H6, Keep D H1 H6 → PvZ C D ts F H0 (i + 1) H6 → D5.nx [σ0, σ1, σ2, σ3, some (.ref D), some (.ref r.1), some (.ref z), v7] H6) →
      u D5 [σ0, σ1, σ2, σ3, some (.ref D), some (.ref r.1), some (.ref z), v7] H5 := by
  obtain ⟨fe, fde, O, FE, bE⟩ := L.eq.ex
  have hu := hu_of hr
  refine ⟨_, (pss_one (ps_if (pt_cmpR (show OpR _ _ (rOwnB K C (EqS K C) .NotEq) from op_ownB is_ne FE O bE pass0 (hr.mono (by decide))) (pv 6) pe_int (nomark _))
            (pss_one (ps_asg (pv 6) (pg_sub (pv 4) (pv 5) (set_dict (by exact hu)))))
            pss_nil)), ?_⟩
  intro D5 σ0 σ1 σ2 σ3 v7 D r ts i F H0 H1 H' H5 z nD kp1 pvz nd lt hr2 s5 er iz k
  obtain ⟨dz, ez⟩ := id iz
  refine ⟨_, rfl, decide (F r.2 = ((0 : Int) : Rat)), .inl ⟨z, dz, _, rfl, ez, eqS_int ⟨dz, ez⟩, .inl ⟨_, .int 0⟩⟩, _, rfl, ?_⟩
  have kp5 : Keep D H1 H5 := kp1.trans (Keep.of s5)
  by_cases z0 : F r.2 = 0
  · exact iteFe (by rw [z0]; rfl) (k H5 kp5 (pvz.skip hr2 s5 z0))
  · refine iteTe (by rw [decide_eq_false (by exact z0)]; rfl) ?_
    obtain ⟨H6, dp, pv6⟩ := pvz.step nD nd lt hr2 s5 er iz z0
    refine ⟨_, rfl, _, rfl, _, rfl, D, H6, rfl, dp, k H6 ?_ pv6⟩
    rcases dp with ⟨kvs, k2, e1, e2, e3, rfl⟩ | ⟨kvs, k2, b, e1, e2, e3, e4, rfl⟩
    · exact fun b u e ne => by rw [upd_ne ne]; exact kp5 b u e ne
    · exact fun b u e ne => by rw [upd_ne ne]; exact kp5 b u e ne
theorem ok_lclose {fa : Addr} {fd : FuncData} (F : Fun K "_law_close" "_law_close" s_lclose fa fd) (L : CloT P w K mg base C B) (c_ls : Cal P w K mg base 8 "_law_lesser" ["_law_one", "_law_other"] (spLesser C)) (c_lt : Cal P w K mg base 8 "_law_total" ["_law_shares"] (spTotalL C)) (c_lp : Cal P w K mg base 1 "_law_pairs" ["_law_size_here"] spIxPrs) : FnOk P w K mg base CX0 9 fa fd ["_law_p", "_law_q"] (spClose C) := by
  obtain ⟨fe, fde, O, FE, bE⟩ := L.eq.ex
  obtain ⟨fo, fdo, MO, FO, bO⟩ := L.ov.ex
  refine F.ok sc_lclose (fun vs H Q E h => ?_) (fun cdv A outer s H vs Q E hr h => ?_)
  · obtain ⟨bp, bq, n, f, g, rfl, _⟩ := h
    rfl
  · obtain ⟨bp, bq, n, f, g, rfl, n8, rp, rq, zf, zg, k⟩ := h
    obtain ⟨u, hu2, qu⟩ := segLc2 (fa := fa) (cdv := cdv) (A := A) (outer := outer) (s := s) (H := H) (E := E) L hr
    refine ⟨_, (pss_cons (ps_setLc (i := 2) (own := [("_law_k", 7)]) rfl sc_lclose.nd rfl rfl (sw_true rfl rfl rfl (by decide +kernel)) (pi_range1 (by rfl) L.T.n_range (pa_cons (pe_callB call_len_seq (by rfl) L.T.b.n_len PySem.boot_len (pa_cons (pv 0) pa_nil)) pa_nil)) (blkOk_by (N := nLc) (sc := defScope s_lclose) (by decide +kernel)) (fun _ _ _ _ _ => (pg_name (i := 7) sc_lclose.nd rfl (Or.inl rfl))) (fun _ _ _ _ _ => pts_nil) (fun _ _ _ _ _ => (pe_cal c_ls (hr.mono (by decide)) rfl (pa_cons (pe_ix (show IxR _ (rIxT K) from ix_tup) (pv 0) (pv 7) (fun _ _ => rfl)) (pa_cons (pe_ix (show IxR _ (rIxT K) from ix_tup) (pv 1) (pv 7) (fun _ _ => rfl)) pa_nil)))))
      (pss_cons (ps_set (i := 3) sc_lclose.nd rfl (Or.inl rfl) (pe_op (opQ_sub L.sb (hr.mono (by decide))) (pe_share1 L.m (hr.mono (by decide)) rfl (pa_cons pe_int pa_nil)) (pe_cal c_lt (hr.mono (by decide)) rfl (pa_cons (pv 2) pa_nil))))
      (pss_cons (ps_set (i := 4) sc_lclose.nd rfl (Or.inl rfl) pe_dnewT)
      (pss_cons (ps_for PassesOwn.never rfl (pi_list (pe_cal c_lp (hr.mono (by decide)) rfl (pa_cons (pe_callB call_len_seq (by rfl) L.T.b.n_len PySem.boot_len (pa_cons (pv 0) pa_nil)) pa_nil))) (pg_name (i := 5) sc_lclose.nd rfl (Or.inl rfl))
        (pss_cons (ps_set (i := 6) sc_lclose.nd rfl (Or.inl rfl) (pe_share1 L.m (hr.mono (by decide)) rfl (pa_cons pe_int pa_nil)))
          (pss_cons (ps_if (pt_cmpR op_eq (pe_ix (show IxR _ (rIxT K) from ix_tup) (pv 5) pe_int (fun _ _ => rfl)) (pe_ix (show IxR _ (rIxT K) from ix_tup) (pv 5) pe_int (fun _ _ => rfl)) (nomark _))
            (pss_one (ps_set (i := 6) sc_lclose.nd rfl (Or.inl rfl) (pe_ix (show IxR _ (rIxL K) from ix_list) (pv 2) (pe_ix (show IxR _ (rIxT K) from ix_tup) (pv 5) pe_int (fun _ _ => rfl)) (fun _ _ => rfl))))
            (pss_one (ps_if (pt_cmpR (show OpR _ _ (rOwnB K C (EqS K C) .NotEq) from op_ownB is_ne FE O bE pass0 (hr.mono (by decide))) (pv 3) pe_int (nomark _))
                (pss_one (ps_set (i := 6) sc_lclose.nd rfl (Or.inl rfl) (pe_meth (pl := _) (pe_op (opQ_mul L.ml (hr.mono (by decide))) (pe_op (opQ_sub L.sb (hr.mono (by decide))) (pe_ix (show IxR _ (rIxT K) from ix_tup) (pv 0) (pe_ix (show IxR _ (rIxT K) from ix_tup) (pv 5) pe_int (fun _ _ => rfl)) (fun _ _ => rfl)) (pe_ix (show IxR _ (rIxL K) from ix_list) (pv 2) (pe_ix (show IxR _ (rIxT K) from ix_tup) (pv 5) pe_int (fun _ _ => rfl)) (fun _ _ => rfl))) (pe_op (opQ_sub L.sb (hr.mono (by decide))) (pe_ix (show IxR _ (rIxT K) from ix_tup) (pv 1) (pe_ix (show IxR _ (rIxT K) from ix_tup) (pv 5) pe_int (fun _ _ => rfl)) (fun _ _ => rfl)) (pe_ix (show IxR _ (rIxL K) from ix_list) (pv 2) (pe_ix (show IxR _ (rIxT K) from ix_tup) (pv 5) pe_int (fun _ _ => rfl)) (fun _ _ => rfl)))) L.sh.it.cl MO FO (hr.mono (by decide)) bO .nil passX (pa_cons (pv 3) pa_nil))))
                pss_nil))) hu2)))
      (pss_one (ps_ret (pv 4))))))), ?_⟩
    obtain ⟨ap, ep, lp, ip⟩ := id rp
    refine ⟨_, rfl, bp, _, rfl, .inr (SqT.of ep), ?_⟩
    rw [List.length_map, lp]
    refine ⟨_, rfl, by omega, by omega, fun bo nbo => ?_⟩
    rw [Int.toNat_natCast]
    refine lc_range (fun i H' => Same H H' ∧ ∃ as : List Addr, H' bo = some (.lst (as.map V.ref)) ∧ as.length = i ∧ ∀ (j : Nat) (a : Addr), as[j]? = some a → IsS C H' a (mQ f g j)) ⟨Same.put nbo, [], upd_same, rfl, fun j a e => by simp at e⟩ ?_ ?_
    · rintro i H' hi ⟨s1, as, eD, la, ia⟩
      rw [Int.zero_add]
      refine ⟨rfl, yes_of ?_⟩
      obtain ⟨xs, a1, q1, q2, q3⟩ := (rp.same s1).at (K := K) hi
      obtain ⟨ys, a2, q4, q5, q6⟩ := (rq.same s1).at (K := K) hi
      refine ⟨_, rfl, _, rfl, bp, xs, _, _, rfl, rfl, q1, q2, _, rfl, _, rfl, bq, ys, _, _, rfl, rfl, q4, q5, ?_⟩
      refine ⟨a1, a2, f i, g i, rfl, q3, q6, (zf i).mono (by decide), (zg i).mono (by decide), fun b H3 s3 ib => ?_⟩
      have eD3 := s3 _ _ eD
      refine ⟨_, eD3, by rw [List.length_map]; exact small_len (by omega), Same.but (fun b u e => s3 _ _ (s1 _ _ e)) nbo, as ++ [b], by rw [upd_same, List.map_append]; rfl, by rw [List.length_append, la]; rfl, fun j a e => ?_⟩
      have up : ∀ {a : Addr} {q : Rat}, IsS C H3 a q → IsS C (upd H3 bo (.lst (as.map V.ref ++ [V.ref b]))) a q := fun {a q} ⟨dx, e⟩ => ⟨dx, by rw [upd_ne (fun z => by rw [z, eD3] at e; cases e)]; exact e⟩
      rcases Nat.lt_or_ge j as.length with h | h
      · rw [List.getElem?_append_left h] at e
        exact up ((ia j a e).same s3)
      · rw [List.getElem?_append_right h] at e
        have hz : j - as.length = 0 := by
          have := (List.getElem?_eq_some_iff.mp e).1
          simpa using this
        rw [hz] at e
        have q : b = a := by simpa using e
        have ej : j = i := by omega
        rw [← q, ej]
        exact up ib
    · rintro H1 ⟨s1, as, eD, la, ia⟩
      have lb : LstQ C H1 bo n (mQ f g) := ⟨as, eD, la, ia⟩
      refine fun z dz hz hd ne => siQ hz hd ne fun H2 s2 i1 => ⟨rfl, ?_⟩
      refine ⟨_, rfl, bo, n, mQ f g, rfl, n8, lb.same s2, mQ_sz zf zg, fun t H3 s3 it => ?_⟩
      refine ⟨z, t, _, _, rfl, rfl, i1.same s3, it, one_sz.mono (by decide), (sumQ_sz (mQ_sz zf zg) n).mono (by omega), fun lf H4 s4 il => ?_⟩
      have s24 := (s2.trans s3).trans s4
      have s04 := s1.trans s24
      have il : IsS C H4 lf (lftQ n f g) := il
      refine fun D nD => ?_
      have sD := Same.put (o := .dT []) nD
      have eD5 : (upd H4 D (.dT [])) D = some (.dT []) := upd_same
      have lb5 := (lb.same s24).same sD
      have il5 := il.same sD
      have nDH := same_free s04 nD
      have s05 := s04.trans sD
      generalize (upd H4 D (.dT [])) = H5 at sD eD5 lb5 il5 s05 ⊢
      refine ⟨_, rfl, bp, _, rfl, .inr (SqT.of (s05 _ _ ep)), ?_⟩
      rw [List.length_map, lp]
      refine ⟨n, rfl, n8, fun l ts H6 s6 el pt qt => ?_⟩
      have lt : ts.length ≤ 64 := by
        have := congrArg List.length qt
        rw [List.length_map] at this
        rw [this]; exact prs_len n n8
      have nd : (ts.map (·.2)).Nodup := by rw [qt]; exact prs_nd n8
      have eD6 := s6 _ _ eD5
      have s06 := s05.trans s6
      have lb6 := lb5.same s6
      have il6 := il5.same s6
      have pv0 : PvZ C D ts (cloF n f g) H 0 H6 := ⟨s06, [], eD6, rfl, fun _ m => by cases m⟩
      refine ⟨l, rfl, ⟨_, SqL.of el⟩, ?_⟩
      refine for_it (walk_list (K := K) (a := l) (xs := rfs ts)) (fun i σ H' => ∃ v5 v6 v7, σ = [some (.ref bp), some (.ref bq), some (.ref bo), some (.ref lf), some (.ref D), v5, v6, v7] ∧ Keep D H6 H' ∧ PvZ C D ts (cloF n f g) H i H') ⟨none, none, _, rfl, Keep.refl _ _, pv0⟩ (fun i σ H' _ h => ?_) ?_ ?_
      · obtain ⟨_, _, _, _, kp1, _⟩ := h
        exact SqL.of (kp1 _ _ el (fun z => by rw [z, eD6] at el; cases el))
      · rintro i x σ H'' H' hi ⟨v5, v6, v7, rfl, kp1, pvz⟩ ⟨rfl, hx⟩
        obtain ⟨r, hr2, mr, rfl⟩ := rfs_at hx
        have mem := mem_prs.mp (show r.2 ∈ prs n by rw [← qt]; exact List.mem_map.mpr ⟨r, mr, rfl⟩)
        have er := (pt.butD kp1 eD6) r mr
        have lb7 := lb6.butD kp1 eD6
        have il7 := il6.butD kp1 eD6
        refine fun z0 dz hz hd ne => siQ hz hd ne fun H7 s7 i7 => ⟨rfl, ?_⟩
        have er7 := s7 _ _ er
        refine ⟨_, rfl, r.1, prV r.2, 0, _, rfl, rfl, SqT.of er7, pr0, _, rfl, r.1, prV r.2, 1, _, rfl, rfl, SqT.of er7, pr1, rfl, _, rfl, ?_⟩
        by_cases e : r.2.1 = r.2.2
        · refine iteTe (by simp [e]) ?_
          obtain ⟨ys, a2, q4, q5, q6⟩ := (lb7.same s7).at (K := K) mem.1
          refine ⟨_, rfl, _, rfl, r.1, prV r.2, 0, _, rfl, rfl, SqT.of er7, pr0, bo, ys, _, _, rfl, rfl, q4, q5, ?_⟩
          exact qu _ _ _ _ _ _ D r ts i (cloF n f g) H H6 H' H7 a2 nDH kp1 pvz nd lt hr2 s7 er7 (by unfold cloF; rw [if_pos e]; exact q6) fun H9 kp9 pv9 => ⟨_, _, _, rfl, kp9, pv9⟩
        refine iteFe (by simp; omega) ?_
        obtain ⟨dl, el7⟩ := il7.same s7
        refine ⟨_, rfl, decide (lftQ n f g = ((0 : Int) : Rat)), .inl ⟨lf, dl, _, rfl, el7, eqS_int ⟨dl, el7⟩, .inl ⟨_, .int 0⟩⟩, _, rfl, ?_⟩
        by_cases lz : lftQ n f g = 0
        · refine iteFe (by rw [lz]; rfl) ?_
          exact qu _ _ _ _ _ _ D r ts i (cloF n f g) H H6 H' H7 z0 nDH kp1 pvz nd lt hr2 s7 er7 (by unfold cloF; rw [if_neg e, if_pos lz]; exact i7) fun H9 kp9 pv9 => ⟨_, _, _, rfl, kp9, pv9⟩
        refine iteTe (by rw [decide_eq_false (by exact lz)]; rfl) ?_
        have rp7 := (rp.same pvz.1).same s7
        have rq7 := (rq.same pvz.1).same s7
        have lb8 := lb7.same s7
        obtain ⟨xs, a1, q1, q2, q3⟩ := rp7.at (K := K) mem.1
        obtain ⟨ys, a2, q4, q5, q6⟩ := lb8.at (K := K) mem.1
        refine ⟨_, rfl, _, rfl, r.1, prV r.2, 0, _, rfl, rfl, SqT.of er7, pr0, bp, xs, _, _, rfl, rfl, q1, q2, _, rfl, _, rfl, r.1, prV r.2, 0, _, rfl, rfl, SqT.of er7, pr0, bo, ys, _, _, rfl, rfl, q4, q5, ?_⟩
        refine ⟨a1, a2, _, _, rfl, rfl, q3, q6, (zf _).mono (by decide), (mQ_sz zf zg _).mono (by decide), fun z1 H8 s8 iz1 => ?_⟩
        have er8 := s8 _ _ er7
        obtain ⟨xs, b1, q1, q2, q3⟩ := (rq7.same s8).at (K := K) mem.2
        obtain ⟨ys, b2, q4, q5, q6⟩ := (lb8.same s8).at (K := K) mem.2
        refine ⟨_, rfl, _, rfl, r.1, prV r.2, 1, _, rfl, rfl, SqT.of er8, pr1, bq, xs, _, _, rfl, rfl, q1, q2, _, rfl, _, rfl, r.1, prV r.2, 1, _, rfl, rfl, SqT.of er8, pr1, bo, ys, _, _, rfl, rfl, q4, q5, ?_⟩
        refine ⟨b1, b2, _, _, rfl, rfl, q3, q6, (zg _).mono (by decide), (mQ_sz zf zg _).mono (by decide), fun z2 H9 s9 iz2 => ?_⟩
        have t1 : Sz 101 (f r.2.1 - mQ f g r.2.1) := (zf _).sub (mQ_sz zf zg _)
        have t2 : Sz 101 (g r.2.2 - mQ f g r.2.2) := (zg _).sub (mQ_sz zf zg _)
        refine ⟨z1, z2, _, _, rfl, rfl, iz1.same s9, iz2, t1.mono (by decide), t2.mono (by decide), fun z3 HA sA iz3 => ?_⟩
        obtain ⟨d3, e3⟩ := id iz3
        have s8A := (s8.trans s9).trans sA
        have t3 := t1.mul t2
        refine ⟨z3, d3, _, rfl, e3, over_none _ _, _, rfl, over_go iz3 (IsS.same ⟨dl, el7⟩ s8A) (t3.mono (by decide)) ((lft_sz zf zg n8).mono (by decide)) lz fun z4 HB sB iz4 => ?_⟩
        have s7B := s7.trans (s8A.trans sB)
        exact qu _ _ _ _ _ _ D r ts i (cloF n f g) H H6 H' HB z4 nDH kp1 pvz nd lt hr2 s7B (sB _ _ (s8A _ _ er7)) (by unfold cloF; rw [if_neg e, if_neg lz]; exact iz4) fun H9 kp9 pv9 => ⟨_, _, _, rfl, kp9, pv9⟩
      · rintro σ H2 ⟨v5, v6, v7, rfl, kp1, pvz⟩
        rw [rfs_len] at pvz
        obtain ⟨s2, pl⟩ := pvz.done qt
        rw [closeL_eq] at pl
        exact ⟨_, rfl, k D H2 s2 nDH pl⟩
end
end K8

set_option Elab.async false
set_option linter.all false
set_option maxRecDepth 100000
set_option maxHeartbeats 400000
namespace K8
open PySem L2
/-- the ties that are due, close ones or free ones -/
def tieM (b : Bool) (n : Nat) (rws : List (List Nat)) : Ties := if b then closeM n rws else freeM n rws
def tieL (b : Bool) (n : Nat) (f g : Nat → Rat) : List ((Nat × Nat) × Rat) := if b then closeL n f g else freeL n f g
theorem tieM_eq (b : Bool) (n : Nat) (rws : List (List Nat)) : tieM b n rws = (uprs n).map fun p => (p, tieL b n (fW (rws.getD p.1 [])) (fW (rws.getD p.2 []))) := by
  cases b <;> rfl
def spDue (C : Addr) : Sp := fun vs H Q _ => ∃ (t : Addr) (n : Nat) (rs : List (Addr × List Nat)) (b : Bool), vs = [.ref t, .bl b] ∧ n ≤ 8 ∧ H t = some (.tup (rfs rs)) ∧ rs.length = n ∧ (∀ r ∈ rs, RowSh C H n r) ∧
  ∀ (d : Addr) (H' : Hp), Same H H' → H d = none → TiesF C H H' d (tieM b n (rs.map (·.2))) → Q (.ref d) H'
def spAsk (C CC : Addr) : Sp := fun vs H Q _ => ∃ (o : Addr) (n : Nat) (rws : List (List Nat)) (ls : List Str) (b : Bool), vs = [.ref o, .bl b] ∧ n ≤ 8 ∧ IsCh C CC H o n rws ls ∧
  ∀ (d : Addr) (H' : Hp), Same H H' → H d = none → TiesF C H H' d (tieM b n rws) → Q (.ref d) H'
section
variable {P : Program} {w : World} {K : PySem.W.Frag} {mg : Str → Option Value} {base : Heap} {C CC B : Addr}
abbrev s_ask : Stmt := top 66
theorem sc_ask : FnScope ["_law_chain", "_law_close_here"] ["_law_chain", "_law_close_here"] (defScope s_ask) := ⟨rfl, rfl, rfl, by decide +kernel, rfl, by decide +kernel, by decide +kernel⟩
theorem ok_ask {f : Addr} {fd : FuncData} (F : Fun K "_law_ask" "_law_ask" s_ask f fd) (c_ct : Cal P w K mg base 12 "close_ties" ["chain"] (spTies C CC closeM)) (c_ft : Cal P w K mg base 9 "free_ties" ["chain"] (spTies C CC freeM)) : FnOk P w K mg base CX0 13 f fd ["_law_chain", "_law_close_here"] (spAsk C CC) := by
  refine F.ok sc_ask (fun vs H Q E h => ?_) (fun cdv A outer s H vs Q E hr h => ?_)
  · obtain ⟨o, n, rws, ls, b, rfl, _⟩ := h
    rfl
  · obtain ⟨o, n, rws, ls, b, rfl, n8, ch, k⟩ := h
    refine ⟨_, (pss_cons (ps_if (pt_val (pv 1))
        (pss_one (ps_ret (pe_cal c_ct (hr.mono (by decide)) rfl (pa_cons (pv 0) pa_nil))))
        pss_nil)
      (pss_one (ps_ret (pe_cal c_ft (hr.mono (by decide)) rfl (pa_cons (pv 0) pa_nil))))), ?_⟩
    refine ⟨_, rfl, b, rfl, ?_⟩
    cases b with
    | true => exact iteT ⟨_, rfl, o, n, rws, ls, rfl, n8, ch, k⟩
    | false => exact iteF ⟨_, rfl, o, n, rws, ls, rfl, n8, ch, k⟩
abbrev s_due : Stmt := top 64
abbrev nDu : List Str := ["_law_rows_here", "_law_close_here", "_law_due_here", "_law_pair"]
theorem sc_due : FnScope nDu ["_law_rows_here", "_law_close_here"] (defScope s_due) := ⟨rfl, rfl, rfl, by decide +kernel, rfl, by decide +kernel, by decide +kernel⟩
theorem ok_due {fa : Addr} {fd : FuncData} (F : Fun K "_law_due" "_law_due" s_due fa fd) (T : Bm mg) (c_lu : Cal P w K mg base 2 "_law_unlike" ["_law_size_here"] spUnlike) (c_lc : Cal P w K mg base 9 "_law_close" ["_law_p", "_law_q"] (spClose C)) (c_lf : Cal P w K mg base 8 "_law_free" ["_law_p", "_law_q"] (spFree C)) : FnOk P w K mg base CX0 10 fa fd ["_law_rows_here", "_law_close_here"] (spDue C) := by
  refine F.ok sc_due (fun vs H Q E h => ?_) (fun cdv A outer s H vs Q E hr h => ?_)
  · obtain ⟨t, n, rs, b, rfl, _⟩ := h
    rfl
  · obtain ⟨t, n, rs, b, rfl, n8, et, lr, rw_, k⟩ := h
    have hu := hu_of hr
    obtain ⟨rws, hrws⟩ : ∃ rws : List (List Nat), rs.map (·.2) = rws := ⟨_, rfl⟩
    rw [hrws] at k
    refine ⟨_, (pss_cons (ps_set (i := 2) sc_due.nd rfl (Or.inl rfl) pe_dnewT)
      (pss_cons (ps_for PassesOwn.never rfl (pi_list (pe_cal c_lu (hr.mono (by decide)) rfl (pa_cons (pe_callB call_len_seq (by rfl) T.b.n_len PySem.boot_len (pa_cons (pv 0) pa_nil)) pa_nil))) (pg_name (i := 3) sc_due.nd rfl (Or.inl rfl))
        (pss_one (ps_if (pt_val (pv 1))
            (pss_one (ps_asg (pe_cal c_lc (hr.mono (by decide)) rfl (pa_cons (pe_ix (show IxR _ (rIxT K) from ix_tup) (pv 0) (pe_ix (show IxR _ (rIxT K) from ix_tup) (pv 3) pe_int (fun _ _ => rfl)) (fun _ _ => rfl)) (pa_cons (pe_ix (show IxR _ (rIxT K) from ix_tup) (pv 0) (pe_ix (show IxR _ (rIxT K) from ix_tup) (pv 3) pe_int (fun _ _ => rfl)) (fun _ _ => rfl)) pa_nil))) (pg_sub (pv 2) (pv 3) (set_dict (by exact hu)))))
            (pss_one (ps_asg (pe_cal c_lf (hr.mono (by decide)) rfl (pa_cons (pe_ix (show IxR _ (rIxT K) from ix_tup) (pv 0) (pe_ix (show IxR _ (rIxT K) from ix_tup) (pv 3) pe_int (fun _ _ => rfl)) (fun _ _ => rfl)) (pa_cons (pe_ix (show IxR _ (rIxT K) from ix_tup) (pv 0) (pe_ix (show IxR _ (rIxT K) from ix_tup) (pv 3) pe_int (fun _ _ => rfl)) (fun _ _ => rfl)) pa_nil))) (pg_sub (pv 2) (pv 3) (set_dict (by exact hu))))))))
      (pss_one (ps_ret (pv 2))))), ?_⟩
    refine fun D nD => ?_
    have sD := Same.put (o := .dT []) nD
    have lrs : (rfs rs).length = n := by rw [rfs_len, lr]
    refine ⟨_, rfl, t, _, rfl, .inr (SqT.of (sD _ _ et)), ?_⟩
    rw [lrs]
    refine ⟨n, rfl, n8, fun l ts H1 s1 el pt qt => ?_⟩
    have lt : ts.length ≤ 64 := by
      have := congrArg List.length qt
      rw [List.length_map] at this
      rw [this]; exact uprs_len n8
    have nd : (ts.map (·.2)).Nodup := by rw [qt]; exact uprs_nd n8
    have eD1 := s1 _ _ (show (upd H D (.dT [])) D = some (.dT []) from upd_same)
    have s01 := sD.trans s1
    obtain ⟨Fm, hF⟩ : ∃ Fm : Nat × Nat → List ((Nat × Nat) × Rat), ∀ p, Fm p = tieL b n (fW (rws.getD p.1 [])) (fW (rws.getD p.2 [])) := ⟨fun p => tieL b n (fW (rws.getD p.1 [])) (fW (rws.getD p.2 [])), fun p => rfl⟩
    have pv0 : PvTies C D ts Fm H 0 H1 := ⟨s01, [], eD1, rfl, fun _ m => by cases m⟩
    refine ⟨l, rfl, ⟨_, SqL.of el⟩, ?_⟩
    refine for_it (walk_list (K := K) (a := l) (xs := rfs ts)) (fun i σ H' => ∃ v3, σ = [some (.ref t), some (.bl b), some (.ref D), v3] ∧ Keep D H1 H' ∧ PvTies C D ts Fm H i H') ⟨none, rfl, Keep.refl _ _, pv0⟩ (fun i σ H' _ h => ?_) ?_ ?_
    · obtain ⟨_, _, kp1, _⟩ := h
      exact SqL.of (kp1 _ _ el (fun z => by rw [z, eD1] at el; cases el))
    · rintro i x σ H'' H' hi ⟨v3, rfl, kp1, pvt⟩ ⟨rfl, hx⟩
      obtain ⟨r, hr2, mr, rfl⟩ := rfs_at hx
      have mem := mem_uprs (show r.2 ∈ uprs n by rw [← qt]; exact List.mem_map.mpr ⟨r, mr, rfl⟩)
      have er := (pt.butD kp1 eD1) r mr
      have sH := pvt.1
      have et' := sH _ _ et
      have row : ∀ j, j < n → ∃ r, atI (rfs rs) (j : Int) = some (.ref r.1) ∧ rws.getD j [] = r.2 ∧ RowSh C H' n r := fun j hj => by
        have e : rs[j]? = some rs[j] := List.getElem?_eq_getElem (by omega)
        refine ⟨rs[j], atI_nat (by rw [rfs, List.getElem?_map, e]; rfl), ?_, (rw_ _ (List.mem_of_getElem? e)).same sH⟩
        rw [← hrws, List.getD, List.getElem?_map, e]
        rfl
      obtain ⟨r1, g1, w1, q1⟩ := row _ mem.1
      obtain ⟨r2, g2, w2, q2⟩ := row _ mem.2
      have fin : ∀ (z : Addr) (H3 : Hp), Same H' H3 → H' z = none → PlanAt C H3 z (tieL b n (fW r1.2) (fW r2.2)) → gSub (tVar 2) (tVar 3) rSetD (.ref z) [some (.ref t), some (.bl b), some (.ref D), some (.ref r.1)] H3 fun σ H4 => ∃ v3, σ = [some (.ref t), some (.bl b), some (.ref D), v3] ∧ Keep D H1 H4 ∧ PvTies C D ts Fm H (i + 1) H4 := by
        intro z H3 s3 nz pl
        have er3 : H3 r.1 = some (.tup (prV r.2)) := s3 _ _ er
        have pl3 : PlanAt C H3 z (Fm r.2) := by
          rw [hF, w1, w2]
          exact pl
        clear w1 w2 q1 q2 g1 g2 hF
        have st := pvt.step nD nd lt hr2 s3 er3 nz pl3
        obtain ⟨kvs, k2, c2, e1, e2, e3, e4, pv6⟩ := st
        refine ⟨_, rfl, _, rfl, D, _, rfl, .inr ⟨kvs, k2, c2, e3, e1, e2, e4, rfl⟩, _, rfl, fun b u e ne => ?_, pv6⟩
        rw [upd_ne ne]
        exact s3 _ _ (kp1 _ _ e ne)
      refine ⟨_, rfl, b, rfl, ?_⟩
      cases b with
      | true =>
        refine iteT ?_
        refine ⟨_, rfl, _, rfl, r.1, prV r.2, 0, _, rfl, rfl, SqT.of er, pr0, t, _, _, _, rfl, rfl, SqT.of et', g1, _, rfl, _, rfl, r.1, prV r.2, 1, _, rfl, rfl, SqT.of er, pr1, t, _, _, _, rfl, rfl, SqT.of et', g2, ?_⟩
        exact ⟨r1.1, r2.1, n, fW r1.2, fW r2.2, rfl, n8, RowSh.q q1, RowSh.q q2, fW_sz q1.tps n8, fW_sz q2.tps n8, fin⟩
      | false =>
        refine iteF ?_
        refine ⟨_, rfl, _, rfl, r.1, prV r.2, 0, _, rfl, rfl, SqT.of er, pr0, t, _, _, _, rfl, rfl, SqT.of et', g1, _, rfl, _, rfl, r.1, prV r.2, 1, _, rfl, rfl, SqT.of er, pr1, t, _, _, _, rfl, rfl, SqT.of et', g2, ?_⟩
        exact ⟨r1.1, r2.1, n, fW r1.2, fW r2.2, rfl, n8, RowSh.q q1, RowSh.q q2, fW_sz q1.tps n8, fW_sz q2.tps n8, fin⟩
    · rintro σ H2 ⟨v3, rfl, kp1, pvt⟩
      rw [rfs_len] at pvt
      obtain ⟨s2, pl⟩ := pvt.done qt
      have eM : tieM b n rws = (uprs n).map fun p => (p, Fm p) := by
        rw [tieM_eq]
        exact List.map_congr_left fun p _ => by rw [hF]
      rw [← eM] at pl
      exact ⟨_, rfl, k D H2 s2 nD pl⟩
end
end K8

set_option Elab.async false
set_option linter.all false
set_option maxRecDepth 100000
set_option maxHeartbeats 1000000
namespace K8
open PySem L2
/-! ### the law's own judges -/
def Lt2 (p q : Nat × Nat) : Prop := p.1 < q.1 ∨ (p.1 = q.1 ∧ p.2 < q.2)
instance (p q : Nat × Nat) : Decidable (Lt2 p q) := inferInstanceAs (Decidable (_ ∨ _))
theorem lex_lt {p q : Nat × Nat} (h : Lt2 p q) : HT.lexLt [(p.1 : Int), (p.2 : Int)] [(q.1 : Int), (q.2 : Int)] = true := by
  rw [HT.lexLt_cons]
  rcases h with h | ⟨h1, h2⟩
  · rw [if_neg (by omega)]
    exact decide_eq_true (by omega)
  · rw [if_pos (by omega), HT.lexLt_cons, if_neg (by omega)]
    exact decide_eq_true (by omega)
theorem prs_up {n : Nat} (h : n ≤ 8) : (prs n).Pairwise Lt2 := by
  have h2 : ∀ n : Fin 9, (prs n.1).Pairwise Lt2 := by decide +kernel
  exact h2 ⟨n, by omega⟩
/-- keys that are told in order -/
structure KeysOk (n : Nat) (ps : List (Nat × Nat)) : Prop where
  up : ps.Pairwise Lt2
  lt : ∀ p ∈ ps, p.1 < n ∧ p.2 < n
  l : ps.length ≤ 64
theorem KeysOk.sub {n : Nat} {ps : List (Nat × Nat)} (n8 : n ≤ 8) (h : ps.Sublist (prs n)) : KeysOk n ps := ⟨(prs_up n8).sublist h, fun p m => mem_prs.mp (h.subset m), Nat.le_trans h.length_le (prs_len n n8)⟩
theorem KeysOk.nd {n : Nat} {ps : List (Nat × Nat)} (h : KeysOk n ps) : ps.Nodup := h.up.imp fun {a b} q e => by
  subst e
  rcases q with q | ⟨_, q⟩ <;> omega
theorem noZ_sub (L : List ((Nat × Nat) × Rat)) : ((noZ L).map (·.1)).Sublist (L.map (·.1)) := List.filter_sublist.map _
/-- the keys of a dict, as told -/
theorem keys_pts {α : Type} {H : Hp} {es : List (Addr × (Nat × Nat) × α)} {bs : List Addr} (h : IsKeys H (kvE es) bs) : ∃ ts : List Pt, bs.map V.ref = rfs ts ∧ ts.map (·.2) = es.map (fun e => e.2.1) ∧ Pts H ts := by
  unfold IsKeys at h
  induction es generalizing bs with
  | nil =>
    cases h
    exact ⟨[], rfl, rfl, fun _ m => by cases m⟩
  | cons e es ih =>
    cases h with
    | cons h t =>
      obtain ⟨ts, h1, h2, h3⟩ := ih t
      rename_i b bs
      refine ⟨(b, e.2.1) :: ts, by rw [List.map_cons, h1]; rfl, by rw [List.map_cons, h2]; rfl, fun u m => ?_⟩
      rcases List.mem_cons.mp m with rfl | m
      · exact h
      · exact h3 u m
def spIsIx : Sp := fun vs H Q _ => ∃ (n i : Nat), vs = [.int (n : Int), .int (i : Int)] ∧ i < n ∧ Q (.bl true) H
def spIsPair : Sp := fun vs H Q _ => ∃ (n : Nat) (c : Addr) (p : Nat × Nat), vs = [.int (n : Int), .ref c] ∧ H c = some (.tup (prV p)) ∧ p.1 < n ∧ p.2 < n ∧ Q (.bl true) H
def spRising : Sp := fun vs H Q _ => ∃ (l : Addr) (ts : List Pt), vs = [.ref l] ∧ H l = some (.lst (rfs ts)) ∧ Pts H ts ∧ (ts.map (·.2)).Pairwise Lt2 ∧ ts.length ≤ 64 ∧ ∀ H', Same H H' → Q (.bl true) H'
def spTold (C : Addr) : Sp := fun vs H Q _ => ∃ (n : Nat) (d : Addr) (L : List ((Nat × Nat) × Rat)), vs = [.int (n : Int), .ref d] ∧ PlanAt C H d L ∧ KeysOk n (L.map (·.1)) ∧ ∀ H', Same H H' → Q (.bl true) H'
section
variable {P : Program} {w : World} {K : PySem.W.Frag} {mg : Str → Option Value} {base : Heap} {C CC B : Addr}
abbrev s_isix : Stmt := top 44
theorem sc_isix : FnScope ["_law_size_here", "_law_thing"] ["_law_size_here", "_law_thing"] (defScope s_isix) := ⟨rfl, rfl, rfl, by decide +kernel, rfl, by decide +kernel, by decide +kernel⟩
theorem ok_isix {f : Addr} {fd : FuncData} (F : Fun K "_law_is_index" "_law_is_index" s_isix f fd) (T : Bn mg) : FnOk P w K mg base CX0 1 f fd ["_law_size_here", "_law_thing"] spIsIx := by
  refine F.ok sc_isix (fun vs H Q E h => ?_) (fun cdv A outer s H vs Q E hr h => ?_)
  · obtain ⟨n, i, rfl, _⟩ := h
    rfl
  · obtain ⟨n, i, rfl, hi, k⟩ := h
    refine ⟨_, (pss_one (ps_ret (pe_and (pe_callB call_isi (by rfl) T.n_isinstance (by decide +kernel) (pa_cons (pv 1) (pa_cons (pe_bltn (v := .ty "int") rfl T.n_int (by decide +kernel) rfl) pa_nil))) (pe_and (pe_not (pe_callB call_isi (by rfl) T.n_isinstance (by decide +kernel) (pa_cons (pv 1) (pa_cons (pe_bltn (v := .ty "bool") rfl T.n_bool (by decide +kernel) rfl) pa_nil)))) (pe_one (pe_chain op_le op_lt pe_int (pv 1) (pv 0))))))), ?_⟩
    refine ⟨_, rfl, .int (i : Int), .ty "int", _, _, true, rfl, .ty _, .base (.int _), kit_ty (r := true) (by decide +kernel), _, rfl, iteT ?_⟩
    refine ⟨_, rfl, .int (i : Int), .ty "bool", _, _, false, rfl, .ty _, .base (.int _), kit_ty (r := false) (by decide +kernel), _, rfl, _, rfl, iteT ?_⟩
    refine ⟨_, rfl, 0, (i : Int), rfl, rfl, true, congrArg V.bl (decide_eq_true (by omega)), iteT ⟨_, rfl, (i : Int), (n : Int), rfl, rfl, ?_⟩⟩
    show Q (.bl (decide ((i : Int) < (n : Int)))) H
    rw [decide_eq_true (by omega)]
    exact k
abbrev s_ispr : Stmt := top 45
theorem sc_ispr : FnScope ["_law_size_here", "_law_thing"] ["_law_size_here", "_law_thing"] (defScope s_ispr) := ⟨rfl, rfl, rfl, by decide +kernel, rfl, by decide +kernel, by decide +kernel⟩
theorem ok_ispr {f : Addr} {fd : FuncData} (F : Fun K "_law_is_pair" "_law_is_pair" s_ispr f fd) (T : Bm mg) (c_ix : Cal P w K mg base 1 "_law_is_index" ["_law_size_here", "_law_thing"] spIsIx) : FnOk P w K mg base CX0 2 f fd ["_law_size_here", "_law_thing"] spIsPair := by
  refine F.ok sc_ispr (fun vs H Q E h => ?_) (fun cdv A outer s H vs Q E hr h => ?_)
  · obtain ⟨n, c, p, rfl, _⟩ := h
    rfl
  · obtain ⟨n, c, p, rfl, ec, h1, h2, k⟩ := h
    refine ⟨_, (pss_cons (ps_if (PW.pt (pw_or (pt_not (pt_val (pe_callB call_isi (by rfl) T.b.n_isinstance (by decide +kernel) (pa_cons (pv 1) (pa_cons (pe_bltn (v := .ty "tuple") rfl T.n_tuple (by decide +kernel) rfl) pa_nil))))) (pw_or1 (pt_cmpR op_ne (pe_callB call_len_seq (by rfl) T.b.n_len PySem.boot_len (pa_cons (pv 1) pa_nil)) pe_int (nomark _)))))
        (pss_one (ps_ret pe_bl))
        pss_nil)
      (pss_one (ps_ret (pe_and (pe_cal c_ix (hr.mono (by decide)) rfl (pa_cons (pv 0) (pa_cons (pe_ix (show IxR _ (rIxT K) from ix_tup) (pv 1) pe_int (fun _ _ => rfl)) pa_nil))) (pe_one (pe_cal c_ix (hr.mono (by decide)) rfl (pa_cons (pv 0) (pa_cons (pe_ix (show IxR _ (rIxT K) from ix_tup) (pv 1) pe_int (fun _ _ => rfl)) pa_nil)))))))), ?_⟩
    refine ⟨_, rfl, .ref c, .ty "tuple", _, _, true, rfl, .ty _, .base (.tup ec), kit_ty (r := true) (by decide +kernel), _, rfl, iteF ?_⟩
    refine ⟨_, rfl, c, _, rfl, .inr (SqT.of ec), rfl, _, rfl, iteFe (by simp) ?_⟩
    refine ⟨_, rfl, _, rfl, c, prV p, 0, _, rfl, rfl, SqT.of ec, pr0, n, p.1, rfl, h1, _, rfl, iteT ?_⟩
    exact ⟨_, rfl, _, rfl, c, prV p, 1, _, rfl, rfl, SqT.of ec, pr1, n, p.2, rfl, h2, k⟩
abbrev s_rising : Stmt := top 46
theorem sc_rising : FnScope ["_law_things", "_law_k"] ["_law_things"] (defScope s_rising) := ⟨rfl, rfl, rfl, by decide +kernel, rfl, by decide +kernel, by decide +kernel⟩
theorem ok_rising {f : Addr} {fd : FuncData} (F : Fun K "_law_rising" "_law_rising" s_rising f fd) (T : Bm mg) : FnOk P w K mg base CX0 1 f fd ["_law_things"] spRising := by
  refine F.ok sc_rising (fun vs H Q E h => ?_) (fun cdv A outer s H vs Q E hr h => ?_)
  · obtain ⟨l, ts, rfl, _⟩ := h
    rfl
  · obtain ⟨l, ts, rfl, el, pt, up, l64, k⟩ := h
    have hu := hu_of hr
    refine ⟨_, (pss_one (ps_ret (pe_callB (cr_all rfl) (by rfl) T.n_all PyProof.Rows.boot_all (pa_cons (pe_lc (own := [("_law_k", 1)]) rfl sc_rising.nd (pi_range1 (by rfl) T.n_range (pa_cons (pe_op op_sub (pe_callB call_len_seq (by rfl) T.b.n_len PySem.boot_len (pa_cons (pv 0) pa_nil)) pe_int) pa_nil)) (blkOk_by (N := ["_law_things", "_law_k"]) (sc := defScope s_rising) (by decide +kernel)) (fun _ _ _ _ _ => (pg_name (i := 1) sc_rising.nd rfl (Or.inl rfl))) (fun _ _ _ _ _ => pts_nil) (fun _ _ _ _ _ => (pe_cmpR (show OpR _ _ (rLtT K) from op_ltT (by exact Nat.lt_of_succ_lt hu)) (pe_ix (show IxR _ (rIxL K) from ix_list) (pv 0) (pv 1) (fun _ _ => rfl)) (pe_ix (show IxR _ (rIxL K) from ix_list) (pv 0) (pe_op op_add (pv 1) pe_int) (fun _ _ => rfl)) (nomark _)))) pa_nil)))), ?_⟩
    refine ⟨_, rfl, l, _, rfl, .inl (SqL.of el), _, _, rfl, rfl, ?_⟩
    rw [rfs_len]
    refine ⟨_, rfl, by omega, by omega, fun D nD => ?_⟩
    have e1 : ((ts.length : Int) - 1).toNat = ts.length - 1 := by omega
    rw [e1]
    refine lc_range (fun i H' => Same H H' ∧ H' D = some (.lst ((List.replicate i true).map V.bl))) ⟨Same.put nD, upd_same⟩ ?_ ?_
    · rintro i H' hi ⟨s1, eD⟩
      rw [Int.zero_add]
      refine ⟨rfl, yes_of ?_⟩
      have a1 : ts[i]? = some ts[i] := List.getElem?_eq_getElem (by omega)
      have a2 : ts[i + 1]? = some ts[i + 1] := List.getElem?_eq_getElem (by omega)
      have lt : Lt2 ts[i].2 ts[i + 1].2 := by
        have := List.pairwise_iff_getElem.mp up i (i + 1) (by rw [List.length_map]; omega) (by rw [List.length_map]; omega) (Nat.lt_succ_self i)
        simpa using this
      have p1 := s1 _ _ (pt _ (List.mem_of_getElem? a1))
      have p2 := s1 _ _ (pt _ (List.mem_of_getElem? a2))
      have g1 : (rfs ts)[i]? = some (.ref ts[i].1) := by rw [rfs, List.getElem?_map, a1]; rfl
      have g2 : (rfs ts)[i + 1]? = some (.ref ts[i + 1].1) := by rw [rfs, List.getElem?_map, a2]; rfl
      have el1 := s1 _ _ el
      generalize ts[i] = x at lt p1 g1
      generalize ts[i + 1] = y at lt p2 g2
      refine ⟨_, rfl, _, rfl, l, _, _, _, rfl, rfl, SqL.of el1, atI_nat g1, _, rfl, _, rfl, (i : Int), 1, rfl, rfl, l, _, ((i + 1 : Nat) : Int), _, rfl, rfl, SqL.of el1, atI_nat g2, ?_⟩
      refine ⟨x.1, y.1, [(x.2.1 : Int), (x.2.2 : Int)], [(y.2.1 : Int), (y.2.2 : Int)], rfl, rfl, SqT.of p1, SqT.of p2, ?_⟩
      rw [lex_lt lt]
      refine ⟨_, eD, by rw [List.length_map, List.length_replicate]; exact small_len (by omega), Same.but (fun b u e => s1 _ _ e) nD, ?_⟩
      rw [upd_same, refs_rep]
    · rintro H1 ⟨s1, eD⟩
      refine ⟨D, _, rfl, SqL.of eD, ?_⟩
      rw [all_true]
      exact k H1 s1
end
end K8

set_option Elab.async false
set_option linter.all false
set_option maxRecDepth 100000
set_option maxHeartbeats 1000000
namespace K8
open PySem L2
theorem PlanAt.keys {C : Addr} {H : Hp} {es : List (Addr × (Nat × Nat) × Rat)} {L : List ((Nat × Nat) × Rat)} (h : es.map (·.2) = L) : (es.map fun e => e.2.1) = L.map (·.1) := map_keys h
section
variable {P : Program} {w : World} {K : PySem.W.Frag} {mg : Str → Option Value} {base : Heap} {C CC B : Addr}
abbrev s_told : Stmt := top 47
theorem sc_told : FnScope ["_law_size_here", "_law_plan", "_law_pair"] ["_law_size_here", "_law_plan"] (defScope s_told) := ⟨rfl, rfl, rfl, by decide +kernel, rfl, by decide +kernel, by decide +kernel⟩
theorem ok_told {f : Addr} {fd : FuncData} (F : Fun K "_law_is_told" "_law_is_told" s_told f fd) (T : Bm mg) (sh : ShT K mg C) (n_dict : mg "dict" = none) (c_pr : Cal P w K mg base 2 "_law_is_pair" ["_law_size_here", "_law_thing"] spIsPair) (c_up : Cal P w K mg base 1 "_law_rising" ["_law_things"] spRising) : FnOk P w K mg base CX0 3 f fd ["_law_size_here", "_law_plan"] (spTold C) := by
  refine F.ok sc_told (fun vs H Q E h => ?_) (fun cdv A outer s H vs Q E hr h => ?_)
  · obtain ⟨n, d, L, rfl, _⟩ := h
    rfl
  · obtain ⟨n, d, L, rfl, ⟨es, ea, qe, ie⟩, ko, k⟩ := h
    have hu := hu_of hr
    refine ⟨_, (pss_cons (ps_if (pt_not (pt_val (pe_callB call_isi (by rfl) T.b.n_isinstance (by decide +kernel) (pa_cons (pv 1) (pa_cons (pe_bltn (v := .ty "dict") rfl n_dict (by decide +kernel) rfl) pa_nil)))))
        (pss_one (ps_ret pe_bl))
        pss_nil)
      (pss_cons (ps_lock (ps_for PassesOwn.never rfl (pi_keys (pv 1)) (pg_name (i := 2) sc_told.nd rfl (Or.inl rfl))
        (pss_one (ps_if (PW.pt (pw_or (pt_not (pt_val (pe_cal c_pr (hr.mono (by decide)) rfl (pa_cons (pv 0) (pa_cons (pv 2) pa_nil))))) (pw_or1 (pt_not (pt_val (pe_callB call_isi (by rfl) T.b.n_isinstance (by decide +kernel) (pa_cons (pe_dget (by exact hu) (pv 1) (pv 2) (by intro _ _; rfl)) (pa_cons (pe_glob (v := .ref C) rfl sh.g_Share rfl) pa_nil))))))))
            (pss_one (ps_ret pe_bl))
            pss_nil))))
      (pss_one (ps_ret (pe_cal c_up (hr.mono (by decide)) rfl (pa_cons (pe_callTy (call_list_dT rfl) (by rfl) T.n_list (by decide +kernel) (pa_cons (pv 1) pa_nil)) pa_nil)))))), ?_⟩
    refine ⟨_, rfl, .ref d, .ty "dict", _, _, true, rfl, .ty _, .base (.dT ea), kit_ty (r := true) (by decide +kernel), _, rfl, iteF ?_⟩
    refine ⟨d, _, ea, trivial, fun od => ?_⟩
    have kl : (es.map fun e => e.2.1) = L.map (·.1) := map_keys qe
    have ndE : (es.map fun e => e.2.1).Nodup := by rw [kl]; exact ko.nd
    refine ⟨_, rfl, d, od, rfl, .inr ⟨kvE es, upd_same, ?_⟩⟩
    refine for_it walk_keysT (fun i σ H' => ∃ v2, σ = [some (.int (n : Int)), some (.ref d), v2] ∧ H' = upd H d (.frz od (.dT (kvE es)))) ⟨none, rfl, rfl⟩ (fun i σ H' _ h => ?_) ?_ ?_
    · obtain ⟨_, _, rfl⟩ := h
      exact upd_same
    · rintro i x σ H'' H' hi ⟨v2, rfl, rfl⟩ ⟨rfl, kk, v, q, hkv, rfl, hq⟩
      obtain ⟨e, he, me, rfl, rfl⟩ := kvE_at hkv
      have mem := ko.lt e.2.1 (by rw [← kl]; exact List.mem_map.mpr ⟨e, me, rfl⟩)
      refine ⟨_, rfl, _, rfl, n, q, e.2.1, rfl, hq, mem.1, mem.2, _, rfl, iteF ?_⟩
      obtain ⟨dx, eS⟩ := ie e me
      have eS2 : (upd H d (.frz od (.dT (kvE es)))) e.1 = some (.ins C dx (shF e.2.2.num (e.2.2.den : Int))) := by
        rw [upd_ne (fun z => by rw [z, ea] at eS; cases eS)]
        exact eS
      refine ⟨_, rfl, _, rfl, d, .ref e.1, rfl, .inr ⟨kvE es, kp e.2.1, q, .inr ⟨od, upd_same⟩, rfl, hq, (val_at ndE me).symm⟩, ?_⟩
      refine ⟨.ref e.1, .ref C, _, _, true, rfl, .own C, sh.it.ty eS2, sh.it.kself, _, rfl, iteF ?_⟩
      exact ⟨_, rfl, rfl⟩
    · rintro σ H' ⟨v2, rfl, rfl⟩
      refine ⟨upd_same, ?_⟩
      rw [upd_upd]
      have s1 : Same H (upd H d (.dT (kvE es))) := fun b u e => by
        by_cases q : b = d
        · rw [q, upd_same, ← ea, ← q]; exact e
        · rw [upd_ne q]; exact e
      refine ⟨_, rfl, d, kvE es, rfl, .inl upd_same, fun l bs nl ik => ?_⟩
      obtain ⟨ts, t1, t2, t3⟩ := keys_pts ik
      have s2 := Same.put (o := .lst (bs.map V.ref)) nl
      have eL : (upd (upd H d (.dT (kvE es))) l (.lst (bs.map V.ref))) l = some (.lst (rfs ts)) := by rw [upd_same, t1]
      refine ⟨l, ts, rfl, eL, t3.same s2, by rw [t2, kl]; exact ko.up, ?_, fun H9 s9 => k H9 ((s1.trans s2).trans s9)⟩
      have := congrArg List.length (t2.trans kl)
      rw [List.length_map] at this
      rw [this]
      exact ko.l
end
end K8

set_option Elab.async false
set_option linter.all false
set_option maxRecDepth 100000
set_option maxHeartbeats 1000000
namespace K8
open PySem L2
theorem un64 {k : Nat} {A : Around} (r : Room k A) : A.units + 64 < cLine := by
  have := r.un
  omega
theorem un65 {k : Nat} {A : Around} (r : Room k A) : A.units + 65 < cLine := by
  have := r.un
  omega
/-! ### tuples of ints as data -/
def dI (ns : List Int) : PyData := .tuple (ns.map PyData.int)
theorem eqvAll_ints : ∀ ns ms : List Int, PyData.eqvAll (ns.map PyData.int) (ms.map PyData.int) = decide (ns = ms)
  | [], [] => rfl
  | [], _ :: _ => rfl
  | _ :: _, [] => rfl
  | a :: ns, b :: ms => by
    show (PyData.eqv (.int a) (.int b) && PyData.eqvAll (ns.map PyData.int) (ms.map PyData.int)) = _
    rw [eqvAll_ints ns ms, Bool.eq_iff_iff, Bool.and_eq_true, decide_eq_true_eq, decide_eq_true_eq, List.cons.injEq]
    have e : PyData.eqv (.int a) (.int b) = (a == b) := by simp [PyData.eqv]
    rw [e, beq_iff_eq]
theorem eqv_dI (ns ms : List Int) : PyData.eqv (dI ns) (dI ms) = decide (ns = ms) := by
  unfold dI
  rw [PyData.eqv]
  exact eqvAll_ints ns ms
theorem lay_ints : ∀ ns : List Int, PyData.canLayAll0 (ns.map PyData.int) = true ∧ PyData.depthAll (ns.map PyData.int) = 0
  | [] => ⟨rfl, rfl⟩
  | a :: ns => by
    obtain ⟨h1, h2⟩ := lay_ints ns
    refine ⟨?_, ?_⟩
    · show ((PyData.int a).canLay0 && PyData.canLayAll0 (ns.map PyData.int)) = true
      rw [h1]
      rfl
    · show max (PyData.depth (.int a)) (PyData.depthAll (ns.map PyData.int)) = 0
      rw [h2]
      rfl
theorem lay_dI (ns : List Int) : (dI ns).canLay0 = true ∧ (dI ns).depth = 1 := by
  obtain ⟨h1, h2⟩ := lay_ints ns
  exact ⟨h1, by show PyData.depthAll (ns.map PyData.int) + 1 = 1; rw [h2]⟩
theorem lay_dIs : ∀ L : List (List Int), PyData.canLayAll0 (L.map dI) = true ∧ PyData.depthAll (L.map dI) ≤ 1
  | [] => ⟨rfl, Nat.zero_le _⟩
  | a :: L => by
    obtain ⟨h1, h2⟩ := lay_dIs L
    obtain ⟨h3, h4⟩ := lay_dI a
    refine ⟨?_, ?_⟩
    · show ((dI a).canLay0 && PyData.canLayAll0 (L.map dI)) = true
      rw [h1, h3]
      rfl
    · show max (dI a).depth (PyData.depthAll (L.map dI)) ≤ 1
      omega
theorem sh_dI (ns : List Int) : SeqAt.shaped (dI ns) = true := by
  obtain ⟨h1, h2⟩ := lay_dI ns
  unfold SeqAt.shaped
  rw [h1, h2]
  rfl
theorem sh_list (L : List (List Int)) : SeqAt.shaped (.list (L.map dI)) = true := by
  obtain ⟨h1, h2⟩ := lay_dIs L
  unfold SeqAt.shaped
  rw [Bool.and_eq_true, decide_eq_true_eq]
  refine ⟨h1, ?_⟩
  show PyData.depthAll (L.map dI) + 1 ≤ 64
  omega
abbrev pI (p : Nat × Nat) : List Int := [(p.1 : Int), (p.2 : Int)]
theorem dpP {K : PySem.W.Frag} {H : Hp} : ∀ {ts : List Pt}, Pts H ts → DpAll K H (rfs ts) (((ts.map (·.2)).map pI).map dI)
  | [], _ => .nil
  | t :: ts, h => .cons (.tup (SqT.of (h t List.mem_cons_self)) (.cons (.int _) (.cons (.int _) .nil))) (dpP fun u m => h u (List.mem_cons_of_mem _ m))
theorem eqv_P (ps : List (Nat × Nat)) : PyData.eqv (.list ((ps.map pI).map dI)) (.list ((ps.map pI).map dI)) = true := SeqAt.eqv_refl _ (SeqAt.canLay_of_shaped (sh_list _))
theorem PlanAt.butD {C am : Addr} {H H' : Hp} {a : Addr} {L : List ((Nat × Nat) × Rat)} {kvs : List (List L2.Key × V)} (h : PlanAt C H a L) (k : Keep am H H') (ne : a ≠ am) (e : H am = some (.dT kvs)) : PlanAt C H' a L := let ⟨es, h1, h2, h3⟩ := h; ⟨es, k _ _ h1 ne, h2, fun x m => (h3 x m).butD k e⟩
/-- two dicts of the same ties -/
def spSame (C : Addr) : Sp := fun vs H Q _ => ∃ (n : Nat) (d u : Addr) (M : Ties) (es fs : List (Addr × (Nat × Nat) × List ((Nat × Nat) × Rat))), vs = [.int (n : Int), .ref d, .ref u] ∧ H d = some (.dT (kvE es)) ∧ H u = some (.dT (kvE fs)) ∧ d ≠ u ∧ es.map (·.2) = M ∧ fs.map (·.2) = M ∧
  (∀ e ∈ es, e.1 ≠ d ∧ PlanAt C H e.1 e.2.2) ∧ (∀ e ∈ fs, e.1 ≠ d ∧ e.1 ≠ u ∧ PlanAt C H e.1 e.2.2) ∧ (∀ e ∈ es, ∀ f ∈ fs, e.1 ≠ f.1) ∧ KeysOk n (M.map (·.1)) ∧ (∀ m ∈ M, KeysOk n (m.2.map (·.1))) ∧ ∀ H', Same H H' → Q (.bl true) H'
section
variable {P : Program} {w : World} {K : PySem.W.Frag} {mg : Str → Option Value} {base : Heap} {C CC B : Addr}
abbrev s_same : Stmt := top 65
abbrev nSm : List Str := ["_law_size_here", "_law_told", "_law_due_here", "_law_pair", "_law_goal"]
theorem sc_same : FnScope nSm ["_law_size_here", "_law_told", "_law_due_here"] (defScope s_same) := ⟨rfl, rfl, rfl, by decide +kernel, rfl, by decide +kernel, by decide +kernel⟩
theorem ok_same {f : Addr} {fd : FuncData} (F : Fun K "_law_same" "_law_same" s_same f fd) (T : Bm mg) (n_dict : mg "dict" = none) (eq : EqT P w K mg base C) (c_pr : Cal P w K mg base 2 "_law_is_pair" ["_law_size_here", "_law_thing"] spIsPair) (c_td : Cal P w K mg base 3 "_law_is_told" ["_law_size_here", "_law_plan"] (spTold C)) : FnOk P w K mg base CX0 4 f fd ["_law_size_here", "_law_told", "_law_due_here"] (spSame C) := by
  obtain ⟨fe, fde, O, FE, bE⟩ := eq.ex
  refine F.ok sc_same (fun vs H Q E h => ?_) (fun cdv A outer s H vs Q E hr h => ?_)
  · obtain ⟨n, d, u, M, es, fs, rfl, _⟩ := h
    rfl
  · obtain ⟨n, d, u, M, es, fs, rfl, ed, eu, du, qe, qf, ie, jf, ef, ko, km, k⟩ := h
    have hu := hu_of hr
    have h64 := un64 hr
    refine ⟨_, (pss_cons (ps_if (PW.pt (pw_or (pt_not (pt_val (pe_callB call_isi (by rfl) T.b.n_isinstance (by decide +kernel) (pa_cons (pv 1) (pa_cons (pe_bltn (v := .ty "dict") rfl n_dict (by decide +kernel) rfl) pa_nil))))) (pw_or1 (pt_cmpR (op_neD (by exact h64)) (pe_callTy (call_list_dT rfl) (by rfl) T.n_list (by decide +kernel) (pa_cons (pv 1) pa_nil)) (pe_callTy (call_list_dT rfl) (by rfl) T.n_list (by decide +kernel) (pa_cons (pv 2) pa_nil)) (nomark _)))))
        (pss_one (ps_ret pe_bl))
        pss_nil)
      (pss_cons (ps_lock (ps_for PassesOwn.never rfl (pi_keys (pv 1)) (pg_name (i := 3) sc_same.nd rfl (Or.inr rfl))
        (pss_cons (ps_if (PW.pt (pw_or (pt_not (pt_val (pe_cal c_pr (hr.mono (by decide)) rfl (pa_cons (pv 0) (pa_cons (pv 3) pa_nil))))) (pw_or1 (pt_not (pt_val (pe_cal c_td (hr.mono (by decide)) rfl (pa_cons (pv 0) (pa_cons (pe_dget (by exact hu) (pv 1) (pv 3) (by intro _ _; rfl)) pa_nil))))))))
            (pss_one (ps_ret pe_bl))
            pss_nil)
          (pss_cons (ps_if (pt_cmpR (op_neD (by exact h64)) (pe_callTy (call_list_dT rfl) (by rfl) T.n_list (by decide +kernel) (pa_cons (pe_dget (by exact hu) (pv 1) (pv 3) (by intro _ _; rfl)) pa_nil)) (pe_callTy (call_list_dT rfl) (by rfl) T.n_list (by decide +kernel) (pa_cons (pe_dget (by exact hu) (pv 2) (pv 3) (by intro _ _; rfl)) pa_nil)) (nomark _))
            (pss_one (ps_ret pe_bl))
            pss_nil)
          (pss_one (ps_lock (ps_if (pt_not (pt_val (pe_callB (cr_all rfl) (by rfl) T.n_all PyProof.Rows.boot_all (pa_cons (pe_lc (own := [("_law_goal", 4)]) rfl sc_same.nd (pi_keys (pe_dget (by exact hu) (pv 2) (pv 3) (by intro _ _; rfl))) (blkOk_by (N := nSm) (sc := defScope s_same) (by decide +kernel)) (fun _ _ _ _ _ => (pg_name (i := 4) sc_same.nd rfl (Or.inl rfl))) (fun _ _ _ _ _ => pts_nil)
              (fun _ _ _ _ _ => (pe_cmpR (show OpR _ _ (rOwnB K C (EqS K C) .Eq) from op_ownB is_eq FE O bE pass0 (hr.mono (by decide))) (pe_dget (by exact hu) (pe_dget (by exact hu) (pv 1) (pv 3) (by intro _ _; rfl)) (pv 4) (by intro _ _; rfl)) (pe_dget (by exact hu) (pe_dget (by exact hu) (pv 2) (pv 3) (by intro _ _; rfl)) (pv 4) (by intro _ _; rfl)) (nomark _)))) pa_nil))))
            (pss_one (ps_ret pe_bl))
            pss_nil)))))))
      (pss_one (ps_ret pe_bl)))), ?_⟩
    have kE : (es.map fun e => e.2.1) = M.map (·.1) := map_keys qe
    have kF : (fs.map fun e => e.2.1) = M.map (·.1) := map_keys qf
    have ndE : (es.map fun e => e.2.1).Nodup := by rw [kE]; exact ko.nd
    have ndF : (fs.map fun e => e.2.1).Nodup := by rw [kF]; exact ko.nd
    refine ⟨_, rfl, .ref d, .ty "dict", _, _, true, rfl, .ty _, .base (.dT ed), kit_ty (r := true) (by decide +kernel), _, rfl, iteF ?_⟩
    refine ⟨_, rfl, d, kvE es, rfl, .inl ed, fun l1 b1 nl1 ik1 => ?_⟩
    have s1 := Same.put (o := .lst (b1.map V.ref)) nl1
    refine ⟨_, rfl, u, kvE fs, rfl, .inl (s1 _ _ eu), fun l2 b2 nl2 ik2 => ?_⟩
    obtain ⟨t1, a1, a2, a3⟩ := keys_pts ik1
    obtain ⟨t2, c1, c2, c3⟩ := keys_pts ik2
    have s2 := Same.put (o := .lst (b2.map V.ref)) nl2
    have e1 := s2 _ _ (show (upd H l1 (.lst (b1.map V.ref))) l1 = some (.lst (rfs t1)) by rw [upd_same, a1])
    have e2 : (upd (upd H l1 (.lst (b1.map V.ref))) l2 (.lst (b2.map V.ref))) l2 = some (.lst (rfs t2)) := by rw [upd_same, c1]
    have sH := s1.trans s2
    have p1 := (a3.same s1).same s2
    have p2 := c3.same s2
    generalize (upd (upd H l1 (.lst (b1.map V.ref))) l2 (.lst (b2.map V.ref))) = H2 at e1 e2 sH p1 p2 ⊢
    have q12 : t1.map (·.2) = t2.map (·.2) := by rw [a2, c2, kE, kF]
    refine ⟨_, _, .lst (SqL.of e1) (dpP p1), .lst (SqL.of e2) (dpP p2), sh_list _, sh_list _, _, rfl, iteFe (by rw [q12, eqv_P]; rfl) ?_⟩
    refine ⟨d, _, sH _ _ ed, trivial, fun od => ?_⟩
    refine ⟨_, rfl, d, od, rfl, .inr ⟨kvE es, upd_same, ?_⟩⟩
    refine for_it walk_keysT (fun i σ H' => ∃ v3 v4, σ = [some (.int (n : Int)), some (.ref d), some (.ref u), v3, v4] ∧ H' d = some (.frz od (.dT (kvE es))) ∧ Keep d H H') ⟨none, none, rfl, upd_same, fun b o e ne => by rw [upd_ne ne]; exact sH _ _ e⟩ (fun i σ H' _ h => ?_) ?_ ?_
    · obtain ⟨_, _, _, fz, _⟩ := h
      exact fz
    · rintro i x σ H'' H' hi ⟨v3, v4, rfl, fz, kp1⟩ ⟨rfl, kk, v, q, hkv, rfl, hq⟩
      obtain ⟨e, he, me, rfl, rfl⟩ := kvE_at hkv
      have mM : e.2 ∈ M := by rw [← qe]; exact List.mem_map.mpr ⟨e, me, rfl⟩
      have mem := ko.lt e.2.1 (List.mem_map.mpr ⟨e.2, mM, rfl⟩)
      obtain ⟨f, mf, hf⟩ : ∃ f ∈ fs, f.2 = e.2 := by
        rw [← qf] at mM
        exact List.mem_map.mp mM
      have hfk : f.2.1 = e.2.1 := by rw [hf]
      obtain ⟨ed1, pe1⟩ := ie e me
      obtain ⟨fd1, fu1, pf1⟩ := jf f mf
      have ef1 := ef e me f mf
      rw [hf] at pf1
      have pe := pe1.butD kp1 ed1 ed
      have pf := pf1.butD kp1 fd1 ed
      have eu1 := kp1 _ _ eu (Ne.symm du)
      have dgE : ∀ G : Hp, G d = some (.frz od (.dT (kvE es))) → G q = some (.tup (prV e.2.1)) → DGet G d (.ref q) (some (.ref e.1)) := fun G h1 h2 => .inr ⟨kvE es, kp e.2.1, q, .inr ⟨od, h1⟩, rfl, h2, (val_at ndE me).symm⟩
      have dgF : ∀ G : Hp, G u = some (.dT (kvE fs)) → G q = some (.tup (prV e.2.1)) → DGet G u (.ref q) (some (.ref f.1)) := fun G h1 h2 => .inr ⟨kvE fs, kp e.2.1, q, .inl h1, rfl, h2, by have := val_at ndF mf; rw [hfk] at this; exact this.symm⟩
      have kL := km e.2 mM
      refine ⟨_, rfl, _, rfl, n, q, e.2.1, rfl, hq, mem.1, mem.2, _, rfl, iteF ?_⟩
      refine ⟨_, rfl, _, rfl, _, rfl, d, .ref e.1, rfl, dgE _ fz hq, n, e.1, e.2.2, rfl, pe, kL, fun H3 s3 => ⟨_, rfl, iteF ?_⟩⟩
      have fz3 := s3 _ _ fz
      have hq3 := s3 _ _ hq
      have eu3 := s3 _ _ eu1
      have kp3 := kp1.trans (Keep.of s3)
      obtain ⟨xs, eX, qX, iX⟩ := pe.same s3
      obtain ⟨ys, eY, qY, iY⟩ := pf.same s3
      refine ⟨_, rfl, _, rfl, d, .ref e.1, rfl, dgE _ fz3 hq3, e.1, kvE xs, rfl, .inl eX, fun l3 b3 nl3 ik3 => ?_⟩
      have s4 := Same.put (o := .lst (b3.map V.ref)) nl3
      refine ⟨_, rfl, _, rfl, u, .ref f.1, rfl, dgF _ (s4 _ _ eu3) (s4 _ _ hq3), f.1, kvE ys, rfl, .inl (s4 _ _ eY), fun l4 b4 nl4 ik4 => ?_⟩
      obtain ⟨t3, g1, g2, g3⟩ := keys_pts ik3
      obtain ⟨t4, j1, j2, j3⟩ := keys_pts ik4
      have s5 := Same.put (o := .lst (b4.map V.ref)) nl4
      have e3 := s5 _ _ (show (upd H3 l3 (.lst (b3.map V.ref))) l3 = some (.lst (rfs t3)) by rw [upd_same, g1])
      have e4 : (upd (upd H3 l3 (.lst (b3.map V.ref))) l4 (.lst (b4.map V.ref))) l4 = some (.lst (rfs t4)) := by rw [upd_same, j1]
      have s35 := s4.trans s5
      have p3 := (g3.same s4).same s5
      have p4 := j3.same s5
      generalize (upd (upd H3 l3 (.lst (b3.map V.ref))) l4 (.lst (b4.map V.ref))) = H5 at e3 e4 s35 p3 p4 ⊢
      have kX : (xs.map fun e => e.2.1) = e.2.2.map (·.1) := map_keys qX
      have kY : (ys.map fun e => e.2.1) = e.2.2.map (·.1) := map_keys qY
      have q34 : t3.map (·.2) = t4.map (·.2) := by rw [g2, j2, kX, kY]
      refine ⟨_, _, .lst (SqL.of e3) (dpP p3), .lst (SqL.of e4) (dpP p4), sh_list _, sh_list _, _, rfl, iteFe (by rw [q34, eqv_P]; rfl) ?_⟩
      have fz5 := s35 _ _ fz3
      have hq5 := s35 _ _ hq3
      have eu5 := s35 _ _ eu3
      have eX5 := s35 _ _ eX
      have eY5 := s35 _ _ eY
      have ndX : (xs.map fun e => e.2.1).Nodup := by rw [kX]; exact kL.nd
      have ndY : (ys.map fun e => e.2.1).Nodup := by rw [kY]; exact kL.nd
      have l8 : ys.length ≤ 64 := by
        have := congrArg List.length kY
        rw [List.length_map] at this
        rw [this]
        exact kL.l
      refine ⟨f.1, _, eY5, trivial, fun of => ?_⟩
      have up : ∀ {b : Addr} {o : HO}, b ≠ f.1 → H5 b = some o → (upd H5 f.1 (.frz of (.dT (kvE ys)))) b = some o := fun {b o} ne e => by rw [upd_ne ne]; exact e
      have fz6 := up (Ne.symm fd1) fz5
      have hq6 := up (fun z => by rw [z, eY5] at hq5; cases hq5) hq5
      have eu6 := up (Ne.symm fu1) eu5
      have eX6 := up ef1 eX5
      have iX6 : ∀ e ∈ xs, IsS C (upd H5 f.1 (.frz of (.dT (kvE ys)))) e.1 e.2.2 := fun x m => let ⟨dx, q⟩ := (iX x m).same s35; ⟨dx, up (fun z => by rw [z, eY5] at q; cases q) q⟩
      have iY6 : ∀ e ∈ ys, IsS C (upd H5 f.1 (.frz of (.dT (kvE ys)))) e.1 e.2.2 := fun x m => let ⟨dx, q⟩ := (iY x m).same s35; ⟨dx, up (fun z => by rw [z, eY5] at q; cases q) q⟩
      have ff6 : (upd H5 f.1 (.frz of (.dT (kvE ys)))) f.1 = some (.frz of (.dT (kvE ys))) := upd_same
      have k6 : ∀ H7, Same (upd H5 f.1 (.frz of (.dT (kvE ys)))) H7 → (upd H7 f.1 (.dT (kvE ys))) d = some (.frz od (.dT (kvE es))) ∧ Keep d H (upd H7 f.1 (.dT (kvE ys))) := fun H7 s7 => by
        refine ⟨by rw [upd_ne (Ne.symm fd1)]; exact s7 _ _ fz6, fun b o e ne => ?_⟩
        have e5 := s35 _ _ (kp3 _ _ e ne)
        by_cases z : b = f.1
        · rw [z] at e5 ⊢
          rw [upd_same, ← eY5]
          exact e5
        · rw [upd_ne z]
          exact s7 _ _ (up z e5)
      generalize (upd H5 f.1 (.frz of (.dT (kvE ys)))) = H6 at fz6 hq6 eu6 eX6 iX6 iY6 ff6 k6 ⊢
      refine ⟨_, rfl, _, rfl, u, .ref f.1, rfl, dgF _ eu6 hq6, f.1, of, rfl, .inr ⟨kvE ys, ff6, fun D nD => ?_⟩⟩
      refine lc_it walk_keysT (fun j H7 => Same H6 H7 ∧ H7 D = some (.lst ((List.replicate j true).map V.bl))) ⟨Same.put nD, upd_same⟩ (fun j H7 _ h => h.1 _ _ ff6) ?_ ?_
      · rintro j x2 H8 H7 hj ⟨s7, eD⟩ ⟨rfl, kk2, v2, q2, hkv2, rfl, hq2⟩
        obtain ⟨g, hg, mg2, rfl, rfl⟩ := kvE_at hkv2
        have jl := (List.getElem?_eq_some_iff.mp hg).1
        obtain ⟨xx, mx, hxx⟩ : ∃ x ∈ xs, x.2 = g.2 := by
          have : g.2 ∈ xs.map (·.2) := by rw [qX, ← qY]; exact List.mem_map.mpr ⟨g, mg2, rfl⟩
          exact List.mem_map.mp this
        refine ⟨rfl, yes_of ?_⟩
        have dX : DGet H7 e.1 (.ref q2) (some (.ref xx.1)) := .inr ⟨kvE xs, kp g.2.1, q2, .inl (s7 _ _ eX6), rfl, hq2, by have := val_at ndX mx; rw [show xx.2.1 = g.2.1 by rw [hxx]] at this; exact this.symm⟩
        have dY : DGet H7 f.1 (.ref q2) (some (.ref g.1)) := .inr ⟨kvE ys, kp g.2.1, q2, .inr ⟨of, s7 _ _ ff6⟩, rfl, hq2, (val_at ndY mg2).symm⟩
        refine ⟨_, rfl, _, rfl, d, .ref e.1, rfl, dgE _ (s7 _ _ fz6) (s7 _ _ hq6), _, rfl, e.1, .ref xx.1, rfl, dX, ?_⟩
        refine ⟨_, rfl, _, rfl, u, .ref f.1, rfl, dgF _ (s7 _ _ eu6) (s7 _ _ hq6), _, rfl, f.1, .ref g.1, rfl, dY, ?_⟩
        have i1 := (iX6 xx mx).same s7
        have i2 := (iY6 g mg2).same s7
        rw [show xx.2.2 = g.2.2 by rw [hxx]] at i1
        obtain ⟨d1, z1⟩ := id i1
        obtain ⟨d2, z2⟩ := id i2
        have eqs := eqS_q (K := K) i1 i2
        rw [decide_eq_true rfl] at eqs
        refine ⟨true, .inl ⟨xx.1, d1, _, rfl, z1, eqs, .inr ⟨g.1, d2, _, rfl, z2⟩⟩, ?_⟩
        refine ⟨_, eD, by rw [List.length_map, List.length_replicate]; exact small_len (by omega), Same.but (fun b u e => s7 _ _ e) nD, ?_⟩
        rw [upd_same]
        exact congrArg (fun x => some (HO.lst x)) refs_rep
      · rintro H7 ⟨s7, eD⟩
        refine ⟨D, _, rfl, SqL.of eD, _, rfl, ?_⟩
        rw [all_true]
        refine iteF ?_
        obtain ⟨z1, z2⟩ := k6 H7 s7
        exact ⟨s7 _ _ ff6, _, _, rfl, z1, z2⟩
    · rintro σ H' ⟨v3, v4, rfl, fz, kp1⟩
      refine ⟨fz, k _ fun b o e => ?_⟩
      by_cases q : b = d
      · rw [q, upd_same, ← ed, ← q]; exact e
      · rw [upd_ne q]; exact kp1 _ _ e q
end
end K8

set_option Elab.async false
set_option linter.all false
set_option maxRecDepth 100000
set_option maxHeartbeats 4000000
namespace K8
open PySem L2
def spSpreadL (C : Addr) : Sp := fun vs H Q _ => ∃ (b : Addr) (n : Nat) (ws : List Nat), vs = [.ref b] ∧ n ≤ 8 ∧ TpsAt n H (b, ws) ∧ ∀ (t : Addr) (H' : Hp), Same H H' → RowSh C H' n (t, ws) → Q (.ref t) H'
def spChainL (C CC : Addr) : Sp := fun vs H Q _ => ∃ (l lb : Addr) (n : Nat) (rs : List (Addr × List Nat)) (ls : List Str), vs = [.ref l, .ref lb] ∧ 1 ≤ n ∧ n ≤ 8 ∧ H l = some (.lst (rfs rs)) ∧ rs.length = n ∧ Rws n H rs ∧ H lb = some (.tup (sV ls)) ∧ Lbs n ls ∧
  ∀ (x : Addr) (H' : Hp), Same H H' → IsCh C CC H' x n (rs.map (·.2)) ls → Q (.ref x) H'
section
variable {P : Program} {w : World} {K : PySem.W.Frag} {mg : Str → Option Value} {base : Heap} {C CC B : Addr}
abbrev s_spreadL : Stmt := top 51
theorem sc_spreadL : FnScope ["_law_tops_here", "_law_top"] ["_law_tops_here"] (defScope s_spreadL) := ⟨rfl, rfl, rfl, by decide +kernel, rfl, by decide +kernel, by decide +kernel⟩
theorem ok_spreadL {f : Addr} {fd : FuncData} (F : Fun K "_law_spread" "_law_spread" s_spreadL f fd) (T : Bm mg) (m : MkT P w K mg base C B) : FnOk P w K mg base CX0 6 f fd ["_law_tops_here"] (spSpreadL C) := by
  refine F.ok sc_spreadL (fun vs H Q E h => ?_) (fun cdv A outer s H vs Q E hr h => ?_)
  · obtain ⟨b, n, ws, rfl, _⟩ := h
    rfl
  · obtain ⟨b, n, ws, rfl, n8, ⟨eb, tp⟩, k⟩ := h
    refine ⟨_, (pss_one (ps_ret (pe_callTy call_tuple_of (by rfl) T.n_tuple (by decide +kernel) (pa_cons (pe_lc (own := [("_law_top", 1)]) rfl sc_spreadL.nd (pi_tup (pv 0)) (blkOk_by (N := ["_law_tops_here", "_law_top"]) (sc := defScope s_spreadL) (by decide +kernel)) (fun _ _ _ _ _ => (pg_name (i := 1) sc_spreadL.nd rfl (Or.inl rfl))) (fun _ _ _ _ _ => pts_nil)
      (fun _ _ _ _ _ => (show PE _ _ (tMake C (spSI K C B) [] E0 (tCons (tVar 1) (tCons (tCB (rSumT K) (tCons (tVar 0) tNil)) tNil))) from pe_share2 m (hr.mono (by decide)) rfl (pa_cons (pv 1) (pa_cons (pe_callB (show CallR _ _ (rSumT K) from cr_sumT rfl) (by rfl) T.n_sum PyProof.Rows.boot_sum (pa_cons (pv 0) pa_nil)) pa_nil))))) pa_nil)))), ?_⟩
    have eb : H b = some (.tup (cV ws)) := eb
    obtain ⟨p0, p1, p2⟩ := tps_low tp n8
    refine ⟨_, rfl, b, rfl, ⟨_, SqT.of eb⟩, fun D nD => ?_⟩
    refine lc_tup (K := K) (a := b) (xs := cV ws) (fun i H' => Same H H' ∧ ∃ as : List Addr, H' D = some (.lst (as.map V.ref)) ∧ as.length = i ∧
      ∀ (j : Nat) (a : Addr), as[j]? = some a → ∃ (dx : Addr) (w : Nat), ws[j]? = some w ∧ H' a = some (.ins C dx (shF (lowT (w : Int) (ws.sum : Int)) (lowB (w : Int) (ws.sum : Int))))) ⟨Same.put nD, [], upd_same, rfl, fun j a e => by simp at e⟩ (fun i H' _ h => SqT.of (h.1 _ _ eb)) ?_ ?_
    · rintro i x H' hx ⟨s1, as, eD, la, fa⟩
      obtain ⟨w, hw, rfl⟩ := cV_of hx
      have il := (List.getElem?_eq_some_iff.mp hw).1
      have lw : ws.length = n := tp.1
      refine ⟨rfl, yes_of ?_⟩
      refine ⟨_, rfl, _, rfl, b, ws.map (fun k : Nat => (k : Int)), rfl, SqT.of (by rw [← cV_ints]; exact s1 _ _ eb), ?_⟩
      rw [sum_ints]
      have p0 : 0 < (ws.sum : Int) := p0
      intro y0 dy0 hy0 hd0 ne0
      refine mk_ok (K := K) (C := C) (B := B) (a := (w : Int)) (b := (ws.sum : Int)) (H := H') (Q := fun y H4 => ∃ acc, H4 D = some (HO.lst acc) ∧ acc.length < sizeLine ∧ Same H (upd H4 D (.lst (acc ++ [y]))) ∧ ∃ as : List Addr, (upd H4 D (.lst (acc ++ [y]))) D = some (.lst (as.map V.ref)) ∧ as.length = i + 1 ∧ ∀ (j : Nat) (a : Addr), as[j]? = some a → ∃ (dx : Addr) (w : Nat), ws[j]? = some w ∧ (upd H4 D (.lst (acc ++ [y]))) a = some (.ins C dx (shF (lowT (w : Int) (ws.sum : Int)) (lowB (w : Int) (ws.sum : Int))))) (by omega) (log_small p1 (by decide +kernel) (by decide +kernel)) (fun a dx H2 s2 ea => ?_) y0 dy0 hy0 hd0 ne0
      have aD : ∀ {c dy : Addr} {fs : List (Str × V)}, H2 c = some (.ins C dy fs) → c ≠ D := fun e z => by
        rw [z, s2 _ _ eD] at e
        cases e
      refine ⟨_, s2 _ _ eD, by rw [List.length_map]; exact small_len (by omega), Same.but (fun b u e => s2 _ _ (s1 _ _ e)) nD, as ++ [a], by rw [upd_same, List.map_append]; rfl, by rw [List.length_append, la]; rfl, fun j c hc => ?_⟩
      rcases Nat.lt_or_ge j as.length with h | h
      · rw [List.getElem?_append_left h] at hc
        obtain ⟨dy, v, q1, q2⟩ := fa j c hc
        exact ⟨dy, v, q1, by rw [upd_ne (aD (s2 _ _ q2))]; exact s2 _ _ q2⟩
      · rw [List.getElem?_append_right h] at hc
        have hz : j - as.length = 0 := by
          have := (List.getElem?_eq_some_iff.mp hc).1
          simpa using this
        rw [hz] at hc
        have e : a = c := by simpa using hc
        have ej : j = i := by omega
        rw [← e, ej]
        exact ⟨dx, w, hw, by rw [upd_ne (aD ea)]; exact ea⟩
    · rintro H1 ⟨s1, as, eD, la, fa⟩
      rw [show (cV ws).length = n by rw [cV, List.length_map, tp.1]] at la
      refine ⟨D, _, rfl, .inl ⟨SqL.of eD, fun t nt => ?_⟩⟩
      have st := Same.put (o := .tup (as.map V.ref)) nt
      exact k t _ (s1.trans st) ⟨as, upd_same, la, tp, fun j c hc => let ⟨dx, w, q1, q2⟩ := fa j c hc; ⟨dx, w, q1, st _ _ q2⟩⟩
abbrev nCL : List Str := ["_law_rows_here", "_law_labels_here", "_law_tops_here"]
end
end K8

set_option Elab.async false
set_option linter.all false
set_option maxRecDepth 100000
set_option maxHeartbeats 4000000
/-! two lists of the very same things are not unlike, whatever the things are -/
namespace L2
open PySem PySem.Spec PyProof.Rows PySem.SeqAt PySem.MeetsSeq
def PlV : V → Prop
  | .non => True
  | .bl _ => True
  | .int _ => True
  | .str _ => True
  | .ref _ => True
  | _ => False
theorem eqAt_sameV {A : Around} {s : Shared} {v : V} {x y : Value} (h : PlV v) (rx : RelV v x) (ry : RelV v y) : EqAt A s x y true := by
  cases v with
  | non => cases rx; cases ry; exact EqAt.same _
  | bl b => cases rx; cases ry; exact EqAt.same _
  | ref a => cases rx; cases ry; exact EqAt.same _
  | int i =>
    obtain ⟨t, rfl⟩ := rx
    obtain ⟨u, rfl⟩ := ry
    have := EqAt.int_int (A := A) (s := s) i t i u
    rwa [beq_self_eq_true] at this
  | str i =>
    obtain ⟨t, rfl⟩ := rx
    obtain ⟨u, rfl⟩ := ry
    have := EqAt.str_str (A := A) (s := s) i t i u
    rwa [beq_self_eq_true] at this
  | _ => cases h
def rNeSame (K : PySem.W.Frag) : R2 := fun x y H Q => ∃ a b xs, x = .ref a ∧ y = .ref b ∧ SqL K H a xs ∧ SqL K H b xs ∧ (∀ v ∈ xs, PlV v) ∧ Q (.bl false) H
theorem op_neSame {X : Cx} (hu : X.A.units < cLine) : OpR X (compareOp .NotEq) (rNeSame X.K) := by
  intro pins s σ H x y v u Q I rx ry h
  obtain ⟨a, b, xs, rfl, rfl, h1, h2, hp, q⟩ := h
  cases rx
  cases ry
  obtain ⟨i1, r1, p1, _⟩ := I.list h1
  obtain ⟨i2, r2, p2, _⟩ := I.list h2
  have l1 := r1.length
  have l2 := r2.length
  have rc := RcNeAt.lists (A := X.A) (s := s) (e := fun _ => true) p1.isList p2.isList (by simp only [List.size_toArray]; omega) hu fun j j1 j2 => by
    have hj : j < xs.length := by
      simp only [List.size_toArray] at j1
      omega
    have hx : xs[j]? = some xs[j] := List.getElem?_eq_getElem hj
    obtain ⟨u1, e1, q1⟩ := r1.get hx
    obtain ⟨u2, e2, q2⟩ := r2.get hx
    have g1 : i1.toArray[j] = u1 := by
      simp only [List.getElem_toArray]
      exact (List.getElem?_eq_some_iff.mp e1).2
    have g2 : i2.toArray[j] = u2 := by
      simp only [List.getElem_toArray]
      exact (List.getElem?_eq_some_iff.mp e2).2
    rw [g1, g2]
    exact eqAt_sameV (hp _ (List.mem_of_getElem? hx)) q1 q2
  have all : (List.range i1.toArray.size).all (fun _ => true) = true := List.all_eq_true.mpr fun _ _ => rfl
  rw [all] at rc
  exact rc X.prog X.w _ _ ⟨.bl false, H, I, rfl, q⟩
end L2

set_option Elab.async false
set_option linter.all false
set_option maxRecDepth 100000
set_option maxHeartbeats 4000000
/-! two tuples of the very same things are equal, whatever the things are -/
namespace L2
open PySem PySem.Spec PyProof.Rows PySem.SeqAt PySem.MeetsSeq
def rEqSelf (K : PySem.W.Frag) : R2 := fun x y H Q => ∃ a b xs, x = .ref a ∧ y = .ref b ∧ SqT K H a xs ∧ SqT K H b xs ∧ (∀ v ∈ xs, PlV v) ∧ Q (.bl true) H
theorem op_eqSelf {X : Cx} (hu : X.A.units < cLine) : OpR X (compareOp .Eq) (rEqSelf X.K) := by
  intro pins s σ H x y v u Q I rx ry h
  obtain ⟨a, b, xs, rfl, rfl, h1, h2, hp, q⟩ := h
  cases rx
  cases ry
  obtain ⟨i1, r1, p1, _⟩ := I.tuple h1
  obtain ⟨i2, r2, p2, _⟩ := I.tuple h2
  have l1 := r1.length
  have l2 := r2.length
  have sz : i1.length = i2.length := by omega
  have rc := RcAt.tuples (A := X.A) (s := s) (e := fun _ => true) p1 p2 hu fun j j1 j2 => by
    have hj : j < xs.length := by
      simp only [List.size_toArray] at j1
      omega
    have hx : xs[j]? = some xs[j] := List.getElem?_eq_getElem hj
    obtain ⟨u1, e1, q1⟩ := r1.get hx
    obtain ⟨u2, e2, q2⟩ := r2.get hx
    have g1 : i1.toArray[j] = u1 := by
      simp only [List.getElem_toArray]
      exact (List.getElem?_eq_some_iff.mp e1).2
    have g2 : i2.toArray[j] = u2 := by
      simp only [List.getElem_toArray]
      exact (List.getElem?_eq_some_iff.mp e2).2
    rw [g1, g2]
    exact eqAt_sameV (hp _ (List.mem_of_getElem? hx)) q1 q2
  have all : ((List.range (min i1.toArray.size i2.toArray.size)).all (fun _ => true) && i1.toArray.size == i2.toArray.size) = true := by
    rw [Bool.and_eq_true]
    exact ⟨List.all_eq_true.mpr fun _ _ => rfl, by simp only [List.size_toArray, sz, beq_self_eq_true]⟩
  rw [all] at rc
  exact rc X.prog X.w _ _ ⟨.bl true, H, I, rfl, q⟩
end L2

set_option Elab.async false
set_option linter.all false
set_option maxRecDepth 100000
set_option maxHeartbeats 4000000
/-! two tuples of tuples of the very same things are equal, whatever the things are -/
namespace L2
open PySem PySem.Spec PyProof.Rows PySem.SeqAt PySem.MeetsSeq
theorem rcSelf {X : Cx} {pins : List (Addr × Obj)} {σ : St} {H : Hp} {s : Shared} {A : Around} (I : Inv X pins σ H s) {a b : Addr} {xs : List V} (hu : A.units < cLine) (h1 : SqT X.K H a xs) (h2 : SqT X.K H b xs) (hp : ∀ v ∈ xs, PlV v) : RcAt A s (.ref a) (.ref b) true := by
  obtain ⟨i1, r1, p1, _⟩ := I.tuple h1
  obtain ⟨i2, r2, p2, _⟩ := I.tuple h2
  have l1 := r1.length
  have l2 := r2.length
  have sz : i1.length = i2.length := by omega
  have rc := RcAt.tuples (A := A) (s := s) (e := fun _ => true) p1 p2 hu fun j j1 j2 => by
    have hj : j < xs.length := by
      simp only [List.size_toArray] at j1
      omega
    have hx : xs[j]? = some xs[j] := List.getElem?_eq_getElem hj
    obtain ⟨u1, e1, q1⟩ := r1.get hx
    obtain ⟨u2, e2, q2⟩ := r2.get hx
    have g1 : i1.toArray[j] = u1 := by
      simp only [List.getElem_toArray]
      exact (List.getElem?_eq_some_iff.mp e1).2
    have g2 : i2.toArray[j] = u2 := by
      simp only [List.getElem_toArray]
      exact (List.getElem?_eq_some_iff.mp e2).2
    rw [g1, g2]
    exact eqAt_sameV (hp _ (List.mem_of_getElem? hx)) q1 q2
  have all : ((List.range (min i1.toArray.size i2.toArray.size)).all (fun _ => true) && i1.toArray.size == i2.toArray.size) = true := by
    rw [Bool.and_eq_true]
    exact ⟨List.all_eq_true.mpr fun _ _ => rfl, by simp only [List.size_toArray, sz, beq_self_eq_true]⟩
  rw [all] at rc
  exact rc
def rEqSelf2 (K : PySem.W.Frag) : R2 := fun x y H Q => ∃ (a b : Addr) (as bs : List Addr), x = .ref a ∧ y = .ref b ∧ SqT K H a (as.map V.ref) ∧ SqT K H b (bs.map V.ref) ∧ as.length = bs.length ∧
  (∀ (i : Nat) (c d : Addr), as[i]? = some c → bs[i]? = some d → ∃ xs, SqT K H c xs ∧ SqT K H d xs ∧ ∀ v ∈ xs, PlV v) ∧ Q (.bl true) H
theorem op_eqSelf2 {X : Cx} (hu : X.A.units + 64 < cLine) : OpR X (compareOp .Eq) (rEqSelf2 X.K) := by
  intro pins s σ H x y v u Q I rx ry h
  obtain ⟨a, b, as, bs, rfl, rfl, h1, h2, ll, hp, q⟩ := h
  cases rx
  cases ry
  obtain ⟨i1, r1, p1, _⟩ := I.tuple h1
  obtain ⟨i2, r2, p2, _⟩ := I.tuple h2
  have l1 := r1.length
  have l2 := r2.length
  rw [List.length_map] at l1 l2
  have sz : i1.length = i2.length := by omega
  have hu1 : X.A.units < cLine := by omega
  have hu2 : X.A.in1.units < cLine := by
    show X.A.units + 1 < cLine
    omega
  have rc := RcAt.tuples (A := X.A) (s := s) (e := fun _ => true) p1 p2 hu1 fun j j1 j2 => by
    have hj : j < as.length := by
      simp only [List.size_toArray] at j1
      omega
    have hx : as[j]? = some as[j] := List.getElem?_eq_getElem hj
    have hy : bs[j]? = some bs[j] := List.getElem?_eq_getElem (by omega)
    obtain ⟨u1, e1, q1⟩ := r1.get (show (as.map V.ref)[j]? = some (.ref as[j]) by rw [List.getElem?_map, hx]; rfl)
    obtain ⟨u2, e2, q2⟩ := r2.get (show (bs.map V.ref)[j]? = some (.ref bs[j]) by rw [List.getElem?_map, hy]; rfl)
    have g1 : i1.toArray[j] = u1 := by
      simp only [List.getElem_toArray]
      exact (List.getElem?_eq_some_iff.mp e1).2
    have g2 : i2.toArray[j] = u2 := by
      simp only [List.getElem_toArray]
      exact (List.getElem?_eq_some_iff.mp e2).2
    rw [g1, g2]
    obtain ⟨xs, c1, c2, c3⟩ := hp j _ _ hx hy
    cases q1
    cases q2
    by_cases e : as[j] = bs[j]
    · rw [e]
      exact EqAt.same _
    · exact EqAt.of_refs e (rcSelf I hu2 c1 c2 c3)
  have all : ((List.range (min i1.toArray.size i2.toArray.size)).all (fun _ => true) && i1.toArray.size == i2.toArray.size) = true := by
    rw [Bool.and_eq_true]
    exact ⟨List.all_eq_true.mpr fun _ _ => rfl, by simp only [List.size_toArray, sz, beq_self_eq_true]⟩
  rw [all] at rc
  exact rc X.prog X.w _ _ ⟨.bl true, H, I, rfl, q⟩
end L2

set_option Elab.async false
set_option linter.all false
set_option maxRecDepth 100000
set_option maxHeartbeats 1000000
namespace K8
open PySem L2
/-- two chains that were made of the same rows and labels -/
def EqM (CC : Addr) : Addr → V → Bool → Hp → Prop := fun a y b H => b = true ∧ ∃ o T lb, y = .ref o ∧ Made CC H a T lb ∧ Made CC H o T lb
structure EqMT (P : Program) (w : World) (K : PySem.W.Frag) (mg : Str → Option Value) (base : Heap) (CC : Addr) : Prop where
  ex : ∃ (f : Addr) (fd : FuncData), OwnT K CC f ∧ FnOk P w K mg base CX0 1 f fd ["self", "other"] (spOwn (EqM CC)) ∧ Binds K fd ["self", "other"] []
def spWorld (C : Addr) : Sp := fun vs H Q _ => ∃ (a : Addr), vs = [.ref a, .int 5] ∧ PoolAt H a ∧ ∀ (l t lb : Addr) (n : Nat) (rs : List (Addr × List Nat)) (ls : List Str) (H' : Hp), Keep a H H' → PoolAt H' a → H' l = some (.lst [.ref t, .ref lb]) → 1 ≤ n → n ≤ 8 → H' t = some (.tup (rfs rs)) → rs.length = n → (∀ r ∈ rs, RowSh C H' n r) → H' lb = some (.tup (sV ls)) → Lbs n ls → Q (.ref l) H'
section
variable {P : Program} {w : World} {K : PySem.W.Frag} {mg : Str → Option Value} {base : Heap} {C CC B : Addr}
abbrev s_ceq : Stmt := inClass (top 31) 5
theorem sc_ceq : FnScope ["self", "other"] ["self", "other"] (defScope s_ceq) := ⟨rfl, rfl, rfl, by decide +kernel, rfl, by decide +kernel, by decide +kernel⟩
theorem ok_ceq {f : Addr} {fd : FuncData} (F : Fun K "__eq__" "Chain.__eq__" s_ceq f fd) (t : ChT K mg CC) (n_isi : mg "isinstance" = none) : FnOk P w K mg base CX0 1 f fd ["self", "other"] (spOwn (EqM CC)) := by
  refine F.ok sc_ceq (fun vs H Q E h => ?_) (fun cdv A outer s H vs Q E hr h => ?_)
  · obtain ⟨a, y, b, rfl, _⟩ := h
    rfl
  · obtain ⟨a, y, b, rfl, ⟨rfl, o, T, lb, rfl, m1, m2⟩, k⟩ := h
    obtain ⟨dx, T2, n, rs, rs2, h1, h2, h3, h4, h5, ls, h6⟩ := m1
    obtain ⟨dx', T2', n', rs', rs2', h1', h2', h3', h4', h5', ls', h6'⟩ := m2
    have h64 := un64 hr
    have hu := hu_of hr
    refine ⟨_, (pss_one (ps_ret (pe_and (pe_callB call_isi (by rfl) n_isi (by decide +kernel) (pa_cons (pv 1) (pa_cons (pe_glob (v := .ref CC) rfl t.gC rfl) pa_nil))) (pe_and (pe_cmpR (op_eqSelf2 (by exact h64)) (pe_fld (pv 0) rfl) (pe_fld (pv 1) rfl) (nomark _)) (pe_one (pe_cmpR (op_eqSelf (by exact Nat.lt_of_succ_lt hu)) (pe_fld (pv 0) rfl) (pe_fld (pv 1) rfl) (nomark _))))))), ?_⟩
    refine ⟨_, rfl, .ref o, .ref CC, _, _, true, rfl, .own CC, t.it.ty h1', t.it.kself, _, rfl, iteT ?_⟩
    have er : rs.map (·.1) = rs'.map (·.1) := by
      rw [h2] at h2'
      have := HO.tup.inj (Option.some.inj h2')
      have := congrArg (List.map fun v : V => match v with | .ref a => a | _ => 0) this
      rw [rfs, rfs, List.map_map, List.map_map] at this
      exact this
    have ll : rs.length = rs'.length := by
      have := congrArg List.length er
      rw [List.length_map, List.length_map] at this
      exact this
    refine ⟨_, rfl, a, CC, dx, _, _, rfl, h1, t.it.cl, t.nR, chF_rows _ _ _, _, rfl, o, CC, dx', _, _, rfl, h1', t.it.cl, t.nR, chF_rows _ _ _, T2, T2', rs2.map (·.1), rs2'.map (·.1), rfl, rfl, SqT.of (by rw [h3, List.map_map]; rfl), SqT.of (by rw [h3', List.map_map]; rfl), by rw [List.length_map, List.length_map]; omega, fun i c d hc hd => ?_, _, rfl, iteT ?_⟩
    · rw [List.getElem?_map] at hc hd
      obtain ⟨r2, q1, rfl⟩ := Option.map_eq_some_iff.mp hc
      obtain ⟨r2', q2, rfl⟩ := Option.map_eq_some_iff.mp hd
      have il := (List.getElem?_eq_some_iff.mp q1).1
      have g1 : rs[i]? = some (rs[i]'(by omega)) := List.getElem?_eq_getElem (by omega)
      have g2 : rs'[i]? = some (rs'[i]'(by omega)) := List.getElem?_eq_getElem (by omega)
      obtain ⟨xs, x1, x2, x3⟩ := h5 i _ _ g1 q1
      obtain ⟨ys, y1, y2, y3⟩ := h5' i _ _ g2 q2
      have e1 := congrArg (fun l => l[i]?) er
      simp only [List.getElem?_map, g1, g2] at e1
      have e1 : (rs[i]'(by omega)).1 = (rs'[i]'(by omega)).1 := Option.some.inj e1
      rw [e1, y1] at x1
      have := HO.tup.inj (Option.some.inj x1)
      subst this
      exact ⟨ys, SqT.of x2, SqT.of y2, fun v m => by obtain ⟨a, rfl⟩ := y3 v m; trivial⟩
    · refine ⟨_, rfl, a, CC, dx, _, _, rfl, h1, t.it.cl, t.nL, chF_labels _ _ _, _, rfl, o, CC, dx', _, _, rfl, h1', t.it.cl, t.nL, chF_labels _ _ _, lb, lb, sV ls, rfl, rfl, SqT.of h6, SqT.of h6, fun v m => ?_, k⟩
      obtain ⟨r, _, rfl⟩ := List.mem_map.mp m
      trivial
abbrev s_world : Stmt := top 62
abbrev nWo : List Str := ["_law_pool_here", "_law_most", "_law_size_here", "_law_rows_here", "_law_tops_here"]
theorem sc_world : FnScope nWo ["_law_pool_here", "_law_most"] (defScope s_world) := ⟨rfl, rfl, rfl, by decide +kernel, rfl, by decide +kernel, by decide +kernel⟩
theorem ok_world {f : Addr} {fd : FuncData} (F : Fun K "_law_world" "_law_world" s_world f fd) (T : Bm mg) (c_size : Cal P w K mg base 2 "_law_size" ["_law_pool_here", "_law_most"] spSize) (c_rows : Cal P w K mg base 4 "_law_rows" ["_law_pool_here", "_law_size_here"] spRowsG) (c_lab : Cal P w K mg base 3 "_law_labels" ["_law_pool_here", "_law_size_here"] spLabels) (c_sp : Cal P w K mg base 6 "_law_spread" ["_law_tops_here"] (spSpreadL C)) : FnOk P w K mg base CX0 7 f fd ["_law_pool_here", "_law_most"] (spWorld C) := by
  refine F.ok sc_world (fun vs H Q E h => ?_) (fun cdv A outer s H vs Q E hr h => ?_)
  · obtain ⟨a, rfl, _⟩ := h
    rfl
  · obtain ⟨a, rfl, hp, k⟩ := h
    refine ⟨_, (pss_cons (ps_set (i := 2) sc_world.nd rfl (Or.inl rfl) (pe_cal c_size (hr.mono (by decide)) rfl (pa_cons (pv 0) (pa_cons (pv 1) pa_nil))))
      (pss_cons (ps_setLc (i := 3) (own := [("_law_tops_here", 4)]) rfl sc_world.nd rfl rfl (sw_true rfl rfl rfl (by decide +kernel)) (pi_list (pe_cal c_rows (hr.mono (by decide)) rfl (pa_cons (pv 0) (pa_cons (pv 2) pa_nil)))) (blkOk_by (N := nWo) (sc := defScope s_world) (by decide +kernel)) (fun _ _ _ _ _ => (pg_name (i := 4) sc_world.nd rfl (Or.inl rfl))) (fun _ _ _ _ _ => pts_nil) (fun _ _ _ _ _ => (pe_cal c_sp (hr.mono (by decide)) rfl (pa_cons (pv 4) pa_nil))))
      (pss_one (ps_ret (pe_lst (pa_cons (pe_callTy call_tuple_of (by rfl) T.n_tuple (by decide +kernel) (pa_cons (pv 3) pa_nil)) (pa_cons (pe_cal c_lab (hr.mono (by decide)) rfl (pa_cons (pv 0) (pa_cons (pv 2) pa_nil))) pa_nil))))))), ?_⟩
    refine ⟨_, rfl, _, rfl, a, rfl, hp, fun n H1 n1 n8 k1 hp1 => ?_⟩
    refine ⟨_, rfl, _, rfl, a, n, rfl, hp1, n1, n8, fun l rs H2 k2 hp2 el rw_ lr => ?_⟩
    refine ⟨l, rfl, ⟨_, SqL.of el⟩, fun D nD => ?_⟩
    refine lc_list (K := K) (a := l) (xs := rfs rs) (fun i H' => Same H2 H' ∧ ∃ r2 : List (Addr × List Nat), H' D = some (.lst (rfs r2)) ∧ r2.length = i ∧ (∀ r ∈ r2, RowSh C H' n r)) ⟨Same.put nD, [], upd_same, rfl, fun _ m => (by cases m)⟩ (fun i H' _ h => SqL.of (h.1 _ _ el)) ?_ ?_
    · rintro i y H' hy ⟨s1, r2, eD, l2, h2⟩
      obtain ⟨r, hr2, mr, rfl⟩ := rfs_at hy
      have il := (List.getElem?_eq_some_iff.mp hr2).1
      refine ⟨rfl, yes_of ?_⟩
      refine ⟨_, rfl, r.1, n, r.2, rfl, n8, ⟨s1 _ _ (rw_ r mr).1, (rw_ r mr).2⟩, fun t2 H3 s3 sh => ?_⟩
      have up : ∀ (q : Addr × List Nat), RowSh C H3 n q → RowSh C (upd H3 D (.lst (rfs r2 ++ [V.ref t2]))) n q := by
        rintro q ⟨as, h1, h2', h3, h4⟩
        have e3 := s3 _ _ eD
        exact ⟨as, by rw [upd_ne (fun z => by rw [z, e3] at h1; cases h1)]; exact h1, h2', h3, fun j c hc => let ⟨dy, v, q1, q2⟩ := h4 j c hc; ⟨dy, v, q1, by rw [upd_ne (fun z => by rw [z, e3] at q2; cases q2)]; exact q2⟩⟩
      refine ⟨_, s3 _ _ eD, by rw [rfs_len]; exact small_len (by omega), Same.but (fun b u e => s3 _ _ (s1 _ _ e)) nD, r2 ++ [(t2, r.2)], by rw [upd_same, rfs_snoc], by rw [List.length_append, l2]; rfl, fun q m => ?_⟩
      rcases List.mem_append.mp m with m | m
      · exact up q ((h2 q m).same s3)
      · rw [List.mem_singleton.mp m]; exact up _ sh
    · rintro H3 ⟨s3, r2, eD, l2, h2⟩
      rw [rfs_len, lr] at l2
      refine ⟨_, rfl, D, _, rfl, .inl ⟨SqL.of eD, fun t nt => ?_⟩⟩
      have s4 := s3.trans (Same.put (o := .tup (rfs r2)) nt)
      have et : (upd H3 t (.tup (rfs r2))) t = some (.tup (rfs r2)) := upd_same
      have h4 : ∀ r ∈ r2, RowSh C (upd H3 t (.tup (rfs r2))) n r := fun r m => (h2 r m).same (Same.put nt)
      have hp4 := hp2.same s4
      generalize (upd H3 t (.tup (rfs r2))) = H4 at s4 et h4 hp4 ⊢
      refine ⟨_, rfl, _, rfl, a, n, rfl, hp4, n1, n8, fun lb ls H5 k5 hp5 eb hlb => ?_⟩
      refine ⟨by show 2 ≤ sizeLine; decide, fun L nL => ?_⟩
      have s6 := Same.put (o := .lst [.ref t, .ref lb]) nL
      have et5 := k5 _ _ et (hp4.ne et)
      refine k L t lb n r2 ls _ ((k1.trans k2).trans ((Keep.of s4).trans (k5.trans (Keep.of s6)))) (hp5.same s6) upd_same n1 n8 (s6 _ _ et5) l2 (fun r m => ((h4 r m).keep k5 hp4).same s6) (s6 _ _ eb) hlb
end
end K8

set_option Elab.async false
set_option linter.all false
set_option maxRecDepth 100000
set_option maxHeartbeats 1000000
namespace K8
open PySem L2
def spLaw (K : PySem.W.Frag) : Sp := fun vs H Q _ => ∃ (a : Addr) (ns : List Int), vs = [.ref a] ∧ SqL K H a (ns.map V.int) ∧ ns.length ≤ 63 ∧ ∀ H', Q (.bl true) H'
structure LawT (P : Program) (w : World) (K : PySem.W.Frag) (mg : Str → Option Value) (base : Heap) (C CC B : Addr) : Prop where
  T : Bm mg
  t : ChT K mg CC
  m : MkT P w K mg base C B
  mc : MkC P w K mg base C CC
  ce : EqMT P w K mg base CC
  pool : Cal P w K mg base 1 "_law_pool" ["_law_script"] (spPool K)
  draw : Cal P w K mg base 1 "_law_draw" ["_law_pool_here", "_law_many"] spDraw
  world : Cal P w K mg base 7 "_law_world" ["_law_pool_here", "_law_most"] (spWorld C)
  tops : Cal P w K mg base 2 "_law_tops" ["_law_pool_here", "_law_size_here"] spTops
  labels : Cal P w K mg base 3 "_law_labels" ["_law_pool_here", "_law_size_here"] spLabels
  spread : Cal P w K mg base 6 "_law_spread" ["_law_tops_here"] (spSpreadL C)
  due : Cal P w K mg base 10 "_law_due" ["_law_rows_here", "_law_close_here"] (spDue C)
  ask : Cal P w K mg base 13 "_law_ask" ["_law_chain", "_law_close_here"] (spAsk C CC)
  same : Cal P w K mg base 4 "_law_same" ["_law_size_here", "_law_told", "_law_due_here"] (spSame C)
theorem tieL_keys (b : Bool) {n : Nat} (n8 : n ≤ 8) (f g : Nat → Rat) : KeysOk n ((tieL b n f g).map (·.1)) := by
  refine KeysOk.sub n8 ?_
  have h : ∀ F : Nat × Nat → Rat, ((noZ ((prs n).map fun p => (p, F p))).map (·.1)).Sublist (prs n) := fun F => by
    have := noZ_sub ((prs n).map fun p => (p, F p))
    rwa [keys_of] at this
  cases b with
  | true => exact h _
  | false => exact h _
theorem tieM_keys (b : Bool) {n : Nat} (n8 : n ≤ 8) (rws : List (List Nat)) : KeysOk n ((tieM b n rws).map (·.1)) ∧ ∀ m ∈ tieM b n rws, KeysOk n (m.2.map (·.1)) := by
  rw [tieM_eq]
  refine ⟨?_, fun m hm => ?_⟩
  · rw [List.map_map]
    refine KeysOk.sub n8 ?_
    have : ((fun x : (Nat × Nat) × List ((Nat × Nat) × Rat) => x.1) ∘ fun p => (p, tieL b n (fW (rws.getD p.1 [])) (fW (rws.getD p.2 [])))) = id := rfl
    rw [this, List.map_id]
    exact List.filter_sublist
  · obtain ⟨p, _, rfl⟩ := List.mem_map.mp hm
    exact tieL_keys b n8 _ _
section
variable {P : Program} {w : World} {K : PySem.W.Frag} {mg : Str → Option Value} {base : Heap} {C CC B : Addr}
abbrev s_law : Stmt := top 67
abbrev nLw : List Str := ["_law_script", "_law_pool_here", "_law_great", "_law_rows_here", "_law_labels_here", "_law_size_here", "_law_chain", "_law_close_here", "_law_due_here", "_law_told", "_law_pair", "_law_inner", "_law_k"]
theorem sc_law : FnScope nLw ["_law_script"] (defScope s_law) := ⟨rfl, rfl, rfl, by decide +kernel, rfl, by decide +kernel, by decide +kernel⟩
def loopLw : List Stmt := match (defBody s_law).getD 6 (.Pass ⟨0, 0, 0, 0⟩) with
  | .For _ _ b _ _ => b
  | _ => []
abbrev XLw (P : Program) (w : World) (K : PySem.W.Frag) (mg : Str → Option Value) (base : Heap) (f : Addr) (cdv : Value) (A : Around) (outer : List Env) (s : Shared) (H : Hp) (E : XK) : Cx :=
  (cxOf CX0 P w K mg base nLw "law" (defScope s_law) f cdv A outer s H E).nox
/-- _law_same, of two tellings -/
theorem same_go {H1 H2 : Hp} {d u : Addr} {M : Ties} {H0 H0' : Hp} (told : TiesF C H1 H2 d M) (due : TiesF C H0 H0' u M) (s : Same H0' H1) (s2 : Same H1 H2) (nd : H1 d = none) :
    ∃ es fs : List (Addr × (Nat × Nat) × List ((Nat × Nat) × Rat)), H2 d = some (.dT (kvE es)) ∧ H2 u = some (.dT (kvE fs)) ∧ d ≠ u ∧ es.map (·.2) = M ∧ fs.map (·.2) = M ∧ (∀ e ∈ es, e.1 ≠ d ∧ PlanAt C H2 e.1 e.2.2) ∧ (∀ e ∈ fs, e.1 ≠ d ∧ e.1 ≠ u ∧ PlanAt C H2 e.1 e.2.2) ∧ (∀ e ∈ es, ∀ f ∈ fs, e.1 ≠ f.1) ∧ (∀ e ∈ es, H1 e.1 = none) := by
  obtain ⟨es, e1, e2, e3⟩ := told
  obtain ⟨fs, f1, f2, f3⟩ := due
  have some1 : ∀ {a : Addr} {o : HO}, H0' a = some o → H1 a ≠ none := fun h z => by rw [s _ _ h] at z; cases z
  refine ⟨es, fs, e1, s2 _ _ (s _ _ f1), fun z => some1 f1 (by rw [← z]; exact nd), e2, f2, fun e m => ⟨(e3 e m).1, (e3 e m).2.2⟩, fun f m => ?_, fun e m f mf => ?_, fun e m => (e3 e m).2.1⟩
  · obtain ⟨q1, q2, q3⟩ := f3 f m
    obtain ⟨xs, x1, _⟩ := id q3
    exact ⟨fun z => some1 x1 (by rw [z]; exact nd), q1, (q3.same s).same s2⟩
  · obtain ⟨q1, q2, q3⟩ := f3 f mf
    obtain ⟨xs, x1, _⟩ := id q3
    exact fun z => some1 x1 (by rw [← z]; exact (e3 e m).2.1)
theorem segLw0 {fa : Addr} {cdv : Value} {A : Around} {outer : List Env} {s : Shared} {H : Hp} {E : XK} (L : LawT P w K mg base C CC B) (hr : Room 13 (XLw P w K mg base fa cdv A outer s H E).A) :
    ∃ u, PSs (XLw P w K mg base fa cdv A outer s H E) loopLw u ∧ ∀ (D5 : Ends) (v0 v1 v4 v8 v9 v10 v11 v12 : Option V) (gb b : Bool) (t o : Addr) (n : Nat) (rs : List (Addr × List Nat)) (ls : List Str) (G : Hp), n ≤ 8 → G t = some (.tup (rfs rs)) → rs.length = n → (∀ r ∈ rs, RowSh C G n r) → IsCh C CC G o n (rs.map (·.2)) ls →
      (∀ (v8 v9 v10 v11 : Option V) (H' : Hp), Same G H' → D5.nx [v0, v1, some (.bl gb), some (.ref t), v4, some (.int (n : Int)), some (.ref o), some (.bl b), v8, v9, v10, v11, v12] H') →
      u D5 [v0, v1, some (.bl gb), some (.ref t), v4, some (.int (n : Int)), some (.ref o), some (.bl b), v8, v9, v10, v11, v12] G := by
  have hu := hu_of hr
  refine ⟨_, (pss_cons (ps_set (i := 8) sc_law.nd rfl (Or.inl rfl) (pe_cal L.due (hr.mono (by decide)) rfl (pa_cons (pv 3) (pa_cons (pv 7) pa_nil))))
      (pss_cons (ps_set (i := 9) sc_law.nd rfl (Or.inl rfl) (pe_cal L.ask (hr.mono (by decide)) rfl (pa_cons (pv 6) (pa_cons (pv 7) pa_nil))))
      (pss_cons (ps_if (pt_not (pt_val (pe_cal L.same (hr.mono (by decide)) rfl (pa_cons (pv 5) (pa_cons (pv 9) (pa_cons (pv 8) pa_nil))))))
        (pss_one (ps_ret pe_bl))
        pss_nil)
      (pss_cons (ps_for PassesOwn.never rfl (pi_list (pe_callTy (call_list_dT rfl) (by rfl) L.T.n_list (by decide +kernel) (pa_cons (pv 9) pa_nil))) (pg_name (i := 10) sc_law.nd rfl (Or.inl rfl))
        (pss_cons (ps_set (i := 11) sc_law.nd rfl (Or.inl rfl) (pe_dget (by exact hu) (pv 9) (pv 10) (by intro _ _; rfl)))
          (pss_one (ps_asg (pe_share1 L.m (hr.mono (by decide)) rfl (pa_cons pe_int pa_nil)) (pg_sub (pv 11) (pe_tup (pa_cons pe_int (pa_cons pe_int pa_nil))) (set_dict (by exact hu)))))))
      (pss_cons (ps_asg pe_dnewK (pg_sub (pv 9) (pe_tup (pa_cons pe_int (pa_cons pe_int pa_nil))) (set_dict (by exact hu))))
      (pss_one (ps_if (PW.pt (pw_and (pt_not (pt_val (pv 2))) (pw_and1 (pt_not (pt_val (pe_cal L.same (hr.mono (by decide)) rfl (pa_cons (pv 5) (pa_cons (pe_cal L.ask (hr.mono (by decide)) rfl (pa_cons (pv 6) (pa_cons (pv 7) pa_nil))) (pa_cons (pv 8) pa_nil)))))))))
        (pss_one (ps_ret pe_bl))
        pss_nil))))))), ?_⟩
  intro D5 v0 v1 v4 v8 v9 v10 v11 v12 gb b t o n rs ls G n8 et lr rw_ ch k
  refine ⟨_, rfl, _, rfl, t, n, rs, b, rfl, n8, et, lr, rw_, fun u H1 s1 nu due => ?_⟩
  refine ⟨_, rfl, _, rfl, o, n, _, ls, b, rfl, n8, ch.same s1, fun d H2 s2 nd told => ?_⟩
  obtain ⟨ko, km⟩ := tieM_keys b n8 (rs.map (·.2))
  obtain ⟨M, hM⟩ : ∃ M : Ties, tieM b n (rs.map (·.2)) = M := ⟨_, rfl⟩
  rw [hM] at due told ko km
  obtain ⟨es, fs, c1, c2, c3, c4, c5, c6, c7, c8, c9⟩ := same_go told due (Same.refl _) s2 nd
  refine ⟨_, rfl, _, rfl, _, rfl, n, d, u, M, es, fs, rfl, c1, c2, c3, c4, c5, c6, c7, c8, ko, km, fun H3 s3 => ⟨_, rfl, iteF ?_⟩⟩
  have kE : (es.map fun e => e.2.1) = M.map (·.1) := map_keys c4
  have ndE : (es.map fun e => e.2.1).Nodup := by rw [kE]; exact ko.nd
  have s13 := s2.trans s3
  refine ⟨_, rfl, d, kvE es, rfl, .inl (s3 _ _ c1), fun l bs nl ik => ?_⟩
  obtain ⟨ts, t1, t2, t3⟩ := keys_pts ik
  have s4 := Same.put (o := .lst (bs.map V.ref)) nl
  have el : (upd H3 l (.lst (bs.map V.ref))) l = some (.lst (rfs ts)) := by rw [upd_same, t1]
  have t4 := t3.same s4
  have s14 := s13.trans s4
  have ed4 := s4 _ _ (s3 _ _ c1)
  have pl4 : ∀ e ∈ es, PlanAt C (upd H3 l (.lst (bs.map V.ref))) e.1 e.2.2 := fun e m => ((c6 e m).2.same s3).same s4
  generalize (upd H3 l (.lst (bs.map V.ref))) = H4 at el t4 s14 ed4 pl4 ⊢
  have tl : ts.length ≤ 64 := by
    have := congrArg List.length (t2.trans kE)
    rw [List.length_map] at this
    rw [this]
    exact ko.l
  refine ⟨l, rfl, ⟨_, SqL.of el⟩, ?_⟩
  refine for_it (walk_list (K := K) (a := l) (xs := rfs ts)) (fun i σ H' => ∃ v10 v11, σ = [v0, v1, some (.bl gb), some (.ref t), v4, some (.int (n : Int)), some (.ref o), some (.bl b), some (.ref u), some (.ref d), v10, v11, v12] ∧ (∀ c x, (∀ e ∈ es, c ≠ e.1) → H4 c = some x → H' c = some x) ∧ ∀ e ∈ es, ∃ kvs, H' e.1 = some (.dT kvs) ∧ kvs.length ≤ 64 + i) ⟨v10, v11, rfl, fun _ _ _ h => h, fun e m => ?_⟩ (fun i σ H' _ h => ?_) ?_ ?_
  · obtain ⟨xs, x1, x2, _⟩ := pl4 e m
    refine ⟨_, x1, ?_⟩
    have kl := (km e.2 (by rw [← c4]; exact List.mem_map.mpr ⟨e, m, rfl⟩)).l
    have := congrArg List.length x2
    rw [List.length_map] at this kl
    rw [kvE_len]
    omega
  · obtain ⟨_, _, _, h1, _⟩ := h
    refine SqL.of (h1 _ _ (fun e m z => ?_) el)
    obtain ⟨xs, x1, _⟩ := pl4 e m
    rw [← z, el] at x1
    cases x1
  · rintro i x σ H'' H' hi ⟨v10, v11, rfl, h1, h2⟩ ⟨rfl, hx⟩
    obtain ⟨r, hr2, mr, rfl⟩ := rfs_at hx
    obtain ⟨e, me, he⟩ : ∃ e ∈ es, e.2.1 = r.2 := by
      have : r.2 ∈ es.map fun e => e.2.1 := by rw [← t2]; exact List.mem_map.mpr ⟨r, mr, rfl⟩
      exact List.mem_map.mp this
    have edp := h1 d _ (fun e m => Ne.symm (c6 e m).1) ed4
    have er4 := t4 r mr
    have erp := h1 r.1 _ (fun e m z => by obtain ⟨xs, x1, _⟩ := pl4 e m; rw [← z, er4] at x1; cases x1) er4
    refine ⟨_, rfl, _, rfl, d, .ref e.1, rfl, .inr ⟨kvE es, kp r.2, r.1, .inl edp, rfl, erp, by have := val_at ndE me; rw [he] at this; exact this.symm⟩, ?_⟩
    refine fun z dz hz hd ne => siQ hz hd ne fun H6 s6 i6 => ⟨rfl, ?_⟩
    refine ⟨_, rfl, by show 2 ≤ sizeLine; decide, fun c nc => ?_⟩
    have s67 := s6.trans (Same.put (o := .tup [.int 0, .int 0]) nc)
    have ec : (upd H6 c (.tup [.int 0, .int 0])) c = some (.tup [.int 0, .int 0]) := upd_same
    generalize (upd H6 c (.tup [.int 0, .int 0])) = H7 at s67 ec ⊢
    obtain ⟨kvs, ek, lk⟩ := h2 e me
    have ek7 := s67 _ _ ek
    have i64 : i < 64 := by rw [rfs_len] at hi; omega
    refine ⟨e.1, _, rfl, DPut.t (k := [.inl 0, .inl 0]) ek7 ec (small_len (by omega)), _, _, rfl, fun b2 x hb e4 => ?_, fun e2 m2 => ?_⟩
    · rw [upd_ne (hb e me)]
      exact s67 _ _ (h1 _ _ hb e4)
    · by_cases q : e2.1 = e.1
      · rw [q, upd_same]
        refine ⟨_, rfl, ?_⟩
        have := length_putK kvs [.inl 0, .inl 0] (.ref z)
        omega
      · rw [upd_ne q]
        obtain ⟨kvs2, ek2, lk2⟩ := h2 e2 m2
        exact ⟨kvs2, s67 _ _ ek2, by omega⟩
  · rintro σ H5 ⟨v10, v11, rfl, h1, h2⟩
    refine fun p np => ?_
    have edp := h1 d _ (fun e m => Ne.symm (c6 e m).1) ed4
    refine ⟨_, rfl, by show 2 ≤ sizeLine; decide, fun c nc => ?_⟩
    have s56 := Same.put (o := .dK []) np
    have s57 := s56.trans (Same.put (o := .tup [.int 0, .int 0]) nc)
    have ec : (upd (upd H5 p (.dK [])) c (.tup [.int 0, .int 0])) c = some (.tup [.int 0, .int 0]) := upd_same
    generalize (upd (upd H5 p (.dK [])) c (.tup [.int 0, .int 0])) = H7 at s57 ec ⊢
    have le : es.length ≤ 64 := by
      have := congrArg List.length kE
      rw [List.length_map] at this
      rw [this]
      exact ko.l
    refine ⟨d, _, rfl, DPut.t (k := [.inl 0, .inl 0]) (s57 _ _ edp) ec (by rw [kvE_len]; exact small_len (by omega)), ?_⟩
    have s18 : Same H1 (upd H7 d (.dT (putK (kvE es) [.inl 0, .inl 0] (.ref p)))) := fun b2 x e1 => by
      rw [upd_ne (fun z => by rw [z, nd] at e1; cases e1)]
      exact s57 _ _ (h1 _ _ (fun e m z => by have := c9 e m; rw [← z, e1] at this; cases this) (s14 _ _ e1))
    generalize (upd H7 d (.dT (putK (kvE es) [.inl 0, .inl 0] (.ref p)))) = H8 at s18 ⊢
    refine ⟨_, rfl, gb, rfl, ?_⟩
    cases gb with
    | true => exact iteF (iteF (k _ _ _ _ H8 (s1.trans s18)))
    | false =>
      refine iteT ?_
      refine ⟨_, rfl, _, rfl, ⟨_, rfl, o, n, _, ls, b, rfl, n8, (ch.same s1).same s18, fun d2 H9 s9 nd2 told2 => ?_⟩⟩
      rw [hM] at told2
      obtain ⟨es2, fs2, g1, g2, g3, g4, g5, g6, g7, g8, g9⟩ := same_go told2 due s18 s9 nd2
      refine ⟨_, rfl, n, d2, u, M, es2, fs2, rfl, g1, g2, g3, g4, g5, g6, g7, g8, ko, km, fun H10 s10 => ⟨_, rfl, iteF (k _ _ _ _ H10 ((s1.trans s18).trans (s9.trans s10)))⟩⟩
end
end K8

set_option Elab.async false
set_option linter.all false
set_option maxRecDepth 100000
set_option maxHeartbeats 4000000
namespace K8
open PySem L2
section
variable {P : Program} {w : World} {K : PySem.W.Frag} {mg : Str → Option Value} {base : Heap} {C CC B : Addr}
/-- behind the worlds -/
theorem segLw4 {fa : Addr} {cdv : Value} {A : Around} {outer : List Env} {s : Shared} {H : Hp} {E : XK} {Q : VK} (L : LawT P w K mg base C CC B) (hr : Room 14 (XLw P w K mg base fa cdv A outer s H E).A) (k : ∀ H', Q (.bl true) H') :
    ∃ u, PSs (XLw P w K mg base fa cdv A outer s H E) ((defBody s_law).drop 4) u ∧ ∀ (v0 v1 v5 : Option V) (gb : Bool) (t lb : Addr) (n : Nat) (rs : List (Addr × List Nat)) (ls : List Str) (G : Hp), 1 ≤ n → n ≤ 8 → G t = some (.tup (rfs rs)) → rs.length = n → (∀ r ∈ rs, RowSh C G n r) → G lb = some (.tup (sV ls)) → Lbs n ls →
      u { nx := fun _ H' => Q .non H', rt := Q } [v0, v1, some (.bl gb), some (.ref t), some (.ref lb), v5, none, none, none, none, none, none, none] G := by
  obtain ⟨u, hu, qu⟩ := segLw0 (fa := fa) (cdv := cdv) (A := A) (outer := outer) (s := s) (H := H) (E := E) L (hr.mono (by decide))
  obtain ⟨g, gd, O, G2, bG⟩ := L.ce.ex
  refine ⟨_, (pss_cons (ps_set (i := 6) sc_law.nd rfl (Or.inl rfl) (pe_chn L.mc (hr.mono (by decide)) rfl (pa_cons (pv 3) (pa_cons (pv 4) pa_nil))))
    (pss_cons (ps_set (i := 5) sc_law.nd rfl (Or.inr rfl) (pe_callB call_len_seq (by rfl) L.T.b.n_len PySem.boot_len (pa_cons (pv 3) pa_nil)))
    (pss_cons (ps_for PassesOwn.never rfl (pi_tup (pe_tup (pa_cons pe_bl (pa_cons pe_bl pa_nil)))) (pg_name (i := 7) sc_law.nd rfl (Or.inl rfl)) hu)
    (pss_one (ps_ret (pe_cmpR (show OpR _ _ (rOwnB K CC (EqM CC) .Eq) from op_ownB is_eq G2 O bG pass0 (hr.mono (by decide))) (pv 6) (pe_chn L.mc (hr.mono (by decide)) rfl (pa_cons (pv 3) (pa_cons (pv 4) pa_nil))) (nomark _))))))), ?_⟩
  intro v0 v1 v5 gb t lb n rs ls G n1 n8 et lr rw_ el hl
  refine ⟨_, rfl, _, rfl, fun o dx hx hd ne => ?_⟩
  refine chn_goX hx hd ne n1 n8 et lr rw_ el hl fun H1 s1 ch md => ⟨rfl, ?_⟩
  refine ⟨_, rfl, t, _, rfl, .inr (SqT.of (s1 _ _ et)), ?_⟩
  rw [rfs_len, lr]
  refine ⟨by show 2 ≤ sizeLine; decide, fun c nc => ?_⟩
  have s2 := Same.put (o := .tup [.bl false, .bl true]) nc
  have ec : (upd H1 c (.tup [.bl false, .bl true])) c = some (.tup [.bl false, .bl true]) := upd_same
  have ch2 := ch.same s2
  have md2 := md.same s2
  have s02 := s1.trans s2
  generalize (upd H1 c (.tup [.bl false, .bl true])) = H2 at s02 ec ch2 md2 ⊢
  refine ⟨c, rfl, ⟨_, SqT.of ec⟩, ?_⟩
  refine for_it (walk_tup (K := K) (a := c) (xs := [.bl false, .bl true])) (fun i σ H' => ∃ v7 v8 v9 v10 v11, σ = [v0, v1, some (.bl gb), some (.ref t), some (.ref lb), some (.int (n : Int)), some (.ref o), v7, v8, v9, v10, v11, none] ∧ Same H2 H') ⟨none, none, none, none, none, rfl, Same.refl _⟩ (fun i σ H' _ ⟨_, _, _, _, _, _, h⟩ => SqT.of (h _ _ ec)) ?_ ?_
  · rintro i x σ H'' H' hi ⟨v7, v8, v9, v10, v11, rfl, h1⟩ ⟨rfl, hx⟩
    obtain ⟨b, rfl⟩ : ∃ b : Bool, x = .bl b := by
      rcases i with _ | _ | i
      · exact ⟨false, (Option.some.inj hx).symm⟩
      · exact ⟨true, (Option.some.inj hx).symm⟩
      · exact absurd hx (by simp)
    have s03 := s02.trans h1
    exact qu _ v0 v1 (some (.ref lb)) v8 v9 v10 v11 none gb b t o n rs ls H' n8 (s03 _ _ et) lr (fun r m => (rw_ r m).same s03) (ch2.same h1) (fun w8 w9 w10 w11 H4 s4 => ⟨_, _, _, _, _, rfl, h1.trans s4⟩)
  · rintro σ H3 ⟨v7, v8, v9, v10, v11, rfl, h1⟩
    have s03 := s02.trans h1
    refine ⟨_, rfl, _, rfl, _, rfl, fun o2 dx2 hx2 hd2 ne2 => ?_⟩
    refine chn_goX hx2 hd2 ne2 n1 n8 (s03 _ _ et) lr (fun r m => (rw_ r m).same s03) (s03 _ _ el) hl fun H4 s4 ch4 md4 => ⟨rfl, ?_⟩
    have md5 := (md2.same h1).same s4
    obtain ⟨dx3, T3, n3, r3, r4, m1, _⟩ := id md5
    obtain ⟨dx4, T4, n4, r5, r6, m2, _⟩ := id md4
    exact ⟨true, .inl ⟨o, dx3, _, rfl, m1, ⟨rfl, o2, t, lb, rfl, md5, md4⟩, .inr ⟨o2, dx4, _, rfl, m2⟩⟩, k H4⟩
theorem ok_law {f : Addr} {fd : FuncData} (F : Fun K "law" "law" s_law f fd) (L : LawT P w K mg base C CC B) : FnOk P w K mg base CX0 15 f fd ["_law_script"] (spLaw K) := by
  refine F.ok sc_law (fun vs H Q E h => ?_) (fun cdv A outer s H vs Q E hr h => ?_)
  · obtain ⟨a, ns, rfl, _⟩ := h
    rfl
  · obtain ⟨a, ns, rfl, ha, hl, k⟩ := h
    obtain ⟨u, hu, qu⟩ := segLw4 (fa := f) (cdv := cdv) (A := A) (outer := outer) (s := s) (H := H) (E := E) L (hr.mono (by decide)) k
    refine ⟨_, (pss_cons (ps_set (i := 1) sc_law.nd rfl (Or.inr rfl) (pe_cal L.pool (hr.mono (by decide)) rfl (pa_cons (pv 0) pa_nil)))
      (pss_cons (ps_set (i := 2) sc_law.nd rfl (Or.inl rfl) (pe_cmpR op_eq (pe_cal L.draw (hr.mono (by decide)) rfl (pa_cons (pv 1) (pa_cons pe_int pa_nil))) pe_int (nomark _)))
      (pss_cons (ps_asg (pe_cal L.world (hr.mono (by decide)) rfl (pa_cons (pv 1) (pa_cons pe_int pa_nil))) (pg_unl (by rfl) (pgs_cons (pg_name (i := 3) sc_law.nd rfl (Or.inl rfl)) (pgs_cons (pg_name (i := 4) sc_law.nd rfl (Or.inl rfl)) pgs_nil))))
      (pss_cons (ps_if (pt_val (pv 2))
        (pss_cons (ps_set (i := 5) sc_law.nd rfl (Or.inr rfl) (pe_ix ix_tup (pe_tup (pa_cons pe_int (pa_cons pe_int (pa_cons pe_int (pa_cons pe_int (pa_cons pe_int (pa_cons pe_int (pa_cons pe_int (pa_cons pe_int pa_nil))))))))) (pe_cal L.draw (hr.mono (by decide)) rfl (pa_cons (pv 1) (pa_cons pe_int pa_nil))) (fun _ _ => rfl)))
        (pss_cons (ps_set (i := 3) sc_law.nd rfl (Or.inl rfl) (pe_callTy call_tuple_of (by rfl) L.T.n_tuple (by decide +kernel) (pa_cons (pe_lc (own := [("_law_k", 12)]) rfl sc_law.nd (pi_range1 (by rfl) L.T.n_range (pa_cons (pv 5) pa_nil)) (blkOk_by (N := nLw) (sc := defScope s_law) (by decide +kernel)) (fun _ _ _ _ _ => (pg_name (i := 12) sc_law.nd rfl (Or.inl rfl))) (fun _ _ _ _ _ => pts_nil) (fun _ _ _ _ _ => (pe_cal L.spread (hr.mono (by decide)) rfl (pa_cons (pe_cal L.tops (hr.mono (by decide)) rfl (pa_cons (pv 1) (pa_cons (pv 5) pa_nil))) pa_nil)))) pa_nil)))
        (pss_one (ps_set (i := 4) sc_law.nd rfl (Or.inl rfl) (pe_cal L.labels (hr.mono (by decide)) rfl (pa_cons (pv 1) (pa_cons (pv 5) pa_nil)))))))
        pss_nil)
      hu)))), ?_⟩
    refine ⟨_, rfl, a, ns, rfl, ha, hl, fun p H1 s1 np hp => ?_⟩
    refine ⟨_, rfl, p, 30, rfl, hp, by decide, by decide, fun y o y0 y1 ho => ?_⟩
    obtain ⟨p2, k2⟩ := drawn hp (Keep.refl p H1) ho
    generalize (upd H1 p o) = H2 at p2 k2 ⊢
    refine ⟨rfl, ?_⟩
    refine ⟨_, rfl, p, rfl, p2, fun l t lb n rs ls H3 k3 hp3 el n1 n8 et lr rw_ elb hlb => ?_⟩
    refine ⟨l, _, rfl, SqL.of el, rfl, _, _, rfl, _, _, rfl, rfl, _, rfl, _, rfl, ite2 (fun _ => ?_) (fun _ => ?_)⟩
    · refine ⟨by show 8 ≤ sizeLine; decide, fun c nc => ?_⟩
      have s4 := Same.put (o := .tup (cV [6, 6, 6, 6, 6, 6, 7, 8])) nc
      have e4 : (upd H3 c (.tup (cV [6, 6, 6, 6, 6, 6, 7, 8]))) c = some (.tup (cV [6, 6, 6, 6, 6, 6, 7, 8])) := upd_same
      have p4 := hp3.same s4
      show tCall spDraw [] E0 _ _ (upd H3 c (.tup (cV [6, 6, 6, 6, 6, 6, 7, 8]))) _
      generalize (upd H3 c (.tup (cV [6, 6, 6, 6, 6, 6, 7, 8]))) = H4 at s4 e4 p4 ⊢
      refine ⟨_, rfl, p, 8, rfl, p4, by decide, by decide, fun r o r0 r1 ho => ?_⟩
      obtain ⟨p5, k5⟩ := drawn p4 (Keep.refl p H4) ho
      have e5 := k5 _ _ e4 (p4.ne e4)
      generalize (upd H4 p o) = H5 at p5 k5 e5 ⊢
      obtain ⟨j, rfl⟩ := nat_of r0
      have hj : j < [6, 6, 6, 6, 6, 6, 7, 8].length := by show j < 8; omega
      have gj : ([6, 6, 6, 6, 6, 6, 7, 8] : List Nat)[j]? = some [6, 6, 6, 6, 6, 6, 7, 8][j] := List.getElem?_eq_getElem hj
      have gx : 1 ≤ [6, 6, 6, 6, 6, 6, 7, 8][j] ∧ [6, 6, 6, 6, 6, 6, 7, 8][j] ≤ 8 := (by decide : ∀ x ∈ ([6, 6, 6, 6, 6, 6, 7, 8] : List Nat), 1 ≤ x ∧ x ≤ 8) _ (List.mem_of_getElem? gj)
      generalize [6, 6, 6, 6, 6, 6, 7, 8][j] = m at gj gx
      refine ⟨c, _, _, _, rfl, rfl, SqT.of e5, atI_nat (cV_at gj), ?_⟩
      refine ⟨_, rfl, _, rfl, by omega, by omega, fun D nD => ?_⟩
      rw [Int.toNat_natCast]
      refine lc_range (fun i H' => Keep p H5 H' ∧ PoolAt H' p ∧ ∃ r2 : List (Addr × List Nat), H' D = some (.lst (rfs r2)) ∧ r2.length = i ∧ (∀ r ∈ r2, RowSh C H' m r)) ⟨Keep.of (Same.put nD), p5.same (Same.put nD), [], upd_same, rfl, fun _ m => (by cases m)⟩ ?_ ?_
      · rintro i H' hi ⟨kp, hpp, r2, eD, l2, h2⟩
        refine ⟨rfl, yes_of ?_⟩
        refine ⟨_, rfl, _, rfl, p, m, rfl, hpp, gx.1, gx.2, fun t2 ws H6 k6 p6 et2 tp2 => ?_⟩
        refine ⟨t2, m, ws, rfl, gx.2, ⟨et2, tp2⟩, fun t3 H7 s7 sh => ?_⟩
        have eD7 := s7 _ _ (k6 _ _ eD (hpp.neR eD))
        have p7 := p6.same s7
        have up : ∀ (q : Addr × List Nat), RowSh C H7 m q → RowSh C (upd H7 D (.lst (rfs r2 ++ [V.ref t3]))) m q := by
          rintro q ⟨as, h1, h2', h3, h4⟩
          exact ⟨as, by rw [upd_ne (fun z => by rw [z, eD7] at h1; cases h1)]; exact h1, h2', h3, fun j c hc => let ⟨dy, v, q1, q2⟩ := h4 j c hc; ⟨dy, v, q1, by rw [upd_ne (fun z => by rw [z, eD7] at q2; cases q2)]; exact q2⟩⟩
        have kpn : Keep p H5 (upd H7 D (.lst (rfs r2 ++ [V.ref t3]))) := Keep.but (kp.trans (k6.trans (Keep.of s7))) nD
        refine ⟨_, eD7, by rw [rfs_len]; exact small_len (by omega), kpn, p7.other (Ne.symm (p7.neR eD7)), r2 ++ [(t3, ws)], by rw [upd_same, rfs_snoc], by rw [List.length_append, l2]; rfl, fun q mq => ?_⟩
        rcases List.mem_append.mp mq with mq | mq
        · exact up q (((h2 q mq).keep k6 hpp).same s7)
        · rw [List.mem_singleton.mp mq]; exact up _ sh
      · rintro H6 ⟨kp, hpp, r2, eD, l2, h2⟩
        refine ⟨D, _, rfl, .inl ⟨SqL.of eD, fun t2 nt => ?_⟩⟩
        have s7 := Same.put (o := .tup (rfs r2)) nt
        have et2 : (upd H6 t2 (.tup (rfs r2))) t2 = some (.tup (rfs r2)) := upd_same
        have p7 := hpp.same s7
        have h7 : ∀ r ∈ r2, RowSh C (upd H6 t2 (.tup (rfs r2))) m r := fun r mr => (h2 r mr).same s7
        generalize (upd H6 t2 (.tup (rfs r2))) = H7 at s7 et2 p7 h7 ⊢
        refine ⟨_, rfl, _, rfl, p, m, rfl, p7, gx.1, gx.2, fun lb2 ls2 H8 k8 p8 eb2 hl2 => ?_⟩
        exact qu _ _ _ _ t2 lb2 m r2 ls2 H8 gx.1 gx.2 (k8 _ _ et2 (p7.ne et2)) l2 (fun r mr => (h7 r mr).keep k8 p7) eb2 hl2
    · exact qu _ _ _ _ t lb n rs ls H3 n1 n8 et lr rw_ elb hlb
end
end K8

set_option Elab.async false
set_option linter.all false
set_option maxRecDepth 100000
set_option maxHeartbeats 8000000
namespace K8
open PySem L2
theorem kit_sub {K : PySem.W.Frag} {C : Addr} {T : String} {b : Bool} (h : PySem.W.subIn K (.ref C) (.type T) = some b) (m : PySem.W.kitMeta T = true) : PySem.W.kitOne K (.ref C) (.type T) = some b := by
  show (if (Value.ref C == Value.type T) = true then some true else if PySem.W.kitMeta T = true then PySem.W.subIn K (.ref C) (.type T) else none) = some b
  rw [if_neg (show ¬ ((Value.ref C == Value.type T) = true) from fun z => by cases beq_iff_eq.mp z), if_pos m]
  exact h
theorem kit_self (K : PySem.W.Frag) (C : Addr) : PySem.W.kitOne K (.ref C) (.ref C) = some true := by
  show (if (Value.ref C == Value.ref C) = true then some true else _) = some true
  rw [if_pos (beq_iff_eq.mpr rfl)]
theorem is_cls {K : PySem.W.Frag} {C : Addr} (hd : PySem.W.hasDictIn K C = true) (t : PySem.W.typeIn K (.ref C) = some (.type "type")) : ((PySem.W.clsIn K C).isSome && PySem.W.typeIn K (.ref C) == some (.type "type")) = true := by
  obtain ⟨cd, hc, _⟩ := PySem.W.any_some hd
  rw [hc, t] <;> rfl
theorem kit_cref {K : PySem.W.Frag} {C : Addr} {t : Value} {b : Bool} (hd : PySem.W.hasDictIn K C = true) (tC : PySem.W.typeIn K (.ref C) = some (.type "type")) (h : PySem.W.subIn K t (.ref C) = some b) : PySem.W.kitCls K t (.ref C) = some b := by
  show (if ((PySem.W.clsIn K C).isSome && PySem.W.typeIn K (.ref C) == some (.type "type")) = true then PySem.W.subIn K t (.ref C) else none) = some b
  rw [if_pos (is_cls hd tC)]
  exact h
theorem no_ref {C : Addr} : ∀ {l : List Value}, l.all (fun v => match v with | .type _ => true | _ => false) = true → l.contains (.ref C) = false
  | [], _ => rfl
  | a :: r, h => by
    rw [List.all_cons, Bool.and_eq_true] at h
    rw [List.contains_cons, no_ref h.2, Bool.or_false]
    cases a <;> first | rfl | (simp at h)
theorem kit_from {K : PySem.W.Frag} {C : Addr} {T : String} {l : List Value} (hd : PySem.W.hasDictIn K C = true) (tC : PySem.W.typeIn K (.ref C) = some (.type "type")) (e : fastBuiltinMro T = some l) (hl : l.all (fun v => match v with | .type _ => true | _ => false) = true) :
    PySem.W.kitOne K (.type T) (.ref C) = some false := by
  show (if (Value.type T == Value.ref C) = true then some true else PySem.W.kitCls K (.type T) (.ref C)) = some false
  rw [if_neg (show ¬ ((Value.type T == Value.ref C) = true) from fun z => by cases beq_iff_eq.mp z)]
  refine kit_cref hd tC ?_
  show (fastBuiltinMro T).map (·.contains (.ref C)) = some false
  rw [e]
  exact congrArg some (no_ref hl)
section
variable {K : PySem.W.Frag} {mg : Str → Option Value} {h : Heap}
theorem all_mk {l : PySem.W.OpenLaw} {w : World} {fa C CC W BN BS T_SI T_WE f_rmul f_rsub f_WE f_BS f_NS f_iw f_ib f_ii f_ck f_nm f_tu f_tb f_nr f_SI f_add f_radd f_neg f_sub f_mul f_over f_eq f_less f_ish f_sof f_shs f_tot f_f0 f_spr f_CI f_crow f_ceq f_ip f_up f_wz f_fr f_cl f_frs f_cls f_pool f_draw f_pick f_name f_lab f_tops f_mov f_ali f_trn f_par f_sta f_rows f_size f_lsp f_wor f_lle f_lto f_lpr f_lul f_lfr f_lcl f_due f_ask f_lix f_lip f_ris f_tld f_same f_law : Addr} (X : K.In h) (G : h.Ns mainGlobals mg) (hfa : mg "law" = some (.ref fa))
    {oc_WE kV_WE dc_WE pm_WE cd_WE ct_WE oc_BS kV_BS dc_BS pm_BS cd_BS ct_BS oc_NS kV_NS dc_NS pm_NS cd_NS ct_NS oc_iw kV_iw dc_iw pm_iw cd_iw ct_iw oc_ib kV_ib dc_ib pm_ib cd_ib ct_ib oc_ii kV_ii dc_ii pm_ii cd_ii ct_ii oc_ck kV_ck dc_ck pm_ck cd_ck ct_ck oc_nm kV_nm dc_nm pm_nm cd_nm ct_nm oc_tu kV_tu dc_tu pm_tu cd_tu ct_tu oc_tb kV_tb dc_tb pm_tb cd_tb ct_tb oc_nr kV_nr dc_nr pm_nr cd_nr ct_nr oc_SI kV_SI dc_SI pm_SI cd_SI ct_SI oc_add kV_add dc_add pm_add cd_add ct_add oc_radd kV_radd dc_radd pm_radd cd_radd ct_radd oc_neg kV_neg dc_neg pm_neg cd_neg ct_neg oc_sub kV_sub dc_sub pm_sub cd_sub ct_sub oc_mul kV_mul dc_mul pm_mul cd_mul ct_mul oc_over kV_over dc_over pm_over cd_over ct_over oc_eq kV_eq dc_eq pm_eq cd_eq ct_eq oc_less kV_less dc_less pm_less cd_less ct_less oc_ish kV_ish dc_ish pm_ish cd_ish ct_ish oc_sof kV_sof dc_sof pm_sof cd_sof ct_sof oc_shs kV_shs dc_shs pm_shs cd_shs ct_shs oc_tot kV_tot dc_tot pm_tot cd_tot ct_tot oc_f0 kV_f0 dc_f0 pm_f0 cd_f0 ct_f0 oc_spr kV_spr dc_spr pm_spr cd_spr ct_spr oc_CI kV_CI dc_CI pm_CI cd_CI ct_CI oc_crow kV_crow dc_crow pm_crow cd_crow ct_crow oc_ceq kV_ceq dc_ceq pm_ceq cd_ceq ct_ceq oc_ip kV_ip dc_ip pm_ip cd_ip ct_ip oc_up kV_up dc_up pm_up cd_up ct_up oc_wz kV_wz dc_wz pm_wz cd_wz ct_wz oc_fr kV_fr dc_fr pm_fr cd_fr ct_fr oc_cl kV_cl dc_cl pm_cl cd_cl ct_cl oc_frs kV_frs dc_frs pm_frs cd_frs ct_frs oc_cls kV_cls dc_cls pm_cls cd_cls ct_cls oc_pool kV_pool dc_pool pm_pool cd_pool ct_pool oc_draw kV_draw dc_draw pm_draw cd_draw ct_draw oc_pick kV_pick dc_pick pm_pick cd_pick ct_pick oc_name kV_name dc_name pm_name cd_name ct_name oc_lab kV_lab dc_lab pm_lab cd_lab ct_lab oc_tops kV_tops dc_tops pm_tops cd_tops ct_tops oc_mov kV_mov dc_mov pm_mov cd_mov ct_mov oc_ali kV_ali dc_ali pm_ali cd_ali ct_ali oc_trn kV_trn dc_trn pm_trn cd_trn ct_trn oc_par kV_par dc_par pm_par cd_par ct_par oc_sta kV_sta dc_sta pm_sta cd_sta ct_sta oc_rows kV_rows dc_rows pm_rows cd_rows ct_rows oc_size kV_size dc_size pm_size cd_size ct_size oc_lsp kV_lsp dc_lsp pm_lsp cd_lsp ct_lsp oc_wor kV_wor dc_wor pm_wor cd_wor ct_wor oc_lle kV_lle dc_lle pm_lle cd_lle ct_lle oc_lto kV_lto dc_lto pm_lto cd_lto ct_lto oc_lpr kV_lpr dc_lpr pm_lpr cd_lpr ct_lpr oc_lul kV_lul dc_lul pm_lul cd_lul ct_lul oc_lfr kV_lfr dc_lfr pm_lfr cd_lfr ct_lfr oc_lcl kV_lcl dc_lcl pm_lcl cd_lcl ct_lcl oc_due kV_due dc_due pm_due cd_due ct_due oc_ask kV_ask dc_ask pm_ask cd_ask ct_ask oc_lix kV_lix dc_lix pm_lix cd_lix ct_lix oc_lip kV_lip dc_lip pm_lip cd_lip ct_lip oc_ris kV_ris dc_ris pm_ris cd_ris ct_ris oc_tld kV_tld dc_tld pm_tld cd_tld ct_tld oc_same kV_same dc_same pm_same cd_same ct_same oc_law kV_law dc_law pm_law cd_law ct_law : Value} {od_WE an_WE od_BS an_BS od_NS an_NS od_iw an_iw od_ib an_ib od_ii an_ii od_ck an_ck od_nm an_nm od_tu an_tu od_tb an_tb od_nr an_nr od_SI an_SI od_add an_add od_radd an_radd od_neg an_neg od_sub an_sub od_mul an_mul od_over an_over od_eq an_eq od_less an_less od_ish an_ish od_sof an_sof od_shs an_shs od_tot an_tot od_f0 an_f0 od_spr an_spr od_CI an_CI od_crow an_crow od_ceq an_ceq od_ip an_ip od_up an_up od_wz an_wz od_fr an_fr od_cl an_cl od_frs an_frs od_cls an_cls od_pool an_pool od_draw an_draw od_pick an_pick od_name an_name od_lab an_lab od_tops an_tops od_mov an_mov od_ali an_ali od_trn an_trn od_par an_par od_sta an_sta od_rows an_rows od_size an_size od_lsp an_lsp od_wor an_wor od_lle an_lle od_lto an_lto od_lpr an_lpr od_lul an_lul od_lfr an_lfr od_lcl an_lcl od_due an_due od_ask an_ask od_lix an_lix od_lip an_lip od_ris an_ris od_tld an_tld od_same an_same od_law an_law : Option Addr} {sl_WE sl_BS sl_NS sl_iw sl_ib sl_ii sl_ck sl_nm sl_tu sl_tb sl_nr sl_SI sl_add sl_radd sl_neg sl_sub sl_mul sl_over sl_eq sl_less sl_ish sl_sof sl_shs sl_tot sl_f0 sl_spr sl_CI sl_crow sl_ceq sl_ip sl_up sl_wz sl_fr sl_cl sl_frs sl_cls sl_pool sl_draw sl_pick sl_name sl_lab sl_tops sl_mov sl_ali sl_trn sl_par sl_sta sl_rows sl_size sl_lsp sl_wor sl_lle sl_lto sl_lpr sl_lul sl_lfr sl_lcl sl_due sl_ask sl_lix sl_lip sl_ris sl_tld sl_same sl_law : Array (Option Value)}
    {bl : Int} {tk tkL tkS tkW : Tok} {lt xW : Str} {tcS tcW : Value} {tdS tdW : Option Addr} {tnS tnW : Nat} {tsS tsW : Array (Option Value)} {ro_add ro_mul ro_sub : Option Value}
    {nmN qN : Str} {NN : Addr} {bsN bmN : List Value} {snN : List Str} {subN : List Value} {abN : Bool} {colN : Option Bool} {ddN : Option Addr} {b0N b1N b2N b3N b5N : Option Value}
    {nmB qB : Str} {NB : Addr} {bsB bmB : List Value} {snB : List Str} {subB : List Value} {abB : Bool} {colB : Option Bool} {ddB : Option Addr} {b0B b1B b2B b3B b5B : Option Value}
    (aC : PySem.W.nsIn K mainGlobals "Chain" = some (some (.ref CC)))
    (aS : PySem.W.nsIn K mainGlobals "Share" = some (some (.ref C)))
    (aW : PySem.W.nsIn K mainGlobals "WalkError" = some (some (.ref W)))
    (aN : PySem.W.nsIn K mainGlobals "NoState" = some (some (.ref BN)))
    (aB : PySem.W.nsIn K mainGlobals "BadShare" = some (some (.ref BS)))
    (aM : PySem.W.nsIn K mainGlobals "MOST_STATES" = some (some (.int bl tk)))
    (eM : bl = 8)
    (aL : PySem.W.nsIn K mainGlobals "LETTERS" = some (some (.str lt tkL)))
    (eL : lt = abc)
    (aG : PySem.W.nsIn K mainGlobals "gcd" = some (some (.builtin "math.gcd")))
    (n_isinstance : PySem.W.nsIn K mainGlobals "isinstance" = some none)
    (n_int : PySem.W.nsIn K mainGlobals "int" = some none)
    (n_bool : PySem.W.nsIn K mainGlobals "bool" = some none)
    (n_abs : PySem.W.nsIn K mainGlobals "abs" = some none)
    (n_len : PySem.W.nsIn K mainGlobals "len" = some none)
    (n_str : PySem.W.nsIn K mainGlobals "str" = some none)
    (n_divmod : PySem.W.nsIn K mainGlobals "divmod" = some none)
    (n_ValueError : PySem.W.nsIn K mainGlobals "ValueError" = some none)
    (n_list : PySem.W.nsIn K mainGlobals "list" = some none)
    (n_tuple : PySem.W.nsIn K mainGlobals "tuple" = some none)
    (n_range : PySem.W.nsIn K mainGlobals "range" = some none)
    (n_sum : PySem.W.nsIn K mainGlobals "sum" = some none)
    (n_min : PySem.W.nsIn K mainGlobals "min" = some none)
    (n_max : PySem.W.nsIn K mainGlobals "max" = some none)
    (n_all : PySem.W.nsIn K mainGlobals "all" = some none)
    (n_zip : PySem.W.nsIn K mainGlobals "zip" = some none)
    (n_dict : PySem.W.nsIn K mainGlobals "dict" = some none)
    (a_WE : PySem.W.findIn K (.ref W) "__init__" = some (some (.ref f_WE)))
    (l_WE : K.lookup f_WE = some ⟨oc_WE, od_WE, .func (PySem.W.fnOf "__init__" "WalkError.__init__" (defArgs s_WE) (defBody s_WE) (defScope s_WE) (.ref T_WE) kV_WE dc_WE pm_WE an_WE cd_WE ct_WE), sl_WE⟩)
    (c_WE : PySem.W.codeIn K cd_WE "WalkError.__init__" = true)
    (k_WE : PySem.W.keepIn K (.ref f_WE) = true)
    (a_BS : PySem.W.findIn K (.ref BS) "__init__" = some (some (.ref f_BS)))
    (l_BS : K.lookup f_BS = some ⟨oc_BS, od_BS, .func (PySem.W.fnOf "__init__" "BadShare.__init__" (defArgs s_BS) (defBody s_BS) (defScope s_BS) .none kV_BS dc_BS pm_BS an_BS cd_BS ct_BS), sl_BS⟩)
    (c_BS : PySem.W.codeIn K cd_BS "BadShare.__init__" = true)
    (k_BS : PySem.W.keepIn K (.ref f_BS) = true)
    (a_NS : PySem.W.findIn K (.ref BN) "__init__" = some (some (.ref f_NS)))
    (l_NS : K.lookup f_NS = some ⟨oc_NS, od_NS, .func (PySem.W.fnOf "__init__" "NoState.__init__" (defArgs s_NS) (defBody s_NS) (defScope s_NS) .none kV_NS dc_NS pm_NS an_NS cd_NS ct_NS), sl_NS⟩)
    (c_NS : PySem.W.codeIn K cd_NS "NoState.__init__" = true)
    (k_NS : PySem.W.keepIn K (.ref f_NS) = true)
    (a_iw : PySem.W.nsIn K mainGlobals "is_whole" = some (some (.ref f_iw)))
    (l_iw : K.lookup f_iw = some ⟨oc_iw, od_iw, .func (PySem.W.fnOf "is_whole" "is_whole" (defArgs s_is_whole) (defBody s_is_whole) (defScope s_is_whole) .none kV_iw dc_iw pm_iw an_iw cd_iw ct_iw), sl_iw⟩)
    (c_iw : PySem.W.codeIn K cd_iw "is_whole" = true)
    (k_iw : PySem.W.keepIn K (.ref f_iw) = true)
    (a_ib : PySem.W.nsIn K mainGlobals "is_between" = some (some (.ref f_ib)))
    (l_ib : K.lookup f_ib = some ⟨oc_ib, od_ib, .func (PySem.W.fnOf "is_between" "is_between" (defArgs s_is_between) (defBody s_is_between) (defScope s_is_between) .none kV_ib dc_ib pm_ib an_ib cd_ib ct_ib), sl_ib⟩)
    (c_ib : PySem.W.codeIn K cd_ib "is_between" = true)
    (k_ib : PySem.W.keepIn K (.ref f_ib) = true)
    (a_ii : PySem.W.nsIn K mainGlobals "is_index" = some (some (.ref f_ii)))
    (l_ii : K.lookup f_ii = some ⟨oc_ii, od_ii, .func (PySem.W.fnOf "is_index" "is_index" (defArgs s_is_index) (defBody s_is_index) (defScope s_is_index) .none kV_ii dc_ii pm_ii an_ii cd_ii ct_ii), sl_ii⟩)
    (c_ii : PySem.W.codeIn K cd_ii "is_index" = true)
    (k_ii : PySem.W.keepIn K (.ref f_ii) = true)
    (a_ck : PySem.W.nsIn K mainGlobals "check_state" = some (some (.ref f_ck)))
    (l_ck : K.lookup f_ck = some ⟨oc_ck, od_ck, .func (PySem.W.fnOf "check_state" "check_state" (defArgs s_check) (defBody s_check) (defScope s_check) .none kV_ck dc_ck pm_ck an_ck cd_ck ct_ck), sl_ck⟩)
    (c_ck : PySem.W.codeIn K cd_ck "check_state" = true)
    (k_ck : PySem.W.keepIn K (.ref f_ck) = true)
    (a_nm : PySem.W.nsIn K mainGlobals "is_name" = some (some (.ref f_nm)))
    (l_nm : K.lookup f_nm = some ⟨oc_nm, od_nm, .func (PySem.W.fnOf "is_name" "is_name" (defArgs s_is_name) (defBody s_is_name) (defScope s_is_name) .none kV_nm dc_nm pm_nm an_nm cd_nm ct_nm), sl_nm⟩)
    (c_nm : PySem.W.codeIn K cd_nm "is_name" = true)
    (k_nm : PySem.W.keepIn K (.ref f_nm) = true)
    (a_tu : PySem.W.nsIn K mainGlobals "is_tuple_of" = some (some (.ref f_tu)))
    (l_tu : K.lookup f_tu = some ⟨oc_tu, od_tu, .func (PySem.W.fnOf "is_tuple_of" "is_tuple_of" (defArgs s_tupOf) (defBody s_tupOf) (defScope s_tupOf) .none kV_tu dc_tu pm_tu an_tu cd_tu ct_tu), sl_tu⟩)
    (c_tu : PySem.W.codeIn K cd_tu "is_tuple_of" = true)
    (k_tu : PySem.W.keepIn K (.ref f_tu) = true)
    (a_tb : PySem.W.nsIn K mainGlobals "is_tuple_between" = some (some (.ref f_tb)))
    (l_tb : K.lookup f_tb = some ⟨oc_tb, od_tb, .func (PySem.W.fnOf "is_tuple_between" "is_tuple_between" (defArgs s_tupBet) (defBody s_tupBet) (defScope s_tupBet) .none kV_tb dc_tb pm_tb an_tb cd_tb ct_tb), sl_tb⟩)
    (c_tb : PySem.W.codeIn K cd_tb "is_tuple_between" = true)
    (k_tb : PySem.W.keepIn K (.ref f_tb) = true)
    (a_nr : PySem.W.nsIn K mainGlobals "is_name_row" = some (some (.ref f_nr)))
    (l_nr : K.lookup f_nr = some ⟨oc_nr, od_nr, .func (PySem.W.fnOf "is_name_row" "is_name_row" (defArgs s_nameRow) (defBody s_nameRow) (defScope s_nameRow) .none kV_nr dc_nr pm_nr an_nr cd_nr ct_nr), sl_nr⟩)
    (c_nr : PySem.W.codeIn K cd_nr "is_name_row" = true)
    (k_nr : PySem.W.keepIn K (.ref f_nr) = true)
    (a_SI : PySem.W.findIn K (.ref C) "__init__" = some (some (.ref f_SI)))
    (l_SI : K.lookup f_SI = some ⟨oc_SI, od_SI, .func (PySem.W.fnOf "__init__" "Share.__init__" (defArgs s_SI) (defBody s_SI) (defScope s_SI) (.ref T_SI) kV_SI dc_SI pm_SI an_SI cd_SI ct_SI), sl_SI⟩)
    (c_SI : PySem.W.codeIn K cd_SI "Share.__init__" = true)
    (k_SI : PySem.W.keepIn K (.ref f_SI) = true)
    (a_add : PySem.W.findIn K (.ref C) "__add__" = some (some (.ref f_add)))
    (l_add : K.lookup f_add = some ⟨oc_add, od_add, .func (PySem.W.fnOf "__add__" "Share.__add__" (defArgs s_add) (defBody s_add) (defScope s_add) .none kV_add dc_add pm_add an_add cd_add ct_add), sl_add⟩)
    (c_add : PySem.W.codeIn K cd_add "Share.__add__" = true)
    (k_add : PySem.W.keepIn K (.ref f_add) = true)
    (a_radd : PySem.W.findIn K (.ref C) "__radd__" = some (some (.ref f_radd)))
    (l_radd : K.lookup f_radd = some ⟨oc_radd, od_radd, .func (PySem.W.fnOf "__radd__" "Share.__radd__" (defArgs s_radd) (defBody s_radd) (defScope s_radd) .none kV_radd dc_radd pm_radd an_radd cd_radd ct_radd), sl_radd⟩)
    (c_radd : PySem.W.codeIn K cd_radd "Share.__radd__" = true)
    (k_radd : PySem.W.keepIn K (.ref f_radd) = true)
    (a_neg : PySem.W.findIn K (.ref C) "__neg__" = some (some (.ref f_neg)))
    (l_neg : K.lookup f_neg = some ⟨oc_neg, od_neg, .func (PySem.W.fnOf "__neg__" "Share.__neg__" (defArgs s_neg) (defBody s_neg) (defScope s_neg) .none kV_neg dc_neg pm_neg an_neg cd_neg ct_neg), sl_neg⟩)
    (c_neg : PySem.W.codeIn K cd_neg "Share.__neg__" = true)
    (k_neg : PySem.W.keepIn K (.ref f_neg) = true)
    (a_sub : PySem.W.findIn K (.ref C) "__sub__" = some (some (.ref f_sub)))
    (l_sub : K.lookup f_sub = some ⟨oc_sub, od_sub, .func (PySem.W.fnOf "__sub__" "Share.__sub__" (defArgs s_sub) (defBody s_sub) (defScope s_sub) .none kV_sub dc_sub pm_sub an_sub cd_sub ct_sub), sl_sub⟩)
    (c_sub : PySem.W.codeIn K cd_sub "Share.__sub__" = true)
    (k_sub : PySem.W.keepIn K (.ref f_sub) = true)
    (a_mul : PySem.W.findIn K (.ref C) "__mul__" = some (some (.ref f_mul)))
    (l_mul : K.lookup f_mul = some ⟨oc_mul, od_mul, .func (PySem.W.fnOf "__mul__" "Share.__mul__" (defArgs s_mul) (defBody s_mul) (defScope s_mul) .none kV_mul dc_mul pm_mul an_mul cd_mul ct_mul), sl_mul⟩)
    (c_mul : PySem.W.codeIn K cd_mul "Share.__mul__" = true)
    (k_mul : PySem.W.keepIn K (.ref f_mul) = true)
    (a_over : PySem.W.findIn K (.ref C) "over" = some (some (.ref f_over)))
    (l_over : K.lookup f_over = some ⟨oc_over, od_over, .func (PySem.W.fnOf "over" "Share.over" (defArgs s_over) (defBody s_over) (defScope s_over) .none kV_over dc_over pm_over an_over cd_over ct_over), sl_over⟩)
    (c_over : PySem.W.codeIn K cd_over "Share.over" = true)
    (k_over : PySem.W.keepIn K (.ref f_over) = true)
    (a_eq : PySem.W.findIn K (.ref C) "__eq__" = some (some (.ref f_eq)))
    (l_eq : K.lookup f_eq = some ⟨oc_eq, od_eq, .func (PySem.W.fnOf "__eq__" "Share.__eq__" (defArgs s_eq) (defBody s_eq) (defScope s_eq) .none kV_eq dc_eq pm_eq an_eq cd_eq ct_eq), sl_eq⟩)
    (c_eq : PySem.W.codeIn K cd_eq "Share.__eq__" = true)
    (k_eq : PySem.W.keepIn K (.ref f_eq) = true)
    (a_less : PySem.W.findIn K (.ref C) "less" = some (some (.ref f_less)))
    (l_less : K.lookup f_less = some ⟨oc_less, od_less, .func (PySem.W.fnOf "less" "Share.less" (defArgs s_sless) (defBody s_sless) (defScope s_sless) .none kV_less dc_less pm_less an_less cd_less ct_less), sl_less⟩)
    (c_less : PySem.W.codeIn K cd_less "Share.less" = true)
    (k_less : PySem.W.keepIn K (.ref f_less) = true)
    (a_ish : PySem.W.nsIn K mainGlobals "is_share" = some (some (.ref f_ish)))
    (l_ish : K.lookup f_ish = some ⟨oc_ish, od_ish, .func (PySem.W.fnOf "is_share" "is_share" (defArgs s_is_share) (defBody s_is_share) (defScope s_is_share) .none kV_ish dc_ish pm_ish an_ish cd_ish ct_ish), sl_ish⟩)
    (c_ish : PySem.W.codeIn K cd_ish "is_share" = true)
    (k_ish : PySem.W.keepIn K (.ref f_ish) = true)
    (a_sof : PySem.W.nsIn K mainGlobals "share_of" = some (some (.ref f_sof)))
    (l_sof : K.lookup f_sof = some ⟨oc_sof, od_sof, .func (PySem.W.fnOf "share_of" "share_of" (defArgs s_share_of) (defBody s_share_of) (defScope s_share_of) .none kV_sof dc_sof pm_sof an_sof cd_sof ct_sof), sl_sof⟩)
    (c_sof : PySem.W.codeIn K cd_sof "share_of" = true)
    (k_sof : PySem.W.keepIn K (.ref f_sof) = true)
    (a_shs : PySem.W.nsIn K mainGlobals "shares_of" = some (some (.ref f_shs)))
    (l_shs : K.lookup f_shs = some ⟨oc_shs, od_shs, .func (PySem.W.fnOf "shares_of" "shares_of" (defArgs s_shares_of) (defBody s_shares_of) (defScope s_shares_of) .none kV_shs dc_shs pm_shs an_shs cd_shs ct_shs), sl_shs⟩)
    (c_shs : PySem.W.codeIn K cd_shs "shares_of" = true)
    (k_shs : PySem.W.keepIn K (.ref f_shs) = true)
    (a_tot : PySem.W.nsIn K mainGlobals "total" = some (some (.ref f_tot)))
    (l_tot : K.lookup f_tot = some ⟨oc_tot, od_tot, .func (PySem.W.fnOf "total" "total" (defArgs s_total) (defBody s_total) (defScope s_total) .none kV_tot dc_tot pm_tot an_tot cd_tot ct_tot), sl_tot⟩)
    (c_tot : PySem.W.codeIn K cd_tot "total" = true)
    (k_tot : PySem.W.keepIn K (.ref f_tot) = true)
    (a_f0 : PySem.W.nsIn K mainGlobals "is_from_zero" = some (some (.ref f_f0)))
    (l_f0 : K.lookup f_f0 = some ⟨oc_f0, od_f0, .func (PySem.W.fnOf "is_from_zero" "is_from_zero" (defArgs s_from0) (defBody s_from0) (defScope s_from0) .none kV_f0 dc_f0 pm_f0 an_f0 cd_f0 ct_f0), sl_f0⟩)
    (c_f0 : PySem.W.codeIn K cd_f0 "is_from_zero" = true)
    (k_f0 : PySem.W.keepIn K (.ref f_f0) = true)
    (a_spr : PySem.W.nsIn K mainGlobals "is_spread" = some (some (.ref f_spr)))
    (l_spr : K.lookup f_spr = some ⟨oc_spr, od_spr, .func (PySem.W.fnOf "is_spread" "is_spread" (defArgs s_spread) (defBody s_spread) (defScope s_spread) .none kV_spr dc_spr pm_spr an_spr cd_spr ct_spr), sl_spr⟩)
    (c_spr : PySem.W.codeIn K cd_spr "is_spread" = true)
    (k_spr : PySem.W.keepIn K (.ref f_spr) = true)
    (a_CI : PySem.W.findIn K (.ref CC) "__init__" = some (some (.ref f_CI)))
    (l_CI : K.lookup f_CI = some ⟨oc_CI, od_CI, .func (PySem.W.fnOf "__init__" "Chain.__init__" (defArgs s_CI) (defBody s_CI) (defScope s_CI) .none kV_CI dc_CI pm_CI an_CI cd_CI ct_CI), sl_CI⟩)
    (c_CI : PySem.W.codeIn K cd_CI "Chain.__init__" = true)
    (k_CI : PySem.W.keepIn K (.ref f_CI) = true)
    (a_crow : PySem.W.findIn K (.ref CC) "row" = some (some (.ref f_crow)))
    (l_crow : K.lookup f_crow = some ⟨oc_crow, od_crow, .func (PySem.W.fnOf "row" "Chain.row" (defArgs s_chrow) (defBody s_chrow) (defScope s_chrow) .none kV_crow dc_crow pm_crow an_crow cd_crow ct_crow), sl_crow⟩)
    (c_crow : PySem.W.codeIn K cd_crow "Chain.row" = true)
    (k_crow : PySem.W.keepIn K (.ref f_crow) = true)
    (a_ceq : PySem.W.findIn K (.ref CC) "__eq__" = some (some (.ref f_ceq)))
    (l_ceq : K.lookup f_ceq = some ⟨oc_ceq, od_ceq, .func (PySem.W.fnOf "__eq__" "Chain.__eq__" (defArgs s_ceq) (defBody s_ceq) (defScope s_ceq) .none kV_ceq dc_ceq pm_ceq an_ceq cd_ceq ct_ceq), sl_ceq⟩)
    (c_ceq : PySem.W.codeIn K cd_ceq "Chain.__eq__" = true)
    (k_ceq : PySem.W.keepIn K (.ref f_ceq) = true)
    (a_ip : PySem.W.nsIn K mainGlobals "index_pairs" = some (some (.ref f_ip)))
    (l_ip : K.lookup f_ip = some ⟨oc_ip, od_ip, .func (PySem.W.fnOf "index_pairs" "index_pairs" (defArgs s_index_pairs) (defBody s_index_pairs) (defScope s_index_pairs) .none kV_ip dc_ip pm_ip an_ip cd_ip ct_ip), sl_ip⟩)
    (c_ip : PySem.W.codeIn K cd_ip "index_pairs" = true)
    (k_ip : PySem.W.keepIn K (.ref f_ip) = true)
    (a_up : PySem.W.nsIn K mainGlobals "unlike_pairs" = some (some (.ref f_up)))
    (l_up : K.lookup f_up = some ⟨oc_up, od_up, .func (PySem.W.fnOf "unlike_pairs" "unlike_pairs" (defArgs s_unlike_pairs) (defBody s_unlike_pairs) (defScope s_unlike_pairs) .none kV_up dc_up pm_up an_up cd_up ct_up), sl_up⟩)
    (c_up : PySem.W.codeIn K cd_up "unlike_pairs" = true)
    (k_up : PySem.W.keepIn K (.ref f_up) = true)
    (a_wz : PySem.W.nsIn K mainGlobals "without_zeros" = some (some (.ref f_wz)))
    (l_wz : K.lookup f_wz = some ⟨oc_wz, od_wz, .func (PySem.W.fnOf "without_zeros" "without_zeros" (defArgs s_wz) (defBody s_wz) (defScope s_wz) .none kV_wz dc_wz pm_wz an_wz cd_wz ct_wz), sl_wz⟩)
    (c_wz : PySem.W.codeIn K cd_wz "without_zeros" = true)
    (k_wz : PySem.W.keepIn K (.ref f_wz) = true)
    (a_fr : PySem.W.nsIn K mainGlobals "free_tie" = some (some (.ref f_fr)))
    (l_fr : K.lookup f_fr = some ⟨oc_fr, od_fr, .func (PySem.W.fnOf "free_tie" "free_tie" (defArgs s_free) (defBody s_free) (defScope s_free) .none kV_fr dc_fr pm_fr an_fr cd_fr ct_fr), sl_fr⟩)
    (c_fr : PySem.W.codeIn K cd_fr "free_tie" = true)
    (k_fr : PySem.W.keepIn K (.ref f_fr) = true)
    (a_cl : PySem.W.nsIn K mainGlobals "close_tie" = some (some (.ref f_cl)))
    (l_cl : K.lookup f_cl = some ⟨oc_cl, od_cl, .func (PySem.W.fnOf "close_tie" "close_tie" (defArgs s_close) (defBody s_close) (defScope s_close) .none kV_cl dc_cl pm_cl an_cl cd_cl ct_cl), sl_cl⟩)
    (c_cl : PySem.W.codeIn K cd_cl "close_tie" = true)
    (k_cl : PySem.W.keepIn K (.ref f_cl) = true)
    (a_frs : PySem.W.nsIn K mainGlobals "free_ties" = some (some (.ref f_frs)))
    (l_frs : K.lookup f_frs = some ⟨oc_frs, od_frs, .func (PySem.W.fnOf "free_ties" "free_ties" (defArgs s_frees) (defBody s_frees) (defScope s_frees) .none kV_frs dc_frs pm_frs an_frs cd_frs ct_frs), sl_frs⟩)
    (c_frs : PySem.W.codeIn K cd_frs "free_ties" = true)
    (k_frs : PySem.W.keepIn K (.ref f_frs) = true)
    (a_cls : PySem.W.nsIn K mainGlobals "close_ties" = some (some (.ref f_cls)))
    (l_cls : K.lookup f_cls = some ⟨oc_cls, od_cls, .func (PySem.W.fnOf "close_ties" "close_ties" (defArgs s_closes) (defBody s_closes) (defScope s_closes) .none kV_cls dc_cls pm_cls an_cls cd_cls ct_cls), sl_cls⟩)
    (c_cls : PySem.W.codeIn K cd_cls "close_ties" = true)
    (k_cls : PySem.W.keepIn K (.ref f_cls) = true)
    (a_pool : PySem.W.nsIn K mainGlobals "_law_pool" = some (some (.ref f_pool)))
    (l_pool : K.lookup f_pool = some ⟨oc_pool, od_pool, .func (PySem.W.fnOf "_law_pool" "_law_pool" (defArgs s_pool) (defBody s_pool) (defScope s_pool) .none kV_pool dc_pool pm_pool an_pool cd_pool ct_pool), sl_pool⟩)
    (c_pool : PySem.W.codeIn K cd_pool "_law_pool" = true)
    (k_pool : PySem.W.keepIn K (.ref f_pool) = true)
    (a_draw : PySem.W.nsIn K mainGlobals "_law_draw" = some (some (.ref f_draw)))
    (l_draw : K.lookup f_draw = some ⟨oc_draw, od_draw, .func (PySem.W.fnOf "_law_draw" "_law_draw" (defArgs s_draw) (defBody s_draw) (defScope s_draw) .none kV_draw dc_draw pm_draw an_draw cd_draw ct_draw), sl_draw⟩)
    (c_draw : PySem.W.codeIn K cd_draw "_law_draw" = true)
    (k_draw : PySem.W.keepIn K (.ref f_draw) = true)
    (a_pick : PySem.W.nsIn K mainGlobals "_law_pick" = some (some (.ref f_pick)))
    (l_pick : K.lookup f_pick = some ⟨oc_pick, od_pick, .func (PySem.W.fnOf "_law_pick" "_law_pick" (defArgs s_pick) (defBody s_pick) (defScope s_pick) .none kV_pick dc_pick pm_pick an_pick cd_pick ct_pick), sl_pick⟩)
    (c_pick : PySem.W.codeIn K cd_pick "_law_pick" = true)
    (k_pick : PySem.W.keepIn K (.ref f_pick) = true)
    (a_name : PySem.W.nsIn K mainGlobals "_law_name" = some (some (.ref f_name)))
    (l_name : K.lookup f_name = some ⟨oc_name, od_name, .func (PySem.W.fnOf "_law_name" "_law_name" (defArgs s_name) (defBody s_name) (defScope s_name) .none kV_name dc_name pm_name an_name cd_name ct_name), sl_name⟩)
    (c_name : PySem.W.codeIn K cd_name "_law_name" = true)
    (k_name : PySem.W.keepIn K (.ref f_name) = true)
    (a_lab : PySem.W.nsIn K mainGlobals "_law_labels" = some (some (.ref f_lab)))
    (l_lab : K.lookup f_lab = some ⟨oc_lab, od_lab, .func (PySem.W.fnOf "_law_labels" "_law_labels" (defArgs s_labels) (defBody s_labels) (defScope s_labels) .none kV_lab dc_lab pm_lab an_lab cd_lab ct_lab), sl_lab⟩)
    (c_lab : PySem.W.codeIn K cd_lab "_law_labels" = true)
    (k_lab : PySem.W.keepIn K (.ref f_lab) = true)
    (a_tops : PySem.W.nsIn K mainGlobals "_law_tops" = some (some (.ref f_tops)))
    (l_tops : K.lookup f_tops = some ⟨oc_tops, od_tops, .func (PySem.W.fnOf "_law_tops" "_law_tops" (defArgs s_tops) (defBody s_tops) (defScope s_tops) .none kV_tops dc_tops pm_tops an_tops cd_tops ct_tops), sl_tops⟩)
    (c_tops : PySem.W.codeIn K cd_tops "_law_tops" = true)
    (k_tops : PySem.W.keepIn K (.ref f_tops) = true)
    (a_mov : PySem.W.nsIn K mainGlobals "_law_moved_bit" = some (some (.ref f_mov)))
    (l_mov : K.lookup f_mov = some ⟨oc_mov, od_mov, .func (PySem.W.fnOf "_law_moved_bit" "_law_moved_bit" (defArgs s_moved) (defBody s_moved) (defScope s_moved) .none kV_mov dc_mov pm_mov an_mov cd_mov ct_mov), sl_mov⟩)
    (c_mov : PySem.W.codeIn K cd_mov "_law_moved_bit" = true)
    (k_mov : PySem.W.keepIn K (.ref f_mov) = true)
    (a_ali : PySem.W.nsIn K mainGlobals "_law_rows_alike" = some (some (.ref f_ali)))
    (l_ali : K.lookup f_ali = some ⟨oc_ali, od_ali, .func (PySem.W.fnOf "_law_rows_alike" "_law_rows_alike" (defArgs s_alike) (defBody s_alike) (defScope s_alike) .none kV_ali dc_ali pm_ali an_ali cd_ali ct_ali), sl_ali⟩)
    (c_ali : PySem.W.codeIn K cd_ali "_law_rows_alike" = true)
    (k_ali : PySem.W.keepIn K (.ref f_ali) = true)
    (a_trn : PySem.W.nsIn K mainGlobals "_law_rows_turning" = some (some (.ref f_trn)))
    (l_trn : K.lookup f_trn = some ⟨oc_trn, od_trn, .func (PySem.W.fnOf "_law_rows_turning" "_law_rows_turning" (defArgs s_turning) (defBody s_turning) (defScope s_turning) .none kV_trn dc_trn pm_trn an_trn cd_trn ct_trn), sl_trn⟩)
    (c_trn : PySem.W.codeIn K cd_trn "_law_rows_turning" = true)
    (k_trn : PySem.W.keepIn K (.ref f_trn) = true)
    (a_par : PySem.W.nsIn K mainGlobals "_law_rows_parted" = some (some (.ref f_par)))
    (l_par : K.lookup f_par = some ⟨oc_par, od_par, .func (PySem.W.fnOf "_law_rows_parted" "_law_rows_parted" (defArgs s_parted) (defBody s_parted) (defScope s_parted) .none kV_par dc_par pm_par an_par cd_par ct_par), sl_par⟩)
    (c_par : PySem.W.codeIn K cd_par "_law_rows_parted" = true)
    (k_par : PySem.W.keepIn K (.ref f_par) = true)
    (a_sta : PySem.W.nsIn K mainGlobals "_law_rows_stairs" = some (some (.ref f_sta)))
    (l_sta : K.lookup f_sta = some ⟨oc_sta, od_sta, .func (PySem.W.fnOf "_law_rows_stairs" "_law_rows_stairs" (defArgs s_stairs) (defBody s_stairs) (defScope s_stairs) .none kV_sta dc_sta pm_sta an_sta cd_sta ct_sta), sl_sta⟩)
    (c_sta : PySem.W.codeIn K cd_sta "_law_rows_stairs" = true)
    (k_sta : PySem.W.keepIn K (.ref f_sta) = true)
    (a_rows : PySem.W.nsIn K mainGlobals "_law_rows" = some (some (.ref f_rows)))
    (l_rows : K.lookup f_rows = some ⟨oc_rows, od_rows, .func (PySem.W.fnOf "_law_rows" "_law_rows" (defArgs s_rows) (defBody s_rows) (defScope s_rows) .none kV_rows dc_rows pm_rows an_rows cd_rows ct_rows), sl_rows⟩)
    (c_rows : PySem.W.codeIn K cd_rows "_law_rows" = true)
    (k_rows : PySem.W.keepIn K (.ref f_rows) = true)
    (a_size : PySem.W.nsIn K mainGlobals "_law_size" = some (some (.ref f_size)))
    (l_size : K.lookup f_size = some ⟨oc_size, od_size, .func (PySem.W.fnOf "_law_size" "_law_size" (defArgs s_size) (defBody s_size) (defScope s_size) .none kV_size dc_size pm_size an_size cd_size ct_size), sl_size⟩)
    (c_size : PySem.W.codeIn K cd_size "_law_size" = true)
    (k_size : PySem.W.keepIn K (.ref f_size) = true)
    (a_lsp : PySem.W.nsIn K mainGlobals "_law_spread" = some (some (.ref f_lsp)))
    (l_lsp : K.lookup f_lsp = some ⟨oc_lsp, od_lsp, .func (PySem.W.fnOf "_law_spread" "_law_spread" (defArgs s_spreadL) (defBody s_spreadL) (defScope s_spreadL) .none kV_lsp dc_lsp pm_lsp an_lsp cd_lsp ct_lsp), sl_lsp⟩)
    (c_lsp : PySem.W.codeIn K cd_lsp "_law_spread" = true)
    (k_lsp : PySem.W.keepIn K (.ref f_lsp) = true)
    (a_wor : PySem.W.nsIn K mainGlobals "_law_world" = some (some (.ref f_wor)))
    (l_wor : K.lookup f_wor = some ⟨oc_wor, od_wor, .func (PySem.W.fnOf "_law_world" "_law_world" (defArgs s_world) (defBody s_world) (defScope s_world) .none kV_wor dc_wor pm_wor an_wor cd_wor ct_wor), sl_wor⟩)
    (c_wor : PySem.W.codeIn K cd_wor "_law_world" = true)
    (k_wor : PySem.W.keepIn K (.ref f_wor) = true)
    (a_lle : PySem.W.nsIn K mainGlobals "_law_lesser" = some (some (.ref f_lle)))
    (l_lle : K.lookup f_lle = some ⟨oc_lle, od_lle, .func (PySem.W.fnOf "_law_lesser" "_law_lesser" (defArgs s_lesser) (defBody s_lesser) (defScope s_lesser) .none kV_lle dc_lle pm_lle an_lle cd_lle ct_lle), sl_lle⟩)
    (c_lle : PySem.W.codeIn K cd_lle "_law_lesser" = true)
    (k_lle : PySem.W.keepIn K (.ref f_lle) = true)
    (a_lto : PySem.W.nsIn K mainGlobals "_law_total" = some (some (.ref f_lto)))
    (l_lto : K.lookup f_lto = some ⟨oc_lto, od_lto, .func (PySem.W.fnOf "_law_total" "_law_total" (defArgs s_ltotal) (defBody s_ltotal) (defScope s_ltotal) .none kV_lto dc_lto pm_lto an_lto cd_lto ct_lto), sl_lto⟩)
    (c_lto : PySem.W.codeIn K cd_lto "_law_total" = true)
    (k_lto : PySem.W.keepIn K (.ref f_lto) = true)
    (a_lpr : PySem.W.nsIn K mainGlobals "_law_pairs" = some (some (.ref f_lpr)))
    (l_lpr : K.lookup f_lpr = some ⟨oc_lpr, od_lpr, .func (PySem.W.fnOf "_law_pairs" "_law_pairs" (defArgs s_pairs) (defBody s_pairs) (defScope s_pairs) .none kV_lpr dc_lpr pm_lpr an_lpr cd_lpr ct_lpr), sl_lpr⟩)
    (c_lpr : PySem.W.codeIn K cd_lpr "_law_pairs" = true)
    (k_lpr : PySem.W.keepIn K (.ref f_lpr) = true)
    (a_lul : PySem.W.nsIn K mainGlobals "_law_unlike" = some (some (.ref f_lul)))
    (l_lul : K.lookup f_lul = some ⟨oc_lul, od_lul, .func (PySem.W.fnOf "_law_unlike" "_law_unlike" (defArgs s_lunlike) (defBody s_lunlike) (defScope s_lunlike) .none kV_lul dc_lul pm_lul an_lul cd_lul ct_lul), sl_lul⟩)
    (c_lul : PySem.W.codeIn K cd_lul "_law_unlike" = true)
    (k_lul : PySem.W.keepIn K (.ref f_lul) = true)
    (a_lfr : PySem.W.nsIn K mainGlobals "_law_free" = some (some (.ref f_lfr)))
    (l_lfr : K.lookup f_lfr = some ⟨oc_lfr, od_lfr, .func (PySem.W.fnOf "_law_free" "_law_free" (defArgs s_lfree) (defBody s_lfree) (defScope s_lfree) .none kV_lfr dc_lfr pm_lfr an_lfr cd_lfr ct_lfr), sl_lfr⟩)
    (c_lfr : PySem.W.codeIn K cd_lfr "_law_free" = true)
    (k_lfr : PySem.W.keepIn K (.ref f_lfr) = true)
    (a_lcl : PySem.W.nsIn K mainGlobals "_law_close" = some (some (.ref f_lcl)))
    (l_lcl : K.lookup f_lcl = some ⟨oc_lcl, od_lcl, .func (PySem.W.fnOf "_law_close" "_law_close" (defArgs s_lclose) (defBody s_lclose) (defScope s_lclose) .none kV_lcl dc_lcl pm_lcl an_lcl cd_lcl ct_lcl), sl_lcl⟩)
    (c_lcl : PySem.W.codeIn K cd_lcl "_law_close" = true)
    (k_lcl : PySem.W.keepIn K (.ref f_lcl) = true)
    (a_due : PySem.W.nsIn K mainGlobals "_law_due" = some (some (.ref f_due)))
    (l_due : K.lookup f_due = some ⟨oc_due, od_due, .func (PySem.W.fnOf "_law_due" "_law_due" (defArgs s_due) (defBody s_due) (defScope s_due) .none kV_due dc_due pm_due an_due cd_due ct_due), sl_due⟩)
    (c_due : PySem.W.codeIn K cd_due "_law_due" = true)
    (k_due : PySem.W.keepIn K (.ref f_due) = true)
    (a_ask : PySem.W.nsIn K mainGlobals "_law_ask" = some (some (.ref f_ask)))
    (l_ask : K.lookup f_ask = some ⟨oc_ask, od_ask, .func (PySem.W.fnOf "_law_ask" "_law_ask" (defArgs s_ask) (defBody s_ask) (defScope s_ask) .none kV_ask dc_ask pm_ask an_ask cd_ask ct_ask), sl_ask⟩)
    (c_ask : PySem.W.codeIn K cd_ask "_law_ask" = true)
    (k_ask : PySem.W.keepIn K (.ref f_ask) = true)
    (a_lix : PySem.W.nsIn K mainGlobals "_law_is_index" = some (some (.ref f_lix)))
    (l_lix : K.lookup f_lix = some ⟨oc_lix, od_lix, .func (PySem.W.fnOf "_law_is_index" "_law_is_index" (defArgs s_isix) (defBody s_isix) (defScope s_isix) .none kV_lix dc_lix pm_lix an_lix cd_lix ct_lix), sl_lix⟩)
    (c_lix : PySem.W.codeIn K cd_lix "_law_is_index" = true)
    (k_lix : PySem.W.keepIn K (.ref f_lix) = true)
    (a_lip : PySem.W.nsIn K mainGlobals "_law_is_pair" = some (some (.ref f_lip)))
    (l_lip : K.lookup f_lip = some ⟨oc_lip, od_lip, .func (PySem.W.fnOf "_law_is_pair" "_law_is_pair" (defArgs s_ispr) (defBody s_ispr) (defScope s_ispr) .none kV_lip dc_lip pm_lip an_lip cd_lip ct_lip), sl_lip⟩)
    (c_lip : PySem.W.codeIn K cd_lip "_law_is_pair" = true)
    (k_lip : PySem.W.keepIn K (.ref f_lip) = true)
    (a_ris : PySem.W.nsIn K mainGlobals "_law_rising" = some (some (.ref f_ris)))
    (l_ris : K.lookup f_ris = some ⟨oc_ris, od_ris, .func (PySem.W.fnOf "_law_rising" "_law_rising" (defArgs s_rising) (defBody s_rising) (defScope s_rising) .none kV_ris dc_ris pm_ris an_ris cd_ris ct_ris), sl_ris⟩)
    (c_ris : PySem.W.codeIn K cd_ris "_law_rising" = true)
    (k_ris : PySem.W.keepIn K (.ref f_ris) = true)
    (a_tld : PySem.W.nsIn K mainGlobals "_law_is_told" = some (some (.ref f_tld)))
    (l_tld : K.lookup f_tld = some ⟨oc_tld, od_tld, .func (PySem.W.fnOf "_law_is_told" "_law_is_told" (defArgs s_told) (defBody s_told) (defScope s_told) .none kV_tld dc_tld pm_tld an_tld cd_tld ct_tld), sl_tld⟩)
    (c_tld : PySem.W.codeIn K cd_tld "_law_is_told" = true)
    (k_tld : PySem.W.keepIn K (.ref f_tld) = true)
    (a_same : PySem.W.nsIn K mainGlobals "_law_same" = some (some (.ref f_same)))
    (l_same : K.lookup f_same = some ⟨oc_same, od_same, .func (PySem.W.fnOf "_law_same" "_law_same" (defArgs s_same) (defBody s_same) (defScope s_same) .none kV_same dc_same pm_same an_same cd_same ct_same), sl_same⟩)
    (c_same : PySem.W.codeIn K cd_same "_law_same" = true)
    (k_same : PySem.W.keepIn K (.ref f_same) = true)
    (a_law : PySem.W.nsIn K mainGlobals "law" = some (some (.ref f_law)))
    (l_law : K.lookup f_law = some ⟨oc_law, od_law, .func (PySem.W.fnOf "law" "law" (defArgs s_law) (defBody s_law) (defScope s_law) .none kV_law dc_law pm_law an_law cd_law ct_law), sl_law⟩)
    (c_law : PySem.W.codeIn K cd_law "law" = true)
    (k_law : PySem.W.keepIn K (.ref f_law) = true)
    (dSI : K.lookup T_SI = some ⟨tcS, tdS, .seq #[.int 1 tkS] tnS, tsS⟩)
    (dWE : K.lookup T_WE = some ⟨tcW, tdW, .seq #[.str xW tkW] tnW, tsW⟩)
    (hn : PySem.W.specialIn K (.builtin "object.__class__") "__get__" = some (some (.builtin "getset_descriptor.__get__")))
    (htk : PySem.W.takesIn K (.builtin "object.__class__") = some true)
    (pgC : PySem.W.plainGet K CC Str.empty = true)
    (hdC : PySem.W.hasDictIn K CC = true)
    (poC : PySem.W.plainOver K CC = true)
    (saC : PySem.W.findIn K (.ref CC) "__setattr__" = some (some (.builtin "object.__setattr__")))
    (mkC : PySem.W.makesIn K CC = true)
    (kcC : PySem.W.keepIn K (.ref CC) = true)
    (tCC : PySem.W.typeIn K (.ref CC) = some (.type "type"))
    (haC : PySem.W.findIn K (.ref CC) "__class__" = some (some (.builtin "object.__class__")))
    (hmC : PySem.W.mroIn K CC (.type "object") = some true)
    (neC : PySem.W.findIn K (.ref CC) "__ne__" = some (some (.builtin "object.__ne__")))
    (uC_int : PySem.W.subIn K (.ref CC) (.type "int") = some false)
    (uC_bool : PySem.W.subIn K (.ref CC) (.type "bool") = some false)
    (uC_NoneType : PySem.W.subIn K (.ref CC) (.type "NoneType") = some false)
    (uC_str : PySem.W.subIn K (.ref CC) (.type "str") = some false)
    (uC_list : PySem.W.subIn K (.ref CC) (.type "list") = some false)
    (uC_tuple : PySem.W.subIn K (.ref CC) (.type "tuple") = some false)
    (uC_dict : PySem.W.subIn K (.ref CC) (.type "dict") = some false)
    (pgS : PySem.W.plainGet K C Str.empty = true)
    (hdS : PySem.W.hasDictIn K C = true)
    (poS : PySem.W.plainOver K C = true)
    (saS : PySem.W.findIn K (.ref C) "__setattr__" = some (some (.builtin "object.__setattr__")))
    (mkS : PySem.W.makesIn K C = true)
    (kcS : PySem.W.keepIn K (.ref C) = true)
    (tCS : PySem.W.typeIn K (.ref C) = some (.type "type"))
    (haS : PySem.W.findIn K (.ref C) "__class__" = some (some (.builtin "object.__class__")))
    (hmS : PySem.W.mroIn K C (.type "object") = some true)
    (neS : PySem.W.findIn K (.ref C) "__ne__" = some (some (.builtin "object.__ne__")))
    (uS_int : PySem.W.subIn K (.ref C) (.type "int") = some false)
    (uS_bool : PySem.W.subIn K (.ref C) (.type "bool") = some false)
    (uS_NoneType : PySem.W.subIn K (.ref C) (.type "NoneType") = some false)
    (uS_str : PySem.W.subIn K (.ref C) (.type "str") = some false)
    (uS_list : PySem.W.subIn K (.ref C) (.type "list") = some false)
    (uS_tuple : PySem.W.subIn K (.ref C) (.type "tuple") = some false)
    (uS_dict : PySem.W.subIn K (.ref C) (.type "dict") = some false)
    (uS_bytes : PySem.W.subIn K (.ref C) (.type "bytes") = some false)
    (uS_bytearray : PySem.W.subIn K (.ref C) (.type "bytearray") = some false)
    (uCS : PySem.W.subIn K (.ref CC) (.ref C) = some false)
    (sf : PySem.W.selfFirst K C = true)
    (upC : PySem.W.subIn K (.type "int") (.ref C) = some false)
    (d_add : PySem.W.findIn K (.ref C) (PySem.dunder "add") = some (some (.ref f_add)))
    (e_add : PySem.W.findIn K (.ref C) (dunderR "add") = some (some (.ref f_radd)))
    (o_add : PySem.W.findIn K (.type "int") (dunderR "add") = some ro_add)
    (d_mul : PySem.W.findIn K (.ref C) (PySem.dunder "mul") = some (some (.ref f_mul)))
    (e_mul : PySem.W.findIn K (.ref C) (dunderR "mul") = some (some (.ref f_rmul)))
    (o_mul : PySem.W.findIn K (.type "int") (dunderR "mul") = some ro_mul)
    (d_sub : PySem.W.findIn K (.ref C) (PySem.dunder "sub") = some (some (.ref f_sub)))
    (e_sub : PySem.W.findIn K (.ref C) (dunderR "sub") = some (some (.ref f_rsub)))
    (o_sub : PySem.W.findIn K (.type "int") (dunderR "sub") = some ro_sub)
    (nSz : PySem.W.findIn K (.ref CC) "size" = some none)
    (nRw : PySem.W.findIn K (.ref CC) "_rows" = some none)
    (nLb : PySem.W.findIn K (.ref CC) "_labels" = some none)
    (nT : PySem.W.findIn K (.ref C) "top" = some none)
    (nBm : PySem.W.findIn K (.ref C) "bottom" = some none)
    (i_SI : PySem.W.isFn K (.ref f_SI) = true)
    (i_eq : PySem.W.isFn K (.ref f_eq) = true)
    (i_add : PySem.W.isFn K (.ref f_add) = true)
    (i_radd : PySem.W.isFn K (.ref f_radd) = true)
    (i_mul : PySem.W.isFn K (.ref f_mul) = true)
    (i_rmul : PySem.W.isFn K (.ref f_rmul) = true)
    (i_sub : PySem.W.isFn K (.ref f_sub) = true)
    (i_rsub : PySem.W.isFn K (.ref f_rsub) = true)
    (i_neg : PySem.W.isFn K (.ref f_neg) = true)
    (i_over : PySem.W.isFn K (.ref f_over) = true)
    (i_less : PySem.W.isFn K (.ref f_less) = true)
    (i_CI : PySem.W.isFn K (.ref f_CI) = true)
    (i_crow : PySem.W.isFn K (.ref f_crow) = true)
    (i_ceq : PySem.W.isFn K (.ref f_ceq) = true)
    (xN : K.lookup BN = some (excClassObj nmN qN BN NN bsN bmN true snN subN abN colN ddN b0N b1N b2N b3N b5N "ValueError.__new__"))
    (rN : PySem.HandSPX.refsVE bmN = true)
    (saN : PySem.W.findIn K (.ref BN) "__setattr__" = some (some (.builtin "object.__setattr__")))
    (exN : PySem.W.subIn K (.ref BN) (.type "BaseException") = some true)
    (tN : PySem.W.typeIn K (.ref BN) = some (.type "type"))
    (kN : PySem.W.keepIn K (.ref BN) = true)
    (hdN : PySem.W.hasDictIn K BN = true)
    (sBN : PySem.W.subIn K (.ref BN) (.ref BN) = some true)
    (xB : K.lookup BS = some (excClassObj nmB qB BS NB bsB bmB true snB subB abB colB ddB b0B b1B b2B b3B b5B "ValueError.__new__"))
    (rB : PySem.HandSPX.refsVE bmB = true)
    (saB : PySem.W.findIn K (.ref BS) "__setattr__" = some (some (.builtin "object.__setattr__")))
    (exB : PySem.W.subIn K (.ref BS) (.type "BaseException") = some true)
    (tB : PySem.W.typeIn K (.ref BS) = some (.type "type"))
    (kB : PySem.W.keepIn K (.ref BS) = true)
    (hdB : PySem.W.hasDictIn K BS = true)
    (sBB : PySem.W.subIn K (.ref BS) (.ref BS) = some true)
    (nst : PySem.W.findIn K (.ref BN) "state" = some none)
    (ntB : PySem.W.findIn K (.ref BS) "top" = some none)
    (nbB : PySem.W.findIn K (.ref BS) "bottom" = some none)
    (tfN : PySem.W.typeIn K (.ref f_NS) = some (.type "function"))
    (tfB : PySem.W.typeIn K (.ref f_BS) = some (.type "function"))
    (rdW : PySem.W.readsIn K W (.type "type") = true)
    (gaW : PySem.W.specialIn K (.ref W) "__getattribute__" = some (some (.builtin "type.__getattribute__")))
    (fcW : PySem.W.findCls K (.ref W) (.type "type") "__init__" = some (.val (.ref f_WE)))
    (vV : PySem.W.findCls K (.type "ValueError") (.type "type") "__init__" = some (.val (.builtin "ValueError.__init__"))) :
    ∃ fd : FuncData, (∀ (s : Shared) (v : Value), BindsTo s fd ⟨[v], []⟩ [("_law_script", v)]) ∧ ∀ base : Heap, K.In base → base.Ns mainGlobals mg → FnOk l.prog w K mg base CX0 15 fa fd ["_law_script"] (spLaw K) := by
  have e := hfa.symm.trans (PySem.W.mg_of X G a_law)
  cases e
  subst eM
  subst eL
  have F_SI : FunD K "__init__" "Share.__init__" (defArgs s_SI) (defBody s_SI) (defScope s_SI) [.int 1] [] f_SI _ := ⟨⟨_, _, _, _, _, _, _, _, _, _, rfl, l_SI, c_SI, .inr ⟨by simp, _, _, _, _, rfl, dSI, rfl, .cons ⟨_, rfl⟩ .nil⟩, .inl rfl⟩, k_SI⟩
  have F_WE : FunD K "__init__" "WalkError.__init__" (defArgs s_WE) (defBody s_WE) (defScope s_WE) [.str xW] [] f_WE _ := ⟨⟨_, _, _, _, _, _, _, _, _, _, rfl, l_WE, c_WE, .inr ⟨by simp, _, _, _, _, rfl, dWE, rfl, .cons ⟨_, rfl⟩ .nil⟩, .inl rfl⟩, k_WE⟩
  have F_BS := fun_mk (st := s_BS) l_BS c_BS k_BS
  have F_NS := fun_mk (st := s_NS) l_NS c_NS k_NS
  have F_iw := fun_mk (st := s_is_whole) l_iw c_iw k_iw
  have F_ib := fun_mk (st := s_is_between) l_ib c_ib k_ib
  have F_ii := fun_mk (st := s_is_index) l_ii c_ii k_ii
  have F_ck := fun_mk (st := s_check) l_ck c_ck k_ck
  have F_nm := fun_mk (st := s_is_name) l_nm c_nm k_nm
  have F_tu := fun_mk (st := s_tupOf) l_tu c_tu k_tu
  have F_tb := fun_mk (st := s_tupBet) l_tb c_tb k_tb
  have F_nr := fun_mk (st := s_nameRow) l_nr c_nr k_nr
  have F_add := fun_mk (st := s_add) l_add c_add k_add
  have F_radd := fun_mk (st := s_radd) l_radd c_radd k_radd
  have F_neg := fun_mk (st := s_neg) l_neg c_neg k_neg
  have F_sub := fun_mk (st := s_sub) l_sub c_sub k_sub
  have F_mul := fun_mk (st := s_mul) l_mul c_mul k_mul
  have F_over := fun_mk (st := s_over) l_over c_over k_over
  have F_eq := fun_mk (st := s_eq) l_eq c_eq k_eq
  have F_less := fun_mk (st := s_sless) l_less c_less k_less
  have F_ish := fun_mk (st := s_is_share) l_ish c_ish k_ish
  have F_sof := fun_mk (st := s_share_of) l_sof c_sof k_sof
  have F_shs := fun_mk (st := s_shares_of) l_shs c_shs k_shs
  have F_tot := fun_mk (st := s_total) l_tot c_tot k_tot
  have F_f0 := fun_mk (st := s_from0) l_f0 c_f0 k_f0
  have F_spr := fun_mk (st := s_spread) l_spr c_spr k_spr
  have F_CI := fun_mk (st := s_CI) l_CI c_CI k_CI
  have F_crow := fun_mk (st := s_chrow) l_crow c_crow k_crow
  have F_ceq := fun_mk (st := s_ceq) l_ceq c_ceq k_ceq
  have F_ip := fun_mk (st := s_index_pairs) l_ip c_ip k_ip
  have F_up := fun_mk (st := s_unlike_pairs) l_up c_up k_up
  have F_wz := fun_mk (st := s_wz) l_wz c_wz k_wz
  have F_fr := fun_mk (st := s_free) l_fr c_fr k_fr
  have F_cl := fun_mk (st := s_close) l_cl c_cl k_cl
  have F_frs := fun_mk (st := s_frees) l_frs c_frs k_frs
  have F_cls := fun_mk (st := s_closes) l_cls c_cls k_cls
  have F_pool := fun_mk (st := s_pool) l_pool c_pool k_pool
  have F_draw := fun_mk (st := s_draw) l_draw c_draw k_draw
  have F_pick := fun_mk (st := s_pick) l_pick c_pick k_pick
  have F_name := fun_mk (st := s_name) l_name c_name k_name
  have F_lab := fun_mk (st := s_labels) l_lab c_lab k_lab
  have F_tops := fun_mk (st := s_tops) l_tops c_tops k_tops
  have F_mov := fun_mk (st := s_moved) l_mov c_mov k_mov
  have F_ali := fun_mk (st := s_alike) l_ali c_ali k_ali
  have F_trn := fun_mk (st := s_turning) l_trn c_trn k_trn
  have F_par := fun_mk (st := s_parted) l_par c_par k_par
  have F_sta := fun_mk (st := s_stairs) l_sta c_sta k_sta
  have F_rows := fun_mk (st := s_rows) l_rows c_rows k_rows
  have F_size := fun_mk (st := s_size) l_size c_size k_size
  have F_lsp := fun_mk (st := s_spreadL) l_lsp c_lsp k_lsp
  have F_wor := fun_mk (st := s_world) l_wor c_wor k_wor
  have F_lle := fun_mk (st := s_lesser) l_lle c_lle k_lle
  have F_lto := fun_mk (st := s_ltotal) l_lto c_lto k_lto
  have F_lpr := fun_mk (st := s_pairs) l_lpr c_lpr k_lpr
  have F_lul := fun_mk (st := s_lunlike) l_lul c_lul k_lul
  have F_lfr := fun_mk (st := s_lfree) l_lfr c_lfr k_lfr
  have F_lcl := fun_mk (st := s_lclose) l_lcl c_lcl k_lcl
  have F_due := fun_mk (st := s_due) l_due c_due k_due
  have F_ask := fun_mk (st := s_ask) l_ask c_ask k_ask
  have F_lix := fun_mk (st := s_isix) l_lix c_lix k_lix
  have F_lip := fun_mk (st := s_ispr) l_lip c_lip k_lip
  have F_ris := fun_mk (st := s_rising) l_ris c_ris k_ris
  have F_tld := fun_mk (st := s_told) l_tld c_tld k_tld
  have F_same := fun_mk (st := s_same) l_same c_same k_same
  have F_law := fun_mk (st := s_law) l_law c_law k_law
  have b_BS := F_BS.binds (ps := ["self", "top", "bottom"]) fun _ _ _ _ _ _ us hl => match us, hl with | [_, _, _], _ => rfl
  have b_NS := F_NS.binds (ps := ["self", "state"]) fun _ _ _ _ _ _ us hl => match us, hl with | [_, _], _ => rfl
  have b_iw := F_iw.binds (ps := ["thing"]) fun _ _ _ _ _ _ us hl => match us, hl with | [_], _ => rfl
  have b_ib := F_ib.binds (ps := ["least", "most", "thing"]) fun _ _ _ _ _ _ us hl => match us, hl with | [_, _, _], _ => rfl
  have b_ii := F_ii.binds (ps := ["many", "thing"]) fun _ _ _ _ _ _ us hl => match us, hl with | [_, _], _ => rfl
  have b_ck := F_ck.binds (ps := ["size", "state"]) fun _ _ _ _ _ _ us hl => match us, hl with | [_, _], _ => rfl
  have b_nm := F_nm.binds (ps := ["thing"]) fun _ _ _ _ _ _ us hl => match us, hl with | [_], _ => rfl
  have b_tu := F_tu.binds (ps := ["many", "thing"]) fun _ _ _ _ _ _ us hl => match us, hl with | [_, _], _ => rfl
  have b_tb := F_tb.binds (ps := ["least", "most", "thing"]) fun _ _ _ _ _ _ us hl => match us, hl with | [_, _, _], _ => rfl
  have b_nr := F_nr.binds (ps := ["many", "thing"]) fun _ _ _ _ _ _ us hl => match us, hl with | [_, _], _ => rfl
  have b_add := F_add.binds (ps := ["self", "other"]) fun _ _ _ _ _ _ us hl => match us, hl with | [_, _], _ => rfl
  have b_radd := F_radd.binds (ps := ["self", "other"]) fun _ _ _ _ _ _ us hl => match us, hl with | [_, _], _ => rfl
  have b_neg := F_neg.binds (ps := ["self"]) fun _ _ _ _ _ _ us hl => match us, hl with | [_], _ => rfl
  have b_sub := F_sub.binds (ps := ["self", "other"]) fun _ _ _ _ _ _ us hl => match us, hl with | [_, _], _ => rfl
  have b_mul := F_mul.binds (ps := ["self", "other"]) fun _ _ _ _ _ _ us hl => match us, hl with | [_, _], _ => rfl
  have b_over := F_over.binds (ps := ["self", "other"]) fun _ _ _ _ _ _ us hl => match us, hl with | [_, _], _ => rfl
  have b_eq := F_eq.binds (ps := ["self", "other"]) fun _ _ _ _ _ _ us hl => match us, hl with | [_, _], _ => rfl
  have b_less := F_less.binds (ps := ["self", "other"]) fun _ _ _ _ _ _ us hl => match us, hl with | [_, _], _ => rfl
  have b_ish := F_ish.binds (ps := ["thing"]) fun _ _ _ _ _ _ us hl => match us, hl with | [_], _ => rfl
  have b_sof := F_sof.binds (ps := ["thing"]) fun _ _ _ _ _ _ us hl => match us, hl with | [_], _ => rfl
  have b_shs := F_shs.binds (ps := ["row"]) fun _ _ _ _ _ _ us hl => match us, hl with | [_], _ => rfl
  have b_tot := F_tot.binds (ps := ["row"]) fun _ _ _ _ _ _ us hl => match us, hl with | [_], _ => rfl
  have b_f0 := F_f0.binds (ps := ["thing"]) fun _ _ _ _ _ _ us hl => match us, hl with | [_], _ => rfl
  have b_spr := F_spr.binds (ps := ["many", "thing"]) fun _ _ _ _ _ _ us hl => match us, hl with | [_, _], _ => rfl
  have b_CI := F_CI.binds (ps := ["self", "rows", "labels"]) fun _ _ _ _ _ _ us hl => match us, hl with | [_, _, _], _ => rfl
  have b_crow := F_crow.binds (ps := ["self", "state"]) fun _ _ _ _ _ _ us hl => match us, hl with | [_, _], _ => rfl
  have b_ceq := F_ceq.binds (ps := ["self", "other"]) fun _ _ _ _ _ _ us hl => match us, hl with | [_, _], _ => rfl
  have b_ip := F_ip.binds (ps := ["many"]) fun _ _ _ _ _ _ us hl => match us, hl with | [_], _ => rfl
  have b_up := F_up.binds (ps := ["many"]) fun _ _ _ _ _ _ us hl => match us, hl with | [_], _ => rfl
  have b_wz := F_wz.binds (ps := ["amounts"]) fun _ _ _ _ _ _ us hl => match us, hl with | [_], _ => rfl
  have b_fr := F_fr.binds (ps := ["p", "q"]) fun _ _ _ _ _ _ us hl => match us, hl with | [_, _], _ => rfl
  have b_cl := F_cl.binds (ps := ["p", "q"]) fun _ _ _ _ _ _ us hl => match us, hl with | [_, _], _ => rfl
  have b_frs := F_frs.binds (ps := ["chain"]) fun _ _ _ _ _ _ us hl => match us, hl with | [_], _ => rfl
  have b_cls := F_cls.binds (ps := ["chain"]) fun _ _ _ _ _ _ us hl => match us, hl with | [_], _ => rfl
  have b_pool := F_pool.binds (ps := ["_law_script"]) fun _ _ _ _ _ _ us hl => match us, hl with | [_], _ => rfl
  have b_draw := F_draw.binds (ps := ["_law_pool_here", "_law_many"]) fun _ _ _ _ _ _ us hl => match us, hl with | [_, _], _ => rfl
  have b_pick := F_pick.binds (ps := ["_law_pool_here", "_law_things"]) fun _ _ _ _ _ _ us hl => match us, hl with | [_, _], _ => rfl
  have b_name := F_name.binds (ps := ["_law_pool_here", "_law_taken"]) fun _ _ _ _ _ _ us hl => match us, hl with | [_, _], _ => rfl
  have b_lab := F_lab.binds (ps := ["_law_pool_here", "_law_size_here"]) fun _ _ _ _ _ _ us hl => match us, hl with | [_, _], _ => rfl
  have b_tops := F_tops.binds (ps := ["_law_pool_here", "_law_size_here"]) fun _ _ _ _ _ _ us hl => match us, hl with | [_, _], _ => rfl
  have b_mov := F_mov.binds (ps := ["_law_pool_here", "_law_tops_here"]) fun _ _ _ _ _ _ us hl => match us, hl with | [_, _], _ => rfl
  have b_ali := F_ali.binds (ps := ["_law_pool_here", "_law_size_here"]) fun _ _ _ _ _ _ us hl => match us, hl with | [_, _], _ => rfl
  have b_trn := F_trn.binds (ps := ["_law_pool_here", "_law_size_here"]) fun _ _ _ _ _ _ us hl => match us, hl with | [_, _], _ => rfl
  have b_par := F_par.binds (ps := ["_law_pool_here", "_law_size_here"]) fun _ _ _ _ _ _ us hl => match us, hl with | [_, _], _ => rfl
  have b_sta := F_sta.binds (ps := ["_law_pool_here", "_law_size_here"]) fun _ _ _ _ _ _ us hl => match us, hl with | [_, _], _ => rfl
  have b_rows := F_rows.binds (ps := ["_law_pool_here", "_law_size_here"]) fun _ _ _ _ _ _ us hl => match us, hl with | [_, _], _ => rfl
  have b_size := F_size.binds (ps := ["_law_pool_here", "_law_most"]) fun _ _ _ _ _ _ us hl => match us, hl with | [_, _], _ => rfl
  have b_lsp := F_lsp.binds (ps := ["_law_tops_here"]) fun _ _ _ _ _ _ us hl => match us, hl with | [_], _ => rfl
  have b_wor := F_wor.binds (ps := ["_law_pool_here", "_law_most"]) fun _ _ _ _ _ _ us hl => match us, hl with | [_, _], _ => rfl
  have b_lle := F_lle.binds (ps := ["_law_one", "_law_other"]) fun _ _ _ _ _ _ us hl => match us, hl with | [_, _], _ => rfl
  have b_lto := F_lto.binds (ps := ["_law_shares"]) fun _ _ _ _ _ _ us hl => match us, hl with | [_], _ => rfl
  have b_lpr := F_lpr.binds (ps := ["_law_size_here"]) fun _ _ _ _ _ _ us hl => match us, hl with | [_], _ => rfl
  have b_lul := F_lul.binds (ps := ["_law_size_here"]) fun _ _ _ _ _ _ us hl => match us, hl with | [_], _ => rfl
  have b_lfr := F_lfr.binds (ps := ["_law_p", "_law_q"]) fun _ _ _ _ _ _ us hl => match us, hl with | [_, _], _ => rfl
  have b_lcl := F_lcl.binds (ps := ["_law_p", "_law_q"]) fun _ _ _ _ _ _ us hl => match us, hl with | [_, _], _ => rfl
  have b_due := F_due.binds (ps := ["_law_rows_here", "_law_close_here"]) fun _ _ _ _ _ _ us hl => match us, hl with | [_, _], _ => rfl
  have b_ask := F_ask.binds (ps := ["_law_chain", "_law_close_here"]) fun _ _ _ _ _ _ us hl => match us, hl with | [_, _], _ => rfl
  have b_lix := F_lix.binds (ps := ["_law_size_here", "_law_thing"]) fun _ _ _ _ _ _ us hl => match us, hl with | [_, _], _ => rfl
  have b_lip := F_lip.binds (ps := ["_law_size_here", "_law_thing"]) fun _ _ _ _ _ _ us hl => match us, hl with | [_, _], _ => rfl
  have b_ris := F_ris.binds (ps := ["_law_things"]) fun _ _ _ _ _ _ us hl => match us, hl with | [_], _ => rfl
  have b_tld := F_tld.binds (ps := ["_law_size_here", "_law_plan"]) fun _ _ _ _ _ _ us hl => match us, hl with | [_, _], _ => rfl
  have b_same := F_same.binds (ps := ["_law_size_here", "_law_told", "_law_due_here"]) fun _ _ _ _ _ _ us hl => match us, hl with | [_, _, _], _ => rfl
  obtain ⟨d2, v2, bSI2⟩ := F_SI.binds1 (ps := ["self", "top", "bottom"]) 3 1 (by simp) rfl fun _ _ _ _ _ _ _ us its hu hi => match us, its, hu, hi with | [_, _, _], [_], _, _ => ⟨_, rfl, rfl⟩
  cases v2
  obtain ⟨dsS, vS, bSI1⟩ := F_SI.binds1 (ps := ["self", "top", "bottom"]) 2 0 (by simp) rfl fun _ _ _ _ _ _ _ us its hu hi => match us, its, hu, hi with | [_, _], [_], _, _ => ⟨_, rfl, rfl⟩
  obtain ⟨d3, v3, bWE⟩ := F_WE.binds1 (ps := ["self", "words"]) 2 1 (by simp) rfl fun _ _ _ _ _ _ _ us its hu hi => match us, its, hu, hi with | [_, _], [_], _, _ => ⟨_, rfl, rfl⟩
  cases v3
  have bn : Bn mg := ⟨PySem.W.mg_none_of X G n_isinstance, PySem.W.mg_none_of X G n_int, PySem.W.mg_none_of X G n_bool, PySem.W.mg_none_of X G n_abs, PySem.W.mg_none_of X G n_len, PySem.W.mg_none_of X G n_str, PySem.W.mg_none_of X G n_divmod, PySem.W.mg_none_of X G n_ValueError⟩
  have T : Bm mg := ⟨bn, PySem.W.mg_none_of X G n_list, PySem.W.mg_none_of X G n_tuple, PySem.W.mg_none_of X G n_range, PySem.W.mg_none_of X G n_sum, PySem.W.mg_none_of X G n_min, PySem.W.mg_none_of X G n_max, PySem.W.mg_none_of X G n_all⟩
  have m_zip := PySem.W.mg_none_of X G n_zip
  have m_dict := PySem.W.mg_none_of X G n_dict
  have itS : InsT K C := ⟨⟨pgS, hdS, poS, saS⟩, haS, hn, htk, hmS, kit_sub uS_int (by decide +kernel), kit_sub uS_bool (by decide +kernel), kit_self K C, kit_from hdS tCS (l := [.type "int", .type "object"]) (by decide +kernel) (by decide +kernel), kit_from hdS tCS (l := [.type "bool", .type "int", .type "object"]) (by decide +kernel) (by decide +kernel), kit_from hdS tCS (l := [.type "NoneType", .type "object"]) (by decide +kernel) (by decide +kernel), kit_from hdS tCS (l := [.type "str", .type "object"]) (by decide +kernel) (by decide +kernel), kit_from hdS tCS (l := [.type "list", .type "object"]) (by decide +kernel) (by decide +kernel), kit_from hdS tCS (l := [.type "tuple", .type "object"]) (by decide +kernel) (by decide +kernel), kit_from hdS tCS (l := [.type "dict", .type "object"]) (by decide +kernel) (by decide +kernel)⟩
  have itC : InsT K CC := ⟨⟨pgC, hdC, poC, saC⟩, haC, hn, htk, hmC, kit_sub uC_int (by decide +kernel), kit_sub uC_bool (by decide +kernel), kit_self K CC, kit_from hdC tCC (l := [.type "int", .type "object"]) (by decide +kernel) (by decide +kernel), kit_from hdC tCC (l := [.type "bool", .type "int", .type "object"]) (by decide +kernel) (by decide +kernel), kit_from hdC tCC (l := [.type "NoneType", .type "object"]) (by decide +kernel) (by decide +kernel), kit_from hdC tCC (l := [.type "str", .type "object"]) (by decide +kernel) (by decide +kernel), kit_from hdC tCC (l := [.type "list", .type "object"]) (by decide +kernel) (by decide +kernel), kit_from hdC tCC (l := [.type "tuple", .type "object"]) (by decide +kernel) (by decide +kernel), kit_from hdC tCC (l := [.type "dict", .type "object"]) (by decide +kernel) (by decide +kernel)⟩
  have sh : ShT K mg C := { bn := bn, it := itS, nT := nT, nB := nBm, g_gcd := PySem.W.mg_of X G aG, g_Share := PySem.W.mg_of X G aS }
  have t : ChT K mg CC := { it := itC, nS := nSz, nR := nRw, nL := nLb, gC := PySem.W.mg_of X G aC, gM := ⟨tk, PySem.W.mg_of X G aM⟩ }
  have gL : ∃ t, mg "LETTERS" = some (.str abc t) := ⟨tkL, PySem.W.mg_of X G aL⟩
  have tuS : PySem.W.kitOne K (.ref C) (.type "tuple") = some false := kit_sub uS_tuple (by decide +kernel)
  have nt : NoTxt K C := ⟨uS_str, uS_bytes, uS_bytearray⟩
  have kc : ∃ b, PySem.W.kitOne K (.ref CC) (.ref C) = some b := by
    by_cases e : (Value.ref CC == Value.ref C) = true
    · exact ⟨true, if_pos e⟩
    · refine ⟨false, ?_⟩
      show (if (Value.ref CC == Value.ref C) = true then some true else PySem.W.kitCls K (.ref CC) (.ref C)) = some false
      rw [if_neg e]
      exact kit_cref hdS tCS uCS
  have gW : mg "WalkError" = some (.ref W) := PySem.W.mg_of X G aW
  have ON : OexC K BN := { cls := ⟨_, _, _, _, _, _, _, _, _, _, _, _, _, _, _, xN, rN⟩, sa := saN, exC := exN, tyC := tN, kC := kN }
  have OB : OexC K BS := { cls := ⟨_, _, _, _, _, _, _, _, _, _, _, _, _, _, _, xB, rB⟩, sa := saB, exC := exB, tyC := tB, kC := kB }
  have cW : ClsFn K W (.type "type") "__init__" f_WE := ⟨rdW, gaW, fcW, k_WE⟩
  have ownS : OwnT K C f_eq := { q := ⟨a_eq, neS, hmS, i_eq⟩, sint := uS_int, sbool := uS_bool, snon := uS_NoneType, sstr := uS_str, slst := uS_list, stup := uS_tuple, sdct := uS_dict }
  have ownC : OwnT K CC f_ceq := { q := ⟨a_ceq, neC, hmC, i_ceq⟩, sint := uC_int, sbool := uC_bool, snon := uC_NoneType, sstr := uC_str, slst := uC_list, stup := uC_tuple, sdct := uC_dict }
  have LA : ArL K C .Add "+" "add" f_add := ⟨rfl, sf, d_add, i_add⟩
  have RA : ArR K C "add" f_radd := ⟨e_add, i_radd, ⟨_, o_add⟩, PySem.F.fills_int_add, upC, uS_int, _, PySem.F.slot_int_add, OA.dec_add⟩
  have LM : ArL K C .Mult "*" "mul" f_mul := ⟨rfl, sf, d_mul, i_mul⟩
  have RM : ArR K C "mul" f_rmul := ⟨e_mul, i_rmul, ⟨_, o_mul⟩, PySem.F.fills_int_mul, upC, uS_int, _, PySem.F.slot_int_mul, OA.dec_mul⟩
  have LS : ArL K C .Sub "-" "sub" f_sub := ⟨rfl, sf, d_sub, i_sub⟩
  have RS : ArR K C "sub" f_rsub := ⟨e_sub, i_rsub, ⟨_, o_sub⟩, PySem.F.fills_int_sub, upC, uS_int, _, PySem.F.slot_int_sub, OA.dec_sub⟩
  have cs : ∀ base : Heap, LawT l.prog w K mg base C CC BS := by
    intro base
    have n_ok_WE : FnOk l.prog w K mg base CX0 1 f_WE _ ["self", "words"] (spWE K) := ok_WE F_WE bn vV
    have n_ok_BS : FnOk l.prog w K mg base CX0 2 f_BS _ ["self", "top", "bottom"] (spBS K BS) := ok_BS F_BS gW cW n_ok_WE bWE
    have n_ok_NS : FnOk l.prog w K mg base CX0 2 f_NS _ ["self", "state"] (spNS K BN) := ok_NS F_NS gW cW n_ok_WE bWE
    have Bt : BsT l.prog w K mg base BS := { O := OB, nt := ntB, nb := nbB, gB := PySem.W.mg_of X G aB, made := ⟨_, _, a_BS, tfB, n_ok_BS, b_BS⟩ }
    have Ns : NsT l.prog w K mg base BN := { O := ON, nf := nst, gB := PySem.W.mg_of X G aN, made := ⟨_, _, a_NS, tfN, n_ok_NS, b_NS⟩ }
    have c_iw : Cal l.prog w K mg base 1 "is_whole" ["thing"] (spWhole K C) := ⟨_, _, PySem.W.mg_of X G a_iw, k_iw, ok_is_whole F_iw bn itS, b_iw⟩
    have c_iw2 : Cal l.prog w K mg base 1 "is_whole" ["thing"] (spWhole2 K C CC) := ⟨_, _, PySem.W.mg_of X G a_iw, k_iw, ok_is_whole2 F_iw bn itS itC, b_iw⟩
    have c_ib : Cal l.prog w K mg base 2 "is_between" ["least", "most", "thing"] (spBetween K C CC) := ⟨_, _, PySem.W.mg_of X G a_ib, k_ib, ok_is_between F_ib c_iw2, b_ib⟩
    have c_ii : Cal l.prog w K mg base 3 "is_index" ["many", "thing"] (spIndex K C CC) := ⟨_, _, PySem.W.mg_of X G a_ii, k_ii, ok_is_index F_ii c_ib, b_ii⟩
    have c_ck : CalX l.prog w K mg base 4 "check_state" ["size", "state"] (spCheck K C CC BN) := ⟨_, _, PySem.W.mg_of X G a_ck, k_ck, ok_check F_ck c_ii Ns, b_ck⟩
    have c_nm : Cal l.prog w K mg base 1 "is_name" ["thing"] spIsName := ⟨_, _, PySem.W.mg_of X G a_nm, k_nm, ok_is_name F_nm T gL, b_nm⟩
    have c_tu : Cal l.prog w K mg base 1 "is_tuple_of" ["many", "thing"] (spTupOf K C) := ⟨_, _, PySem.W.mg_of X G a_tu, k_tu, ok_tupOf F_tu sh T.n_tuple tuS, b_tu⟩
    have c_tb : Cal l.prog w K mg base 1 "is_tuple_between" ["least", "most", "thing"] spTupBet := ⟨_, _, PySem.W.mg_of X G a_tb, k_tb, ok_tupBet F_tb T, b_tb⟩
    have c_nr : Cal l.prog w K mg base 2 "is_name_row" ["many", "thing"] spNameRow := ⟨_, _, PySem.W.mg_of X G a_nr, k_nr, ok_nameRow F_nr T c_tu c_nm, b_nr⟩
    have n_ok_SI : FnOk l.prog w K mg base (L2.CX l.prog w) 4 f_SI _ ["self", "top", "bottom"] (spSI K C BS) := ok_SI F_SI sh Bt c_iw
    have m : MkT l.prog w K mg base C BS := { ex := ⟨_, _, _, ⟨mkS, a_SI, i_SI, kcS⟩, n_ok_SI, bSI2, vS, bSI1⟩, gS := sh.g_Share }
    have n_ok_eq : FnOk l.prog w K mg base CX0 2 f_eq _ ["self", "other"] (spOwn (EqS K C)) := ok_eq F_eq sh c_iw
    have eqT : EqT l.prog w K mg base C := ⟨_, _, ownS, n_ok_eq, b_eq⟩
    have c_ish : Cal l.prog w K mg base 2 "is_share" ["thing"] (spIsShare K C) := ⟨_, _, PySem.W.mg_of X G a_ish, k_ish, ok_is_share F_ish sh c_iw, b_ish⟩
    have c_sof : Cal l.prog w K mg base 6 "share_of" ["thing"] (spShareOf C) := ⟨_, _, PySem.W.mg_of X G a_sof, k_sof, ok_share_of F_sof sh m, b_sof⟩
    have n_ok_less : FnOk l.prog w K mg base CX0 7 f_less _ ["self", "other"] (spLess C) := ok_sless F_less sh c_sof
    have ls : LsT l.prog w K mg base C := ⟨_, _, ⟨a_less, i_less, k_less⟩, n_ok_less, b_less⟩
    have n_ok_add : FnOk l.prog w K mg base CX0 7 f_add _ ["self", "other"] (spAdd C) := ok_add F_add sh m c_ish c_sof
    have adL : ArTL l.prog w K mg base C .Add "+" "add" 7 (spAdd C) := ⟨_, _, _, LA, RA, n_ok_add, b_add⟩
    have n_ok_radd : FnOk l.prog w K mg base CX0 8 f_radd _ ["self", "other"] (spRadd C) := ok_radd F_radd c_iw adL
    have ad : AddT l.prog w K mg base C := ⟨_, _, _, _, LA, RA, n_ok_add, b_add, n_ok_radd, b_radd⟩
    have n_ok_neg : FnOk l.prog w K mg base CX0 6 f_neg _ ["self"] (spNeg C) := ok_neg F_neg sh m
    have ng : NegT l.prog w K mg base C 6 (spNeg C) := ⟨_, _, a_neg, i_neg, n_ok_neg, b_neg⟩
    have n_ok_sub : FnOk l.prog w K mg base CX0 8 f_sub _ ["self", "other"] (spSub C) := ok_sub F_sub c_ish adL ng
    have sbL : ArTL l.prog w K mg base C .Sub "-" "sub" 8 (spSub C) := ⟨_, _, _, LS, RS, n_ok_sub, b_sub⟩
    have n_ok_mul : FnOk l.prog w K mg base CX0 7 f_mul _ ["self", "other"] (spMul C) := ok_mul F_mul sh m c_ish c_sof
    have mul : MulL l.prog w K mg base C := ⟨_, _, _, LM, RM, n_ok_mul, b_mul⟩
    have n_ok_over : FnOk l.prog w K mg base (L2.CX l.prog w) 7 f_over _ ["self", "other"] (spOver K C BS) := ok_over F_over sh m Bt c_ish c_sof eqT
    have ov : OverT l.prog w K mg base C BS := ⟨_, _, ⟨a_over, i_over, k_over⟩, n_ok_over, b_over⟩
    have c_shs : Cal l.prog w K mg base 7 "shares_of" ["row"] (spSharesOf C) := ⟨_, _, PySem.W.mg_of X G a_shs, k_shs, ok_shares_of F_shs T c_sof, b_shs⟩
    have c_tot : Cal l.prog w K mg base 10 "total" ["row"] (spTotal K C) := ⟨_, _, PySem.W.mg_of X G a_tot, k_tot, ok_total F_tot m nt T.n_sum ad, b_tot⟩
    have c_f0 : Cal l.prog w K mg base 8 "is_from_zero" ["thing"] (spFrom0 K C) := ⟨_, _, PySem.W.mg_of X G a_f0, k_f0, ok_from0 F_f0 sh c_ish c_sof ls, b_f0⟩
    have c_spr : Cal l.prog w K mg base 11 "is_spread" ["many", "thing"] (spSpread K C) := ⟨_, _, PySem.W.mg_of X G a_spr, k_spr, ok_spread F_spr T.n_all c_tu c_f0 c_tot eqT, b_spr⟩
    have c_totL : Cal l.prog w K mg base 10 "total" ["row"] (spTotalL C) := ⟨_, _, PySem.W.mg_of X G a_tot, k_tot, ok_totalL F_tot m nt T.n_sum ad, b_tot⟩
    have n_ok_CI : FnOk l.prog w K mg base CX0 12 f_CI _ ["self", "rows", "labels"] (spCI C CC) := ok_CI F_CI T t c_spr c_tb c_nr c_shs
    have mc : MkC l.prog w K mg base C CC := { ex := ⟨_, _, ⟨mkC, a_CI, i_CI, kcC⟩, n_ok_CI, b_CI⟩, gC := t.gC }
    have n_ok_crow : FnOk l.prog w K mg base CX0 5 f_crow _ ["self", "state"] (spChRow C CC) := ok_chrow F_crow t c_ck
    have rt : RowT l.prog w K mg base C CC := ⟨_, _, ⟨a_crow, i_crow, k_crow⟩, n_ok_crow, b_crow⟩
    have n_ok_ceq : FnOk l.prog w K mg base CX0 1 f_ceq _ ["self", "other"] (spOwn (EqM CC)) := ok_ceq F_ceq t bn.n_isinstance
    have ceT : EqMT l.prog w K mg base CC := ⟨_, _, ownC, n_ok_ceq, b_ceq⟩
    have c_ip : Cal l.prog w K mg base 1 "index_pairs" ["many"] spIxPrs := ⟨_, _, PySem.W.mg_of X G a_ip, k_ip, ok_index_pairs F_ip T, b_ip⟩
    have c_up : Cal l.prog w K mg base 2 "unlike_pairs" ["many"] spUnlike := ⟨_, _, PySem.W.mg_of X G a_up, k_up, ok_unlike F_up c_ip, b_up⟩
    have c_wz : Cal l.prog w K mg base 4 "without_zeros" ["amounts"] (spWZ C) := ⟨_, _, PySem.W.mg_of X G a_wz, k_wz, ok_wz F_wz eqT, b_wz⟩
    have clo : CloT l.prog w K mg base C BS := { T := T, sh := sh, n_zip := m_zip, m := m, eq := eqT, ad := adL, sb := sbL, ml := mul, ls := ls, ov := ov, tot := c_totL, ip := c_ip, wz := c_wz }
    have c_fr : Cal l.prog w K mg base 8 "free_tie" ["p", "q"] (spFree C) := ⟨_, _, PySem.W.mg_of X G a_fr, k_fr, ok_free F_fr T mul c_ip c_wz, b_fr⟩
    have c_cl : Cal l.prog w K mg base 11 "close_tie" ["p", "q"] (spClose C) := ⟨_, _, PySem.W.mg_of X G a_cl, k_cl, ok_close F_cl clo, b_cl⟩
    have c_frs : Cal l.prog w K mg base 9 "free_ties" ["chain"] (spTies C CC freeM) := ⟨_, _, PySem.W.mg_of X G a_frs, k_frs, ok_frees F_frs t rt c_up c_fr, b_frs⟩
    have c_cls : Cal l.prog w K mg base 12 "close_ties" ["chain"] (spTies C CC closeM) := ⟨_, _, PySem.W.mg_of X G a_cls, k_cls, ok_closes F_cls t rt c_up c_cl, b_cls⟩
    have c_pool : Cal l.prog w K mg base 1 "_law_pool" ["_law_script"] (spPool K) := ⟨_, _, PySem.W.mg_of X G a_pool, k_pool, ok_pool F_pool bn, b_pool⟩
    have c_draw : Cal l.prog w K mg base 1 "_law_draw" ["_law_pool_here", "_law_many"] spDraw := ⟨_, _, PySem.W.mg_of X G a_draw, k_draw, ok_draw F_draw bn, b_draw⟩
    have c_pick : Cal l.prog w K mg base 2 "_law_pick" ["_law_pool_here", "_law_things"] spPickQ := ⟨_, _, PySem.W.mg_of X G a_pick, k_pick, ok_pickQ F_pick bn c_draw, b_pick⟩
    have c_name : Cal l.prog w K mg base 2 "_law_name" ["_law_pool_here", "_law_taken"] spName := ⟨_, _, PySem.W.mg_of X G a_name, k_name, ok_name F_name T c_draw, b_name⟩
    have c_lab : Cal l.prog w K mg base 3 "_law_labels" ["_law_pool_here", "_law_size_here"] spLabels := ⟨_, _, PySem.W.mg_of X G a_lab, k_lab, ok_labels F_lab T c_draw c_name, b_lab⟩
    have c_tops : Cal l.prog w K mg base 2 "_law_tops" ["_law_pool_here", "_law_size_here"] spTops := ⟨_, _, PySem.W.mg_of X G a_tops, k_tops, ok_tops F_tops T c_draw, b_tops⟩
    have c_mov : Cal l.prog w K mg base 2 "_law_moved_bit" ["_law_pool_here", "_law_tops_here"] spMoved := ⟨_, _, PySem.W.mg_of X G a_mov, k_mov, ok_moved F_mov T c_draw, b_mov⟩
    have c_ali : Cal l.prog w K mg base 3 "_law_rows_alike" ["_law_pool_here", "_law_size_here"] spRowsG := ⟨_, _, PySem.W.mg_of X G a_ali, k_ali, ok_alike F_ali T c_draw c_pick c_tops c_mov, b_ali⟩
    have c_trn : Cal l.prog w K mg base 3 "_law_rows_turning" ["_law_pool_here", "_law_size_here"] spRowsG := ⟨_, _, PySem.W.mg_of X G a_trn, k_trn, ok_turning F_trn T c_draw, b_trn⟩
    have c_par : Cal l.prog w K mg base 3 "_law_rows_parted" ["_law_pool_here", "_law_size_here"] spRowsG := ⟨_, _, PySem.W.mg_of X G a_par, k_par, ok_parted F_par T c_draw c_tops, b_par⟩
    have c_sta : Cal l.prog w K mg base 3 "_law_rows_stairs" ["_law_pool_here", "_law_size_here"] spRowsG := ⟨_, _, PySem.W.mg_of X G a_sta, k_sta, ok_stairs F_sta T c_draw, b_sta⟩
    have c_rows : Cal l.prog w K mg base 4 "_law_rows" ["_law_pool_here", "_law_size_here"] spRowsG := ⟨_, _, PySem.W.mg_of X G a_rows, k_rows, ok_rows F_rows T c_draw c_tops c_ali c_trn c_par c_sta, b_rows⟩
    have c_size : Cal l.prog w K mg base 2 "_law_size" ["_law_pool_here", "_law_most"] spSize := ⟨_, _, PySem.W.mg_of X G a_size, k_size, ok_size F_size T c_draw, b_size⟩
    have c_lsp : Cal l.prog w K mg base 6 "_law_spread" ["_law_tops_here"] (spSpreadL C) := ⟨_, _, PySem.W.mg_of X G a_lsp, k_lsp, ok_spreadL F_lsp T m, b_lsp⟩
    have c_wor : Cal l.prog w K mg base 7 "_law_world" ["_law_pool_here", "_law_most"] (spWorld C) := ⟨_, _, PySem.W.mg_of X G a_wor, k_wor, ok_world F_wor T c_size c_rows c_lab c_lsp, b_wor⟩
    have c_lle : Cal l.prog w K mg base 8 "_law_lesser" ["_law_one", "_law_other"] (spLesser C) := ⟨_, _, PySem.W.mg_of X G a_lle, k_lle, ok_lesser F_lle sh ls, b_lle⟩
    have c_lto : Cal l.prog w K mg base 8 "_law_total" ["_law_shares"] (spTotalL C) := ⟨_, _, PySem.W.mg_of X G a_lto, k_lto, ok_ltotal F_lto m adL, b_lto⟩
    have c_lpr : Cal l.prog w K mg base 1 "_law_pairs" ["_law_size_here"] spIxPrs := ⟨_, _, PySem.W.mg_of X G a_lpr, k_lpr, ok_lpairs F_lpr T, b_lpr⟩
    have c_lul : Cal l.prog w K mg base 2 "_law_unlike" ["_law_size_here"] spUnlike := ⟨_, _, PySem.W.mg_of X G a_lul, k_lul, ok_lunlike F_lul c_lpr, b_lul⟩
    have c_lfr : Cal l.prog w K mg base 8 "_law_free" ["_law_p", "_law_q"] (spFree C) := ⟨_, _, PySem.W.mg_of X G a_lfr, k_lfr, ok_lfree F_lfr T eqT mul c_lpr, b_lfr⟩
    have c_lcl : Cal l.prog w K mg base 9 "_law_close" ["_law_p", "_law_q"] (spClose C) := ⟨_, _, PySem.W.mg_of X G a_lcl, k_lcl, ok_lclose F_lcl clo c_lle c_lto c_lpr, b_lcl⟩
    have c_due : Cal l.prog w K mg base 10 "_law_due" ["_law_rows_here", "_law_close_here"] (spDue C) := ⟨_, _, PySem.W.mg_of X G a_due, k_due, ok_due F_due T c_lul c_lcl c_lfr, b_due⟩
    have c_ask : Cal l.prog w K mg base 13 "_law_ask" ["_law_chain", "_law_close_here"] (spAsk C CC) := ⟨_, _, PySem.W.mg_of X G a_ask, k_ask, ok_ask F_ask c_cls c_frs, b_ask⟩
    have c_lix : Cal l.prog w K mg base 1 "_law_is_index" ["_law_size_here", "_law_thing"] spIsIx := ⟨_, _, PySem.W.mg_of X G a_lix, k_lix, ok_isix F_lix bn, b_lix⟩
    have c_lip : Cal l.prog w K mg base 2 "_law_is_pair" ["_law_size_here", "_law_thing"] spIsPair := ⟨_, _, PySem.W.mg_of X G a_lip, k_lip, ok_ispr F_lip T c_lix, b_lip⟩
    have c_ris : Cal l.prog w K mg base 1 "_law_rising" ["_law_things"] spRising := ⟨_, _, PySem.W.mg_of X G a_ris, k_ris, ok_rising F_ris T, b_ris⟩
    have c_tld : Cal l.prog w K mg base 3 "_law_is_told" ["_law_size_here", "_law_plan"] (spTold C) := ⟨_, _, PySem.W.mg_of X G a_tld, k_tld, ok_told F_tld T sh m_dict c_lip c_ris, b_tld⟩
    have c_same : Cal l.prog w K mg base 4 "_law_same" ["_law_size_here", "_law_told", "_law_due_here"] (spSame C) := ⟨_, _, PySem.W.mg_of X G a_same, k_same, ok_same F_same T m_dict eqT c_lip c_tld, b_same⟩
    exact { T := T, t := t, m := m, mc := mc, ce := ceT, pool := c_pool, draw := c_draw, world := c_wor, tops := c_tops, labels := c_lab, spread := c_lsp, due := c_due, ask := c_ask, same := c_same }
  exact ⟨_, fun s v => .of_eq rfl, fun base _ _ => ok_law F_law (cs base)⟩
end
theorem walk {l : PySem.W.OpenLaw} {q : Program} {loose : List Str} {XP : (Str → Option Value) → Heap → Prop} {YP : World → Heap → Prop} {d : DefRec} {K : Params → PySem.W.Frag} (hn : l.most = some 63) (hdf : d.params.defaults = [])
    (hY : ∀ (w : World) (h : Heap), YP w h → (K w.params).In h)
    (F : ∀ (w : World) (mg : Str → Option Value) (fa : Addr) (h : Heap), (K w.params).In h → h.Ns mainGlobals mg → mg d.name = some (.ref fa) →
      ∃ fd : FuncData, (∀ (s : Shared) (u : Value), BindsTo s fd ⟨[u], []⟩ [("_law_script", u)]) ∧ ∀ base : Heap, (K w.params).In base → base.Ns mainGlobals mg → FnOk l.prog w (K w.params) mg base CX0 15 fa fd ["_law_script"] (spLaw (K w.params))) :
    PySem.W.WalkO q loose XP YP l.row.toRowW d [] (fun f vs => PySem.call f vs) :=
  L2.walk_of (n := 63) (k := 15) (x := "_law_script") (CX := fun _ => CX0) (sp := fun w => spLaw (K w.params)) hn (by decide) hdf ⟨rfl, by decide, by decide⟩ hY F (fun _ _ a ns hl _ hS => ⟨a, ns, rfl, hS, hl, fun _ => rfl⟩) fun _ _ _ _ _ z => z
end K8

set_option Elab.async false
set_option maxRecDepth 100000
open PySem PySem.W PyProof.Rows
set_option maxRecDepth 100000
set_option maxHeartbeats 0
open_top head for PySem.Challenge.rw_bothwalks_k28_free_and_close_ties

set_option Elab.async false
set_option maxRecDepth 100000
set_option maxHeartbeats 0
open PySem PySem.W PyProof.Rows
theorem PySem.Challenge.cw_bothwalks_k28_free_and_close_ties_holds : PySem.Challenge.rw_bothwalks_k28_free_and_close_ties.Holds := by
  refine head ?_
  k_fill
  refine K8.walk (l := PySem.Challenge.rw_bothwalks_k28_free_and_close_ties) rfl rfl (fun w h Y => PySem.W.kIn_of Y) ?F
  case F =>
    intro w mg fa h KX G hmg
    refine' K8.all_mk KX G hmg ?aC ?aS ?aW ?aN ?aB ?aM ?eM ?aL ?eL ?aG ?n_isinstance ?n_int ?n_bool ?n_abs ?n_len ?n_str ?n_divmod ?n_ValueError ?n_list ?n_tuple ?n_range ?n_sum ?n_min ?n_max ?n_all ?n_zip ?n_dict ?a_WE ?l_WE ?c_WE ?k_WE ?a_BS ?l_BS ?c_BS ?k_BS ?a_NS ?l_NS ?c_NS ?k_NS ?a_iw ?l_iw ?c_iw ?k_iw ?a_ib ?l_ib ?c_ib ?k_ib ?a_ii ?l_ii ?c_ii ?k_ii ?a_ck ?l_ck ?c_ck ?k_ck ?a_nm ?l_nm ?c_nm ?k_nm ?a_tu ?l_tu ?c_tu ?k_tu ?a_tb ?l_tb ?c_tb ?k_tb ?a_nr ?l_nr ?c_nr ?k_nr ?a_SI ?l_SI ?c_SI ?k_SI ?a_add ?l_add ?c_add ?k_add ?a_radd ?l_radd ?c_radd ?k_radd ?a_neg ?l_neg ?c_neg ?k_neg ?a_sub ?l_sub ?c_sub ?k_sub ?a_mul ?l_mul ?c_mul ?k_mul ?a_over ?l_over ?c_over ?k_over ?a_eq ?l_eq ?c_eq ?k_eq ?a_less ?l_less ?c_less ?k_less ?a_ish ?l_ish ?c_ish ?k_ish ?a_sof ?l_sof ?c_sof ?k_sof ?a_shs ?l_shs ?c_shs ?k_shs ?a_tot ?l_tot ?c_tot ?k_tot ?a_f0 ?l_f0 ?c_f0 ?k_f0 ?a_spr ?l_spr ?c_spr ?k_spr ?a_CI ?l_CI ?c_CI ?k_CI ?a_crow ?l_crow ?c_crow ?k_crow ?a_ceq ?l_ceq ?c_ceq ?k_ceq ?a_ip ?l_ip ?c_ip ?k_ip ?a_up ?l_up ?c_up ?k_up ?a_wz ?l_wz ?c_wz ?k_wz ?a_fr ?l_fr ?c_fr ?k_fr ?a_cl ?l_cl ?c_cl ?k_cl ?a_frs ?l_frs ?c_frs ?k_frs ?a_cls ?l_cls ?c_cls ?k_cls ?a_pool ?l_pool ?c_pool ?k_pool ?a_draw ?l_draw ?c_draw ?k_draw ?a_pick ?l_pick ?c_pick ?k_pick ?a_name ?l_name ?c_name ?k_name ?a_lab ?l_lab ?c_lab ?k_lab ?a_tops ?l_tops ?c_tops ?k_tops ?a_mov ?l_mov ?c_mov ?k_mov ?a_ali ?l_ali ?c_ali ?k_ali ?a_trn ?l_trn ?c_trn ?k_trn ?a_par ?l_par ?c_par ?k_par ?a_sta ?l_sta ?c_sta ?k_sta ?a_rows ?l_rows ?c_rows ?k_rows ?a_size ?l_size ?c_size ?k_size ?a_lsp ?l_lsp ?c_lsp ?k_lsp ?a_wor ?l_wor ?c_wor ?k_wor ?a_lle ?l_lle ?c_lle ?k_lle ?a_lto ?l_lto ?c_lto ?k_lto ?a_lpr ?l_lpr ?c_lpr ?k_lpr ?a_lul ?l_lul ?c_lul ?k_lul ?a_lfr ?l_lfr ?c_lfr ?k_lfr ?a_lcl ?l_lcl ?c_lcl ?k_lcl ?a_due ?l_due ?c_due ?k_due ?a_ask ?l_ask ?c_ask ?k_ask ?a_lix ?l_lix ?c_lix ?k_lix ?a_lip ?l_lip ?c_lip ?k_lip ?a_ris ?l_ris ?c_ris ?k_ris ?a_tld ?l_tld ?c_tld ?k_tld ?a_same ?l_same ?c_same ?k_same ?a_law ?l_law ?c_law ?k_law ?dSI ?dWE ?hn ?htk ?pgC ?hdC ?poC ?saC ?mkC ?kcC ?tCC ?haC ?hmC ?neC ?uC_int ?uC_bool ?uC_NoneType ?uC_str ?uC_list ?uC_tuple ?uC_dict ?pgS ?hdS ?poS ?saS ?mkS ?kcS ?tCS ?haS ?hmS ?neS ?uS_int ?uS_bool ?uS_NoneType ?uS_str ?uS_list ?uS_tuple ?uS_dict ?uS_bytes ?uS_bytearray ?uCS ?sf ?upC ?d_add ?e_add ?o_add ?d_mul ?e_mul ?o_mul ?d_sub ?e_sub ?o_sub ?nSz ?nRw ?nLb ?nT ?nBm ?i_SI ?i_eq ?i_add ?i_radd ?i_mul ?i_rmul ?i_sub ?i_rsub ?i_neg ?i_over ?i_less ?i_CI ?i_crow ?i_ceq ?xN ?rN ?saN ?exN ?tN ?kN ?hdN ?sBN ?xB ?rB ?saB ?exB ?tB ?kB ?hdB ?sBB ?nst ?ntB ?nbB ?tfN ?tfB ?rdW ?gaW ?fcW ?vV
    (case aC => k_is)
    (case aS => k_is)
    (case aW => k_is)
    (case aN => k_is)
    (case aB => k_is)
    (case aM => k_is)
    (case eM => decide +kernel)
    (case aL => k_is)
    (case eL => decide +kernel)
    (case aG => k_is)
    (case n_isinstance => k_is)
    (case n_int => k_is)
    (case n_bool => k_is)
    (case n_abs => k_is)
    (case n_len => k_is)
    (case n_str => k_is)
    (case n_divmod => k_is)
    (case n_ValueError => k_is)
    (case n_list => k_is)
    (case n_tuple => k_is)
    (case n_range => k_is)
    (case n_sum => k_is)
    (case n_min => k_is)
    (case n_max => k_is)
    (case n_all => k_is)
    (case n_zip => k_is)
    (case n_dict => k_is)
    (case a_WE => k_is)
    (case l_WE => k_is)
    (case c_WE => k_is)
    (case k_WE => k_is)
    (case a_BS => k_is)
    (case l_BS => k_is)
    (case c_BS => k_is)
    (case k_BS => k_is)
    (case a_NS => k_is)
    (case l_NS => k_is)
    (case c_NS => k_is)
    (case k_NS => k_is)
    (case a_iw => k_is)
    (case l_iw => k_is)
    (case c_iw => k_is)
    (case k_iw => k_is)
    (case a_ib => k_is)
    (case l_ib => k_is)
    (case c_ib => k_is)
    (case k_ib => k_is)
    (case a_ii => k_is)
    (case l_ii => k_is)
    (case c_ii => k_is)
    (case k_ii => k_is)
    (case a_ck => k_is)
    (case l_ck => k_is)
    (case c_ck => k_is)
    (case k_ck => k_is)
    (case a_nm => k_is)
    (case l_nm => k_is)
    (case c_nm => k_is)
    (case k_nm => k_is)
    (case a_tu => k_is)
    (case l_tu => k_is)
    (case c_tu => k_is)
    (case k_tu => k_is)
    (case a_tb => k_is)
    (case l_tb => k_is)
    (case c_tb => k_is)
    (case k_tb => k_is)
    (case a_nr => k_is)
    (case l_nr => k_is)
    (case c_nr => k_is)
    (case k_nr => k_is)
    (case a_SI => k_is)
    (case l_SI => k_is)
    (case c_SI => k_is)
    (case k_SI => k_is)
    (case a_add => k_is)
    (case l_add => k_is)
    (case c_add => k_is)
    (case k_add => k_is)
    (case a_radd => k_is)
    (case l_radd => k_is)
    (case c_radd => k_is)
    (case k_radd => k_is)
    (case a_neg => k_is)
    (case l_neg => k_is)
    (case c_neg => k_is)
    (case k_neg => k_is)
    (case a_sub => k_is)
    (case l_sub => k_is)
    (case c_sub => k_is)
    (case k_sub => k_is)
    (case a_mul => k_is)
    (case l_mul => k_is)
    (case c_mul => k_is)
    (case k_mul => k_is)
    (case a_over => k_is)
    (case l_over => k_is)
    (case c_over => k_is)
    (case k_over => k_is)
    (case a_eq => k_is)
    (case l_eq => k_is)
    (case c_eq => k_is)
    (case k_eq => k_is)
    (case a_less => k_is)
    (case l_less => k_is)
    (case c_less => k_is)
    (case k_less => k_is)
    (case a_ish => k_is)
    (case l_ish => k_is)
    (case c_ish => k_is)
    (case k_ish => k_is)
    (case a_sof => k_is)
    (case l_sof => k_is)
    (case c_sof => k_is)
    (case k_sof => k_is)
    (case a_shs => k_is)
    (case l_shs => k_is)
    (case c_shs => k_is)
    (case k_shs => k_is)
    (case a_tot => k_is)
    (case l_tot => k_is)
    (case c_tot => k_is)
    (case k_tot => k_is)
    (case a_f0 => k_is)
    (case l_f0 => k_is)
    (case c_f0 => k_is)
    (case k_f0 => k_is)
    (case a_spr => k_is)
    (case l_spr => k_is)
    (case c_spr => k_is)
    (case k_spr => k_is)
    (case a_CI => k_is)
    (case l_CI => k_is)
    (case c_CI => k_is)
    (case k_CI => k_is)
    (case a_crow => k_is)
    (case l_crow => k_is)
    (case c_crow => k_is)
    (case k_crow => k_is)
    (case a_ceq => k_is)
    (case l_ceq => k_is)
    (case c_ceq => k_is)
    (case k_ceq => k_is)
    (case a_ip => k_is)
    (case l_ip => k_is)
    (case c_ip => k_is)
    (case k_ip => k_is)
    (case a_up => k_is)
    (case l_up => k_is)
    (case c_up => k_is)
    (case k_up => k_is)
    (case a_wz => k_is)
    (case l_wz => k_is)
    (case c_wz => k_is)
    (case k_wz => k_is)
    (case a_fr => k_is)
    (case l_fr => k_is)
    (case c_fr => k_is)
    (case k_fr => k_is)
    (case a_cl => k_is)
    (case l_cl => k_is)
    (case c_cl => k_is)
    (case k_cl => k_is)
    (case a_frs => k_is)
    (case l_frs => k_is)
    (case c_frs => k_is)
    (case k_frs => k_is)
    (case a_cls => k_is)
    (case l_cls => k_is)
    (case c_cls => k_is)
    (case k_cls => k_is)
    (case a_pool => k_is)
    (case l_pool => k_is)
    (case c_pool => k_is)
    (case k_pool => k_is)
    (case a_draw => k_is)
    (case l_draw => k_is)
    (case c_draw => k_is)
    (case k_draw => k_is)
    (case a_pick => k_is)
    (case l_pick => k_is)
    (case c_pick => k_is)
    (case k_pick => k_is)
    (case a_name => k_is)
    (case l_name => k_is)
    (case c_name => k_is)
    (case k_name => k_is)
    (case a_lab => k_is)
    (case l_lab => k_is)
    (case c_lab => k_is)
    (case k_lab => k_is)
    (case a_tops => k_is)
    (case l_tops => k_is)
    (case c_tops => k_is)
    (case k_tops => k_is)
    (case a_mov => k_is)
    (case l_mov => k_is)
    (case c_mov => k_is)
    (case k_mov => k_is)
    (case a_ali => k_is)
    (case l_ali => k_is)
    (case c_ali => k_is)
    (case k_ali => k_is)
    (case a_trn => k_is)
    (case l_trn => k_is)
    (case c_trn => k_is)
    (case k_trn => k_is)
    (case a_par => k_is)
    (case l_par => k_is)
    (case c_par => k_is)
    (case k_par => k_is)
    (case a_sta => k_is)
    (case l_sta => k_is)
    (case c_sta => k_is)
    (case k_sta => k_is)
    (case a_rows => k_is)
    (case l_rows => k_is)
    (case c_rows => k_is)
    (case k_rows => k_is)
    (case a_size => k_is)
    (case l_size => k_is)
    (case c_size => k_is)
    (case k_size => k_is)
    (case a_lsp => k_is)
    (case l_lsp => k_is)
    (case c_lsp => k_is)
    (case k_lsp => k_is)
    (case a_wor => k_is)
    (case l_wor => k_is)
    (case c_wor => k_is)
    (case k_wor => k_is)
    (case a_lle => k_is)
    (case l_lle => k_is)
    (case c_lle => k_is)
    (case k_lle => k_is)
    (case a_lto => k_is)
    (case l_lto => k_is)
    (case c_lto => k_is)
    (case k_lto => k_is)
    (case a_lpr => k_is)
    (case l_lpr => k_is)
    (case c_lpr => k_is)
    (case k_lpr => k_is)
    (case a_lul => k_is)
    (case l_lul => k_is)
    (case c_lul => k_is)
    (case k_lul => k_is)
    (case a_lfr => k_is)
    (case l_lfr => k_is)
    (case c_lfr => k_is)
    (case k_lfr => k_is)
    (case a_lcl => k_is)
    (case l_lcl => k_is)
    (case c_lcl => k_is)
    (case k_lcl => k_is)
    (case a_due => k_is)
    (case l_due => k_is)
    (case c_due => k_is)
    (case k_due => k_is)
    (case a_ask => k_is)
    (case l_ask => k_is)
    (case c_ask => k_is)
    (case k_ask => k_is)
    (case a_lix => k_is)
    (case l_lix => k_is)
    (case c_lix => k_is)
    (case k_lix => k_is)
    (case a_lip => k_is)
    (case l_lip => k_is)
    (case c_lip => k_is)
    (case k_lip => k_is)
    (case a_ris => k_is)
    (case l_ris => k_is)
    (case c_ris => k_is)
    (case k_ris => k_is)
    (case a_tld => k_is)
    (case l_tld => k_is)
    (case c_tld => k_is)
    (case k_tld => k_is)
    (case a_same => k_is)
    (case l_same => k_is)
    (case c_same => k_is)
    (case k_same => k_is)
    (case a_law => k_is)
    (case l_law => k_is)
    (case c_law => k_is)
    (case k_law => k_is)
    (case dSI => k_is)
    (case dWE => k_is)
    (case hn => k_is)
    (case htk => k_is)
    (case pgC => k_is)
    (case hdC => k_is)
    (case poC => k_is)
    (case saC => k_is)
    (case mkC => k_is)
    (case kcC => k_is)
    (case tCC => k_is)
    (case haC => k_is)
    (case hmC => k_is)
    (case neC => k_is)
    (case uC_int => k_is)
    (case uC_bool => k_is)
    (case uC_NoneType => k_is)
    (case uC_str => k_is)
    (case uC_list => k_is)
    (case uC_tuple => k_is)
    (case uC_dict => k_is)
    (case pgS => k_is)
    (case hdS => k_is)
    (case poS => k_is)
    (case saS => k_is)
    (case mkS => k_is)
    (case kcS => k_is)
    (case tCS => k_is)
    (case haS => k_is)
    (case hmS => k_is)
    (case neS => k_is)
    (case uS_int => k_is)
    (case uS_bool => k_is)
    (case uS_NoneType => k_is)
    (case uS_str => k_is)
    (case uS_list => k_is)
    (case uS_tuple => k_is)
    (case uS_dict => k_is)
    (case uS_bytes => k_is)
    (case uS_bytearray => k_is)
    (case uCS => first | rfl | k_is)
    (case sf => k_is)
    (case upC => k_is)
    (case d_add => k_is)
    (case e_add => k_is)
    (case o_add => k_is)
    (case d_mul => k_is)
    (case e_mul => k_is)
    (case o_mul => k_is)
    (case d_sub => k_is)
    (case e_sub => k_is)
    (case o_sub => k_is)
    (case nSz => k_is)
    (case nRw => k_is)
    (case nLb => k_is)
    (case nT => k_is)
    (case nBm => k_is)
    (case i_SI => k_is)
    (case i_eq => k_is)
    (case i_add => k_is)
    (case i_radd => k_is)
    (case i_mul => k_is)
    (case i_rmul => k_is)
    (case i_sub => k_is)
    (case i_rsub => k_is)
    (case i_neg => k_is)
    (case i_over => k_is)
    (case i_less => k_is)
    (case i_CI => k_is)
    (case i_crow => k_is)
    (case i_ceq => k_is)
    (case xN => k_is)
    (case rN => first | rfl | decide +kernel | k_is)
    (case saN => k_is)
    (case exN => k_is)
    (case tN => k_is)
    (case kN => k_is)
    (case hdN => k_is)
    (case sBN => first | rfl | k_is)
    (case xB => k_is)
    (case rB => first | rfl | decide +kernel | k_is)
    (case saB => k_is)
    (case exB => k_is)
    (case tB => k_is)
    (case kB => k_is)
    (case hdB => k_is)
    (case sBB => first | rfl | k_is)
    (case nst => k_is)
    (case ntB => k_is)
    (case nbB => k_is)
    (case tfN => k_is)
    (case tfB => k_is)
    (case rdW => k_is)
    (case gaW => k_is)
    (case fcW => k_is)
    (case vV => k_is)


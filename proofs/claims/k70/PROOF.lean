import PyProof.Rows.All
import Wide.All
import OpenK.AllK
import Wide.FinOn
import PyProof.EqAt
import PyProof.EqKinds
import PyProof.NeKinds
import PyProof.TupleCall
import HandS.OwnEq
import HandS.IsInst
import HandS.ForMost
import HandS.ForExc
import HandS.ExcInit
import HandS.ExcField
import HandS.ExcIs
import HandS.Gcd
import HandS.FStr
import HandS.Wide
import HandS.WideBits
import HandS.Star
import HandS.EndBits
import HandS.ClsMeth
import PySem.Challenge.RW_bothwalks_k70_the_shortest_gathering_wor
import HandS.Defaults
import KE.KOpsOwn
import PyProof.SumAny
import HandS.SortKw
import HandS.Comp
import HandS.WordsExc
import HandS.DictComp
import HandS.Deep
import KE.KDictDisplayH
import HandS.TupMul
import KE.DataMinMax
import HandS.Conv
import HandS.TupAny
import HandS.Iter
import KE.KDictWalk
import HandS.Walk
import HandS.SetFor
import HandS.TupSets
import KE.GoesMore
import HandS.Strs
import PyProof.EnumMake
import HandS.More
import HandS.ListItems
import KE.KDictList
import HandS.DictTup
set_option Elab.async false
set_option linter.all false
set_option maxRecDepth 100000
set_option maxHeartbeats 4000000
/-! == and != where one side is an instance of an own class with an own __eq__ -/
namespace OC
open PySem PySem.SeqAt PySem.W
open AutoSeq1 (wpAny_loadPart')
open MeetsSeq MeetsSeq2 MeetsSeq3 SeqRoads2
def Is2 (op : CmpOp) : Prop := op = .Eq ∨ op = .NotEq
section
variable {prog : Program} {w : World} {A : Around} {E : Value → Shared → Prop} {s : Shared} {K : Frag} {x C f : Addr} {ox : Obj} {od : Option Obj}
/-- the built-in's own comparison hands back NotImplemented: nothing is known of it, nothing has changed -/
def Decl (prog : Program) (w : World) (A : Around) (s : Shared) (op : CmpOp) (a b : Value) : Prop :=
  ∀ (Q : Option Value → Shared → Prop) (E : Value → Shared → Prop), Q none s → wpAny (model prog w) A (tryCompare a (cmpInfo op).2.1 b) Q E s
theorem int_ref_eq (b : Int) (u : Tok) {o : Obj} (hd : o.data = .plain) (l : Addr) :
    Meets (Builtin.«int.__eq__» ⟨[.int b u, .ref l], []⟩) (fun _ R s => s.heap.get? l = some o ∧ R (.ok (.ret .notImplemented)) s) :=
  .of_wp fun prog w A R s h => by obtain ⟨cls, dd, data, sl⟩ := o; obtain ⟨hp, g, d, tk, os⟩ := s; obtain ⟨hl, h⟩ := h; simp only at hd; subst hd; wp_walk using wpAny_loadPart' hl, wpAny_load hl; exact ⟨_, rfl, h⟩
theorem int_ref_ne (b : Int) (u : Tok) {o : Obj} (hd : o.data = .plain) (l : Addr) :
    Meets (Builtin.«int.__ne__» ⟨[.int b u, .ref l], []⟩) (fun _ R s => s.heap.get? l = some o ∧ R (.ok (.ret .notImplemented)) s) :=
  .of_wp fun prog w A R s h => by obtain ⟨cls, dd, data, sl⟩ := o; obtain ⟨hp, g, d, tk, os⟩ := s; obtain ⟨hl, h⟩ := h; simp only at hd; subst hd; wp_walk using wpAny_loadPart' hl, wpAny_load hl; exact ⟨_, rfl, h⟩
theorem bool_ref_eq (b : Bool) {o : Obj} (hd : o.data = .plain) (l : Addr) :
    Meets (Builtin.«int.__eq__» ⟨[.bool b, .ref l], []⟩) (fun _ R s => s.heap.get? l = some o ∧ R (.ok (.ret .notImplemented)) s) :=
  .of_wp fun prog w A R s h => by obtain ⟨cls, dd, data, sl⟩ := o; obtain ⟨hp, g, d, tk, os⟩ := s; obtain ⟨hl, h⟩ := h; simp only at hd; subst hd; wp_walk using wpAny_loadPart' hl, wpAny_load hl; exact ⟨_, rfl, h⟩
theorem bool_ref_ne (b : Bool) {o : Obj} (hd : o.data = .plain) (l : Addr) :
    Meets (Builtin.«int.__ne__» ⟨[.bool b, .ref l], []⟩) (fun _ R s => s.heap.get? l = some o ∧ R (.ok (.ret .notImplemented)) s) :=
  .of_wp fun prog w A R s h => by obtain ⟨cls, dd, data, sl⟩ := o; obtain ⟨hp, g, d, tk, os⟩ := s; obtain ⟨hl, h⟩ := h; simp only at hd; subst hd; wp_walk using wpAny_loadPart' hl, wpAny_load hl; exact ⟨_, rfl, h⟩
theorem str_ref_eq (b : Str) (u : Tok) {o : Obj} (hd : o.data = .plain) (l : Addr) :
    Meets (Builtin.«str.__eq__» ⟨[.str b u, .ref l], []⟩) (fun _ R s => s.heap.get? l = some o ∧ R (.ok (.ret .notImplemented)) s) :=
  .of_wp fun prog w A R s h => by obtain ⟨cls, dd, data, sl⟩ := o; obtain ⟨hp, g, d, tk, os⟩ := s; obtain ⟨hl, h⟩ := h; simp only at hd; subst hd; wp_walk using wpAny_loadPart' hl, wpAny_load hl; exact ⟨_, rfl, h⟩
theorem str_ref_ne (b : Str) (u : Tok) {o : Obj} (hd : o.data = .plain) (l : Addr) :
    Meets (Builtin.«str.__ne__» ⟨[.str b u, .ref l], []⟩) (fun _ R s => s.heap.get? l = some o ∧ R (.ok (.ret .notImplemented)) s) :=
  .of_wp fun prog w A R s h => by obtain ⟨cls, dd, data, sl⟩ := o; obtain ⟨hp, g, d, tk, os⟩ := s; obtain ⟨hl, h⟩ := h; simp only at hd; subst hd; wp_walk using wpAny_loadPart' hl, wpAny_load hl; exact ⟨_, rfl, h⟩
theorem decl_int {op : CmpOp} (ho : Is2 op) (b : Int) (u : Tok) (hx : s.heap.get? x = some ox) (hd : ox.data = .plain) : Decl prog w A s op (.int b u) (.ref x) := fun Q E hq => by
  rcases ho with rfl | rfl
  · exact wpAny_tryCompare_declines (typeIs_int s b u) F.slot_int_eq (call_meets F.slot_int_eq (typeIs_int s b u) F.entry_int_eq (F.args_int_eq_2 _ _) (int_ref_eq b u hd x) ⟨hx, rfl, hq⟩)
  · exact wpAny_tryCompare_declines (typeIs_int s b u) F.slot_int_ne (call_meets F.slot_int_ne (typeIs_int s b u) F.entry_int_ne (F.args_int_ne_2 _ _) (int_ref_ne b u hd x) ⟨hx, rfl, hq⟩)
theorem decl_bool {op : CmpOp} (ho : Is2 op) (b : Bool) (hx : s.heap.get? x = some ox) (hd : ox.data = .plain) : Decl prog w A s op (.bool b) (.ref x) := fun Q E hq => by
  rcases ho with rfl | rfl
  · exact wpAny_tryCompare_declines (T := "bool") rfl F.slot_bool_eq (call_meets F.slot_bool_eq rfl F.entry_int_eq (F.args_int_eq_2 _ _) (bool_ref_eq b hd x) ⟨hx, rfl, hq⟩)
  · exact wpAny_tryCompare_declines (T := "bool") rfl F.slot_bool_ne (call_meets F.slot_bool_ne rfl F.entry_int_ne (F.args_int_ne_2 _ _) (bool_ref_ne b hd x) ⟨hx, rfl, hq⟩)
theorem decl_str {op : CmpOp} (ho : Is2 op) (b : Str) (u : Tok) (hx : s.heap.get? x = some ox) (hd : ox.data = .plain) : Decl prog w A s op (.str b u) (.ref x) := fun Q E hq => by
  rcases ho with rfl | rfl
  · exact wpAny_tryCompare_declines (typeIs_str s b u) F.slot_str_eq (call_meets F.slot_str_eq (typeIs_str s b u) F.entry_str_eq (F.args_str_eq_2 _ _) (str_ref_eq b u hd x) ⟨hx, rfl, hq⟩)
  · exact wpAny_tryCompare_declines (typeIs_str s b u) F.slot_str_ne (call_meets F.slot_str_ne (typeIs_str s b u) F.entry_str_ne (F.args_str_ne_2 _ _) (str_ref_ne b u hd x) ⟨hx, rfl, hq⟩)
theorem decl_none {op : CmpOp} (ho : Is2 op) : Decl prog w A s op .none (.ref x) := fun Q E hq => by
  rcases ho with rfl | rfl
  · exact wpAny_tryCompare_declines (T := "NoneType") rfl F.slot_NoneType_eq (call_gives F.slot_NoneType_eq rfl F.entry_NoneType_eq (F.args_NoneType_eq_2 _ _) (NoneType___eq___none_ref_0 x) ⟨rfl, hq⟩)
  · exact wpAny_tryCompare_declines (T := "NoneType") rfl F.slot_NoneType_ne (call_gives F.slot_NoneType_ne rfl F.entry_NoneType_ne (F.args_NoneType_ne_2 _ _) (NoneType___ne___none_ref_0 x) ⟨rfl, hq⟩)
end
end OC
set_option Elab.async false
set_option linter.all false
set_option maxRecDepth 100000
set_option maxHeartbeats 4000000
namespace OC
open PySem PySem.SeqAt PySem.W
open AutoSeq1 (wpAny_loadPart')
open MeetsSeq MeetsSeq2 MeetsSeq3 SeqRoads2
section
variable {prog : Program} {w : World} {A : Around} {E : Value → Shared → Prop} {s : Shared} {K : Frag} {x C f : Addr} {ox : Obj} {od : Option Obj}
theorem not_inst {M : Model} {h : Heap} {T : String} (X : K.In h) (I : InstAt h x ox C od) (hn : subIn K (.ref C) (.type T) = some false) : Looks M h (isInstance (.ref x) (.type T)) false :=
  I.type.andThen (looks_subIn X hn)
theorem tup_ref_eq (l : Addr) (items : Array Value) (n : Nat) (dd : Option Addr) (sl : Array (Option Value)) (x : Addr) :
    Meets (Builtin.«tuple.__eq__» ⟨[.ref l, .ref x], []⟩) (fun _ R s => (∀ M : Model, Looks M s.heap (isInstance (.ref x) (.type "tuple")) false) ∧ s.heap.get? l = some { cls := .type "tuple", dict := dd, data := .seq items n, slots := sl } ∧ R (.ok (.ret .notImplemented)) s) :=
  .of_wp fun prog w A R s h => by
    obtain ⟨hp, g, d, tk, os⟩ := s; obtain ⟨L0, hl, h⟩ := h
    have L := L0 (model prog w)
    unfold Builtin.«tuple.__eq__»
    repeat (first | with_reducible refine L.at ?_ | (refine wpAny_bind (m := isInstance (.ref x) (.type "tuple")) (L.at ?_)) | wp_step)
    exact ⟨_, rfl, h⟩
theorem tup_ref_ne (l : Addr) (items : Array Value) (n : Nat) (dd : Option Addr) (sl : Array (Option Value)) (x : Addr) :
    Meets (Builtin.«tuple.__ne__» ⟨[.ref l, .ref x], []⟩) (fun _ R s => (∀ M : Model, Looks M s.heap (isInstance (.ref x) (.type "tuple")) false) ∧ s.heap.get? l = some { cls := .type "tuple", dict := dd, data := .seq items n, slots := sl } ∧ R (.ok (.ret .notImplemented)) s) :=
  .of_wp fun prog w A R s h => by
    obtain ⟨hp, g, d, tk, os⟩ := s; obtain ⟨L0, hl, h⟩ := h
    have L := L0 (model prog w)
    unfold Builtin.«tuple.__ne__»
    repeat (first | with_reducible refine L.at ?_ | (refine wpAny_bind (m := isInstance (.ref x) (.type "tuple")) (L.at ?_)) | wp_step)
    exact ⟨_, rfl, h⟩
theorem list_ref_eq (l : Addr) (items : Array Value) (n : Nat) (dd : Option Addr) (sl : Array (Option Value)) (x : Addr) :
    Meets (Builtin.«list.__eq__» ⟨[.ref l, .ref x], []⟩) (fun _ R s => (∀ M : Model, Looks M s.heap (isInstance (.ref x) (.type "list")) false) ∧ s.heap.get? l = some { cls := .type "list", dict := dd, data := .seq items n, slots := sl } ∧ R (.ok (.ret .notImplemented)) s) :=
  .of_wp fun prog w A R s h => by
    obtain ⟨hp, g, d, tk, os⟩ := s; obtain ⟨L0, hl, h⟩ := h
    have L := L0 (model prog w)
    unfold Builtin.«list.__eq__»
    repeat (first | with_reducible refine L.at ?_ | (refine wpAny_bind (m := isInstance (.ref x) (.type "list")) (L.at ?_)) | wp_step)
    exact ⟨_, rfl, h⟩
theorem list_ref_ne (l : Addr) (items : Array Value) (n : Nat) (dd : Option Addr) (sl : Array (Option Value)) (x : Addr) :
    Meets (Builtin.«list.__ne__» ⟨[.ref l, .ref x], []⟩) (fun _ R s => (∀ M : Model, Looks M s.heap (isInstance (.ref x) (.type "list")) false) ∧ s.heap.get? l = some { cls := .type "list", dict := dd, data := .seq items n, slots := sl } ∧ R (.ok (.ret .notImplemented)) s) :=
  .of_wp fun prog w A R s h => by
    obtain ⟨hp, g, d, tk, os⟩ := s; obtain ⟨L0, hl, h⟩ := h
    have L := L0 (model prog w)
    unfold Builtin.«list.__ne__»
    repeat (first | with_reducible refine L.at ?_ | (refine wpAny_bind (m := isInstance (.ref x) (.type "list")) (L.at ?_)) | wp_step)
    exact ⟨_, rfl, h⟩
theorem dict_ref_eq (l : Addr) (x : Addr) {o : Obj} (ho : o.ExactDict) :
    Meets (Builtin.«dict.__eq__» ⟨[.ref l, .ref x], []⟩) (fun _ R s => (∀ M : Model, Looks M s.heap (isInstance (.ref x) (.type "dict")) false) ∧ s.heap.get? l = some o ∧ R (.ok (.ret .notImplemented)) s) :=
  .of_wp fun prog w A R s h => by
    obtain ⟨hp, g, d, tk, os⟩ := s; obtain ⟨L0, hl, h⟩ := h
    have L := L0 (model prog w)
    show wpAny _ _ (Builtin.Dict.dictSlotArgs "__eq__" ⟨[.ref l, .ref x], []⟩ >>= _) _ _ _
    repeat (first | with_reducible refine L.at ?_ | (refine wpAny_bind (m := isInstance (.ref x) (.type "dict")) (L.at ?_)) | wp_step)
    exact ⟨_, rfl, h⟩
theorem dict_ref_ne (l : Addr) (x : Addr) {o : Obj} (ho : o.ExactDict) :
    Meets (Builtin.«dict.__ne__» ⟨[.ref l, .ref x], []⟩) (fun _ R s => (∀ M : Model, Looks M s.heap (isInstance (.ref x) (.type "dict")) false) ∧ s.heap.get? l = some o ∧ R (.ok (.ret .notImplemented)) s) :=
  .of_wp fun prog w A R s h => by
    obtain ⟨hp, g, d, tk, os⟩ := s; obtain ⟨L0, hl, h⟩ := h
    have L := L0 (model prog w)
    show wpAny _ _ (Builtin.Dict.dictSlotArgs "__ne__" ⟨[.ref l, .ref x], []⟩ >>= _) _ _ _
    repeat (first | with_reducible refine L.at ?_ | (refine wpAny_bind (m := isInstance (.ref x) (.type "dict")) (L.at ?_)) | wp_step)
    exact ⟨_, rfl, h⟩
end
end OC
set_option Elab.async false
set_option linter.all false
set_option maxRecDepth 100000
set_option maxHeartbeats 4000000
namespace OC
open PySem PySem.SeqAt PySem.W Builtin
open AutoSeq1 (wpAny_loadPart')
open MeetsSeq MeetsSeq2 MeetsSeq3 SeqRoads2
section
variable {prog : Program} {w : World} {A : Around} {E : Value → Shared → Prop} {s : Shared} {K : Frag} {x C f : Addr} {ox : Obj} {od : Option Obj} {y : Value}
/-- what the own __eq__ hands back, turned for != -/
def turn (op : CmpOp) (b : Bool) : Bool := match op with | .Eq => b | _ => !b
/-- the class: its own __eq__ at f, its __ne__ is object's -/
structure OwnQ (K : Frag) (C f : Addr) : Prop where
  eq : findIn K (.ref C) "__eq__" = some (some (.ref f))
  ne : findIn K (.ref C) "__ne__" = some (some (.builtin "object.__ne__"))
  ob : mroIn K C (.type "object") = some true
  fn : isFn K (.ref f) = true
theorem ifBound_objNe {M : Model} {args : List Value} {Q : Option Value → Shared → Prop} (X : K.In s.heap) (I : InstAt s.heap x ox C od) (hs : findIn K (.ref C) "__ne__" = some (some (.builtin "object.__ne__")))
    (h : wpAny M A (call (.builtin "object.__ne__") (.ref x :: args)) (fun v => Q (some v)) E s) : wpAny M A (callSpecialIfBound? (.ref x) "__ne__" args) Q E s := by
  simp only [callSpecialIfBound?, bindSpecialIfBound?]
  refine wpAny_holding (wpAny_bind (wpAny_bind (wpAny_bind (I.type.here ((looks_findIn X hs).here ?_)))))
  refine wpAny_bind (wpAny_askSetting (wpAny_ite ?_))
  have fin : wpAny M A (call (.builtin "object.__ne__") ([.ref x] ++ args) >>= fun v => pure (some v)) Q E s := wpAny_bind (wpAny_mono h (fun v s' h' => wpAny_pure h') fun _ _ h' => h')
  split
  · exact wpAny_bind (wpAny_of_eq (F.cmp_object.ne.bind _) (wpAny_pure (by exact fin)))
  · exact wpAny_tryCatch (wpAny_bind (wpAny_of_eq (F.cmp_object.ne.bind _) (wpAny_pure (by exact fin))))
theorem ne_entry {Q : Fin → Shared → Prop} (hu : A.units < cLine) (X : K.In s.heap) (I : InstAt s.heap x ox C od) (O : OwnQ K C f)
    (h : wpAny (model prog w) A (call (.ref f) [.ref x, y]) (fun v s' => ∃ b, v = .bool b ∧ Q (.done (.ret (.bool (!b)))) s') E s) :
    wpAny (model prog w) A (Builtin.«object.__ne__» ⟨[.ref x, y], []⟩) Q E s := by
  obtain ⟨hp, g, d, t, os⟩ := s
  unfold Builtin.«object.__ne__»
  repeat (first
    | with_reducible refine wpAny_cRoomFor hu ?_
    | (refine wpAny_bind (m := callSpecialIfBound? (.ref x) (Str.ofString "__eq__") [y])
        (ifBound_K X I O.eq O.fn (wpAny_mono h (fun r s' hr => by
          obtain ⟨b, rfl, hq⟩ := hr
          repeat (first | exact hq | exact wpAny_pure hq | exact wpAny_truthy_bool hq | (refine wpAny_bind (m := truthy (.bool _)) (wpAny_truthy_bool ?_)) | wp_step)) fun _ _ e => e)))
    | wp_step)
theorem own_try {op : CmpOp} {Q : Value → Shared → Prop} (ho : Is2 op) (hu : A.units + 1 < cLine) (X : K.In s.heap) (I : InstAt s.heap x ox C od) (O : OwnQ K C f)
    (h : ∀ A' : Around, A' = A ∨ A' = A.in1 → wpAny (model prog w) A' (call (.ref f) [.ref x, y]) (fun v s' => ∃ b, v = .bool b ∧ Q (.bool (turn op b)) s') E s) :
    wpAny (model prog w) A (tryCompare (.ref x) (cmpInfo op).2.1 y) (fun r s' => ∃ v, r = some v ∧ Q v s') E s := by
  rcases ho with rfl | rfl
  · unfold tryCompare
    refine wpAny_bind (m := callSpecialIfBound? (.ref x) "__eq__" [y]) (ifBound_K X I O.eq O.fn (wpAny_mono (h A (.inl rfl)) (fun v s' hv => ?_) fun _ _ e => e))
    obtain ⟨b, rfl, hq⟩ := hv
    exact wpAny_pure ⟨_, rfl, hq⟩
  · unfold tryCompare
    refine wpAny_bind (m := callSpecialIfBound? (.ref x) "__ne__" [y]) (ifBound_objNe X I O.ne ?_)
    refine wpAny_call (codeAny_call_builtin F.cmp_object.ne.plain F.cmpEntry_ne (check_slot F.cmpKind_ne F.cmpSplit_ne (I.type.andThen (looks_mroIn X O.ob)) (F.cmpArgs_ne _ _) ?_))
    refine ne_entry (A := A.in1) hu X I O (wpAny_mono (h A.in1 (.inr rfl)) (fun v s' hv => ?_) fun _ _ e => e)
    obtain ⟨b, rfl, hq⟩ := hv
    first
      | exact ⟨b, rfl, wpAny_pure ⟨_, rfl, hq⟩⟩
      | exact ⟨b, rfl, wpAny_pure (wpAny_pure ⟨_, rfl, hq⟩)⟩
      | exact ⟨b, rfl, ⟨_, rfl, hq⟩⟩
theorem compareOp2 {op : CmpOp} (ho : Is2 op) (a b : Value) : compareOp op a b = richCompare op a b := by rcases ho with rfl | rfl <;> rfl
/-- the instance on the left -/
theorem rc_left {op : CmpOp} {tb : Value} {Q : Value → Shared → Prop} (ho : Is2 op) (hu : A.units + 1 < cLine) (X : K.In s.heap) (I : InstAt s.heap x ox C od) (O : OwnQ K C f) (hb : Looks (model prog w) s.heap (typeOf y) tb) (hn : notFirst K C tb = true)
    (h : ∀ A' : Around, A' = A ∨ A' = A.in1 → wpAny (model prog w) A' (call (.ref f) [.ref x, y]) (fun v s' => ∃ b, v = .bool b ∧ Q (.bool (turn op b)) s') E s) :
    wpAny (model prog w) A (richCompare op (.ref x) y) Q E s := by
  have one := own_try ho hu X I O h
  unfold richCompare
  simp only [oneThing_ref]
  refine wpAny_holding (wpAny_bind (wpAny_cRoomFor (Nat.lt_of_succ_lt hu) ?_))
  refine wpAny_bind (I.type.here (wpAny_bind (hb.here ?_)))
  split
  · rename_i q
    have e : subIn K tb (.ref C) = some false := by
      rcases Bool.or_eq_true_iff.mp hn with e | e
      · rw [beq_iff_eq.mp e] at q; simp at q
      · exact beq_iff_eq.mp e
    refine wpAny_bind ((looks_subIn X e).here ?_)
    simp only [Bool.false_eq_true, if_false]
    refine wpAny_bind (wpAny_mono one (fun r s' z => ?_) fun _ _ e => e)
    obtain ⟨v, rfl, hq⟩ := z
    exact wpAny_pure hq
  · refine wpAny_bind (wpAny_pure ?_)
    simp only [Bool.false_eq_true, if_false]
    refine wpAny_bind (wpAny_mono one (fun r s' z => ?_) fun _ _ e => e)
    obtain ⟨v, rfl, hq⟩ := z
    exact wpAny_pure hq
/-- the instance on the right, a value of a built-in type on the left -/
theorem rc_right {op : CmpOp} {T : String} {a : Value} {Q : Value → Shared → Prop} (ho : Is2 op) (hu : A.units + 1 < cLine) (X : K.In s.heap) (I : InstAt s.heap x ox C od) (O : OwnQ K C f) (ha : s.TypeIs a T) (hn : subIn K (.ref C) (.type T) = some false)
    (hne : (oneThing? op a (.ref x)) = none)
    (hd : Decl prog w A s op a (.ref x))
    (h : ∀ A' : Around, A' = A ∨ A' = A.in1 → wpAny (model prog w) A' (call (.ref f) [.ref x, a]) (fun v s' => ∃ b, v = .bool b ∧ Q (.bool (turn op b)) s') E s) :
    wpAny (model prog w) A (richCompare op a (.ref x)) Q E s := by
  have one := own_try ho hu X I O h
  have e2 : (cmpInfo op).2.2 = (cmpInfo op).2.1 := by rcases ho with rfl | rfl <;> rfl
  unfold richCompare
  simp only [hne]
  refine wpAny_holding (wpAny_bind (wpAny_cRoomFor (Nat.lt_of_succ_lt hu) ?_))
  refine wpAny_bind (wpAny_typeOf ha (wpAny_bind (I.type.here ?_)))
  have ne : (Value.type T != Value.ref C) = true := by simp
  simp only [ne, if_true]
  refine wpAny_bind ((looks_subIn X hn).here ?_)
  simp only [Bool.false_eq_true, if_false]
  refine wpAny_bind (m := tryCompare a (cmpInfo op).2.1 (.ref x)) (hd _ _ ?_)
  simp only [Bool.not_false, if_true]
  rw [e2]
  refine wpAny_bind (m := tryCompare (.ref x) (cmpInfo op).2.1 a) (wpAny_mono one (fun r s' z => ?_) fun _ _ e => e)
  obtain ⟨v, rfl, hq⟩ := z
  exact wpAny_pure hq
end
end OC
set_option Elab.async false
set_option linter.all false
set_option maxRecDepth 100000
set_option maxHeartbeats 4000000
namespace L2
open PySem PySem.Spec PyProof.Rows
/-- a foreign thing: its built-in type, its kind told by the heap -/
inductive Fo (K : PySem.W.Frag) (H : Hp) : V → String → Prop where
  | non : Fo K H .non "NoneType"
  | bl (b : Bool) : Fo K H (.bl b) "bool"
  | int (i : Int) : Fo K H (.int i) "int"
  | str (x : Str) : Fo K H (.str x) "str"
  | lst {a : Addr} {xs : List V} (e : H a = some (.lst xs)) : Fo K H (.ref a) "list"
  | tup {a : Addr} {xs : List V} (e : H a = some (.tup xs)) : Fo K H (.ref a) "tuple"
  | dK {a : Addr} {kvs : List (Key × V)} (e : H a = some (.dK kvs)) : Fo K H (.ref a) "dict"
theorem Fo.ty {K : PySem.W.Frag} {H : Hp} {x : V} {T : String} (h : Fo K H x T) : TyX K H x (.type T) := by
  cases h with
  | non => exact .base .non
  | bl b => exact .base (.bl b)
  | int i => exact .base (.int i)
  | str x => exact .base (.str x)
  | lst e => exact .base (.lst e)
  | tup e => exact .base (.tup e)
  | dK e => exact .base (.dK e)
/-- the class at C as far as == and != ask -/
structure OwnT (K : PySem.W.Frag) (C f : Addr) : Prop where
  q : OC.OwnQ K C f
  sint : PySem.W.subIn K (.ref C) (.type "int") = some false
  sbool : PySem.W.subIn K (.ref C) (.type "bool") = some false
  snon : PySem.W.subIn K (.ref C) (.type "NoneType") = some false
  sstr : PySem.W.subIn K (.ref C) (.type "str") = some false
  slst : PySem.W.subIn K (.ref C) (.type "list") = some false
  stup : PySem.W.subIn K (.ref C) (.type "tuple") = some false
  sdct : PySem.W.subIn K (.ref C) (.type "dict") = some false
theorem not_first {K : PySem.W.Frag} {C : Addr} {T : String} {l : List Value} (h : fastBuiltinMro T = some l) (hl : l.all (fun v => match v with | .type _ => true | _ => false) = true) : PySem.W.notFirst K C (.type T) = true := by
  unfold PySem.W.notFirst
  have e : PySem.W.subIn K (.type T) (.ref C) = some false := by
    show (fastBuiltinMro T).map (·.contains (.ref C)) = some false
    rw [h]
    show some (l.contains (.ref C)) = some false
    congr 1
    induction l with
    | nil => rfl
    | cons a r ih =>
      rw [List.all_cons, Bool.and_eq_true] at hl
      rw [List.contains_cons]
      have : (Value.ref C == a) = false := by
        cases a <;> first | rfl | (simp at hl)
        
      rw [this, Bool.false_or]
      clear h
      exact (by
        revert hl
        intro hl
        clear ih this
        have hl2 := hl.2
        clear hl
        induction r with
        | nil => rfl
        | cons b r ih2 =>
          rw [List.all_cons, Bool.and_eq_true] at hl2
          rw [List.contains_cons]
          have : (Value.ref C == b) = false := by
            cases b <;> first | rfl | (simp at hl2)
          rw [this, Bool.false_or]
          exact ih2 hl2.2)
  rw [e]
  simp
theorem Fo.nf {K : PySem.W.Frag} {H : Hp} {x : V} {T : String} {C : Addr} (h : Fo K H x T) : PySem.W.notFirst K C (.type T) = true := by
  cases h with
  | non => exact not_first (l := [.type "NoneType", .type "object"]) (by decide +kernel) (by decide +kernel)
  | bl b => exact not_first (l := [.type "bool", .type "int", .type "object"]) (by decide +kernel) (by decide +kernel)
  | int i => exact not_first (l := [.type "int", .type "object"]) (by decide +kernel) (by decide +kernel)
  | str x => exact not_first (l := [.type "str", .type "object"]) (by decide +kernel) (by decide +kernel)
  | lst e => exact not_first (l := [.type "list", .type "object"]) (by decide +kernel) (by decide +kernel)
  | tup e => exact not_first (l := [.type "tuple", .type "object"]) (by decide +kernel) (by decide +kernel)
  | dK e => exact not_first (l := [.type "dict", .type "object"]) (by decide +kernel) (by decide +kernel)
theorem Fo.sub {K : PySem.W.Frag} {H : Hp} {x : V} {T : String} {C f : Addr} (h : Fo K H x T) (O : OwnT K C f) : PySem.W.subIn K (.ref C) (.type T) = some false := by
  cases h with
  | non => exact O.snon
  | bl b => exact O.sbool
  | int i => exact O.sint
  | str x => exact O.sstr
  | lst e => exact O.slst
  | tup e => exact O.stup
  | dK e => exact O.sdct
section
variable {X : Cx} {pins : List (Addr × Obj)} {σ : St} {H : Hp} {s : Shared}
theorem Fo.typ {x : V} {u : Value} {T : String} (h : Fo X.K H x T) (I : Inv X pins σ H s) (r : RelV x u) : s.TypeIs u T := by
  cases h with
  | non => cases (show u = Value.none from r); rfl
  | bl b => cases (show u = Value.bool b from r); rfl
  | int i => obtain ⟨t, q⟩ := (show ∃ t, u = Value.int i t from r); cases q; rfl
  | str x => obtain ⟨t, q⟩ := (show ∃ t, u = Value.str x t from r); cases q; rfl
  | @lst a xs e =>
    cases (show u = Value.ref a from r)
    obtain ⟨_, _, n, _, h1⟩ := (show ObjOk X.prog X.w H s.heap a (.lst xs) from I.hok a _ e)
    exact ⟨_, h1, rfl⟩
  | @tup a xs e =>
    cases (show u = Value.ref a from r)
    obtain ⟨_, _, _, o, h1, h2, _⟩ := (show ObjOk X.prog X.w H s.heap a (.tup xs) from I.hok a _ e)
    exact ⟨o, h1, h2⟩
  | @dK a kvs e =>
    cases (show u = Value.ref a from r)
    obtain ⟨_, _, vs, _, o, es, ep, h1, h2, _⟩ := (show ObjOk X.prog X.w H s.heap a (.dK kvs) from I.hok a _ e)
    exact ⟨o, h1, h2.1⟩
theorem Fo.looks {x : V} {u : Value} {T : String} (h : Fo X.K H x T) (I : Inv X pins σ H s) (r : RelV x u) : PySem.W.Looks (model X.prog X.w) s.heap (typeOf u) (.type T) := by
  cases h with
  | non => cases (show u = Value.none from r); exact .of_pure rfl
  | bl b => cases (show u = Value.bool b from r); exact .of_pure rfl
  | int i => obtain ⟨t, q⟩ := (show ∃ t, u = Value.int i t from r); cases q; exact .of_pure rfl
  | str x => obtain ⟨t, q⟩ := (show ∃ t, u = Value.str x t from r); cases q; exact .of_pure rfl
  | @lst a xs e =>
    cases (show u = Value.ref a from r)
    obtain ⟨_, _, n, _, h1⟩ := (show ObjOk X.prog X.w H s.heap a (.lst xs) from I.hok a _ e)
    exact (PySem.W.Looks.ld h1).andThen .now
  | @tup a xs e =>
    cases (show u = Value.ref a from r)
    obtain ⟨_, _, _, o, h1, h2, _⟩ := (show ObjOk X.prog X.w H s.heap a (.tup xs) from I.hok a _ e)
    rw [← h2]
    exact (PySem.W.Looks.ld h1).andThen .now
  | @dK a kvs e =>
    cases (show u = Value.ref a from r)
    obtain ⟨_, _, vs, _, o, es, ep, h1, h2, _⟩ := (show ObjOk X.prog X.w H s.heap a (.dK kvs) from I.hok a _ e)
    rw [← h2.1]
    exact (PySem.W.Looks.ld h1).andThen .now
theorem Fo.one {x : V} {u : Value} {T : String} {op : CmpOp} {c : Addr} (h : Fo X.K H x T) (r : RelV x u) : oneThing? op u (.ref c) = none := by
  cases h with
  | non => cases (show u = Value.none from r); rfl
  | bl b => cases (show u = Value.bool b from r); rfl
  | int i => obtain ⟨t, q⟩ := (show ∃ t, u = Value.int i t from r); cases q; rfl
  | str x => obtain ⟨t, q⟩ := (show ∃ t, u = Value.str x t from r); cases q; rfl
  | @lst a xs e => cases (show u = Value.ref a from r); rfl
  | @tup a xs e => cases (show u = Value.ref a from r); rfl
  | @dK a kvs e => cases (show u = Value.ref a from r); rfl
theorem Fo.decl {A : Around} {x : V} {u : Value} {T : String} {op : CmpOp} {c C f : Addr} {ox : Obj} {od : Option Obj} (ho : OC.Is2 op) (h : Fo X.K H x T) (O : OwnT X.K C f) (I : Inv X pins σ H s) (r : RelV x u) (J : PySem.W.InstAt s.heap c ox C od) (hd : ox.data = .plain) :
    OC.Decl X.prog X.w A s op u (.ref c) := by
  cases h with
  | non => cases (show u = Value.none from r); exact OC.decl_none ho
  | bl b => cases (show u = Value.bool b from r); exact OC.decl_bool ho b J.at_ hd
  | int i => obtain ⟨t, q⟩ := (show ∃ t, u = Value.int i t from r); cases q; exact OC.decl_int ho i t J.at_ hd
  | str x => obtain ⟨t, q⟩ := (show ∃ t, u = Value.str x t from r); cases q; exact OC.decl_str ho x t J.at_ hd
  | @lst a xs e =>
    cases (show u = Value.ref a from r)
    obtain ⟨_, its, n, _, h1⟩ := (show ObjOk X.prog X.w H s.heap a (.lst xs) from I.hok a _ e)
    intro Q E hq
    rcases ho with rfl | rfl
    · exact wpAny_tryCompare_declines ⟨_, h1, rfl⟩ F.slot_list_eq (call_meets F.slot_list_eq ⟨_, h1, rfl⟩ F.entry_list_eq (F.args_list_eq_2 _ _) (OC.list_ref_eq a _ n _ _ c) ⟨fun M => OC.not_inst I.kIn J O.slst, h1, rfl, hq⟩)
    · exact wpAny_tryCompare_declines ⟨_, h1, rfl⟩ F.slot_list_ne (call_meets F.slot_list_ne ⟨_, h1, rfl⟩ F.entry_list_ne (F.args_list_ne_2 _ _) (OC.list_ref_ne a _ n _ _ c) ⟨fun M => OC.not_inst I.kIn J O.slst, h1, rfl, hq⟩)
  | @tup a xs e =>
    cases (show u = Value.ref a from r)
    obtain ⟨_, its, _, o, h1, h2, n, h3⟩ := (show ObjOk X.prog X.w H s.heap a (.tup xs) from I.hok a _ e)
    obtain ⟨oc, odd, dt, sl⟩ := o
    simp only at h2 h3
    subst h2 h3
    intro Q E hq
    rcases ho with rfl | rfl
    · exact wpAny_tryCompare_declines ⟨_, h1, rfl⟩ F.slot_tuple_eq (call_meets F.slot_tuple_eq ⟨_, h1, rfl⟩ F.entry_tuple_eq (F.args_tuple_eq_2 _ _) (OC.tup_ref_eq a _ n _ _ c) ⟨fun M => OC.not_inst I.kIn J O.stup, h1, rfl, hq⟩)
    · exact wpAny_tryCompare_declines ⟨_, h1, rfl⟩ F.slot_tuple_ne (call_meets F.slot_tuple_ne ⟨_, h1, rfl⟩ F.entry_tuple_ne (F.args_tuple_ne_2 _ _) (OC.tup_ref_ne a _ n _ _ c) ⟨fun M => OC.not_inst I.kIn J O.stup, h1, rfl, hq⟩)
  | @dK a kvs e =>
    cases (show u = Value.ref a from r)
    obtain ⟨_, _, vs, _, o, es, ep, h1, h2, _⟩ := (show ObjOk X.prog X.w H s.heap a (.dK kvs) from I.hok a _ e)
    intro Q E hq
    rcases ho with rfl | rfl
    · exact wpAny_tryCompare_declines ⟨_, h1, h2.1⟩ F.slot_dict_eq (call_meets F.slot_dict_eq ⟨_, h1, h2.1⟩ F.entry_dict_eq (F.args_dict_eq_2 _ _) (OC.dict_ref_eq a c h2) ⟨fun M => OC.not_inst I.kIn J O.sdct, h1, rfl, hq⟩)
    · exact wpAny_tryCompare_declines ⟨_, h1, h2.1⟩ F.slot_dict_ne (call_meets F.slot_dict_ne ⟨_, h1, h2.1⟩ F.entry_dict_ne (F.args_dict_ne_2 _ _) (OC.dict_ref_ne a c h2) ⟨fun M => OC.not_inst I.kIn J O.sdct, h1, rfl, hq⟩)
/-- what the own == promises: R tells its answer; nothing changes -/
def spOwn (R : Addr → V → Bool → Hp → Prop) : Sp := fun vs H Q _ => ∃ (a : Addr) (y : V) (b : Bool), vs = [.ref a, y] ∧ R a y b H ∧ Q (.bl b) H
/-- x == y, x != y, one of both an instance of the class at C -/
def rOwnB (K : PySem.W.Frag) (C : Addr) (R : Addr → V → Bool → Hp → Prop) (op : CmpOp) : R2 := fun x y H Q => ∃ b : Bool,
  ((∃ a dx fs, x = .ref a ∧ H a = some (.ins C dx fs) ∧ R a y b H ∧ ((∃ T, Fo K H y T) ∨ ∃ c dy gs, y = .ref c ∧ H c = some (.ins C dy gs))) ∨
    (∃ c dy gs T, y = .ref c ∧ H c = some (.ins C dy gs) ∧ Fo K H x T ∧ R c x b H)) ∧ Q (.bl (OC.turn op b)) H
theorem op_ownB {CX : CXT} {C f : Addr} {fd : FuncData} {ps : List Str} {n : Nat} {R : Addr → V → Bool → Hp → Prop} {E : XK} {op : CmpOp} (ho : OC.Is2 op) (F : FnOk X.prog X.w X.K X.mg X.base CX n f fd ps (spOwn R))
    (O : OwnT X.K C f) (hb : Binds X.K fd ps []) (hx : Passes CX X E) (hr : Room (n + 1) X.A) : OpR X (compareOp op) (rOwnB X.K C R op) := by
  intro pins s σ H x y v u Q I rx ry hq
  obtain ⟨b, hc, q⟩ := hq
  rw [OC.compareOp2 ho]
  have hu : X.A.units + 1 < cLine := hu_of hr
  -- the call of __eq__
  have run : ∀ (a : Addr) (y : V) (u : Value) (A' : Around), RelV y u → R a y b H → (A' = X.A ∨ A' = X.A.in1) →
      wpAny (model X.prog X.w) A' (call (.ref f) [.ref a, u]) (fun v s' => ∃ b, v = .bool b ∧ EP X pins σ Q (.bool (OC.turn op b)) s') X.xe s := by
    intro a y u A' ry hR hA
    have sb : Room n A' ∧ A'.frames = X.A.frames := by
      rcases hA with rfl | rfl
      · exact ⟨hr.mono (Nat.le_succ n), rfl⟩
      · exact ⟨hr.in1, rfl⟩
    have hsp : spOwn R [.ref a, y] H (fun v H' => v = .bl b ∧ H' = H) E := ⟨a, y, b, rfl, hR, rfl, rfl⟩
    have e0 : Env0 X.prog X.w X.K X.mg X.base A' X.stack s H := by
      have e := I.env0
      exact ⟨by rw [sb.2]; exact e.frames, e.mod, e.bs, e.bsz, e.funs, e.frf, e.hok, e.bare⟩
    have hl := F.len _ _ _ _ hsp
    have r2 : Vals [V.ref a, y] [Value.ref a, u] := .cons rfl (.cons ry .nil)
    refine wpAny_call (codeAny_mono (F.run A' X.stack s H ⟨[.ref a, u], []⟩ [.ref a, u] [.ref a, y] _ E sb.1 e0 (by
      have := hb s [.ref a, u] I.kIn (by simpa using hl)
      simpa using this) r2 hsp) fun r s' hq => ?_)
    cases r with
    | error e => exact hx pins σ H s e s' I hq
    | ok fl =>
      cases fl with
      | ret w =>
        obtain ⟨z, H', I', rz, ez, ex⟩ := I.after hq
        subst ez ex
        cases rz
        exact ⟨b, rfl, .bl (OC.turn op b), H', I', rfl, q⟩
      | next => exact False.elim hq
      | brk => exact False.elim hq
      | cont => exact False.elim hq
  rcases hc with ⟨a, dx, fs, rfl, ha, hR, hy⟩ | ⟨c, dy, gs, T, rfl, hc, hT, hR⟩
  · cases rx
    obtain ⟨mA, J, _⟩ := ins_get I.hok ha
    obtain ⟨od, J, _⟩ := J.look
    rcases hy with ⟨T, hT⟩ | ⟨c, dy, gs, rfl, hc⟩
    · exact OC.rc_left ho hu I.kIn J O.q (hT.looks I ry) hT.nf fun A' hA => run a y u A' ry hR hA
    · cases ry
      obtain ⟨mB, J', _⟩ := ins_get I.hok hc
      obtain ⟨od', J', _⟩ := J'.look
      exact OC.rc_left ho hu I.kIn J O.q J'.type (by simp [PySem.W.notFirst]) fun A' hA => run a (.ref c) _ A' rfl hR hA
  · cases ry
    obtain ⟨mA, J, _⟩ := ins_get I.hok hc
    obtain ⟨od, J, _⟩ := J.look
    exact OC.rc_right ho hu I.kIn J O.q (hT.typ I rx) (hT.sub O) (hT.one rx) (hT.decl ho O I rx J rfl) fun A' hA => run c x v A' rx hR hA
end
end L2
set_option Elab.async false
set_option linter.all false
set_option maxRecDepth 100000
set_option maxHeartbeats 4000000
namespace KD
open PySem L2
def top (i : Nat) : Stmt := PySem.Challenge.pw_bothwalks_k70_the_shortest_gathering_wor.main.body.getD i (.Pass ⟨0, 0, 0, 0⟩)
/-- a def of the text that stands, is kept and keeps its promise; nothing leaves it -/
structure Cal (P : Program) (w : World) (K : PySem.W.Frag) (mg : Str → Option Value) (base : Heap) (k : Nat) (x : Str) (ps : List Str) (sp : Sp) : Prop where
  ex : ∃ (f : Addr) (fd : FuncData), mg x = some (.ref f) ∧ PySem.W.keepIn K (.ref f) = true ∧ FnOk P w K mg base CX0 k f fd ps sp ∧ Binds K fd ps []
section
variable {X : Cx} {k : Nat} {ps : List Str} {sp : Sp} {x : Str} {p pos : Pos} {e : Expr} {es : List Expr} {t : TA}
theorem pe_cal (c : Cal X.prog X.w X.K X.mg X.base k x ps sp) (hr : Room k X.A) (hg : Gl X x) (ha : PA X (e :: es) t) (hdb : (x == ("__debug__" : Str)) = false := by decide)
    (he : starEach (e :: es) X.env = (false, eval e X.env) :: starEach es X.env := by rfl) (hpl : (backTo pos (starEach es X.env)).any (·.1) = false := by rfl) :
    PE X (.Call (.Name x p) (e :: es) [] pos) (tCall sp [] E0 t) := by
  obtain ⟨f, fd, hm, hk, F, hb⟩ := c.ex
  exact pe_call F hr hg hm hk hb .nil pass0 ha hdb he hpl
end
/-- a thing: a foreign one, or an instance of the class at C -/
inductive Thing (K : PySem.W.Frag) (C : Addr) (H : Hp) : V → Prop where
  | fo {x : V} {T : String} (h : Fo K H x T) : Thing K C H x
  | ins {a dx : Addr} {fs : List (Str × V)} (e : H a = some (.ins C dx fs)) : Thing K C H (.ref a)
def isI : V → Bool
  | .int _ => true
  | _ => false
/-- what isinstance asks of the class at C -/
structure InsT (K : PySem.W.Frag) (C : Addr) : Prop where
  cl : Cls K C
  ha : PySem.W.findIn K (.ref C) "__class__" = some (some (.builtin "object.__class__"))
  hn : PySem.W.specialIn K (.builtin "object.__class__") "__get__" = some (some (.builtin "getset_descriptor.__get__"))
  htk : PySem.W.takesIn K (.builtin "object.__class__") = some true
  hm : PySem.W.mroIn K C (.type "object") = some true
  kint : PySem.W.kitOne K (.ref C) (.type "int") = some false
  kbool : PySem.W.kitOne K (.ref C) (.type "bool") = some false
  kself : PySem.W.kitOne K (.ref C) (.ref C) = some true
  oint : PySem.W.kitOne K (.type "int") (.ref C) = some false
  obool : PySem.W.kitOne K (.type "bool") (.ref C) = some false
  onon : PySem.W.kitOne K (.type "NoneType") (.ref C) = some false
  ostr : PySem.W.kitOne K (.type "str") (.ref C) = some false
  olst : PySem.W.kitOne K (.type "list") (.ref C) = some false
  otup : PySem.W.kitOne K (.type "tuple") (.ref C) = some false
  odct : PySem.W.kitOne K (.type "dict") (.ref C) = some false
theorem InsT.ty {K : PySem.W.Frag} {C : Addr} {H : Hp} {a dx : Addr} {fs : List (Str × V)} (I : InsT K C) (e : H a = some (.ins C dx fs)) : TyX K H (.ref a) (.ref C) :=
  .base (.ins e I.cl I.ha I.hn I.htk I.hm)
theorem InsT.fo {K : PySem.W.Frag} {C : Addr} {H : Hp} {x : V} {T : String} (I : InsT K C) (h : Fo K H x T) : PySem.W.kitOne K (.type T) (.ref C) = some false := by
  cases h with
  | non => exact I.onon
  | bl b => exact I.obool
  | int i => exact I.oint
  | str x => exact I.ostr
  | lst e => exact I.olst
  | tup e => exact I.otup
  | dK e => exact I.odct
/-- isinstance(x, int) of a thing -/
def isIB : V → Bool
  | .int _ => true
  | .bl _ => true
  | _ => false
def isB : V → Bool
  | .bl _ => true
  | _ => false
theorem Thing.isInt {K : PySem.W.Frag} {C : Addr} {H : Hp} {x : V} (I : InsT K C) (h : Thing K C H x) : ∃ t, TyX K H x t ∧ PySem.W.kitOne K t (.type "int") = some (isIB x) ∧ PySem.W.kitOne K t (.type "bool") = some (isB x) := by
  cases h with
  | ins e => exact ⟨_, I.ty e, I.kint, I.kbool⟩
  | fo h =>
    refine ⟨_, h.ty, ?_⟩
    cases h with
    | non => exact ⟨by exact kit_ty (r := false) (by decide +kernel), by exact kit_ty (r := false) (by decide +kernel)⟩
    | bl b => exact ⟨by exact kit_ty (r := true) (by decide +kernel), by exact kit_ty (r := true) (by decide +kernel)⟩
    | int i => exact ⟨by exact kit_ty (r := true) (by decide +kernel), by exact kit_ty (r := false) (by decide +kernel)⟩
    | str x => exact ⟨by exact kit_ty (r := false) (by decide +kernel), by exact kit_ty (r := false) (by decide +kernel)⟩
    | lst e => exact ⟨by exact kit_ty (r := false) (by decide +kernel), by exact kit_ty (r := false) (by decide +kernel)⟩
    | tup e => exact ⟨by exact kit_ty (r := false) (by decide +kernel), by exact kit_ty (r := false) (by decide +kernel)⟩
    | dK e => exact ⟨by exact kit_ty (r := false) (by decide +kernel), by exact kit_ty (r := false) (by decide +kernel)⟩
/-- is_whole(x) -/
def spWhole (K : PySem.W.Frag) (C : Addr) : Sp := fun vs H Q _ => ∃ x, vs = [x] ∧ Thing K C H x ∧ Q (.bl (isI x)) H
/-- the built-in names that stand as they are -/
structure Bn (mg : Str → Option Value) : Prop where
  n_isinstance : mg "isinstance" = none
  n_int : mg "int" = none
  n_bool : mg "bool" = none
  n_abs : mg "abs" = none
  n_len : mg "len" = none
  n_str : mg "str" = none
  n_divmod : mg "divmod" = none
  n_ValueError : mg "ValueError" = none
section
variable {P : Program} {w : World} {K : PySem.W.Frag} {mg : Str → Option Value} {base : Heap} {C : Addr}
abbrev s_is_whole : Stmt := top 7
theorem sc_is_whole : FnScope ["thing"] ["thing"] (defScope s_is_whole) := ⟨rfl, rfl, rfl, by decide +kernel, rfl, by decide +kernel, by decide +kernel⟩
theorem ok_is_whole {f : Addr} {fd : FuncData} (F : Fun K "is_whole" "is_whole" s_is_whole f fd) (T : Bn mg) (I : InsT K C) : FnOk P w K mg base CX0 1 f fd ["thing"] (spWhole K C) := by
  refine F.ok sc_is_whole (fun vs H Q E h => ?_) (fun cdv A outer s H vs Q E hr h => ?_)
  · obtain ⟨x, rfl, _⟩ := h
    rfl
  · obtain ⟨x, rfl, h, k⟩ := h
    refine ⟨_, (pss_one (ps_ret (pe_and (pe_callB call_isi (by rfl) T.n_isinstance (by decide +kernel) (pa_cons (pv 0) (pa_cons (pe_bltn (v := .ty "int") rfl T.n_int (by decide +kernel) rfl) pa_nil))) (pe_one (pe_not (pe_callB call_isi (by rfl) T.n_isinstance (by decide +kernel) (pa_cons (pv 0) (pa_cons (pe_bltn (v := .ty "bool") rfl T.n_bool (by decide +kernel) rfl) pa_nil)))))))), ?_⟩
    obtain ⟨t, ty, k1, k2⟩ := h.isInt I
    refine ⟨_, rfl, x, .ty "int", t, _, _, rfl, .ty _, ty, k1, _, rfl, ?_⟩
    cases e : isIB x with
    | true =>
      refine iteT ⟨_, rfl, x, .ty "bool", t, _, _, rfl, .ty _, ty, k2, _, rfl, ?_⟩
      have : (!isB x) = isI x := by cases x <;> first | rfl | (simp [isIB] at e)
      rw [this]
      exact k
    | false =>
      refine iteF ?_
      have : isI x = false := by cases x <;> first | rfl | (simp [isIB] at e)
      rw [this] at k
      exact k
end
end KD
set_option Elab.async false
set_option linter.all false
set_option maxRecDepth 100000
set_option maxHeartbeats 4000000
namespace L2
open PySem PySem.Spec PyProof.Rows
/-- C.m(e, ..), C a class of the text by its global name, m a plain def of it, read off the class -/
structure ClsFn (K : PySem.W.Frag) (C : Addr) (mc : Value) (m : Str) (g : Addr) : Prop where
  rd : PySem.W.readsIn K C mc = true
  ga : PySem.W.specialIn K (.ref C) "__getattribute__" = some (some (.builtin "type.__getattribute__"))
  at_ : PySem.W.findCls K (.ref C) mc m = some (.val (.ref g))
  kp : PySem.W.keepIn K (.ref g) = true
theorem pe_clsfn {X : Cx} {CX : CXT} {k : Nat} {C g : Addr} {mc : Value} {fd : FuncData} {ps : List Str} {sp : Sp} {E : XK} {x m : Str} {p1 p2 pos : Pos} {e : Expr} {es : List Expr} {t : TA} {pl : Sem Bool}
    (c : ClsFn X.K C mc m g) (F : FnOk X.prog X.w X.K X.mg X.base CX k g fd ps sp) (hr : Room k X.A) (hg : Gl X x) (hm : X.mg x = some (.ref C)) (hb : Binds X.K fd ps []) (hx : Passes CX X E) (ha : PA X (e :: es) t) (hdb : (x == ("__debug__" : Str)) = false := by decide)
    (hc : eval (.Call (.Attribute (.Name x p1) m p2) (e :: es) [] pos) X.env = (do
      let ov ← eval (.Name x p1) X.env
      standAt p2.atName
      let (f, first) ← holding [ov] (getMethod ov m pl)
      callWith pos f first (backTo pos (starEach (e :: es) X.env)) (backToKw pos (keywordEach [] X.env))) := by rfl)
    (he : starEach (e :: es) X.env = (false, eval e X.env) :: starEach es X.env := by rfl) (hpl : (backTo pos (starEach es X.env)).any (·.1) = false := by rfl) :
    PE X (.Call (.Attribute (.Name x p1) m p2) (e :: es) [] pos) (tCall sp [] E t) := by
  refine ⟨fun pins s σ H Q I h => ?_⟩
  refine PySem.W.methodCall_KW (ld_glob I hg hm ?_ hdb) hc
  refine PySem.W.method_cls I.kIn c.ga (PySem.W.cls_value I.kIn c.rd c.at_ rfl ?_)
  have J := I.tok (s.toks + 1)
  show wpAny _ _ (callWith pos (Value.ref g) [] (backTo pos (starEach (e :: es) X.env)) []) _ _ _
  refine PySem.W.callWith_K (h₀ := X.base) J.ok.mod.kin c.kp (thn (ha.run pos pins _ σ H _ J h) fun us s1 ⟨vs, H1, I1, r, q⟩ => ⟨I1.kIn, ?_⟩) he hpl
  exact run_fn F hr hb .nil hx I1 r q
end L2
namespace KD
open PySem L2
section
variable {P : Program} {w : World} {K : PySem.W.Frag} {mg : Str → Option Value} {base : Heap}
/-- WalkError.__init__, of an exception that is being made -/
def spWE (K : PySem.W.Frag) : Sp := fun vs H Q _ => ∃ (a C : Addr) (y : V), vs = [.ref a, y] ∧ OexC K C ∧ H a = some (exo a C none) ∧ Q .non H
abbrev s_WE : Stmt := inClass (top 3) 0
theorem sc_WE : FnScope ["self", "words"] ["self", "words"] (defScope s_WE) := ⟨rfl, rfl, rfl, by decide +kernel, rfl, by decide +kernel, by decide +kernel⟩
theorem ok_WE {f : Addr} {fd : FuncData} {dvs : List V} (F : FunD K "__init__" "WalkError.__init__" (defArgs s_WE) (defBody s_WE) (defScope s_WE) dvs [] f fd) (T : Bn mg) (vV : PySem.W.findCls K (.type "ValueError") (.type "type") "__init__" = some (.val (.builtin "ValueError.__init__"))) :
    FnOk P w K mg base CX0 1 f fd ["self", "words"] (spWE K) := by
  refine F.ok sc_WE (fun vs H Q E h => ?_) (fun cdv A outer s H vs Q E hr h => ?_)
  · obtain ⟨a, C, y, rfl, _⟩ := h
    rfl
  · obtain ⟨a, C, y, rfl, O, ha, k⟩ := h
    refine ⟨_, pss_one (ps_expr (pe_veinit rfl T.n_ValueError vV (pa_cons (pv 0) (pa_cons (pv 1) pa_nil)))), ?_⟩
    exact ⟨_, rfl, _, rfl, a, C, [y], rfl, by show 1 ≤ 1000; decide, O, ha, k⟩
/-- BadShare.__init__: the two things are kept -/
def spBS (K : PySem.W.Frag) (B : Addr) : Sp := fun vs H Q _ => ∃ (a : Addr) (y z : V), vs = [.ref a, y, z] ∧ OexC K B ∧ PySem.W.findIn K (.ref B) "top" = some none ∧ PySem.W.findIn K (.ref B) "bottom" = some none ∧ H a = some (exo a B none) ∧
  ∀ dx, H dx = none → dx ≠ a → Q .non (upd (upd (upd H dx (exd dx [("top", y)])) a (exo a B (some dx))) dx (exd dx [("bottom", z), ("top", y)]))
abbrev s_BS : Stmt := inClass (top 4) 0
theorem sc_BS : FnScope ["self", "top", "bottom"] ["self", "top", "bottom"] (defScope s_BS) := ⟨rfl, rfl, rfl, by decide +kernel, rfl, by decide +kernel, by decide +kernel⟩
theorem ok_BS {f g W B : Addr} {mc : Value} {fd fdW : FuncData} (F : Fun K "__init__" "BadShare.__init__" s_BS f fd) (gW : mg "WalkError" = some (.ref W)) (c : ClsFn K W mc "__init__" g) (FW : FnOk P w K mg base CX0 1 g fdW ["self", "words"] (spWE K)) (bW : Binds K fdW ["self", "words"] []) :
    FnOk P w K mg base CX0 2 f fd ["self", "top", "bottom"] (spBS K B) := by
  refine F.ok sc_BS (fun vs H Q E h => ?_) (fun cdv A outer s H vs Q E hr h => ?_)
  · obtain ⟨a, y, z, rfl, _⟩ := h
    rfl
  · obtain ⟨a, y, z, rfl, O, nt, nb, ha, k⟩ := h
    refine ⟨_, pss_cons (ps_expr (pe_clsfn c FW hr rfl gW bW pass0 (pa_cons (pv 0) (pa_cons pe_str pa_nil))))
      (pss_cons (ps_ost (pv 0) (pv 1)) (pss_one (ps_ost (pv 0) (pv 2)))), ?_⟩
    refine ⟨_, rfl, a, B, _, rfl, O, ha, ?_⟩
    refine ⟨_, rfl, _, rfl, a, B, rfl, O, nt, .inl ⟨ha, fun dx hd ne => ?_⟩⟩
    refine ⟨_, rfl, _, rfl, a, B, rfl, O, nb, .inr ⟨dx, [("top", y)], upd_same, ?_, by show 1 ≤ 900; decide, ?_⟩⟩
    · rw [upd_ne ne, upd_same]
    · exact k dx hd ne
end
end KD
set_option Elab.async false
set_option linter.all false
set_option maxRecDepth 100000
set_option maxHeartbeats 4000000
namespace L2
open PySem PySem.Spec PyProof.Rows
/-- // by any divisor but 0 below 2 ^ 9000 -/
def CDivG (_ j : Int) : Prop := j ≠ 0 ∧ j.natAbs.log2 < 9000
theorem op_fdivG {X : Cx} : OpR X (binaryOp .FloorDiv) (rI CDivG fun i j => .int (i.fdiv j)) := opI fun _ _ _ _ _ _ _ hc q => floordiv_int hc.1 q (.inl (PyProof.noPylong_of_log2 hc.2))
end L2
namespace KD
open PySem L2
/-! ### a share's numbers -/
theorem kTB : ¬ (("top" : Str) = "bottom") := by decide +kernel
def shF (t n : Int) : List (Str × V) := putF "bottom" (.int n) (putF "top" (.int t) [])
theorem shF_top (t n : Int) : (shF t n).lookup ("top" : Str) = some (.int t) := by
  unfold shF
  rw [lookup_putF, if_neg kTB, lookup_putF, if_pos rfl]
theorem shF_bottom (t n : Int) : (shF t n).lookup ("bottom" : Str) = some (.int n) := by
  unfold shF
  rw [lookup_putF, if_pos rfl]
/-- the divisor: the greatest common one, with the bottom's sign -/
def sg (a b : Int) : Int := if 0 < b then ((Nat.gcd a.natAbs b.natAbs : Nat) : Int) else -((Nat.gcd a.natAbs b.natAbs : Nat) : Int)
def lowT (a b : Int) : Int := a.fdiv (sg a b)
def lowB (a b : Int) : Int := b.fdiv (sg a b)
theorem sg_abs (a b : Int) : (sg a b).natAbs = Nat.gcd a.natAbs b.natAbs := by
  unfold sg
  split
  · exact Int.natAbs_natCast _
  · rw [Int.natAbs_neg]
    exact Int.natAbs_natCast _
theorem gcd_pos {a b : Int} (hb : b ≠ 0) : 0 < Nat.gcd a.natAbs b.natAbs := Nat.gcd_pos_of_pos_right _ (Int.natAbs_pos.mpr hb)
theorem gcd_le {a b : Int} (hb : b ≠ 0) : Nat.gcd a.natAbs b.natAbs ≤ b.natAbs := Nat.gcd_le_right _ (Int.natAbs_pos.mpr hb)
theorem sg_ne {a b : Int} (hb : b ≠ 0) : sg a b ≠ 0 := fun z => by
  have h := sg_abs a b
  rw [z] at h
  have := gcd_pos (a := a) hb
  have h0 : (0 : Int).natAbs = 0 := rfl
  omega
theorem log2_mono {m n : Nat} (h : m ≤ n) : m.log2 ≤ n.log2 := by
  by_cases hm : m = 0
  · subst hm
    exact Nat.zero_le _
  · have hn : n ≠ 0 := by omega
    exact (Nat.le_log2 hn).mpr (Nat.le_trans (Nat.log2_self_le hm) h)
theorem sg_div {a b : Int} (hb : b ≠ 0) (hl : b.natAbs.log2 < 9000) (i : Int) : CDivG i (sg a b) :=
  ⟨sg_ne hb, by rw [sg_abs]; exact Nat.lt_of_le_of_lt (log2_mono (gcd_le hb)) hl⟩
/-! ### Share.__init__ -/
def bad (p q : V) : Prop := isI p = false ∨ isI q = false ∨ q = .int 0
def xF (p q : V) : List (Str × V) := [("bottom", q), ("top", p)]
def spSI (K : PySem.W.Frag) (C B : Addr) : Sp := fun vs H Q E => ∃ (x dx : Addr) (p q : V), vs = [.ref x, p, q] ∧ H x = some (.ins C dx []) ∧ Thing K C H p ∧ Thing K C H q ∧
  ((∃ a b : Int, p = .int a ∧ q = .int b ∧ b ≠ 0 ∧ b.natAbs.log2 < 9000 ∧ Q .non (upd H x (.ins C dx (shF (lowT a b) (lowB a b))))) ∨
    (bad p q ∧ ∀ (d : Addr) (H' : Hp), H d = none → Same H H' → H' d = some (.xd (xF p q)) → E (.ref B) (some d) H'))
/-- what the walk asks of the class Share -/
structure ShT (K : PySem.W.Frag) (mg : Str → Option Value) (C : Addr) : Prop where
  bn : Bn mg
  it : InsT K C
  nT : NoAttr K C "top"
  nB : NoAttr K C "bottom"
  g_gcd : mg "gcd" = some (.builtin "math.gcd")
  g_Share : mg "Share" = some (.ref C)
/-- .. of the class BadShare -/
structure BsT (P : Program) (w : World) (K : PySem.W.Frag) (mg : Str → Option Value) (base : Heap) (B : Addr) : Prop where
  O : OexC K B
  nt : PySem.W.findIn K (.ref B) "top" = some none
  nb : PySem.W.findIn K (.ref B) "bottom" = some none
  gB : mg "BadShare" = some (.ref B)
  made : ∃ (fI : Addr) (fd : FuncData), PySem.W.findIn K (.ref B) "__init__" = some (some (.ref fI)) ∧ PySem.W.typeIn K (.ref fI) = some (.type "function") ∧ FnOk P w K mg base CX0 2 fI fd ["self", "top", "bottom"] (spBS K B) ∧ Binds K fd ["self", "top", "bottom"] []
section
variable {P : Program} {w : World} {K : PySem.W.Frag} {mg : Str → Option Value} {base : Heap} {C B : Addr}
theorem iteB {c : Bool} {A B : Prop} (h1 : c = true → A) (h2 : c = false → B) : if c = true then A else B := by
  cases c
  · rw [if_neg (by decide)]
    exact h2 rfl
  · rw [if_pos rfl]
    exact h1 rfl
/-- the exception's dict behind the call of its class -/
theorem bs_end {H : Hp} {a dx : Addr} {p q : V} {B : Addr} (ha : H a = none) (hd : (upd H a (exo a B none)) dx = none) (ne : dx ≠ a) :
    Same H (upd (L2.del (upd (upd (upd (upd H a (exo a B none)) dx (exd dx [("top", p)])) a (exo a B (some dx))) dx (exd dx (xF p q))) a) dx (.xd (xF p q))) := fun b o h => by
  have nb : b ≠ a := ne_of_none h ha
  have nd : b ≠ dx := fun z => by rw [upd_ne ne] at hd; rw [z, hd] at h; cases h
  rw [upd_ne nd, del_ne nb, upd_ne nd, upd_ne nb, upd_ne nd, upd_ne nb]
  exact h
theorem isI_int {p : V} (h : isI p = true) : ∃ a, p = .int a := by cases p <;> first | exact ⟨_, rfl⟩ | cases h
abbrev s_SI : Stmt := inClass (top 15) 0
theorem sc_SI : FnScope ["self", "top", "bottom", "common"] ["self", "top", "bottom"] (defScope s_SI) := ⟨rfl, rfl, rfl, by decide +kernel, rfl, by decide +kernel, by decide +kernel⟩
theorem ok_SI {f : Addr} {fd : FuncData} {dvs : List V} (F : FunD K "__init__" "Share.__init__" (defArgs s_SI) (defBody s_SI) (defScope s_SI) dvs [] f fd) (T : ShT K mg C) (Bt : BsT P w K mg base B) (c_is_whole : Cal P w K mg base 1 "is_whole" ["thing"] (spWhole K C)) :
    FnOk P w K mg base (L2.CX P w) 4 f fd ["self", "top", "bottom"] (spSI K C B) := by
  obtain ⟨fI, fdI, iC, tI, FI, bI⟩ := Bt.made
  refine F.ok sc_SI (fun vs H Q E h => ?_) (fun cdv A outer s H vs Q E hr h => ?_)
  · obtain ⟨x, dx, p, q, rfl, _⟩ := h
    rfl
  · obtain ⟨x, dx, p, q, rfl, hx, hp, hq, k⟩ := h
    refine ⟨_, (pss_cons (ps_if (PW.pt (pw_or (pt_not (pt_val (pe_cal c_is_whole (hr.mono (by decide)) rfl (pa_cons (pv 1) pa_nil)))) (pw_or (pt_not (pt_val (pe_cal c_is_whole (hr.mono (by decide)) rfl (pa_cons (pv 2) pa_nil)))) (pw_or1 (pt_cmpR op_eq (pv 2) pe_int (nomark _))))))
        (pss_one (ps_raise (W := fun cls d _ H => E cls d H) rfl (takes_of rfl rfl rfl rfl) (pmk_oex Bt.O iC tI FI hr bI .nil pass0 rfl Bt.gB (pa_cons (pv 1) (pa_cons (pv 2) pa_nil)))))
        pss_nil)
      (pss_cons (ps_set (i := 3) sc_SI.nd rfl (Or.inl rfl) (pe_ifExp (pt_cmpR op_gt (pv 2) pe_int (nomark _)) (pe_callBfun cr_gcd rfl T.g_gcd (pa_cons (pv 1) (pa_cons (pv 2) pa_nil))) (pe_un un_neg (pe_callBfun cr_gcd rfl T.g_gcd (pa_cons (pv 1) (pa_cons (pv 2) pa_nil))))))
      (pss_cons (ps_fld (pv 0) (pe_op op_fdivG (pv 1) (pv 3)) rfl)
      (pss_one (ps_fld (pv 0) (pe_op op_fdivG (pv 2) (pv 3)) rfl))))), ?_⟩
    -- BadShare(top, bottom)
    have raise : bad p q → ∀ (σ : St), σ[1]? = some (some p) → σ[2]? = some (some q) →
        tMkO B (spBS K B) [] (tCons (tVar 1) (tCons (tVar 2) tNil)) σ H (fun cls d H' => E cls d H') := by
      intro hb σ h1 h2
      rcases k with ⟨a, b, rfl, rfl, nz, _⟩ | ⟨_, k⟩
      · rcases hb with z | z | z
        · cases z
        · cases z
        · exact absurd (V.int.inj z) nz
      · refine ⟨p, h1, q, h2, by show 2 ≤ 1000; decide, fun a ha => ?_⟩
        refine ⟨a, p, q, rfl, Bt.O, Bt.nt, Bt.nb, upd_same, fun d hd ne => ⟨rfl, d, xF p q, ?_, upd_same, ?_, ?_⟩⟩
        · rw [upd_ne ne.symm, upd_same]
        · rw [upd_ne ne] at hd
          exact hd
        · refine k d _ ?_ (bs_end ha hd ne) upd_same
          rw [upd_ne ne] at hd
          exact hd
    refine ⟨_, rfl, p, rfl, hp, _, rfl, iteB (fun z => ?_) (fun z => ?_)⟩
    · refine iteT (raise (.inl ?_) _ rfl rfl)
      simpa using z
    · refine ⟨_, rfl, q, rfl, hq, _, rfl, iteB (fun z2 => ?_) (fun z2 => ?_)⟩
      · refine iteT (raise (.inr (.inl ?_)) _ rfl rfl)
        simpa using z2
      · obtain ⟨a, rfl⟩ := isI_int (p := p) (by simpa using z)
        obtain ⟨b, rfl⟩ := isI_int (p := q) (by simpa using z2)
        refine ⟨_, rfl, rfl, _, rfl, ?_⟩
        refine ite2 (fun e => ?_) (fun e => ?_)
        · have e' : V.int b = V.int 0 := of_decide_eq_true e
          exact raise (.inr (.inr e')) _ rfl rfl
        · have nz : b ≠ 0 := fun z => e (by rw [z]; exact decide_eq_true rfl)
          rcases k with ⟨a', b', ea, eb, _, hl, k⟩ | ⟨hb, _⟩
          · cases ea
            cases eb
            -- common
            refine ⟨_, rfl, _, _, rfl, rfl, _, rfl, ?_⟩
            have rest : ∀ c : Int, c = sg a b → (tSeq (sFld K (tVar 0) (tOp (rI CDivG fun i j => .int (i.fdiv j)) (tVar 1) (tVar 3)) "top") (sFld K (tVar 0) (tOp (rI CDivG fun i j => .int (i.fdiv j)) (tVar 2) (tVar 3)) "bottom"))
                { nx := fun _ H' => Q .non H', rt := Q } [some (.ref x), some (.int a), some (.int b), some (.int c)] H := by
              rintro c rfl
              refine ⟨_, rfl, _, rfl, a, sg a b, rfl, rfl, sg_div nz hl a, ?_⟩
              refine ⟨_, rfl, x, C, dx, [], rfl, hx, T.it.cl, T.nT, by show 0 < 1000; decide, ?_⟩
              refine ⟨_, rfl, _, rfl, b, sg a b, rfl, rfl, sg_div nz hl b, ?_⟩
              refine ⟨_, rfl, x, C, dx, _, rfl, upd_same, T.it.cl, T.nB, by show 1 < 1000; decide, ?_⟩
              rw [upd_upd]
              exact k
            refine ite2 (fun e2 => ?_) (fun e2 => ?_)
            · refine ⟨_, rfl, _, rfl, a, b, rfl, ?_⟩
              refine rest _ ?_
              unfold sg
              rw [if_pos (of_decide_eq_true e2)]
            · refine ⟨_, rfl, _, rfl, a, b, rfl, _, rfl, ?_⟩
              refine rest _ ?_
              unfold sg
              rw [if_neg (fun z => e2 (decide_eq_true z))]
          · rcases hb with z | z | z
            · cases z
            · cases z
            · exact absurd (V.int.inj z) nz
end
end KD
set_option Elab.async false
set_option linter.all false
set_option maxRecDepth 100000
set_option maxHeartbeats 4000000
namespace KD
open PySem L2
/-- == of a share at a and y -/
def EqS (K : PySem.W.Frag) (C : Addr) (a : Addr) (y : V) (b : Bool) (H : Hp) : Prop := ∃ (dx : Addr) (t n : Int), H a = some (.ins C dx (shF t n)) ∧
  ((∃ (c dy : Addr) (t' n' : Int), y = .ref c ∧ H c = some (.ins C dy (shF t' n')) ∧ b = (decide (V.int t = V.int t') && decide (V.int n = V.int n'))) ∨
    (∃ T, Fo K H y T) ∧ b = (isI y && (decide (V.int n = V.int 1) && decide (V.int t = y))))
section
variable {P : Program} {w : World} {K : PySem.W.Frag} {mg : Str → Option Value} {base : Heap} {C B : Addr}
abbrev s_eq : Stmt := inClass (top 15) 8
theorem sc_eq : FnScope ["self", "other"] ["self", "other"] (defScope s_eq) := ⟨rfl, rfl, rfl, by decide +kernel, rfl, by decide +kernel, by decide +kernel⟩
theorem ok_eq {f : Addr} {fd : FuncData} (F : Fun K "__eq__" "Share.__eq__" s_eq f fd) (T : ShT K mg C) (c_is_whole : Cal P w K mg base 1 "is_whole" ["thing"] (spWhole K C)) :
    FnOk P w K mg base CX0 2 f fd ["self", "other"] (spOwn (EqS K C)) := by
  refine F.ok sc_eq (fun vs H Q E h => ?_) (fun cdv A outer s H vs Q E hr h => ?_)
  · obtain ⟨a, y, b, rfl, _⟩ := h
    rfl
  · obtain ⟨a, y, b, rfl, ⟨dx, t, n, ha, hy⟩, k⟩ := h
    refine ⟨_, (pss_cons (ps_if (pt_val (pe_callB call_isi (by rfl) T.bn.n_isinstance (by decide +kernel) (pa_cons (pv 1) (pa_cons (pe_glob (v := .ref C) rfl T.g_Share rfl) pa_nil))))
        (pss_one (ps_ret (pe_and (pe_cmpR op_eq (pe_fld (pv 0) rfl) (pe_fld (pv 1) rfl) (nomark _)) (pe_one (pe_cmpR op_eq (pe_fld (pv 0) rfl) (pe_fld (pv 1) rfl) (nomark _))))))
        pss_nil)
      (pss_one (ps_ret (pe_and (pe_cal c_is_whole (hr.mono (by decide)) rfl (pa_cons (pv 1) pa_nil)) (pe_and (pe_cmpR op_eq (pe_fld (pv 0) rfl) pe_int (nomark _)) (pe_one (pe_cmpR op_eq (pe_fld (pv 0) rfl) (pv 1) (nomark _)))))))), ?_⟩
    rcases hy with ⟨c, dy, t', n', rfl, hc, rfl⟩ | ⟨⟨T', hT⟩, rfl⟩
    · refine ⟨_, rfl, .ref c, .ref C, _, _, true, rfl, .own C, T.it.ty hc, T.it.kself, _, rfl, iteT ?_⟩
      refine ⟨_, rfl, a, C, dx, _, _, rfl, ha, T.it.cl, T.nT, shF_top _ _, _, rfl, c, C, dy, _, _, rfl, hc, T.it.cl, T.nT, shF_top _ _, rfl, _, rfl, iteB (fun z => ?_) (fun z => ?_)⟩
      · refine ⟨_, rfl, a, C, dx, _, _, rfl, ha, T.it.cl, T.nB, shF_bottom _ _, _, rfl, c, C, dy, _, _, rfl, hc, T.it.cl, T.nB, shF_bottom _ _, rfl, ?_⟩
        rw [z, Bool.true_and] at k
        exact k
      · rw [z, Bool.false_and] at k
        exact k
    · refine ⟨_, rfl, y, .ref C, _, _, false, rfl, .own C, hT.ty, T.it.fo hT, _, rfl, iteF ?_⟩
      refine ⟨_, rfl, y, rfl, .fo hT, _, rfl, iteB (fun z => ?_) (fun z => ?_)⟩
      · rw [z, Bool.true_and] at k
        obtain ⟨i, rfl⟩ := isI_int z
        refine ⟨_, rfl, a, C, dx, _, _, rfl, ha, T.it.cl, T.nB, shF_bottom _ _, rfl, _, rfl, iteB (fun z => ?_) (fun z => ?_)⟩
        · refine ⟨_, rfl, a, C, dx, _, _, rfl, ha, T.it.cl, T.nT, shF_top _ _, _, rfl, rfl, ?_⟩
          rw [z, Bool.true_and] at k
          exact k
        · rw [z, Bool.false_and] at k
          exact k
      · rw [z, Bool.false_and] at k
        exact k
end
end KD
set_option Elab.async false
set_option linter.all false
set_option maxRecDepth 100000
set_option maxHeartbeats 4000000
namespace KD
open PySem L2
/-! ### the pool of the draws -/
/-- its list: a number below 2 ^ 64, and what is left of the greatest cell -/
def PoolL (o : HO) : Prop := ∃ n g : Int, o = .lst [.int n, .int g] ∧ 0 ≤ n ∧ n < 2 ^ 64 ∧ 0 ≤ g
def PoolAt (H : Hp) (a : Addr) : Prop := ∃ o, H a = some o ∧ PoolL o
theorem PoolAt.put {H : Hp} {a : Addr} {o : HO} (h : PoolL o) : PoolAt (upd H a o) a := ⟨o, upd_same, h⟩
/-- all that was tracked, but the pool, stands -/
def Keep (a : Addr) (H H' : Hp) : Prop := ∀ b o, H b = some o → b ≠ a → H' b = some o
theorem Keep.refl (a : Addr) (H : Hp) : Keep a H H := fun _ _ h _ => h
theorem Keep.trans {a : Addr} {H H1 H2 : Hp} (x : Keep a H H1) (y : Keep a H1 H2) : Keep a H H2 := fun b o h n => y b o (x b o h n) n
theorem Keep.put {a : Addr} {H : Hp} (o : HO) : Keep a H (upd H a o) := fun b u h n => by rw [upd_ne n]; exact h
theorem Keep.of {a : Addr} {H H' : Hp} (s : Same H H') : Keep a H H' := fun b o h _ => s b o h
theorem Same.put {H : Hp} {p : Addr} {o : HO} (h : H p = none) : Same H (upd H p o) := fun b u e => by rw [upd_ne (ne_of_none e h)]; exact e
theorem PoolAt.new {H : Hp} {a p : Addr} {o : HO} (h : PoolAt H a) (hp : H p = none) : PoolAt (upd H p o) a := by
  obtain ⟨u, e, q⟩ := h
  exact ⟨u, by rw [upd_ne (ne_of_none e hp)]; exact e, q⟩
theorem PoolAt.same {H H' : Hp} {a : Addr} (h : PoolAt H a) (s : Same H H') : PoolAt H' a := by
  obtain ⟨u, e, q⟩ := h
  exact ⟨u, s _ _ e, q⟩
theorem PoolAt.ne {H : Hp} {a b : Addr} {xs : List V} (h : PoolAt H a) (e : H b = some (.tup xs)) : b ≠ a := fun z => by
  obtain ⟨u, e2, n, g, q, _⟩ := h
  rw [z, e2, q] at e
  cases e
theorem SqT.put {K : PySem.W.Frag} {H : Hp} {a t : Addr} {xs : List V} {o : HO} (h : PoolAt H a) (s : SqT K H t xs) : SqT K (upd H a o) t xs := by
  obtain ⟨u, e2, n, g, q, _⟩ := h
  rcases s with (s | ⟨ob, s⟩) | s
  · refine .inl (.inl ?_)
    rw [upd_ne (fun z => by rw [z, e2, q] at s; cases s)]
    exact s
  · refine .inl (.inr ⟨ob, ?_⟩)
    rw [upd_ne (fun z => by rw [z, e2, q] at s; cases s)]
    exact s
  · exact .inr s
/-- the next number of the pool -/
def nextN (n : Int) : Int := ((n + 7919) * 6364136223846793005 + 1442695040888963407).fmod ((2 : Int) ^ (64 : Int).toNat)
theorem nextN_ok (n : Int) : 0 ≤ nextN n ∧ nextN n < 2 ^ 64 := by
  have e2 : ((2 : Int) ^ (64 : Int).toNat) = 18446744073709551616 := by decide +kernel
  unfold nextN
  rw [e2, Int.fmod_eq_emod_of_nonneg _ (by decide)]
  exact ⟨Int.emod_nonneg _ (by decide), Int.emod_lt_of_pos _ (by decide)⟩
def spDraw : Sp := fun vs H Q _ => ∃ (a : Addr) (m : Int), vs = [.ref a, .int m] ∧ PoolAt H a ∧ 0 < m ∧ m.natAbs.log2 < 9000 ∧ ∀ (r : Int) (o : HO), 0 ≤ r → r < m → PoolL o → Q (.int r) (upd H a o)
theorem log_small {m : Int} {b : Nat} (h : m.natAbs < 2 ^ b) (h0 : 0 < b) (hb : b ≤ 9000) : m.natAbs.log2 < 9000 := Nat.lt_of_lt_of_le (PySem.Flt.log2_lt_of h0 h) hb
theorem at0 {x y : V} : atI [x, y] 0 = some x := by
  have h : ([x, y] : List V)[0]? = some x := rfl
  exact atI_nat h
theorem at1 {x y : V} : atI [x, y] 1 = some y := by
  have h : ([x, y] : List V)[1]? = some y := rfl
  exact atI_nat h
section
variable {P : Program} {w : World} {K : PySem.W.Frag} {mg : Str → Option Value} {base : Heap} {C B : Addr}
abbrev s_draw : Stmt := top 42
theorem sc_draw : FnScope ["_law_pool_here", "_law_many", "_law_digit"] ["_law_pool_here", "_law_many"] (defScope s_draw) := ⟨rfl, rfl, rfl, by decide +kernel, rfl, by decide +kernel, by decide +kernel⟩
theorem ok_draw {f : Addr} {fd : FuncData} (F : Fun K "_law_draw" "_law_draw" s_draw f fd) (T : Bn mg) : FnOk P w K mg base CX0 1 f fd ["_law_pool_here", "_law_many"] spDraw := by
  refine F.ok sc_draw (fun vs H Q E h => ?_) (fun cdv A outer s H vs Q E hr h => ?_)
  · obtain ⟨a, m, rfl, _⟩ := h
    rfl
  · obtain ⟨a, m, rfl, ⟨_, ha, n, g, rfl, n0, n1, g0⟩, m0, ml, k⟩ := h
    have ia : ∀ {H' : Hp} {n g : Int}, H' a = some (.lst [.int n, .int g]) → SqL K H' a [.int n, .int g] := fun h => SqL.of h
    refine ⟨_, (pss_cons (ps_if (pt_cmpR op_ge (pe_ix ix_list (pv 0) pe_int (fun _ _ => rfl)) (pe_op op_pow pe_int pe_int) (nomark _))
        (pss_cons (ps_set (i := 2) sc_draw.nd rfl (Or.inl rfl) (pe_op op_modN (pe_callTy call_int1 (by rfl) T.n_int (by decide +kernel) (pa_cons (pe_ix ix_list (pv 0) pe_int (fun _ _ => rfl)) pa_nil)) (pv 1)))
          (pss_cons (ps_asg (pe_op op_fdivW (pe_ix ix_list (pv 0) pe_int (fun _ _ => rfl)) (pv 1)) (pg_sub (pv 0) pe_int set_list))
          (pss_one (ps_ret (pv 2)))))
        pss_nil)
      (pss_cons (ps_asg (pe_op op_modN (pe_callTy call_int1 (by rfl) T.n_int (by decide +kernel) (pa_cons (pe_op op_add (pe_op op_mul (pe_callTy call_int1 (by rfl) T.n_int (by decide +kernel) (pa_cons (pe_op op_add (pe_ix ix_list (pv 0) pe_int (fun _ _ => rfl)) pe_int) pa_nil)) pe_int) pe_int) pa_nil)) (pe_op op_pow pe_int pe_int)) (pg_sub (pv 0) pe_int set_list))
      (pss_one (ps_ret (pe_op op_modN (pe_callTy call_int1 (by rfl) T.n_int (by decide +kernel) (pa_cons (pe_op op_fdivW (pe_ix ix_list (pv 0) pe_int (fun _ _ => rfl)) pe_int) pa_nil)) (pv 1)))))), ?_⟩
    refine ⟨_, rfl, a, _, 1, _, rfl, rfl, ia ha, at1, 10, 9, rfl, rfl, ⟨by decide, by decide, by decide⟩, g, _, rfl, rfl, _, rfl, ite2 (fun e => ?_) (fun e => ?_)⟩
    · refine ⟨_, rfl, a, _, 1, _, rfl, rfl, ia ha, at1, .inl ⟨g, rfl, _, rfl, g, m, rfl, rfl, by omega, ?_⟩⟩
      refine ⟨_, rfl, a, _, 1, _, rfl, rfl, ia ha, at1, _, rfl, g, m, rfl, rfl, ⟨m0, ml⟩, ?_⟩
      refine ⟨_, rfl, a, _, 1, 1, rfl, rfl, ha, rfl, _, rfl, ?_⟩
      have e1 : g.fmod m = g % m := Int.fmod_eq_emod_of_nonneg g (by omega)
      show Q (.int (g.fmod m)) (upd H a (.lst [.int n, .int (g / m)]))
      rw [e1]
      exact k _ _ (Int.emod_nonneg g (by omega)) (Int.emod_lt_of_pos g m0) ⟨n, g / m, rfl, n0, n1, Int.ediv_nonneg g0 (by omega)⟩
    · refine ⟨_, rfl, a, _, 0, _, rfl, rfl, ia ha, at0, n, 7919, rfl, rfl, .inl ⟨n + 7919, rfl, _, _, rfl, rfl, .inr ⟨by decide, by decide⟩, _, _, rfl, rfl, .inl ⟨_, rfl, ?_⟩⟩⟩
      refine ⟨2, 64, rfl, rfl, ⟨by decide, by decide, by decide⟩, _, _, rfl, rfl, (by show ((2 : Int) ^ (64 : Int).toNat) ≠ 0; decide +kernel), ?_⟩
      refine ⟨_, rfl, a, _, 0, 0, rfl, rfl, ha, rfl, ?_⟩
      obtain ⟨z0, z1⟩ := nextN_ok n
      refine ⟨_, rfl, a, _, 0, _, rfl, rfl, ia (n := nextN n) (g := g) upd_same, at0, nextN n, 65536, rfl, rfl, ⟨by decide, by decide⟩, .inl ⟨_, rfl, _, rfl, _, m, rfl, rfl, by omega, ?_⟩⟩
      have e1 : (nextN n / 65536).fmod m = (nextN n / 65536) % m := Int.fmod_eq_emod_of_nonneg _ (by omega)
      show Q (.int ((nextN n / 65536).fmod m)) (upd H a (.lst [.int (nextN n), .int g]))
      rw [e1]
      exact k _ _ (Int.emod_nonneg _ (by omega)) (Int.emod_lt_of_pos _ m0) ⟨nextN n, g, rfl, z0, z1, g0⟩
abbrev s_pick : Stmt := top 43
theorem sc_pick : FnScope ["_law_pool_here", "_law_things"] ["_law_pool_here", "_law_things"] (defScope s_pick) := ⟨rfl, rfl, rfl, by decide +kernel, rfl, by decide +kernel, by decide +kernel⟩
end
end KD
set_option Elab.async false
set_option linter.all false
set_option maxRecDepth 100000
set_option maxHeartbeats 4000000
namespace KD
open PySem L2
theorem take_more {α : Type} : ∀ {l : List α} {i : Nat} {x : α}, l[i]? = some x → l.take (i + 1) = l.take i ++ [x]
  | [], i, x, h => by simp at h
  | a :: l, 0, x, h => by
    have e : a = x := Option.some.inj h
    subst e
    rfl
  | a :: l, i + 1, x, h => by
    have ih := take_more (l := l) (i := i) (x := x) h
    show a :: l.take (i + 1) = a :: l.take i ++ [x]
    rw [ih]
    rfl
theorem at_map {ms : List Int} {i : Nat} {x : V} (h : (ms.map V.int)[i]? = some x) : ∃ z, ms[i]? = some z ∧ x = .int z := by
  rw [List.getElem?_map] at h
  cases e : ms[i]? with
  | none => rw [e] at h; cases h
  | some z => rw [e] at h; exact ⟨z, rfl, (Option.some.inj h).symm⟩
theorem cut_map (ns : List Int) (lo hi : Option Int) : ∃ ms : List Int, cutV (ns.map V.int) lo hi = ms.map V.int ∧ ms.length ≤ ns.length := by
  refine ⟨(ns.drop (HT.sIx (ns.map V.int).length 0 lo)).take (HT.sIx (ns.map V.int).length (ns.map V.int).length hi - HT.sIx (ns.map V.int).length 0 lo), ?_, ?_⟩
  · unfold cutV
    rw [List.map_take, List.map_drop]
  · rw [List.length_take, List.length_drop]
    omega
theorem yes_of {σ : St} {H : Hp} {A B : Hp → Prop} (h : A H) : tYes σ H (fun b H3 => if b = true then A H3 else B H3) := by
  show (if true = true then A H else B H)
  rw [if_pos rfl]
  exact h
def spPool (K : PySem.W.Frag) : Sp := fun vs H Q _ => ∃ (a : Addr) (ns : List Int), vs = [.ref a] ∧ SqL K H a (ns.map V.int) ∧ ns.length ≤ 63 ∧ ∀ (p : Addr) (H' : Hp), Same H H' → H p = none → PoolAt H' p → Q (.ref p) H'
theorem sml {n : Nat} (h : n ≤ 1000) : n < sizeLine := small1000 h
section
variable {P : Program} {w : World} {K : PySem.W.Frag} {mg : Str → Option Value} {base : Heap} {C B : Addr}
abbrev s_pool : Stmt := top 41
theorem sc_pool : FnScope ["_law_script", "_law_cells", "_law_number", "_law_cell", "_law_great"] ["_law_script"] (defScope s_pool) := ⟨rfl, rfl, rfl, by decide +kernel, rfl, by decide +kernel, by decide +kernel⟩
theorem ok_pool {f : Addr} {fd : FuncData} (F : Fun K "_law_pool" "_law_pool" s_pool f fd) (T : Bn mg) : FnOk P w K mg base CX0 1 f fd ["_law_script"] (spPool K) := by
  refine F.ok sc_pool (fun vs H Q E h => ?_) (fun cdv A outer s H vs Q E hr h => ?_)
  · obtain ⟨a, ns, rfl, _⟩ := h
    rfl
  · obtain ⟨a, ns, rfl, ha, hl, k⟩ := h
    refine ⟨_, (pss_cons (ps_set (i := 1) sc_pool.nd rfl (Or.inl rfl) (pe_op op_cat (pe_lc (own := [("_law_cell", 3)]) rfl sc_pool.nd (pi_list (pe_slice sl_list (pv 0) po_none (po_some pe_int))) (blkOk_by (N := ["_law_script", "_law_cells", "_law_number", "_law_cell", "_law_great"]) (sc := defScope s_pool) (by decide +kernel)) (fun _ _ _ _ _ => (pg_name (i := 3) sc_pool.nd rfl (Or.inl rfl))) (fun _ _ _ _ _ => pts_nil) (fun _ _ _ _ _ => (pe_callTy call_int1 (by rfl) T.n_int (by decide +kernel) (pa_cons (pv 3) pa_nil)))) (pe_lst (pa_cons (pe_callB call_len_seq (by rfl) T.n_len PySem.boot_len (pa_cons (pe_slice sl_list (pv 0) po_none (po_some pe_int)) pa_nil)) pa_nil))))
      (pss_cons (ps_set (i := 2) sc_pool.nd rfl (Or.inl rfl) pe_int)
      (pss_cons (ps_for PassesOwn.never rfl (pi_list (pv 1)) (pg_name (i := 3) sc_pool.nd rfl (Or.inl rfl))
        (pss_one (ps_set (i := 2) sc_pool.nd rfl (Or.inl rfl) (pe_op op_modN (pe_callTy call_int1 (by rfl) T.n_int (by decide +kernel) (pa_cons (pe_op op_add (pe_op op_add (pe_op op_mul (pv 2) pe_int) (pv 3)) pe_int) pa_nil)) (pe_op op_sub (pe_op op_pow pe_int pe_int) pe_int)))))
      (pss_cons (ps_setLc (i := 4) (own := [("_law_cell", 3)]) rfl sc_pool.nd rfl rfl (sw_true rfl rfl rfl (by decide +kernel)) (pi_list (pv 1)) (blkOk_by (N := ["_law_script", "_law_cells", "_law_number", "_law_cell", "_law_great"]) (sc := defScope s_pool) (by decide +kernel)) (fun _ _ _ _ _ => (pg_name (i := 3) sc_pool.nd rfl (Or.inl rfl))) (fun _ _ _ _ _ => (pts_one (pt_cmpR op_ge (pe_callB call_abs (by rfl) T.n_abs (by decide +kernel) (pa_cons (pv 3) pa_nil)) (pe_op op_pow pe_int pe_int) (nomark _)))) (fun _ _ _ _ _ => (pe_callB call_abs (by rfl) T.n_abs (by decide +kernel) (pa_cons (pv 3) pa_nil))))
      (pss_one (ps_ret (pe_lst (pa_cons (pv 2) (pa_cons (pe_ix ix_list (pe_op op_cat (pv 4) (pe_lst (pa_cons pe_int pa_nil))) pe_int (fun _ _ => rfl)) pa_nil))))))))), ?_⟩
    obtain ⟨ms, hms, hml⟩ := cut_map ns none (some 60)
    -- the cells
    refine ⟨_, rfl, _, rfl, a, _, rfl, ha, fun p1 np1 => ?_⟩
    rw [hms]
    refine ⟨p1, rfl, ⟨_, SqL.of upd_same⟩, fun D nD => ?_⟩
    refine lc_list (K := K) (a := p1) (xs := ms.map V.int) (fun i H' => H' = upd (upd H p1 (.lst (ms.map V.int))) D (.lst ((ms.take i).map V.int))) rfl (fun i H' hi e => ?_) ?_ ?_
    · rw [e]
      have ne : p1 ≠ D := fun z => by rw [← z, upd_same] at nD; cases nD
      exact SqL.of (by rw [upd_ne ne, upd_same])
    · rintro i x H' hi rfl
      obtain ⟨z, hz, rfl⟩ := at_map hi
      refine ⟨rfl, yes_of ?_⟩
      refine ⟨_, rfl, .inl ⟨z, rfl, _, upd_same, ?_, ?_⟩⟩
      · rw [List.length_map, List.length_take]
        exact sml (by omega)
      · rw [upd_upd, take_more hz, List.map_append]
        rfl
    · rintro H' rfl
      rw [List.length_map, List.take_length]
      have s1 : Same H (upd (upd H p1 (.lst (ms.map V.int))) D (.lst (ms.map V.int))) := (Same.put np1).trans (Same.put nD)
      have eD : (upd (upd H p1 (.lst (ms.map V.int))) D (.lst (ms.map V.int))) D = some (.lst (ms.map V.int)) := upd_same
      generalize (upd (upd H p1 (.lst (ms.map V.int))) D (.lst (ms.map V.int))) = H1 at s1 eD ⊢
      refine ⟨_, rfl, _, rfl, a, _, rfl, s1.seq ha, fun p2 np2 => ?_⟩
      rw [hms]
      refine ⟨p2, _, rfl, .inl (SqL.of upd_same), by show 1 ≤ sizeLine; decide, fun p3 np3 => ?_⟩
      rw [List.length_map]
      have s2 : Same H1 (upd (upd H1 p2 (.lst (ms.map V.int))) p3 (.lst [V.int (ms.length : Int)])) := (Same.put np2).trans (Same.put np3)
      refine ⟨D, p3, ms.map V.int, [V.int (ms.length : Int)], rfl, rfl, s2 _ _ eD, upd_same, ?_, fun p4 np4 => ?_⟩
      · rw [List.length_map]
        exact Nat.le_of_lt (sml (by show ms.length + 1 ≤ 1000; omega))
      have s3 : Same H (upd (upd (upd H1 p2 (.lst (ms.map V.int))) p3 (.lst [V.int (ms.length : Int)])) p4 (.lst ((ms ++ [(ms.length : Int)]).map V.int))) := (s1.trans s2).trans (Same.put np4)
      have e4 : (ms.map V.int ++ [V.int (ms.length : Int)]) = (ms ++ [(ms.length : Int)]).map V.int := by rw [List.map_append]; rfl
      rw [e4]
      have eC : (upd (upd (upd H1 p2 (.lst (ms.map V.int))) p3 (.lst [V.int (ms.length : Int)])) p4 (.lst ((ms ++ [(ms.length : Int)]).map V.int))) p4 = some (.lst ((ms ++ [(ms.length : Int)]).map V.int)) := upd_same
      have hcl : (ms ++ [(ms.length : Int)]).length ≤ 64 := by
        rw [List.length_append]
        show ms.length + 1 ≤ 64
        omega
      generalize (upd (upd (upd H1 p2 (.lst (ms.map V.int))) p3 (.lst [V.int (ms.length : Int)])) p4 (.lst ((ms ++ [(ms.length : Int)]).map V.int))) = H4 at s3 eC ⊢
      generalize ms ++ [(ms.length : Int)] = cs at eC hcl ⊢
      -- the number
      refine ⟨_, rfl, p4, rfl, ⟨_, SqL.of eC⟩, for_list (K := K) (a := p4) (xs := cs.map V.int) (fun i σ H' => H' = H4 ∧ ∃ (n : Int) (v : Option V), 0 ≤ n ∧ n < 2 ^ 64 ∧ σ = [some (.ref a), some (.ref p4), some (.int n), v, none]) ⟨rfl, 7, none, by decide, by decide, rfl⟩ (fun i σ H' _ h => by rw [h.1]; exact SqL.of eC) ?_ ?_⟩
      · rintro i x σ H' hi ⟨rfl, n, v, n0, n1, rfl⟩
        obtain ⟨z, hz, rfl⟩ := at_map hi
        refine ⟨_, rfl, _, _, rfl, rfl, .inr ⟨by decide, by decide⟩, _, rfl, _, _, rfl, rfl, _, _, rfl, rfl, .inl ⟨_, rfl, 2, 61, rfl, rfl, ⟨by decide, by decide, by decide⟩, _, _, rfl, rfl, _, _, rfl, rfl, ?_, rfl, ?_⟩⟩
        · show ((2 : Int) ^ (61 : Int).toNat - 1) ≠ 0
          decide +kernel
        · have e : ((2 : Int) ^ (61 : Int).toNat - 1) = 2305843009213693951 := by decide +kernel
          refine ⟨(n * 48271 + z + 11).fmod ((2 : Int) ^ (61 : Int).toNat - 1), some (.int z), ?_, ?_, rfl⟩
          · rw [e, Int.fmod_eq_emod_of_nonneg _ (by decide)]
            exact Int.emod_nonneg _ (by decide)
          · rw [e, Int.fmod_eq_emod_of_nonneg _ (by decide)]
            exact Int.lt_trans (Int.emod_lt_of_pos _ (by decide)) (by decide)
      · rintro σ H4 ⟨rfl, n, v, n0, n1, rfl⟩
        -- the great cells
        refine ⟨_, rfl, p4, rfl, ⟨_, SqL.of eC⟩, fun G nG => ?_⟩
        refine lc_list (K := K) (a := p4) (xs := cs.map V.int) (fun i H' => ∃ gs : List Int, H' = upd H4 G (.lst (gs.map V.int)) ∧ gs.length ≤ i ∧ ∀ g ∈ gs, 0 ≤ g) ⟨[], rfl, Nat.le_refl _, fun _ h => by cases h⟩ (fun i H' hi h => ?_) ?_ ?_
        · obtain ⟨gs, e, _⟩ := h
          rw [e]
          exact SqL.of (by rw [upd_ne (ne_of_none eC nG)]; exact eC)
        · rintro i x H' hi ⟨gs, rfl, gl, g0⟩
          obtain ⟨z, hz, rfl⟩ := at_map hi
          have hi2 : i < cs.length := (List.getElem?_eq_some_iff.mp hz).1
          refine ⟨rfl, _, rfl, z, rfl, 10, 18, rfl, rfl, ⟨by decide, by decide, by decide⟩, _, _, rfl, rfl, _, rfl, iteB (fun _ => ?_) (fun _ => ?_)⟩
          · refine ⟨_, rfl, z, rfl, _, upd_same, ?_, gs ++ [if z < 0 then -z else z], ?_, ?_, ?_⟩
            · rw [List.length_map]
              exact sml (by omega)
            · rw [upd_upd, List.map_append]
              rfl
            · rw [List.length_append]
              show gs.length + 1 ≤ i + 1
              omega
            · intro g hg
              rcases List.mem_append.mp hg with h | h
              · exact g0 g h
              · have e := List.mem_singleton.mp h
                rw [e]
                split <;> omega
          · exact ⟨gs, rfl, Nat.le_succ_of_le gl, g0⟩
        · rintro H' ⟨gs, rfl, gl, g0⟩
          rw [List.length_map] at gl
          have s4 : Same H (upd H4 G (.lst (gs.map V.int))) := s3.trans (Same.put nG)
          have eG : (upd H4 G (.lst (gs.map V.int))) G = some (.lst (gs.map V.int)) := upd_same
          generalize (upd H4 G (.lst (gs.map V.int))) = H5 at s4 eG ⊢
          refine ⟨_, rfl, _, rfl, by show 1 ≤ sizeLine; decide, fun p5 np5 => ?_⟩
          refine ⟨G, p5, gs.map V.int, [.int 0], rfl, rfl, Same.put np5 _ _ eG, upd_same, ?_, fun p6 np6 => ?_⟩
          · rw [List.length_map]
            exact Nat.le_of_lt (sml (by show gs.length + 1 ≤ 1000; omega))
          have hd : ∃ g : Int, (gs.map V.int ++ [V.int 0])[0]? = some (V.int g) ∧ 0 ≤ g := by
            cases gs with
            | nil => exact ⟨0, rfl, Int.le_refl _⟩
            | cons g r => exact ⟨g, rfl, g0 g (List.mem_cons_self ..)⟩
          obtain ⟨g, hg, gg⟩ := hd
          refine ⟨p6, _, 0, .int g, rfl, rfl, SqL.of upd_same, atI_nat hg, by show 2 ≤ sizeLine; decide, fun p7 np7 => ?_⟩
          have s5 := ((s4.trans (Same.put np5)).trans (Same.put np6)).trans (Same.put (o := .lst [.int n, .int g]) np7)
          exact k p7 _ s5 (((s4.trans (Same.put np5)).trans (Same.put np6)).free np7) ⟨_, upd_same, n, g, rfl, n0, n1, gg⟩
end
end KD
set_option Elab.async false
set_option linter.all false
set_option maxRecDepth 100000
set_option maxHeartbeats 4000000
/-! + - * with an instance of an own class: its own methods, on the left and on the right -/
namespace OA
open PySem PySem.SeqAt PySem.W Builtin PySem.Calls PyProof.Rows
section
variable {prog : Program} {w : World} {A : Around} {E : Value → Shared → Prop} {s : Shared} {K : Frag} {x C f g : Addr} {ox : Obj} {od : Option Obj} {nm sym : String}
/-- both of one class: the left one's method -/
theorem bin_twins {op : Operator} {b : Value} {Q : Value → Shared → Prop} (hi : op.info = (sym, nm)) (X : K.In s.heap) (I : InstAt s.heap x ox C od) (hc : selfFirst K C = true) (hs : findIn K (.ref C) (PySem.dunder nm) = some (some (.ref f))) (hf : isFn K (.ref f) = true)
    (hb : Looks (model prog w) s.heap (typeOf b) (.ref C)) (h : wpAny (model prog w) A (call (.ref f) [.ref x, b]) (PySem.W.CmpBack Q) E s) : wpAny (model prog w) A (binaryOp op (.ref x) b) Q E s := by
  obtain ⟨cd, rest, hcd, hm⟩ := ksp_first hc
  have one := ksp_try X I hs hf h
  obtain ⟨hp, gs, dd, tk, os⟩ := s
  have T1 : Looks (model prog w) hp (typeOf (.ref x)) (.ref C) := I.type
  have T2 : Looks (model prog w) hp (fillsNumberSlot (.ref C) nm) true := fills_K X hcd hm hs
  simp only [binaryOp, hi]
  refine wpAny_holding (wpAny_bind ?_)
  unfold binaryOp1
  refine wpAny_bind (T1.at (wpAny_bind (hb.at (wpAny_bind (T2.at ?_)))))
  have self : (Value.ref C == Value.ref C) = true := beq_iff_eq.mpr rfl
  simp only [self, if_true]
  ksp_lk
  refine wpAny_mono one (fun r s' hr => ?_) fun _ _ e => e
  obtain ⟨v, rfl, hq⟩ := hr
  ksp_lk
  exact hq
/-- an int on the right of an instance: the instance's method -/
theorem bin_left_int {op : Operator} {i : Int} {ti : Tok} {ro : Option Value} {Q : Value → Shared → Prop} (hi : op.info = (sym, nm)) (X : K.In s.heap) (I : InstAt s.heap x ox C od) (hc : selfFirst K C = true) (hs : findIn K (.ref C) (PySem.dunder nm) = some (some (.ref f))) (hf : isFn K (.ref f) = true)
    (hr : findIn K (.ref C) (dunderR nm) = some (some (.ref g))) (ho : findIn K (.type "int") (dunderR nm) = some ro) (hn : fillsNumberSlot (.type "int") nm = pure true) (hsub : subIn K (.type "int") (.ref C) = some false)
    (h : wpAny (model prog w) A (call (.ref f) [.ref x, .int i ti]) (PySem.W.CmpBack Q) E s) : wpAny (model prog w) A (binaryOp op (.ref x) (.int i ti)) Q E s := by
  obtain ⟨cd, rest, hcd, hm⟩ := ksp_first hc
  have one := ksp_try X I hs hf h
  obtain ⟨hp, gs, dd, tk, os⟩ := s
  have T1 : Looks (model prog w) hp (typeOf (.ref x)) (.ref C) := I.type
  have T2 : Looks (model prog w) hp (fillsNumberSlot (.ref C) nm) true := fills_K X hcd hm hs
  have T3 : Looks (model prog w) hp (typeOf (.int i ti)) (.type "int") := Looks.of_pure rfl
  have T4 : Looks (model prog w) hp (fillsNumberSlot (.type "int") nm) true := Looks.of_pure hn
  have T5 : Looks (model prog w) hp (isSubtype (.type "int") (.ref C)) false := looks_subIn X hsub
  have T6 : Looks (model prog w) hp (numberSlotInPython (.ref C) nm) true := ksp_inPy X hs hr (.inr ⟨_, rfl⟩)
  have T7 : Looks (model prog w) hp (numberSlotInPython (.type "int") nm) false := Looks.of_pure rfl
  have T8 : Looks (model prog w) hp (typeLookup (.type "int") (dunderR nm)) ro := looks_findIn X ho
  have other : (Value.ref C == Value.type "int") = false := Bool.eq_false_iff.mpr fun q => by cases beq_iff_eq.mp q
  simp only [binaryOp, hi]
  refine wpAny_holding (wpAny_bind ?_)
  unfold binaryOp1
  refine wpAny_bind (T1.at (wpAny_bind (T3.at (wpAny_bind (T2.at ?_)))))
  simp only [other, Bool.false_eq_true, if_false]
  ksp_lk
  refine wpAny_mono one (fun r s' hr => ?_) fun _ _ e => e
  obtain ⟨v, rfl, hq⟩ := hr
  ksp_lk
  exact hq
/-- an int on the left: its own method declines, then the instance's reflected one -/
theorem bin_right_int {op : Operator} {i : Int} {ti : Tok} {id : String} {Q : Value → Shared → Prop} (hi : op.info = (sym, nm)) (X : K.In s.heap) (I : InstAt s.heap x ox C od) (hc : selfFirst K C = true) (hs : findIn K (.ref C) (PySem.dunder nm) = some (some (.ref f)))
    (hr : findIn K (.ref C) (dunderR nm) = some (some (.ref g))) (hg : isFn K (.ref g) = true) (hn : fillsNumberSlot (.type "int") nm = pure true) (hsub : subIn K (.ref C) (.type "int") = some false) (sl : Slot "int" (PySem.dunder nm) id)
    (hd : ∀ (Q' : Value → Shared → Prop) (E' : Value → Shared → Prop), Q' .notImplemented s → wpAny (model prog w) A (call (.builtin id) [.int i ti, .ref x]) Q' E' s)
    (h : wpAny (model prog w) A (call (.ref g) [.ref x, .int i ti]) (PySem.W.CmpBack Q) E s) : wpAny (model prog w) A (binaryOp op (.int i ti) (.ref x)) Q E s := by
  obtain ⟨cd, rest, hcd, hm⟩ := ksp_first hc
  have two := ksp_try X I hr hg h
  have one : ∀ (Q' : Option Value → Shared → Prop) (E' : Value → Shared → Prop), Q' none s → wpAny (model prog w) A (tryMethod (.int i ti) (PySem.dunder nm) (.ref x)) Q' E' s := fun Q' E' q => wpAny_tryMethod_declines (typeIs_int s i ti) sl (hd _ _ ⟨rfl, q⟩)
  obtain ⟨hp, gs, dd, tk, os⟩ := s
  have T1 : Looks (model prog w) hp (typeOf (.ref x)) (.ref C) := I.type
  have T2 : Looks (model prog w) hp (fillsNumberSlot (.ref C) nm) true := fills_K X hcd hm hs
  have T3 : Looks (model prog w) hp (typeOf (.int i ti)) (.type "int") := Looks.of_pure rfl
  have T4 : Looks (model prog w) hp (fillsNumberSlot (.type "int") nm) true := Looks.of_pure hn
  have T5 : Looks (model prog w) hp (isSubtype (.ref C) (.type "int")) false := looks_subIn X hsub
  have T7 : Looks (model prog w) hp (numberSlotInPython (.type "int") nm) false := Looks.of_pure rfl
  have other : (Value.type "int" == Value.ref C) = false := Bool.eq_false_iff.mpr fun q => by cases beq_iff_eq.mp q
  simp only [binaryOp, hi]
  refine wpAny_holding (wpAny_bind ?_)
  unfold binaryOp1
  refine wpAny_bind (T3.at (wpAny_bind (T1.at (wpAny_bind (T4.at ?_)))))
  simp only [other, Bool.false_eq_true, if_false]
  ksp_lk
  refine one _ _ ?_
  ksp_lk
  refine wpAny_mono two (fun r s' hr => ?_) fun _ _ e => e
  obtain ⟨v, rfl, hq⟩ := hr
  ksp_lk
  exact hq
end
end OA
set_option Elab.async false
set_option linter.all false
set_option maxRecDepth 100000
set_option maxHeartbeats 4000000
namespace OA
open PySem PySem.SeqAt PySem.W Builtin
open AutoSeq1 (wpAny_loadPart')
open MeetsSeq MeetsSeq2 MeetsSeq3 SeqRoads2
section
variable {prog : Program} {w : World} {A : Around} {E : Value → Shared → Prop} {s : Shared} {x : Addr} {ox : Obj}
/-- the int's own method hands back NotImplemented at an instance -/
def Declines (id : String) : Prop := ∀ (prog : Program) (w : World) (A : Around) (s : Shared) (i : Int) (ti : Tok) (x : Addr) (ox : Obj), s.heap.get? x = some ox → ox.data = .plain → ∀ (Q E : Value → Shared → Prop), Q .notImplemented s → wpAny (model prog w) A (call (.builtin id) [.int i ti, .ref x]) Q E s
theorem at_add (b : Int) (u : Tok) {o : Obj} (hd : o.data = .plain) (l : Addr) : Meets (Builtin.«int.__add__» ⟨[.int b u, .ref l], []⟩) (fun _ R s => s.heap.get? l = some o ∧ R (.ok (.ret .notImplemented)) s) :=
  .of_wp fun prog w A R s h => by obtain ⟨cls, dd, data, sl⟩ := o; obtain ⟨hp, g, d, tk, os⟩ := s; obtain ⟨hl, h⟩ := h; simp only at hd; subst hd; wp_walk using wpAny_loadPart' hl, wpAny_load hl; exact ⟨_, rfl, h⟩
theorem dec_add : Declines "int.__add__" := fun prog w A s i ti x ox hx hd Q E q => call_meets F.slot_int_add (typeIs_int s i ti) F.entry_int_add (F.args_int_add_2 _ _) (at_add i ti hd x) ⟨hx, q⟩
end
end OA
set_option Elab.async false
set_option linter.all false
set_option maxRecDepth 100000
set_option maxHeartbeats 4000000
namespace L2
open PySem PySem.Spec PyProof.Rows
/-- the class's own method for op, at f -/
structure ArL (K : PySem.W.Frag) (C : Addr) (op : Operator) (sym nm : String) (f : Addr) : Prop where
  hi : op.info = (sym, nm)
  hc : PySem.W.selfFirst K C = true
  hs : PySem.W.findIn K (.ref C) (PySem.dunder nm) = some (some (.ref f))
  hf : PySem.W.isFn K (.ref f) = true
/-- its reflected one, at g, and what int says of the op -/
structure ArR (K : PySem.W.Frag) (C : Addr) (nm : String) (g : Addr) : Prop where
  hr : PySem.W.findIn K (.ref C) (dunderR nm) = some (some (.ref g))
  hg : PySem.W.isFn K (.ref g) = true
  ho : ∃ ro, PySem.W.findIn K (.type "int") (dunderR nm) = some ro
  hn : fillsNumberSlot (.type "int") nm = pure true
  up : PySem.W.subIn K (.type "int") (.ref C) = some false
  dn : PySem.W.subIn K (.ref C) (.type "int") = some false
  dec : ∃ id, Slot "int" (PySem.dunder nm) id ∧ OA.Declines id
theorem back_of {z : V} {u : Value} {Q : Value → Shared → Prop} {s : Shared} (r : RelV z u) (q : Q u s) : PySem.W.CmpBack Q u s := by
  cases z with
  | non => cases (show u = Value.none from r); exact q
  | bl b => cases (show u = Value.bool b from r); exact q
  | int i => obtain ⟨t, e⟩ := (show ∃ t, u = Value.int i t from r); cases e; exact q
  | str x => obtain ⟨t, e⟩ := (show ∃ t, u = Value.str x t from r); cases e; exact q
  | byt b => obtain ⟨t, e⟩ := (show ∃ t, u = Value.bytes b t from r); cases e; exact q
  | flt b => obtain ⟨t, e⟩ := (show ∃ t, u = Value.float b t from r); cases e; exact q
  | ref a => cases (show u = Value.ref a from r); exact q
  | ty n => cases (show u = Value.type n from r); exact q
/-- x op y: one of both at least an instance of the class at C, the other one too, or an int -/
def rAr (C : Addr) (spF spG : Sp) : R2 := fun x y H Q =>
  (∃ a dx fs, x = .ref a ∧ H a = some (.ins C dx fs) ∧ ((∃ i, y = .int i) ∨ ∃ c dy gs, y = .ref c ∧ H c = some (.ins C dy gs)) ∧ spF [x, y] H Q E0) ∨
    (∃ i c dy gs, x = .int i ∧ y = .ref c ∧ H c = some (.ins C dy gs) ∧ spG [y, x] H Q E0)
section
variable {X : Cx} {C f g : Addr} {sym nm : String} {fd gd : FuncData} {ps qs : List Str} {n n' : Nat} {spF spG : Sp} {op : Operator}
/-- a def of the text is called by an operator -/
theorem run_two {E : Value → Shared → Prop} {pins : List (Addr × Obj)} {s : Shared} {σ : St} {H : Hp} {x y : V} {v u : Value} {Q : VK} (F : FnOk X.prog X.w X.K X.mg X.base CX0 n f fd ps spF) (hb : Binds X.K fd ps []) (hr : Room n X.A) (I : Inv X pins σ H s) (rx : RelV x v) (ry : RelV y u) (hsp : spF [x, y] H Q E0) :
    wpAny (model X.prog X.w) X.A (call (.ref f) [v, u]) (PySem.W.CmpBack (EP X pins σ Q)) E s := by
  have hl := F.len _ _ _ _ hsp
  have r2 : Vals [x, y] [v, u] := .cons rx (.cons ry .nil)
  refine wpAny_call (codeAny_mono (F.run X.A X.stack s H ⟨[v, u], []⟩ [v, u] [x, y] _ E0 hr I.env0 (by
    have := hb s [v, u] I.kIn (by simpa using hl)
    simpa using this) r2 hsp) fun r s' hq => ?_)
  cases r with
  | error e => exact hq.elim
  | ok fl =>
    cases fl with
    | ret w =>
      obtain ⟨z, H', I', rz, q⟩ := I.after hq
      exact back_of rz ⟨z, H', I', rz, q⟩
    | next => exact False.elim hq
    | brk => exact False.elim hq
    | cont => exact False.elim hq
/-- an operator that lets nothing out -/
def OpN (X : Cx) (f : Value → Value → Sem Value) (r : R2) : Prop := ∀ (E : Value → Shared → Prop) (pins : List (Addr × Obj)) (s : Shared) (σ : St) (H : Hp) (x y : V) (v u : Value) (Q : VK), Inv X pins σ H s → RelV x v → RelV y u → r x y H Q → wpAny (model X.prog X.w) X.A (f v u) (EP X pins σ Q) E s
theorem OpN.toR {f : Value → Value → Sem Value} {r : R2} (h : OpN X f r) : OpR X f r := fun pins s σ H x y v u Q I rx ry q => h _ pins s σ H x y v u Q I rx ry q
theorem op_ar (L : ArL X.K C op sym nm f) (R : ArR X.K C nm g) (F : FnOk X.prog X.w X.K X.mg X.base CX0 n f fd ps spF) (hb : Binds X.K fd ps []) (hr : Room n X.A)
    (G : FnOk X.prog X.w X.K X.mg X.base CX0 n' g gd qs spG) (hbG : Binds X.K gd qs []) (hrG : Room n' X.A) : OpN X (binaryOp op) (rAr C spF spG) := by
  intro E pins s σ H x y v u Q I rx ry hq
  rcases hq with ⟨a, dx, fs, rfl, ha, hy, hsp⟩ | ⟨i, c, dy, gs, rfl, rfl, hc, hsp⟩
  · cases (show v = Value.ref a from rx)
    obtain ⟨mA, J, _⟩ := ins_get I.hok ha
    obtain ⟨od, J, _⟩ := J.look
    have go := run_two (E := E) F hb hr I rx ry hsp
    rcases hy with ⟨i, rfl⟩ | ⟨c, dy, gs, rfl, hc⟩
    · obtain ⟨ti, e⟩ := (show ∃ t, u = Value.int i t from ry)
      subst e
      obtain ⟨ro, ho⟩ := R.ho
      exact OA.bin_left_int L.hi I.kIn J L.hc L.hs L.hf R.hr ho R.hn R.up go
    · cases (show u = Value.ref c from ry)
      obtain ⟨mB, J', _⟩ := ins_get I.hok hc
      obtain ⟨od', J', _⟩ := J'.look
      exact OA.bin_twins L.hi I.kIn J L.hc L.hs L.hf J'.type go
  · cases (show u = Value.ref c from ry)
    obtain ⟨ti, e⟩ := (show ∃ t, v = Value.int i t from rx)
    subst e
    obtain ⟨mA, J, _⟩ := ins_get I.hok hc
    obtain ⟨od, J, _⟩ := J.look
    obtain ⟨id, sl, dec⟩ := R.dec
    exact OA.bin_right_int L.hi I.kIn J L.hc L.hs R.hr R.hg R.hn R.dn sl (fun Q' E' q => dec _ _ _ _ _ _ _ _ J.at_ rfl Q' E' q) (run_two G hbG hrG I ry rx hsp)
end
end L2
set_option Elab.async false
set_option linter.all false
set_option maxRecDepth 100000
set_option maxHeartbeats 4000000
/-! sum(row, start=share): a row of numbers of which some are instances of an own class -/
namespace L2
open PySem PySem.Spec PyProof.Rows
def Cx.inn (X : Cx) : Cx := { X with A := X.A.in1 }
section
variable {X : Cx} {pins : List (Addr × Obj)} {σ : St} {H : Hp} {s : Shared}
theorem Inv.inn (I : Inv X pins σ H s) : Inv X.inn pins σ H s :=
  ⟨⟨I.ok.mod, I.ok.kind, I.ok.glob, I.ok.blt, I.ok.above, I.ok.inj, I.ok.has, I.ok.cab, I.ok.hd, I.ok.frames, I.ok.stk, I.ok.exf, I.ok.bs, I.ok.bsz, I.ok.noex, I.ok.exfs, I.ok.funs, I.ok.frf⟩, I.os, I.bare, I.base, I.loc, I.cell, I.free, I.freeC, I.pin, I.hok, I.len⟩
theorem Inv.outn (I : Inv X.inn pins σ H s) (ok : X.Ok) : Inv X pins σ H s := ⟨ok, I.os, I.bare, I.base, I.loc, I.cell, I.free, I.freeC, I.pin, I.hok, I.len⟩
/-- the state of the sum: a list of the one total -/
def sumSt (v : Value) (c : Nat) : Obj := { cls := .type "list", dict := none, data := .seq #[v] c, slots := #[] }
/-- a class that is no text -/
structure NoTxt (K : PySem.W.Frag) (C : Addr) : Prop where
  str : PySem.W.subIn K (.ref C) (.type "str") = some false
  byt : PySem.W.subIn K (.ref C) (.type "bytes") = some false
  bar : PySem.W.subIn K (.ref C) (.type "bytearray") = some false
theorem argsOk_sum (a b : Value) : argsOk "sum" ⟨[a], [(Str.ofString "start", b)]⟩ := by
  unfold argsOk
  kernel_rfl
end
end L2
set_option Elab.async false
set_option linter.all false
set_option maxRecDepth 100000
set_option maxHeartbeats 4000000
namespace KD
open PySem L2
/-- how == of the two is told: one of both a share -/
def Cmp (K : PySem.W.Frag) (C : Addr) (H : Hp) (x y : V) (b : Bool) : Prop :=
  (∃ a dx fs, x = .ref a ∧ H a = some (.ins C dx fs) ∧ EqS K C a y b H ∧ ((∃ T, Fo K H y T) ∨ ∃ c dy gs, y = .ref c ∧ H c = some (.ins C dy gs))) ∨
    (∃ c dy gs T, y = .ref c ∧ H c = some (.ins C dy gs) ∧ Fo K H x T ∧ EqS K C c x b H)
theorem i0 {x y : V} {xs : List V} : atI (x :: xs) 0 = some x := by
  have h : (x :: xs)[0]? = some x := rfl
  exact atI_nat h
theorem i1 {x y : V} {xs : List V} : atI (x :: y :: xs) 1 = some y := by
  have h : (x :: y :: xs)[1]? = some y := rfl
  exact atI_nat h
/-- __eq__ of the class -/
structure EqT (P : Program) (w : World) (K : PySem.W.Frag) (mg : Str → Option Value) (base : Heap) (C : Addr) : Prop where
  ex : ∃ (f : Addr) (fd : FuncData), OwnT K C f ∧ FnOk P w K mg base CX0 2 f fd ["self", "other"] (spOwn (EqS K C)) ∧ Binds K fd ["self", "other"] []
/-- x == y: by a share, or of plain data -/
theorem EqT.op {X : Cx} {C : Addr} {op : CmpOp} (ho : OC.Is2 op) (c : EqT X.prog X.w X.K X.mg X.base C) (hr : Room 3 X.A) : ∃ r : R2, OpR X (compareOp op) r ∧ ∀ x y b H Q, Cmp X.K C H x y b → Q (.bl (OC.turn op b)) H → r x y H Q := by
  obtain ⟨f, fd, O, F, hb⟩ := c.ex
  exact ⟨_, op_ownB ho F O hb pass0 hr, fun x y b H Q h q => ⟨b, h, q⟩⟩
theorem is_ne : OC.Is2 .NotEq := .inr rfl
theorem passX {X : Cx} : Passes (L2.CX X.prog X.w) X E0 := fun _ _ _ _ _ _ _ ⟨_, _, _, _, _, _, _, _, _, _, _, _, h⟩ => h.elim
/-- Share(p, q) and Share(p) -/
structure MkT (P : Program) (w : World) (K : PySem.W.Frag) (mg : Str → Option Value) (base : Heap) (C B : Addr) : Prop where
  ex : ∃ (f : Addr) (fd : FuncData) (ds : List Value), Mk K C f ∧ FnOk P w K mg base (L2.CX P w) 4 f fd ["self", "top", "bottom"] (spSI K C B) ∧ Binds K fd ["self", "top", "bottom"] [] ∧ Vals [.int 1] ds ∧ Binds K fd ["self", "top", "bottom"] ds
  gS : mg "Share" = some (.ref C)
section
variable {X : Cx} {C B : Addr} {p pos : Pos} {e : Expr} {es : List Expr} {t : TA}
theorem pe_share2 (m : MkT X.prog X.w X.K X.mg X.base C B) (hr : Room 5 X.A) (hg : Gl X "Share") (ha : PA X (e :: es) t)
    (he : starEach (e :: es) X.env = (false, eval e X.env) :: starEach es X.env := by rfl) (hpl : (backTo pos (starEach es X.env)).any (·.1) = false := by rfl) :
    PE X (.Call (.Name "Share" p) (e :: es) [] pos) (tMake C (spSI X.K C B) [] E0 t) := by
  obtain ⟨f, fd, ds, M, F, b0, v1, b1⟩ := m.ex
  exact pe_make M F hr hg m.gS b0 .nil passX ha (by decide) he hpl
theorem pe_share1 (m : MkT X.prog X.w X.K X.mg X.base C B) (hr : Room 5 X.A) (hg : Gl X "Share") (ha : PA X (e :: es) t)
    (he : starEach (e :: es) X.env = (false, eval e X.env) :: starEach es X.env := by rfl) (hpl : (backTo pos (starEach es X.env)).any (·.1) = false := by rfl) :
    PE X (.Call (.Name "Share" p) (e :: es) [] pos) (tMake C (spSI X.K C B) [.int 1] E0 t) := by
  obtain ⟨f, fd, ds, M, F, b0, v1, b1⟩ := m.ex
  exact pe_make M F hr hg m.gS b1 v1 passX ha (by decide) he hpl
end
/-- a share is made -/
theorem mk_ok {K : PySem.W.Frag} {C B : Addr} {a b : Int} {H : Hp} {Q : VK} {E : XK} (nz : b ≠ 0) (hl : b.natAbs.log2 < 9000)
    (k : ∀ (x dx : Addr) (H' : Hp), Same H H' → H' x = some (.ins C dx (shF (lowT a b) (lowB a b))) → Q (.ref x) H') :
    ∀ x dx, H x = none → H dx = none → dx ≠ x → spSI K C B [.ref x, .int a, .int b] (upd (upd H dx (.own x)) x (.ins C dx [])) (fun v H2 => v = .non ∧ Q (.ref x) H2) E :=
  fun x dx hx hd ne => ⟨x, dx, .int a, .int b, rfl, upd_same, .fo (.int a), .fo (.int b), .inl ⟨a, b, rfl, rfl, nz, hl, rfl, k x dx _ (by
    rw [upd_upd]
    exact (Same.put hd).trans (Same.put (by rw [upd_ne ne.symm]; exact hx))) upd_same⟩⟩
theorem mk_same {C : Addr} {H : Hp} {x dx : Addr} {o : HO} (hx : H x = none) (hd : H dx = none) (ne : dx ≠ x) : Same H (upd (upd (upd H dx (.own x)) x (.ins C dx [])) x o) := by
  rw [upd_upd]
  exact (Same.put hd).trans (Same.put (by rw [upd_ne ne.symm]; exact hx))
/-! ### lowest terms, once more -/
theorem sg_dvdT (a b : Int) : sg a b ∣ a := by
  have h : ((Nat.gcd a.natAbs b.natAbs : Nat) : Int) ∣ a := Int.ofNat_dvd_left.mpr (Nat.gcd_dvd_left _ _)
  unfold sg
  split
  · exact h
  · exact Int.neg_dvd.mpr h
theorem sg_dvdB (a b : Int) : sg a b ∣ b := by
  have h : ((Nat.gcd a.natAbs b.natAbs : Nat) : Int) ∣ b := Int.ofNat_dvd_left.mpr (Nat.gcd_dvd_right _ _)
  unfold sg
  split
  · exact h
  · exact Int.neg_dvd.mpr h
theorem low_mulT (a b : Int) : lowT a b * sg a b = a := by
  unfold lowT
  exact Int.fdiv_mul_cancel (sg_dvdT a b)
theorem low_mulB (a b : Int) : lowB a b * sg a b = b := by
  unfold lowB
  exact Int.fdiv_mul_cancel (sg_dvdB a b)
theorem abs_le {x g y : Int} (h : x * g = y) (hg : g ≠ 0) : x.natAbs ≤ y.natAbs := by
  rw [← h, Int.natAbs_mul]
  exact Nat.le_mul_of_pos_right _ (Int.natAbs_pos.mpr hg)
theorem lowT_le {a b : Int} (hb : b ≠ 0) : (lowT a b).natAbs ≤ a.natAbs := abs_le (low_mulT a b) (sg_ne hb)
theorem lowB_le {a b : Int} (hb : b ≠ 0) : (lowB a b).natAbs ≤ b.natAbs := abs_le (low_mulB a b) (sg_ne hb)
theorem lowB_pos {a b : Int} (hb : b ≠ 0) : 0 < lowB a b := by
  have e := low_mulB a b
  by_cases h : 0 < b
  · have hs : 0 < sg a b := by
      unfold sg
      rw [if_pos h]
      exact Int.ofNat_lt.mpr (gcd_pos hb)
    by_cases z : 0 < lowB a b
    · exact z
    · have : lowB a b * sg a b ≤ 0 := Int.mul_nonpos_of_nonpos_of_nonneg (by omega) (by omega)
      omega
  · have hs : sg a b < 0 := by
      unfold sg
      rw [if_neg h]
      have := Int.ofNat_lt.mpr (gcd_pos (a := a) hb)
      omega
    by_cases z : 0 < lowB a b
    · exact z
    · have : 0 ≤ lowB a b * sg a b := Int.mul_nonneg_of_nonpos_of_nonpos (by omega) (by omega)
      omega
theorem low_gcd {a b : Int} (hb : b ≠ 0) : Nat.gcd (lowT a b).natAbs (lowB a b).natAbs = 1 := by
  have e1 : (lowT a b).natAbs * Nat.gcd a.natAbs b.natAbs = a.natAbs := by
    rw [← sg_abs, ← Int.natAbs_mul, low_mulT]
  have e2 : (lowB a b).natAbs * Nat.gcd a.natAbs b.natAbs = b.natAbs := by
    rw [← sg_abs, ← Int.natAbs_mul, low_mulB]
  have h : Nat.gcd ((lowT a b).natAbs * Nat.gcd a.natAbs b.natAbs) ((lowB a b).natAbs * Nat.gcd a.natAbs b.natAbs) = Nat.gcd (lowT a b).natAbs (lowB a b).natAbs * Nat.gcd a.natAbs b.natAbs := Nat.gcd_mul_right _ _ _
  rw [e1, e2] at h
  have hp := gcd_pos (a := a) hb
  exact Nat.eq_of_mul_eq_mul_right hp (by rw [← h, Nat.one_mul])
theorem sg_one {x y : Int} (hy : 0 < y) (h : Nat.gcd x.natAbs y.natAbs = 1) : sg x y = 1 := by
  unfold sg
  rw [if_pos hy, h]
  rfl
theorem low_one {x y : Int} (hy : 0 < y) (h : Nat.gcd x.natAbs y.natAbs = 1) : lowT x y = x ∧ lowB x y = y := by
  unfold lowT lowB
  rw [sg_one hy h]
  exact ⟨Int.fdiv_one x, Int.fdiv_one y⟩
theorem low_int (i : Int) : lowT i 1 = i ∧ lowB i 1 = 1 := low_one (by decide) (by show Nat.gcd i.natAbs 1 = 1; exact Nat.gcd_one_right _)
/-! ### how shares and things compare -/
theorem cmp_fo {K : PySem.W.Frag} {C a dx : Addr} {t n : Int} {H : Hp} {y : V} {T : String} (e : H a = some (.ins C dx (shF t n))) (h : Fo K H y T) {b : Bool} (hb : b = (isI y && (decide (V.int n = V.int 1) && decide (V.int t = y)))) : Cmp K C H (.ref a) y b ∧ Cmp K C H y (.ref a) b :=
  have eq : EqS K C a y b H := ⟨dx, t, n, e, .inr ⟨⟨T, h⟩, hb⟩⟩
  ⟨.inl ⟨a, dx, _, rfl, e, eq, .inl ⟨T, h⟩⟩, .inr ⟨a, dx, _, T, rfl, e, h, eq⟩⟩
theorem si_ok {K : PySem.W.Frag} {C B : Addr} {a b : Int} {H : Hp} {x dx : Addr} {Q : VK} {E : XK} (hx : H x = none) (hd : H dx = none) (ne : dx ≠ x) (nz : b ≠ 0) (hl : b.natAbs.log2 < 9000)
    (k : ∀ H', Same H H' → H' x = some (.ins C dx (shF (lowT a b) (lowB a b))) → Q .non H') : spSI K C B [.ref x, .int a, .int b] (upd (upd H dx (.own x)) x (.ins C dx [])) Q E :=
  ⟨x, dx, .int a, .int b, rfl, upd_same, .fo (.int a), .fo (.int b), .inl ⟨a, b, rfl, rfl, nz, hl, k _ (mk_same hx hd ne) upd_same⟩⟩
theorem fo_same {K : PySem.W.Frag} {H H' : Hp} {x : V} {T : String} (h : Fo K H x T) (s : Same H H') : Fo K H' x T := by
  cases h with
  | non => exact .non
  | bl b => exact .bl b
  | int i => exact .int i
  | str x => exact .str x
  | lst e => exact .lst (s _ _ e)
  | tup e => exact .tup (s _ _ e)
  | dK e => exact .dK (s _ _ e)
end KD
set_option Elab.async false
set_option linter.all false
set_option maxRecDepth 100000
set_option maxHeartbeats 4000000
namespace L2
open PySem PySem.Spec PyProof.Rows
def rArL (C : Addr) (spF : Sp) : R2 := fun x y H Q => ∃ a dx fs, x = .ref a ∧ H a = some (.ins C dx fs) ∧ ((∃ i, y = .int i) ∨ ∃ c dy gs, y = .ref c ∧ H c = some (.ins C dy gs)) ∧ spF [x, y] H Q E0
section
variable {X : Cx} {C f g : Addr} {sym nm : String} {fd : FuncData} {ps : List Str} {n : Nat} {spF : Sp} {op : Operator}
/-- the same with the instance on the left -/
theorem op_arL (L : ArL X.K C op sym nm f) (R : ArR X.K C nm g) (F : FnOk X.prog X.w X.K X.mg X.base CX0 n f fd ps spF) (hb : Binds X.K fd ps []) (hr : Room n X.A) : OpN X (binaryOp op) (rArL C spF) := by
  intro E pins s σ H x y v u Q I rx ry ⟨a, dx, fs, ex, ha, hy, hsp⟩
  subst ex
  cases (show v = Value.ref a from rx)
  obtain ⟨mA, J, _⟩ := ins_get I.hok ha
  obtain ⟨od, J, _⟩ := J.look
  have go := run_two (E := E) F hb hr I rx ry hsp
  rcases hy with ⟨i, rfl⟩ | ⟨c, dy, gs, rfl, hc⟩
  · obtain ⟨ti, e⟩ := (show ∃ t, u = Value.int i t from ry)
    subst e
    obtain ⟨ro, ho⟩ := R.ho
    exact OA.bin_left_int L.hi I.kIn J L.hc L.hs L.hf R.hr ho R.hn R.up go
  · cases (show u = Value.ref c from ry)
    obtain ⟨mB, J', _⟩ := ins_get I.hok hc
    obtain ⟨od', J', _⟩ := J'.look
    exact OA.bin_twins L.hi I.kIn J L.hc L.hs L.hf J'.type go
end
end L2
set_option Elab.async false
set_option linter.all false
set_option maxRecDepth 100000
set_option maxHeartbeats 4000000
namespace KD
open PySem L2
/-- a number: an integer, or a share with these fields -/
def Nm (C : Addr) (H : Hp) (v : V) (t n : Int) : Prop := (v = .int t ∧ n = 1) ∨ ∃ a dx, v = .ref a ∧ H a = some (.ins C dx (shF t n))
/-- lowest terms, of a moderate size -/
structure Low (t n : Int) : Prop where
  pos : 0 < n
  gcd : Nat.gcd t.natAbs n.natAbs = 1
  tb : t.natAbs < 2 ^ 4000
  nb : n.natAbs < 2 ^ 4000
theorem Nm.same {C : Addr} {H H' : Hp} {v : V} {t n : Int} (h : Nm C H v t n) (s : Same H H') : Nm C H' v t n := by
  rcases h with h | ⟨a, dx, e, h⟩
  · exact .inl h
  · exact .inr ⟨a, dx, e, s _ _ h⟩
theorem mul_lt {a b : Int} {i j : Nat} (h : a.natAbs < 2 ^ i) (h' : b.natAbs < 2 ^ j) : (a * b).natAbs < 2 ^ (i + j) := by
  rw [Int.natAbs_mul, Nat.pow_add]
  exact Nat.mul_lt_mul'' h h'
theorem log_of {a : Int} {i : Nat} (h : a.natAbs < 2 ^ i) (h0 : 0 < i) (hi : i ≤ 9000) : a.natAbs.log2 < 9000 := Nat.lt_of_lt_of_le (PySem.Flt.log2_lt_of h0 h) hi
section
variable {P : Program} {w : World} {K : PySem.W.Frag} {mg : Str → Option Value} {base : Heap} {C B : Addr}
/-- is_share(thing) -/
def spIsShare (K : PySem.W.Frag) (C : Addr) : Sp := fun vs H Q _ => ∃ x, vs = [x] ∧ ((∃ t n, Nm C H x t n ∧ Q (.bl true) H) ∨ ∃ T, Fo K H x T ∧ isI x = false ∧ Q (.bl false) H)
abbrev s_is_share : Stmt := top 16
theorem sc_is_share : FnScope ["thing"] ["thing"] (defScope s_is_share) := ⟨rfl, rfl, rfl, by decide +kernel, rfl, by decide +kernel, by decide +kernel⟩
theorem ok_is_share {f : Addr} {fd : FuncData} (F : Fun K "is_share" "is_share" s_is_share f fd) (T : ShT K mg C) (c_is_whole : Cal P w K mg base 1 "is_whole" ["thing"] (spWhole K C)) : FnOk P w K mg base CX0 2 f fd ["thing"] (spIsShare K C) := by
  refine F.ok sc_is_share (fun vs H Q E h => ?_) (fun cdv A outer s H vs Q E hr h => ?_)
  · obtain ⟨x, rfl, _⟩ := h
    rfl
  · obtain ⟨x, rfl, h⟩ := h
    refine ⟨_, (pss_one (ps_ret (pe_or (pe_callB call_isi (by rfl) T.bn.n_isinstance (by decide +kernel) (pa_cons (pv 0) (pa_cons (pe_glob (v := .ref C) rfl T.g_Share rfl) pa_nil))) (pe_one (pe_cal c_is_whole (hr.mono (by decide)) rfl (pa_cons (pv 0) pa_nil)))))), ?_⟩
    rcases h with ⟨t, n, ⟨rfl, rfl⟩ | ⟨a, dx, rfl, e⟩, k⟩ | ⟨T', fo, ix, k⟩
    · refine ⟨_, rfl, .int t, .ref C, _, _, false, rfl, .own C, (Fo.int t).ty, T.it.fo (H := H) (.int t), _, rfl, iteF ?_⟩
      exact ⟨_, rfl, .int t, rfl, .fo (.int t), k⟩
    · exact ⟨_, rfl, .ref a, .ref C, _, _, true, rfl, .own C, T.it.ty e, T.it.kself, _, rfl, iteT k⟩
    · refine ⟨_, rfl, x, .ref C, _, _, false, rfl, .own C, fo.ty, T.it.fo fo, _, rfl, iteF ?_⟩
      refine ⟨_, rfl, x, rfl, .fo fo, ?_⟩
      rw [ix]
      exact k
/-- share_of(number) -/
def spShareOf (C : Addr) : Sp := fun vs H Q _ => ∃ x t n, vs = [x] ∧ Nm C H x t n ∧ ∀ (a dx : Addr) (H' : Hp), Same H H' → H' a = some (.ins C dx (shF t n)) → Q (.ref a) H'
abbrev s_share_of : Stmt := top 17
theorem sc_share_of : FnScope ["thing"] ["thing"] (defScope s_share_of) := ⟨rfl, rfl, rfl, by decide +kernel, rfl, by decide +kernel, by decide +kernel⟩
theorem ok_share_of {f : Addr} {fd : FuncData} (F : Fun K "share_of" "share_of" s_share_of f fd) (T : ShT K mg C) (m : MkT P w K mg base C B) : FnOk P w K mg base CX0 6 f fd ["thing"] (spShareOf C) := by
  refine F.ok sc_share_of (fun vs H Q E h => ?_) (fun cdv A outer s H vs Q E hr h => ?_)
  · obtain ⟨x, t, n, rfl, _⟩ := h
    rfl
  · obtain ⟨x, t, n, rfl, h, k⟩ := h
    refine ⟨_, (pss_cons (ps_if (pt_val (pe_callB call_isi (by rfl) T.bn.n_isinstance (by decide +kernel) (pa_cons (pv 0) (pa_cons (pe_glob (v := .ref C) rfl T.g_Share rfl) pa_nil))))
        (pss_one (ps_ret (pv 0)))
        pss_nil)
      (pss_one (ps_ret (pe_share1 m hr rfl (pa_cons (pv 0) pa_nil))))), ?_⟩
    rcases h with ⟨rfl, rfl⟩ | ⟨a, dx, rfl, e⟩
    · refine ⟨_, rfl, .int t, .ref C, _, _, false, rfl, .own C, (Fo.int t).ty, T.it.fo (H := H) (.int t), _, rfl, iteF ?_⟩
      refine ⟨_, rfl, fun z dz hz hd ne => si_ok hz hd ne (a := t) (b := 1) (by decide) (by decide +kernel) fun H' s e => ⟨rfl, ?_⟩⟩
      rw [(low_int t).1, (low_int t).2] at e
      exact k z dz _ s e
    · exact ⟨_, rfl, .ref a, .ref C, _, _, true, rfl, .own C, T.it.ty e, T.it.kself, _, rfl, iteT ⟨_, rfl, k a dx H (Same.refl H) e⟩⟩
/-- share.less(number) -/
def spLess (C : Addr) : Sp := fun vs H Q _ => ∃ (a dx : Addr) (y : V) (t n t' n' : Int), vs = [.ref a, y] ∧ H a = some (.ins C dx (shF t n)) ∧ Nm C H y t' n' ∧ Low t n ∧ Low t' n' ∧ ∀ H', Same H H' → Q (.bl (decide (t * n' < t' * n))) H'
abbrev s_sless : Stmt := inClass (top 15) 12
theorem sc_sless : FnScope ["self", "other", "beside"] ["self", "other"] (defScope s_sless) := ⟨rfl, rfl, rfl, by decide +kernel, rfl, by decide +kernel, by decide +kernel⟩
theorem ok_sless {f : Addr} {fd : FuncData} (F : Fun K "less" "Share.less" s_sless f fd) (T : ShT K mg C) (c_of : Cal P w K mg base 6 "share_of" ["thing"] (spShareOf C)) : FnOk P w K mg base CX0 7 f fd ["self", "other"] (spLess C) := by
  refine F.ok sc_sless (fun vs H Q E h => ?_) (fun cdv A outer s H vs Q E hr h => ?_)
  · obtain ⟨a, dx, y, t, n, t', n', rfl, _⟩ := h
    rfl
  · obtain ⟨a, dx, y, t, n, t', n', rfl, ha, hy, l1, l2, k⟩ := h
    refine ⟨_, (pss_cons (ps_set (i := 2) sc_sless.nd rfl (Or.inl rfl) (pe_cal c_of hr rfl (pa_cons (pv 1) pa_nil)))
      (pss_one (ps_ret (pe_cmpR op_lt (pe_op op_mulW (pe_fld (pv 0) rfl) (pe_fld (pv 2) rfl)) (pe_op op_mulW (pe_fld (pv 2) rfl) (pe_fld (pv 0) rfl)) (nomark _))))), ?_⟩
    refine ⟨_, rfl, y, t', n', rfl, hy, fun b db H1 s1 e1 => ?_⟩
    have ha1 := s1 _ _ ha
    refine ⟨_, rfl, a, C, dx, _, _, rfl, ha1, T.it.cl, T.nT, shF_top _ _, _, rfl, b, C, db, _, _, rfl, e1, T.it.cl, T.nB, shF_bottom _ _, t, n', rfl, rfl, wide_mul l1.tb l2.nb (by decide) (by decide) (by decide), ?_⟩
    refine ⟨_, rfl, b, C, db, _, _, rfl, e1, T.it.cl, T.nT, shF_top _ _, _, rfl, a, C, dx, _, _, rfl, ha1, T.it.cl, T.nB, shF_bottom _ _, t', n, rfl, rfl, wide_mul l2.tb l1.nb (by decide) (by decide) (by decide), ?_⟩
    exact ⟨_, _, rfl, rfl, k _ s1⟩
end
end KD
set_option Elab.async false
set_option linter.all false
set_option maxRecDepth 100000
set_option maxHeartbeats 4000000
namespace KD
open PySem L2
theorem Low.one {i : Int} (h : i.natAbs < 2 ^ 4000) : Low i 1 := ⟨by decide, by show Nat.gcd i.natAbs 1 = 1; exact Nat.gcd_one_right _, h, by decide +kernel⟩
/-- the methods for + and - are where they should be -/
structure ArT (P : Program) (w : World) (K : PySem.W.Frag) (mg : Str → Option Value) (base : Heap) (C : Addr) (op : Operator) (sym nm : String) (k k' : Nat) (sp spR : Sp) : Prop where
  ex : ∃ (f g : Addr) (fd gd : FuncData), ArL K C op sym nm f ∧ ArR K C nm g ∧ FnOk P w K mg base CX0 k f fd ["self", "other"] sp ∧ Binds K fd ["self", "other"] [] ∧ FnOk P w K mg base CX0 k' g gd ["self", "other"] spR ∧ Binds K gd ["self", "other"] []
/-- the left method alone -/
structure ArTL (P : Program) (w : World) (K : PySem.W.Frag) (mg : Str → Option Value) (base : Heap) (C : Addr) (op : Operator) (sym nm : String) (k : Nat) (sp : Sp) : Prop where
  ex : ∃ (f g : Addr) (fd : FuncData), ArL K C op sym nm f ∧ ArR K C nm g ∧ FnOk P w K mg base CX0 k f fd ["self", "other"] sp ∧ Binds K fd ["self", "other"] []
theorem ArTL.op {X : Cx} {C : Addr} {op : Operator} {sym nm : String} {k : Nat} {sp : Sp} (c : ArTL X.prog X.w X.K X.mg X.base C op sym nm k sp) (hr : Room k X.A) : OpN X (binaryOp op) (rArL C sp) := by
  obtain ⟨f, g, fd, L, R, F, b⟩ := c.ex
  exact op_arL L R F b hr
theorem ArT.op {X : Cx} {C : Addr} {op : Operator} {sym nm : String} {k k' : Nat} {sp spR : Sp} (c : ArT X.prog X.w X.K X.mg X.base C op sym nm k k' sp spR) (hr : Room k X.A) (hr' : Room k' X.A) : OpN X (binaryOp op) (rAr C sp spR) := by
  obtain ⟨f, g, fd, gd, L, R, F, b, G, b'⟩ := c.ex
  exact op_ar L R F b hr G b' hr'
theorem other_of {C : Addr} {H : Hp} {y : V} {t n : Int} (h : Nm C H y t n) : (∃ i, y = .int i) ∨ ∃ c dy gs, y = .ref c ∧ H c = some (.ins C dy gs) := by
  rcases h with ⟨rfl, _⟩ | ⟨a, dx, rfl, e⟩
  · exact .inl ⟨t, rfl⟩
  · exact .inr ⟨a, dx, _, rfl, e⟩
/-- a new share with the lowest terms of a over b -/
def NewSh (C : Addr) (H : Hp) (Q : VK) (a b : Int) : Prop := ∀ (z dz : Addr) (H' : Hp), Same H H' → H' z = some (.ins C dz (shF (lowT a b) (lowB a b))) → Q (.ref z) H'
def spAdd (C : Addr) : Sp := fun vs H Q _ => ∃ (a dx : Addr) (y : V) (t n t' n' : Int), vs = [.ref a, y] ∧ H a = some (.ins C dx (shF t n)) ∧ Nm C H y t' n' ∧ Low t n ∧ Low t' n' ∧ NewSh C H Q (t * n' + t' * n) (n * n')
def spRadd (C : Addr) : Sp := fun vs H Q _ => ∃ (a dx : Addr) (i t n : Int), vs = [.ref a, .int i] ∧ H a = some (.ins C dx (shF t n)) ∧ Low t n ∧ Low i 1 ∧ NewSh C H Q (t * 1 + i * n) (n * 1)
section
variable {P : Program} {w : World} {K : PySem.W.Frag} {mg : Str → Option Value} {base : Heap} {C B : Addr}
abbrev s_add : Stmt := inClass (top 15) 1
theorem sc_add : FnScope ["self", "other", "beside"] ["self", "other"] (defScope s_add) := ⟨rfl, rfl, rfl, by decide +kernel, rfl, by decide +kernel, by decide +kernel⟩
theorem ok_add {f : Addr} {fd : FuncData} (F : Fun K "__add__" "Share.__add__" s_add f fd) (T : ShT K mg C) (m : MkT P w K mg base C B) (c_is : Cal P w K mg base 2 "is_share" ["thing"] (spIsShare K C)) (c_of : Cal P w K mg base 6 "share_of" ["thing"] (spShareOf C)) :
    FnOk P w K mg base CX0 7 f fd ["self", "other"] (spAdd C) := by
  refine F.ok sc_add (fun vs H Q E h => ?_) (fun cdv A outer s H vs Q E hr h => ?_)
  · obtain ⟨a, dx, y, t, n, t', n', rfl, _⟩ := h
    rfl
  · obtain ⟨a, dx, y, t, n, t', n', rfl, ha, hy, l1, l2, k⟩ := h
    refine ⟨_, (pss_cons (ps_if (pt_not (pt_val (pe_cal c_is (hr.mono (by decide)) rfl (pa_cons (pv 1) pa_nil))))
        pss_never
        pss_nil)
      (pss_cons (ps_set (i := 2) sc_add.nd rfl (Or.inl rfl) (pe_cal c_of hr rfl (pa_cons (pv 1) pa_nil)))
      (pss_one (ps_ret (pe_share2 m (hr.mono (by decide)) rfl (pa_cons (pe_op op_add (pe_op op_mulW (pe_fld (pv 0) rfl) (pe_fld (pv 2) rfl)) (pe_op op_mulW (pe_fld (pv 2) rfl) (pe_fld (pv 0) rfl))) (pa_cons (pe_op op_mulW (pe_fld (pv 0) rfl) (pe_fld (pv 2) rfl)) pa_nil))))))), ?_⟩
    refine ⟨_, rfl, y, rfl, .inl ⟨t', n', hy, _, rfl, iteF ?_⟩⟩
    refine ⟨_, rfl, y, t', n', rfl, hy, fun b db H1 s1 e1 => ?_⟩
    have ha1 := s1 _ _ ha
    refine ⟨_, rfl, a, C, dx, _, _, rfl, ha1, T.it.cl, T.nT, shF_top _ _, _, rfl, b, C, db, _, _, rfl, e1, T.it.cl, T.nB, shF_bottom _ _, t, n', rfl, rfl, wide_mul l1.tb l2.nb (by decide) (by decide) (by decide), ?_⟩
    refine ⟨_, rfl, b, C, db, _, _, rfl, e1, T.it.cl, T.nT, shF_top _ _, _, rfl, a, C, dx, _, _, rfl, ha1, T.it.cl, T.nB, shF_bottom _ _, t', n, rfl, rfl, wide_mul l2.tb l1.nb (by decide) (by decide) (by decide), ?_⟩
    refine ⟨_, _, rfl, rfl, _, rfl, a, C, dx, _, _, rfl, ha1, T.it.cl, T.nB, shF_bottom _ _, _, rfl, b, C, db, _, _, rfl, e1, T.it.cl, T.nB, shF_bottom _ _, n, n', rfl, rfl, wide_mul l1.nb l2.nb (by decide) (by decide) (by decide), ?_⟩
    have p1 := l1.pos
    have p2 := l2.pos
    have pp : 0 < n * n' := Int.mul_pos p1 p2
    refine fun z dz hz hd ne => si_ok hz hd ne (a := t * n' + t' * n) (b := n * n') (by omega) (log_of (mul_lt l1.nb l2.nb) (by decide) (by decide)) fun H' s e => ⟨rfl, ?_⟩
    exact k z dz H' (s1.trans s) e
abbrev s_radd : Stmt := inClass (top 15) 2
theorem sc_radd : FnScope ["self", "other"] ["self", "other"] (defScope s_radd) := ⟨rfl, rfl, rfl, by decide +kernel, rfl, by decide +kernel, by decide +kernel⟩
theorem ok_radd {f : Addr} {fd : FuncData} (F : Fun K "__radd__" "Share.__radd__" s_radd f fd) (c_is_whole : Cal P w K mg base 1 "is_whole" ["thing"] (spWhole K C)) (ad : ArTL P w K mg base C .Add "+" "add" 7 (spAdd C)) :
    FnOk P w K mg base CX0 8 f fd ["self", "other"] (spRadd C) := by
  refine F.ok sc_radd (fun vs H Q E h => ?_) (fun cdv A outer s H vs Q E hr h => ?_)
  · obtain ⟨a, dx, i, t, n, rfl, _⟩ := h
    rfl
  · obtain ⟨a, dx, i, t, n, rfl, ha, l1, l2, k⟩ := h
    have o := (ArTL.op (X := (cxOf CX0 P w K mg base ["self", "other"] "Share.__radd__" (defScope s_radd) f cdv A outer s H E).nox) ad hr).toR
    refine ⟨_, (pss_cons (ps_if (pt_not (pt_val (pe_cal c_is_whole (hr.mono (by decide)) rfl (pa_cons (pv 1) pa_nil))))
        pss_never
        pss_nil)
      (pss_one (ps_ret (pe_op o (pv 0) (pv 1))))), ?_⟩
    refine ⟨_, rfl, .int i, rfl, .fo (.int i), _, rfl, iteF ?_⟩
    exact ⟨_, rfl, _, rfl, a, dx, _, rfl, ha, .inl ⟨i, rfl⟩, a, dx, .int i, t, n, i, 1, rfl, ha, .inl ⟨rfl, rfl⟩, l1, l2, k⟩
end
end KD
set_option Elab.async false
set_option linter.all false
set_option maxRecDepth 100000
set_option maxHeartbeats 4000000
namespace KD
open PySem L2
theorem low_cross (S D : Int) : lowT S D * D = S * lowB S D := by
  have h1 := low_mulT S D
  have h2 := low_mulB S D
  calc lowT S D * D = lowT S D * (lowB S D * sg S D) := by rw [h2]
    _ = (lowT S D * sg S D) * lowB S D := by rw [Int.mul_comm (lowB S D), Int.mul_assoc]
    _ = S * lowB S D := by rw [h1]
/-- lowest terms are told by the ratio -/
theorem low_unique {p q p' q' : Int} (hq : 0 < q) (hq' : 0 < q') (g : Nat.gcd p.natAbs q.natAbs = 1) (g' : Nat.gcd p'.natAbs q'.natAbs = 1) (e : p * q' = p' * q) : p = p' ∧ q = q' := by
  have ea : p.natAbs * q'.natAbs = p'.natAbs * q.natAbs := by rw [← Int.natAbs_mul, ← Int.natAbs_mul, e]
  have d1 : q.natAbs ∣ q'.natAbs := by
    have c : Nat.Coprime q.natAbs p.natAbs := by
      show Nat.gcd q.natAbs p.natAbs = 1
      rw [Nat.gcd_comm]
      exact g
    exact c.dvd_of_dvd_mul_left ⟨p'.natAbs, by rw [ea, Nat.mul_comm]⟩
  have d2 : q'.natAbs ∣ q.natAbs := by
    have c : Nat.Coprime q'.natAbs p'.natAbs := by
      show Nat.gcd q'.natAbs p'.natAbs = 1
      rw [Nat.gcd_comm]
      exact g'
    exact c.dvd_of_dvd_mul_left ⟨p.natAbs, by rw [← ea, Nat.mul_comm]⟩
  have eq : q = q' := by
    have := Nat.dvd_antisymm d1 d2
    omega
  subst eq
  exact ⟨Int.eq_of_mul_eq_mul_right (by omega) e, rfl⟩
theorem low_ratio {a b c d : Int} (hb : b ≠ 0) (hd : d ≠ 0) (e : a * d = c * b) : lowT a b = lowT c d ∧ lowB a b = lowB c d := by
  refine low_unique (lowB_pos hb) (lowB_pos hd) (low_gcd hb) (low_gcd hd) ?_
  have h1 := low_cross a b
  have h2 := low_cross c d
  have key : (lowT a b * lowB c d) * (b * d) = (lowT c d * lowB a b) * (b * d) := by
    calc (lowT a b * lowB c d) * (b * d) = (lowT a b * b) * (d * lowB c d) := by ac_rfl
      _ = (a * lowB a b) * (d * lowB c d) := by rw [h1]
      _ = (a * d) * (lowB a b * lowB c d) := by ac_rfl
      _ = (c * b) * (lowB a b * lowB c d) := by rw [e]
      _ = (c * lowB c d) * (lowB a b * b) := by ac_rfl
      _ = (lowT c d * d) * (lowB a b * b) := by rw [← h2]
      _ = (lowT c d * lowB a b) * (b * d) := by ac_rfl
  exact Int.eq_of_mul_eq_mul_right (Int.mul_ne_zero hb hd) key
/-- v is the number S over D -/
def Num (C : Addr) (H : Hp) (v : V) (S D : Int) : Prop := Nm C H v (lowT S D) (lowB S D)
theorem Num.same {C : Addr} {H H' : Hp} {v : V} {S D : Int} (h : Num C H v S D) (s : Same H H') : Num C H' v S D := Nm.same h s
theorem low_of {S D : Int} (hD : 0 < D) (hS : S.natAbs < 2 ^ 4000) (hDb : D.natAbs < 2 ^ 4000) : Low (lowT S D) (lowB S D) :=
  ⟨lowB_pos (by omega), low_gcd (by omega), Nat.lt_of_le_of_lt (lowT_le (by omega)) hS, Nat.lt_of_le_of_lt (lowB_le (by omega)) hDb⟩
theorem low_sum {S S' D : Int} (hD : 0 < D) : lowT (lowT S D * lowB S' D + lowT S' D * lowB S D) (lowB S D * lowB S' D) = lowT (S + S') D ∧ lowB (lowT S D * lowB S' D + lowT S' D * lowB S D) (lowB S D * lowB S' D) = lowB (S + S') D := by
  have p1 := lowB_pos (a := S) (b := D) (by omega)
  have p2 := lowB_pos (a := S') (b := D) (by omega)
  refine low_ratio (Int.mul_ne_zero (by omega) (by omega)) (by omega) ?_
  have h1 := low_cross S D
  have h2 := low_cross S' D
  rw [Int.add_mul, Int.add_mul]
  congr 1
  · calc lowT S D * lowB S' D * D = (lowT S D * D) * lowB S' D := by ac_rfl
      _ = S * (lowB S D * lowB S' D) := by rw [h1]; ac_rfl
  · calc lowT S' D * lowB S D * D = (lowT S' D * D) * lowB S D := by ac_rfl
      _ = S' * (lowB S D * lowB S' D) := by rw [h2]; ac_rfl
theorem low_lt {S S' D : Int} (hD : 0 < D) : (lowT S D * lowB S' D < lowT S' D * lowB S D) ↔ S < S' := by
  have p1 := lowB_pos (a := S) (b := D) (by omega)
  have p2 := lowB_pos (a := S') (b := D) (by omega)
  have h1 := low_cross S D
  have h2 := low_cross S' D
  have e1 : (lowT S D * lowB S' D) * D = S * (lowB S D * lowB S' D) := by
    calc lowT S D * lowB S' D * D = (lowT S D * D) * lowB S' D := by ac_rfl
      _ = S * (lowB S D * lowB S' D) := by rw [h1]; ac_rfl
  have e2 : (lowT S' D * lowB S D) * D = S' * (lowB S D * lowB S' D) := by
    calc lowT S' D * lowB S D * D = (lowT S' D * D) * lowB S D := by ac_rfl
      _ = S' * (lowB S D * lowB S' D) := by rw [h2]; ac_rfl
  have pp : 0 < lowB S D * lowB S' D := Int.mul_pos p1 p2
  constructor
  · intro h
    have := Int.mul_lt_mul_of_pos_right h hD
    rw [e1, e2] at this
    exact Int.lt_of_mul_lt_mul_right this (Int.le_of_lt pp)
  · intro h
    have := Int.mul_lt_mul_of_pos_right h pp
    rw [← e1, ← e2] at this
    exact Int.lt_of_mul_lt_mul_right this (Int.le_of_lt hD)
theorem low_whole {i D : Int} (hD : 0 < D) : lowT (i * D) D = i ∧ lowB (i * D) D = 1 := by
  have h := low_ratio (a := i * D) (b := D) (c := i) (d := 1) (by omega) (by decide) (by rw [Int.mul_one])
  rw [h.1, h.2]
  exact low_int i
theorem Num.int {C : Addr} {H : Hp} {D : Int} (hD : 0 < D) (i : Int) : Num C H (.int i) (i * D) D := by
  unfold Num
  rw [(low_whole hD).1, (low_whole hD).2]
  exact .inl ⟨rfl, rfl⟩
end KD
set_option Elab.async false
set_option linter.all false
set_option maxRecDepth 100000
set_option maxHeartbeats 4000000
namespace KD
open PySem L2
theorem sum_bound {B : Nat} : ∀ (l : List Int), (∀ S ∈ l, S.natAbs ≤ B) → l.sum.natAbs ≤ l.length * B
  | [], _ => by simp
  | a :: r, h => by
    have h1 := sum_bound r fun S hS => h S (List.mem_cons_of_mem _ hS)
    have h2 := h a List.mem_cons_self
    rw [List.sum_cons, List.length_cons, Nat.succ_mul]
    have := Int.natAbs_add_le a r.sum
    omega
theorem sum_small {l : List Int} (hl : l.length ≤ 1000) (h : ∀ S ∈ l, S.natAbs < 2 ^ 3000) : l.sum.natAbs < 2 ^ 4000 := by
  have h1 := sum_bound (B := 2 ^ 3000) l fun S hS => Nat.le_of_lt (h S hS)
  have h2 : l.length * 2 ^ 3000 ≤ 1000 * 2 ^ 3000 := Nat.mul_le_mul_right _ hl
  exact Nat.lt_of_le_of_lt (Nat.le_trans h1 h2) (by decide +kernel)
theorem mem_of_at {α : Type} {l : List α} {i : Nat} {x : α} (h : l[i]? = some x) : x ∈ l := List.mem_of_getElem? h
/-- numbers over D -/
def Nums (C : Addr) (D : Int) (H : Hp) (xs : List V) (Ss : List Int) : Prop := xs.length = Ss.length ∧ ∀ (i : Nat) (x : V), xs[i]? = some x → ∃ S : Int, Ss[i]? = some S ∧ Num C H x S D
theorem Nums.same {C : Addr} {D : Int} {H H' : Hp} {xs : List V} {Ss : List Int} (h : Nums C D H xs Ss) (s : Same H H') : Nums C D H' xs Ss := ⟨h.1, fun i x e => let ⟨S, e2, n⟩ := h.2 i x e; ⟨S, e2, n.same s⟩⟩
theorem SqT.same {K : PySem.W.Frag} {H H' : Hp} {a : Addr} {xs : List V} (h : SqT K H a xs) (e : Same H H') : SqT K H' a xs := by
  rcases h with (h | ⟨o, h⟩) | h
  · exact .inl (.inl (e _ _ h))
  · exact .inl (.inr ⟨o, e _ _ h⟩)
  · exact .inr h
abbrev AddT (P : Program) (w : World) (K : PySem.W.Frag) (mg : Str → Option Value) (base : Heap) (C : Addr) : Prop := ArT P w K mg base C .Add "+" "add" 7 8 (spAdd C) (spRadd C)
section
variable {P : Program} {w : World} {K : PySem.W.Frag} {mg : Str → Option Value} {base : Heap} {C B : Addr}
abbrev s_total : Stmt := top 18
theorem sc_total : FnScope ["row"] ["row"] (defScope s_total) := ⟨rfl, rfl, rfl, by decide +kernel, rfl, by decide +kernel, by decide +kernel⟩
/-- the method less -/
structure LsT (P : Program) (w : World) (K : PySem.W.Frag) (mg : Str → Option Value) (base : Heap) (C : Addr) : Prop where
  ex : ∃ (f : Addr) (fd : FuncData), Meth K C "less" f ∧ FnOk P w K mg base CX0 7 f fd ["self", "other"] (spLess C) ∧ Binds K fd ["self", "other"] []
theorem less_none (t n : Int) : (shF t n).lookup ("less" : Str) = none := by
  unfold shF
  rw [lookup_putF, if_neg (by decide +kernel), lookup_putF, if_neg (by decide +kernel)]
  rfl
end
end KD
set_option Elab.async false
set_option linter.all false
set_option maxRecDepth 100000
set_option maxHeartbeats 4000000
namespace KD
open PySem L2
/-- a thing that is no tuple -/
inductive NotTup (K : PySem.W.Frag) (C : Addr) (H : Hp) : V → Prop where
  | fo {x : V} {T : String} (h : Fo K H x T) (ne : T ≠ "tuple") : NotTup K C H x
  | ins {a dx : Addr} {fs : List (Str × V)} (e : H a = some (.ins C dx fs)) : NotTup K C H (.ref a)
theorem NotTup.kit {K : PySem.W.Frag} {C : Addr} {H : Hp} {x : V} (I : InsT K C) (tu : PySem.W.kitOne K (.ref C) (.type "tuple") = some false) (h : NotTup K C H x) : ∃ t, TyX K H x t ∧ PySem.W.kitOne K t (.type "tuple") = some false := by
  cases h with
  | ins e => exact ⟨_, I.ty e, tu⟩
  | fo h ne =>
    refine ⟨_, h.ty, ?_⟩
    cases h with
    | non => exact kit_ty (r := false) (by decide +kernel)
    | bl b => exact kit_ty (r := false) (by decide +kernel)
    | int i => exact kit_ty (r := false) (by decide +kernel)
    | str x => exact kit_ty (r := false) (by decide +kernel)
    | lst e => exact kit_ty (r := false) (by decide +kernel)
    | tup e => exact absurd rfl ne
    | dK e => exact kit_ty (r := false) (by decide +kernel)
/-- an item: a number over D, or a thing that is none -/
def Item (K : PySem.W.Frag) (C : Addr) (D : Int) (H : Hp) (x : V) : Option Int → Prop
  | some S => Num C H x S D ∧ S.natAbs < 2 ^ 3000
  | none => ∃ T, Fo K H x T ∧ isI x = false
theorem Item.same {K : PySem.W.Frag} {C : Addr} {D : Int} {H H' : Hp} {x : V} {o : Option Int} (h : Item K C D H x o) (s : Same H H') : Item K C D H' x o := by
  cases o with
  | some S => exact ⟨h.1.same s, h.2⟩
  | none =>
    obtain ⟨T, fo, ix⟩ := h
    exact ⟨T, fo_same fo s, ix⟩
def Items (K : PySem.W.Frag) (C : Addr) (D : Int) (H : Hp) (xs : List V) (os : List (Option Int)) : Prop := xs.length = os.length ∧ ∀ (i : Nat) (x : V), xs[i]? = some x → ∃ o : Option Int, os[i]? = some o ∧ Item K C D H x o
theorem Items.same {K : PySem.W.Frag} {C : Addr} {D : Int} {H H' : Hp} {xs : List V} {os : List (Option Int)} (h : Items K C D H xs os) (s : Same H H') : Items K C D H' xs os := ⟨h.1, fun i x e => let ⟨o, e2, n⟩ := h.2 i x e; ⟨o, e2, n.same s⟩⟩
def spTupOf (K : PySem.W.Frag) (C : Addr) : Sp := fun vs H Q _ => ∃ (many : Int) (x : V), vs = [.int many, x] ∧ ((∃ t xs, x = .ref t ∧ H t = some (.tup xs) ∧ Q (.bl (decide (V.int (xs.length : Int) = V.int many))) H) ∨ (NotTup K C H x ∧ Q (.bl false) H))
section
variable {P : Program} {w : World} {K : PySem.W.Frag} {mg : Str → Option Value} {base : Heap} {C B : Addr}
abbrev s_tupOf : Stmt := top 10
theorem sc_tupOf : FnScope ["many", "thing"] ["many", "thing"] (defScope s_tupOf) := ⟨rfl, rfl, rfl, by decide +kernel, rfl, by decide +kernel, by decide +kernel⟩
theorem ok_tupOf {f : Addr} {fd : FuncData} (F : Fun K "is_tuple_of" "is_tuple_of" s_tupOf f fd) (T : ShT K mg C) (n_tuple : mg "tuple" = none) (tu : PySem.W.kitOne K (.ref C) (.type "tuple") = some false) : FnOk P w K mg base CX0 1 f fd ["many", "thing"] (spTupOf K C) := by
  refine F.ok sc_tupOf (fun vs H Q E h => ?_) (fun cdv A outer s H vs Q E hr h => ?_)
  · obtain ⟨many, x, rfl, _⟩ := h
    rfl
  · obtain ⟨many, x, rfl, h⟩ := h
    refine ⟨_, (pss_one (ps_ret (pe_and (pe_callB call_isi (by rfl) T.bn.n_isinstance (by decide +kernel) (pa_cons (pv 1) (pa_cons (pe_bltn (v := .ty "tuple") rfl n_tuple (by decide +kernel) rfl) pa_nil))) (pe_one (pe_cmpR op_eq (pe_callB call_len_seq (by rfl) T.bn.n_len PySem.boot_len (pa_cons (pv 1) pa_nil)) (pv 0) (nomark _)))))), ?_⟩
    rcases h with ⟨t, xs, rfl, e, k⟩ | ⟨nt, k⟩
    · refine ⟨_, rfl, .ref t, .ty "tuple", _, _, true, rfl, .ty _, (Fo.tup e).ty, kit_ty (r := true) (by decide +kernel), _, rfl, iteT ?_⟩
      exact ⟨_, rfl, t, xs, rfl, .inr (.inl (.inl e)), _, rfl, rfl, k⟩
    · obtain ⟨ty, h1, h2⟩ := nt.kit T.it tu
      exact ⟨_, rfl, x, .ty "tuple", ty, _, false, rfl, .ty _, h1, h2, _, rfl, iteF k⟩
end
end KD
set_option Elab.async false
set_option linter.all false
set_option maxRecDepth 100000
set_option maxHeartbeats 4000000
/-! raise C(), C an own exception whose __init__ takes nothing and keeps nothing -/
namespace L2
open PySem PySem.Spec PyProof.Rows
end L2
set_option Elab.async false
set_option linter.all false
set_option maxRecDepth 100000
set_option maxHeartbeats 4000000
namespace KD
open PySem L2
/-! ### things, a chain among them -/
inductive Th2 (K : PySem.W.Frag) (C CC : Addr) (H : Hp) : V → Prop
  | th {x : V} (h : Thing K C H x) : Th2 K C CC H x
  | ch {a dx : Addr} {fs : List (Str × V)} (e : H a = some (.ins CC dx fs)) : Th2 K C CC H (.ref a)
theorem Thing.same {K : PySem.W.Frag} {C : Addr} {H H' : Hp} {x : V} (h : Thing K C H x) (s : Same H H') : Thing K C H' x := by
  cases h with
  | fo h => exact .fo (fo_same h s)
  | ins e => exact .ins (s _ _ e)
theorem Th2.same {K : PySem.W.Frag} {C CC : Addr} {H H' : Hp} {x : V} (h : Th2 K C CC H x) (s : Same H H') : Th2 K C CC H' x := by
  cases h with
  | th h => exact .th (h.same s)
  | ch e => exact .ch (s _ _ e)
theorem Th2.isInt {K : PySem.W.Frag} {C CC : Addr} {H : Hp} {x : V} (I : InsT K C) (J : InsT K CC) (h : Th2 K C CC H x) : ∃ t, TyX K H x t ∧ PySem.W.kitOne K t (.type "int") = some (isIB x) ∧ PySem.W.kitOne K t (.type "bool") = some (isB x) := by
  cases h with
  | th h => exact h.isInt I
  | ch e => exact ⟨_, J.ty e, J.kint, J.kbool⟩
theorem isI_IB (x : V) : (isIB x && !isB x) = isI x := by cases x <;> rfl
def btw (a b : Int) : V → Bool
  | .int i => decide (a ≤ i) && decide (i ≤ b)
  | _ => false
theorem btw_no {a b : Int} {x : V} (h : isI x = false) : btw a b x = false := by
  cases x <;> first | rfl | cases h
theorem int_btw {n s : Nat} (h : s < n) : btw 0 ((n : Int) - 1) (.int (s : Int)) = true := by
  show (decide (0 ≤ (s : Int)) && decide ((s : Int) ≤ (n : Int) - 1)) = true
  rw [Bool.and_eq_true, decide_eq_true_eq, decide_eq_true_eq]
  omega
def spWhole2 (K : PySem.W.Frag) (C CC : Addr) : Sp := fun vs H Q _ => ∃ x, vs = [x] ∧ Th2 K C CC H x ∧ Q (.bl (isI x)) H
def spBetween (K : PySem.W.Frag) (C CC : Addr) : Sp := fun vs H Q _ => ∃ (a b : Int) (x : V), vs = [.int a, .int b, x] ∧ Th2 K C CC H x ∧ Q (.bl (btw a b x)) H
def spIndex (K : PySem.W.Frag) (C CC : Addr) : Sp := fun vs H Q _ => ∃ (n : Int) (x : V), vs = [.int n, x] ∧ Th2 K C CC H x ∧ Q (.bl (btw 0 (n - 1) x)) H
section
variable {P : Program} {w : World} {K : PySem.W.Frag} {mg : Str → Option Value} {base : Heap} {C CC B : Addr}
theorem ok_is_whole2 {f : Addr} {fd : FuncData} (F : Fun K "is_whole" "is_whole" s_is_whole f fd) (T : Bn mg) (I : InsT K C) (J : InsT K CC) : FnOk P w K mg base CX0 1 f fd ["thing"] (spWhole2 K C CC) := by
  refine F.ok sc_is_whole (fun vs H Q E h => ?_) (fun cdv A outer s H vs Q E hr h => ?_)
  · obtain ⟨x, rfl, _⟩ := h
    rfl
  · obtain ⟨x, rfl, h, k⟩ := h
    refine ⟨_, (pss_one (ps_ret (pe_and (pe_callB call_isi (by rfl) T.n_isinstance (by decide +kernel) (pa_cons (pv 0) (pa_cons (pe_bltn (v := .ty "int") rfl T.n_int (by decide +kernel) rfl) pa_nil))) (pe_one (pe_not (pe_callB call_isi (by rfl) T.n_isinstance (by decide +kernel) (pa_cons (pv 0) (pa_cons (pe_bltn (v := .ty "bool") rfl T.n_bool (by decide +kernel) rfl) pa_nil)))))))), ?_⟩
    obtain ⟨t, ty, k1, k2⟩ := h.isInt I J
    have e := isI_IB x
    refine ⟨_, rfl, x, .ty "int", t, _, _, rfl, .ty _, ty, k1, _, rfl, iteB (fun z => ?_) (fun z => ?_)⟩
    · refine ⟨_, rfl, x, .ty "bool", t, _, _, rfl, .ty _, ty, k2, _, rfl, ?_⟩
      rw [z, Bool.true_and] at e
      rw [e]
      exact k
    · rw [z, Bool.false_and] at e
      rw [← e] at k
      exact k
abbrev s_is_between : Stmt := top 8
theorem sc_is_between : FnScope ["least", "most", "thing"] ["least", "most", "thing"] (defScope s_is_between) := ⟨rfl, rfl, rfl, by decide +kernel, rfl, by decide +kernel, by decide +kernel⟩
theorem ok_is_between {f : Addr} {fd : FuncData} (F : Fun K "is_between" "is_between" s_is_between f fd) (c_is_whole : Cal P w K mg base 1 "is_whole" ["thing"] (spWhole2 K C CC)) : FnOk P w K mg base CX0 2 f fd ["least", "most", "thing"] (spBetween K C CC) := by
  refine F.ok sc_is_between (fun vs H Q E h => ?_) (fun cdv A outer s H vs Q E hr h => ?_)
  · obtain ⟨a, b, x, rfl, _⟩ := h
    rfl
  · obtain ⟨a, b, x, rfl, h, k⟩ := h
    refine ⟨_, (pss_one (ps_ret (pe_and (pe_cal c_is_whole (hr.mono (by decide)) rfl (pa_cons (pv 2) pa_nil)) (pe_one (pe_chain op_le op_le (pv 0) (pv 2) (pv 1)))))), ?_⟩
    refine ⟨_, rfl, x, rfl, h, _, rfl, iteB (fun z => ?_) (fun z => ?_)⟩
    · obtain ⟨i, rfl⟩ := isI_int z
      refine ⟨_, rfl, _, rfl, a, i, rfl, rfl, _, rfl, iteB (fun z2 => ?_) (fun z2 => ?_)⟩
      · refine ⟨_, rfl, i, b, rfl, rfl, ?_⟩
        show Q (.bl (decide (i ≤ b))) H
        have k : Q (.bl (decide (a ≤ i) && decide (i ≤ b))) H := k
        rw [z2, Bool.true_and] at k
        exact k
      · have k : Q (.bl (decide (a ≤ i) && decide (i ≤ b))) H := k
        rw [z2, Bool.false_and] at k
        exact k
    · rw [btw_no z] at k
      exact k
abbrev s_is_index : Stmt := top 9
theorem sc_is_index : FnScope ["many", "thing"] ["many", "thing"] (defScope s_is_index) := ⟨rfl, rfl, rfl, by decide +kernel, rfl, by decide +kernel, by decide +kernel⟩
theorem ok_is_index {f : Addr} {fd : FuncData} (F : Fun K "is_index" "is_index" s_is_index f fd) (c_is_between : Cal P w K mg base 2 "is_between" ["least", "most", "thing"] (spBetween K C CC)) : FnOk P w K mg base CX0 3 f fd ["many", "thing"] (spIndex K C CC) := by
  refine F.ok sc_is_index (fun vs H Q E h => ?_) (fun cdv A outer s H vs Q E hr h => ?_)
  · obtain ⟨n, x, rfl, _⟩ := h
    rfl
  · obtain ⟨n, x, rfl, h, k⟩ := h
    refine ⟨_, (pss_one (ps_ret (pe_cal c_is_between (hr.mono (by decide)) rfl (pa_cons pe_int (pa_cons (pe_op op_sub (pv 0) pe_int) (pa_cons (pv 1) pa_nil)))))), ?_⟩
    exact ⟨_, rfl, _, _, rfl, rfl, _, rfl, 0, n - 1, x, rfl, h, k⟩
end
end KD
set_option Elab.async false
set_option linter.all false
set_option maxRecDepth 100000
set_option maxHeartbeats 4000000
/-! a dict comprehension whose keys are tuples; x in a tuple of data; a block that is never reached -/
namespace L2
open PySem PySem.Spec PyProof.Rows
/-- the new dict D takes a pair -/
theorem putT_set {Y : Cx} {ps : List (Addr × Obj)} {τ : St} {G : Hp} {z : Shared} {Er : Value → Shared → Prop} {D b : Addr} {kvs : List (List Key × V)} {k : List Key} {v : V} {u r : Value} {Q : Unit → Shared → Prop} (hu : Y.A.units + 1 < cLine)
    (I : Inv Y ps τ G z) (eD : G D = some (.dT kvs)) (room : kvs.length < sizeLine) (eb : G b = some (.tup (k.map kV))) (ry : RelV (.ref b) u) (rv : RelV v r) (go : ∀ z', Inv Y ps τ (upd G D (.dT (putK kvs k v))) z' → Q () z') :
    wpAny (model Y.prog Y.w) Y.A (dictSet D u r) Q Er z := by
  obtain rfl : u = Value.ref b := ry
  obtain ⟨sz, hd, xs, rel, dd⟩ := dt_of I.hok eD
  have sz1 : xs.length ≤ sizeLine := (Paired.length rel) ▸ sz
  have sz2 : (putK kvs k v).length ≤ sizeLine := by
    have := length_putK kvs k v
    omega
  refine wpAny_dictSet_heap (hsz := sz1) (knd := tupleKind (mixKind Y.prog Y.w)) (by first | exact Nat.lt_of_succ_lt hu | exact hu) (key_of I.hok eb) dd fun h1 d1 same => go _ ?_
  obtain ⟨ob, es, ep, g1, g2, g3, g4, _, g6⟩ := d1
  refine d_write I (by rw [eD]; trivial) same ⟨ob, g1⟩ ⟨sz2, hd, _, KT.keeps (rel.put k eb rv) fun c ys ec => ?_, ob, es, ep, g1, g2, g3, g4, g6⟩
  rw [upd_ne (ne_of ec eD (by intro q; cases q))]
  exact ec
/-- {k: v for target in iter if ..}, keys tuples of ints and texts -/
def tDcT (wi : TI) (g : TG) (tt : TT) (tk tv : TE) (vs : List Nat) : TE := fun σ H Q => wi σ H fun J H1 => ∀ D, H1 D = none → ∃ W : Nat → Nat → Hp → Prop, (∃ m, W 0 m (upd H1 D (.dT []))) ∧
  ∀ i m H, W i m H → (J.stop i H ∧ Q (.ref D) H) ∨ (J.go i H ∧ ∃ Nx : Hp → Prop, (∀ H', Nx H' → ∃ m', m' < m ∧ W (i + 1) m' H') ∧
    ∀ x H', J.yld i H x H' → g x (wipe σ vs) H' fun σ2 H2 => wipe σ2 vs = wipe σ vs ∧ tt σ2 H2 fun b H3 => if b = true then tk σ2 H3 fun y H4 => tv σ2 H4 fun z H5 =>
      ∃ kvs k c, y = .ref c ∧ H5 c = some (.tup (k.map kV)) ∧ H5 D = some (.dT kvs) ∧ kvs.length < sizeLine ∧ Nx (upd H5 D (.dT (putK kvs k z))) else Nx H3)
end L2
set_option Elab.async false
set_option linter.all false
set_option maxRecDepth 100000
set_option maxHeartbeats 4000000
/-! a sequence that may be a list or a tuple, gone through -/
namespace L2
open PySem PySem.Spec PyProof.Rows
def Sq (H : Hp) (a : Addr) (xs : List V) : Prop := H a = some (.lst xs) ∨ H a = some (.tup xs)
theorem Sq.same {H H' : Hp} {a : Addr} {xs : List V} (h : Sq H a xs) (s : ∀ o, H a = some o → H' a = some o) : Sq H' a xs := h.elim (fun e => .inl (s _ e)) fun e => .inr (s _ e)
end L2
set_option Elab.async false
set_option linter.all false
set_option maxRecDepth 100000
set_option maxHeartbeats 4000000
/-! sum(t), t a tuple of ints; t * k, k from 1 on -/
namespace L2
open PySem PySem.Spec PyProof.Rows
theorem intsAre_at {its : List Value} {ns : List Int} (h : IntsAre its ns) : ∀ (i : Nat) (v : Value), its[i]? = some v → ∃ t, v = .int (ns.getD i 0) t := by
  induction h with
  | nil => intro i v e; simp at e
  | cons n t h ih =>
    intro i v e
    cases i with
    | zero =>
      have e2 : Value.int n t = v := Option.some.inj e
      exact ⟨t, e2.symm⟩
    | succ i => exact ih i v e
end L2
set_option Elab.async false
set_option linter.all false
set_option maxRecDepth 100000
set_option maxHeartbeats 4000000
/-! t * k, t a tuple that is not empty, k from 1 on: for k = 1 it is t itself -/
namespace L2
open PySem PySem.Spec PyProof.Rows
theorem tuple_mul1 (l : Addr) (items : Array Value) (n : Nat) (dd : Option Addr) (sl : Array (Option Value)) (u : Tok) :
    Meets (Builtin.«tuple.__mul__» ⟨[.ref l, .int 1 u], []⟩) (fun _ R s => s.heap.get? l = some { cls := .type "tuple", dict := dd, data := .seq items n, slots := sl } ∧ R (.ok (.ret (Value.ref l))) s) :=
  .of_wp fun prog w A R s h => by
    obtain ⟨hp, g, d, tk, os⟩ := s
    obtain ⟨hl, h⟩ := h
    have f1 := AutoSeq1.idx_int
    have c1 : (items.isEmpty || (1 : Int) == 1) = true := by rw [show ((1 : Int) == 1) = true from rfl, Bool.or_true]
    wp_walk using wpAny_loadPart' hl
    repeat (first
      | (refine wpAny_ite_false (decide_eq_false (by decide)) ?_; wp_walk using wpAny_loadPart' hl)
      | (refine wpAny_ite_true (decide_eq_true (by rw [c1])) ?_; wp_walk using wpAny_loadPart' hl))
    exact ⟨_, rfl, h⟩
def rRepT1 (K : PySem.W.Frag) : R2 := fun x y H Q => ∃ l xs, x = .ref l ∧ y = .int 1 ∧ SqT K H l xs ∧ Q (.ref l) H
section
variable {X : Cx}
theorem op_repT1 : OpR X (binaryOp .Mult) (rRepT1 X.K) := by
  intro pins s σ H x y v u Q I rx ry h
  obtain ⟨l, xs, rfl, rfl, hT, q⟩ := h
  cases rx
  obtain ⟨t, rfl⟩ := ry
  obtain ⟨its, r, ⟨⟨cls, dd, data, sl⟩, ho, hc, n, hd⟩, hs⟩ := I.tuple hT
  simp only at hc hd
  subst hc hd
  refine wpAny_binaryOp_repeat_ref (T := "tuple") (U := "int") (by decide) ⟨_, ho, rfl⟩ (fun s' => typeIs_int s' 1 t) noFill_tuple_mul F.fills_int_mul F.slot_int_rmul repeat_tuple F.slot_int_index.lookup
    (call_meets F.slot_int_rmul (typeIs_int s 1 t) F.entry_int_rmul (F.args_int_rmul_2 _ _) (int_rmul_tuple 1 t l its.toArray n dd sl)
      ⟨ho, rfl, ⟨_, ho, rfl⟩, call_meets F.slot_tuple_mul ⟨_, ho, rfl⟩ F.entry_tuple_mul (F.args_tuple_mul_2 _ _) (tuple_mul1 l its.toArray n dd sl t) ⟨ho, ?_⟩⟩)
  exact ⟨.ref l, H, I, rfl, q⟩
end
end L2
set_option Elab.async false
set_option linter.all false
set_option maxRecDepth 100000
set_option maxHeartbeats 4000000
namespace L2
open PySem PySem.Spec PyProof.Rows
section
variable {X : Cx}
theorem op_orR {f : Value → Value → Sem Value} {r1 r2 : R2} (h1 : OpR X f r1) (h2 : OpR X f r2) : OpR X f (fun x y H Q => r1 x y H Q ∨ r2 x y H Q) :=
  fun ps s σ H x y v u Q I rx ry h => h.elim (h1 ps s σ H x y v u Q I rx ry) (h2 ps s σ H x y v u Q I rx ry)
end
end L2
namespace KD
open PySem L2
/-! ### what all of the texts want -/
theorem iteTe {c : Bool} {A D : Prop} (e : c = true) (h : A) : if c = true then A else D := by
  rw [if_pos e]
  exact h
abbrev rfs {α : Type} (ts : List (Addr × α)) : List V := ts.map fun t => V.ref t.1
theorem rfs_snoc {α : Type} {ts : List (Addr × α)} {t : Addr × α} : rfs (ts ++ [t]) = rfs ts ++ [V.ref t.1] := by rw [rfs, List.map_append]; rfl
theorem rfs_len {α : Type} {ts : List (Addr × α)} : (rfs ts).length = ts.length := List.length_map _
theorem rfs_at {α : Type} {ts : List (Addr × α)} {i : Nat} {x : V} (h : (rfs ts)[i]? = some x) : ∃ t, ts[i]? = some t ∧ t ∈ ts ∧ x = .ref t.1 := by
  rw [rfs, List.getElem?_map] at h
  cases e : ts[i]? with
  | none => rw [e] at h; cases h
  | some t => rw [e] at h; exact ⟨t, rfl, List.mem_of_getElem? e, (Option.some.inj h).symm⟩
theorem Same.but {H H' : Hp} {D : Addr} {o : HO} (h : ∀ b u, H b = some u → H' b = some u) (n : H D = none) : ∀ b u, H b = some u → (upd H' D o) b = some u := fun b u e => by
  rw [upd_ne (ne_of_none e n)]
  exact h b u e
/-- the same, beside the pool -/
theorem Keep.but {a D : Addr} {H H' : Hp} {o : HO} (h : Keep a H H') (n : H D = none) : Keep a H (upd H' D o) := fun b u e ne => by
  rw [upd_ne (ne_of_none e n)]
  exact h b u e ne
theorem new_ne {H : Hp} {a t : Addr} (h : PoolAt H a) (n : H t = none) : t ≠ a := fun z => by
  obtain ⟨o, e, _⟩ := h
  rw [z, e] at n
  cases n
theorem PoolAt.other {H : Hp} {a D : Addr} {u : HO} (h : PoolAt H a) (ne : a ≠ D) : PoolAt (upd H D u) a := by
  obtain ⟨o, e, q⟩ := h
  exact ⟨o, by rw [upd_ne ne]; exact e, q⟩
abbrev cV (l : List Nat) : List V := l.map fun k : Nat => V.int (k : Int)
theorem cV_at {l : List Nat} {i : Nat} {x : Nat} (h : l[i]? = some x) : (cV l)[i]? = some (V.int (x : Int)) := by rw [List.getElem?_map, h]; rfl
theorem cV_of {l : List Nat} {i : Nat} {x : V} (h : (cV l)[i]? = some x) : ∃ k, l[i]? = some k ∧ x = V.int (k : Int) := by
  rw [List.getElem?_map] at h
  cases e : l[i]? with
  | none => rw [e] at h; cases h
  | some k => rw [e] at h; exact ⟨k, rfl, (Option.some.inj h).symm⟩
theorem cV_set (l : List Nat) (i x : Nat) : (cV l).set i (V.int (x : Int)) = cV (l.set i x) := by
  rw [cV, cV, List.map_set]
theorem cV_ints (l : List Nat) : cV l = (l.map fun k : Nat => (k : Int)).map V.int := by rw [List.map_map]; rfl
theorem sum_ints : ∀ l : List Nat, (l.map fun k : Nat => (k : Int)).sum = ((l.sum : Nat) : Int)
  | [] => rfl
  | a :: l => by
    rw [List.map_cons, List.sum_cons, List.sum_cons, sum_ints l]
    omega
theorem small_len {n : Nat} (h : n ≤ 1000) : n < sizeLine := small1000 h
theorem nsm {n : Nat} (h : n ≤ 1000) : ((n : Int)).natAbs.log2 < 9000 := log_small (b := 10) (by show ((n : Int)).natAbs < 2 ^ 10; omega) (by decide) (by decide)
theorem nat_of {r : Int} (h : 0 ≤ r) : ∃ j : Nat, r = (j : Int) := ⟨r.toNat, by omega⟩
/-- a draw, at what stands -/
theorem drawn {a : Addr} {H0 H : Hp} {o : HO} (hp : PoolAt H a) (k : Keep a H0 H) (ho : PoolL o) : PoolAt (upd H a o) a ∧ Keep a H0 (upd H a o) := ⟨.put ho, k.trans (Keep.put o)⟩
/-- one of the things -/
def spPickQ : Sp := fun vs H Q _ => ∃ (a l : Addr) (xs : List V), vs = [.ref a, .ref l] ∧ PoolAt H a ∧ Sq H l xs ∧ l ≠ a ∧ 0 < xs.length ∧ xs.length ≤ 200 ∧ ∀ (x : V) (o : HO), x ∈ xs → PoolL o → Q x (upd H a o)
section
variable {P : Program} {w : World} {K : PySem.W.Frag} {mg : Str → Option Value} {base : Heap} {C : Addr}
theorem ok_pickQ {f : Addr} {fd : FuncData} (F : Fun K "_law_pick" "_law_pick" s_pick f fd) (T : Bn mg) (c_draw : Cal P w K mg base 1 "_law_draw" ["_law_pool_here", "_law_many"] spDraw) : FnOk P w K mg base CX0 2 f fd ["_law_pool_here", "_law_things"] spPickQ := by
  refine F.ok sc_pick (fun vs H Q E h => ?_) (fun cdv A outer s H vs Q E hr h => ?_)
  · obtain ⟨a, l, xs, rfl, _⟩ := h
    rfl
  · obtain ⟨a, l, xs, rfl, hp, hl, ne, h0, h1, k⟩ := h
    refine ⟨_, (pss_one (ps_ret (pe_ix (show IxR _ (rIx K) from ix_seq) (pv 1) (pe_cal c_draw (hr.mono (by decide)) rfl (pa_cons (pv 0) (pa_cons (pe_callB call_len_seq (by rfl) T.n_len PySem.boot_len (pa_cons (pv 1) pa_nil)) pa_nil))) (fun _ _ => rfl)))), ?_⟩
    refine ⟨_, rfl, _, rfl, _, rfl, l, xs, rfl, hl.elim (fun e => .inl (SqL.of e)) (fun e => .inr (SqT.of e)), a, _, rfl, hp, by omega, nsm (by omega), fun r o r0 r1 ho => ?_⟩
    obtain ⟨j, rfl⟩ := nat_of r0
    have hj : j < xs.length := by omega
    have gj : xs[j]? = some xs[j] := List.getElem?_eq_getElem hj
    have hl2 : Sq (upd H a o) l xs := hl.elim (fun e => .inl (by rw [upd_ne ne]; exact e)) fun e => .inr (by rw [upd_ne ne]; exact e)
    rcases hl2 with e | e
    · exact .inl ⟨l, _, _, _, rfl, rfl, SqL.of e, atI_nat gj, k _ o (List.mem_of_getElem? gj) ho⟩
    · exact .inr (.inl ⟨l, _, _, _, rfl, rfl, SqT.of e, atI_nat gj, k _ o (List.mem_of_getElem? gj) ho⟩)
end
/-! ### rows, as lists of tops -/
def Tps (n : Nat) (ws : List Nat) : Prop := ws.length = n ∧ 0 < ws.sum ∧ ∀ w ∈ ws, w < 2 ^ 40
def TpsAt (n : Nat) (H : Hp) (r : Addr × List Nat) : Prop := H r.1 = some (.tup (cV r.2)) ∧ Tps n r.2
def Rws (n : Nat) (H : Hp) (rs : List (Addr × List Nat)) : Prop := ∀ r ∈ rs, TpsAt n H r
theorem Rws.same {n : Nat} {H H' : Hp} {rs : List (Addr × List Nat)} (h : Rws n H rs) (s : Same H H') : Rws n H' rs := fun r m => ⟨s _ _ (h r m).1, (h r m).2⟩
theorem Rws.keep {n : Nat} {a : Addr} {H H' : Hp} {rs : List (Addr × List Nat)} (h : Rws n H rs) (k : Keep a H H') (hp : PoolAt H a) : Rws n H' rs := fun r m => ⟨k _ _ (h r m).1 (hp.ne (h r m).1), (h r m).2⟩
theorem Rws.lstU {n : Nat} {H : Hp} {D : Addr} {ys : List V} {rs : List (Addr × List Nat)} {o : HO} (h : Rws n H rs) (e : H D = some (.lst ys)) : Rws n (upd H D o) rs := fun r m => by
  have q := (h r m).1
  exact ⟨by rw [upd_ne (fun z => by rw [z, e] at q; cases q)]; exact q, (h r m).2⟩
theorem Rws.snoc {n : Nat} {H : Hp} {rs : List (Addr × List Nat)} {r : Addr × List Nat} (h : Rws n H rs) (e : TpsAt n H r) : Rws n H (rs ++ [r]) := fun u m => by
  rcases List.mem_append.mp m with m | m
  · exact h u m
  · rw [List.mem_singleton.mp m]; exact e
theorem Rws.nil {n : Nat} {H : Hp} : Rws n H [] := fun _ m => by cases m
end KD
set_option Elab.async false
set_option linter.all false
set_option maxRecDepth 100000
set_option maxHeartbeats 4000000
namespace KD
open PySem L2
/-! ### built-ins; things in another order; whole numbers -/
structure Bm (mg : Str → Option Value) : Prop where
  b : Bn mg
  n_list : mg "list" = none
  n_tuple : mg "tuple" = none
  n_range : mg "range" = none
  n_sum : mg "sum" = none
  n_min : mg "min" = none
  n_max : mg "max" = none
  n_all : mg "all" = none
  n_any : mg "any" = none
  n_set : mg "set" = none
  n_sorted : mg "sorted" = none
  n_enumerate : mg "enumerate" = none
theorem cV_snoc (ws : List Nat) (x : Nat) : cV ws ++ [V.int (x : Int)] = cV (ws ++ [x]) := by rw [cV, cV, List.map_append]; rfl
/-- two places exchanged -/
theorem swap_perm {α : Type} [DecidableEq α] {l : List α} {i j : Nat} {a b : α} (hi : l[i]? = some a) (hj : l[j]? = some b) : ((l.set i b).set j a).Perm l := by
  have li := (List.getElem?_eq_some_iff.mp hi).1
  have lj := (List.getElem?_eq_some_iff.mp hj).1
  rw [List.perm_iff_count]
  intro x
  have e1 : (l.set i b)[j]? = some (if i = j then b else b) := by
    rw [List.getElem?_set]
    by_cases e : i = j
    · rw [if_pos e, if_pos (by omega), if_pos e]
    · rw [if_neg e, hj, if_neg e]
  have e2 : j < (l.set i b).length := by rw [List.length_set]; exact lj
  have g1 : (l.set i b)[j] = b := by
    have := (List.getElem?_eq_some_iff.mp e1).2
    rw [this]
    split <;> rfl
  have g2 : l[i] = a := (List.getElem?_eq_some_iff.mp hi).2
  have g3 : l[j] = b := (List.getElem?_eq_some_iff.mp hj).2
  rw [List.count_set e2, List.count_set li, g1, g2]
  have m1 : l.count a ≥ 1 := List.one_le_count_iff.mpr (List.mem_of_getElem? hi)
  by_cases xa : a = x
  · subst xa
    by_cases xb : b = a
    · simp [xb]
      omega
    · simp [xb]
      omega
  · by_cases xb : b = x
    · subst xb
      simp [xa]
    · simp [xa, xb]
theorem perm_map {α β : Type} {f : α → β} : ∀ {l : List α} {ys : List β}, ys.Perm (l.map f) → ∃ us : List α, ys = us.map f ∧ us.Perm l
  | [], ys, h => ⟨[], by rw [List.Perm.eq_nil h]; rfl, List.Perm.refl _⟩
  | x :: l, ys, h => by
    have hm : f x ∈ ys := h.mem_iff.mpr List.mem_cons_self
    obtain ⟨s, t, rfl⟩ := List.append_of_mem hm
    have h2 : (s ++ t).Perm (l.map f) := by
      have := List.perm_middle.symm.trans h
      exact (List.perm_cons _).mp this
    obtain ⟨us, e, p⟩ := perm_map h2
    obtain ⟨u1, u2, rfl, e1, e2⟩ := List.map_eq_append_iff.mp e.symm
    refine ⟨u1 ++ x :: u2, by rw [List.map_append, List.map_cons, e1, e2], ?_⟩
    exact List.perm_middle.trans ((List.perm_cons x).mpr p)
/-- the items in another order -/
def spTurnAbout : Sp := fun vs H Q _ => ∃ (a l : Addr) (xs : List V), vs = [.ref a, .ref l] ∧ PoolAt H a ∧ xs.length ≤ 200 ∧ H l = some (.lst xs) ∧
  ∀ (r : Addr) (ys : List V) (H' : Hp), Keep a H H' → PoolAt H' a → r ≠ a → H r = none → H' r = some (.lst ys) → ys.Perm xs → Q (.ref r) H'
section
variable {P : Program} {w : World} {K : PySem.W.Frag} {mg : Str → Option Value} {base : Heap} {C : Addr}
abbrev s_turn : Stmt := top 44
theorem sc_turn : FnScope ["_law_pool_here", "_law_things", "_law_found", "_law_k", "_law_at", "_law_kept"] ["_law_pool_here", "_law_things"] (defScope s_turn) := ⟨rfl, rfl, rfl, by decide +kernel, rfl, by decide +kernel, by decide +kernel⟩
theorem ok_turn {f : Addr} {fd : FuncData} (F : Fun K "_law_turned_about" "_law_turned_about" s_turn f fd) (T : Bm mg) (c_draw : Cal P w K mg base 1 "_law_draw" ["_law_pool_here", "_law_many"] spDraw) : FnOk P w K mg base CX0 2 f fd ["_law_pool_here", "_law_things"] spTurnAbout := by
  refine F.ok sc_turn (fun vs H Q E h => ?_) (fun cdv A outer s H vs Q E hr h => ?_)
  · obtain ⟨a, l, xs, rfl, _⟩ := h
    rfl
  · obtain ⟨a, l, xs, rfl, hp, hn, el, k⟩ := h
    generalize hxl : xs.length = n at hn
    refine ⟨_, (pss_cons (ps_set (i := 2) sc_turn.nd rfl (Or.inl rfl) (pe_callTy call_list_of (by rfl) T.n_list (by decide +kernel) (pa_cons (pv 1) pa_nil)))
      (pss_cons (ps_for PassesOwn.never rfl (pi_range1 (by rfl) T.n_range (pa_cons (pe_callB call_len_seq (by rfl) T.b.n_len PySem.boot_len (pa_cons (pv 2) pa_nil)) pa_nil)) (pg_name (i := 3) sc_turn.nd rfl (Or.inl rfl))
        (pss_cons (ps_set (i := 4) sc_turn.nd rfl (Or.inl rfl) (pe_cal c_draw (hr.mono (by decide)) rfl (pa_cons (pv 0) (pa_cons (pe_callB call_len_seq (by rfl) T.b.n_len PySem.boot_len (pa_cons (pv 2) pa_nil)) pa_nil))))
          (pss_cons (ps_set (i := 5) sc_turn.nd rfl (Or.inl rfl) (pe_ix ix_list (pv 2) (pv 3) (fun _ _ => rfl)))
          (pss_cons (ps_asg (pe_ix ix_list (pv 2) (pv 4) (fun _ _ => rfl)) (pg_sub (pv 2) (pv 3) set_list))
          (pss_one (ps_asg (pv 5) (pg_sub (pv 2) (pv 4) set_list)))))))
      (pss_one (ps_ret (pv 2))))), ?_⟩
    refine ⟨_, rfl, l, _, rfl, .inl (SqL.of el), fun r nr => ?_⟩
    have s1 := Same.put (o := .lst xs) nr
    have e1 : (upd H r (.lst xs)) r = some (.lst xs) := upd_same
    have p1 := hp.new (o := .lst xs) nr
    have nra : r ≠ a := fun z => by
      obtain ⟨o, e, _⟩ := hp
      rw [z, e] at nr
      cases nr
    generalize (upd H r (.lst xs)) = H1 at s1 e1 p1 ⊢
    have len0 : xs.length = n := hxl
    refine ⟨_, rfl, r, _, rfl, .inl (SqL.of e1), _, rfl, by rw [len0]; omega, by rw [len0]; omega, ?_⟩
    rw [len0, Int.toNat_natCast]
    refine for_range (fun i σ H' => ∃ v3 v4 v5 ns, σ = [some (.ref a), some (.ref l), some (.ref r), v3, v4, v5] ∧ Keep a H H' ∧ PoolAt H' a ∧ H' r = some (.lst ns) ∧ ns.Perm xs) ⟨none, none, none, xs, rfl, Keep.of s1, p1, e1, List.Perm.refl _⟩ ?_ ?_
    · rintro i σ H2 hi ⟨v3, v4, v5, ns, rfl, k2, p2, e2, pm⟩
      rw [Int.zero_add]
      have len : ns.length = n := by rw [pm.length_eq, hxl]
      have lenV : ns.length = n := len
      refine ⟨_, rfl, _, rfl, r, _, rfl, .inl (SqL.of e2), a, _, rfl, p2, by rw [lenV]; omega, ?_, fun x o x0 x1 ho => ?_⟩
      · exact log_small (b := 10) (by rw [lenV]; show ((n : Int)).natAbs < 2 ^ 10; omega) (by decide) (by decide)
      rw [lenV] at x1
      have e3 : (upd H2 a o) r = some (.lst ns) := by rw [upd_ne nra]; exact e2
      have k3 := k2.trans (Keep.put (H := H2) o)
      have p3 : PoolAt (upd H2 a o) a := .put ho
      generalize (upd H2 a o) = H3 at e3 k3 p3 ⊢
      obtain ⟨j, rfl⟩ : ∃ j : Nat, x = (j : Int) := ⟨x.toNat, by omega⟩
      have hj : j < n := by omega
      have gi : ns[i]? = some ns[i] := List.getElem?_eq_getElem (by omega)
      have gj : ns[j]? = some ns[j] := List.getElem?_eq_getElem (by omega)
      have ix : ∀ {q : Nat}, q < n → ixN n (q : Int) = some q := fun {q} hq => by
        unfold ixN
        rw [if_pos (by omega), if_pos (by omega)]
        rfl
      refine ⟨_, rfl, _, rfl, r, _, _, _, rfl, rfl, SqL.of e3, atI_nat gi, ?_⟩
      refine ⟨_, rfl, _, rfl, r, _, _, _, rfl, rfl, SqL.of e3, atI_nat gj, ?_⟩
      refine ⟨_, rfl, _, rfl, r, _, _, i, rfl, rfl, e3, by rw [lenV]; exact ix hi, ?_⟩
      have e4 : (upd H3 r (.lst (ns.set i ns[j]))) r = some (.lst (ns.set i ns[j])) := upd_same
      have len4 : (ns.set i ns[j]).length = n := by rw [List.length_set, len]
      refine ⟨_, rfl, _, rfl, _, rfl, r, _, _, j, rfl, rfl, e4, by rw [len4]; exact ix hj, ?_⟩
      rw [upd_upd]
      refine ⟨_, _, _, _, rfl, fun b u e ne => ?_, ?_, upd_same, (swap_perm gi gj).trans pm⟩
      · have nb : b ≠ r := ne_of_none e nr
        rw [upd_ne nb]
        exact k3 b u e ne
      · obtain ⟨u, e, q⟩ := p3
        exact ⟨u, by rw [upd_ne (Ne.symm nra)]; exact e, q⟩
    · rintro σ H2 ⟨v3, v4, v5, ns, rfl, k2, p2, e2, pm⟩
      exact ⟨_, rfl, k r ns H2 k2 p2 nra nr e2 pm⟩
abbrev s_lint : Stmt := top 46
theorem sc_lint : FnScope ["_law_thing"] ["_law_thing"] (defScope s_lint) := ⟨rfl, rfl, rfl, by decide +kernel, rfl, by decide +kernel, by decide +kernel⟩
theorem ok_lint {f : Addr} {fd : FuncData} (F : Fun K "_law_is_integer" "_law_is_integer" s_lint f fd) (T : Bn mg) (I : InsT K C) : FnOk P w K mg base CX0 1 f fd ["_law_thing"] (spWhole K C) := by
  refine F.ok sc_lint (fun vs H Q E h => ?_) (fun cdv A outer s H vs Q E hr h => ?_)
  · obtain ⟨x, rfl, _⟩ := h
    rfl
  · obtain ⟨x, rfl, h, k⟩ := h
    refine ⟨_, (pss_one (ps_ret (pe_and (pe_callB call_isi (by rfl) T.n_isinstance (by decide +kernel) (pa_cons (pv 0) (pa_cons (pe_bltn (v := .ty "int") rfl T.n_int (by decide +kernel) rfl) pa_nil))) (pe_one (pe_not (pe_callB call_isi (by rfl) T.n_isinstance (by decide +kernel) (pa_cons (pv 0) (pa_cons (pe_bltn (v := .ty "bool") rfl T.n_bool (by decide +kernel) rfl) pa_nil)))))))), ?_⟩
    obtain ⟨t, ty, k1, k2⟩ := h.isInt I
    refine ⟨_, rfl, x, .ty "int", t, _, _, rfl, .ty _, ty, k1, _, rfl, ?_⟩
    cases e : isIB x with
    | true =>
      refine iteT ⟨_, rfl, x, .ty "bool", t, _, _, rfl, .ty _, ty, k2, _, rfl, ?_⟩
      have : (!isB x) = isI x := by cases x <;> first | rfl | (simp [isIB] at e)
      rw [this]
      exact k
    | false =>
      refine iteF ?_
      have : isI x = false := by cases x <;> first | rfl | (simp [isIB] at e)
      rw [this] at k
      exact k
end
end KD
set_option Elab.async false
set_option linter.all false
set_option maxRecDepth 100000
set_option maxHeartbeats 4000000
/-! for k, v in d.items(), the keys tuples -/
namespace L2
open PySem PySem.Spec PyProof.Rows
/-- the bookkeeping of a dict comprehension with tuple keys over a walk -/
theorem dcT_it {J : It} {n : Nat} {G : Hp → Prop} {Y : Nat → Hp → V → Hp → Prop} (w : Walk J n G Y) {g : TG} {tt : TT} {tk tv : TE} {vs : List Nat} {σ : St} {H1 : Hp} {D : Addr} {Qd : Hp → Prop} (Pv : Nat → Hp → Prop) (h0 : Pv 0 (upd H1 D (.dT []))) (hG : ∀ i H, i ≤ n → Pv i H → G H)
    (hs : ∀ i x H H', i < n → Pv i H → Y i H x H' → g x (wipe σ vs) H' fun σ2 H2 => wipe σ2 vs = wipe σ vs ∧ tt σ2 H2 fun b H3 =>
      if b = true then tk σ2 H3 fun y H4 => tv σ2 H4 fun z H5 => ∃ kvs k c, y = .ref c ∧ H5 c = some (.tup (k.map kV)) ∧ H5 D = some (.dT kvs) ∧ kvs.length < sizeLine ∧ Pv (i + 1) (upd H5 D (.dT (putK kvs k z))) else Pv (i + 1) H3) (hd : ∀ H, Pv n H → Qd H) :
    ∃ W : Nat → Nat → Hp → Prop, (∃ m, W 0 m (upd H1 D (.dT []))) ∧ ∀ i m H, W i m H →
      (J.stop i H ∧ Qd H) ∨ (J.go i H ∧ ∃ Nx : Hp → Prop, (∀ H', Nx H' → ∃ m', m' < m ∧ W (i + 1) m' H') ∧ ∀ x H', J.yld i H x H' → g x (wipe σ vs) H' fun σ2 H2 => wipe σ2 vs = wipe σ vs ∧ tt σ2 H2 fun b H3 =>
        if b = true then tk σ2 H3 fun y H4 => tv σ2 H4 fun z H5 => ∃ kvs k c, y = .ref c ∧ H5 c = some (.tup (k.map kV)) ∧ H5 D = some (.dT kvs) ∧ kvs.length < sizeLine ∧ Nx (upd H5 D (.dT (putK kvs k z))) else Nx H3) := by
  refine ⟨fun i m H => m = n - i ∧ i ≤ n ∧ Pv i H, ⟨n, by simp, Nat.zero_le _, h0⟩, ?_⟩
  rintro i m H ⟨rfl, hi, p⟩
  have q := hG i H hi p
  by_cases hlt : i < n
  · exact .inr ⟨w.goes i H hlt q, Pv (i + 1), fun H' p' => ⟨n - (i + 1), by omega, rfl, hlt, p'⟩, fun x H' y => hs i x H H' hlt p (w.yields i H x H' hlt q y)⟩
  · have e : i = n := by omega
    subst e
    exact .inl ⟨w.stops H q, hd H p⟩
end L2
set_option Elab.async false
set_option linter.all false
set_option maxRecDepth 100000
set_option maxHeartbeats 4000000
namespace KD
open PySem L2
/-! ### lists of pairs, each in a tuple of its own -/
abbrev Pt := Addr × Nat × Nat
abbrev prV (p : Nat × Nat) : List V := [.int (p.1 : Int), .int (p.2 : Int)]
abbrev kp (p : Nat × Nat) : List L2.Key := [.inl (p.1 : Int), .inl (p.2 : Int)]
def Pts (H : Hp) (ts : List Pt) : Prop := ∀ t ∈ ts, H t.1 = some (.tup (prV t.2))
theorem Pts.same {H H' : Hp} {ts : List Pt} (h : Pts H ts) (s : Same H H') : Pts H' ts := fun t m => s _ _ (h t m)
theorem Pts.snoc {H : Hp} {ts : List Pt} {t : Pt} (h : Pts H ts) (e : H t.1 = some (.tup (prV t.2))) : Pts H (ts ++ [t]) := fun u m => by
  rcases List.mem_append.mp m with m | m
  · exact h u m
  · rw [List.mem_singleton.mp m]; exact e
theorem Pts.lstU {H : Hp} {D : Addr} {ys : List V} {ts : List Pt} {o : HO} (h : Pts H ts) (e : H D = some (.lst ys)) : Pts (upd H D o) ts := fun t m => by
  have q := h t m
  rw [upd_ne (fun z => by rw [z, e] at q; cases q)]
  exact q
def prs (n : Nat) : List (Nat × Nat) := (List.range n).flatMap fun s => (List.range n).map fun t => (s, t)
theorem mem_prs {n : Nat} {p : Nat × Nat} : p ∈ prs n ↔ p.1 < n ∧ p.2 < n := by
  unfold prs
  simp only [List.mem_flatMap, List.mem_map, List.mem_range]
  constructor
  · rintro ⟨s, h1, t, h2, rfl⟩; exact ⟨h1, h2⟩
  · rintro ⟨h1, h2⟩; exact ⟨p.1, h1, p.2, h2, rfl⟩
/-- index_pairs(n) -/
def spIxPrs : Sp := fun vs H Q _ => ∃ n : Nat, vs = [.int (n : Int)] ∧ n ≤ 8 ∧ ∀ (l : Addr) (ts : List Pt) (H' : Hp), Same H H' → H' l = some (.lst (rfs ts)) → Pts H' ts → ts.map (·.2) = prs n → Q (.ref l) H'
theorem prs_len : ∀ n : Nat, n ≤ 8 → (prs n).length ≤ 64 := by
  have h : ∀ n : Fin 9, (prs n).length ≤ 64 := by decide +kernel
  intro n hn
  exact h ⟨n, by omega⟩
def rowsTo (n i : Nat) : List (Nat × Nat) := (List.range i).flatMap fun s => (List.range n).map fun t => (s, t)
theorem rowsTo_succ (n i : Nat) : rowsTo n (i + 1) = rowsTo n i ++ (List.range n).map fun t => (i, t) := by
  unfold rowsTo
  rw [List.range_succ, List.flatMap_append]
  congr 1
  simp
theorem rowsTo_len (n : Nat) : ∀ i, (rowsTo n i).length = i * n
  | 0 => by simp [rowsTo]
  | i + 1 => by rw [rowsTo_succ, List.length_append, rowsTo_len n i, List.length_map, List.length_range, Nat.succ_mul]
section
variable {P : Program} {w : World} {K : PySem.W.Frag} {mg : Str → Option Value} {base : Heap} {C CC B : Addr}
abbrev s_index_pairs : Stmt := top 11
theorem sc_index_pairs : FnScope ["many", "one", "other"] ["many"] (defScope s_index_pairs) := ⟨rfl, rfl, rfl, by decide +kernel, rfl, by decide +kernel, by decide +kernel⟩
theorem ok_index_pairs {f : Addr} {fd : FuncData} (F : Fun K "index_pairs" "index_pairs" s_index_pairs f fd) (T : Bm mg) : FnOk P w K mg base CX0 1 f fd ["many"] spIxPrs := by
  refine F.ok sc_index_pairs (fun vs H Q E h => ?_) (fun cdv A outer s H vs Q E hr h => ?_)
  · obtain ⟨n, rfl, _⟩ := h
    rfl
  · obtain ⟨n, rfl, hn, k⟩ := h
    refine ⟨_, (pss_one (ps_ret (pe_lc2 (own := [("one", 1), ("other", 2)]) (vs1 := [2]) rfl sc_index_pairs.nd (pi_range1 (by rfl) T.n_range (pa_cons (pv 0) pa_nil)) (blkOk_by (N := ["many", "one", "other"]) (sc := defScope s_index_pairs) (by decide +kernel)) (by decide)
      (fun _ _ _ _ _ => (pg_name (i := 1) sc_index_pairs.nd rfl (Or.inl rfl))) (fun _ _ _ _ _ => pts_nil) (fun _ _ _ _ _ => (pi_range1 (by rfl) T.n_range (pa_cons (pv 0) pa_nil))) (fun _ _ _ _ _ => (pg_name (i := 2) sc_index_pairs.nd rfl (Or.inl rfl))) (fun _ _ _ _ _ => pts_nil)
      (fun _ _ _ _ _ => (pe_tup (pa_cons (pv 1) (pa_cons (pv 2) pa_nil))))))), ?_⟩
    refine ⟨_, rfl, _, rfl, by omega, by omega, fun D nD => ?_⟩
    rw [Int.toNat_natCast]
    let Pv : Nat → Nat → Hp → Prop := fun i j H' => ∃ ts : List Pt, Same H H' ∧ H' D = some (.lst (rfs ts)) ∧ Pts H' ts ∧ ts.map (·.2) = rowsTo n i ++ (List.range j).map fun t => (i, t)
    refine ⟨fun i m H' => m + i = n ∧ Pv i 0 H', ⟨n, rfl, [], Same.put nD, upd_same, fun _ m => (by cases m), rfl⟩, fun i m H1 ⟨em, p⟩ => ?_⟩
    cases m with
    | zero =>
      obtain rfl : i = n := by omega
      obtain ⟨ts, s1, e1, p1, q1⟩ := p
      refine .inl ⟨Nat.le_refl _, k D ts H1 s1 e1 p1 ?_⟩
      rw [q1]
      simp [rowsTo, prs]
    | succ m =>
      refine .inr ⟨show i < n by omega, Pv (i + 1) 0, fun H' p' => ⟨m, Nat.lt_succ_self m, by omega, p'⟩, fun x H' y => ?_⟩
      obtain ⟨e, y⟩ := y
      subst e y
      refine ⟨rfl, yes_of ?_⟩
      refine ⟨_, rfl, _, rfl, by omega, by omega, ?_⟩
      rw [Int.toNat_natCast]
      refine ⟨fun j m' H' => m' + j = n ∧ Pv i j H', ⟨n, rfl, p⟩, fun j m' H2 ⟨em', p'⟩ => ?_⟩
      cases m' with
      | zero =>
        obtain rfl : j = n := by omega
        obtain ⟨ts, s1, e1, p1, q1⟩ := p'
        refine .inl ⟨Nat.le_refl _, ts, s1, e1, p1, ?_⟩
        rw [q1, rowsTo_succ]
        simp
      | succ m' =>
        refine .inr ⟨show j < n by omega, Pv i (j + 1), fun H' p' => ⟨m', Nat.lt_succ_self m', by omega, p'⟩, fun x H' y => ?_⟩
        obtain ⟨e, y⟩ := y
        subst e y
        refine ⟨rfl, yes_of ?_⟩
        obtain ⟨ts, s1, e1, p1, q1⟩ := p'
        refine ⟨_, rfl, _, rfl, by show 2 ≤ sizeLine; decide, fun t nt => ?_⟩
        have len : ts.length ≤ 64 := by
          have := congrArg List.length q1
          rw [List.length_map, List.length_append, rowsTo_len, List.length_map, List.length_range] at this
          have h1 : (i + 1) * n ≤ n * n := Nat.mul_le_mul_right n (by omega)
          have h2 : n * n ≤ 8 * 8 := Nat.mul_le_mul hn hn
          rw [Nat.succ_mul] at h1
          omega
        refine ⟨rfs ts, Same.put nt _ _ e1, by rw [rfs_len]; exact small_len (by omega), ts ++ [(t, i, j)], ?_, ?_, ?_, ?_⟩
        · exact Same.but (fun b u e => Same.put nt _ _ (s1 b u e)) nD
        · rw [upd_same, rfs_snoc]
        · have ne : ∀ b u, H' b = some u → u ≠ HO.lst (rfs ts) → b ≠ D := fun b u e z q => z (by rw [q, e1] at e; exact (Option.some.inj e).symm)
          refine Pts.snoc (fun u m => ?_) ?_
          · rw [upd_ne (ne _ _ (p1 u m) (by intro z; cases z))]
            exact Same.put nt _ _ (p1 u m)
          · have nDt : t ≠ D := fun z => by rw [z, e1] at nt; cases nt
            rw [upd_ne nDt, upd_same]
            simp
        · rw [List.map_append, q1, List.range_succ, List.map_append, List.append_assoc]
          rfl
end
end KD
set_option Elab.async false
set_option linter.all false
set_option maxRecDepth 100000
set_option maxHeartbeats 4000000
namespace KD
open PySem L2
/-! ### maps of states, each a tuple -/
def IsMap (n : Nat) (ws : List Nat) : Prop := ws.length = n ∧ ∀ x ∈ ws, x < n
def MapAt (n : Nat) (H : Hp) (t : Addr) (ws : List Nat) : Prop := H t = some (.tup (cV ws)) ∧ IsMap n ws
theorem MapAt.same {n : Nat} {H H' : Hp} {t : Addr} {ws : List Nat} (h : MapAt n H t ws) (s : Same H H') : MapAt n H' t ws := ⟨s _ _ h.1, h.2⟩
theorem MapAt.keep {n : Nat} {a : Addr} {H H' : Hp} {t : Addr} {ws : List Nat} (h : MapAt n H t ws) (k : Keep a H H') (p : PoolAt H a) : MapAt n H' t ws := ⟨k _ _ h.1 (p.ne h.1), h.2⟩
theorem rg_cV (n : Nat) : rgV 0 (n : Int) = cV (List.range n) := by
  unfold rgV
  rw [show ((n : Int) - 0).toNat = n by omega, cV]
  refine List.map_congr_left fun k hk => ?_
  rw [Int.zero_add]
theorem isMap_range (n : Nat) : IsMap n (List.range n) := ⟨List.length_range, fun x m => List.mem_range.mp m⟩
theorem isMap_perm {n : Nat} {ws us : List Nat} (h : IsMap n ws) (p : us.Perm ws) : IsMap n us := ⟨by rw [p.length_eq]; exact h.1, fun x m => h.2 x (p.mem_iff.mp m)⟩
theorem isMap_set {n : Nat} {ws : List Nat} (h : IsMap n ws) {i x : Nat} (hx : x < n) : IsMap n (ws.set i x) := ⟨by rw [List.length_set]; exact h.1, fun y m => by
  rcases List.mem_or_eq_of_mem_set m with m | rfl
  · exact h.2 y m
  · exact hx⟩
theorem iteA {c : Bool} {A B : Prop} (h1 : A) (h2 : B) : if c = true then A else B := iteB (fun _ => h1) fun _ => h2
theorem free_of {a : Addr} {H H' : Hp} {D : Addr} (k : Keep a H H') (ne : D ≠ a) (n : H' D = none) : H D = none := by
  cases e : H D with
  | none => rfl
  | some o => rw [k D o e ne] at n; cases n
/-- a map of n states, drawn -/
def spMap : Sp := fun vs H Q _ => ∃ (a : Addr) (n : Nat), vs = [.ref a, .int (n : Int)] ∧ PoolAt H a ∧ 1 ≤ n ∧ n ≤ 8 ∧ ∀ (t : Addr) (ws : List Nat) (H' : Hp), Keep a H H' → PoolAt H' a → MapAt n H' t ws → Q (.ref t) H'
section
variable {P : Program} {w : World} {K : PySem.W.Frag} {mg : Str → Option Value} {base : Heap} {C : Addr}
abbrev s_map : Stmt := top 47
abbrev nMa : List Str := ["_law_pool_here", "_law_size", "_law_way", "_law_led", "_law_s"]
theorem sc_map : FnScope nMa ["_law_pool_here", "_law_size"] (defScope s_map) := ⟨rfl, rfl, rfl, by decide +kernel, rfl, by decide +kernel, by decide +kernel⟩
theorem ok_map {f : Addr} {fd : FuncData} (F : Fun K "_law_map" "_law_map" s_map f fd) (T : Bm mg) (c_draw : Cal P w K mg base 1 "_law_draw" ["_law_pool_here", "_law_many"] spDraw)
    (c_turn : Cal P w K mg base 2 "_law_turned_about" ["_law_pool_here", "_law_things"] spTurnAbout) : FnOk P w K mg base CX0 3 f fd ["_law_pool_here", "_law_size"] spMap := by
  refine F.ok sc_map (fun vs H Q E h => ?_) (fun cdv A outer s H vs Q E hr h => ?_)
  · obtain ⟨a, n, rfl, _⟩ := h
    rfl
  · obtain ⟨a, n, rfl, hp, n1, n8, k⟩ := h
    refine ⟨_, (pss_cons (ps_set (i := 2) sc_map.nd rfl (Or.inl rfl) (pe_cal c_draw (hr.mono (by decide)) rfl (pa_cons (pv 0) (pa_cons pe_int pa_nil))))
      (pss_cons (ps_if (pt_cmpR op_eq (pv 2) pe_int (nomark _))
        (pss_one (ps_ret (pe_op (op_orR op_repT op_repT1) (pe_tup (pa_cons (pe_cal c_draw (hr.mono (by decide)) rfl (pa_cons (pv 0) (pa_cons (pv 1) pa_nil))) pa_nil)) (pv 1))))
        pss_nil)
      (pss_cons (ps_set (i := 3) sc_map.nd rfl (Or.inl rfl) (pe_listRg rfl (by rfl) T.n_list (prg_1 (by rfl) T.n_range (pv 1))))
      (pss_cons (ps_if (pt_cmpR op_eq (pv 2) pe_int (nomark _))
        (pss_one (ps_ret (pe_callTy call_tuple_of (by rfl) T.n_tuple (by decide +kernel) (pa_cons (pe_cal c_turn (hr.mono (by decide)) rfl (pa_cons (pv 0) (pa_cons (pv 3) pa_nil))) pa_nil))))
        pss_nil)
      (pss_cons (ps_if (pt_cmpR op_eq (pv 2) pe_int (nomark _))
        (pss_cons (ps_asg (pe_cal c_draw (hr.mono (by decide)) rfl (pa_cons (pv 0) (pa_cons (pv 1) pa_nil))) (pg_sub (pv 3) (pe_cal c_draw (hr.mono (by decide)) rfl (pa_cons (pv 0) (pa_cons (pv 1) pa_nil))) set_list))
          (pss_one (ps_ret (pe_callTy call_tuple_of (by rfl) T.n_tuple (by decide +kernel) (pa_cons (pv 3) pa_nil)))))
        pss_nil)
      (pss_one (ps_ret (pe_callTy call_tuple_of (by rfl) T.n_tuple (by decide +kernel) (pa_cons (pe_lc (own := [("_law_s", 4)]) rfl sc_map.nd (pi_list (pv 3)) (blkOk_by (N := nMa) (sc := defScope s_map) (by decide +kernel)) (fun _ _ _ _ _ => (pg_name (i := 4) sc_map.nd rfl (Or.inl rfl))) (fun _ _ _ _ _ => pts_nil)
        (fun _ _ _ _ _ => (pe_cal c_draw (hr.mono (by decide)) rfl (pa_cons (pv 0) (pa_cons (pv 1) pa_nil))))) pa_nil))))))))), ?_⟩
    refine ⟨_, rfl, a, 5, rfl, hp, by decide, by decide, fun y o y0 y1 ho => ?_⟩
    obtain ⟨p1, k1⟩ := drawn hp (Keep.refl a H) ho
    generalize (upd H a o) = H1 at p1 k1 ⊢
    refine ⟨_, rfl, rfl, _, rfl, iteA ?_ ?_⟩
    · refine ⟨_, rfl, _, rfl, a, (n : Int), rfl, p1, by omega, nsm (by omega), fun r o2 r0 r1 ho2 => ?_⟩
      obtain ⟨p2, k2⟩ := drawn p1 k1 ho2
      generalize (upd H1 a o2) = H2 at p2 k2 ⊢
      obtain ⟨r, rfl⟩ := nat_of r0
      refine ⟨by show 1 ≤ sizeLine; decide, fun t nt => ?_⟩
      have st := Same.put (o := .tup (cV [r])) nt
      have et : (upd H2 t (.tup (cV [r]))) t = some (.tup (cV [r])) := upd_same
      have p3 := p2.same st
      have k3 := k2.trans (Keep.of st)
      by_cases e1 : n = 1
      · subst e1
        exact ⟨_, rfl, .inr ⟨t, _, rfl, rfl, SqT.of et, k t [r] _ k3 p3 ⟨et, rfl, fun x m => by rw [List.mem_singleton.mp m]; omega⟩⟩⟩
      · refine ⟨_, rfl, .inl ⟨t, (n : Int), _, rfl, rfl, SqT.of et, by simp, by omega, by omega, by show 1 ≤ 1000; decide, fun u nu => ?_⟩⟩
        have er : (List.replicate (n : Int).toNat (cV [r])).flatten = cV (List.replicate n r) := by
          rw [Int.toNat_natCast, cV, cV, List.map_replicate]
          exact List.flatten_replicate_singleton
        rw [er]
        exact k u _ _ (k3.trans (Keep.of (Same.put nu))) (p3.new nu) ⟨upd_same, List.length_replicate, fun x m => by rw [List.eq_of_mem_replicate m]; omega⟩
    refine ⟨_, rfl, (n : Int), rfl, RgOk.of_le (by omega) (by omega) (by omega) (by omega), fun l nl => ?_⟩
    rw [rg_cV]
    have la := new_ne p1 nl
    have el : (upd H1 l (.lst (cV (List.range n)))) l = some (.lst (cV (List.range n))) := upd_same
    have p2 := p1.new (o := .lst (cV (List.range n))) nl
    have k2 := k1.trans (Keep.of (Same.put (o := .lst (cV (List.range n))) nl))
    have nlH := free_of k1 la nl
    generalize (upd H1 l (.lst (cV (List.range n)))) = H2 at el p2 k2 ⊢
    have tup : ∀ (ws : List Nat) (l' : Addr) (H' : Hp), Keep a H H' → PoolAt H' a → H' l' = some (.lst (cV ws)) → IsMap n ws → ∀ t, H' t = none → Q (.ref t) (upd H' t (.tup (cV ws))) := fun ws l' H' k' p' e' m' t nt =>
      k t ws _ (k'.trans (Keep.of (Same.put nt))) (p'.new nt) ⟨upd_same, m'⟩
    refine ⟨_, rfl, rfl, _, rfl, iteA ?_ ?_⟩
    · refine ⟨_, rfl, _, rfl, a, l, _, rfl, p2, by rw [List.length_map, List.length_range]; omega, el, fun r ys H3 k3 p3 ra nr er pm => ?_⟩
      obtain ⟨us, rfl, pu⟩ := perm_map pm
      exact ⟨r, _, rfl, .inl ⟨SqL.of er, tup us r H3 (k2.trans k3) p3 er (isMap_perm (isMap_range n) pu)⟩⟩
    refine ⟨_, rfl, rfl, _, rfl, iteA ?_ ?_⟩
    · refine ⟨_, rfl, _, rfl, a, (n : Int), rfl, p2, by omega, nsm (by omega), fun x o3 x0 x1 ho3 => ?_⟩
      obtain ⟨p3, k3⟩ := drawn p2 k2 ho3
      have e3 : (upd H2 a o3) l = some (.lst (cV (List.range n))) := by rw [upd_ne la]; exact el
      generalize (upd H2 a o3) = H3 at p3 k3 e3 ⊢
      obtain ⟨x, rfl⟩ := nat_of x0
      refine ⟨_, rfl, _, rfl, _, rfl, a, (n : Int), rfl, p3, by omega, nsm (by omega), fun i o4 i0 i1 ho4 => ?_⟩
      obtain ⟨p4, k4⟩ := drawn p3 k3 ho4
      have e4 : (upd H3 a o4) l = some (.lst (cV (List.range n))) := by rw [upd_ne la]; exact e3
      generalize (upd H3 a o4) = H4 at p4 k4 e4 ⊢
      obtain ⟨i, rfl⟩ := nat_of i0
      refine ⟨l, _, _, i, rfl, rfl, e4, ?_, ?_⟩
      · unfold ixN
        rw [if_pos (by omega), if_pos (by rw [List.length_map, List.length_range]; omega), Int.toNat_natCast]
      · have e1 : (cV (List.range n)).set i (V.int (x : Int)) = cV ((List.range n).set i x) := cV_set _ i x
        rw [e1]
        refine ⟨_, rfl, l, _, rfl, .inl ⟨SqL.of upd_same, ?_⟩⟩
        exact tup _ l _ (k4.but nlH) (p4.other (Ne.symm la)) upd_same (isMap_set (isMap_range n) (by omega))
    · refine ⟨_, rfl, l, rfl, ⟨_, SqL.of el⟩, fun D nD => ?_⟩
      have Da := new_ne p2 nD
      have nDH := free_of k2 Da nD
      refine lc_list (K := K) (a := l) (xs := cV (List.range n)) (fun i H' => Keep a H H' ∧ PoolAt H' a ∧ H' l = some (.lst (cV (List.range n))) ∧ D ≠ l ∧ ∃ ws : List Nat, H' D = some (.lst (cV ws)) ∧ ws.length = i ∧ ∀ x ∈ ws, x < n)
        ⟨k2.but nDH, p2.new nD, by rw [upd_ne (fun z => by rw [z, nD] at el; cases el)]; exact el, (fun z => by rw [z, el] at nD; cases nD), [], upd_same, rfl, fun _ m => (by cases m)⟩ (fun i H' _ h => SqL.of h.2.2.1) ?_ ?_
      · rintro i x H3 hx ⟨k3, p3, e3, Dl, ws, eD, lw, sw⟩
        have il := (List.getElem?_eq_some_iff.mp hx).1
        rw [List.length_map, List.length_range] at il
        refine ⟨rfl, yes_of ?_⟩
        refine ⟨_, rfl, _, rfl, a, (n : Int), rfl, p3, by omega, nsm (by omega), fun y o4 y0 y1 ho4 => ?_⟩
        obtain ⟨p4, k4⟩ := drawn p3 k3 ho4
        have e4 : (upd H3 a o4) l = some (.lst (cV (List.range n))) := by rw [upd_ne la]; exact e3
        have eD4 : (upd H3 a o4) D = some (.lst (cV ws)) := by rw [upd_ne Da]; exact eD
        generalize (upd H3 a o4) = H4 at p4 k4 e4 eD4 ⊢
        obtain ⟨y, rfl⟩ := nat_of y0
        refine ⟨_, eD4, by rw [List.length_map]; exact small_len (by omega), k4.but nDH, p4.other (Ne.symm Da), by rw [upd_ne (Ne.symm Dl)]; exact e4, Dl, ws ++ [y], by rw [upd_same, cV_snoc], by rw [List.length_append, lw]; rfl, fun z m => ?_⟩
        rcases List.mem_append.mp m with m | m
        · exact sw z m
        · rw [List.mem_singleton.mp m]; omega
      · rintro H3 ⟨k3, p3, e3, Dl, ws, eD, lw, sw⟩
        rw [List.length_map, List.length_range] at lw
        exact ⟨D, _, rfl, .inl ⟨SqL.of eD, tup ws D H3 k3 p3 eD ⟨lw, sw⟩⟩⟩
end
end KD
set_option Elab.async false
set_option linter.all false
set_option maxRecDepth 100000
set_option maxHeartbeats 4000000
namespace KD
open PySem L2
def MapsIn (n : Nat) (H : Hp) (ts : List (Addr × List Nat)) : Prop := ∀ t ∈ ts, MapAt n H t.1 t.2
theorem MapsIn.same {n : Nat} {H H' : Hp} {ts : List (Addr × List Nat)} (h : MapsIn n H ts) (s : Same H H') : MapsIn n H' ts := fun t m => (h t m).same s
theorem MapsIn.keep {n : Nat} {a : Addr} {H H' : Hp} {ts : List (Addr × List Nat)} (h : MapsIn n H ts) (k : Keep a H H') (p : PoolAt H a) : MapsIn n H' ts := fun t m => (h t m).keep k p
theorem MapsIn.lstU {n : Nat} {H : Hp} {D : Addr} {ys : List V} {ts : List (Addr × List Nat)} {o : HO} (h : MapsIn n H ts) (e : H D = some (.lst ys)) : MapsIn n (upd H D o) ts := fun t m => ⟨by rw [upd_ne (fun z => by have := (h t m).1; rw [z, e] at this; cases this)]; exact (h t m).1, (h t m).2⟩
theorem MapsIn.snoc {n : Nat} {H : Hp} {ts : List (Addr × List Nat)} {t : Addr × List Nat} (h : MapsIn n H ts) (e : MapAt n H t.1 t.2) : MapsIn n H (ts ++ [t]) := fun u m => by
  rcases List.mem_append.mp m with m | m
  · exact h u m
  · rw [List.mem_singleton.mp m]; exact e
theorem ixN_nat {n j : Nat} (h : j < n) : ixN n (j : Int) = some j := by
  unfold ixN
  rw [if_pos (by omega), if_pos (by omega), Int.toNat_natCast]
/-- two maps in a list -/
def spRing : Sp := fun vs H Q _ => ∃ (a : Addr) (n : Nat), vs = [.ref a, .int (n : Int)] ∧ PoolAt H a ∧ 1 ≤ n ∧ n ≤ 8 ∧ ∀ (l : Addr) (ts : List (Addr × List Nat)) (H' : Hp), Keep a H H' → PoolAt H' a → l ≠ a → H' l = some (.lst (rfs ts)) → MapsIn n H' ts → 1 ≤ ts.length → ts.length ≤ 4 → Q (.ref l) H'
section
variable {P : Program} {w : World} {K : PySem.W.Frag} {mg : Str → Option Value} {base : Heap} {C : Addr}
abbrev s_ring : Stmt := top 51
theorem sc_ring : FnScope ["_law_pool_here", "_law_size", "_law_names", "_law_led", "_law_k", "_law_one"] ["_law_pool_here", "_law_size"] (defScope s_ring) := ⟨rfl, rfl, rfl, by decide +kernel, rfl, by decide +kernel, by decide +kernel⟩
theorem ok_ring {f : Addr} {fd : FuncData} (F : Fun K "_law_ring" "_law_ring" s_ring f fd) (T : Bm mg)
    (c_turn : Cal P w K mg base 2 "_law_turned_about" ["_law_pool_here", "_law_things"] spTurnAbout) : FnOk P w K mg base CX0 3 f fd ["_law_pool_here", "_law_size"] spRing := by
  refine F.ok sc_ring (fun vs H Q E h => ?_) (fun cdv A outer s H vs Q E hr h => ?_)
  · obtain ⟨a, n, rfl, _⟩ := h
    rfl
  · obtain ⟨a, n, rfl, hp, n1, n8, k⟩ := h
    refine ⟨_, (pss_cons (ps_set (i := 2) sc_ring.nd rfl (Or.inl rfl) (pe_cal c_turn (hr.mono (by decide)) rfl (pa_cons (pv 0) (pa_cons (pe_listRg rfl (by rfl) T.n_list (prg_1 (by rfl) T.n_range (pv 1))) pa_nil))))
      (pss_cons (ps_set (i := 3) sc_ring.nd rfl (Or.inl rfl) (pe_listRg rfl (by rfl) T.n_list (prg_1 (by rfl) T.n_range (pv 1))))
      (pss_cons (ps_for PassesOwn.never rfl (pi_range1 (by rfl) T.n_range (pa_cons (pv 1) pa_nil)) (pg_name (i := 4) sc_ring.nd rfl (Or.inl rfl))
        (pss_one (ps_asg (pe_ix ix_list (pv 2) (pe_op op_modN (pe_callTy call_int1 (by rfl) T.b.n_int (by decide +kernel) (pa_cons (pe_op op_add (pv 4) pe_int) pa_nil)) (pv 1)) (fun _ _ => rfl)) (pg_sub (pv 3) (pe_ix ix_list (pv 2) (pv 4) (fun _ _ => rfl)) set_list))))
      (pss_cons (ps_set (i := 5) sc_ring.nd rfl (Or.inl rfl) (pe_listRg rfl (by rfl) T.n_list (prg_1 (by rfl) T.n_range (pv 1))))
      (pss_cons (ps_asg (pe_ix ix_list (pv 2) pe_int (fun _ _ => rfl)) (pg_sub (pv 5) (pe_ix ix_list (pv 2) (pe_op op_sub (pv 1) pe_int) (fun _ _ => rfl)) set_list))
      (pss_one (ps_ret (pe_lst (pa_cons (pe_callTy call_tuple_of (by rfl) T.n_tuple (by decide +kernel) (pa_cons (pv 3) pa_nil)) (pa_cons (pe_callTy call_tuple_of (by rfl) T.n_tuple (by decide +kernel) (pa_cons (pv 5) pa_nil)) pa_nil)))))))))), ?_⟩
    refine ⟨_, rfl, _, rfl, (n : Int), rfl, RgOk.of_le (by omega) (by omega) (by omega) (by omega), fun l0 nl0 => ?_⟩
    rw [rg_cV]
    have e0 : (upd H l0 (.lst (cV (List.range n)))) l0 = some (.lst (cV (List.range n))) := upd_same
    have p0 := hp.new (o := .lst (cV (List.range n))) nl0
    have k0 := Keep.of (a := a) (Same.put (o := .lst (cV (List.range n))) nl0)
    generalize (upd H l0 (.lst (cV (List.range n)))) = H0 at e0 p0 k0 ⊢
    refine ⟨a, l0, _, rfl, p0, by rw [List.length_map, List.length_range]; omega, e0, fun r ys H1 k1 p1 ra nr er pm => ?_⟩
    obtain ⟨us, rfl, pu⟩ := perm_map pm
    have mu := isMap_perm (isMap_range n) pu
    have k01 := k0.trans k1
    refine ⟨_, rfl, (n : Int), rfl, RgOk.of_le (by omega) (by omega) (by omega) (by omega), fun l nl => ?_⟩
    rw [rg_cV]
    have la := new_ne p1 nl
    have rl : r ≠ l := fun z => by rw [z, nl] at er; cases er
    have el : (upd H1 l (.lst (cV (List.range n)))) l = some (.lst (cV (List.range n))) := upd_same
    have er2 : (upd H1 l (.lst (cV (List.range n)))) r = some (.lst (cV us)) := by rw [upd_ne rl]; exact er
    have p2 := p1.new (o := .lst (cV (List.range n))) nl
    have k02 := k01.trans (Keep.of (Same.put (o := .lst (cV (List.range n))) nl))
    have nlH := free_of k01 la nl
    generalize (upd H1 l (.lst (cV (List.range n)))) = H2 at el er2 p2 k02 ⊢
    refine ⟨_, rfl, _, rfl, by omega, by omega, ?_⟩
    rw [Int.toNat_natCast]
    refine for_range (fun i σ H' => ∃ (v4 : Option V) (ws : List Nat), σ = [some (.ref a), some (.int (n : Int)), some (.ref r), some (.ref l), v4, none] ∧ Keep a H H' ∧ PoolAt H' a ∧ H' r = some (.lst (cV us)) ∧ H' l = some (.lst (cV ws)) ∧ IsMap n ws) ⟨none, _, rfl, k02, p2, er2, el, isMap_range n⟩ ?_ ?_
    · rintro i σ H3 hi ⟨v4, ws, rfl, k3, p3, er3, el3, mw⟩
      rw [Int.zero_add]
      have hm : (i + 1) % n < n := Nat.mod_lt _ (by omega)
      have g1 : us[(i + 1) % n]? = some (us[(i + 1) % n]'(by rw [mu.1]; exact hm)) := List.getElem?_eq_getElem _
      have g0 : us[i]? = some (us[i]'(by rw [mu.1]; exact hi)) := List.getElem?_eq_getElem _
      have b1 := mu.2 _ (List.mem_of_getElem? g1)
      have b0 := mu.2 _ (List.mem_of_getElem? g0)
      generalize us[(i + 1) % n]'(by rw [mu.1]; exact hm) = x at g1 b1
      generalize us[i]'(by rw [mu.1]; exact hi) = y at g0 b0
      have fm : ((i : Int) + 1).fmod (n : Int) = (((i + 1) % n : Nat) : Int) := by rw [Int.fmod_eq_emod_of_nonneg _ (by omega)]; rfl
      refine ⟨_, rfl, _, rfl, (i : Int), 1, rfl, rfl, .inl ⟨_, rfl, _, rfl, _, (n : Int), rfl, rfl, by omega, ?_⟩⟩
      dsimp only
      rw [fm]
      refine ⟨r, _, _, _, rfl, rfl, SqL.of er3, atI_nat (cV_at g1), ?_⟩
      refine ⟨_, rfl, _, rfl, _, rfl, r, _, _, _, rfl, rfl, SqL.of er3, atI_nat (cV_at g0), ?_⟩
      refine ⟨l, _, _, y, rfl, rfl, el3, ixN_nat (by rw [List.length_map, mw.1]; exact b0), ?_⟩
      have e1 : (cV ws).set y (V.int (x : Int)) = cV (ws.set y x) := cV_set _ y x
      rw [e1]
      exact ⟨_, _, rfl, k3.but nlH, p3.other (Ne.symm la), by rw [upd_ne rl]; exact er3, upd_same, isMap_set mw b1⟩
    · rintro σ H3 ⟨v4, ws, rfl, k3, p3, er3, el3, mw⟩
      refine ⟨_, rfl, (n : Int), rfl, RgOk.of_le (by omega) (by omega) (by omega) (by omega), fun m nm => ?_⟩
      rw [rg_cV]
      have ma := new_ne p3 nm
      have rm : r ≠ m := fun z => by rw [z, nm] at er3; cases er3
      have lm : l ≠ m := fun z => by rw [z, nm] at el3; cases el3
      have em : (upd H3 m (.lst (cV (List.range n)))) m = some (.lst (cV (List.range n))) := upd_same
      have er4 : (upd H3 m (.lst (cV (List.range n)))) r = some (.lst (cV us)) := by rw [upd_ne rm]; exact er3
      have el4 : (upd H3 m (.lst (cV (List.range n)))) l = some (.lst (cV ws)) := by rw [upd_ne lm]; exact el3
      have p4 := p3.new (o := .lst (cV (List.range n))) nm
      have k4 := k3.trans (Keep.of (Same.put (o := .lst (cV (List.range n))) nm))
      have nmH := free_of k3 ma nm
      generalize (upd H3 m (.lst (cV (List.range n)))) = H4 at em er4 el4 p4 k4 ⊢
      have g0 : us[0]? = some (us[0]'(by rw [mu.1]; exact n1)) := List.getElem?_eq_getElem _
      have gl : us[n - 1]? = some (us[n - 1]'(by rw [mu.1]; omega)) := List.getElem?_eq_getElem _
      have b0 := mu.2 _ (List.mem_of_getElem? g0)
      have bl := mu.2 _ (List.mem_of_getElem? gl)
      generalize us[0]'(by rw [mu.1]; exact n1) = x at g0 b0
      generalize us[n - 1]'(by rw [mu.1]; omega) = y at gl bl
      refine ⟨_, rfl, r, _, _, _, rfl, rfl, SqL.of er4, atI_nat (j := 0) (cV_at g0), ?_⟩
      refine ⟨_, rfl, _, rfl, _, rfl, (n : Int), 1, rfl, rfl, r, _, _, _, rfl, rfl, SqL.of er4, (by rw [show (n : Int) - 1 = ((n - 1 : Nat) : Int) by omega]; exact atI_nat (cV_at gl)), ?_⟩
      refine ⟨m, _, _, y, rfl, rfl, em, ixN_nat (by rw [List.length_map, List.length_range]; exact bl), ?_⟩
      have e1 : (cV (List.range n)).set y (V.int (x : Int)) = cV ((List.range n).set y x) := cV_set _ y x
      rw [e1]
      have m1 : IsMap n ((List.range n).set y x) := isMap_set (isMap_range n) b0
      have em5 : (upd H4 m (.lst (cV ((List.range n).set y x)))) m = some (.lst (cV ((List.range n).set y x))) := upd_same
      have el5 : (upd H4 m (.lst (cV ((List.range n).set y x)))) l = some (.lst (cV ws)) := by rw [upd_ne lm]; exact el4
      have p5 : PoolAt (upd H4 m (.lst (cV ((List.range n).set y x)))) a := p4.other (Ne.symm ma)
      have k5 : Keep a H (upd H4 m (.lst (cV ((List.range n).set y x)))) := k4.but nmH
      generalize (List.range n).set y x = us2 at m1 em5 el5 p5 k5
      generalize (upd H4 m (.lst (cV us2))) = H5 at em5 el5 p5 k5 ⊢
      refine ⟨_, rfl, l, _, rfl, .inl ⟨SqL.of el5, fun t nt => ?_⟩⟩
      have st := Same.put (o := .tup (cV ws)) nt
      have et : MapAt n (upd H5 t (.tup (cV ws))) t ws := ⟨upd_same, mw⟩
      have em6 := st _ _ em5
      have p6 := p5.same st
      have k6 := k5.trans (Keep.of st)
      generalize (upd H5 t (.tup (cV ws))) = H6 at et em6 p6 k6 ⊢
      refine ⟨_, rfl, m, _, rfl, .inl ⟨SqL.of em6, fun u nu => ?_⟩⟩
      have su := Same.put (o := .tup (cV us2)) nu
      have eu : MapAt n (upd H6 u (.tup (cV us2))) u us2 := ⟨upd_same, m1⟩
      have et7 := et.same su
      have p7 := p6.same su
      have k7 := k6.trans (Keep.of su)
      generalize (upd H6 u (.tup (cV us2))) = H7 at eu et7 p7 k7 ⊢
      refine ⟨by show 2 ≤ sizeLine; decide, fun z nz => ?_⟩
      have sz := Same.put (o := .lst (rfs [(t, ws), (u, us2)])) nz
      exact k z [(t, ws), (u, us2)] _ (k7.trans (Keep.of sz)) (p7.same sz) (new_ne p7 nz) upd_same (fun v mv => by
        rcases List.mem_cons.mp mv with rfl | mv
        · exact et7.same sz
        · rw [List.mem_singleton.mp mv]; exact eu.same sz) (by show 1 ≤ 2; omega) (by show 2 ≤ 4; omega)
end
end KD
set_option Elab.async false
set_option linter.all false
set_option maxRecDepth 100000
set_option maxHeartbeats 4000000
namespace KD
open PySem L2
theorem un65 {k : Nat} {A : Around} (r : Room k A) : A.units + 65 < cLine := by
  have := r.un
  omega
abbrev iW (ws : List Nat) : List Int := ws.map fun k : Nat => (k : Int)
/-! ### tuples of ints as data -/
def dI (ns : List Int) : PyData := .tuple (ns.map PyData.int)
theorem eqvAll_ints : ∀ ns ms : List Int, PyData.eqvAll (ns.map PyData.int) (ms.map PyData.int) = decide (ns = ms)
  | [], [] => rfl
  | [], _ :: _ => rfl
  | _ :: _, [] => rfl
  | a :: ns, b :: ms => by
    show (PyData.eqv (.int a) (.int b) && PyData.eqvAll (ns.map PyData.int) (ms.map PyData.int)) = _
    rw [eqvAll_ints ns ms, Bool.eq_iff_iff, Bool.and_eq_true, decide_eq_true_eq, decide_eq_true_eq, List.cons.injEq]
    have e : PyData.eqv (.int a) (.int b) = (a == b) := by simp [PyData.eqv]
    rw [e, beq_iff_eq]
theorem eqv_dI (ns ms : List Int) : PyData.eqv (dI ns) (dI ms) = decide (ns = ms) := by
  unfold dI
  rw [PyData.eqv]
  exact eqvAll_ints ns ms
theorem lay_ints : ∀ ns : List Int, PyData.canLayAll0 (ns.map PyData.int) = true ∧ PyData.depthAll (ns.map PyData.int) = 0
  | [] => ⟨rfl, rfl⟩
  | a :: ns => by
    obtain ⟨h1, h2⟩ := lay_ints ns
    refine ⟨?_, ?_⟩
    · show ((PyData.int a).canLay0 && PyData.canLayAll0 (ns.map PyData.int)) = true
      rw [h1]
      rfl
    · show max (PyData.depth (.int a)) (PyData.depthAll (ns.map PyData.int)) = 0
      rw [h2]
      rfl
theorem lay_dI (ns : List Int) : (dI ns).canLay0 = true ∧ (dI ns).depth = 1 := by
  obtain ⟨h1, h2⟩ := lay_ints ns
  exact ⟨h1, by show PyData.depthAll (ns.map PyData.int) + 1 = 1; rw [h2]⟩
theorem lay_dIs : ∀ L : List (List Int), PyData.canLayAll0 (L.map dI) = true ∧ PyData.depthAll (L.map dI) ≤ 1
  | [] => ⟨rfl, Nat.zero_le _⟩
  | a :: L => by
    obtain ⟨h1, h2⟩ := lay_dIs L
    obtain ⟨h3, h4⟩ := lay_dI a
    refine ⟨?_, ?_⟩
    · show ((dI a).canLay0 && PyData.canLayAll0 (L.map dI)) = true
      rw [h1, h3]
      rfl
    · show max (dI a).depth (PyData.depthAll (L.map dI)) ≤ 1
      omega
theorem sh_dI (ns : List Int) : SeqAt.shaped (dI ns) = true := by
  obtain ⟨h1, h2⟩ := lay_dI ns
  unfold SeqAt.shaped
  rw [h1, h2]
  rfl
theorem sh_list (L : List (List Int)) : SeqAt.shaped (.list (L.map dI)) = true := by
  obtain ⟨h1, h2⟩ := lay_dIs L
  unfold SeqAt.shaped
  rw [Bool.and_eq_true, decide_eq_true_eq]
  refine ⟨h1, ?_⟩
  show PyData.depthAll (L.map dI) + 1 ≤ 64
  omega
theorem dp_ints {K : PySem.W.Frag} {H : Hp} : ∀ ns : List Int, DpAll K H (ns.map V.int) (ns.map PyData.int)
  | [] => .nil
  | a :: ns => .cons (.int a) (dp_ints ns)
theorem dp_tup {K : PySem.W.Frag} {H : Hp} {a : Addr} {ns : List Int} (h : SqT K H a (ns.map V.int)) : Dp K H (.ref a) (dI ns) := .tup h (dp_ints ns)
theorem iW_inj {a b : List Nat} (h : iW a = iW b) : a = b := by
  have := congrArg (List.map Int.toNat) h
  rw [List.map_map, List.map_map] at this
  have e : (Int.toNat ∘ fun k : Nat => (k : Int)) = id := by
    funext k
    exact Int.toNat_natCast k
  rw [e, List.map_id, List.map_id] at this
  exact this
theorem dp_tupN {K : PySem.W.Frag} {H : Hp} {a : Addr} {ws : List Nat} (h : SqT K H a (cV ws)) : Dp K H (.ref a) (dI (iW ws)) := dp_tup (by rw [← cV_ints]; exact h)
theorem Tups.dp {K : PySem.W.Frag} {H : Hp} : ∀ {ts : List (Addr × List Nat)}, (∀ r ∈ ts, H r.1 = some (.tup (cV r.2))) → DpAll K H (rfs ts) (((ts.map (·.2)).map iW).map dI)
  | [], _ => .nil
  | t :: ts, h => .cons (dp_tupN (SqT.of (h t List.mem_cons_self))) (Tups.dp fun u m => h u (List.mem_cons_of_mem _ m))
theorem any_dN (ws : List Nat) : ∀ Ls : List (List Nat), ((Ls.map iW).map dI).any (fun z => PyData.eqv z (dI (iW ws))) = decide (ws ∈ Ls)
  | [] => rfl
  | q :: Ls => by
    rw [List.map_cons, List.map_cons, List.any_cons, any_dN ws Ls, eqv_dI, Bool.eq_iff_iff, Bool.or_eq_true, decide_eq_true_eq, decide_eq_true_eq, decide_eq_true_eq, List.mem_cons]
    exact or_congr ⟨fun h => (iW_inj h).symm, fun h => by rw [h]⟩ Iff.rfl
end KD
set_option Elab.async false
set_option linter.all false
set_option maxRecDepth 100000
set_option maxHeartbeats 4000000
namespace KD
open PySem L2
/-- a part: a number over a map -/
abbrev Prt := Addr × (Nat × (Addr × List Nat))
def PrtAt (n : Nat) (H : Hp) (t : Prt) : Prop := H t.1 = some (.tup [.int (t.2.1 : Int), .ref t.2.2.1]) ∧ MapAt n H t.2.2.1 t.2.2.2 ∧ 1 ≤ t.2.1 ∧ t.2.1 ≤ 4
def PrtsIn (n : Nat) (H : Hp) (ts : List Prt) : Prop := ∀ t ∈ ts, PrtAt n H t
abbrev mps (ts : List Prt) : List (List Nat) := ts.map fun t => t.2.2.2
abbrev mpA (ts : List Prt) : List (Addr × List Nat) := ts.map fun t => t.2.2
theorem PrtAt.same {n : Nat} {H H' : Hp} {t : Prt} (h : PrtAt n H t) (s : Same H H') : PrtAt n H' t := ⟨s _ _ h.1, h.2.1.same s, h.2.2⟩
theorem PrtAt.keep {n : Nat} {a : Addr} {H H' : Hp} {t : Prt} (h : PrtAt n H t) (k : Keep a H H') (p : PoolAt H a) : PrtAt n H' t := ⟨k _ _ h.1 (p.ne h.1), h.2.1.keep k p, h.2.2⟩
theorem PrtAt.lstU {n : Nat} {H : Hp} {D : Addr} {ys : List V} {t : Prt} {o : HO} (h : PrtAt n H t) (e : H D = some (.lst ys)) : PrtAt n (upd H D o) t := ⟨by rw [upd_ne (fun z => by have := h.1; rw [z, e] at this; cases this)]; exact h.1, ⟨by rw [upd_ne (fun z => by have := h.2.1.1; rw [z, e] at this; cases this)]; exact h.2.1.1, h.2.1.2⟩, h.2.2⟩
theorem PrtsIn.same {n : Nat} {H H' : Hp} {ts : List Prt} (h : PrtsIn n H ts) (s : Same H H') : PrtsIn n H' ts := fun t m => (h t m).same s
theorem PrtsIn.keep {n : Nat} {a : Addr} {H H' : Hp} {ts : List Prt} (h : PrtsIn n H ts) (k : Keep a H H') (p : PoolAt H a) : PrtsIn n H' ts := fun t m => (h t m).keep k p
theorem PrtsIn.lstU {n : Nat} {H : Hp} {D : Addr} {ys : List V} {ts : List Prt} {o : HO} (h : PrtsIn n H ts) (e : H D = some (.lst ys)) : PrtsIn n (upd H D o) ts := fun t m => (h t m).lstU e
theorem PrtsIn.snoc {n : Nat} {H : Hp} {ts : List Prt} {t : Prt} (h : PrtsIn n H ts) (e : PrtAt n H t) : PrtsIn n H (ts ++ [t]) := fun u m => by
  rcases List.mem_append.mp m with m | m
  · exact h u m
  · rw [List.mem_singleton.mp m]; exact e
/-- what the drawn parts are -/
def spPrts (Q : VK) (H : Hp) (a : Addr) (n : Nat) : Prop := ∀ (l : Addr) (ts : List Prt) (H' : Hp), Keep a H H' → PoolAt H' a → l ≠ a → H' l = some (.lst (rfs ts)) → PrtsIn n H' ts → (mps ts).Nodup → 1 ≤ ts.length → ts.length ≤ 4 → Q (.ref l) H'
def spWeighed : Sp := fun vs H Q _ => ∃ (a l : Addr) (n : Nat) (ms : List (Addr × List Nat)), vs = [.ref a, .ref l] ∧ PoolAt H a ∧ l ≠ a ∧ H l = some (.lst (rfs ms)) ∧ MapsIn n H ms ∧ 1 ≤ ms.length ∧ ms.length ≤ 4 ∧ spPrts Q H a n
def spInHalf : Sp := fun vs H Q _ => ∃ (a l : Addr) (hs : List Nat) (h : Int) (st n : Nat), vs = [.ref a, .ref l, .int h, .int (st : Int)] ∧ PoolAt H a ∧ l ≠ a ∧ H l = some (.lst (cV hs)) ∧ hs.length = n ∧ st < n ∧ n ≤ 8 ∧ ∀ (r : Nat) (H' : Hp), Keep a H H' → PoolAt H' a → r < n → Q (.int (r : Int)) H'
section
variable {P : Program} {w : World} {K : PySem.W.Frag} {mg : Str → Option Value} {base : Heap} {C : Addr}
abbrev s_in_half : Stmt := top 53
abbrev nIH : List Str := ["_law_pool_here", "_law_halves", "_law_half", "_law_s", "_law_goals", "_law_t"]
theorem sc_in_half : FnScope nIH ["_law_pool_here", "_law_halves", "_law_half", "_law_s"] (defScope s_in_half) := ⟨rfl, rfl, rfl, by decide +kernel, rfl, by decide +kernel, by decide +kernel⟩
theorem ok_in_half {f : Addr} {fd : FuncData} (F : Fun K "_law_in_half" "_law_in_half" s_in_half f fd) (T : Bm mg)
    (c_pick : Cal P w K mg base 2 "_law_pick" ["_law_pool_here", "_law_things"] spPickQ) : FnOk P w K mg base CX0 3 f fd ["_law_pool_here", "_law_halves", "_law_half", "_law_s"] spInHalf := by
  refine F.ok sc_in_half (fun vs H Q E h => ?_) (fun cdv A outer s H vs Q E hr h => ?_)
  · obtain ⟨a, l, hs, h, st, n, rfl, _⟩ := h
    rfl
  · obtain ⟨a, l, hs, h, st, n, rfl, hp, la, el, lh, ln, n8, k⟩ := h
    refine ⟨_, (pss_cons (ps_setLc (i := 4) (own := [("_law_t", 5)]) rfl sc_in_half.nd rfl rfl (sw_true rfl rfl rfl (by decide +kernel)) (pi_range1 (by rfl) T.n_range (pa_cons (pe_callB call_len_seq (by rfl) T.b.n_len PySem.boot_len (pa_cons (pv 1) pa_nil)) pa_nil)) (blkOk_by (N := nIH) (sc := defScope s_in_half) (by decide +kernel)) (fun _ _ _ _ _ => (pg_name (i := 5) sc_in_half.nd rfl (Or.inl rfl)))
        (fun _ _ _ _ _ => (pts_one (pt_cmpR op_eq (pe_ix (show IxR _ (rIxL K) from ix_list) (pv 1) (pv 5) (fun _ _ => rfl)) (pv 2) (nomark _)))) (fun _ _ _ _ _ => (pv 5)))
      (pss_cons (ps_if (pt_cmpR op_eq (pe_callB call_len_seq (by rfl) T.b.n_len PySem.boot_len (pa_cons (pv 4) pa_nil)) pe_int (nomark _))
        (pss_one (ps_ret (pv 3)))
        pss_nil)
      (pss_one (ps_ret (pe_cal c_pick (hr.mono (by decide)) rfl (pa_cons (pv 0) (pa_cons (pv 4) pa_nil))))))), ?_⟩
    have lenl : (cV hs).length = n := by rw [List.length_map, lh]
    refine ⟨_, rfl, l, _, rfl, .inl (SqL.of el), _, rfl, by rw [lenl]; omega, by rw [lenl]; omega, fun D nD => ?_⟩
    rw [lenl, Int.toNat_natCast]
    have Da := new_ne hp nD
    have lD : l ≠ D := fun z => by rw [z, nD] at el; cases el
    refine lc_range (fun i H' => Same H H' ∧ ∃ gs : List Nat, H' D = some (.lst (cV gs)) ∧ gs.length ≤ i ∧ ∀ x ∈ gs, x < n) ⟨Same.put nD, [], upd_same, Nat.le_refl _, fun _ m => (by cases m)⟩ ?_ ?_
    · rintro i H' hi ⟨s1, gs, eD, lg, bg⟩
      rw [Int.zero_add]
      refine ⟨rfl, ?_⟩
      have gi : hs[i]? = some (hs[i]'(by omega)) := List.getElem?_eq_getElem _
      refine ⟨_, rfl, _, rfl, l, _, _, _, rfl, rfl, SqL.of (s1 _ _ el), atI_nat (cV_at gi), _, rfl, rfl, _, rfl, iteA ?_ ⟨s1, gs, eD, by omega, bg⟩⟩
      refine ⟨_, rfl, _, eD, by rw [List.length_map]; exact small_len (by omega), Same.but s1 nD, gs ++ [i], by rw [upd_same, cV_snoc], by rw [List.length_append]; show gs.length + 1 ≤ i + 1; omega, fun x m => ?_⟩
      rcases List.mem_append.mp m with m | m
      · exact bg x m
      · rw [List.mem_singleton.mp m]; exact hi
    · rintro H1 ⟨s1, gs, eD, lg, bg⟩
      have p1 := hp.same s1
      refine ⟨_, rfl, D, _, rfl, .inl (SqL.of eD), rfl, _, rfl, iteB (fun z => ?_) (fun z => ?_)⟩
      · exact ⟨_, rfl, k st H1 (Keep.of s1) p1 ln⟩
      · have pos : 0 < gs.length := by
          rcases Nat.eq_zero_or_pos gs.length with q | q
          · rw [List.length_map, q] at z; cases z
          · exact q
        refine ⟨_, rfl, _, rfl, a, D, cV gs, rfl, p1, .inl eD, Da, by rw [List.length_map]; exact pos, by rw [List.length_map]; omega, fun x o mx ho => ?_⟩
        obtain ⟨y, my, rfl⟩ := List.mem_map.mp mx
        obtain ⟨p2, k2⟩ := drawn p1 (Keep.of (a := a) s1) ho
        exact k y _ k2 p2 (bg y my)
end
end KD
set_option Elab.async false
set_option linter.all false
set_option maxRecDepth 100000
set_option maxHeartbeats 4000000
namespace KD
open PySem L2
theorem iteFe {c : Bool} {A D : Prop} (e : c = false) (h : D) : if c = true then A else D := by
  rw [e]
  exact h
theorem prs_mp {n : Nat} {H : Hp} {ts : List Prt} (h : PrtsIn n H ts) : ∀ r ∈ mpA ts, H r.1 = some (.tup (cV r.2)) := fun r m => by
  obtain ⟨t, mt, rfl⟩ := List.mem_map.mp m
  exact (h t mt).2.1.1
section
variable {P : Program} {w : World} {K : PySem.W.Frag} {mg : Str → Option Value} {base : Heap} {C : Addr}
abbrev s_weighed : Stmt := top 52
abbrev nWe : List Str := ["_law_pool_here", "_law_maps", "_law_found", "_law_led", "_law_part"]
theorem sc_weighed : FnScope nWe ["_law_pool_here", "_law_maps"] (defScope s_weighed) := ⟨rfl, rfl, rfl, by decide +kernel, rfl, by decide +kernel, by decide +kernel⟩
theorem ok_weighed {f : Addr} {fd : FuncData} (F : Fun K "_law_weighed" "_law_weighed" s_weighed f fd) (T : Bm mg) (c_draw : Cal P w K mg base 1 "_law_draw" ["_law_pool_here", "_law_many"] spDraw) : FnOk P w K mg base CX0 2 f fd ["_law_pool_here", "_law_maps"] spWeighed := by
  refine F.ok sc_weighed (fun vs H Q E h => ?_) (fun cdv A outer s H vs Q E hr h => ?_)
  · obtain ⟨a, l, n, ms, rfl, _⟩ := h
    rfl
  · obtain ⟨a, l, n, ms, rfl, hp, la, el, mi, m1, m4, k⟩ := h
    refine ⟨_, (pss_cons (ps_set (i := 2) sc_weighed.nd rfl (Or.inl rfl) (pe_lst pa_nil))
      (pss_cons (ps_for PassesOwn.never rfl (pi_list (pv 1)) (pg_name (i := 3) sc_weighed.nd rfl (Or.inl rfl))
        (pss_one (ps_if (pt_cmpR (show OpR _ _ (rNotInD K) from op_notInD (un65 hr)) (pv 3) (pe_lc (own := [("_law_part", 4)]) rfl sc_weighed.nd (pi_list (pv 2)) (blkOk_by (N := nWe) (sc := defScope s_weighed) (by decide +kernel)) (fun _ _ _ _ _ => (pg_name (i := 4) sc_weighed.nd rfl (Or.inl rfl))) (fun _ _ _ _ _ => pts_nil)
            (fun _ _ _ _ _ => (pe_ix (show IxR _ (rIx K) from ix_seq) (pv 4) pe_int (fun _ _ => rfl)))) (by rfl))
          (pss_one (ps_expr (pe_bm PySem.F.plainAttrs_list PySem.F.slot_list_append PySem.F.type_list_append mt_append (pv 2) (pa_cons (pe_tup (pa_cons (pe_op op_add pe_int (pe_cal c_draw (hr.mono (by decide)) rfl (pa_cons (pv 0) (pa_cons pe_int pa_nil)))) (pa_cons (pv 3) pa_nil))) pa_nil))))
          pss_nil)))
      (pss_one (ps_ret (pv 2))))), ?_⟩
    refine ⟨by show 0 ≤ sizeLine; decide, fun g ng => ?_⟩
    have ga := new_ne hp ng
    have eg : (upd H g (.lst [])) g = some (.lst (rfs ([] : List Prt))) := upd_same
    have s0 := Same.put (o := .lst []) ng
    have p0 := hp.same s0
    have k0 := Keep.of (a := a) s0
    have gl : g ≠ l := fun z => by rw [z, el] at ng; cases ng
    have el0 := s0 _ _ el
    have mi0 := mi.same s0
    generalize (upd H g (.lst [])) = H0 at eg p0 k0 el0 mi0 ⊢
    refine ⟨_, rfl, l, rfl, ⟨_, SqL.of el0⟩, ?_⟩
    refine for_it (walk_list (K := K) (a := l) (xs := rfs ms)) (fun i σ H' => ∃ (v3 : Option V) (ts : List Prt), σ = [some (.ref a), some (.ref l), some (.ref g), v3, none] ∧ Keep a H H' ∧ PoolAt H' a ∧ H' l = some (.lst (rfs ms)) ∧ MapsIn n H' ms ∧ H' g = some (.lst (rfs ts)) ∧ PrtsIn n H' ts ∧ (mps ts).Nodup ∧ ts.length ≤ i ∧ (1 ≤ i → 1 ≤ ts.length))
      ⟨none, [], rfl, k0, p0, el0, mi0, eg, fun _ m => (by cases m), List.nodup_nil, Nat.le_refl _, fun h => (by omega)⟩ (fun i σ H' _ h => by obtain ⟨_, _, _, _, _, h, _⟩ := h; exact SqL.of h) ?_ ?_
    · rintro i x σ H3' H3 hi ⟨v3, ts, rfl, k3, p3, el3, mi3, eg3, pi3, nd3, lt3, ge3⟩ ⟨rfl, hx⟩
      obtain ⟨t, ht, mt, rfl⟩ := rfs_at hx
      have il := (List.getElem?_eq_some_iff.mp ht).1
      have mt3 := mi3 t mt
      refine ⟨_, rfl, _, rfl, g, rfl, ⟨_, SqL.of eg3⟩, fun D nD => ?_⟩
      have Da := new_ne p3 nD
      have gD : g ≠ D := fun z => by rw [z, nD] at eg3; cases eg3
      skip
      refine lc_list (K := K) (a := g) (xs := rfs ts) (fun j H7 => Same H3 H7 ∧ H7 D = some (.lst (rfs ((mpA ts).take j)))) ⟨Same.put nD, upd_same⟩ (fun j H' _ h => SqL.of (h.1 _ _ eg3)) ?_ ?_
      · rintro j x H4 hx ⟨s4, eD⟩
        obtain ⟨u, hu, mu, rfl⟩ := rfs_at hx
        have jl := (List.getElem?_eq_some_iff.mp hu).1
        refine ⟨rfl, yes_of ?_⟩
        refine ⟨_, rfl, .inr (.inl ⟨u.1, _, _, _, rfl, rfl, SqT.of (s4 _ _ (pi3 u mu).1), atI_nat (j := 1) (by rfl), ?_⟩)⟩
        refine ⟨_, eD, by rw [rfs_len]; exact small_len (by rw [List.length_take]; omega), Same.but s4 nD, ?_⟩
        rw [upd_same]
        have hu2 : (mpA ts)[j]? = some u.2.2 := by rw [List.getElem?_map, hu]; rfl
        rw [take_more hu2, rfs_snoc]
      · rintro H4 ⟨s4, eD⟩
        have eD : H4 D = some (.lst (rfs (mpA ts))) := by
          rw [rfs_len, show ts.length = (mpA ts).length from (List.length_map _).symm, List.take_length] at eD; exact eD
        have p4 := p3.same s4
        have pi4 := pi3.same s4
        have eg4 := s4 _ _ eg3
        have dp : Dp K H4 (.ref D) (.list ((((mpA ts).map (·.2)).map iW).map dI)) := .lst (SqL.of eD) (Tups.dp (prs_mp pi4))
        refine ⟨dI (iW t.2), _, dp_tupN (SqT.of (mt3.same s4).1), dp, sh_dI _, sh_list _, _, rfl, ?_⟩
        rw [any_dN, show (mpA ts).map (·.2) = mps ts by rw [mpA, List.map_map]; rfl]
        have k4 := k3.trans (Keep.of s4)
        by_cases c : t.2 ∈ mps ts
        · refine iteFe (by rw [decide_eq_true c]; rfl) ?_
          exact ⟨_, ts, rfl, k4, p4, s4 _ _ el3, mi3.same s4, eg4, pi4, nd3, by omega, fun _ => by
            have := List.length_pos_of_mem c
            rwa [List.length_map] at this⟩
        · refine iteTe (by rw [decide_eq_false c]; rfl) ?_
          refine ⟨_, rfl, .inl ⟨rfl, _, SqL.of eg4⟩, _, rfl, a, 4, rfl, p4, by decide, by decide, fun r o r0 r1 ho => ?_⟩
          obtain ⟨p5, k5⟩ := drawn p4 (Keep.refl a H4) ho
          have pi5 := pi4.keep k5 p4
          have eg5 := k5 _ _ eg4 ga
          have el5 := k5 _ _ (s4 _ _ el3) la
          have mi5 := (mi3.same s4).keep k5 p4
          have k05 := k4.trans k5
          generalize (upd H4 a o) = H5 at p5 pi5 eg5 el5 mi5 k05 ⊢
          obtain ⟨r, rfl⟩ := nat_of r0
          refine ⟨_, _, rfl, rfl, _, rfl, by show 2 ≤ sizeLine; decide, fun b nb => ?_⟩
          have sb := Same.put (o := .tup [.int ((1 : Int) + (r : Int)), .ref t.1]) nb
          have eb : (upd H5 b (.tup [.int ((1 : Int) + (r : Int)), .ref t.1])) b = some (.tup [.int ((1 : Int) + (r : Int)), .ref t.1]) := upd_same
          have p6 := p5.same sb
          have pi6 := pi5.same sb
          have eg6 := sb _ _ eg5
          have el6 := sb _ _ el5
          have mi6 := mi5.same sb
          have k06 := k05.trans (Keep.of sb)
          generalize (upd H5 b (.tup [.int ((1 : Int) + (r : Int)), .ref t.1])) = H6 at eb p6 pi6 eg6 el6 mi6 k06 ⊢
          have pb : PrtAt n H6 (b, (1 + r, t)) := ⟨by rw [eb, show ((1 : Int) + (r : Int)) = ((1 + r : Nat) : Int) by omega], mi6 t mt, by show 1 ≤ 1 + r; omega, by show 1 + r ≤ 4; omega⟩
          refine ⟨g, _, _, rfl, rfl, eg6, by rw [rfs_len]; exact small_len (by omega), ?_⟩
          refine ⟨_, ts ++ [(b, (1 + r, t))], rfl, k06.but ng, p6.other (Ne.symm ga), by rw [upd_ne (Ne.symm gl)]; exact el6, mi6.lstU eg6, by rw [upd_same, rfs_snoc], (pi6.snoc pb).lstU eg6, ?_, by rw [List.length_append]; show ts.length + 1 ≤ i + 1; omega, fun _ => by rw [List.length_append]; show 1 ≤ ts.length + 1; omega⟩
          rw [mps, List.map_append, List.nodup_append]
          refine ⟨nd3, by simp, fun x hx y hy => ?_⟩
          simp at hy
          subst hy
          exact fun z => c (z ▸ hx)
    · rintro σ H3 ⟨v3, ts, rfl, k3, p3, el3, mi3, eg3, pi3, nd3, lt3, ge3⟩
      rw [rfs_len] at lt3 ge3
      exact ⟨_, rfl, k g ts H3 k3 p3 ga eg3 pi3 nd3 (ge3 m1) (by omega)⟩
end
end KD
set_option Elab.async false
set_option linter.all false
set_option maxRecDepth 100000
set_option maxHeartbeats 4000000
namespace KD
open PySem L2
theorem mpA_mps (ts : List Prt) : (mpA ts).map (·.2) = mps ts := by rw [mpA, List.map_map]; rfl
theorem mps_snoc {ts : List Prt} {t : Prt} (nd : (mps ts).Nodup) (c : t.2.2.2 ∉ mps ts) : (mps (ts ++ [t])).Nodup := by
  rw [mps, List.map_append, List.nodup_append]
  refine ⟨nd, by simp, fun x hx y hy => ?_⟩
  simp at hy
  subst hy
  exact fun z => c (z ▸ hx)
def spDrawParts : Sp := fun vs H Q _ => ∃ (a : Addr) (n : Nat), vs = [.ref a, .int (n : Int), .int 4] ∧ PoolAt H a ∧ 1 ≤ n ∧ n ≤ 8 ∧ spPrts Q H a n
section
variable {P : Program} {w : World} {K : PySem.W.Frag} {mg : Str → Option Value} {base : Heap} {C : Addr}
abbrev s_draw_parts : Stmt := top 48
abbrev nDP : List Str := ["_law_pool_here", "_law_size", "_law_most", "_law_found", "_law_maps", "_law_k", "_law_led"]
theorem sc_draw_parts : FnScope nDP ["_law_pool_here", "_law_size", "_law_most"] (defScope s_draw_parts) := ⟨rfl, rfl, rfl, by decide +kernel, rfl, by decide +kernel, by decide +kernel⟩
theorem ok_draw_parts {f : Addr} {fd : FuncData} (F : Fun K "_law_draw_parts" "_law_draw_parts" s_draw_parts f fd) (T : Bm mg) (c_draw : Cal P w K mg base 1 "_law_draw" ["_law_pool_here", "_law_many"] spDraw)
    (c_map : Cal P w K mg base 3 "_law_map" ["_law_pool_here", "_law_size"] spMap) : FnOk P w K mg base CX0 4 f fd ["_law_pool_here", "_law_size", "_law_most"] spDrawParts := by
  refine F.ok sc_draw_parts (fun vs H Q E h => ?_) (fun cdv A outer s H vs Q E hr h => ?_)
  · obtain ⟨a, n, rfl, _⟩ := h
    rfl
  · obtain ⟨a, n, rfl, hp, n1, n8, k⟩ := h
    refine ⟨_, (pss_cons (ps_set (i := 3) sc_draw_parts.nd rfl (Or.inl rfl) (pe_lst pa_nil))
      (pss_cons (ps_set (i := 4) sc_draw_parts.nd rfl (Or.inl rfl) (pe_lst pa_nil))
      (pss_cons (ps_for PassesOwn.never rfl (pi_range1 (by rfl) T.n_range (pa_cons (pe_op op_add pe_int (pe_cal c_draw (hr.mono (by decide)) rfl (pa_cons (pv 0) (pa_cons (pv 2) pa_nil)))) pa_nil)) (pg_name (i := 5) sc_draw_parts.nd rfl (Or.inl rfl))
        (pss_cons (ps_set (i := 6) sc_draw_parts.nd rfl (Or.inl rfl) (pe_cal c_map (hr.mono (by decide)) rfl (pa_cons (pv 0) (pa_cons (pv 1) pa_nil))))
          (pss_one (ps_if (pt_cmpR (show OpR _ _ (rNotInD K) from op_notInD (un65 hr)) (pv 6) (pv 4) (by rfl))
            (pss_cons (ps_expr (pe_bm PySem.F.plainAttrs_list PySem.F.slot_list_append PySem.F.type_list_append mt_append (pv 4) (pa_cons (pv 6) pa_nil)))
              (pss_one (ps_expr (pe_bm PySem.F.plainAttrs_list PySem.F.slot_list_append PySem.F.type_list_append mt_append (pv 3) (pa_cons (pe_tup (pa_cons (pe_op op_add pe_int (pe_cal c_draw (hr.mono (by decide)) rfl (pa_cons (pv 0) (pa_cons pe_int pa_nil)))) (pa_cons (pv 6) pa_nil))) pa_nil)))))
            pss_nil))))
      (pss_one (ps_ret (pv 3)))))), ?_⟩
    refine ⟨by show 0 ≤ sizeLine; decide, fun g ng => ?_⟩
    have ga := new_ne hp ng
    have eg : (upd H g (.lst [])) g = some (.lst (rfs ([] : List Prt))) := upd_same
    have p0 := hp.new (o := .lst []) ng
    have k0 := Keep.of (a := a) (Same.put (o := .lst []) ng)
    generalize (upd H g (.lst [])) = H0 at eg p0 k0 ⊢
    refine ⟨by show 0 ≤ sizeLine; decide, fun m nm => ?_⟩
    have ma := new_ne p0 nm
    have gm : g ≠ m := fun z => by rw [z, nm] at eg; cases eg
    have em : (upd H0 m (.lst [])) m = some (.lst (rfs (mpA ([] : List Prt)))) := upd_same
    have eg1 : (upd H0 m (.lst [])) g = some (.lst (rfs ([] : List Prt))) := by rw [upd_ne gm]; exact eg
    have p1 := p0.new (o := .lst []) nm
    have k1 := k0.trans (Keep.of (Same.put (o := .lst []) nm))
    have nmH := free_of k0 ma nm
    generalize (upd H0 m (.lst [])) = H1 at em eg1 p1 k1 ⊢
    refine ⟨_, rfl, _, rfl, a, 4, rfl, p1, by decide, by decide, fun c o c0 c1 ho => ?_⟩
    obtain ⟨p2, k2⟩ := drawn p1 k1 ho
    have em2 : (upd H1 a o) m = some (.lst (rfs (mpA ([] : List Prt)))) := by rw [upd_ne ma]; exact em
    have eg2 : (upd H1 a o) g = some (.lst (rfs ([] : List Prt))) := by rw [upd_ne ga]; exact eg1
    generalize (upd H1 a o) = H2 at em2 eg2 p2 k2 ⊢
    obtain ⟨c, rfl⟩ := nat_of c0
    refine ⟨_, _, rfl, rfl, _, rfl, by omega, by omega, ?_⟩
    rw [show ((1 : Int) + (c : Int)) = ((1 + c : Nat) : Int) by omega, Int.toNat_natCast]
    refine for_range (fun i σ H' => ∃ (v5 v6 : Option V) (ts : List Prt), σ = [some (.ref a), some (.int (n : Int)), some (.int 4), some (.ref g), some (.ref m), v5, v6] ∧ Keep a H H' ∧ PoolAt H' a ∧ H' g = some (.lst (rfs ts)) ∧ H' m = some (.lst (rfs (mpA ts))) ∧ PrtsIn n H' ts ∧ (mps ts).Nodup ∧ ts.length ≤ i ∧ (1 ≤ i → 1 ≤ ts.length))
      ⟨none, none, [], rfl, k2, p2, eg2, em2, fun _ m => (by cases m), List.nodup_nil, Nat.le_refl _, fun h => (by omega)⟩ ?_ ?_
    · rintro i σ H3 hi ⟨v5, v6, ts, rfl, k3, p3, eg3, em3, pi3, nd3, lt3, ge3⟩
      refine ⟨_, rfl, _, rfl, a, n, rfl, p3, n1, n8, fun t ws H4 k34 p4 mt => ?_⟩
      have k4 := k3.trans k34
      have eg4 := k34 _ _ eg3 ga
      have em4 := k34 _ _ em3 ma
      have pi4 := pi3.keep k34 p3
      have dp : Dp K H4 (.ref m) (.list ((((mpA ts).map (·.2)).map iW).map dI)) := .lst (SqL.of em4) (Tups.dp (prs_mp pi4))
      refine ⟨_, rfl, _, rfl, dI (iW ws), _, dp_tupN (SqT.of mt.1), dp, sh_dI _, sh_list _, _, rfl, ?_⟩
      rw [any_dN, mpA_mps]
      by_cases cc : ws ∈ mps ts
      · refine iteFe (by rw [decide_eq_true cc]; rfl) ?_
        exact ⟨_, _, ts, rfl, k4, p4, eg4, em4, pi4, nd3, by omega, fun _ => by
          have := List.length_pos_of_mem cc
          rwa [List.length_map] at this⟩
      · refine iteTe (by rw [decide_eq_false cc]; rfl) ?_
        refine ⟨_, rfl, .inl ⟨rfl, _, SqL.of em4⟩, _, rfl, m, _, _, rfl, rfl, em4, by rw [rfs_len, List.length_map]; exact small_len (by omega), ?_⟩
        have em5 : (upd H4 m (.lst (rfs (mpA ts) ++ [.ref t]))) m = some (.lst (rfs (mpA ts ++ [(t, ws)]))) := by rw [upd_same, rfs_snoc]
        have eg5 : (upd H4 m (.lst (rfs (mpA ts) ++ [.ref t]))) g = some (.lst (rfs ts)) := by rw [upd_ne gm]; exact eg4
        have p5 : PoolAt (upd H4 m (.lst (rfs (mpA ts) ++ [.ref t]))) a := p4.other (Ne.symm ma)
        have k5 : Keep a H (upd H4 m (.lst (rfs (mpA ts) ++ [.ref t]))) := k4.but nmH
        have pi5 := pi4.lstU (o := .lst (rfs (mpA ts) ++ [.ref t])) em4
        have mt5 : MapAt n (upd H4 m (.lst (rfs (mpA ts) ++ [.ref t]))) t ws := ⟨by rw [upd_ne (fun z => by have := mt.1; rw [z, em4] at this; cases this)]; exact mt.1, mt.2⟩
        generalize (upd H4 m (.lst (rfs (mpA ts) ++ [.ref t]))) = H5 at em5 eg5 p5 k5 pi5 mt5 ⊢
        refine ⟨_, rfl, .inl ⟨rfl, _, SqL.of eg5⟩, _, rfl, a, 4, rfl, p5, by decide, by decide, fun r o2 r0 r1 ho2 => ?_⟩
        obtain ⟨p6, k56⟩ := drawn p5 (Keep.refl a H5) ho2
        have em6 := k56 _ _ em5 ma
        have eg6 := k56 _ _ eg5 ga
        have pi6 := pi5.keep k56 p5
        have mt6 := mt5.keep k56 p5
        have k6 := k5.trans k56
        generalize (upd H5 a o2) = H6 at p6 em6 eg6 pi6 mt6 k6 ⊢
        obtain ⟨r, rfl⟩ := nat_of r0
        refine ⟨_, _, rfl, rfl, _, rfl, by show 2 ≤ sizeLine; decide, fun b nb => ?_⟩
        have sb := Same.put (o := .tup [.int ((1 : Int) + (r : Int)), .ref t]) nb
        have eb : (upd H6 b (.tup [.int ((1 : Int) + (r : Int)), .ref t])) b = some (.tup [.int ((1 : Int) + (r : Int)), .ref t]) := upd_same
        have p7 := p6.same sb
        have pi7 := pi6.same sb
        have eg7 := sb _ _ eg6
        have em7 := sb _ _ em6
        have mt7 := mt6.same sb
        have k7 := k6.trans (Keep.of sb)
        generalize (upd H6 b (.tup [.int ((1 : Int) + (r : Int)), .ref t])) = H7 at eb p7 pi7 eg7 em7 mt7 k7 ⊢
        have pb : PrtAt n H7 (b, (1 + r, (t, ws))) := ⟨by rw [eb, show ((1 : Int) + (r : Int)) = ((1 + r : Nat) : Int) by omega], mt7, by show 1 ≤ 1 + r; omega, by show 1 + r ≤ 4; omega⟩
        refine ⟨g, _, _, rfl, rfl, eg7, by rw [rfs_len]; exact small_len (by omega), ?_⟩
        refine ⟨_, _, ts ++ [(b, (1 + r, (t, ws)))], rfl, k7.but ng, p7.other (Ne.symm ga), by rw [upd_same, rfs_snoc], by rw [upd_ne (Ne.symm gm), em7, mpA, mpA, List.map_append]; rfl, (pi7.snoc pb).lstU eg7, mps_snoc nd3 cc, by rw [List.length_append]; show ts.length + 1 ≤ i + 1; omega, fun _ => by rw [List.length_append]; show 1 ≤ ts.length + 1; omega⟩
    · rintro σ H3 ⟨v5, v6, ts, rfl, k3, p3, eg3, em3, pi3, nd3, lt3, ge3⟩
      exact ⟨_, rfl, k g ts H3 k3 p3 ga eg3 pi3 nd3 (ge3 (by omega)) (by omega)⟩
end
end KD
set_option Elab.async false
set_option linter.all false
set_option maxRecDepth 100000
set_option maxHeartbeats 4000000
namespace KD
open PySem L2
def rTO (K : PySem.W.Frag) : List V → Hp → VK → Prop := fun xs H Q => ∃ p ys, xs = [.ref p] ∧ ((SqL K H p ys ∧ ∀ l, H l = none → Q (.ref l) (upd H l (.tup ys))) ∨ (SqT K H p ys ∧ Q (.ref p) H))
theorem spPrts.on {Q : VK} {H H' : Hp} {a : Addr} {n : Nat} (h : spPrts Q H a n) (k : Keep a H H') : spPrts Q H' a n := fun l ts H2 k2 => h l ts H2 (k.trans k2)
def spGather : Sp := fun vs H Q _ => ∃ (a : Addr) (n : Nat), vs = [.ref a, .int (n : Int)] ∧ PoolAt H a ∧ 1 ≤ n ∧ n ≤ 8 ∧ spPrts Q H a n
section
variable {P : Program} {w : World} {K : PySem.W.Frag} {mg : Str → Option Value} {base : Heap} {C : Addr}
abbrev s_gather : Stmt := top 50
abbrev nGP : List Str := ["_law_pool_here", "_law_size", "_law_way", "_law_maps", "_law_halves", "_law_k", "_law_turn", "_law_s"]
theorem sc_gather : FnScope nGP ["_law_pool_here", "_law_size"] (defScope s_gather) := ⟨rfl, rfl, rfl, by decide +kernel, rfl, by decide +kernel, by decide +kernel⟩
theorem ok_gather {f : Addr} {fd : FuncData} (F : Fun K "_law_gather_parts" "_law_gather_parts" s_gather f fd) (T : Bm mg) (c_draw : Cal P w K mg base 1 "_law_draw" ["_law_pool_here", "_law_many"] spDraw)
    (c_turn : Cal P w K mg base 2 "_law_turned_about" ["_law_pool_here", "_law_things"] spTurnAbout) (c_dp : Cal P w K mg base 4 "_law_draw_parts" ["_law_pool_here", "_law_size", "_law_most"] spDrawParts)
    (c_ring : Cal P w K mg base 3 "_law_ring" ["_law_pool_here", "_law_size"] spRing) (c_we : Cal P w K mg base 2 "_law_weighed" ["_law_pool_here", "_law_maps"] spWeighed)
    (c_ih : Cal P w K mg base 3 "_law_in_half" ["_law_pool_here", "_law_halves", "_law_half", "_law_s"] spInHalf) : FnOk P w K mg base CX0 5 f fd ["_law_pool_here", "_law_size"] spGather := by
  refine F.ok sc_gather (fun vs H Q E h => ?_) (fun cdv A outer s H vs Q E hr h => ?_)
  · obtain ⟨a, n, rfl, _⟩ := h
    rfl
  · obtain ⟨a, n, rfl, hp, n1, n8, k⟩ := h
    refine ⟨_, (pss_cons (ps_set (i := 2) sc_gather.nd rfl (Or.inl rfl) (pe_cal c_draw (hr.mono (by decide)) rfl (pa_cons (pv 0) (pa_cons pe_int pa_nil))))
      (pss_cons (ps_if (pt_cmpR op_gt (pv 2) pe_int (nomark _))
        (pss_one (ps_ret (pe_cal c_dp (hr.mono (by decide)) rfl (pa_cons (pv 0) (pa_cons (pv 1) (pa_cons pe_int pa_nil))))))
        pss_nil)
      (pss_cons (ps_set (i := 3) sc_gather.nd rfl (Or.inl rfl) (pe_lst pa_nil))
      (pss_cons (ps_if (pt_cmpR op_eq (pv 2) pe_int (nomark _))
        (pss_one (ps_set (i := 3) sc_gather.nd rfl (Or.inl rfl) (pe_cal c_ring (hr.mono (by decide)) rfl (pa_cons (pv 0) (pa_cons (pv 1) pa_nil)))))
        (pss_one (ps_if (pt_cmpR op_eq (pv 2) pe_int (nomark _))
          (pss_one (ps_setLc (i := 3) (own := [("_law_k", 5)]) rfl sc_gather.nd rfl rfl (sw_true rfl rfl rfl (by decide +kernel)) (pi_range1 (by rfl) T.n_range (pa_cons (pe_op op_add pe_int (pe_cal c_draw (hr.mono (by decide)) rfl (pa_cons (pv 0) (pa_cons pe_int pa_nil)))) pa_nil)) (blkOk_by (N := nGP) (sc := defScope s_gather) (by decide +kernel)) (fun _ _ _ _ _ => (pg_name (i := 5) sc_gather.nd rfl (Or.inl rfl))) (fun _ _ _ _ _ => pts_nil)
            (fun _ _ _ _ _ => (pe_callTy (show CallR _ (.type "tuple") (rTO K) from call_tuple_of) (by rfl) T.n_tuple (by decide +kernel) (pa_cons (pe_cal c_turn (hr.mono (by decide)) rfl (pa_cons (pv 0) (pa_cons (pe_listRg rfl (by rfl) T.n_list (prg_1 (by rfl) T.n_range (pv 1))) pa_nil))) pa_nil)))))
          (pss_cons (ps_set (i := 4) sc_gather.nd rfl (Or.inr rfl) (pe_lc (own := [("_law_s", 7)]) rfl sc_gather.nd (pi_range1 (by rfl) T.n_range (pa_cons (pv 1) pa_nil)) (blkOk_by (N := nGP) (sc := defScope s_gather) (by decide +kernel)) (fun _ _ _ _ _ => (pg_name (i := 7) sc_gather.nd rfl (Or.inl rfl))) (fun _ _ _ _ _ => pts_nil) (fun _ _ _ _ _ => (pe_cal c_draw (hr.mono (by decide)) rfl (pa_cons (pv 0) (pa_cons pe_int pa_nil))))))
            (pss_one (ps_for PassesOwn.never rfl (pi_range1 (by rfl) T.n_range (pa_cons (pe_op op_add pe_int (pe_cal c_draw (hr.mono (by decide)) rfl (pa_cons (pv 0) (pa_cons pe_int pa_nil)))) pa_nil)) (pg_name (i := 5) sc_gather.nd rfl (Or.inl rfl))
              (pss_cons (ps_set (i := 6) sc_gather.nd rfl (Or.inr rfl) (pe_cal c_draw (hr.mono (by decide)) rfl (pa_cons (pv 0) (pa_cons pe_int pa_nil))))
                (pss_one (ps_expr (pe_bm PySem.F.plainAttrs_list PySem.F.slot_list_append PySem.F.type_list_append mt_append (pv 3) (pa_cons (pe_callTy call_tuple_of (by rfl) T.n_tuple (by decide +kernel) (pa_cons (pe_lc (own := [("_law_s", 7)]) rfl sc_gather.nd (pi_range1 (by rfl) T.n_range (pa_cons (pv 1) pa_nil)) (blkOk_by (N := nGP) (sc := defScope s_gather) (by decide +kernel)) (fun _ _ _ _ _ => (pg_name (i := 7) sc_gather.nd rfl (Or.inl rfl))) (fun _ _ _ _ _ => pts_nil)
                  (fun _ _ _ _ _ => (pe_cal c_ih (hr.mono (by decide)) rfl (pa_cons (pv 0) (pa_cons (pv 4) (pa_cons (pe_op op_xor (pe_ix (show IxR _ (rIxL K) from ix_list) (pv 4) (pv 7) (fun _ _ => rfl)) (pv 6)) (pa_cons (pv 7) pa_nil))))))) pa_nil)) pa_nil)))))))))))
      (pss_one (ps_ret (pe_cal c_we (hr.mono (by decide)) rfl (pa_cons (pv 0) (pa_cons (pv 3) pa_nil))))))))), ?_⟩
    refine ⟨_, rfl, a, 6, rfl, hp, by decide, by decide, fun y o y0 y1 ho => ?_⟩
    obtain ⟨p1, k1⟩ := drawn hp (Keep.refl a H) ho
    generalize (upd H a o) = H1 at p1 k1 ⊢
    refine ⟨_, rfl, _, _, rfl, rfl, _, rfl, iteA ?_ ?_⟩
    · exact ⟨_, rfl, _, rfl, a, n, rfl, p1, n1, n8, k.on k1⟩
    refine ⟨by show 0 ≤ sizeLine; decide, fun g ng => ?_⟩
    have ga := new_ne p1 ng
    have eg : (upd H1 g (.lst [])) g = some (.lst (rfs ([] : List (Addr × List Nat)))) := upd_same
    have p2 := p1.new (o := .lst []) ng
    have k2 := k1.trans (Keep.of (Same.put (o := .lst []) ng))
    have ngH := free_of k1 ga ng
    generalize (upd H1 g (.lst [])) = H2 at eg p2 k2 ⊢
    refine ⟨_, rfl, rfl, _, rfl, iteA ?_ ?_⟩
    · refine ⟨_, rfl, _, rfl, a, n, rfl, p2, n1, n8, fun l ts H3 k3 p3 la el mi t1 t4 => ?_⟩
      exact ⟨_, rfl, _, rfl, a, l, n, ts, rfl, p3, la, el, mi, t1, t4, k.on (k2.trans k3)⟩
    refine ⟨_, rfl, rfl, _, rfl, iteA ?_ ?_⟩
    · refine ⟨_, rfl, a, 3, rfl, p2, by decide, by decide, fun c o c0 c1 ho => ?_⟩
      obtain ⟨p3, k3⟩ := drawn p2 k2 ho
      generalize (upd H2 a o) = H3 at p3 k3 ⊢
      obtain ⟨c, rfl⟩ := nat_of c0
      refine ⟨_, _, rfl, rfl, _, rfl, by omega, by omega, fun D nD => ?_⟩
      rw [show ((1 : Int) + (c : Int)) = ((1 + c : Nat) : Int) by omega, Int.toNat_natCast]
      have Da := new_ne p3 nD
      have nDH := free_of k3 Da nD
      refine lc_range (fun i H' => Keep a H H' ∧ PoolAt H' a ∧ ∃ ms : List (Addr × List Nat), H' D = some (.lst (rfs ms)) ∧ MapsIn n H' ms ∧ ms.length = i) ⟨k3.trans (Keep.of (Same.put nD)), p3.new nD, [], upd_same, fun _ m => (by cases m), rfl⟩ ?_ ?_
      · rintro i H4 hi ⟨k4, p4, ms, eD, mi, lm⟩
        refine ⟨rfl, yes_of ?_⟩
        refine ⟨_, rfl, _, rfl, (n : Int), rfl, RgOk.of_le (by omega) (by omega) (by omega) (by omega), fun l nl => ?_⟩
        rw [rg_cV]
        have s5 := Same.put (o := .lst (cV (List.range n))) nl
        have el : (upd H4 l (.lst (cV (List.range n)))) l = some (.lst (cV (List.range n))) := upd_same
        have p5 := p4.same s5
        have k5 := k4.trans (Keep.of s5)
        have eD5 := s5 _ _ eD
        have mi5 := mi.same s5
        generalize (upd H4 l (.lst (cV (List.range n)))) = H5 at el p5 k5 eD5 mi5 ⊢
        refine ⟨a, l, _, rfl, p5, by rw [List.length_map, List.length_range]; omega, el, fun r ys H6 k56 p6 ra nr er pm => ?_⟩
        obtain ⟨us, rfl, pu⟩ := perm_map pm
        have mu := isMap_perm (isMap_range n) pu
        have eD6 := k56 _ _ eD5 Da
        have mi6 := mi5.keep k56 p5
        have k6 := k5.trans k56
        refine ⟨r, _, rfl, .inl ⟨SqL.of er, fun t nt => ?_⟩⟩
        have st := Same.put (o := .tup (cV us)) nt
        have et : MapAt n (upd H6 t (.tup (cV us))) t us := ⟨upd_same, mu⟩
        refine ⟨_, st _ _ eD6, by rw [rfs_len]; exact small_len (by omega), (k6.trans (Keep.of st)).but nDH, (p6.same st).other (Ne.symm Da), ms ++ [(t, us)], by rw [upd_same, rfs_snoc], ((mi6.same st).snoc et).lstU (st _ _ eD6), by rw [List.length_append, lm]; rfl⟩
      · rintro H4 ⟨k4, p4, ms, eD, mi, lm⟩
        exact ⟨_, rfl, _, rfl, a, D, n, ms, rfl, p4, Da, eD, mi, by omega, by omega, k.on k4⟩
    · refine ⟨_, rfl, _, rfl, by omega, by omega, fun D nD => ?_⟩
      rw [Int.toNat_natCast]
      have Da := new_ne p2 nD
      have gD : g ≠ D := fun z => by rw [z, nD] at eg; cases eg
      have nDH := free_of k2 Da nD
      refine lc_range (fun i H' => Keep a H H' ∧ PoolAt H' a ∧ H' g = some (.lst (rfs ([] : List (Addr × List Nat)))) ∧ ∃ hs : List Nat, H' D = some (.lst (cV hs)) ∧ hs.length = i) ⟨k2.trans (Keep.of (Same.put nD)), p2.new nD, by rw [upd_ne gD]; exact eg, [], upd_same, rfl⟩ ?_ ?_
      · rintro i H3 hi ⟨k3, p3, eg3, hs, eD, lh⟩
        refine ⟨rfl, yes_of ?_⟩
        refine ⟨_, rfl, a, 2, rfl, p3, by decide, by decide, fun x o x0 x1 ho => ?_⟩
        obtain ⟨p4, k4⟩ := drawn p3 k3 ho
        have eg4 : (upd H3 a o) g = some (.lst (rfs ([] : List (Addr × List Nat)))) := by rw [upd_ne ga]; exact eg3
        have eD4 : (upd H3 a o) D = some (.lst (cV hs)) := by rw [upd_ne Da]; exact eD
        generalize (upd H3 a o) = H4 at p4 k4 eg4 eD4 ⊢
        obtain ⟨x, rfl⟩ := nat_of x0
        exact ⟨_, eD4, by rw [List.length_map]; exact small_len (by omega), k4.but nDH, p4.other (Ne.symm Da), by rw [upd_ne gD]; exact eg4, hs ++ [x], by rw [upd_same, cV_snoc], by rw [List.length_append, lh]; rfl⟩
      rintro H3 ⟨k3, p3, eg3, hs, eD, lh⟩
      refine ⟨_, rfl, a, 3, rfl, p3, by decide, by decide, fun c o c0 c1 ho => ?_⟩
      obtain ⟨p4, k4⟩ := drawn p3 k3 ho
      have eg4 : (upd H3 a o) g = some (.lst (rfs ([] : List (Addr × List Nat)))) := by rw [upd_ne ga]; exact eg3
      have eD4 : (upd H3 a o) D = some (.lst (cV hs)) := by rw [upd_ne Da]; exact eD
      generalize (upd H3 a o) = H4 at p4 k4 eg4 eD4 ⊢
      obtain ⟨c, rfl⟩ := nat_of c0
      refine ⟨_, _, rfl, rfl, _, rfl, by omega, by omega, ?_⟩
      rw [show ((1 : Int) + (c : Int)) = ((1 + c : Nat) : Int) by omega, Int.toNat_natCast]
      refine for_range (fun i σ H' => ∃ (v2 v5 v6 : Option V) (ms : List (Addr × List Nat)), σ = [some (.ref a), some (.int (n : Int)), v2, some (.ref g), some (.ref D), v5, v6, none] ∧ Keep a H H' ∧ PoolAt H' a ∧ H' D = some (.lst (cV hs)) ∧ H' g = some (.lst (rfs ms)) ∧ MapsIn n H' ms ∧ ms.length = i)
        ⟨_, none, none, [], rfl, k4, p4, eD4, eg4, fun _ m => (by cases m), rfl⟩ ?_ ?_
      · rintro i σ H5 hi ⟨v2, v5, v6, ms, rfl, k5, p5, eD5, eg5, mi, lm⟩
        refine ⟨_, rfl, a, 2, rfl, p5, by decide, by decide, fun x o x0 x1 ho => ?_⟩
        obtain ⟨p6, k56⟩ := drawn p5 (Keep.refl a H5) ho
        have k6 := k5.trans k56
        have eD6 := k56 _ _ eD5 Da
        have eg6 := k56 _ _ eg5 ga
        have mi6 := mi.keep k56 p5
        generalize (upd H5 a o) = H6 at p6 k6 eD6 eg6 mi6 ⊢
        refine ⟨_, rfl, .inl ⟨rfl, _, SqL.of eg6⟩, _, rfl, _, rfl, by omega, by omega, fun B nB => ?_⟩
        rw [Int.toNat_natCast]
        have Ba := new_ne p6 nB
        have gB : g ≠ B := fun z => by rw [z, nB] at eg6; cases eg6
        have DB : D ≠ B := fun z => by rw [z, nB] at eD6; cases eD6
        refine lc_range (fun j H' => Keep a H6 H' ∧ PoolAt H' a ∧ ∃ ws : List Nat, H' B = some (.lst (cV ws)) ∧ ws.length = j ∧ ∀ x ∈ ws, x < n) ⟨Keep.of (Same.put nB), p6.new nB, [], upd_same, rfl, fun _ m => (by cases m)⟩ ?_ ?_
        · rintro j H7 hj ⟨k7, p7, ws, eB, lw, bw⟩
          rw [Int.zero_add]
          refine ⟨rfl, yes_of ?_⟩
          have gj : hs[j]? = some (hs[j]'(by omega)) := List.getElem?_eq_getElem _
          refine ⟨_, rfl, _, rfl, _, rfl, _, rfl, D, _, _, _, rfl, rfl, SqL.of (k7 _ _ eD6 Da), atI_nat (cV_at gj), _, rfl, _, _, rfl, rfl, _, rfl, a, D, hs, _, j, n, rfl, p7, Da, k7 _ _ eD6 Da, lh, hj, n8, fun r H8 k8 p8 rn => ?_⟩
          have k68 : Keep a H6 H8 := k7.trans k8
          have eB8 := k8 _ _ eB Ba
          refine ⟨_, eB8, by rw [List.length_map]; exact small_len (by omega), k68.but nB, p8.other (Ne.symm Ba), ws ++ [r], by rw [upd_same, cV_snoc], by rw [List.length_append, lw]; rfl, fun x m => ?_⟩
          rcases List.mem_append.mp m with m | m
          · exact bw x m
          · rw [List.mem_singleton.mp m]; exact rn
        · rintro H7 ⟨k7, p7, ws, eB, lw, bw⟩
          refine ⟨B, _, rfl, .inl ⟨SqL.of eB, fun t nt => ?_⟩⟩
          have st := Same.put (o := .tup (cV ws)) nt
          have et : MapAt n (upd H7 t (.tup (cV ws))) t ws := ⟨upd_same, lw, bw⟩
          have k07 := (k6.trans k7).trans (Keep.of st)
          have eg8 := st _ _ (k7 _ _ eg6 ga)
          have eD8 := st _ _ (k7 _ _ eD6 Da)
          have mi8 := (mi6.keep k7 p6).same st
          have p8 := p7.same st
          generalize (upd H7 t (.tup (cV ws))) = H8 at et k07 eg8 eD8 mi8 p8 ⊢
          refine ⟨g, _, _, rfl, rfl, eg8, by rw [rfs_len]; exact small_len (by omega), ?_⟩
          exact ⟨_, _, _, ms ++ [(t, ws)], rfl, k07.but ngH, p8.other (Ne.symm ga), by rw [upd_ne (Ne.symm gD)]; exact eD8, by rw [upd_same, rfs_snoc], (mi8.snoc et).lstU eg8, by rw [List.length_append, lm]; rfl⟩
      · rintro σ H5 ⟨v2, v5, v6, ms, rfl, k5, p5, eD5, eg5, mi, lm⟩
        exact ⟨_, rfl, _, rfl, a, g, n, ms, rfl, p5, ga, eg5, mi, by omega, by omega, k.on k5⟩
end
end KD
set_option Elab.async false
set_option linter.all false
set_option maxRecDepth 100000
set_option maxHeartbeats 4000000
namespace KD
open PySem L2
theorem low_self {d : Int} (h : 0 < d) : lowT d d = 1 ∧ lowB d d = 1 := by
  obtain ⟨h1, h2⟩ := low_ratio (a := d) (b := d) (c := 1) (d := 1) (by omega) (by decide) (by omega)
  rw [h1, h2]
  exact ⟨by decide +kernel, by decide +kernel⟩
def spWholeP (C : Addr) : Sp := fun vs H Q _ => ∃ (t W : Nat), vs = [.int (t : Int), .int (W : Int)] ∧ 1 ≤ t ∧ t ≤ W ∧ W ≤ 1000 ∧ ∀ (x : V) (H' : Hp), Same H H' → Num C H' x (t : Int) (W : Int) → Q x H'
/-- a given part: a number over W, as a share or an int -/
def GivAt (C : Addr) (n W : Nat) (H : Hp) (t : Prt) : Prop := ∃ x, H t.1 = some (.tup [x, .ref t.2.2.1]) ∧ Num C H x (t.2.1 : Int) (W : Int) ∧ MapAt n H t.2.2.1 t.2.2.2 ∧ 1 ≤ t.2.1
theorem GivAt.same {C : Addr} {n W : Nat} {H H' : Hp} {t : Prt} (h : GivAt C n W H t) (s : Same H H') : GivAt C n W H' t := let ⟨x, h1, h2, h3, h4⟩ := h; ⟨x, s _ _ h1, h2.same s, h3.same s, h4⟩
theorem Num.lstU {C : Addr} {H : Hp} {x : V} {S D : Int} {l : Addr} {ys : List V} {o : HO} (h : Num C H x S D) (e : H l = some (.lst ys)) : Num C (upd H l o) x S D := by
  rcases h with h | ⟨a, dx, rfl, h⟩
  · exact .inl h
  · exact .inr ⟨a, dx, rfl, by rw [upd_ne (fun z => by rw [z, e] at h; cases h)]; exact h⟩
theorem GivAt.lstU {C : Addr} {n W : Nat} {H : Hp} {t : Prt} {l : Addr} {ys : List V} {o : HO} (h : GivAt C n W H t) (e : H l = some (.lst ys)) : GivAt C n W (upd H l o) t := by
  obtain ⟨x, h1, h2, h3, h4⟩ := h
  exact ⟨x, by rw [upd_ne (fun z => by rw [z, e] at h1; cases h1)]; exact h1, h2.lstU e, ⟨by rw [upd_ne (fun z => by have := h3.1; rw [z, e] at this; cases this)]; exact h3.1, h3.2⟩, h4⟩
abbrev topsOf (ts : List Prt) : List Nat := ts.map fun t => t.2.1
def spGiven (C : Addr) : Sp := fun vs H Q _ => ∃ (a l : Addr) (n : Nat) (ts : List Prt), vs = [.ref a, .ref l] ∧ PoolAt H a ∧ l ≠ a ∧ H l = some (.lst (rfs ts)) ∧ PrtsIn n H ts ∧ 1 ≤ ts.length ∧ ts.length ≤ 4 ∧
  ∀ (g : Addr) (gs : List Prt) (H' : Hp), Keep a H H' → PoolAt H' a → H' g = some (.tup (rfs gs)) → gs.map (·.2) = ts.map (·.2) → (∀ u ∈ gs, GivAt C n (topsOf ts).sum H' u) → Q (.ref g) H'
section
variable {P : Program} {w : World} {K : PySem.W.Frag} {mg : Str → Option Value} {base : Heap} {C B : Addr}
abbrev s_whole : Stmt := top 45
theorem sc_whole : FnScope ["_law_top", "_law_whole_here"] ["_law_top", "_law_whole_here"] (defScope s_whole) := ⟨rfl, rfl, rfl, by decide +kernel, rfl, by decide +kernel, by decide +kernel⟩
theorem ok_whole {f : Addr} {fd : FuncData} (F : Fun K "_law_whole" "_law_whole" s_whole f fd) (m : MkT P w K mg base C B) : FnOk P w K mg base CX0 6 f fd ["_law_top", "_law_whole_here"] (spWholeP C) := by
  refine F.ok sc_whole (fun vs H Q E h => ?_) (fun cdv A outer s H vs Q E hr h => ?_)
  · obtain ⟨t, W, rfl, _⟩ := h
    rfl
  · obtain ⟨t, W, rfl, t1, tW, W1, k⟩ := h
    refine ⟨_, (pss_cons (ps_if (pt_cmpR op_eq (pv 0) pe_int (nomark _))
        (pss_one (ps_ret pe_int))
        pss_nil)
      (pss_cons (ps_if (pt_cmpR op_eq (pv 0) (pv 1) (nomark _))
        (pss_one (ps_ret pe_int))
        pss_nil)
      (pss_one (ps_ret (pe_share2 m (hr.mono (by decide)) rfl (pa_cons (pv 0) (pa_cons (pv 1) pa_nil))))))), ?_⟩
    refine ⟨_, rfl, rfl, _, rfl, iteFe (decide_eq_false (by rw [V.int.injEq]; omega)) ?_⟩
    refine ⟨_, rfl, _, rfl, rfl, _, rfl, ite2 (fun z => ?_) (fun z => ?_)⟩
    · have z := of_decide_eq_true z
      rw [V.int.injEq] at z
      obtain rfl : t = W := by omega
      obtain ⟨h1, h2⟩ := low_self (d := (t : Int)) (by omega)
      exact k _ H (Same.refl H) (.inl ⟨by rw [h1], h2⟩)
    · refine ⟨_, rfl, _, rfl, ?_⟩
      exact mk_ok (K := K) (by omega) (nsm W1) fun x dx H' s e => k _ H' s (.inr ⟨x, dx, rfl, e⟩)
end
end KD
set_option Elab.async false
set_option linter.all false
set_option maxRecDepth 100000
set_option maxHeartbeats 4000000
namespace KD
open PySem L2
theorem tops_le : ∀ {ts : List Prt} {n : Nat} {H : Hp}, PrtsIn n H ts → (topsOf ts).sum ≤ 4 * ts.length ∧ ∀ t ∈ ts, t.2.1 ≤ (topsOf ts).sum
  | [], _, _, _ => ⟨Nat.le_refl _, fun _ m => by cases m⟩
  | t :: ts, n, H, h => by
    obtain ⟨h1, h2⟩ := tops_le (ts := ts) (fun u m => h u (List.mem_cons_of_mem _ m))
    have ht := (h t List.mem_cons_self).2.2
    rw [topsOf, List.map_cons, List.sum_cons, List.length_cons]
    refine ⟨?_, fun u m => ?_⟩
    · have : ((ts.map fun t => t.2.1)).sum ≤ 4 * ts.length := h1
      omega
    · rcases List.mem_cons.mp m with rfl | m
      · omega
      · have : u.2.1 ≤ (ts.map fun t => t.2.1).sum := h2 u m
        omega
theorem GivAt.new {C : Addr} {n W : Nat} {H : Hp} {t : Prt} {D : Addr} {o : HO} (h : GivAt C n W H t) (nD : H D = none) : GivAt C n W (upd H D o) t := h.same (Same.put nD)
section
variable {P : Program} {w : World} {K : PySem.W.Frag} {mg : Str → Option Value} {base : Heap} {C B : Addr}
abbrev s_given : Stmt := top 49
abbrev nGi : List Str := ["_law_pool_here", "_law_parts", "_law_whole_here", "_law_top", "_law_led"]
theorem sc_given : FnScope nGi ["_law_pool_here", "_law_parts"] (defScope s_given) := ⟨rfl, rfl, rfl, by decide +kernel, rfl, by decide +kernel, by decide +kernel⟩
/-- what holds while the given parts are made -/
def PvG (C : Addr) (a D : Addr) (n W : Nat) (ts : List Prt) (H : Hp) (i : Nat) (H' : Hp) : Prop := Keep a H H' ∧ PoolAt H' a ∧ ∃ gs : List Prt, H' D = some (.lst (rfs gs)) ∧ gs.map (·.2) = (ts.take i).map (·.2) ∧ ∀ u ∈ gs, GivAt C n W H' u
theorem PvG.step {C a D : Addr} {n W : Nat} {ts : List Prt} {H H' H2 : Hp} {i : Nat} {t : Prt} {x : V} (h : PvG C a D n W ts H i H') (ht : ts[i]? = some t) (Da : D ≠ a) (nD : H D = none) (l4 : ts.length ≤ 4) (pt : PrtAt n H' t) (s : Same H' H2) (hx : Num C H2 x (t.2.1 : Int) (W : Int)) :
    ∀ p, H2 p = none → ∃ acc, (upd H2 p (.tup [x, .ref t.2.2.1])) D = some (.lst acc) ∧ acc.length < sizeLine ∧ PvG C a D n W ts H (i + 1) (upd (upd H2 p (.tup [x, .ref t.2.2.1])) D (.lst (acc ++ [.ref p]))) := by
  intro p np
  obtain ⟨k1, p1, gs, eD, qg, ig⟩ := h
  have sp := Same.put (o := .tup [x, .ref t.2.2.1]) np
  have eD2 := sp _ _ (s _ _ eD)
  have lg : gs.length ≤ 4 := by
    have := congrArg List.length qg
    rw [List.length_map, List.length_map, List.length_take] at this
    omega
  refine ⟨rfs gs, eD2, by rw [rfs_len]; exact small_len (by omega), (k1.trans (Keep.of (s.trans sp))).but nD, ((p1.same s).same sp).other (Ne.symm Da), gs ++ [(p, t.2)], by rw [upd_same, rfs_snoc], ?_, fun u m => ?_⟩
  · rw [List.map_append, qg, take_more ht, List.map_append]
    rfl
  · rcases List.mem_append.mp m with m | m
    · exact (((ig u m).same s).same sp).lstU eD2
    · rw [List.mem_singleton.mp m]
      exact GivAt.lstU ⟨x, upd_same, hx.same sp, ((pt.2.1.same s).same sp), pt.2.2.1⟩ eD2
theorem ok_given {f : Addr} {fd : FuncData} (F : Fun K "_law_given" "_law_given" s_given f fd) (T : Bm mg) (m : MkT P w K mg base C B) (c_draw : Cal P w K mg base 1 "_law_draw" ["_law_pool_here", "_law_many"] spDraw)
    (c_whole : Cal P w K mg base 6 "_law_whole" ["_law_top", "_law_whole_here"] (spWholeP C)) : FnOk P w K mg base CX0 7 f fd ["_law_pool_here", "_law_parts"] (spGiven C) := by
  refine F.ok sc_given (fun vs H Q E h => ?_) (fun cdv A outer s H vs Q E hr h => ?_)
  · obtain ⟨a, l, n, ts, rfl, _⟩ := h
    rfl
  · obtain ⟨a, l, n, ts, rfl, hp, la, el, pi, t1, t4, k⟩ := h
    refine ⟨_, (pss_cons (ps_set (i := 2) sc_given.nd rfl (Or.inr rfl) (pe_callB (cr_sum rfl) (by rfl) T.n_sum PyProof.Rows.boot_sum (pa_cons (pe_lc (own := [("_law_top", 3), ("_law_led", 4)]) (g := gTup K 2 (gCons (gName 3) (gCons (gName 4) gNil))) rfl sc_given.nd (pi_list (pv 1)) (blkOk_by (N := nGi) (sc := defScope s_given) (by decide +kernel)) (fun _ _ _ _ _ => (pg_tup (by rfl) (pgs_cons (pg_name (i := 3) sc_given.nd rfl (Or.inl rfl)) (pgs_cons (pg_name (i := 4) sc_given.nd rfl (Or.inl rfl)) pgs_nil)))) (fun _ _ _ _ _ => pts_nil) (fun _ _ _ _ _ => (pv 3))) pa_nil)))
      (pss_cons (ps_if (pt_cmpR op_eq (pe_cal c_draw (hr.mono (by decide)) rfl (pa_cons (pv 0) (pa_cons pe_int pa_nil))) pe_int (nomark _))
        (pss_one (ps_ret (pe_callTy call_tuple_of (by rfl) T.n_tuple (by decide +kernel) (pa_cons (pe_lc (own := [("_law_top", 3), ("_law_led", 4)]) (g := gTup K 2 (gCons (gName 3) (gCons (gName 4) gNil))) rfl sc_given.nd (pi_list (pv 1)) (blkOk_by (N := nGi) (sc := defScope s_given) (by decide +kernel)) (fun _ _ _ _ _ => (pg_tup (by rfl) (pgs_cons (pg_name (i := 3) sc_given.nd rfl (Or.inl rfl)) (pgs_cons (pg_name (i := 4) sc_given.nd rfl (Or.inl rfl)) pgs_nil)))) (fun _ _ _ _ _ => pts_nil)
          (fun _ _ _ _ _ => (pe_tup (pa_cons (pe_cal c_whole (hr.mono (by decide)) rfl (pa_cons (pv 3) (pa_cons (pv 2) pa_nil))) (pa_cons (pv 4) pa_nil))))) pa_nil))))
        pss_nil)
      (pss_one (ps_ret (pe_callTy call_tuple_of (by rfl) T.n_tuple (by decide +kernel) (pa_cons (pe_lc (own := [("_law_top", 3), ("_law_led", 4)]) (g := gTup K 2 (gCons (gName 3) (gCons (gName 4) gNil))) rfl sc_given.nd (pi_list (pv 1)) (blkOk_by (N := nGi) (sc := defScope s_given) (by decide +kernel)) (fun _ _ _ _ _ => (pg_tup (by rfl) (pgs_cons (pg_name (i := 3) sc_given.nd rfl (Or.inl rfl)) (pgs_cons (pg_name (i := 4) sc_given.nd rfl (Or.inl rfl)) pgs_nil)))) (fun _ _ _ _ _ => pts_nil)
          (fun _ _ _ _ _ => (pe_tup (pa_cons (show PE _ _ (tMake C (spSI K C B) [] E0 (tCons (tVar 3) (tCons (tVar 2) tNil))) from pe_share2 m (hr.mono (by decide)) rfl (pa_cons (pv 3) (pa_cons (pv 2) pa_nil))) (pa_cons (pv 4) pa_nil))))) pa_nil)))))), ?_⟩
    obtain ⟨tl, tle⟩ := tops_le pi
    refine ⟨_, rfl, l, rfl, ⟨_, SqL.of el⟩, fun D0 nD0 => ?_⟩
    refine lc_list (K := K) (a := l) (xs := rfs ts) (fun i H' => Same H H' ∧ H' D0 = some (.lst (cV ((topsOf ts).take i)))) ⟨Same.put nD0, upd_same⟩ (fun i H' _ h => SqL.of (h.1 _ _ el)) ?_ ?_
    · rintro i x H' hx ⟨s1, eD⟩
      obtain ⟨t, ht, mt, rfl⟩ := rfs_at hx
      have il := (List.getElem?_eq_some_iff.mp ht).1
      refine ⟨t.1, _, rfl, SqT.of (s1 _ _ (pi t mt).1), rfl, _, _, rfl, _, _, rfl, rfl, rfl, yes_of ?_⟩
      refine ⟨_, rfl, _, eD, by rw [List.length_map, List.length_take]; exact small_len (by omega), Same.but s1 nD0, ?_⟩
      have hh : (topsOf ts)[i]? = some t.2.1 := by rw [List.getElem?_map, ht]; rfl
      rw [upd_same, take_more hh, cV_snoc]
    · rintro H1 ⟨s1, eD⟩
      have eD : H1 D0 = some (.lst (cV (topsOf ts))) := by
        rw [rfs_len, show ts.length = (topsOf ts).length from (List.length_map _).symm, List.take_length] at eD; exact eD
      rw [cV_ints] at eD
      have p1 := hp.same s1
      have el1 := s1 _ _ el
      have pi1 := pi.same s1
      have k1 := Keep.of (a := a) s1
      refine ⟨D0, _, rfl, SqL.of eD, ?_⟩
      rw [sum_ints]
      generalize hW : (topsOf ts).sum = W at tl tle k ⊢
      have W1 : 1 ≤ W := by
        have m0 : ts[0]? = some (ts[0]'(by omega)) := List.getElem?_eq_getElem _
        have mm := List.mem_of_getElem? m0
        have := tle _ mm
        have := (pi _ mm).2.2.1
        omega
      refine ⟨_, rfl, a, 3, rfl, p1, by decide, by decide, fun y o y0 y1 ho => ?_⟩
      obtain ⟨p2, k12⟩ := drawn p1 (Keep.refl a H1) ho
      have k2 := k1.trans k12
      have el2 := k12 _ _ el1 la
      have pi2 := pi1.keep k12 p1
      generalize (upd H1 a o) = H2 at p2 k2 el2 pi2 ⊢
      have fin : ∀ D, D ≠ a → H D = none → ∀ H', PvG C a D n W ts H (rfs ts).length H' → ∃ x, V.ref D = V.ref x ∧ ∃ ys, (SqL K H' x ys ∧ ∀ l, H' l = none → Q (.ref l) (upd H' l (.tup ys))) ∨ (SqT K H' x ys ∧ Q (.ref x) H') := by
        intro D Da nDH H' ⟨k3, p3, gs, eDD, qg, ig⟩
        rw [rfs_len, List.take_length] at qg
        refine ⟨D, rfl, _, .inl ⟨SqL.of eDD, fun g ng => ?_⟩⟩
        have sg := Same.put (o := .tup (rfs gs)) ng
        exact k g gs _ (k3.trans (Keep.of sg)) (p3.same sg) upd_same qg fun u m => (ig u m).same sg
      refine ⟨rfl, _, rfl, iteA ?_ ?_⟩
      · refine ⟨_, rfl, l, rfl, ⟨_, SqL.of el2⟩, fun D nD => ?_⟩
        have Da := new_ne p2 nD
        have nDH := free_of k2 Da nD
        refine lc_list (K := K) (a := l) (xs := rfs ts) (fun i H' => Same H2 H' ∧ PvG C a D n W ts H i H') ⟨Same.put nD, k2.trans (Keep.of (Same.put nD)), p2.new nD, [], upd_same, rfl, fun _ m => by cases m⟩ (fun i H' _ h => SqL.of (h.1 _ _ el2)) ?_ ?_
        · rintro i x H' hx ⟨s1, pv⟩
          obtain ⟨t, ht, mt, rfl⟩ := rfs_at hx
          refine ⟨t.1, _, rfl, SqT.of (s1 _ _ (pi2 t mt).1), rfl, _, _, rfl, _, _, rfl, rfl, rfl, yes_of ?_⟩
          refine ⟨_, rfl, _, rfl, t.2.1, W, rfl, (pi t mt).2.2.1, tle t mt, by omega, fun x H3 s3 hn => ?_⟩
          refine ⟨_, rfl, by show 2 ≤ sizeLine; decide, fun p np => ?_⟩
          obtain ⟨acc, e1, e2, e3⟩ := pv.step ht Da nDH t4 ((pi2 t mt).same s1) s3 hn p np
          exact ⟨acc, e1, e2, Same.but (fun b u e => Same.put np _ _ (s3 _ _ (s1 _ _ e))) nD, e3⟩
        · rintro H' ⟨_, pv⟩
          obtain ⟨x, e, ys, q⟩ := fin D Da nDH H' pv
          exact ⟨x, ys, by rw [e], q⟩
      · refine ⟨_, rfl, l, rfl, ⟨_, SqL.of el2⟩, fun D nD => ?_⟩
        have Da := new_ne p2 nD
        have nDH := free_of k2 Da nD
        refine lc_list (K := K) (a := l) (xs := rfs ts) (fun i H' => Same H2 H' ∧ PvG C a D n W ts H i H') ⟨Same.put nD, k2.trans (Keep.of (Same.put nD)), p2.new nD, [], upd_same, rfl, fun _ m => by cases m⟩ (fun i H' _ h => SqL.of (h.1 _ _ el2)) ?_ ?_
        · rintro i x H' hx ⟨s1, pv⟩
          obtain ⟨t, ht, mt, rfl⟩ := rfs_at hx
          refine ⟨t.1, _, rfl, SqT.of (s1 _ _ (pi2 t mt).1), rfl, _, _, rfl, _, _, rfl, rfl, rfl, yes_of ?_⟩
          refine ⟨_, rfl, _, rfl, ?_⟩
          intro x dx hx hd ne
          refine si_ok hx hd ne (by omega) (nsm (by omega)) fun H3 s3 ex => ?_
          refine ⟨rfl, _, rfl, by show 2 ≤ sizeLine; decide, fun p np => ?_⟩
          obtain ⟨acc, e1, e2, e3⟩ := pv.step ht Da nDH t4 ((pi2 t mt).same s1) s3 (.inr ⟨x, dx, rfl, ex⟩) p np
          exact ⟨acc, e1, e2, Same.but (fun b u e => Same.put np _ _ (s3 _ _ (s1 _ _ e))) nD, e3⟩
        · rintro H' ⟨_, pv⟩
          obtain ⟨x, e, ys, q⟩ := fin D Da nDH H' pv
          exact ⟨x, ys, by rw [e], q⟩
end
end KD
set_option linter.all false
/-! words by breadth: the machine, its mirror on other keys, what its answers mean; pure -/
namespace Dw
section
variable {σ : Type} [DecidableEq σ]
def ex1 (f : σ → Nat → σ) (x : σ) (w : List Nat) (L : List (σ × List Nat)) (a : Nat) : List (σ × List Nat) := if f x a ∈ L.map (·.1) then L else L ++ [(f x a, w ++ [a])]
def exs (f : σ → Nat → σ) (k : Nat) (x : σ) (w : List Nat) (L : List (σ × List Nat)) : List (σ × List Nat) := (List.range k).foldl (ex1 f x w) L
def go (f : σ → Nat → σ) (lone : σ → Bool) (k : Nat) : Nat → Nat → List (σ × List Nat) → Option (List Nat)
  | 0, _, _ => none
  | n + 1, i, L => match L[i]? with
    | none => none
    | some e => if lone e.1 then some e.2 else go f lone k n (i + 1) (exs f k e.1 e.2 L)
theorem exs_succ (f : σ → Nat → σ) (k : Nat) (x : σ) (w : List Nat) (L : List (σ × List Nat)) : exs f (k + 1) x w L = ex1 f x w (exs f k x w L) k := by
  unfold exs
  rw [List.range_succ, List.foldl_append]
  rfl
theorem ex1_pre (f : σ → Nat → σ) (x : σ) (w : List Nat) (L : List (σ × List Nat)) (a : Nat) : L <+: ex1 f x w L a := by
  unfold ex1
  split
  · exact List.prefix_refl L
  · exact List.prefix_append L _
theorem exs_pre (f : σ → Nat → σ) (x : σ) (w : List Nat) (L : List (σ × List Nat)) : ∀ k, L <+: exs f k x w L
  | 0 => List.prefix_refl L
  | k + 1 => by rw [exs_succ]; exact (exs_pre f x w L k).trans (ex1_pre f x w _ k)
theorem mem_pre {α : Type} {L M : List α} (h : L <+: M) {x : α} (m : x ∈ L) : x ∈ M := by
  obtain ⟨t, rfl⟩ := h
  exact List.mem_append_left _ m
theorem at_pre {α : Type} {L M : List α} (h : L <+: M) {i : Nat} {x : α} (m : L[i]? = some x) : M[i]? = some x := by
  obtain ⟨t, rfl⟩ := h
  rw [List.getElem?_append_left (List.getElem?_eq_some_iff.mp m).1]
  exact m
theorem keys_pre {L M : List (σ × List Nat)} (h : L <+: M) {x : σ} (m : x ∈ L.map (·.1)) : x ∈ M.map (·.1) := by
  obtain ⟨t, rfl⟩ := h
  rw [List.map_append]
  exact List.mem_append_left _ m
theorem ex1_has (f : σ → Nat → σ) (x : σ) (w : List Nat) (L : List (σ × List Nat)) (a : Nat) : f x a ∈ (ex1 f x w L a).map (·.1) := by
  unfold ex1
  split
  · assumption
  · rw [List.map_append]; exact List.mem_append_right _ (List.mem_singleton.mpr rfl)
theorem exs_has (f : σ → Nat → σ) (x : σ) (w : List Nat) (L : List (σ × List Nat)) : ∀ k a, a < k → f x a ∈ (exs f k x w L).map (·.1)
  | k + 1, a, h => by
    rw [exs_succ]
    by_cases e : a = k
    · subst e; exact ex1_has f x w _ a
    · exact keys_pre (ex1_pre f x w _ k) (exs_has f x w L k a (by omega))
/-- what holds of all keys -/
structure Ok (f : σ → Nat → σ) (k : Nat) (P : σ → Prop) (x0 : σ) (L : List (σ × List Nat)) : Prop where
  p : ∀ e ∈ L, P e.1
  nd : (L.map (·.1)).Nodup
  w : ∀ e ∈ L, e.1 = e.2.foldl f x0 ∧ ∀ a ∈ e.2, a < k
theorem Ok.ex1 {f : σ → Nat → σ} {k : Nat} {P : σ → Prop} {x0 : σ} {L : List (σ × List Nat)} (h : Ok f k P x0 L) (cl : ∀ x a, P x → a < k → P (f x a)) {e : σ × List Nat} (m : e ∈ L) {a : Nat} (ha : a < k) : Ok f k P x0 (ex1 f e.1 e.2 L a) := by
  unfold Dw.ex1
  split
  · exact h
  · rename_i nm
    refine ⟨fun u hu => ?_, ?_, fun u hu => ?_⟩
    · rcases List.mem_append.mp hu with hu | hu
      · exact h.p u hu
      · rw [List.mem_singleton.mp hu]; exact cl _ _ (h.p e m) ha
    · rw [List.map_append, List.nodup_append]
      refine ⟨h.nd, by simp, fun x hx y hy => ?_⟩
      simp at hy
      subst hy
      exact fun z => nm (z ▸ hx)
    · rcases List.mem_append.mp hu with hu | hu
      · exact h.w u hu
      · rw [List.mem_singleton.mp hu]
        obtain ⟨h1, h2⟩ := h.w e m
        refine ⟨by rw [List.foldl_append, ← h1]; rfl, fun b hb => ?_⟩
        rcases List.mem_append.mp hb with hb | hb
        · exact h2 b hb
        · rw [List.mem_singleton.mp hb]; exact ha
theorem Ok.exs {f : σ → Nat → σ} {k : Nat} {P : σ → Prop} {x0 : σ} {L : List (σ × List Nat)} (h : Ok f k P x0 L) (cl : ∀ x a, P x → a < k → P (f x a)) {e : σ × List Nat} (m : e ∈ L) : ∀ j, j ≤ k → Ok f k P x0 (exs f j e.1 e.2 L)
  | 0, _ => h
  | j + 1, hj => by
    rw [exs_succ]
    exact (Ok.exs h cl m j (by omega)).ex1 cl (mem_pre (exs_pre f e.1 e.2 L j) m) (by omega)
theorem go_some {f : σ → Nat → σ} {lone : σ → Bool} {k : Nat} {P : σ → Prop} {x0 : σ} (cl : ∀ x a, P x → a < k → P (f x a)) : ∀ (n i : Nat) (L : List (σ × List Nat)) (w : List Nat), Ok f k P x0 L → go f lone k n i L = some w → P (w.foldl f x0) ∧ lone (w.foldl f x0) = true ∧ ∀ a ∈ w, a < k
  | 0, _, _, _, _, h => by cases h
  | n + 1, i, L, w, ok, h => by
    unfold go at h
    cases e : L[i]? with
    | none => rw [e] at h; cases h
    | some u =>
      rw [e] at h
      dsimp only at h
      have mu := List.mem_of_getElem? e
      by_cases l : lone u.1 = true
      · rw [if_pos l] at h
        cases h
        obtain ⟨h1, h2⟩ := ok.w u mu
        rw [← h1]
        exact ⟨ok.p u mu, l, h2⟩
      · rw [if_neg l] at h
        exact go_some cl n (i + 1) _ w (ok.exs cl mu k (Nat.le_refl _)) h
/-- no word: a closed list without a lone key -/
theorem go_none {f : σ → Nat → σ} {lone : σ → Bool} {k N : Nat} {P : σ → Prop} {x0 : σ} (cl : ∀ x a, P x → a < k → P (f x a)) (few : ∀ X : List σ, X.Nodup → (∀ x ∈ X, P x) → X.length ≤ N) :
    ∀ (n i : Nat) (L : List (σ × List Nat)), Ok f k P x0 L → i ≤ L.length → N < n + i → (∀ j e, j < i → L[j]? = some e → lone e.1 = false ∧ ∀ a, a < k → f e.1 a ∈ L.map (·.1)) → go f lone k n i L = none →
      ∃ L', L <+: L' ∧ Ok f k P x0 L' ∧ ∀ e ∈ L', lone e.1 = false ∧ ∀ a, a < k → f e.1 a ∈ L'.map (·.1)
  | 0, i, L, ok, le, hN, _, _ => by
    have := few (L.map (·.1)) ok.nd (fun x m => by obtain ⟨e, me, rfl⟩ := List.mem_map.mp m; exact ok.p e me)
    rw [List.length_map] at this
    omega
  | n + 1, i, L, ok, le, hN, done, h => by
    unfold go at h
    cases e : L[i]? with
    | none =>
      refine ⟨L, List.prefix_refl L, ok, fun u m => ?_⟩
      obtain ⟨j, hj⟩ := List.getElem?_of_mem m
      have : j < L.length := (List.getElem?_eq_some_iff.mp hj).1
      have : L.length ≤ i := List.getElem?_eq_none_iff.mp e
      exact done j u (by omega) hj
    | some u =>
      rw [e] at h
      dsimp only at h
      have mu := List.mem_of_getElem? e
      have li := (List.getElem?_eq_some_iff.mp e).1
      by_cases l : lone u.1 = true
      · rw [if_pos l] at h; cases h
      · rw [if_neg l] at h
        have pre := exs_pre f u.1 u.2 L k
        have plen : L.length ≤ (exs f k u.1 u.2 L).length := pre.length_le
        obtain ⟨L', p', ok', d'⟩ := go_none cl few n (i + 1) _ (ok.exs cl mu k (Nat.le_refl _)) (by omega) (by omega) (fun j v hj hv => by
          by_cases ji : j = i
          · subst ji
            rw [at_pre pre e] at hv
            cases hv
            exact ⟨by cases q : lone u.1 with | true => exact absurd q l | false => rfl, fun a ha => exs_has f u.1 u.2 L k a ha⟩
          · have hv' : L[j]? = some v := by
              have lj : j < L.length := by omega
              rw [at_pre pre (List.getElem?_eq_getElem lj)] at hv
              rw [← hv]
              exact List.getElem?_eq_getElem lj
            obtain ⟨d1, d2⟩ := done j v (by omega) hv'
            exact ⟨d1, fun a ha => keys_pre pre (d2 a ha)⟩) h
        exact ⟨L', pre.trans p', ok', d'⟩
end
/-! the same on other keys -/
section
variable {σ τ : Type} [DecidableEq σ] [DecidableEq τ]
abbrev im (g : σ → τ) (L : List (σ × List Nat)) : List (τ × List Nat) := L.map fun e => (g e.1, e.2)
theorem im_keys (g : σ → τ) (L : List (σ × List Nat)) : (im g L).map (·.1) = (L.map (·.1)).map g := by
  rw [im, List.map_map, List.map_map]
  rfl
theorem ex1_im {f : σ → Nat → σ} {f' : τ → Nat → τ} {g : σ → τ} {k : Nat} {P : σ → Prop} (cl : ∀ x a, P x → a < k → P (f x a)) (inj : ∀ x y, P x → P y → g x = g y → x = y) (com : ∀ x a, P x → a < k → f' (g x) a = g (f x a))
    {L : List (σ × List Nat)} (hp : ∀ e ∈ L, P e.1) {e : σ × List Nat} (m : e ∈ L) {a : Nat} (ha : a < k) : ex1 f' (g e.1) e.2 (im g L) a = im g (ex1 f e.1 e.2 L a) := by
  unfold ex1
  rw [com e.1 a (hp e m) ha, im_keys]
  by_cases c : f e.1 a ∈ L.map (·.1)
  · rw [if_pos c, if_pos (List.mem_map_of_mem c)]
  · rw [if_neg c, if_neg (fun z => by
      obtain ⟨y, my, q⟩ := List.mem_map.mp z
      obtain ⟨u, mu, rfl⟩ := List.mem_map.mp my
      exact c (inj _ _ (hp u mu) (cl _ _ (hp e m) ha) q ▸ my))]
    rw [im, im, List.map_append]
    rfl
theorem exs_im {f : σ → Nat → σ} {f' : τ → Nat → τ} {g : σ → τ} {k : Nat} {P : σ → Prop} {x0 : σ} (cl : ∀ x a, P x → a < k → P (f x a)) (inj : ∀ x y, P x → P y → g x = g y → x = y) (com : ∀ x a, P x → a < k → f' (g x) a = g (f x a))
    {L : List (σ × List Nat)} (ok : Ok f k P x0 L) {e : σ × List Nat} (m : e ∈ L) : ∀ j, j ≤ k → exs f' j (g e.1) e.2 (im g L) = im g (exs f j e.1 e.2 L)
  | 0, _ => rfl
  | j + 1, hj => by
    rw [exs_succ, exs_succ, exs_im cl inj com ok m j (by omega)]
    exact ex1_im cl inj com (ok.exs cl m j (by omega)).p (mem_pre (exs_pre f e.1 e.2 L j) m) (by omega)
theorem go_im {f : σ → Nat → σ} {f' : τ → Nat → τ} {g : σ → τ} {lone : σ → Bool} {lone' : τ → Bool} {k : Nat} {P : σ → Prop} {x0 : σ} (cl : ∀ x a, P x → a < k → P (f x a)) (inj : ∀ x y, P x → P y → g x = g y → x = y)
    (com : ∀ x a, P x → a < k → f' (g x) a = g (f x a)) (ln : ∀ x, P x → lone' (g x) = lone x) : ∀ (n i : Nat) (L : List (σ × List Nat)), Ok f k P x0 L → go f' lone' k n i (im g L) = go f lone k n i L
  | 0, _, _, _ => rfl
  | n + 1, i, L, ok => by
    unfold go
    rw [im, List.getElem?_map]
    cases e : L[i]? with
    | none => rfl
    | some u =>
      have mu := List.mem_of_getElem? e
      show (if lone' (g u.1) then some u.2 else _) = _
      rw [ln u.1 (ok.p u mu)]
      dsimp only
      by_cases l : lone u.1 = true
      · rw [if_pos l, if_pos l]
      · rw [if_neg l, if_neg l]
        rw [show (L.map fun e => (g e.1, e.2)) = im g L from rfl, exs_im cl inj com ok mu k (Nat.le_refl _)]
        exact go_im cl inj com ln n (i + 1) _ (ok.exs cl mu k (Nat.le_refl _))
end
end Dw
set_option linter.all false
/-! ascending sets of states, their masks; pairs that can be led together -/
namespace Dw
/-- the states to which these are led -/
def led (n : Nat) (m : Nat → Nat) (x : List Nat) : List Nat := (List.range n).filter fun t => decide (t ∈ x.map m)
/-- an ascending list of states, not empty -/
structure Asc (n : Nat) (x : List Nat) : Prop where
  ne : x ≠ []
  up : x.Pairwise (· < ·)
  lt : ∀ s ∈ x, s < n
theorem range_up (n : Nat) : (List.range n).Pairwise (· < ·) := List.pairwise_lt_range
theorem mem_led {n : Nat} {m : Nat → Nat} {x : List Nat} {t : Nat} : t ∈ led n m x ↔ t < n ∧ ∃ s ∈ x, m s = t := by
  unfold led
  rw [List.mem_filter, List.mem_range, decide_eq_true_eq, List.mem_map]
theorem Asc.led {n : Nat} {m : Nat → Nat} {x : List Nat} (h : Asc n x) (hm : ∀ s, s < n → m s < n) : Asc n (led n m x) := by
  refine ⟨fun e => ?_, (range_up n).sublist (List.filter_sublist ..), fun s hs => (mem_led.mp hs).1⟩
  obtain ⟨s, ms⟩ := List.exists_mem_of_ne_nil x h.ne
  have : m s ∈ Dw.led n m x := mem_led.mpr ⟨hm s (h.lt s ms), s, ms, rfl⟩
  rw [e] at this
  cases this
theorem asc_ext : ∀ {x y : List Nat}, x.Pairwise (· < ·) → y.Pairwise (· < ·) → (∀ t, t ∈ x ↔ t ∈ y) → x = y
  | [], [], _, _, _ => rfl
  | [], b :: y, _, _, h => by have := (h b).mpr List.mem_cons_self; cases this
  | a :: x, [], _, _, h => by have := (h a).mp List.mem_cons_self; cases this
  | a :: x, b :: y, hx, hy, h => by
    rw [List.pairwise_cons] at hx hy
    have e : a = b := by
      have h1 := (h a).mp List.mem_cons_self
      have h2 := (h b).mpr List.mem_cons_self
      rcases List.mem_cons.mp h1 with q | q
      · exact q
      · rcases List.mem_cons.mp h2 with r | r
        · exact r.symm
        · have := hy.1 a q; have := hx.1 b r; omega
    subst e
    rw [asc_ext hx.2 hy.2 fun t => ?_]
    constructor
    · intro m
      rcases List.mem_cons.mp ((h t).mp (List.mem_cons_of_mem _ m)) with q | q
      · have := hx.1 t m; omega
      · exact q
    · intro m
      rcases List.mem_cons.mp ((h t).mpr (List.mem_cons_of_mem _ m)) with q | q
      · have := hy.1 t m; omega
      · exact q
theorem Asc.filt {n : Nat} {x : List Nat} (h : Asc n x) : x = (List.range n).filter fun t => decide (t ∈ x) := by
  refine asc_ext h.up ((range_up n).sublist (List.filter_sublist ..)) fun t => ?_
  rw [List.mem_filter, List.mem_range, decide_eq_true_eq]
  exact ⟨fun m => ⟨h.lt t m, m⟩, fun m => m.2⟩
theorem asc_range {n : Nat} (h : 0 < n) : Asc n (List.range n) := ⟨fun e => by have := congrArg List.length e; rw [List.length_range] at this; exact absurd this (by simp; omega), range_up n, fun s m => List.mem_range.mp m⟩
/-! masks -/
def mask (x : List Nat) : Nat := x.foldl (fun m s => m ||| (1 <<< s)) 0
theorem bit_fold : ∀ (x : List Nat) (m t : Nat), (x.foldl (fun m s => m ||| (1 <<< s)) m).testBit t = (m.testBit t || decide (t ∈ x))
  | [], m, t => by simp
  | s :: x, m, t => by
    rw [List.foldl_cons, bit_fold x _ t, Nat.testBit_or, Nat.one_shiftLeft, Nat.testBit_two_pow, Bool.or_assoc]
    congr 1
    by_cases e : s = t
    · subst e; simp
    · have : ¬ t = s := fun z => e z.symm
      simp [e, this]
theorem bit_mask (x : List Nat) (t : Nat) : (mask x).testBit t = decide (t ∈ x) := by
  unfold mask
  rw [bit_fold, Nat.zero_testBit, Bool.false_or]
theorem mask_inj {n : Nat} {x y : List Nat} (hx : Asc n x) (hy : Asc n y) (e : mask x = mask y) : x = y := by
  refine asc_ext hx.up hy.up fun t => ?_
  have h1 := bit_mask x t
  rw [e, bit_mask y t] at h1
  exact (decide_eq_decide.mp h1).symm
theorem mask_lt {n : Nat} {x : List Nat} (h : Asc n x) : mask x < 2 ^ n := by
  refine Nat.lt_pow_two_of_testBit _ fun i hi => ?_
  rw [bit_mask]
  exact decide_eq_false fun m => by have := h.lt i m; omega
theorem mask_pos {n : Nat} {x : List Nat} (h : Asc n x) : 0 < mask x := by
  obtain ⟨s, ms⟩ := List.exists_mem_of_ne_nil x h.ne
  refine Nat.pos_of_ne_zero fun e => ?_
  have := bit_mask x s
  rw [e, Nat.zero_testBit, decide_eq_true ms] at this
  cases this
theorem mask_is {x : List Nat} {m : Nat} (h : ∀ t, m.testBit t = true ↔ t ∈ x) : m = mask x := by
  refine Nat.eq_of_testBit_eq fun t => ?_
  rw [bit_mask]
  by_cases e : t ∈ x
  · rw [decide_eq_true e]; exact (h t).mpr e
  · rw [decide_eq_false e]
    cases q : m.testBit t with
    | true => exact absurd ((h t).mp q) e
    | false => rfl
theorem sub_len : ∀ (S pl : List Nat), S.Nodup → (∀ x ∈ S, x ∈ pl) → S.length ≤ pl.length
  | [], _, _, _ => Nat.zero_le _
  | a :: r, pl, nd, h => by
    rw [List.nodup_cons] at nd
    have ma := h a List.mem_cons_self
    have ih := sub_len r (pl.erase a) nd.2 fun x m => (List.mem_erase_of_ne (fun e => nd.1 (by rw [← e]; exact m))).mpr (h x (List.mem_cons_of_mem _ m))
    rw [List.length_erase_of_mem ma] at ih
    have := List.length_pos_of_mem ma
    rw [List.length_cons]
    omega
theorem few_below (N : Nat) (X : List Nat) (nd : X.Nodup) (h : ∀ x ∈ X, x < N) : X.length ≤ N := by
  have := sub_len X (List.range N) nd fun x m => List.mem_range.mpr (h x m)
  rwa [List.length_range] at this
theorem nodup_map {α : Type} {P : α → Prop} {g : α → Nat} (inj : ∀ x y, P x → P y → g x = g y → x = y) : ∀ {X : List α}, X.Nodup → (∀ x ∈ X, P x) → (X.map g).Nodup
  | [], _, _ => List.nodup_nil
  | a :: X, nd, h => by
    rw [List.nodup_cons] at nd
    rw [List.map_cons, List.nodup_cons]
    refine ⟨fun m => ?_, nodup_map inj nd.2 fun x mx => h x (List.mem_cons_of_mem _ mx)⟩
    obtain ⟨y, my, e⟩ := List.mem_map.mp m
    exact nd.1 (inj _ _ (h y (List.mem_cons_of_mem _ my)) (h a List.mem_cons_self) e ▸ my)
theorem few_asc {n : Nat} (X : List (List Nat)) (nd : X.Nodup) (h : ∀ x ∈ X, Asc n x) : X.length ≤ 2 ^ n - 1 := by
  have d := nodup_map (P := Asc n) (g := fun x => mask x - 1) (fun x y hx hy e => mask_inj hx hy (by have := mask_pos hx; have := mask_pos hy; omega)) nd h
  have := few_below (2 ^ n - 1) (X.map fun x => mask x - 1) d fun k m => by
    obtain ⟨x, mx, rfl⟩ := List.mem_map.mp m
    have := mask_lt (h x mx)
    have := mask_pos (h x mx)
    omega
  rwa [List.length_map] at this
/-! lone: one state -/
def lone (x : List Nat) : Bool := x.length == 1
def lone' (m : Nat) : Bool := (m &&& (m - 1)) == 0
theorem lone_bits : ∀ m : Fin 256, m.1 ≠ 0 → lone' m.1 = (((List.range 8).filter fun t => m.1.testBit t).length == 1) := by decide +kernel
theorem filter_more {n : Nat} (x : List Nat) (h : ∀ s ∈ x, s < n) : ∀ d, ((List.range (n + d)).filter fun t => decide (t ∈ x)) = (List.range n).filter fun t => decide (t ∈ x)
  | 0 => rfl
  | d + 1 => by
    rw [show n + (d + 1) = (n + d) + 1 from rfl, List.range_succ, List.filter_append, filter_more x h d]
    rw [show ([n + d].filter fun t => decide (t ∈ x)) = [] from by
      rw [List.filter_cons, if_neg (by rw [decide_eq_true_eq]; intro m; have := h _ m; omega)]; rfl]
    exact List.append_nil _
theorem lone_mask {n : Nat} (h8 : n ≤ 8) {x : List Nat} (h : Asc n x) : lone' (mask x) = lone x := by
  have l8 : mask x < 256 := Nat.lt_of_lt_of_le (mask_lt h) (Nat.pow_le_pow_right (by decide) h8 : 2 ^ n ≤ 2 ^ 8)
  have h1 := lone_bits ⟨mask x, l8⟩ (by have := mask_pos h; show mask x ≠ 0; omega)
  dsimp only at h1
  rw [h1]
  unfold lone
  have e : ((List.range 8).filter fun t => (mask x).testBit t) = x := by
    have f := h.filt
    have g := filter_more x h.lt (8 - n)
    rw [show n + (8 - n) = 8 by omega] at g
    rw [show (fun t => (mask x).testBit t) = fun t => decide (t ∈ x) from funext fun t => bit_mask x t, g, ← f]
  rw [e]
end Dw
set_option linter.all false
/-! pairs that can be led together -/
namespace Dw
abbrev half (a b : Nat) : Nat × Nat := (min a b, max a b)
structure AbleS (n k : Nat) (m : Nat → Nat → Nat) (S : List (Nat × Nat)) : Prop where
  rk : ∀ (A : List (Nat × Nat)) (p : Nat × Nat) (B : List (Nat × Nat)), S = A ++ p :: B → ∃ a, a < k ∧ ((half (m a p.1) (m a p.2)).1 = (half (m a p.1) (m a p.2)).2 ∨ half (m a p.1) (m a p.2) ∈ A)
  cl : ∀ p : Nat × Nat, p.1 < p.2 → p.2 < n → p ∉ S → ∀ a, a < k → (half (m a p.1) (m a p.2)).1 ≠ (half (m a p.1) (m a p.2)).2 ∧ half (m a p.1) (m a p.2) ∉ S
abbrev runS (m : Nat → Nat → Nat) (w : List Nat) (s : Nat) : Nat := w.foldl (fun s a => m a s) s
abbrev runX (n : Nat) (m : Nat → Nat → Nat) (w : List Nat) (x : List Nat) : List Nat := w.foldl (fun x a => led n (m a) x) x
theorem half_eq {a b : Nat} : (half a b).1 = (half a b).2 ↔ a = b := by
  show min a b = max a b ↔ a = b
  omega
theorem runX_mem {n k : Nat} {m : Nat → Nat → Nat} (hm : ∀ a s, a < k → s < n → m a s < n) : ∀ (w : List Nat) (x : List Nat), (∀ s ∈ x, s < n) → (∀ a ∈ w, a < k) → ∀ t, t ∈ runX n m w x ↔ ∃ s ∈ x, runS m w s = t
  | [], x, _, _, t => by simp [runX, runS]
  | a :: w, x, hx, hw, t => by
    have ha := hw a List.mem_cons_self
    show t ∈ runX n m w (led n (m a) x) ↔ _
    rw [runX_mem hm w (led n (m a) x) (fun s h => (mem_led.mp h).1) (fun b hb => hw b (List.mem_cons_of_mem _ hb)) t]
    constructor
    · rintro ⟨s, hs, e⟩
      obtain ⟨_, u, hu, rfl⟩ := mem_led.mp hs
      exact ⟨u, hu, e⟩
    · rintro ⟨u, hu, e⟩
      exact ⟨m a u, mem_led.mpr ⟨hm a u ha (hx u hu), u, hu, rfl⟩, e⟩
theorem apart {n k : Nat} {m : Nat → Nat → Nat} {S : List (Nat × Nat)} (h : AbleS n k m S) (hm : ∀ a s, a < k → s < n → m a s < n) : ∀ (w : List Nat), (∀ a ∈ w, a < k) → ∀ p : Nat × Nat, p.1 < p.2 → p.2 < n → p ∉ S → runS m w p.1 ≠ runS m w p.2
  | [], _, p, l, _, _ => by show p.1 ≠ p.2; omega
  | a :: w, hw, p, l, ln, ns => by
    have ha := hw a List.mem_cons_self
    obtain ⟨h1, h2⟩ := h.cl p l ln ns a ha
    have b1 := hm a p.1 ha (by omega)
    have b2 := hm a p.2 ha ln
    have ih := apart h hm w (fun b hb => hw b (List.mem_cons_of_mem _ hb)) (half (m a p.1) (m a p.2)) (by
      have : min (m a p.1) (m a p.2) ≠ max (m a p.1) (m a p.2) := h1
      show min (m a p.1) (m a p.2) < max (m a p.1) (m a p.2)
      omega) (by show max (m a p.1) (m a p.2) < n; omega) h2
    show runS m w (m a p.1) ≠ runS m w (m a p.2)
    intro e
    apply ih
    show runS m w (min (m a p.1) (m a p.2)) = runS m w (max (m a p.1) (m a p.2))
    rcases Nat.le_total (m a p.1) (m a p.2) with q | q
    · rw [Nat.min_eq_left q, Nat.max_eq_right q]; exact e
    · rw [Nat.min_eq_right q, Nat.max_eq_left q]; exact e.symm
theorem lone_one {x : List Nat} (h : lone x = true) : ∃ c, x = [c] := by
  unfold lone at h
  have h := of_decide_eq_true (p := x.length = 1) (by simpa using h)
  exact List.length_eq_one_iff.mp h
/-- a word that leads all states to one -/
theorem word_all {n k : Nat} {m : Nat → Nat → Nat} (hm : ∀ a s, a < k → s < n → m a s < n) {w : List Nat} (hw : ∀ a ∈ w, a < k) (h : lone (runX n m w (List.range n)) = true) : ∀ s t, s < n → t < n → runS m w s = runS m w t := by
  obtain ⟨c, e⟩ := lone_one h
  have key : ∀ s, s < n → runS m w s = c := fun s hs => by
    have := (runX_mem hm w (List.range n) (fun s h => List.mem_range.mp h) hw (runS m w s)).mpr ⟨s, List.mem_range.mpr hs, rfl⟩
    rw [e] at this
    exact List.mem_singleton.mp this
  intro s t hs ht
  rw [key s hs, key t ht]
theorem all_able {n k : Nat} {m : Nat → Nat → Nat} {S : List (Nat × Nat)} (h : AbleS n k m S) (hm : ∀ a s, a < k → s < n → m a s < n) {w : List Nat} (hw : ∀ a ∈ w, a < k) (hl : lone (runX n m w (List.range n)) = true) (p : Nat × Nat) (l : p.1 < p.2) (ln : p.2 < n) : p ∈ S := by
  by_cases q : p ∈ S
  · exact q
  · exact absurd (word_all hm hw hl p.1 p.2 (by omega) ln) (apart h hm w hw p l ln q)
theorem led_le {n : Nat} {m : Nat → Nat} {x : List Nat} : (led n m x).length ≤ x.length := by
  have := sub_len (led n m x) (x.map m) ((range_up n).imp (fun h => by omega) |>.sublist (List.filter_sublist ..)) fun t ht => by
    obtain ⟨_, s, hs, e⟩ := mem_led.mp ht
    exact e ▸ List.mem_map_of_mem hs
  rwa [List.length_map] at this
theorem led_less {n : Nat} {m : Nat → Nat} {x : List Nat} {s t : Nat} (hs : s ∈ x) (ht : t ∈ x) (ne : s ≠ t) (e : m s = m t) : (led n m x).length < x.length := by
  have := sub_len (led n m x) ((x.erase t).map m) ((range_up n).imp (fun h => by omega) |>.sublist (List.filter_sublist ..)) fun u hu => by
    obtain ⟨_, v, hv, q⟩ := mem_led.mp hu
    by_cases c : v = t
    · subst c
      exact q ▸ e ▸ List.mem_map_of_mem ((List.mem_erase_of_ne ne).mpr hs)
    · exact q ▸ List.mem_map_of_mem ((List.mem_erase_of_ne c).mpr hv)
  rw [List.length_map, List.length_erase_of_mem ht] at this
  have := List.length_pos_of_mem ht
  omega
theorem smaller {n k : Nat} {m : Nat → Nat → Nat} {S : List (Nat × Nat)} (h : AbleS n k m S) {X : List (List Nat)} (hX : ∀ x ∈ X, Asc n x) (cl : ∀ x ∈ X, ∀ a, a < k → led n (m a) x ∈ X) (hm : ∀ a s, a < k → s < n → m a s < n) :
    ∀ (i : Nat) (p : Nat × Nat), S[i]? = some p → p.1 ≠ p.2 → ∀ x ∈ X, p.1 ∈ x → p.2 ∈ x → ∃ y ∈ X, y.length < x.length := by
  intro i
  induction i using Nat.strongRecOn with
  | ind i ih =>
    intro p hp ne x hx h1 h2
    have li := (List.getElem?_eq_some_iff.mp hp).1
    have hs : S = S.take i ++ p :: S.drop (i + 1) := by
      have e := (List.getElem?_eq_some_iff.mp hp).2
      rw [← e]
      exact (List.take_append_drop i S).symm.trans (by rw [List.drop_eq_getElem_cons li])
    obtain ⟨a, ha, q⟩ := h.rk _ _ _ hs
    have hy := cl x hx a ha
    rcases q with q | q
    · exact ⟨_, hy, led_less h1 h2 ne (half_eq.mp q)⟩
    · by_cases c : m a p.1 = m a p.2
      · exact ⟨_, hy, led_less h1 h2 ne c⟩
      · obtain ⟨j, hj⟩ := List.getElem?_of_mem q
        have lj := (List.getElem?_eq_some_iff.mp hj).1
        rw [List.length_take] at lj
        rw [List.getElem?_take] at hj
        rw [if_pos (by omega)] at hj
        have i1 : m a p.1 ∈ led n (m a) x := mem_led.mpr ⟨hm a _ ha ((hX x hx).lt _ h1), _, h1, rfl⟩
        have i2 : m a p.2 ∈ led n (m a) x := mem_led.mpr ⟨hm a _ ha ((hX x hx).lt _ h2), _, h2, rfl⟩
        obtain ⟨y, my, ly⟩ := ih j (by omega) _ hj (fun z => c (half_eq.mp z)) _ hy (by
          show min (m a p.1) (m a p.2) ∈ _
          rcases Nat.le_total (m a p.1) (m a p.2) with r | r
          · rw [Nat.min_eq_left r]; exact i1
          · rw [Nat.min_eq_right r]; exact i2) (by
          show max (m a p.1) (m a p.2) ∈ _
          rcases Nat.le_total (m a p.1) (m a p.2) with r | r
          · rw [Nat.max_eq_right r]; exact i2
          · rw [Nat.max_eq_left r]; exact i1)
        exact ⟨y, my, Nat.lt_of_lt_of_le ly led_le⟩
/-- no lone set among closed ones: a pair is stuck -/
theorem some_stuck {n k : Nat} {m : Nat → Nat → Nat} {S : List (Nat × Nat)} (h : AbleS n k m S) (hm : ∀ a s, a < k → s < n → m a s < n) {X : List (List Nat)} (hX : ∀ x ∈ X, Asc n x ∧ lone x = false) (cl : ∀ x ∈ X, ∀ a, a < k → led n (m a) x ∈ X) {x0 : List Nat} (m0 : x0 ∈ X) : ∃ p : Nat × Nat, p.1 < p.2 ∧ p.2 < n ∧ p ∉ S := by
  refine Classical.byContradiction fun no => ?_
  have all : ∀ p : Nat × Nat, p.1 < p.2 → p.2 < n → p ∈ S := fun p h1 h2 => Classical.byContradiction fun q => no ⟨p, h1, h2, q⟩
  have none : ∀ l, ∀ x ∈ X, x.length = l → False := by
    intro l
    induction l using Nat.strongRecOn with
    | ind l ih =>
      intro x hx e
      obtain ⟨ax, lx⟩ := hX x hx
      match x, ax, lx, hx, e with
      | [], ax, _, _, _ => exact ax.ne rfl
      | [c], _, lx, _, _ => exact absurd lx (by simp [lone])
      | s :: t :: r, ax, _, hx, e =>
        have st : s < t := (List.pairwise_cons.mp ax.up).1 t List.mem_cons_self
        have tn := ax.lt t (List.mem_cons_of_mem _ List.mem_cons_self)
        obtain ⟨i, hi⟩ := List.getElem?_of_mem (all (s, t) st tn)
        obtain ⟨y, my, ly⟩ := smaller h (fun x hx => (hX x hx).1) cl hm i (s, t) hi (by show s ≠ t; omega) _ hx List.mem_cons_self (List.mem_cons_of_mem _ List.mem_cons_self)
        exact ih y.length (by rw [← e]; exact ly) y my rfl
  exact none _ x0 m0 rfl
end Dw
set_option Elab.async false
set_option linter.all false
set_option maxRecDepth 100000
set_option maxHeartbeats 4000000
namespace KD
open PySem L2
/-! ### masks -/
theorem bitNot_twice (i : Int) : Builtin.bitNot (Builtin.bitNot i) = i := by unfold Builtin.bitNot; omega
theorem bitOr_nat (a b : Nat) : Builtin.bitOr (a : Int) (b : Int) = ((a ||| b : Nat) : Int) := by
  unfold Builtin.bitOr Builtin.bitAnd
  rw [show decide (0 ≤ Builtin.bitNot (a : Int)) = false from decide_eq_false (by unfold Builtin.bitNot; omega), show decide (0 ≤ Builtin.bitNot (b : Int)) = false from decide_eq_false (by unfold Builtin.bitNot; omega)]
  show Builtin.bitNot (Builtin.bitNot _) = _
  rw [bitNot_twice, bitNot_twice, bitNot_twice, Int.toNat_natCast, Int.toNat_natCast]
def ledM (ws : List Nat) (M : Nat) : Nat → Nat
  | 0 => 0
  | j + 1 => if M.testBit j then ledM ws M j ||| 2 ^ ws.getD j 0 else ledM ws M j
theorem ledM_bit (ws : List Nat) (M t : Nat) : ∀ j, (ledM ws M j).testBit t = true ↔ ∃ s, s < j ∧ M.testBit s = true ∧ ws.getD s 0 = t
  | 0 => by simp [ledM]
  | j + 1 => by
    unfold ledM
    by_cases c : M.testBit j = true
    · rw [if_pos c, Nat.testBit_or, Bool.or_eq_true, ledM_bit ws M t j, Nat.testBit_two_pow, decide_eq_true_eq]
      constructor
      · rintro (⟨s, h1, h2, h3⟩ | h)
        · exact ⟨s, by omega, h2, h3⟩
        · exact ⟨j, by omega, c, h⟩
      · rintro ⟨s, h1, h2, h3⟩
        by_cases e : s = j
        · subst e; exact .inr h3
        · exact .inl ⟨s, by omega, h2, h3⟩
    · rw [if_neg c, ledM_bit ws M t j]
      constructor
      · rintro ⟨s, h1, h2, h3⟩; exact ⟨s, by omega, h2, h3⟩
      · rintro ⟨s, h1, h2, h3⟩
        exact ⟨s, by
          have : s ≠ j := fun e => c (e ▸ h2)
          omega, h2, h3⟩
/-- the mask of the states that these are led to -/
theorem ledM_mask {n : Nat} {ws : List Nat} (h : IsMap n ws) {x : List Nat} (hx : Dw.Asc n x) : ledM ws (Dw.mask x) n = Dw.mask (Dw.led n (fun s => ws.getD s 0) x) := by
  refine Dw.mask_is fun t => ?_
  rw [ledM_bit, Dw.mem_led]
  constructor
  · rintro ⟨s, h1, h2, h3⟩
    rw [Dw.bit_mask, decide_eq_true_eq] at h2
    refine ⟨?_, s, h2, h3⟩
    rw [← h3, List.getD, List.getElem?_eq_getElem (by rw [h.1]; exact h1)]
    exact h.2 _ (List.getElem_mem _)
  · rintro ⟨h1, s, h2, h3⟩
    exact ⟨s, hx.lt s h2, by rw [Dw.bit_mask]; exact decide_eq_true h2, h3⟩
def spLedMask : Sp := fun vs H Q _ => ∃ (M n : Nat) (t : Addr) (ws : List Nat), vs = [.int (M : Int), .ref t] ∧ MapAt n H t ws ∧ n ≤ 8 ∧ Q (.int (ledM ws M n : Nat)) H
def spLone : Sp := fun vs H Q _ => ∃ M : Nat, vs = [.int (M : Int)] ∧ 1 ≤ M ∧ Q (.bl (Dw.lone' M)) H
section
variable {P : Program} {w : World} {K : PySem.W.Frag} {mg : Str → Option Value} {base : Heap} {C : Addr}
abbrev s_led_mask : Stmt := top 54
theorem sc_led_mask : FnScope ["_law_mask", "_law_led", "_law_found", "_law_s"] ["_law_mask", "_law_led"] (defScope s_led_mask) := ⟨rfl, rfl, rfl, by decide +kernel, rfl, by decide +kernel, by decide +kernel⟩
theorem ok_led_mask {f : Addr} {fd : FuncData} (F : Fun K "_law_led_mask" "_law_led_mask" s_led_mask f fd) (T : Bm mg) : FnOk P w K mg base CX0 1 f fd ["_law_mask", "_law_led"] spLedMask := by
  refine F.ok sc_led_mask (fun vs H Q E h => ?_) (fun cdv A outer s H vs Q E hr h => ?_)
  · obtain ⟨M, n, t, ws, rfl, _⟩ := h
    rfl
  · obtain ⟨M, n, t, ws, rfl, mt, n8, k⟩ := h
    refine ⟨_, (pss_cons (ps_set (i := 2) sc_led_mask.nd rfl (Or.inl rfl) pe_int)
      (pss_cons (ps_for PassesOwn.never rfl (pi_range1 (by rfl) T.n_range (pa_cons (pe_callB call_len_seq (by rfl) T.b.n_len PySem.boot_len (pa_cons (pv 1) pa_nil)) pa_nil)) (pg_name (i := 3) sc_led_mask.nd rfl (Or.inl rfl))
        (pss_one (ps_if (pt_cmpR op_eq (pe_op op_odd (pe_op op_shrN (pv 0) (pv 3)) pe_int) pe_int (nomark _))
          (pss_one (ps_set (i := 2) sc_led_mask.nd rfl (Or.inl rfl) (pe_op op_or (pv 2) (pe_op op_oneShl pe_int (pe_ix (show IxR _ (rIx K) from ix_seq) (pv 1) (pv 3) (fun _ _ => rfl))))))
          pss_nil)))
      (pss_one (ps_ret (pv 2))))), ?_⟩
    have ln : (cV ws).length = n := by rw [List.length_map, mt.2.1]
    refine ⟨_, rfl, t, _, rfl, .inr (SqT.of mt.1), _, rfl, by rw [ln]; omega, by rw [ln]; omega, ?_⟩
    rw [ln, Int.toNat_natCast]
    refine for_range (fun i σ H' => ∃ v3 : Option V, σ = [some (.int (M : Int)), some (.ref t), some (.int (ledM ws M i : Nat)), v3] ∧ H' = H) ⟨none, rfl, rfl⟩ ?_ ?_
    · rintro i σ H' hi ⟨v3, rfl, rfl⟩
      rw [Int.zero_add]
      have gi : ws[i]? = some (ws[i]'(by rw [mt.2.1]; exact hi)) := List.getElem?_eq_getElem _
      have bi := mt.2.2 _ (List.mem_of_getElem? gi)
      have gd : ws.getD i 0 = ws[i]'(by rw [mt.2.1]; exact hi) := by rw [List.getD, gi]; rfl
      have sh : ((M : Int) / 2 ^ i) = ((M / 2 ^ i : Nat) : Int) := by simp
      have tb : M.testBit i = decide (M / 2 ^ i % 2 = 1) := Nat.testBit_eq_decide_div_mod_eq
      refine ⟨_, rfl, _, rfl, (M : Int), i, rfl, rfl, M / 2 ^ i, by rw [sh], rfl, rfl, _, rfl, ite2 (fun z => ?_) (fun z => ?_)⟩
      · have z := of_decide_eq_true z
        rw [V.int.injEq] at z
        refine ⟨_, rfl, _, rfl, _, rfl, .inr (.inl ⟨t, _, _, _, rfl, rfl, SqT.of mt.1, atI_nat (cV_at gi), _, rfl, rfl, by omega, ?_⟩)⟩
        refine ⟨_, _, rfl, rfl, some (.int (i : Int)), ?_, rfl⟩
        dsimp only
        rw [show ((2 : Int) ^ (ws[i]'(by rw [mt.2.1]; exact hi))) = ((2 ^ (ws[i]'(by rw [mt.2.1]; exact hi)) : Nat) : Int) by simp, bitOr_nat]
        have c : M.testBit i = true := by rw [tb, decide_eq_true_eq]; omega
        rw [show ledM ws M (i + 1) = ledM ws M i ||| 2 ^ ws.getD i 0 from by rw [ledM, if_pos c], gd]
        rfl
      · have c : ¬ M.testBit i = true := fun q => z (by rw [tb, decide_eq_true_eq] at q; rw [q]; rfl)
        refine ⟨some (.int (i : Int)), ?_, rfl⟩
        rw [show ledM ws M (i + 1) = ledM ws M i from by rw [ledM, if_neg c]]
        rfl
    · rintro σ H' ⟨v3, rfl, rfl⟩
      exact ⟨_, rfl, k⟩
abbrev s_is_lone : Stmt := top 55
theorem sc_is_lone : FnScope ["_law_mask"] ["_law_mask"] (defScope s_is_lone) := ⟨rfl, rfl, rfl, by decide +kernel, rfl, by decide +kernel, by decide +kernel⟩
theorem ok_is_lone {f : Addr} {fd : FuncData} (F : Fun K "_law_is_lone" "_law_is_lone" s_is_lone f fd) : FnOk P w K mg base CX0 1 f fd ["_law_mask"] spLone := by
  refine F.ok sc_is_lone (fun vs H Q E h => ?_) (fun cdv A outer s H vs Q E hr h => ?_)
  · obtain ⟨M, rfl, _⟩ := h
    rfl
  · obtain ⟨M, rfl, M1, k⟩ := h
    refine ⟨_, (pss_one (ps_ret (pe_cmpR op_eq (pe_op op_and (pv 0) (pe_op op_sub (pv 0) pe_int)) pe_int (nomark _)))), ?_⟩
    refine ⟨_, rfl, _, rfl, (M : Int), 1, rfl, rfl, _, _, rfl, rfl, rfl, ?_⟩
    rw [show ((M : Int) - 1) = ((M - 1 : Nat) : Int) by omega]
    have e : decide (V.int (Builtin.bitAnd (M : Int) ((M - 1 : Nat) : Int)) = V.int 0) = Dw.lone' M := by
      rw [show Builtin.bitAnd (M : Int) ((M - 1 : Nat) : Int) = ((M &&& (M - 1) : Nat) : Int) from rfl]
      unfold Dw.lone'
      rw [Bool.eq_iff_iff, decide_eq_true_eq, V.int.injEq, beq_iff_eq]
      omega
    show Q (.bl (decide (V.int (Builtin.bitAnd (M : Int) ((M - 1 : Nat) : Int)) = V.int 0))) H
    rw [e]
    exact k
end
end KD
set_option Elab.async false
set_option linter.all false
set_option maxRecDepth 100000
set_option maxHeartbeats 4000000
namespace KD
open PySem L2
theorem hu_of {k : Nat} {A : Around} (r : Room k A) : A.units + 1 < cLine := by
  have := r.un
  omega
abbrev kyI (t : Nat) : Key := Sum.inl (t : Int)
theorem valV_none {kvs : List (Key × V)} {k : Key} (h : k ∉ kvs.map (·.1)) : valV kvs k = none := by
  unfold valV
  rw [List.find?_eq_none.mpr fun x m q => h (List.mem_map.mpr ⟨x, m, of_decide_eq_true q⟩)]
  rfl
/-! ### the law's own search -/
abbrev mkE {κ : Type} (es : List (κ × (Addr × List Nat))) : List (κ × List Nat) := es.map fun e => (e.1, e.2.2)
theorem mkE_snoc {κ : Type} {es : List (κ × (Addr × List Nat))} {e : κ × (Addr × List Nat)} : mkE (es ++ [e]) = mkE es ++ [(e.1, e.2.2)] := by rw [mkE, List.map_append]; rfl
theorem mkE_keys {κ : Type} (es : List (κ × (Addr × List Nat))) : (mkE es).map (·.1) = es.map (·.1) := by rw [mkE, List.map_map]; rfl
abbrev kvM (es : List (Nat × (Addr × List Nat))) : List (Key × V) := es.map fun e => (kyI e.1, V.ref e.2.1)
theorem kvM_keys (es : List (Nat × (Addr × List Nat))) : (kvM es).map (·.1) = (es.map (·.1)).map kyI := by rw [kvM, List.map_map, List.map_map]; rfl
theorem kyI_mem {t : Nat} {l : List Nat} : kyI t ∈ l.map kyI ↔ t ∈ l := ⟨fun m => by obtain ⟨s, ms, e⟩ := List.mem_map.mp m; have : s = t := Int.ofNat.inj (Sum.inl.inj e); exact this ▸ ms, fun m => List.mem_map_of_mem m⟩
theorem kvM_none {es : List (Nat × (Addr × List Nat))} {M : Nat} (h : M ∉ es.map (·.1)) : valV (kvM es) (kyI M) = none := valV_none (by rw [kvM_keys]; exact fun m => h (kyI_mem.mp m))
theorem kvM_at : ∀ {es : List (Nat × (Addr × List Nat))}, (es.map (·.1)).Nodup → ∀ {e : Nat × (Addr × List Nat)}, e ∈ es → valV (kvM es) (kyI e.1) = some (.ref e.2.1)
  | x :: es, nd, e, m => by
    rw [List.map_cons, List.nodup_cons] at nd
    rcases List.mem_cons.mp m with rfl | m
    · exact valV_pos rfl
    · rw [kvM, List.map_cons, valV_neg (fun z => nd.1 (by
        have : x.1 = e.1 := Int.ofNat.inj (Sum.inl.inj z)
        rw [this]; exact List.mem_map_of_mem m))]
      exact kvM_at nd.2 m
theorem kvM_some {es : List (Nat × (Addr × List Nat))} (nd : (es.map (·.1)).Nodup) (M : Nat) : (valV (kvM es) (kyI M)).isSome = decide (M ∈ es.map (·.1)) := by
  by_cases h : M ∈ es.map (·.1)
  · obtain ⟨e, me, rfl⟩ := List.mem_map.mp h
    rw [kvM_at nd me, decide_eq_true h]
    rfl
  · rw [kvM_none h, decide_eq_false h]
    rfl
theorem kvM_put {es : List (Nat × (Addr × List Nat))} {M : Nat} {c : Addr} {w : List Nat} (h : M ∉ es.map (·.1)) : putK (kvM es) (kyI M) (.ref c) = kvM (es ++ [(M, (c, w))]) := by
  rw [putK_new _ (kvM_none h), kvM, kvM, List.map_append]
  rfl
def PM (n M : Nat) : Prop := 1 ≤ M ∧ M < 2 ^ n
theorem ledM_lt {n : Nat} {ws : List Nat} (h : IsMap n ws) (M : Nat) : ledM ws M n < 2 ^ n := by
  refine Nat.lt_pow_two_of_testBit _ fun i hi => ?_
  cases q : (ledM ws M n).testBit i with
  | false => rfl
  | true =>
    obtain ⟨s, h1, _, h3⟩ := (ledM_bit ws M i n).mp q
    have : ws.getD s 0 < n := by
      rw [List.getD, List.getElem?_eq_getElem (by rw [h.1]; exact h1)]
      exact h.2 _ (List.getElem_mem _)
    omega
theorem ledM_pos {n : Nat} {ws : List Nat} {M : Nat} (hM : PM n M) : 1 ≤ ledM ws M n := by
  refine Nat.pos_of_ne_zero fun e => ?_
  obtain ⟨s, hs⟩ := Nat.exists_testBit_of_ne_zero (x := M) (by have := hM.1; omega)
  have sn : s < n := by
    refine Classical.byContradiction fun q => ?_
    have := Nat.testBit_lt_two_pow (Nat.lt_of_lt_of_le hM.2 (Nat.pow_le_pow_right (by decide) (by omega : n ≤ s)))
    rw [this] at hs
    cases hs
  have := (ledM_bit ws M (ws.getD s 0) n).mpr ⟨s, sn, hs, rfl⟩
  rw [e, Nat.zero_testBit] at this
  cases this
abbrev stM (n : Nat) (wss : List (List Nat)) (M a : Nat) : Nat := ledM (wss.getD a []) M n
theorem stM_cl {n : Nat} {wss : List (List Nat)} (h : ∀ ws ∈ wss, IsMap n ws) (M a : Nat) (hM : PM n M) (ha : a < wss.length) : PM n (stM n wss M a) := by
  have m : wss.getD a [] ∈ wss := by
    rw [List.getD, List.getElem?_eq_getElem ha]
    exact List.getElem_mem _
  exact ⟨ledM_pos hM, ledM_lt (h _ m) M⟩
/-- told: a word, or None -/
def WordR (H : Hp) (r : V) : Option (List Nat) → Prop
  | none => r = .non
  | some w => ∃ t, r = .ref t ∧ H t = some (.tup (cV w))
def goM (n : Nat) (wss : List (List Nat)) : Option (List Nat) := Dw.go (stM n wss) Dw.lone' wss.length (2 ^ n) 0 [(2 ^ n - 1, [])]
def spWord : Sp := fun vs H Q _ => ∃ (l : Addr) (n : Nat) (ms : List (Addr × List Nat)), vs = [.ref l, .int (n : Int)] ∧ 1 ≤ n ∧ n ≤ 8 ∧ H l = some (.lst (rfs ms)) ∧ MapsIn n H ms ∧ ms.length ≤ 4 ∧ ∀ (r : V) (H' : Hp), Same H H' → WordR H' r (goM n (ms.map (·.2))) → Q r H'
/-- the search's state -/
structure WSt (H H' : Hp) (d q : Addr) (n : Nat) (wss : List (List Nat)) (es : List (Nat × (Addr × List Nat))) : Prop where
  s : Same H H'
  nd : H d = none
  nq : H q = none
  ne : d ≠ q
  ed : H' d = some (.dK (kvM es))
  eq : H' q = some (.lst (cV (es.map (·.1))))
  it : ∀ e ∈ es, H' e.2.1 = some (.tup (cV e.2.2))
  ok : Dw.Ok (stM n wss) wss.length (PM n) (2 ^ n - 1) (mkE es)
  ln : ∀ e ∈ es, e.2.2.length ≤ es.length
theorem WSt.nodup {H H' : Hp} {d q : Addr} {n : Nat} {wss : List (List Nat)} {es : List (Nat × (Addr × List Nat))} (h : WSt H H' d q n wss es) : (es.map (·.1)).Nodup := by
  have := h.ok.nd
  rwa [mkE_keys] at this
theorem WSt.few {H H' : Hp} {d q : Addr} {n : Nat} {wss : List (List Nat)} {es : List (Nat × (Addr × List Nat))} (h : WSt H H' d q n wss es) (n8 : n ≤ 8) : es.length ≤ 256 := by
  have := Dw.few_below (2 ^ n) (es.map (·.1)) h.nodup fun x m => by
    obtain ⟨e, me, rfl⟩ := List.mem_map.mp m
    exact (h.ok.p (e.1, e.2.2) (List.mem_map.mpr ⟨e, me, rfl⟩)).2
  rw [List.length_map] at this
  exact Nat.le_trans this (Nat.pow_le_pow_right (by decide) n8 : 2 ^ n ≤ 2 ^ 8)
end KD
set_option Elab.async false
set_option linter.all false
set_option maxRecDepth 100000
set_option maxHeartbeats 4000000
namespace KD
open PySem L2
theorem WSt.more {H H' H2 : Hp} {d q : Addr} {n : Nat} {wss : List (List Nat)} {es : List (Nat × (Addr × List Nat))} (h : WSt H H' d q n wss es) (s : Same H' H2) {t : Addr} {w : List Nat} {M : Nat} (et : H2 t = some (.tup (cV w)))
    (ok : Dw.Ok (stM n wss) wss.length (PM n) (2 ^ n - 1) (mkE (es ++ [(M, (t, w))]))) (nm : M ∉ es.map (·.1)) (hl : w.length ≤ es.length + 1) :
    WSt H (upd (upd H2 d (.dK (putK (kvM es) (kyI M) (.ref t)))) q (.lst (cV (es.map (·.1)) ++ [.int (M : Int)]))) d q n wss (es ++ [(M, (t, w))]) := by
  have nt : ∀ {a : Addr} {xs : List V}, H2 a = some (.tup xs) → a ≠ d ∧ a ≠ q := fun e => ⟨fun z => (by rw [z, s _ _ h.ed] at e; cases e), fun z => (by rw [z, s _ _ h.eq] at e; cases e)⟩
  refine ⟨Same.but (Same.but (h.s.trans s) h.nd) h.nq, h.nd, h.nq, h.ne, ?_, ?_, fun e m => ?_, ok, fun e m => ?_⟩
  · rw [upd_ne h.ne, upd_same, kvM_put nm]
  · rw [upd_same, cV_snoc, List.map_append]
    rfl
  · have k : H2 e.2.1 = some (.tup (cV e.2.2)) := by
      rcases List.mem_append.mp m with m | m
      · exact s _ _ (h.it e m)
      · rw [List.mem_singleton.mp m]; exact et
    obtain ⟨z1, z2⟩ := nt k
    rw [upd_ne z2, upd_ne z1]
    exact k
  · rw [List.length_append]
    show e.2.2.length ≤ es.length + 1
    rcases List.mem_append.mp m with m | m
    · have := h.ln e m; omega
    · rw [List.mem_singleton.mp m]; exact hl
theorem map_get {n : Nat} {H : Hp} {ms : List (Addr × List Nat)} (h : MapsIn n H ms) {j : Nat} (hj : j < ms.length) : ∃ t, ms[j]? = some t ∧ MapAt n H t.1 t.2 ∧ (ms.map (·.2)).getD j [] = t.2 := by
  have g : ms[j]? = some ms[j] := List.getElem?_eq_getElem hj
  refine ⟨ms[j], g, h _ (List.getElem_mem hj), ?_⟩
  rw [List.getD, List.getElem?_map, g]
  rfl
section
variable {P : Program} {w : World} {K : PySem.W.Frag} {mg : Str → Option Value} {base : Heap} {C : Addr}
abbrev s_word : Stmt := top 56
abbrev nWo : List Str := ["_law_maps", "_law_size", "_law_words", "_law_queue", "_law_turn", "_law_mask", "_law_index", "_law_behind"]
theorem sc_word : FnScope nWo ["_law_maps", "_law_size"] (defScope s_word) := ⟨rfl, rfl, rfl, by decide +kernel, rfl, by decide +kernel, by decide +kernel⟩
theorem ok_word {f : Addr} {fd : FuncData} (F : Fun K "_law_word" "_law_word" s_word f fd) (T : Bm mg) (c_lone : Cal P w K mg base 1 "_law_is_lone" ["_law_mask"] spLone)
    (c_lm : Cal P w K mg base 1 "_law_led_mask" ["_law_mask", "_law_led"] spLedMask) : FnOk P w K mg base CX0 2 f fd ["_law_maps", "_law_size"] spWord := by
  refine F.ok sc_word (fun vs H Q E h => ?_) (fun cdv A outer s H vs Q E hr h => ?_)
  · obtain ⟨l, n, ms, rfl, _⟩ := h
    rfl
  · obtain ⟨l, n, ms, rfl, n1, n8, el, mi, m4, k⟩ := h
    have hu := hu_of hr
    refine ⟨_, (pss_cons (ps_set (i := 2) sc_word.nd rfl (Or.inl rfl) pe_dnewK)
      (pss_cons (ps_dput (by exact hu) (pv 2) (pe_op op_sub (pe_op op_oneShl pe_int (pv 1)) pe_int) (pe_tup pa_nil) rfl)
      (pss_cons (ps_set (i := 3) sc_word.nd rfl (Or.inl rfl) (pe_lst (pa_cons (pe_op op_sub (pe_op op_oneShl pe_int (pv 1)) pe_int) pa_nil)))
      (pss_cons (ps_for PassesOwn.never rfl (pi_range1 (by rfl) T.n_range (pa_cons (pe_op op_oneShl pe_int (pv 1)) pa_nil)) (pg_name (i := 4) sc_word.nd rfl (Or.inl rfl))
        (pss_cons (ps_if (pt_cmpR op_eq (pv 4) (pe_callB call_len_seq (by rfl) T.b.n_len PySem.boot_len (pa_cons (pv 3) pa_nil)) (nomark _))
          (pss_one ps_break)
          pss_nil)
        (pss_cons (ps_set (i := 5) sc_word.nd rfl (Or.inl rfl) (pe_ix ix_list (pv 3) (pv 4) (fun _ _ => rfl)))
        (pss_cons (ps_if (pt_val (pe_cal c_lone (hr.mono (by decide)) rfl (pa_cons (pv 5) pa_nil)))
          (pss_one (ps_ret (pe_dget (by exact hu) (pv 2) (pv 5) (by intro _ _; rfl))))
          pss_nil)
        (pss_one (ps_for PassesOwn.never rfl (pi_range1 (by rfl) T.n_range (pa_cons (pe_callB call_len_seq (by rfl) T.b.n_len PySem.boot_len (pa_cons (pv 0) pa_nil)) pa_nil)) (pg_name (i := 6) sc_word.nd rfl (Or.inl rfl))
          (pss_cons (ps_set (i := 7) sc_word.nd rfl (Or.inl rfl) (pe_cal c_lm (hr.mono (by decide)) rfl (pa_cons (pv 5) (pa_cons (pe_ix ix_list (pv 0) (pv 6) (fun _ _ => rfl)) pa_nil))))
            (pss_one (ps_if (pt_cmp (pc_dnotin (by exact hu) (pv 7) (pv 2)) (by rfl))
              (pss_cons (ps_dput (by exact hu) (pv 2) (pv 7) (pe_op op_catA (pe_dget (by exact hu) (pv 2) (pv 5) (by intro _ _; rfl)) (pe_tup (pa_cons (pv 6) pa_nil))) rfl)
                (pss_one (ps_expr (pe_bm PySem.F.plainAttrs_list PySem.F.slot_list_append PySem.F.type_list_append mt_append (pv 3) (pa_cons (pv 7) pa_nil)))))
              pss_nil)))))))))
      (pss_one (ps_ret pe_non)))))), ?_⟩
    intro d nd
    generalize hws : ms.map (·.2) = wss at k
    have lw : wss.length = ms.length := by rw [← hws, List.length_map]
    have mw : ∀ ws ∈ wss, IsMap n ws := fun ws m => by
      rw [← hws] at m
      obtain ⟨t, mt, rfl⟩ := List.mem_map.mp m
      exact (mi t mt).2
    have cl : ∀ x a, PM n x → a < wss.length → PM n (stM n wss x a) := fun x a => stM_cl mw x a
    have p2 : ∀ m : Nat, ((2 : Int) ^ m) = ((2 ^ m : Nat) : Int) := fun m => by simp
    have pos : 1 ≤ 2 ^ n := Nat.one_le_two_pow
    have pos2 : 2 ≤ 2 ^ n := (Nat.pow_le_pow_right (by decide) n1 : 2 ^ 1 ≤ 2 ^ n)
    have p8 : 2 ^ n ≤ 2 ^ 8 := Nat.pow_le_pow_right (by decide) n8
    have e0 : ((2 : Int) ^ n - 1) = ((2 ^ n - 1 : Nat) : Int) := by rw [p2]; omega
    have s1 := Same.put (o := .dK []) nd
    have ed : (upd H d (.dK [])) d = some (.dK []) := upd_same
    generalize (upd H d (.dK [])) = H1 at s1 ed ⊢
    refine ⟨by show 0 ≤ sizeLine; decide, fun t nt => ?_⟩
    have s2 := Same.put (o := .tup (cV [])) nt
    have et : (upd H1 t (.tup (cV []))) t = some (.tup (cV [])) := upd_same
    have ed2 := s2 _ _ ed
    have s02 := s1.trans s2
    show tVar 2 _ (upd H1 t (.tup (cV []))) _
    generalize (upd H1 t (.tup (cV []))) = H2 at et ed2 s02 ⊢
    refine ⟨_, rfl, _, rfl, n, rfl, rfl, by omega, _, 1, rfl, rfl, ?_⟩
    dsimp only
    rw [e0]
    refine ⟨d, _, rfl, DPut.k (k := kyI (2 ^ n - 1)) ed2 (by decide), ?_⟩
    refine ⟨_, rfl, n, rfl, rfl, by omega, _, 1, rfl, rfl, by show 1 ≤ sizeLine; decide, fun q nq => ?_⟩
    dsimp only at nq ⊢
    rw [e0]
    have nq2 : H2 q = none ∧ q ≠ d := by
      by_cases z : q = d
      · rw [z, upd_same] at nq; cases nq
      · rw [upd_ne z] at nq; exact ⟨nq, z⟩
    have st0 : WSt H (upd (upd H2 d (.dK (putK [] (kyI (2 ^ n - 1)) (.ref t)))) q (.lst [.int ((2 ^ n - 1 : Nat) : Int)])) d q n wss [(2 ^ n - 1, (t, []))] := by
      have tne : t ≠ d ∧ t ≠ q := ⟨fun z => (by rw [z, ed2] at et; cases et), fun z => (by rw [z, nq2.1] at et; cases et)⟩
      refine ⟨Same.but (Same.but s02 nd) (s02.free nq2.1), nd, s02.free nq2.1, Ne.symm nq2.2, ?_, upd_same, fun e m => ?_, ⟨fun e m => ?_, ?_, fun e m => ?_⟩, fun e m => ?_⟩
      · rw [upd_ne (Ne.symm nq2.2), upd_same]; rfl
      · rw [List.mem_singleton.mp m, upd_ne tne.2, upd_ne tne.1]; exact et
      · rw [List.mem_singleton.mp m]; exact ⟨by show 1 ≤ 2 ^ n - 1; omega, by show 2 ^ n - 1 < 2 ^ n; omega⟩
      · simp
      · rw [List.mem_singleton.mp m]; exact ⟨rfl, fun a m => by cases m⟩
      · rw [List.mem_singleton.mp m]; exact Nat.zero_le _
    have el0 := st0.s _ _ el
    have mi0 := mi.same st0.s
    generalize (upd (upd H2 d (.dK (putK [] (kyI (2 ^ n - 1)) (.ref t)))) q (.lst [.int ((2 ^ n - 1 : Nat) : Int)])) = H3 at st0 el0 mi0 ⊢
    refine ⟨_, rfl, n, rfl, rfl, by omega, _, rfl, by rw [p2]; omega, by rw [p2]; omega, ?_⟩
    rw [p2, Int.toNat_natCast]
    refine for_range (fun i σ H' => ∃ (v4 v5 v6 v7 : Option V) (es : List (Nat × (Addr × List Nat))), σ = [some (.ref l), some (.int (n : Int)), some (.ref d), some (.ref q), v4, v5, v6, v7] ∧ WSt H H' d q n wss es ∧ i ≤ es.length ∧ goM n wss = Dw.go (stM n wss) Dw.lone' wss.length (2 ^ n - i) i (mkE es))
      ⟨none, none, none, none, _, rfl, st0, Nat.zero_le _, rfl⟩ ?_ ?_
    · rintro i σ H4 hi ⟨v4, v5, v6, v7, es, rfl, st, ile, hg⟩
      rw [Int.zero_add]
      have fw := st.few n8
      have nd4 := st.nodup
      have lq : (cV (es.map (·.1))).length = es.length := by rw [List.length_map, List.length_map]
      refine ⟨_, rfl, _, rfl, q, _, rfl, .inl (SqL.of st.eq), rfl, _, rfl, ite2 (fun z => ?_) (fun z => ?_)⟩
      · have z := of_decide_eq_true z
        rw [V.int.injEq, lq] at z
        refine k .non H4 st.s ?_
        rw [hg, show 2 ^ n - i = (2 ^ n - i - 1) + 1 by omega]
        unfold Dw.go
        rw [List.getElem?_eq_none (by rw [List.length_map]; omega)]
        rfl
      · have z : i ≠ es.length := fun e => z (decide_eq_true (by rw [V.int.injEq, lq]; omega))
        have il : i < es.length := by omega
        have ge : es[i]? = some es[i] := List.getElem?_eq_getElem il
        have me := List.mem_of_getElem? ge
        generalize es[i] = e at ge me
        have ge1 : (es.map (·.1))[i]? = some e.1 := by rw [List.getElem?_map, ge]; rfl
        have ge2 : (mkE es)[i]? = some (e.1, e.2.2) := by rw [List.getElem?_map, ge]; rfl
        have pm : PM n e.1 := st.ok.p (e.1, e.2.2) (List.mem_of_getElem? ge2)
        rw [show 2 ^ n - i = (2 ^ n - (i + 1)) + 1 by omega] at hg
        unfold Dw.go at hg
        rw [ge2] at hg
        dsimp only at hg
        refine ⟨_, rfl, _, rfl, q, _, _, _, rfl, rfl, SqL.of st.eq, atI_nat (cV_at ge1), ?_⟩
        refine ⟨_, rfl, e.1, rfl, pm.1, _, rfl, iteB (fun z => ?_) (fun z => ?_)⟩
        · rw [if_pos z] at hg
          refine ⟨_, rfl, _, rfl, d, .ref e.2.1, rfl, .inl ⟨_, kyI e.1, Rd.of st.ed, rfl, (kvM_at nd4 me).symm⟩, k _ H4 st.s ?_⟩
          rw [hg]
          exact ⟨_, rfl, st.it e me⟩
        · rw [if_neg (by rw [z]; decide)] at hg
          have lm : (rfs ms).length = wss.length := by rw [rfs_len, lw]
          refine ⟨_, rfl, l, _, rfl, .inl (SqL.of (st.s _ _ el)), _, rfl, by rw [lm]; omega, by rw [lm]; omega, ?_⟩
          rw [lm, Int.toNat_natCast]
          refine for_range (fun j σ H' => ∃ (v6 v7 : Option V) (es' : List (Nat × (Addr × List Nat))), σ = [some (.ref l), some (.int (n : Int)), some (.ref d), some (.ref q), some (.int (i : Int)), some (.int (e.1 : Int)), v6, v7] ∧ WSt H H' d q n wss es' ∧ mkE es' = Dw.exs (stM n wss) j e.1 e.2.2 (mkE es) ∧ e ∈ es' ∧ i < es'.length)
            ⟨v6, v7, es, rfl, st, rfl, me, il⟩ ?_ ?_
          · rintro j σ H5 hj ⟨v6, v7, es', rfl, st5, q5, me5, il5⟩
            rw [Int.zero_add]
            obtain ⟨t, ht, mt, gt⟩ := map_get mi (j := j) (by omega)
            have ht2 : (rfs ms)[j]? = some (.ref t.1) := by rw [rfs, List.getElem?_map, ht]; rfl
            rw [hws] at gt
            have nd5 := st5.nodup
            have fw5 := st5.few n8
            have ok5 := st.ok.exs cl (e := (e.1, e.2.2)) (List.mem_of_getElem? ge2) (j + 1) (by omega)
            rw [Dw.exs_succ, ← q5] at ok5
            have hM : ledM t.2 e.1 n = stM n wss e.1 j := by show _ = ledM (wss.getD j []) e.1 n; rw [gt]
            refine ⟨_, rfl, _, rfl, _, rfl, l, _, _, _, rfl, rfl, SqL.of (st5.s _ _ el), atI_nat ht2, e.1, n, t.1, t.2, rfl, mt.same st5.s, n8, ?_⟩
            rw [hM]
            generalize hMM : stM n wss e.1 j = M at ok5
            refine ⟨_, rfl, _, rfl, d, valV (kvM es') (kyI M), rfl, .inl ⟨_, kyI M, Rd.of st5.ed, rfl, rfl⟩, _, rfl, ?_⟩
            rw [kvM_some nd5]
            by_cases c : M ∈ es'.map (·.1)
            · refine iteFe (by rw [decide_eq_true c]; rfl) ?_
              refine ⟨_, _, es', rfl, st5, ?_, me5, il5⟩
              rw [Dw.exs_succ, ← q5, Dw.ex1, hMM, if_pos (by rw [mkE_keys]; exact c)]
            · refine iteTe (by rw [decide_eq_false c]; rfl) ?_
              have qe : Dw.ex1 (stM n wss) e.1 e.2.2 (mkE es') j = mkE es' ++ [(M, e.2.2 ++ [j])] := by
                rw [Dw.ex1, hMM, if_neg (by rw [mkE_keys]; exact c)]
              have fin : ∀ (u : Addr) (H6 : Hp), Same H5 H6 → H6 u = some (.tup (cV (e.2.2 ++ [j]))) → ∃ (v6 v7 : Option V) (es2 : List (Nat × (Addr × List Nat))), [some (.ref l), some (.int (n : Int)), some (.ref d), some (.ref q), some (.int (i : Int)), some (.int (e.1 : Int)), some (.int (j : Int)), some (.int (M : Int))] = [some (.ref l), some (.int (n : Int)), some (.ref d), some (.ref q), some (.int (i : Int)), some (.int (e.1 : Int)), v6, v7] ∧ WSt H (upd (upd H6 d (.dK (putK (kvM es') (kyI M) (.ref u)))) q (.lst (cV (es'.map (·.1)) ++ [.int (M : Int)]))) d q n wss es2 ∧ mkE es2 = Dw.exs (stM n wss) (j + 1) e.1 e.2.2 (mkE es) ∧ e ∈ es2 ∧ i < es2.length := by
                intro u H6 s6 eu
                refine ⟨_, _, es' ++ [(M, (u, e.2.2 ++ [j]))], rfl, st5.more s6 eu (by rw [mkE_snoc, ← qe]; exact ok5) c (by have := st5.ln e me5; rw [List.length_append]; show e.2.2.length + 1 ≤ _; omega), ?_, List.mem_append_left _ me5, by rw [List.length_append]; omega⟩
                rw [mkE_snoc, ← qe, Dw.exs_succ, ← q5]
              refine ⟨_, rfl, _, rfl, d, .ref e.2.1, rfl, .inl ⟨_, kyI e.1, Rd.of st5.ed, rfl, (kvM_at nd5 me5).symm⟩, _, rfl, by show 1 ≤ sizeLine; decide, fun b nb => ?_⟩
              have sb := Same.put (o := .tup (cV [j])) nb
              have eb : (upd H5 b (.tup (cV [j]))) b = some (.tup (cV [j])) := upd_same
              have ew := sb _ _ (st5.it e me5)
              show rCatA K (.ref e.2.1) (.ref b) (upd H5 b (.tup (cV [j]))) _
              generalize (upd H5 b (.tup (cV [j]))) = H6 at sb eb ew ⊢
              refine ⟨e.2.1, b, cV e.2.2, cV [j], rfl, rfl, SqT.of ew, SqT.of eb, ?_, fun z => ?_, fun _ z => (by cases z), fun _ _ u nu => ?_⟩
              · have := st5.ln e me5
                rw [List.length_map]
                exact Nat.le_of_lt (small_len (n := e.2.2.length + 1) (by omega))
              · have z0 : e.2.2 = [] := List.map_eq_nil_iff.mp z
                have e1 : H6 b = some (.tup (cV (e.2.2 ++ [j]))) := by rw [z0]; exact eb
                exact ⟨_, rfl, _, rfl, d, _, rfl, DPut.k (k := kyI M) (sb _ _ st5.ed) (by rw [kvM, List.length_map]; exact small_len (by omega)), _, rfl, .inl ⟨rfl, _, SqL.of (by rw [upd_ne (Ne.symm st5.ne)]; exact sb _ _ st5.eq)⟩, _, rfl, q, _, _, rfl, rfl, by rw [upd_ne (Ne.symm st5.ne)]; exact sb _ _ st5.eq, by rw [List.length_map, List.length_map]; exact small_len (by omega), fin b H6 sb e1⟩
              · have su := Same.put (o := .tup (cV e.2.2 ++ cV [j])) nu
                have eu : (upd H6 u (.tup (cV e.2.2 ++ cV [j]))) u = some (.tup (cV (e.2.2 ++ [j]))) := by rw [upd_same, cV, cV, cV, List.map_append]
                have s57 := sb.trans su
                generalize (upd H6 u (.tup (cV e.2.2 ++ cV [j]))) = H7 at eu s57 ⊢
                exact ⟨_, rfl, _, rfl, d, _, rfl, DPut.k (k := kyI M) (s57 _ _ st5.ed) (by rw [kvM, List.length_map]; exact small_len (by omega)), _, rfl, .inl ⟨rfl, _, SqL.of (by rw [upd_ne (Ne.symm st5.ne)]; exact s57 _ _ st5.eq)⟩, _, rfl, q, _, _, rfl, rfl, by rw [upd_ne (Ne.symm st5.ne)]; exact s57 _ _ st5.eq, by rw [List.length_map, List.length_map]; exact small_len (by omega), fin u H7 s57 eu⟩
          · rintro σ H5 ⟨v6, v7, es', rfl, st5, q5, me5, il5⟩
            refine ⟨_, _, _, _, es', rfl, st5, by omega, ?_⟩
            rw [hg, q5]
    · rintro σ H4 ⟨v4, v5, v6, v7, es, rfl, st, _, hg⟩
      refine k .non H4 st.s ?_
      rw [hg, Nat.sub_self]
      rfl
end
end KD
set_option Elab.async false
set_option linter.all false
set_option maxRecDepth 100000
set_option maxHeartbeats 4000000
/-! set(xs), xs a list of ints -/
namespace L2
open PySem PySem.Spec PyProof.Rows
open AutoSeq1 (wpAny_loadPart')
theorem call_set_listI {P : Program} {w : World} {A : Around} {E : Value → Shared → Prop} {s : Shared} {l : Addr} {items : Array Value} (ns : List Int) {Q : Value → Shared → Prop} (hh : A.handled = none) (hl : s.heap.IsList l items) (hit : IntsAre items.toList ns) (hb : ns.length + 1 < scanBound)
    (h : ∀ (h' : Heap) (tk c : Nat), SetR w h' s.heap.objs.size (fun j => decide (j ∈ ns)) c → c ≤ ns.length → (∀ (b : Addr) (o : Obj), s.heap.get? b = some o → h'.get? b = some o) → Q (Value.ref s.heap.objs.size) { heap := h', gens := s.gens, drawn := s.drawn, toks := tk, os := s.os }) :
    wpAny (model P w) A (call (Value.type "set") [Value.ref l]) Q E s := by
  have hisz : items.size = ns.length := by have q := hit.length; rwa [Array.length_toList] at q
  obtain ⟨c, tl, hmro⟩ := F.called_set.mro
  have hmade := F.called_set.made
  have hsub := F.called_set.sub
  refine wpAny_call (codeAny_of_tree ?_)
  refine wpAny_pure ⟨Code.quiet_builtin _ (by decide +kernel), codeAny_builtin F.entry_type_call ?_⟩
  rw [Around.under_plain (weight_type_call_type "set" [Value.ref l] []) rfl]
  have h1 := F.called_set.notType
  have h2 := F.called_set.canCreate
  have hct := F.typeCall_set_1 (Value.ref l)
  unfold Builtin.«type.__call__»
  dsimp only
  refine wpAny_ite_false (by rfl) ?_
  refine wpAny_ite_false (by rfl) ?_
  refine wpAny_bind (wpAny_of_eq hct ?_)
  refine wpAny_bind (wpAny_of_eq hmro ?_)
  refine wpAny_ite_false rfl ?_
  refine wpAny_bind (wpAny_of_eq hmade ?_)
  dsimp only
  refine wpAny_bind ?_
  refine wpAny_pure ?_
  refine wpAny_bind (wpAny_holding (wpAny_call ?_))
  refine codeAny_mono (code_set_led1 (w := w) (s := s) (E := E) (Q₁ := fun obj s₁ => obj = Value.ref s.heap.objs.size ∧ s₁ = { heap := s.heap.push { cls := Value.type "set", data := Data.set #[] 0 (SetTable.fresh 0 0 !w.params.followText "set-order") }, gens := s.gens, drawn := s.drawn, toks := s.toks, os := s.os }) (Value.ref l) ⟨rfl, rfl⟩) fun r s₁ hr => ?_
  rcases r with e | fl
  · exact hr
  rcases fl with _ | _ | _ | obj
  · exact hr.elim
  · exact hr.elim
  · exact hr.elim
  obtain ⟨left, right⟩ := hr
  subst left right
  have hS : (s.heap.push { cls := Value.type "set", data := Data.set #[] 0 (SetTable.fresh 0 0 !w.params.followText "set-order") }).get? s.heap.objs.size = some { cls := Value.type "set", data := Data.set #[] 0 (SetTable.fresh 0 0 !w.params.followText "set-order") } := Heap.get?_push_size s.heap rfl
  have hT : ({ heap := s.heap.push { cls := Value.type "set", data := Data.set #[] 0 (SetTable.fresh 0 0 !w.params.followText "set-order") }, gens := s.gens, drawn := s.drawn, toks := s.toks, os := s.os } : Shared).TypeIs (Value.ref s.heap.objs.size) "set" := ⟨_, hS, rfl⟩
  have hli := F.called_set.init.lookup
  have hbi := F.called_set.init.bind (Value.ref s.heap.objs.size)
  refine wpAny_bind (wpAny_isInstance hT hsub ?_)
  refine wpAny_ite_false (by rfl) ?_
  refine wpAny_bind (wpAny_holding ?_)
  unfold callSpecial?
  refine wpAny_bind (wpAny_specialOf hT hli ?_)
  dsimp only
  refine wpAny_holding ?_
  refine wpAny_bind (wpAny_of_eq hbi ?_)
  refine wpAny_bind (wpAny_call ?_)
  refine codeAny_mono (R := fun r₂ s₂ => match r₂ with
    | Except.ok (Flow.ret v) => v = Value.none ∧ ∃ h' tk c', s₂ = { heap := h', gens := s.gens, drawn := s.drawn, toks := tk, os := s.os } ∧ SetR w h' s.heap.objs.size (fun j => decide (j ∈ ns)) c' ∧ c' ≤ ns.length ∧ ∀ (b : Addr) (o : Obj), s.heap.get? b = some o → h'.get? b = some o
    | Except.ok _ => False
    | Except.error e => E e s₂) (codeAny_call_builtin F.called_set.init.plain F.entry_set_init (check_set_init_1 hT ?_)) fun r₂ s₂ hr₂ => ?_
  · obtain ⟨⟨ocls, odict, odata, oslots⟩, hol, hcl, nl, hdl⟩ := hl
    replace hcl : ocls = .type "list" := hcl
    replace hdl : odata = .seq items nl := hdl
    subst hcl hdl
    have hol' := Heap.get?_push_of_some { cls := Value.type "set", data := Data.set #[] 0 (SetTable.fresh 0 0 !w.params.followText "set-order") } hol
    have hsls := F.sub_list_set
    have hslf := F.sub_list_frozenset
    have hne := of_decide_eq_true (id (Eq.refl true) : decide (True) = true)
    have hl1 : (s.heap.push { cls := Value.type "set", data := Data.set #[] 0 (SetTable.fresh 0 0 !w.params.followText "set-order") }).IsList l items := ⟨_, hol', rfl, nl, rfl⟩
    wp_walk using wpAny_load' hS, wpAny_loadPart' hol', wpAny_typeOf hT, wpAny_pyIter_list hl1
    have hlS := Heap.lt_size hol
    have hh3 : A.in1.in1.in1.handled = none := hh
    have hz1 := Heap.size_push s.heap { cls := Value.type "set", data := Data.set #[] 0 (SetTable.fresh 0 0 !w.params.followText "set-order") }
    have hneI : l ≠ (s.heap.push { cls := Value.type "set", data := Data.set #[] 0 (SetTable.fresh 0 0 !w.params.followText "set-order") }).objs.size := by rw [hz1]; exact Nat.ne_of_lt (Nat.lt_succ_of_lt hlS)
    have hSf : ¬ s.heap.objs.size ∈ [(s.heap.push { cls := Value.type "set", data := Data.set #[] 0 (SetTable.fresh 0 0 !w.params.followText "set-order") }).objs.size, l] := by
      rw [hz1]
      simp only [List.mem_cons, List.not_mem_nil, or_false, not_or]
      exact ⟨Nat.ne_of_lt (Nat.lt_succ_self _), Nat.ne_of_gt hlS⟩
    have hval : ∀ (i : Nat) (v : Value), items[i]? = some v → ∃ k t, ns[i]? = some k ∧ v = Value.int k t := fun i v hv => by
      have hi : i < ns.length := by rw [← hisz]; exact (Array.getElem?_eq_some_iff.mp hv).1
      obtain ⟨t, e⟩ := hit.int_at i v (by rw [Array.getElem?_toList]; exact hv)
      refine ⟨ns[i], t, List.getElem?_eq_getElem hi, ?_⟩
      rw [e, List.getD_eq_getElem?_getD, List.getElem?_eq_getElem hi]
      rfl
    have hget := Heap.get?_push_of_some { cls := Value.type "list_iterator", data := Data.fields #[Value.ref l, Value.int 0 0] } hS
    refine set_update_ints (Walks.toS (Walks.list hh3 (s.heap.push { cls := Value.type "set", data := Data.set #[] 0 (SetTable.fresh 0 0 !w.params.followText "set-order") }).objs.size l hneI items)) s.heap.objs.size hSf ns hisz hb hval (items.size - 0) 0 _ rfl (Nat.zero_le _) ⟨⟨_, Heap.get?_push_size _ rfl, rfl, rfl⟩, hl1.push _⟩ ⟨0, Nat.le_refl 0, setR_new_at hget⟩ fun s' c' hm hc' hS' => ?_
    obtain ⟨h', g2, d', tk', os'⟩ := s'
    have eg := hm.gens
    have ed := hm.drawn
    have eo := hm.os
    dsimp only at eg ed eo
    subst eg ed eo
    refine wpAny_pure (wpAny_pure ⟨rfl, h', tk', c', rfl, hS', by rw [← hisz]; exact hc', fun b o e => ?_⟩)
    have hb0 := Heap.lt_size e
    refine hm.heap b o ?_ (Heap.get?_push_of_some _ (Heap.get?_push_of_some _ e))
    rw [hz1]
    simp only [List.mem_cons, List.not_mem_nil, or_false, not_or]
    exact ⟨Nat.ne_of_lt hb0, Nat.ne_of_lt (Nat.lt_succ_of_lt hb0)⟩
  · rcases r₂ with e | fl₂
    · exact hr₂
    rcases fl₂ with _ | _ | _ | r
    · exact hr₂.elim
    · exact hr₂.elim
    · exact hr₂.elim
    obtain ⟨rfl, h', tk, c', rfl, hS', hc', hk'⟩ := hr₂
    refine wpAny_pure ?_
    dsimp only
    refine wpAny_ite_false (by rfl) ?_
    exact wpAny_pure (h h' tk c' hS' hc' hk')
end L2
set_option Elab.async false
set_option linter.all false
set_option maxRecDepth 100000
set_option maxHeartbeats 4000000
namespace L2
open PySem PySem.Spec PyProof.Rows
/-- set(xs), xs a list of ints -/
def rSetOfI (K : PySem.W.Frag) (w : World) : List V → Hp → VK → Prop := fun xs H Q => ∃ (l : Addr) (ns : List Int), xs = [V.ref l] ∧ SqL K H l (ns.map V.int) ∧ ns.length ≤ 1000 ∧ ∀ (p : Addr) (c : Nat), H p = none → c ≤ ns.length → Q (.ref p) (upd H p (SetO w p (fun j => decide (j ∈ ns)) c))
theorem cr_setOfI {X : Cx} (hc : X.calm = true) : CallR X (.type "set") (rSetOfI X.K X.w) := by
  intro pins s σ H vs us Q I r h
  obtain ⟨l, ns, rfl, hs, hl, q⟩ := h
  obtain ⟨its, rv, pt, hz⟩ := I.list hs
  rw [Vals.ref1 r]
  have hi : IntsAre its.toArray.toList ns := ints_of_vals rv
  refine call_set_listI ns (I.ok.hd hc) (show s.heap.IsList l its.toArray from pt.isList) hi (by unfold scanBound; omega) fun h' tk c R1 hcn k => ?_
  refine ⟨.ref s.heap.objs.size, upd H s.heap.objs.size (SetO X.w s.heap.objs.size (fun j => decide (j ∈ ns)) c), I.laid (t' := tk) k (Nat.le_refl _) ?_, rfl, q _ _ (I.hok.fresh (Nat.le_refl _)) hcn⟩
  unfold SetO
  unfold ObjOk
  obtain ⟨o, es, ep, t, ho, rest⟩ := R1
  exact ⟨⟨o, es, ep, t, ho, rest⟩, ⟨o, ho⟩, fun h1 h2 ⟨o, es, ep, t, ho, rest⟩ k => ⟨o, es, ep, t, k o ho, rest⟩⟩
end L2
set_option Elab.async false
set_option linter.all false
set_option maxRecDepth 100000
set_option maxHeartbeats 4000000
namespace KD
open PySem L2
abbrev mW (ws : List Nat) : Nat → Nat := fun s => ws.getD s 0
def spLed : Sp := fun vs H Q _ => ∃ (x m : Addr) (n : Nat) (xs ws : List Nat), vs = [.ref x, .ref m] ∧ n ≤ 8 ∧ H x = some (.tup (cV xs)) ∧ Dw.Asc n xs ∧ MapAt n H m ws ∧ ∀ (t : Addr) (H' : Hp), Same H H' → H' t = some (.tup (cV (Dw.led n (mW ws) xs))) → Q (.ref t) H'
theorem asc_len {n : Nat} {xs : List Nat} (h : Dw.Asc n xs) : xs.length ≤ n := Dw.few_below n xs (h.up.imp fun h => by omega) h.lt
section
variable {P : Program} {w : World} {K : PySem.W.Frag} {mg : Str → Option Value} {base : Heap} {C : Addr}
abbrev s_led : Stmt := top 36
theorem sc_led : FnScope ["states", "leads", "state"] ["states", "leads"] (defScope s_led) := ⟨rfl, rfl, rfl, by decide +kernel, rfl, by decide +kernel, by decide +kernel⟩
theorem ok_led {f : Addr} {fd : FuncData} (F : Fun K "led" "led" s_led f fd) (T : Bm mg) : FnOk P w K mg base CX0 1 f fd ["states", "leads"] spLed := by
  refine F.ok sc_led (fun vs H Q E h => ?_) (fun cdv A outer s H vs Q E hr h => ?_)
  · obtain ⟨x, m, n, xs, ws, rfl, _⟩ := h
    rfl
  · obtain ⟨x, m, n, xs, ws, rfl, n8, ex, ax, mt, k⟩ := h
    refine ⟨_, (pss_one (ps_ret (pe_callTy call_tuple_of (by rfl) T.n_tuple (by decide +kernel) (pa_cons (pe_callB (cr_sortedSet rfl) (by rfl) T.n_sorted (by decide +kernel) (pa_cons (pe_callTy (cr_setOfI rfl) (by rfl) T.n_set (by decide +kernel) (pa_cons (pe_lc (own := [("state", 2)]) rfl sc_led.nd (pi_tup (pv 0)) (blkOk_by (N := ["states", "leads", "state"]) (sc := defScope s_led) (by decide +kernel)) (fun _ _ _ _ _ => (pg_name (i := 2) sc_led.nd rfl (Or.inl rfl))) (fun _ _ _ _ _ => pts_nil)
      (fun _ _ _ _ _ => (pe_ix (show IxR _ (rIx K) from ix_seq) (pv 1) (pv 2) (fun _ _ => rfl)))) pa_nil)) pa_nil)) pa_nil)))), ?_⟩
    have lx := asc_len ax
    have gd : ∀ s ∈ xs, ws[s]? = some (mW ws s) := fun s ms => by
      have : s < ws.length := by rw [mt.2.1]; exact ax.lt s ms
      show _ = some (ws.getD s 0)
      rw [List.getD, List.getElem?_eq_getElem this]
      rfl
    refine ⟨_, rfl, x, rfl, ⟨_, SqT.of ex⟩, fun D nD => ?_⟩
    refine lc_tup (K := K) (a := x) (xs := cV xs) (fun i H' => Same H H' ∧ H' D = some (.lst (cV ((xs.map (mW ws)).take i)))) ⟨Same.put nD, upd_same⟩ (fun i H' _ h => SqT.of (h.1 _ _ ex)) ?_ ?_
    · rintro i y H' hy ⟨s1, eD⟩
      obtain ⟨s, hs, rfl⟩ := cV_of hy
      have il := (List.getElem?_eq_some_iff.mp hs).1
      have ms := List.mem_of_getElem? hs
      refine ⟨rfl, yes_of ?_⟩
      refine ⟨_, rfl, _, rfl, .inr (.inl ⟨m, _, _, _, rfl, rfl, SqT.of (s1 _ _ mt.1), atI_nat (cV_at (gd s ms)), ?_⟩)⟩
      refine ⟨_, eD, by rw [List.length_map, List.length_take]; exact small_len (by omega), Same.but s1 nD, ?_⟩
      have hh : (xs.map (mW ws))[i]? = some (mW ws s) := by rw [List.getElem?_map, hs]; rfl
      rw [upd_same, take_more hh, cV_snoc]
    · rintro H1 ⟨s1, eD⟩
      have eD : H1 D = some (.lst (cV (xs.map (mW ws)))) := by
        rw [show (cV xs).length = (xs.map (mW ws)).length by rw [List.length_map, List.length_map], List.take_length] at eD; exact eD
      rw [cV_ints] at eD
      refine ⟨D, _, rfl, SqL.of eD, by rw [List.length_map, List.length_map]; omega, fun p c np hc => ?_⟩
      rw [List.length_map, List.length_map] at hc
      have sp := Same.put (o := SetO w p (fun j => decide (j ∈ (xs.map (mW ws)).map fun k : Nat => (k : Int))) c) np
      refine ⟨p, _, c, rfl, upd_same, by omega, fun ns q pw mem ln nq => ?_⟩
      have es : ns = iW (Dw.led n (mW ws) xs) := by
        have : ∀ j ∈ ns, 0 ≤ j := fun j mj => by
          have := of_decide_eq_true ((mem j).mp mj)
          obtain ⟨k, _, rfl⟩ := List.mem_map.mp this
          omega
        have e2 : ns = iW (ns.map Int.toNat) := by
          rw [iW, List.map_map]
          refine (List.map_id ns).symm.trans (List.map_congr_left fun j mj => ?_)
          show j = ((j.toNat : Nat) : Int)
          have := this j mj
          omega
        rw [e2]
        congr 1
        refine Dw.asc_ext ?_ (ax.led fun s hs => ?_).up fun t => ?_
        · rw [List.pairwise_map]
          refine List.Pairwise.imp_of_mem (fun {a b} ma mb h => ?_) pw
          have := this a ma
          omega
        · have g : ws[s]? = some (ws[s]'(by rw [mt.2.1]; exact hs)) := List.getElem?_eq_getElem _
          show ws.getD s 0 < n
          rw [List.getD, g]
          exact mt.2.2 _ (List.mem_of_getElem? g)
        · rw [Dw.mem_led]
          constructor
          · intro mt2
            obtain ⟨j, mj, rfl⟩ := List.mem_map.mp mt2
            have := of_decide_eq_true ((mem j).mp mj)
            obtain ⟨k2, mk, rfl⟩ := List.mem_map.mp this
            obtain ⟨s, ms, rfl⟩ := List.mem_map.mp mk
            have g := gd s ms
            exact ⟨by rw [Int.toNat_natCast]; exact mt.2.2 _ (List.mem_of_getElem? g), s, ms, by rw [Int.toNat_natCast]⟩
          · rintro ⟨_, s, ms, rfl⟩
            exact List.mem_map.mpr ⟨((mW ws s : Nat) : Int), (mem _).mpr (decide_eq_true (List.mem_map.mpr ⟨_, List.mem_map_of_mem ms, rfl⟩)), Int.toNat_natCast _⟩
      rw [es, iW, ← cV_ints]
      have sq := Same.put (o := .lst (cV (Dw.led n (mW ws) xs))) nq
      refine ⟨q, _, rfl, .inl ⟨SqL.of upd_same, fun t nt => ?_⟩⟩
      exact k t _ (((s1.trans sp).trans sq).trans (Same.put nt)) upd_same
end
end KD
set_option Elab.async false
set_option linter.all false
set_option maxRecDepth 100000
set_option maxHeartbeats 4000000
/-! {k: v}, one pair, the key a tuple of ints and texts -/
namespace L2
open PySem PySem.Spec PyProof.Rows
def tDispT1 (tk tv : TE) : TE := fun σ H Q => ∀ D, H D = none → tk σ (upd H D (.dT [])) fun x H1 => tv σ H1 fun y H2 => ∃ k c, x = .ref c ∧ H2 c = some (.tup (k.map kV)) ∧ H2 D = some (.dT []) ∧ Q (.ref D) (upd H2 D (.dT (putK [] k y)))
theorem pe_dispT1 {X : Cx} {pos : Pos} {k v : Expr} {tk tv : TE} (hu : X.A.units + 1 < cLine) (hk : PE X k tk) (hv : PE X v tv) : PE X (.Dict [some k] [v] pos) (tDispT1 tk tv) := by
  refine ⟨fun pins s σ H Q I q => ?_⟩
  have hn := I.hok.fresh (Nat.le_refl s.heap.objs.size)
  have I1 := I.laid (a := s.heap.objs.size) (o := .dT []) (h' := s.heap.push { cls := .type "dict", data := .dict #[] }) (t' := s.toks) (fun _ _ q => Heap.get?_push_of_some _ q) (Nat.le_refl _) (dt_empty s.heap I.big)
  have q1 := q _ hn
  have hsh : (evalEachOpt [some k] X.env).zip ((evalEach [v] X.env).map fun v => do let x ← v; standAt pos; pure x) = (pairTrees [some k] [v] X.env pos).map fun p => (some p.1, p.2) := zip_pairTrees [some k] [v] X.env pos rfl rfl
  rw [arm_eval_Dict, hsh, dictDisplay_pairs (pairTrees [some k] [v] X.env pos) (by intro e; cases e) (by show 1 < 17; decide)]
  refine wpAny_bind (wpAny_standAt (wpAny_bind ?_))
  unfold subDict
  refine wpAny_bind (wpAny_alloc ?_)
  refine wpAny_bind (wpAny_holding ?_)
  rw [if_pos (show (pairTrees [some k] [v] X.env pos).length ≤ 15 from by show 1 ≤ 15; decide)]
  refine wpAny_bind (pairTrees_cons_walk (thn (hk.run pins _ σ _ _ I1 q1) fun u s1 ⟨x, H1, I2, rx, q2⟩ => thn (hv.run pins s1 σ H1 _ I2 q2) fun w2 s2 ⟨y, H2, I3, ry, q3⟩ => pairTrees_nil_walk ?_))
  obtain ⟨ks, c, rfl, ec, eD, q4⟩ := q3
  refine wpAny_holding ?_
  refine wpAny_bind ?_
  rw [List.forIn_cons]
  refine wpAny_bind (wpAny_bind (putT_set hu I3 eD (by decide) ec rx ry fun z' I4 => wpAny_pure ?_))
  dsimp only
  rw [List.forIn_nil]
  exact wpAny_pure (wpAny_pure (wpAny_pure (wpAny_pure ⟨.ref s.heap.objs.size, _, I4, rfl, q4⟩)))
end L2
set_option Elab.async false
set_option linter.all false
set_option maxRecDepth 100000
set_option maxHeartbeats 4000000
/-! enumerate(t), t a tuple -/
namespace PySem
open AutoSeq1 (wpAny_loadPart')
theorem meets_enumerate_newT (l : Addr) (items : Array Value) (n : Nat) (dct : Option Addr) (sl : Array (Option Value)) :
    Meets (Builtin.«enumerate.__new__» ⟨[.type "enumerate", .ref l], []⟩) (fun _ R s => s.heap.get? l = some { cls := .type "tuple", dict := dct, data := .seq items n, slots := sl } ∧
      R (.ok (.ret (.ref (s.heap.push { cls := .type "tuple_iterator", data := .fields #[.ref l, .int 0 0] }).objs.size)))
        { s with heap := (s.heap.push { cls := .type "tuple_iterator", data := .fields #[.ref l, .int 0 0] }).push { cls := .type "enumerate", data := .fields #[.none, .bool false, .ref s.heap.objs.size, rawInt 0, .none, .none] } }) :=
  .of_wp fun prog w A R s h => by
    obtain ⟨hp, g, d, tk, os⟩ := s; obtain ⟨hl, h⟩ := h
    have hsub := sub_enumerate
    have hL : Heap.IsTuple (Shared.heap ⟨hp, g, d, tk, os⟩) l items := ⟨_, hl, rfl, n, rfl⟩
    wp_walk using wpAny_loadPart' hl
    refine wpAny_stack_any fun st => wpAny_pure ?_
    split
    · rename_i c _ _ _ _ _
      cases (c == Value.type "enumerate")
      · wp_walk using wpAny_loadPart' hl, wpAny_pyIter_tuple hL
        exact ⟨_, rfl, h⟩
      · wp_walk using wpAny_loadPart' hl, wpAny_pyIter_tuple hL
        exact ⟨_, rfl, h⟩
    · wp_walk using wpAny_loadPart' hl, wpAny_pyIter_tuple hL
      exact ⟨_, rfl, h⟩
section
variable {prog : Program} {w : World} {A : Around} {E : Value → Shared → Prop} {s : Shared}
theorem call_enumerate_tuple {l : Addr} {items : Array Value} {Q : Value → Shared → Prop} (hL : s.heap.IsTuple l items)
    (h : ∀ h', IsEnum h' (s.heap.objs.size + 1) s.heap.objs.size 0 .none → h'.IsTupleIter s.heap.objs.size l 0 → h'.objs.size = s.heap.objs.size + 2 →
      (∀ b o, s.heap.get? b = some o → h'.get? b = some o) → Q (.ref (s.heap.objs.size + 1)) { s with heap := h' }) :
    wpAny (model prog w) A (call (.type "enumerate") [.ref l]) Q E s := by
  obtain ⟨⟨c, dct, dt, sl⟩, hl, hc, n, hd⟩ := hL
  replace hc : c = .type "tuple" := hc
  replace hd : dt = .seq items n := hd
  subst hc hd
  refine callType_new F.called_enumerate (by decide) (F.typeCall_enumerate_1 _) (F.newCall_enumerate_1 _) (fun obj => F.args_object_init_2 obj _) F.entry_enumerate_new
    (meets_enumerate_newT l items n dct sl) ⟨hl, ?_⟩
  have hz : (s.heap.push { cls := .type "tuple_iterator", data := .fields #[.ref l, .int 0 0] }).objs.size = s.heap.objs.size + 1 := Heap.size_push ..
  show _ ∧ _
  rw [hz]
  have he : IsEnum ((s.heap.push { cls := .type "tuple_iterator", data := .fields #[.ref l, .int 0 0] }).push
      { cls := .type "enumerate", data := .fields #[.none, .bool false, .ref s.heap.objs.size, rawInt 0, .none, .none] }) (s.heap.objs.size + 1) s.heap.objs.size 0 .none := by
    have := Heap.get?_push_size (s.heap.push { cls := .type "tuple_iterator", data := .fields #[.ref l, .int 0 0] })
      (o := { cls := .type "enumerate", data := .fields #[.none, .bool false, .ref s.heap.objs.size, rawInt 0, .none, .none] }) rfl
    rw [hz] at this; exact this
  refine ⟨⟨_, he, rfl⟩, h _ he ⟨_, Heap.get?_push_of_some _ (Heap.get?_push_size _ rfl), rfl, rfl⟩ (by rw [Heap.size_push, hz]) fun b o x => Heap.get?_push_of_some _ (Heap.get?_push_of_some _ x)⟩
end
end PySem
namespace L2
open PySem PySem.Spec PyProof.Rows
/-- the tuple at a, each item in a new pair -/
def IteT (K : PySem.W.Frag) (a : Addr) : It :=
  ⟨fun i H => ∃ (xs : List V) (x : V), SqT K H a xs ∧ xs[i]? = some x, fun i H v H' => ∃ T x, v = .ref T ∧ H T = none ∧ H' = upd H T (.tup [.int (i : Nat), x]) ∧ ∀ xs, SqT K H a xs → xs[i]? = some x, fun i H => ∃ xs : List V, SqT K H a xs ∧ xs.length ≤ i⟩
theorem turn_enumT {P : Program} {w : World} {K : PySem.W.Frag} {elts : List Expr} {kk : Nat} {tpos : Pos} (a e it : Addr) :
    Turn P w K (.Tuple elts kk tpos) (IteT K a) [e, it] e (fun i h => (∃ old, IsEnum h e it ((i : Nat) : Int) old) ∧ h.IsTupleIter it a i ∧ e ≠ it) where
  mem := by simp
  obj := fun i h st b hb => by
    obtain ⟨⟨old, he⟩, ⟨o, ho, hc, hd⟩, _⟩ := st
    have e' : b = e ∨ b = it := by simpa using hb
    rcases e' with z | z
    · rw [z]; exact ⟨_, he, fun v q => nomatch q⟩
    · rw [z]; exact ⟨o, ho, fun v q => by rw [hd] at q; cases q⟩
  keep := fun i h h' st k => let ⟨⟨old, he⟩, hi, hne⟩ := st; ⟨⟨old, k e (by simp) _ he⟩, hi.at fun o q => k it (by simp) o q, hne⟩
  item := by
    intro X hP hw hK hc i pins s σ H E I hf st hg
    subst hP hw hK
    obtain ⟨⟨old, he⟩, hit, hne⟩ := st
    obtain ⟨xs, x, hq, hx⟩ := hg
    obtain ⟨its, rv, p, hz⟩ := I.tuple hq
    obtain ⟨u, hu, ru⟩ := rv.get hx
    have hel : e < s.heap.objs.size := Heap.lt_size he
    have hil : it < s.heap.objs.size := by obtain ⟨_, q, _⟩ := hit; exact Heap.lt_size q
    have p : s.heap.IsTuple a its.toArray := p
    have hil2 : i < its.toArray.size := by
      have := (List.getElem?_eq_some_iff.mp hu).1
      simpa using this
    have hai : a ≠ it := fun z => by
      obtain ⟨o, e1, c1, _⟩ := p
      obtain ⟨o2, e2, c2, _⟩ := hit
      rw [z, e2] at e1
      cases e1
      rw [c2] at c1
      exact absurd (Value.type.inj c1) (by decide)
    have hae : e ≠ a := fun z => by
      obtain ⟨o, e1, c1, _⟩ := p
      rw [← z] at e1
      have e2 : s.heap.get? e = _ := he
      rw [e2] at e1
      cases e1
      exact absurd (Value.type.inj c1) (by decide)
    refine wpAny_pyNext_enum_itemD (PySem.Draws.tuple (A := X.A.in1) (by exact I.ok.hd hc) it a hai its.toArray) he ⟨hit, p⟩ hil2 hne (by simp [hne, hae]) fun x2 h' tk hx2 ho st' hT hsz hk => ?_
    have ex2 : x2 = u := by
      have h1 : its[i]? = some x2 := by simpa using hx2
      rw [hu] at h1
      exact (Option.some.inj h1).symm
    subst ex2
    obtain ⟨hit', _⟩ := st'
    refine ⟨_, rfl, wpAny_letOwnedTupleGo_enum (s := { s with heap := h', toks := tk + 1 }) ho fun h'' he' sb => ?_⟩
    have hT2 : h''.get? s.heap.objs.size = some { cls := .type "tuple", data := .seq #[.int i tk, x2] } := (sb.2 _ (Nat.ne_of_gt hel)).trans hT
    have new : ObjOk X.prog X.w (upd H s.heap.objs.size (.tup [.int (i : Nat), x])) h'' s.heap.objs.size (.tup [.int (i : Nat), x]) :=
      ⟨by show 2 ≤ sizeLine; decide, [.int i tk, x2], .cons ⟨_, rfl⟩ (.cons ru .nil), ⟨_, hT2, rfl, _, rfl⟩⟩
    have I1 : Inv X pins σ (upd H s.heap.objs.size (.tup [.int (i : Nat), x])) { s with heap := h'', toks := tk + 1 } :=
      I.turnedNew (ch := [e, it]) (fun b ob hb q => (sb.2 b (fun z => hb (by simp [z]))).trans (hk b ob (fun z => hb (by simp [z])) (fun z => hb (by simp [z])) q)) hf (Nat.le_refl _) new
    refine ⟨.ref s.heap.objs.size, _, I1, rfl, ⟨_, x, rfl, I.hok.fresh (Nat.le_refl _), rfl, fun ys hy => by rw [I.tuple_inj hy hq]; exact hx⟩, ⟨⟨x2, ?_⟩, hit'.at fun o q => (sb.2 it (Ne.symm hne)).trans q, hne⟩, fun b hb => ?_⟩
    · have e1 : ((i + 1 : Nat) : Int) = (i : Int) + 1 := by omega
      rw [e1]; exact he'
    · have hb' : b < s.heap.objs.size := by
        have e' : b = e ∨ b = it := by simpa using hb
        rcases e' with z | z
        · rw [z]; exact hel
        · rw [z]; exact hil
      rw [upd_ne (Nat.ne_of_lt hb')]
      exact (hf b hb).1
  done := by
    intro X hP hw hK hc i pins s σ H E I hf st hg
    subst hP hw hK
    obtain ⟨⟨old, he⟩, hit, hne⟩ := st
    obtain ⟨xs, hq, hx⟩ := hg
    obtain ⟨its, rv, p, hz⟩ := I.tuple hq
    obtain ⟨f0, f1, f2, f3, f4, f5⟩ := hf it (by simp)
    have hl := rv.length
    have p : s.heap.IsTuple a its.toArray := p
    have hh : X.A.in1.handled = none := by exact I.ok.hd hc
    have hT : s.TypeIs (.ref e) "enumerate" := ⟨_, he, rfl⟩
    unfold pyNext
    refine wpAny_bind (wpAny_attempt (wpAny_callSpecial?_slot (name := Str.ofString "__next__") hT F.slot_enumerate_next
      (wpAny_call_entry F.slot_enumerate_next hT F.entry_enumerate_next ?_ (F.args_enumerate_next_1 _))))
    show wpAny _ _ (field (.ref e) 2 >>= _) _ _ _
    refine wpAny_bind (wpAny_field he rfl (x := .ref it) rfl ?_)
    refine wpAny_bind (wpAny_nextOf_tuple_end hh hit p (by simp; omega) fun h' x he' hx' => ?_)
    obtain ⟨o, ho, hc'⟩ := hx'
    refine wpAny_bind (wpAny_isInstance (T := "StopIteration") (b := true) ⟨o, ho, hc'⟩ isSubtype_stop ?_)
    exact wpAny_pure ⟨rfl, I.turned (t' := s.toks) (fun b o hb q => he' b o hb q) f0 f1 f3 f4 f5⟩
  self := fun A i s Q E st h => let ⟨⟨_, he⟩, _⟩ := st; wpAny_pyIter_enum he h
def iEnumT (K : PySem.W.Frag) (ta : TA) : TI := fun σ H R => ta σ H fun vs H1 => ∃ a xs, vs = [.ref a] ∧ SqT K H1 a xs ∧ R (IteT K a) H1
theorem pi_enumT {X : Cx} {e : Expr} {ta : TA} {p pos tpos : Pos} {elts : List Expr} {kk : Nat} (hg : Gl X "enumerate") (hm : X.mg "enumerate" = none) (ha : PA X [e] ta) (hs : starEach [e] X.env = [(false, eval e X.env)] := by rfl) :
    PI X (.Tuple elts kk tpos) (.Call (.Name "enumerate" p) [e] [] pos) (iEnumT X.K ta) := by
  refine ⟨fun pins s σ H R I h => ?_⟩
  refine Call_ (ld_blt I hg hm boot_enumerate (PyProof.Rows.callWith_type1 (thn (ha.run pos pins s σ H _ I h) fun us s1 ⟨vs, H1, I1, r1, q1⟩ => ?_) hs rfl))
  obtain ⟨a, xs, ex, hq, q⟩ := q1
  subst ex
  cases r1 with
  | cons r rr =>
    cases rr
    cases r
    obtain ⟨its, rv, p', hz⟩ := I1.tuple hq
    refine call_enumerate_tuple p' fun h' he hit hsz hk => wpAny_pyIter_enum he ?_
    have I2 : Inv X pins σ H1 { s1 with heap := h' } := I1.kept (t' := s1.toks) hk
    refine ⟨s1.heap.objs.size + 1, [s1.heap.objs.size + 1, s1.heap.objs.size], _, _, H1, rfl, I2, turn_enumT a (s1.heap.objs.size + 1) s1.heap.objs.size, ⟨⟨.none, he⟩, hit, Nat.succ_ne_self _⟩, fun b hb => ?_, q⟩
    have e' : b = s1.heap.objs.size + 1 ∨ b = s1.heap.objs.size := by simpa using hb
    have hle : s1.heap.objs.size ≤ b := by
      rcases e' with z | z
      · rw [z]; exact Nat.le_add_right _ _
      · rw [z]; exact Nat.le_refl _
    exact I1.fpOk hle (I1.hok.fresh hle)
end L2
set_option Elab.async false
set_option linter.all false
set_option maxRecDepth 100000
set_option maxHeartbeats 4000000
namespace KD
open PySem L2
/-! ### draws -/
def drF (n : Nat) (pt : Addr) : List (Str × V) := putF "parts" (.ref pt) (putF "size" (.int (n : Int)) [])
theorem drF_size (n : Nat) (pt : Addr) : (drF n pt).lookup ("size" : Str) = some (.int (n : Int)) := by
  unfold drF
  rw [lookup_putF, if_neg (by decide), lookup_putF, if_pos (by decide)]
theorem drF_parts (n : Nat) (pt : Addr) : (drF n pt).lookup ("parts" : Str) = some (.ref pt) := by
  unfold drF
  rw [lookup_putF, if_pos (by decide)]
structure DrT (K : PySem.W.Frag) (mg : Str → Option Value) (DC : Addr) : Prop where
  it : InsT K DC
  nS : NoAttr K DC "size"
  nP : NoAttr K DC "parts"
  gD : mg "Draw" = some (.ref DC)
/-- a part of a draw: its tuple, its share, its map -/
abbrev Dp3 := Addr × (Addr × (Addr × List Nat))
def DpAt (n : Nat) (H : Hp) (p : Dp3) : Prop := H p.1 = some (.tup [.ref p.2.1, .ref p.2.2.1]) ∧ MapAt n H p.2.2.1 p.2.2.2
theorem DpAt.same {n : Nat} {H H' : Hp} {p : Dp3} (h : DpAt n H p) (s : Same H H') : DpAt n H' p := ⟨s _ _ h.1, h.2.same s⟩
def IsDraw (DC : Addr) (H : Hp) (x : Addr) (n : Nat) (ps : List Dp3) : Prop := ∃ dx pt, H x = some (.ins DC dx (drF n pt)) ∧ H pt = some (.tup (rfs ps)) ∧ ∀ p ∈ ps, DpAt n H p
theorem IsDraw.same {DC : Addr} {H H' : Hp} {x : Addr} {n : Nat} {ps : List Dp3} (h : IsDraw DC H x n ps) (s : Same H H') : IsDraw DC H' x n ps := let ⟨dx, pt, h1, h2, h3⟩ := h; ⟨dx, pt, s _ _ h1, s _ _ h2, fun p m => (h3 p m).same s⟩
abbrev mpD (ps : List Dp3) : List (List Nat) := ps.map fun p => p.2.2.2
def spEvery (DC : Addr) : Sp := fun vs H Q _ => ∃ (x : Addr) (n : Nat) (ps : List Dp3), vs = [.ref x] ∧ n ≤ 8 ∧ IsDraw DC H x n ps ∧ ∀ (t : Addr) (H' : Hp), Same H H' → H' t = some (.tup (cV (List.range n))) → Q (.ref t) H'
section
variable {P : Program} {w : World} {K : PySem.W.Frag} {mg : Str → Option Value} {base : Heap} {C DC : Addr}
abbrev s_every : Stmt := top 37
theorem sc_every : FnScope ["draw"] ["draw"] (defScope s_every) := ⟨rfl, rfl, rfl, by decide +kernel, rfl, by decide +kernel, by decide +kernel⟩
theorem ok_every {f : Addr} {fd : FuncData} (F : Fun K "everywhere" "everywhere" s_every f fd) (T : Bm mg) (t : DrT K mg DC) : FnOk P w K mg base CX0 1 f fd ["draw"] (spEvery DC) := by
  refine F.ok sc_every (fun vs H Q E h => ?_) (fun cdv A outer s H vs Q E hr h => ?_)
  · obtain ⟨x, n, ps, rfl, _⟩ := h
    rfl
  · obtain ⟨x, n, ps, rfl, n8, ⟨dx, pt, ex, ep, ip⟩, k⟩ := h
    refine ⟨_, (pss_one (ps_ret (pe_tupRg rfl (by rfl) T.n_tuple (prg_1 (by rfl) T.n_range (pe_fld (pv 0) rfl))))), ?_⟩
    refine ⟨_, rfl, x, DC, dx, _, _, rfl, ex, t.it.cl, t.nS, drF_size _ _, (n : Int), rfl, RgOk.of_le (by omega) (by omega) (by omega) (by omega), fun q nq => ?_⟩
    rw [rg_cV]
    exact k q _ (Same.put nq) upd_same
end
/-! ### the keys of its search -/
abbrev kx (x : List Nat) : List L2.Key := x.map fun k : Nat => (Sum.inl (k : Int) : L2.Key)
theorem kx_V (x : List Nat) : (kx x).map kV = cV x := by rw [kx, List.map_map]; rfl
theorem kx_inj : ∀ {x y : List Nat}, kx x = kx y → x = y
  | [], [], _ => rfl
  | [], _ :: _, h => by cases h
  | _ :: _, [], h => by cases h
  | a :: x, b :: y, h => by
    rw [kx, kx, List.map_cons, List.map_cons] at h
    injection h with h1 h2
    injection h1 with h1
    rw [kx_inj (x := x) (y := y) h2, show a = b by omega]
abbrev Ent := List Nat × (Addr × List Nat)
abbrev kvX (es : List Ent) : List (List L2.Key × V) := es.map fun e => (kx e.1, V.ref e.2.1)
theorem kvX_none {es : List Ent} {x : List Nat} (h : x ∉ es.map (·.1)) : valV (kvX es) (kx x) = none := by
  induction es with
  | nil => rfl
  | cons e es ih =>
    rw [List.map_cons, List.mem_cons, not_or] at h
    rw [kvX, List.map_cons, valV_neg (fun z => h.1 (kx_inj z).symm)]
    exact ih h.2
theorem kvX_at : ∀ {es : List Ent}, (es.map (·.1)).Nodup → ∀ {e : Ent}, e ∈ es → valV (kvX es) (kx e.1) = some (.ref e.2.1)
  | x :: es, nd, e, m => by
    rw [List.map_cons, List.nodup_cons] at nd
    rcases List.mem_cons.mp m with rfl | m
    · exact valV_pos rfl
    · rw [kvX, List.map_cons, valV_neg (fun z => nd.1 (by rw [kx_inj z]; exact List.mem_map_of_mem m))]
      exact kvX_at nd.2 m
theorem kvX_some {es : List Ent} (nd : (es.map (·.1)).Nodup) (x : List Nat) : (valV (kvX es) (kx x)).isSome = decide (x ∈ es.map (·.1)) := by
  by_cases h : x ∈ es.map (·.1)
  · obtain ⟨e, me, rfl⟩ := List.mem_map.mp h
    rw [kvX_at nd me, decide_eq_true h]
    rfl
  · rw [kvX_none h, decide_eq_false h]
    rfl
theorem kvX_put {es : List Ent} {x : List Nat} {c : Addr} {w : List Nat} (h : x ∉ es.map (·.1)) : putK (kvX es) (kx x) (.ref c) = kvX (es ++ [(x, (c, w))]) := by
  rw [putK_new _ (kvX_none h), kvX, kvX, List.map_append]
  rfl
end KD
set_option Elab.async false
set_option linter.all false
set_option maxRecDepth 100000
set_option maxHeartbeats 4000000
namespace KD
open PySem L2
theorem walk_enumT {K : PySem.W.Frag} {a : Addr} {xs : List V} : Walk (IteT K a) xs.length (fun H => SqT K H a xs) (YPair (fun i => some (V.int (i : Nat))) fun i => xs[i]?) :=
  ⟨fun i _ hi q => ⟨xs, xs[i], q, List.getElem?_eq_getElem hi⟩, fun _ q => ⟨xs, q, Nat.le_refl _⟩, fun i _ _ _ _ q ⟨T, x, h1, h2, h3, h4⟩ => ⟨T, .int (i : Nat), x, h1, h2, h3, rfl, h4 xs q⟩⟩
abbrev stS (n : Nat) (wss : List (List Nat)) (x : List Nat) (a : Nat) : List Nat := Dw.led n (mW (wss.getD a [])) x
theorem mW_lt {n : Nat} {ws : List Nat} (h : IsMap n ws) (s : Nat) (hs : s < n) : mW ws s < n := by
  have g : ws[s]? = some (ws[s]'(by rw [h.1]; exact hs)) := List.getElem?_eq_getElem _
  show ws.getD s 0 < n
  rw [List.getD, g]
  exact h.2 _ (List.mem_of_getElem? g)
theorem stS_cl {n : Nat} {wss : List (List Nat)} (h : ∀ ws ∈ wss, IsMap n ws) (x : List Nat) (a : Nat) (hx : Dw.Asc n x) (ha : a < wss.length) : Dw.Asc n (stS n wss x a) := by
  have m : wss.getD a [] ∈ wss := by
    rw [List.getD, List.getElem?_eq_getElem ha]
    exact List.getElem_mem _
  exact hx.led fun s hs => mW_lt (h _ m) s hs
def goS (n : Nat) (wss : List (List Nat)) : Option (List Nat) := Dw.go (stS n wss) Dw.lone wss.length (2 ^ n) 0 [(List.range n, [])]
/-- the program's search, its state -/
structure GSt (H H' : Hp) (d : Addr) (n : Nat) (wss : List (List Nat)) (es : List Ent) : Prop where
  s : Same H H'
  nd : H d = none
  ed : H' d = some (.dT (kvX es))
  it : ∀ e ∈ es, H' e.2.1 = some (.tup (cV e.2.2))
  ok : Dw.Ok (stS n wss) wss.length (Dw.Asc n) (List.range n) (mkE es)
  ln : ∀ e ∈ es, e.2.2.length ≤ es.length
theorem GSt.nodup {H H' : Hp} {d : Addr} {n : Nat} {wss : List (List Nat)} {es : List Ent} (h : GSt H H' d n wss es) : (es.map (·.1)).Nodup := by
  have := h.ok.nd
  rwa [mkE_keys] at this
theorem GSt.few {H H' : Hp} {d : Addr} {n : Nat} {wss : List (List Nat)} {es : List Ent} (h : GSt H H' d n wss es) : es.length ≤ 2 ^ n - 1 := by
  have := Dw.few_asc (n := n) (es.map (·.1)) h.nodup fun x m => by
    obtain ⟨e, me, rfl⟩ := List.mem_map.mp m
    exact h.ok.p (e.1, e.2.2) (List.mem_map.mpr ⟨e, me, rfl⟩)
  rwa [List.length_map] at this
theorem GSt.same {H H1 H2 : Hp} {d : Addr} {n : Nat} {wss : List (List Nat)} {es : List Ent} (h : GSt H H1 d n wss es) (s : Same H1 H2) : GSt H H2 d n wss es := ⟨h.s.trans s, h.nd, s _ _ h.ed, fun e m => s _ _ (h.it e m), h.ok, h.ln⟩
theorem GSt.lstU {H H1 : Hp} {d l : Addr} {n : Nat} {wss : List (List Nat)} {es : List Ent} {ys : List V} {o : HO} (h : GSt H H1 d n wss es) (e : H1 l = some (.lst ys)) (nl : H l = none) : GSt H (upd H1 l o) d n wss es :=
  ⟨Same.but h.s nl, h.nd, by rw [upd_ne (fun z => by have := h.ed; rw [z, e] at this; cases this)]; exact h.ed, fun x m => by rw [upd_ne (fun z => by have := h.it x m; rw [z, e] at this; cases this)]; exact h.it x m, h.ok, h.ln⟩
theorem GSt.more {H H' H2 : Hp} {d : Addr} {n : Nat} {wss : List (List Nat)} {es : List Ent} (h : GSt H H' d n wss es) (s : Same H' H2) {t : Addr} {w x : List Nat} (et : H2 t = some (.tup (cV w)))
    (ok : Dw.Ok (stS n wss) wss.length (Dw.Asc n) (List.range n) (mkE (es ++ [(x, (t, w))]))) (nm : x ∉ es.map (·.1)) (hl : w.length ≤ es.length + 1) :
    GSt H (upd H2 d (.dT (putK (kvX es) (kx x) (.ref t)))) d n wss (es ++ [(x, (t, w))]) := by
  refine ⟨Same.but (h.s.trans s) h.nd, h.nd, ?_, fun e m => ?_, ok, fun e m => ?_⟩
  · rw [upd_same, kvX_put nm]
  · have k : H2 e.2.1 = some (.tup (cV e.2.2)) := by
      rcases List.mem_append.mp m with m | m
      · exact s _ _ (h.it e m)
      · rw [List.mem_singleton.mp m]; exact et
    rw [upd_ne (fun z => by rw [z, s _ _ h.ed] at k; cases k)]
    exact k
  · rw [List.length_append]
    show e.2.2.length ≤ es.length + 1
    rcases List.mem_append.mp m with m | m
    · have := h.ln e m; omega
    · rw [List.mem_singleton.mp m]; exact hl
/-- sets in a list, each a tuple -/
def SetsIn (H : Hp) (ts : List (Addr × List Nat)) : Prop := ∀ t ∈ ts, H t.1 = some (.tup (cV t.2))
theorem SetsIn.same {H H' : Hp} {ts : List (Addr × List Nat)} (h : SetsIn H ts) (s : Same H H') : SetsIn H' ts := fun t m => s _ _ (h t m)
theorem SetsIn.no {H : Hp} {a : Addr} {ts : List (Addr × List Nat)} {o : HO} (h : SetsIn H ts) (n : ∀ xs, H a ≠ some (.tup xs)) : SetsIn (upd H a o) ts := fun t m => by
  rw [upd_ne (fun z => n _ (by rw [← z]; exact h t m))]
  exact h t m
theorem SetsIn.snoc {H : Hp} {ts : List (Addr × List Nat)} {t : Addr × List Nat} (h : SetsIn H ts) (e : H t.1 = some (.tup (cV t.2))) : SetsIn H (ts ++ [t]) := fun u m => by
  rcases List.mem_append.mp m with m | m
  · exact h u m
  · rw [List.mem_singleton.mp m]; exact e
def spGW (DC : Addr) : Sp := fun vs H Q _ => ∃ (x : Addr) (n : Nat) (ps : List Dp3), vs = [.ref x] ∧ 1 ≤ n ∧ n ≤ 8 ∧ ps.length ≤ 4 ∧ IsDraw DC H x n ps ∧ ∀ (r : V) (H' : Hp), Same H H' → WordR H' r (goS n (mpD ps)) → Q r H'
end KD
set_option Elab.async false
set_option linter.all false
set_option maxRecDepth 100000
set_option maxHeartbeats 4000000
namespace KD
open PySem L2
/-- while some wait: which of the found ones are done with (i), and who waits -/
def GwW (H : Hp) (x d : Addr) (n : Nat) (wss : List (List Nat)) (m : Nat) (σ : St) (H' : Hp) : Prop := ∃ (wl : Addr) (v3 v4 v5 v6 v7 v8 : Option V) (es : List Ent) (ts : List (Addr × List Nat)) (i : Nat), σ = [some (.ref x), some (.ref d), some (.ref wl), v3, v4, v5, v6, v7, v8] ∧ GSt H H' d n wss es ∧
  H wl = none ∧ H' wl = some (.lst (rfs ts)) ∧ SetsIn H' ts ∧ ts.map (·.2) = (es.map (·.1)).drop i ∧ i ≤ es.length ∧ goS n wss = Dw.go (stS n wss) Dw.lone wss.length (2 ^ n - i) i (mkE es) ∧ m = 2 ^ n - i
section
variable {P : Program} {w : World} {K : PySem.W.Frag} {mg : Str → Option Value} {base : Heap} {C DC : Addr}
abbrev s_gw : Stmt := top 38
abbrev nGw : List Str := ["draw", "words", "waiting", "later", "states", "at", "_", "leads", "to"]
theorem sc_gw : FnScope nGw ["draw"] (defScope s_gw) := ⟨rfl, rfl, rfl, by decide +kernel, rfl, by decide +kernel, by decide +kernel⟩
theorem ok_gw {f : Addr} {fd : FuncData} (F : Fun K "gather_word" "gather_word" s_gw f fd) (T : Bm mg) (t : DrT K mg DC) (c_ev : Cal P w K mg base 1 "everywhere" ["draw"] (spEvery DC)) (c_led : Cal P w K mg base 1 "led" ["states", "leads"] spLed) : FnOk P w K mg base CX0 2 f fd ["draw"] (spGW DC) := by
  refine F.ok sc_gw (fun vs H Q E h => ?_) (fun cdv A outer s H vs Q E hr h => ?_)
  · obtain ⟨x, n, ps, rfl, _⟩ := h
    rfl
  · obtain ⟨x, n, ps, rfl, n1, n8, p4, dr, k⟩ := h
    have hu := hu_of hr
    refine ⟨_, (pss_cons (ps_set (i := 1) sc_gw.nd rfl (Or.inl rfl) (pe_dispT1 (by exact hu) (pe_cal c_ev (hr.mono (by decide)) rfl (pa_cons (pv 0) pa_nil)) (pe_tup pa_nil)))
      (pss_cons (ps_set (i := 2) sc_gw.nd rfl (Or.inl rfl) (pe_lst (pa_cons (pe_cal c_ev (hr.mono (by decide)) rfl (pa_cons (pv 0) pa_nil)) pa_nil)))
      (pss_cons (ps_while PassesOwn.never (pt_truth (pv 2) (by intro _; rfl))
        (pss_cons (ps_set (i := 3) sc_gw.nd rfl (Or.inl rfl) (pe_lst pa_nil))
          (pss_cons (ps_for PassesOwn.never rfl (pi_list (pv 2)) (pg_name (i := 4) sc_gw.nd rfl (Or.inl rfl))
            (pss_cons (ps_if (pt_cmpR op_eq (pe_callB call_len_seq (by rfl) T.b.n_len PySem.boot_len (pa_cons (pv 4) pa_nil)) pe_int (nomark _))
                (pss_one (ps_ret (pe_dget (by exact hu) (pv 1) (pv 4) (by intro _ _; rfl))))
                pss_nil)
              (pss_one (ps_for PassesOwn.never rfl (pi_enumT (by rfl) T.n_enumerate (pa_cons (pe_fld (pv 0) rfl) pa_nil)) (pg_tup (by rfl) (pgs_cons (pg_name (i := 5) sc_gw.nd rfl (Or.inl rfl)) (pgs_cons (pg_tup (by rfl) (pgs_cons (pg_name (i := 6) sc_gw.nd rfl (Or.inl rfl)) (pgs_cons (pg_name (i := 7) sc_gw.nd rfl (Or.inl rfl)) pgs_nil))) pgs_nil)))
                (pss_cons (ps_set (i := 8) sc_gw.nd rfl (Or.inl rfl) (pe_cal c_led (hr.mono (by decide)) rfl (pa_cons (pv 4) (pa_cons (pv 7) pa_nil))))
                  (pss_one (ps_if (pt_cmp (pc_dnotin (by exact hu) (pv 8) (pv 1)) (by rfl))
                    (pss_cons (ps_dput (by exact hu) (pv 1) (pv 8) (pe_op op_catA (pe_dget (by exact hu) (pv 1) (pv 4) (by intro _ _; rfl)) (pe_tup (pa_cons (pv 5) pa_nil))) rfl)
                      (pss_one (ps_expr (pe_bm PySem.F.plainAttrs_list PySem.F.slot_list_append PySem.F.type_list_append mt_append (pv 3) (pa_cons (pv 8) pa_nil)))))
                    pss_nil)))))))
          (pss_one (ps_set (i := 2) sc_gw.nd rfl (Or.inl rfl) (pv 3))))))
      (pss_one (ps_ret pe_non))))), ?_⟩
    obtain ⟨dx, pt, ex, ep, ip⟩ := id dr
    generalize hws : mpD ps = wss at k
    have lw : wss.length = ps.length := by rw [← hws, List.length_map]
    have mw : ∀ ws ∈ wss, IsMap n ws := fun ws m => by
      rw [← hws] at m
      obtain ⟨p, mp, rfl⟩ := List.mem_map.mp m
      exact (ip p mp).2.2
    have cl : ∀ x a, Dw.Asc n x → a < wss.length → Dw.Asc n (stS n wss x a) := fun x a => stS_cl mw x a
    have pos : 1 ≤ 2 ^ n := Nat.one_le_two_pow
    have p8 : 2 ^ n ≤ 2 ^ 8 := Nat.pow_le_pow_right (by decide) n8
    intro d nd
    have sd := Same.put (o := .dT []) nd
    have ed : (upd H d (.dT [])) d = some (.dT []) := upd_same
    have dr1 := dr.same sd
    generalize (upd H d (.dT [])) = H1 at sd ed dr1 ⊢
    refine ⟨_, rfl, x, n, ps, rfl, n8, dr1, fun a H2 s2 ea => ?_⟩
    refine ⟨by show 0 ≤ sizeLine; decide, fun b nb => ?_⟩
    have sb := Same.put (o := .tup []) nb
    have eb : (upd H2 b (.tup [])) b = some (.tup []) := upd_same
    have ea3 := sb _ _ ea
    have ed3 := sb _ _ (s2 _ _ ed)
    have s03 := (sd.trans s2).trans sb
    refine ⟨kx (List.range n), a, rfl, by rw [kx_V]; exact ea3, ed3, ?_⟩
    generalize (upd H2 b (.tup [])) = H3 at eb ea3 ed3 s03 ⊢
    have st0 : GSt H (upd H3 d (.dT (putK [] (kx (List.range n)) (.ref b)))) d n wss [(List.range n, (b, []))] := by
      refine ⟨Same.but s03 nd, nd, by rw [upd_same]; rfl, fun e m => ?_, ⟨fun e m => ?_, by simp, fun e m => ?_⟩, fun e m => ?_⟩
      · rw [List.mem_singleton.mp m]
        show (upd H3 d _) b = some (.tup [])
        rw [upd_ne (fun z => by rw [z, ed3] at eb; cases eb)]
        exact eb
      · rw [List.mem_singleton.mp m]; exact Dw.asc_range n1
      · rw [List.mem_singleton.mp m]; exact ⟨rfl, fun a m => by cases m⟩
      · rw [List.mem_singleton.mp m]; exact Nat.zero_le _
    generalize (upd H3 d (.dT (putK [] (kx (List.range n)) (.ref b)))) = H4 at st0 ⊢
    refine ⟨_, rfl, x, n, ps, rfl, n8, dr.same st0.s, fun c H5 s5 ec => ?_⟩
    refine ⟨by show 1 ≤ sizeLine; decide, fun wl nwl => ?_⟩
    have ecl : ([V.ref c] : List V) = rfs [(c, List.range n)] := rfl
    rw [ecl]
    have st5 := st0.same s5
    have sw := Same.put (o := .lst (rfs [(c, List.range n)])) nwl
    have st6 := st5.same sw
    have ec6 := sw _ _ ec
    have ew6 : (upd H5 wl (.lst (rfs [(c, List.range n)]))) wl = some (.lst (rfs [(c, List.range n)])) := upd_same
    have nwlH := st5.s.free nwl
    generalize (upd H5 wl (.lst (rfs [(c, List.range n)]))) = H6 at st6 ec6 ew6 ⊢
    refine ⟨GwW H x d n wss, ⟨_, wl, none, none, none, none, none, none, _, [(c, List.range n)], 0, rfl, st6, nwlH, ew6, fun t m => (by rw [List.mem_singleton.mp m]; exact ec6), rfl, Nat.zero_le _, rfl, rfl⟩, ?_⟩
    rintro m σ H7 ⟨wl, v3, v4, v5, v6, v7, v8, es, ts, i, rfl, st, nwl, ew, si, qt, ile, hg, rfl⟩
    have fw := st.few
    have lt : ts.length = es.length - i := by
      have := congrArg List.length qt
      rw [List.length_map, List.length_drop, List.length_map] at this
      exact this
    refine ⟨_, rfl, !(rfs ts).isEmpty, .inl ⟨_, SqL.of ew, rfl⟩, ?_⟩
    by_cases te : ts = []
    · subst te
      refine iteFe rfl ?_
      refine k .non H7 st.s ?_
      have ie : i = es.length := by rw [List.length_nil] at lt; omega
      rw [hg, show 2 ^ n - i = (2 ^ n - i - 1) + 1 by omega]
      unfold Dw.go
      rw [List.getElem?_eq_none (by rw [List.length_map]; omega)]
      rfl
    have t1 : 1 ≤ ts.length := Nat.pos_of_ne_zero fun z => te (List.eq_nil_of_length_eq_zero z)
    refine iteTe (by cases ts with | nil => exact absurd rfl te | cons => rfl) ⟨fun σ' H' => ∃ m', m' < 2 ^ n - i ∧ GwW H x d n wss m' σ' H', fun _ _ h => h, ?_⟩
    refine ⟨by show 0 ≤ sizeLine; decide, fun lt' nlt => ?_⟩
    have sl := Same.put (o := .lst (rfs ([] : List (Addr × List Nat)))) nlt
    have el : (upd H7 lt' (.lst (rfs ([] : List (Addr × List Nat))))) lt' = some (.lst (rfs ([] : List (Addr × List Nat)))) := upd_same
    have st8 := st.same sl
    have ew8 := sl _ _ ew
    have si8 := si.same sl
    have nltH := st.s.free nlt
    have wne : wl ≠ lt' := fun z => by rw [z, nlt] at ew; cases ew
    show tSeq _ _ _ _ (upd H7 lt' (.lst (rfs ([] : List (Addr × List Nat)))))
    generalize (upd H7 lt' (.lst (rfs ([] : List (Addr × List Nat))))) = H8 at el st8 ew8 si8 ⊢
    refine ⟨_, rfl, wl, rfl, ⟨_, SqL.of ew8⟩, ?_⟩
    have key : ∀ j, j < ts.length → (es.map (·.1))[i + j]? = (ts.map (·.2))[j]? := fun j _ => by rw [qt, List.getElem?_drop]
    refine for_it (walk_list (K := K) (a := wl) (xs := rfs ts)) (fun j σ H' => ∃ (v4 v5 v6 v7 v8 : Option V) (ej : List Ent) (us : List (Addr × List Nat)), σ = [some (.ref x), some (.ref d), some (.ref wl), some (.ref lt'), v4, v5, v6, v7, v8] ∧ GSt H H' d n wss ej ∧ H' wl = some (.lst (rfs ts)) ∧ SetsIn H' ts ∧ H' lt' = some (.lst (rfs us)) ∧ SetsIn H' us ∧
        us.map (·.2) = (ej.map (·.1)).drop es.length ∧ es <+: ej ∧ goS n wss = Dw.go (stS n wss) Dw.lone wss.length (2 ^ n - (i + j)) (i + j) (mkE ej))
      ⟨_, _, _, _, _, es, [], rfl, st8, ew8, si8, el, fun _ m => (by cases m), by rw [List.drop_eq_nil_of_le (by rw [List.length_map]; exact Nat.le_refl _)]; rfl, List.prefix_refl es, hg⟩ (fun j σ H' _ h => by obtain ⟨_, _, _, _, _, _, _, _, _, h, _⟩ := h; exact SqL.of h) ?_ ?_
    · rintro j y σ H9' H9 hj ⟨v4, v5, v6, v7, v8, ej, us, rfl, sj, ewj, sij, elj, suj, quj, prj, hgj⟩ ⟨rfl, hy⟩
      obtain ⟨t0, ht, mt, rfl⟩ := rfs_at hy
      have jl := (List.getElem?_eq_some_iff.mp ht).1
      have et0 := sij t0 mt
      have kj : (es.map (·.1))[i + j]? = some t0.2 := by rw [key j jl, List.getElem?_map, ht]; rfl
      obtain ⟨e, he, hek⟩ : ∃ e, es[i + j]? = some e ∧ e.1 = t0.2 := by
        rw [List.getElem?_map] at kj
        exact Option.map_eq_some_iff.mp kj
      have hej := Dw.at_pre prj he
      have mej := List.mem_of_getElem? hej
      have ge2 : (mkE ej)[i + j]? = some (e.1, e.2.2) := by rw [List.getElem?_map, hej]; rfl
      have fj := sj.few
      have ndj := sj.nodup
      have ij := (List.getElem?_eq_some_iff.mp hej).1
      have ax : Dw.Asc n e.1 := sj.ok.p (e.1, e.2.2) (List.mem_of_getElem? ge2)
      have exx : H9 t0.1 = some (.tup (cV e.1)) := by rw [hek]; exact et0
      rw [show 2 ^ n - (i + j) = (2 ^ n - (i + (j + 1))) + 1 by omega] at hgj
      unfold Dw.go at hgj
      rw [ge2] at hgj
      dsimp only at hgj
      have dg : ∀ (G : Hp) (eg : List Ent), G d = some (.dT (kvX eg)) → (eg.map (·.1)).Nodup → e ∈ eg → G t0.1 = some (.tup (cV e.1)) → DGet G d (.ref t0.1) (some (.ref e.2.1)) := fun G eg h1 h2 h3 h4 => .inr ⟨kvX eg, kx e.1, t0.1, .inl h1, rfl, by rw [kx_V]; exact h4, (kvX_at h2 h3).symm⟩
      refine ⟨_, rfl, t0.1, _, rfl, .inr (SqT.of exx), rfl, _, rfl, ite2 (fun z => ?_) (fun z => ?_)⟩
      · have z := of_decide_eq_true z
        rw [V.int.injEq, List.length_map] at z
        rw [if_pos (by unfold Dw.lone; rw [beq_iff_eq]; omega)] at hgj
        refine ⟨_, rfl, _, rfl, d, .ref e.2.1, rfl, dg _ _ sj.ed ndj mej exx, k _ H9 sj.s ?_⟩
        rw [hgj]
        exact ⟨_, rfl, sj.it e mej⟩
      · have z : ¬ Dw.lone e.1 = true := fun q => z (decide_eq_true (by unfold Dw.lone at q; rw [beq_iff_eq] at q; rw [List.length_map, q]; rfl))
        rw [if_neg z] at hgj
        have lr : (rfs ps).length = wss.length := by rw [rfs_len, lw]
        refine ⟨_, rfl, x, DC, dx, _, _, rfl, sj.s _ _ ex, t.it.cl, t.nP, drF_parts _ _, pt, rfs ps, rfl, SqT.of (sj.s _ _ ep), ?_⟩
        refine for_it (walk_enumT (K := K) (a := pt) (xs := rfs ps)) (fun a σ H' => ∃ (v5 v6 v7 v8 : Option V) (ea : List Ent) (ua : List (Addr × List Nat)), σ = [some (.ref x), some (.ref d), some (.ref wl), some (.ref lt'), some (.ref t0.1), v5, v6, v7, v8] ∧ GSt H H' d n wss ea ∧ H' wl = some (.lst (rfs ts)) ∧ SetsIn H' ts ∧ H' lt' = some (.lst (rfs ua)) ∧ SetsIn H' ua ∧
            ua.map (·.2) = (ea.map (·.1)).drop es.length ∧ es <+: ea ∧ mkE ea = Dw.exs (stS n wss) a e.1 e.2.2 (mkE ej) ∧ e ∈ ea)
          ⟨v5, v6, v7, v8, ej, us, rfl, sj, ewj, sij, elj, suj, quj, prj, rfl, mej⟩ (fun a σ H' _ h => by obtain ⟨_, _, _, _, _, _, _, h, _⟩ := h; exact SqT.of (h.s _ _ ep)) ?_ ?_
        · rintro a y σ H10 H11 ha ⟨v5, v6, v7, v8, ea, ua, rfl, sa, ewa, sia, ela, sua, qua, pra, qa, mea⟩ ⟨Tn, x1, x2, rfl, nT, rfl, hx1, hx2⟩
          cases (Option.some.inj hx1)
          obtain ⟨p, hp, mp, rfl⟩ := rfs_at hx2
          have al := (List.getElem?_eq_some_iff.mp hp).1
          have sT := Same.put (o := .tup [.int ((a : Nat) : Int), .ref p.1]) nT
          have sb := sa.same sT
          have eT : (upd H10 Tn (.tup [.int ((a : Nat) : Int), .ref p.1])) Tn = some (.tup [.int ((a : Nat) : Int), .ref p.1]) := upd_same
          have ewb := sT _ _ ewa
          have sib := sia.same sT
          have elb := sT _ _ ela
          have sub := sua.same sT
          generalize (upd H10 Tn (.tup [.int ((a : Nat) : Int), .ref p.1])) = H11 at sb eT ewb sib elb sub ⊢
          have dp := (ip p mp).same sb.s
          refine ⟨Tn, [.int ((a : Nat) : Int), .ref p.1], rfl, SqT.of eT, rfl, _, _, rfl, _, _, rfl, p.1, [.ref p.2.1, .ref p.2.2.1], rfl, SqT.of dp.1, rfl, _, _, rfl, _, _, rfl, rfl, rfl, ?_⟩
          have hset : Dw.led n (mW p.2.2.2) e.1 = stS n wss e.1 a := by
            show _ = Dw.led n (mW (wss.getD a [])) e.1
            rw [← hws, List.getD, List.getElem?_map, hp]
            rfl
          have exb : H11 t0.1 = some (.tup (cV e.1)) := by rw [hek]; exact sib t0 mt
          refine ⟨_, rfl, _, rfl, t0.1, p.2.2.1, n, e.1, p.2.2.2, rfl, n8, exb, ax, dp.2, fun tt H12 s12 ett => ?_⟩
          rw [hset] at ett
          have sc := sb.same s12
          have ewc := s12 _ _ ewb
          have sic := sib.same s12
          have elc := s12 _ _ elb
          have suc := sub.same s12
          have exc := s12 _ _ exb
          have oka := sj.ok.exs cl (e := (e.1, e.2.2)) (List.mem_of_getElem? ge2) (a + 1) (by omega)
          rw [Dw.exs_succ, ← qa] at oka
          have nda := sa.nodup
          have fa := sa.few
          have lua : ua.length ≤ 256 := by
            have := congrArg List.length qua
            rw [List.length_map, List.length_drop, List.length_map] at this
            omega
          generalize hX : stS n wss e.1 a = X at ett oka
          refine ⟨_, rfl, _, rfl, d, valV (kvX ea) (kx X), rfl, .inr ⟨kvX ea, kx X, tt, .inl sc.ed, rfl, by rw [kx_V]; exact ett, rfl⟩, _, rfl, ?_⟩
          rw [kvX_some nda]
          by_cases c : X ∈ ea.map (·.1)
          · refine iteFe (by rw [decide_eq_true c]; rfl) ?_
            refine ⟨_, _, _, _, ea, ua, rfl, sc, ewc, sic, elc, suc, qua, pra, ?_, mea⟩
            rw [Dw.exs_succ, ← qa, Dw.ex1, hX, if_pos (by rw [mkE_keys]; exact c)]
          · refine iteTe (by rw [decide_eq_false c]; rfl) ?_
            have qe : Dw.ex1 (stS n wss) e.1 e.2.2 (mkE ea) a = mkE ea ++ [(X, e.2.2 ++ [a])] := by
              rw [Dw.ex1, hX, if_neg (by rw [mkE_keys]; exact c)]
            have elen : es.length ≤ (ea.map (·.1)).length := by rw [List.length_map]; exact pra.length_le
            have dne : d ≠ lt' := fun z => by
              have q := sc.ed
              rw [z, elc] at q
              cases q
            have fin : ∀ (u : Addr) (G : Hp), Same H12 G → G u = some (.tup (cV (e.2.2 ++ [a]))) → ∃ (v5 v6 v7 v8 : Option V) (e2 : List Ent) (u2 : List (Addr × List Nat)), [some (.ref x), some (.ref d), some (.ref wl), some (.ref lt'), some (.ref t0.1), some (.int ((a : Nat) : Int)), some (.ref p.2.1), some (.ref p.2.2.1), some (.ref tt)] = [some (.ref x), some (.ref d), some (.ref wl), some (.ref lt'), some (.ref t0.1), v5, v6, v7, v8] ∧ GSt H (upd (upd G d (.dT (putK (kvX ea) (kx X) (.ref u)))) lt' (.lst (rfs ua ++ [.ref tt]))) d n wss e2 ∧ (upd (upd G d (.dT (putK (kvX ea) (kx X) (.ref u)))) lt' (.lst (rfs ua ++ [.ref tt]))) wl = some (.lst (rfs ts)) ∧ SetsIn (upd (upd G d (.dT (putK (kvX ea) (kx X) (.ref u)))) lt' (.lst (rfs ua ++ [.ref tt]))) ts ∧ (upd (upd G d (.dT (putK (kvX ea) (kx X) (.ref u)))) lt' (.lst (rfs ua ++ [.ref tt]))) lt' = some (.lst (rfs u2)) ∧ SetsIn (upd (upd G d (.dT (putK (kvX ea) (kx X) (.ref u)))) lt' (.lst (rfs ua ++ [.ref tt]))) u2 ∧
                u2.map (·.2) = (e2.map (·.1)).drop es.length ∧ es <+: e2 ∧ mkE e2 = Dw.exs (stS n wss) (a + 1) e.1 e.2.2 (mkE ej) ∧ e ∈ e2 := by
              intro u G sG eu
              have gm := sc.more sG eu (by rw [mkE_snoc, ← qe]; exact oka) c (by have := sa.ln e mea; rw [List.length_append]; show e.2.2.length + 1 ≤ _; omega)
              have elG : (upd G d (.dT (putK (kvX ea) (kx X) (.ref u)))) lt' = some (.lst (rfs ua)) := by rw [upd_ne (Ne.symm dne)]; exact sG _ _ elc
              have ndt : ∀ xs, G d ≠ some (.tup xs) := fun xs q => by rw [sG _ _ sc.ed] at q; cases q
              have nlt2 : ∀ xs, (upd G d (.dT (putK (kvX ea) (kx X) (.ref u)))) lt' ≠ some (.tup xs) := fun xs q => by rw [elG] at q; cases q
              refine ⟨_, _, _, _, ea ++ [(X, (u, e.2.2 ++ [a]))], ua ++ [(tt, X)], rfl, gm.lstU elG nltH, ?_, ((sic.same sG).no ndt).no nlt2, by rw [upd_same, rfs_snoc], SetsIn.no ((suc.same sG).snoc (sG _ _ ett) |>.no ndt) nlt2, ?_, pra.trans (List.prefix_append _ _), ?_, List.mem_append_left _ mea⟩
              · rw [upd_ne wne, upd_ne (fun z => by rw [z, sc.ed] at ewc; cases ewc)]
                exact sG _ _ ewc
              · rw [List.map_append, qua, List.map_append, List.drop_append_of_le_length elen]
                rfl
              · rw [mkE_snoc, ← qe, Dw.exs_succ, ← qa]
            refine ⟨_, rfl, _, rfl, d, .ref e.2.1, rfl, dg _ _ sc.ed nda mea exc, _, rfl, by show 1 ≤ sizeLine; decide, fun b nb => ?_⟩
            have sB := Same.put (o := .tup (cV [a])) nb
            have eb : (upd H12 b (.tup (cV [a]))) b = some (.tup (cV [a])) := upd_same
            have ew2 := sB _ _ (sc.it e mea)
            show rCatA K (.ref e.2.1) (.ref b) (upd H12 b (.tup (cV [a]))) _
            generalize (upd H12 b (.tup (cV [a]))) = H13 at sB eb ew2 ⊢
            have wl2 := sa.ln e mea
            refine ⟨e.2.1, b, cV e.2.2, cV [a], rfl, rfl, SqT.of ew2, SqT.of eb, ?_, fun z => ?_, fun _ z => (by cases z), fun _ _ u nu => ?_⟩
            · rw [List.length_map]
              exact Nat.le_of_lt (small_len (n := e.2.2.length + 1) (by omega))
            · have z0 : e.2.2 = [] := List.map_eq_nil_iff.mp z
              have e1 : H13 b = some (.tup (cV (e.2.2 ++ [a]))) := by rw [z0]; exact eb
              exact ⟨_, rfl, _, rfl, d, _, rfl, DPut.t (k := kx X) (sB _ _ sc.ed) (by rw [kx_V]; exact sB _ _ ett) (by rw [kvX, List.length_map]; exact small_len (by omega)), _, rfl, .inl ⟨rfl, _, SqL.of (by rw [upd_ne (Ne.symm dne)]; exact sB _ _ elc)⟩, _, rfl, lt', _, _, rfl, rfl, by rw [upd_ne (Ne.symm dne)]; exact sB _ _ elc, by rw [rfs_len]; exact small_len (by omega), fin b H13 sB e1⟩
            · have su := Same.put (o := .tup (cV e.2.2 ++ cV [a])) nu
              have eu : (upd H13 u (.tup (cV e.2.2 ++ cV [a]))) u = some (.tup (cV (e.2.2 ++ [a]))) := by rw [upd_same, cV, cV, cV, List.map_append]
              have s57 := sB.trans su
              generalize (upd H13 u (.tup (cV e.2.2 ++ cV [a]))) = H14 at eu s57 ⊢
              exact ⟨_, rfl, _, rfl, d, _, rfl, DPut.t (k := kx X) (s57 _ _ sc.ed) (by rw [kx_V]; exact s57 _ _ ett) (by rw [kvX, List.length_map]; exact small_len (by omega)), _, rfl, .inl ⟨rfl, _, SqL.of (by rw [upd_ne (Ne.symm dne)]; exact s57 _ _ elc)⟩, _, rfl, lt', _, _, rfl, rfl, by rw [upd_ne (Ne.symm dne)]; exact s57 _ _ elc, by rw [rfs_len]; exact small_len (by omega), fin u H14 s57 eu⟩
        · rintro σ H10 ⟨v5, v6, v7, v8, ea, ua, rfl, sa, ewa, sia, ela, sua, qua, pra, qa, mea⟩
          rw [lr] at qa
          refine ⟨_, _, _, _, _, ea, ua, rfl, sa, ewa, sia, ela, sua, qua, pra, ?_⟩
          rw [hgj, qa]
          rfl
    · rintro σ H9 ⟨v4, v5, v6, v7, v8, ej, us, rfl, sj, ewj, sij, elj, suj, quj, prj, hgj⟩
      rw [rfs_len] at hgj
      have ple := prj.length_le
      refine ⟨_, rfl, 2 ^ n - (i + ts.length), by omega, lt', _, _, _, _, _, _, ej, us, i + ts.length, rfl, sj, nltH, elj, suj, by rw [quj]; congr 1; omega, by omega, hgj, rfl⟩
end
end KD
set_option Elab.async false
set_option linter.all false
set_option maxRecDepth 100000
set_option maxHeartbeats 4000000
namespace KD
open PySem L2
/-! ### both searches tell the same -/
theorem mask_range : ∀ n : Fin 9, Dw.mask (List.range n.1) = 2 ^ n.1 - 1 := by decide +kernel
theorem goMS {n : Nat} {wss : List (List Nat)} (n1 : 1 ≤ n) (n8 : n ≤ 8) (mw : ∀ ws ∈ wss, IsMap n ws) : goM n wss = goS n wss := by
  have ok0 : Dw.Ok (stS n wss) wss.length (Dw.Asc n) (List.range n) [(List.range n, [])] := by
    refine ⟨fun e m => ?_, by simp, fun e m => ?_⟩
    · rw [List.mem_singleton.mp m]; exact Dw.asc_range n1
    · rw [List.mem_singleton.mp m]; exact ⟨rfl, fun a m => by cases m⟩
  have h := Dw.go_im (f := stS n wss) (f' := stM n wss) (g := Dw.mask) (lone := Dw.lone) (lone' := Dw.lone') (k := wss.length) (P := Dw.Asc n) (x0 := List.range n) (fun x a => stS_cl mw x a) (fun x y hx hy e => Dw.mask_inj hx hy e) (fun x a hx ha => ?_) (fun x hx => Dw.lone_mask n8 hx) (2 ^ n) 0 _ ok0
  · unfold goM goS
    rw [← h]
    show _ = Dw.go _ _ _ _ _ [(Dw.mask (List.range n), [])]
    rw [mask_range ⟨n, by omega⟩]
  · have m : wss.getD a [] ∈ wss := by
      rw [List.getD, List.getElem?_eq_getElem ha]
      exact List.getElem_mem _
    exact ledM_mask (mw _ m) hx
/-- the map of a part -/
abbrev mA (wss : List (List Nat)) : Nat → Nat → Nat := fun a => mW (wss.getD a [])
theorem mA_lt {n : Nat} {wss : List (List Nat)} (mw : ∀ ws ∈ wss, IsMap n ws) (a s : Nat) (ha : a < wss.length) (hs : s < n) : mA wss a s < n := by
  have m : wss.getD a [] ∈ wss := by
    rw [List.getD, List.getElem?_eq_getElem ha]
    exact List.getElem_mem _
  exact mW_lt (mw _ m) s hs
/-- a told word leads all states to one, and no pair is stuck -/
theorem told_word {n : Nat} {wss : List (List Nat)} (n1 : 1 ≤ n) (mw : ∀ ws ∈ wss, IsMap n ws) {w : List Nat} (h : goS n wss = some w) : (∀ a ∈ w, a < wss.length) ∧ (∀ s t, s < n → t < n → Dw.runS (mA wss) w s = Dw.runS (mA wss) w t) ∧
    ∀ S, Dw.AbleS n wss.length (mA wss) S → ∀ p : Nat × Nat, p.1 < p.2 → p.2 < n → p ∈ S := by
  have ok0 : Dw.Ok (stS n wss) wss.length (Dw.Asc n) (List.range n) [(List.range n, [])] := by
    refine ⟨fun e m => ?_, by simp, fun e m => ?_⟩
    · rw [List.mem_singleton.mp m]; exact Dw.asc_range n1
    · rw [List.mem_singleton.mp m]; exact ⟨rfl, fun a m => by cases m⟩
  obtain ⟨_, h2, h3⟩ := Dw.go_some (fun x a => stS_cl mw x a) _ _ _ _ ok0 h
  have hl : Dw.lone (Dw.runX n (mA wss) w (List.range n)) = true := h2
  have hm := mA_lt mw
  exact ⟨h3, Dw.word_all hm h3 hl, fun S hS p l ln => Dw.all_able hS hm h3 hl p l ln⟩
/-- no word: a pair is stuck -/
theorem no_word {n : Nat} {wss : List (List Nat)} (n1 : 1 ≤ n) (mw : ∀ ws ∈ wss, IsMap n ws) (h : goS n wss = none) {S : List (Nat × Nat)} (hS : Dw.AbleS n wss.length (mA wss) S) : ∃ p : Nat × Nat, p.1 < p.2 ∧ p.2 < n ∧ p ∉ S := by
  have ok0 : Dw.Ok (stS n wss) wss.length (Dw.Asc n) (List.range n) [(List.range n, [])] := by
    refine ⟨fun e m => ?_, by simp, fun e m => ?_⟩
    · rw [List.mem_singleton.mp m]; exact Dw.asc_range n1
    · rw [List.mem_singleton.mp m]; exact ⟨rfl, fun a m => by cases m⟩
  have pos : 1 ≤ 2 ^ n := Nat.one_le_two_pow
  obtain ⟨L', pre, ok', d⟩ := Dw.go_none (N := 2 ^ n - 1) (fun x a => stS_cl mw x a) (fun X nd hX => Dw.few_asc X nd hX) _ _ _ ok0 (Nat.zero_le _) (by omega) (fun j e hj => absurd hj (Nat.not_lt_zero _)) h
  refine Dw.some_stuck hS (mA_lt mw) (X := L'.map (·.1)) (fun x m => ?_) (fun x m a ha => ?_) (x0 := List.range n) (Dw.keys_pre pre (by simp))
  · obtain ⟨e, me, rfl⟩ := List.mem_map.mp m
    exact ⟨ok'.p e me, (d e me).1⟩
  · obtain ⟨e, me, rfl⟩ := List.mem_map.mp m
    exact (d e me).2 a ha
end KD
set_option Elab.async false
set_option linter.all false
set_option maxRecDepth 100000
set_option maxHeartbeats 4000000
namespace KD
open PySem L2
def hvs (n : Nat) : List (Nat × Nat) := (prs n).filter fun p => decide (p.1 < p.2)
theorem mem_hvs {n : Nat} {p : Nat × Nat} : p ∈ hvs n ↔ p.1 < p.2 ∧ p.2 < n := by
  unfold hvs
  rw [List.mem_filter, mem_prs, decide_eq_true_eq]
  omega
def spHalves : Sp := fun vs H Q _ => ∃ n : Nat, vs = [.int (n : Int)] ∧ n ≤ 8 ∧ ∀ (l : Addr) (ts : List Pt) (H' : Hp), Same H H' → H' l = some (.lst (rfs ts)) → Pts H' ts → ts.map (·.2) = hvs n → Q (.ref l) H'
section
variable {P : Program} {w : World} {K : PySem.W.Frag} {mg : Str → Option Value} {base : Heap} {C CC B : Addr}
abbrev s_halves : Stmt := top 31
theorem sc_halves : FnScope ["many", "s", "t"] ["many"] (defScope s_halves) := ⟨rfl, rfl, rfl, by decide +kernel, rfl, by decide +kernel, by decide +kernel⟩
theorem ok_halves {f : Addr} {fd : FuncData} (F : Fun K "halves" "halves" s_halves f fd) (c_index_pairs : Cal P w K mg base 1 "index_pairs" ["many"] spIxPrs) : FnOk P w K mg base CX0 2 f fd ["many"] spHalves := by
  refine F.ok sc_halves (fun vs H Q E h => ?_) (fun cdv A outer s H vs Q E hr h => ?_)
  · obtain ⟨n, rfl, _⟩ := h
    rfl
  · obtain ⟨n, rfl, hn, k⟩ := h
    refine ⟨_, (pss_one (ps_ret (pe_lc (own := [("s", 1), ("t", 2)]) (g := gTup K 2 (gCons (gName 1) (gCons (gName 2) gNil))) rfl sc_halves.nd (pi_list (pe_cal c_index_pairs (hr.mono (by decide)) rfl (pa_cons (pv 0) pa_nil))) (blkOk_by (N := ["many", "s", "t"]) (sc := defScope s_halves) (by decide +kernel)) (fun _ _ _ _ _ => (pg_tup (by rfl) (pgs_cons (pg_name (i := 1) sc_halves.nd rfl (Or.inl rfl)) (pgs_cons (pg_name (i := 2) sc_halves.nd rfl (Or.inl rfl)) pgs_nil)))) (fun _ _ _ _ _ => (pts_one (pt_cmpR op_lt (pv 1) (pv 2) (nomark _)))) (fun _ _ _ _ _ => (pe_tup (pa_cons (pv 1) (pa_cons (pv 2) pa_nil))))))), ?_⟩
    refine ⟨_, rfl, n, rfl, hn, fun l ts H1 s1 el pt qt => ?_⟩
    have lt : ts.length ≤ 64 := by
      have := congrArg List.length qt
      rw [List.length_map] at this
      rw [this]; exact prs_len n hn
    refine ⟨l, rfl, ⟨_, SqL.of el⟩, fun D nD => ?_⟩
    refine lc_list (K := K) (a := l) (xs := rfs ts) (fun i H' => Same H1 H' ∧ ∃ us : List Pt, H' D = some (.lst (rfs us)) ∧ Pts H' us ∧ us.map (·.2) = ((ts.take i).map (·.2)).filter fun p => decide (p.1 < p.2)) ⟨Same.put nD, [], upd_same, fun _ m => (by cases m), rfl⟩ (fun i H' _ h => SqL.of (h.1 _ _ el)) ?_ ?_
    · rintro i y H' hy ⟨s2, us, eD, pu, qu⟩
      obtain ⟨r, hr2, mr, rfl⟩ := rfs_at hy
      have il := (List.getElem?_eq_some_iff.mp hr2).1
      refine ⟨r.1, prV r.2, rfl, SqT.of (s2 _ _ (pt r mr)), rfl, _, _, rfl, _, _, rfl, rfl, rfl, ?_⟩
      refine ⟨_, rfl, _, rfl, _, _, rfl, rfl, _, rfl, ?_⟩
      have take : (ts.take (i + 1)).map (·.2) = (ts.take i).map (·.2) ++ [r.2] := by rw [take_more hr2, List.map_append]; rfl
      by_cases e : ¬ r.2.1 < r.2.2
      · refine iteFe (decide_eq_false (by omega)) ⟨s2, us, eD, pu, ?_⟩
        rw [take, List.filter_append, qu, List.filter_cons, if_neg (by simp [e])]
        simp
      · have e : r.2.1 < r.2.2 := by omega
        refine iteTe (decide_eq_true (by omega)) ?_
        refine ⟨_, rfl, _, rfl, by show 2 ≤ sizeLine; decide, fun t nt => ?_⟩
        have st := Same.put (o := .tup (prV r.2)) nt
        have ul : us.length ≤ 64 := by
          have := congrArg List.length qu
          rw [List.length_map] at this
          have h2 := List.length_filter_le (fun p : Nat × Nat => decide (p.1 < p.2)) ((ts.take i).map (·.2))
          rw [List.length_map, List.length_take] at h2
          omega
        have eD2 := st _ _ eD
        refine ⟨rfs us, eD2, by rw [rfs_len]; exact small_len (by omega), Same.but (fun b u e => st _ _ (s2 _ _ e)) nD, us ++ [(t, r.2)], by rw [upd_same, rfs_snoc], ?_, ?_⟩
        · refine Pts.lstU (Pts.snoc (pu.same st) ?_) eD2
          exact upd_same
        · rw [List.map_append, qu, take, List.filter_append, List.filter_cons, if_pos (by simp [e])]
          rfl
    · rintro H2 ⟨s2, us, eD, pu, qu⟩
      refine k D us H2 (s1.trans s2) eD pu ?_
      rw [qu, rfs_len, List.take_length, qt]
      rfl
end
end KD
set_option Elab.async false
set_option linter.all false
set_option maxRecDepth 100000
set_option maxHeartbeats 4000000
namespace KD
open PySem L2
/-! ### dicts from pairs -/
abbrev kvE {α : Type} (es : List (Addr × (Nat × Nat) × α)) : List (List L2.Key × V) := es.map fun e => (kp e.2.1, V.ref e.1)
theorem kp_inj {p q : Nat × Nat} (h : kp p = kp q) : p = q := by
  injection h with h1 h2
  injection h2 with h2 _
  injection h1 with h1
  injection h2 with h2
  exact Prod.ext (by omega) (by omega)
theorem val_new {α : Type} {es : List (Addr × (Nat × Nat) × α)} {p : Nat × Nat} (h : p ∉ es.map fun e => e.2.1) : valV (kvE es) (kp p) = none := by
  induction es with
  | nil => rfl
  | cons e es ih =>
    rw [List.map_cons, List.mem_cons, not_or] at h
    rw [kvE, List.map_cons, valV_neg (fun z => h.1 (kp_inj z).symm)]
    exact ih h.2
theorem val_at {α : Type} {es : List (Addr × (Nat × Nat) × α)} (nd : (es.map fun e => e.2.1).Nodup) {e : Addr × (Nat × Nat) × α} (m : e ∈ es) : valV (kvE es) (kp e.2.1) = some (.ref e.1) := by
  induction es with
  | nil => cases m
  | cons x es ih =>
    rw [List.map_cons, List.nodup_cons] at nd
    rcases List.mem_cons.mp m with rfl | m
    · exact valV_pos rfl
    · rw [kvE, List.map_cons, valV_neg (fun z => nd.1 (by rw [kp_inj z]; exact List.mem_map.mpr ⟨e, m, rfl⟩))]
      exact ih nd.2 m
theorem put_new {α : Type} {es : List (Addr × (Nat × Nat) × α)} {p : Nat × Nat} {c : Addr} {x : α} (h : p ∉ es.map fun e => e.2.1) : putK (kvE es) (kp p) (.ref c) = kvE (es ++ [(c, p, x)]) := by
  rw [putK_new _ (val_new h), kvE, kvE, List.map_append]
  rfl
theorem kvE_len {α : Type} {es : List (Addr × (Nat × Nat) × α)} : (kvE es).length = es.length := List.length_map _
theorem notin_take {α β : Type} {es : List α} {f : α → β} {i : Nat} {e : α} (nd : (es.map f).Nodup) (he : es[i]? = some e) : f e ∉ (es.take i).map f := by
  have h : ((es.take (i + 1)).map f).Nodup := nd.sublist ((List.take_sublist _ _).map f)
  rw [take_more he, List.map_append, List.nodup_append] at h
  intro m
  exact h.2.2 _ m _ (by simp) rfl
/-- pairs found so far, as a dict -/
abbrev fndP (S : List (Nat × Nat)) : List (List L2.Key × V) := S.map fun p => (kp p, V.bl true)
theorem fndP_none {S : List (Nat × Nat)} {p : Nat × Nat} (h : p ∉ S) : valV (fndP S) (kp p) = none := by
  induction S with
  | nil => rfl
  | cons q S ih =>
    rw [List.mem_cons, not_or] at h
    rw [fndP, List.map_cons, valV_neg (fun z => h.1 (kp_inj z).symm)]
    exact ih h.2
theorem fndP_some (S : List (Nat × Nat)) (p : Nat × Nat) : (valV (fndP S) (kp p)).isSome = decide (p ∈ S) := by
  induction S with
  | nil => rfl
  | cons q S ih =>
    by_cases e : q = p
    · subst e
      rw [fndP, List.map_cons, valV_pos rfl, decide_eq_true List.mem_cons_self]
      rfl
    · rw [fndP, List.map_cons, valV_neg (fun z => e (kp_inj z))]
      rw [show (valV (List.map (fun p => (kp p, V.bl true)) S) (kp p)).isSome = decide (p ∈ S) from ih, decide_eq_decide, List.mem_cons]
      exact ⟨fun h => .inr h, fun h => h.resolve_left fun z => e z.symm⟩
theorem fndP_add {S : List (Nat × Nat)} {p : Nat × Nat} (h : p ∉ S) : putK (fndP S) (kp p) (V.bl true) = fndP (S ++ [p]) := by
  rw [putK_new _ (fndP_none h), fndP, fndP, List.map_append]
  rfl
def pN (p : Nat × Nat) : List Nat := [p.1, p.2]
theorem pN_inj {p q : Nat × Nat} (h : pN p = pN q) : p = q := by
  unfold pN at h
  injection h with h1 h2
  injection h2 with h2 _
  exact Prod.ext h1 h2
theorem Pts.dp {K : PySem.W.Frag} {H : Hp} : ∀ {ts : List Pt}, Pts H ts → DpAll K H (rfs ts) ((((ts.map (·.2)).map pN).map iW).map dI)
  | [], _ => .nil
  | t :: ts, h => .cons (dp_tupN (ws := pN t.2) (SqT.of (h t List.mem_cons_self))) (Pts.dp fun u m => h u (List.mem_cons_of_mem _ m))
theorem pN_mem {p : Nat × Nat} {L : List (Nat × Nat)} : pN p ∈ L.map pN ↔ p ∈ L := ⟨fun m => by obtain ⟨q, mq, e⟩ := List.mem_map.mp m; exact pN_inj e ▸ mq, fun m => List.mem_map_of_mem m⟩
theorem any_dP (p : Nat × Nat) (L : List (Nat × Nat)) : (((L.map pN).map iW).map dI).any (fun z => PyData.eqv z (dI (iW (pN p)))) = decide (p ∈ L) := by
  rw [any_dN, decide_eq_decide]
  exact pN_mem
/-- where each pair is led -/
def MvP (H : Hp) (d : Addr) (ps : List (Nat × Nat)) (f : Nat × Nat → List (Nat × Nat)) : Prop := ∃ ms : List (Addr × (Nat × Nat) × List Pt), H d = some (.dT (kvE ms)) ∧ (ms.map fun e => e.2.1).Nodup ∧ ∀ p ∈ ps, ∃ e ∈ ms, e.2.1 = p ∧ H e.1 = some (.lst (rfs e.2.2)) ∧ Pts H e.2.2 ∧ e.2.2.map (·.2) = f p
theorem MvP.same {H H' : Hp} {d : Addr} {ps : List (Nat × Nat)} {f : Nat × Nat → List (Nat × Nat)} (h : MvP H d ps f) (s : Same H H') : MvP H' d ps f := by
  obtain ⟨ms, h1, h2, h3⟩ := h
  exact ⟨ms, s _ _ h1, h2, fun p m => let ⟨e, me, q1, q2, q3, q4⟩ := h3 p m; ⟨e, me, q1, s _ _ q2, q3.same s, q4⟩⟩
def goP (f : Nat × Nat → List (Nat × Nat)) (gs S : List (Nat × Nat)) (p : Nat × Nat) : Bool := (f p).any fun q => decide (q ∈ gs) || decide (q ∈ S)
def RkP (f : Nat × Nat → List (Nat × Nat)) (ps gs S : List (Nat × Nat)) : Prop := ∀ (A : List (Nat × Nat)) (p : Nat × Nat) (B : List (Nat × Nat)), S = A ++ p :: B → p ∈ ps ∧ ∃ q ∈ f p, q ∈ gs ∨ q ∈ A
theorem RkP.snoc {f : Nat × Nat → List (Nat × Nat)} {ps gs S : List (Nat × Nat)} {p : Nat × Nat} (h : RkP f ps gs S) (mp : p ∈ ps) (g : goP f gs S p = true) : RkP f ps gs (S ++ [p]) := by
  intro A t B e
  rcases List.eq_nil_or_concat B with rfl | ⟨B', b, rfl⟩
  · have e2 := List.append_inj' e rfl
    obtain ⟨rfl, e3⟩ := e2
    cases e3
    unfold goP at g
    rw [List.any_eq_true] at g
    obtain ⟨q, m, c⟩ := g
    rw [Bool.or_eq_true, decide_eq_true_eq, decide_eq_true_eq] at c
    exact ⟨mp, q, m, c⟩
  · rw [List.concat_eq_append, ← List.cons_append, ← List.append_assoc] at e
    have e2 := List.append_inj' e rfl
    exact h A t B' e2.1
def spAbleP : Sp := fun vs H Q _ => ∃ (d l g : Addr) (pl gl : List Pt) (f : Nat × Nat → List (Nat × Nat)), vs = [.ref d, .ref l, .ref g] ∧ MvP H d (pl.map (·.2)) f ∧ H l = some (.lst (rfs pl)) ∧ Pts H pl ∧ (pl.map (·.2)).Nodup ∧ pl.length ≤ 64 ∧ (∀ p ∈ pl, (f p.2).length ≤ 64) ∧ H g = some (.lst (rfs gl)) ∧ Pts H gl ∧
  ∀ (r : Addr) (us : List Pt) (S : List (Nat × Nat)) (H' : Hp), Same H H' → H' r = some (.lst (rfs us)) → Pts H' us → us.map (·.2) = (pl.map (·.2)).filter (fun p => decide (p ∈ S)) → RkP f (pl.map (·.2)) (gl.map (·.2)) S → (∀ p ∈ pl.map (·.2), p ∉ S → goP f (gl.map (·.2)) S p = false) → Q (.ref r) H'
end KD
set_option Elab.async false
set_option linter.all false
set_option maxRecDepth 100000
set_option maxHeartbeats 4000000
namespace KD
open PySem L2
theorem nd_pairs : ∀ (S pl : List (Nat × Nat)), S.Nodup → (∀ x ∈ S, x ∈ pl) → S.length ≤ pl.length
  | [], _, _, _ => Nat.zero_le _
  | a :: r, pl, nd, h => by
    rw [List.nodup_cons] at nd
    have ma := h a List.mem_cons_self
    have ih := nd_pairs r (pl.erase a) nd.2 fun x m => (List.mem_erase_of_ne (fun e => nd.1 (by rw [← e]; exact m))).mpr (h x (List.mem_cons_of_mem _ m))
    rw [List.length_erase_of_mem ma] at ih
    have := List.length_pos_of_mem ma
    rw [List.length_cons]
    omega
section
variable {P : Program} {w : World} {K : PySem.W.Frag} {mg : Str → Option Value} {base : Heap} {C CC B : Addr}
abbrev s_able : Stmt := top 34
abbrev nAb : List Str := ["moves", "places", "goals", "able", "grown", "place", "to"]
theorem sc_able : FnScope nAb ["moves", "places", "goals"] (defScope s_able) := ⟨rfl, rfl, rfl, by decide +kernel, rfl, by decide +kernel, by decide +kernel⟩
def AbW (H0 : Hp) (d l g F : Addr) (pl gl : List Pt) (f : Nat × Nat → List (Nat × Nat)) (m : Nat) (σ : St) (H' : Hp) : Prop := ∃ (b : Bool) (v5 v6 : Option V) (S : List (Nat × Nat)), σ = [some (.ref d), some (.ref l), some (.ref g), some (.ref F), some (.bl b), v5, v6] ∧ Same H0 H' ∧ H' F = some (.dT (fndP S)) ∧ S.Nodup ∧ RkP f (pl.map (·.2)) (gl.map (·.2)) S ∧
  (∀ x ∈ S, x ∈ pl.map (·.2)) ∧ (b = false → ∀ p ∈ pl.map (·.2), p ∉ S → goP f (gl.map (·.2)) S p = false) ∧ m = 2 * (pl.length - S.length) + (if b = true then 1 else 0)
theorem ok_able {fa : Addr} {fd : FuncData} (F : Fun K "able_places" "able_places" s_able fa fd) (T : Bm mg) : FnOk P w K mg base CX0 2 fa fd ["moves", "places", "goals"] spAbleP := by
  refine F.ok sc_able (fun vs H Q E h => ?_) (fun cdv A' outer s H vs Q E hr h => ?_)
  · obtain ⟨d, l, g, pl, gl, f, rfl, _⟩ := h
    rfl
  · obtain ⟨d, l, g, pl, gl, f, rfl, mv, el, ppl, nd, l64, f64, eg, pgl, q⟩ := h
    have hu := hu_of hr
    refine ⟨_, (pss_cons (ps_set (i := 3) sc_able.nd rfl (Or.inr rfl) pe_dnewT)
      (pss_cons (ps_set (i := 4) sc_able.nd rfl (Or.inl rfl) pe_bl)
      (pss_cons (ps_while PassesOwn.never (pt_truth (pv 4) (by intro _; rfl))
        (pss_cons (ps_set (i := 4) sc_able.nd rfl (Or.inl rfl) pe_bl)
          (pss_one (ps_for PassesOwn.never rfl (pi_list (pv 1)) (pg_name (i := 5) sc_able.nd rfl (Or.inl rfl))
            (pss_one (ps_if (PW.pt (pw_and (pt_cmp (pc_dnotin (by exact hu) (pv 5) (pv 3)) (by rfl)) (pw_and1 (pt_val (pe_callB (show CallR _ _ (rAny K) from cr_any rfl) (by rfl) T.n_any PyProof.Rows.boot_any (pa_cons (pe_lc (own := [("to", 6)]) rfl sc_able.nd (pi_list (pe_dget (by exact hu) (pv 0) (pv 5) (by intro _ _; rfl))) (blkOk_by (N := nAb) (sc := defScope s_able) (by decide +kernel)) (fun _ _ _ _ _ => (pg_name (i := 6) sc_able.nd rfl (Or.inl rfl))) (fun _ _ _ _ _ => pts_nil)
                (fun _ _ _ _ _ => (pe_or (pe_cmpR (show OpR _ _ (rInD K) from op_inD (by exact un65 hr)) (pv 6) (pv 2) (by rfl)) (pe_one (pe_cmp (pc_din (by exact hu) (pv 6) (pv 3)) (by rfl)))))) pa_nil))))))
                (pss_cons (ps_dput (by exact hu) (pv 3) (pv 5) pe_bl rfl)
                  (pss_one (ps_set (i := 4) sc_able.nd rfl (Or.inl rfl) pe_bl)))
                pss_nil))))))
      (pss_one (ps_ret (pe_lc (own := [("place", 5)]) rfl sc_able.nd (pi_list (pv 1)) (blkOk_by (N := nAb) (sc := defScope s_able) (by decide +kernel)) (fun _ _ _ _ _ => (pg_name (i := 5) sc_able.nd rfl (Or.inl rfl))) (fun _ _ _ _ _ => (pts_one (pt_cmp (pc_din (by exact hu) (pv 5) (pv 3)) (by rfl)))) (fun _ _ _ _ _ => (pv 5)))))))), ?_⟩
    intro FA nF
    refine ⟨AbW H d l g FA pl gl f, ⟨_, true, none, none, [], rfl, Same.put nF, upd_same, List.nodup_nil, fun A t B e => (by simp at e), fun _ m => (by cases m), fun h => (by cases h), rfl⟩, ?_⟩
    rintro m σ H2 ⟨b, v5, v6, S, rfl, s2, eF, ndS, rk, sub, clo, rfl⟩
    refine ⟨_, rfl, b, rfl, ?_⟩
    have dgF : ∀ (G : Hp) (S : List (Nat × Nat)) (a : Addr) (p : Nat × Nat), G FA = some (.dT (fndP S)) → G a = some (.tup (prV p)) → DGet G FA (.ref a) (valV (fndP S) (kp p)) := fun G S a p h1 h2 => .inr ⟨fndP S, kp p, a, .inl h1, rfl, h2, rfl⟩
    cases b with
    | false =>
      refine iteFe rfl ?_
      refine ⟨_, rfl, l, rfl, ⟨_, SqL.of (s2 _ _ el)⟩, fun D nD => ?_⟩
      have nDH := s2.free nD
      have FD : FA ≠ D := fun z => by rw [z, nD] at eF; cases eF
      refine lc_list (K := K) (a := l) (xs := rfs pl) (fun i H' => Same H2 H' ∧ ∃ us : List Pt, H' D = some (.lst (rfs us)) ∧ Pts H' us ∧ us.map (·.2) = ((pl.take i).map (·.2)).filter fun p => decide (p ∈ S)) ⟨Same.put nD, [], upd_same, fun _ m => (by cases m), rfl⟩ (fun i H' _ h => SqL.of (h.1 _ _ (s2 _ _ el))) ?_ ?_
      · rintro i y H' hy ⟨s3, us, eD, pu, qu⟩
        obtain ⟨r, hr2, mr, rfl⟩ := rfs_at hy
        have il := (List.getElem?_eq_some_iff.mp hr2).1
        refine ⟨rfl, ?_⟩
        refine ⟨_, rfl, _, rfl, FA, _, rfl, dgF _ _ _ _ (s3 _ _ eF) (s3 _ _ (s2 _ _ (ppl r mr))), _, rfl, ?_⟩
        rw [fndP_some]
        have take : (pl.take (i + 1)).map (·.2) = (pl.take i).map (·.2) ++ [r.2] := by rw [take_more hr2, List.map_append]; rfl
        by_cases c : r.2 ∈ S
        · refine iteTe (decide_eq_true c) ?_
          have ul : us.length ≤ 64 := by
            have := congrArg List.length qu
            rw [List.length_map] at this
            have h2 := List.length_filter_le (fun p : Nat × Nat => decide (p ∈ S)) ((pl.take i).map (·.2))
            rw [List.length_map, List.length_take] at h2
            omega
          refine ⟨_, rfl, _, eD, by rw [rfs_len]; exact small_len (by omega), Same.but s3 nD, us ++ [r], by rw [upd_same, rfs_snoc], Pts.lstU (Pts.snoc pu (s3 _ _ (s2 _ _ (ppl r mr)))) eD, ?_⟩
          rw [List.map_append, qu, take, List.filter_append]
          simp [c]
        · refine iteFe (decide_eq_false c) ⟨s3, us, eD, pu, ?_⟩
          rw [qu, take, List.filter_append]
          simp [c]
      · rintro H3 ⟨s3, us, eD, pu, qu⟩
        rw [rfs_len, List.take_length] at qu
        exact q D us S H3 (s2.trans s3) eD pu qu rk (clo rfl)
    | true =>
      refine iteTe rfl ⟨fun σ' H' => ∃ m', m' < 2 * (pl.length - S.length) + (if true = true then 1 else 0) ∧ AbW H d l g FA pl gl f m' σ' H', fun _ _ h => h, ?_⟩
      refine ⟨_, rfl, l, rfl, ⟨_, SqL.of (s2 _ _ el)⟩, ?_⟩
      refine for_it (walk_list (K := K) (a := l) (xs := rfs pl)) (fun i σ H' => ∃ (b2 : Bool) (v5 v6 : Option V) (S2 : List (Nat × Nat)), σ = [some (.ref d), some (.ref l), some (.ref g), some (.ref FA), some (.bl b2), v5, v6] ∧ Same H H' ∧ H' FA = some (.dT (fndP S2)) ∧ S2.Nodup ∧ RkP f (pl.map (·.2)) (gl.map (·.2)) S2 ∧ (∀ x ∈ S2, x ∈ pl.map (·.2)) ∧
        ((b2 = false ∧ S2 = S ∧ ∀ p ∈ (pl.take i).map (·.2), p ∉ S → goP f (gl.map (·.2)) S p = false) ∨ (b2 = true ∧ S.length < S2.length)))
        ⟨false, v5, v6, S, rfl, s2, eF, ndS, rk, sub, .inl ⟨rfl, rfl, fun t m => by simp at m⟩⟩ (fun i σ H' _ ⟨_, _, _, _, _, h, _⟩ => SqL.of (h _ _ el)) ?_ ?_
      · rintro i x σ H3' H3 hi ⟨b2, v5, v6, S2, rfl, s3, eF3, nd3, rk3, sub3, stt⟩ ⟨rfl, hx⟩
        obtain ⟨r, hr2, mr, rfl⟩ := rfs_at hx
        have mp : r.2 ∈ pl.map (·.2) := List.mem_map_of_mem mr
        have er := s3 _ _ (ppl r mr)
        have take : (pl.take (i + 1)).map (·.2) = (pl.take i).map (·.2) ++ [r.2] := by rw [take_more hr2, List.map_append]; rfl
        refine ⟨_, rfl, _, rfl, FA, _, rfl, dgF _ _ _ _ eF3 er, _, rfl, ?_⟩
        rw [fndP_some]
        by_cases c : r.2 ∈ S2
        · refine iteFe (by rw [decide_eq_true c]; rfl) (iteF ?_)
          refine ⟨b2, _, _, S2, rfl, s3, eF3, nd3, rk3, sub3, ?_⟩
          rcases stt with ⟨q1, q2, q3⟩ | stt
          · refine .inl ⟨q1, q2, fun t2 m nt => ?_⟩
            rw [take] at m
            rcases List.mem_append.mp m with m | m
            · exact q3 t2 m nt
            · rw [List.mem_singleton.mp m, ← q2] at nt; exact absurd c nt
          · exact .inr stt
        · refine iteTe (by rw [decide_eq_false c]; rfl) ?_
          obtain ⟨ms, em, ndm, mvs⟩ := mv.same s3
          obtain ⟨e, me, q1, q2, q3, q4⟩ := mvs r.2 mp
          have fl : e.2.2.length ≤ 64 := by
            have := congrArg List.length q4
            rw [List.length_map] at this
            have := f64 r mr
            omega
          refine ⟨_, rfl, _, rfl, d, .ref e.1, rfl, .inr ⟨kvE ms, kp r.2, r.1, .inl em, rfl, er, by rw [← q1]; exact (val_at ndm me).symm⟩, e.1, rfl, ⟨_, SqL.of q2⟩, fun D nD => ?_⟩
          refine lc_list (K := K) (a := e.1) (xs := rfs e.2.2) (fun j H' => Same H3 H' ∧ H' D = some (.lst ((((e.2.2.map (·.2)).map fun q => decide (q ∈ gl.map (·.2)) || decide (q ∈ S2)).take j).map V.bl))) ⟨Same.put nD, upd_same⟩ (fun j H' _ h => SqL.of (h.1 _ _ q2)) ?_ ?_
          · rintro j y H4 hy ⟨s4, eD⟩
            obtain ⟨u, hu2, mu, rfl⟩ := rfs_at hy
            have jl := (List.getElem?_eq_some_iff.mp hu2).1
            refine ⟨rfl, yes_of ?_⟩
            have eu := s4 _ _ (q3 u mu)
            have s04 := s3.trans s4
            have fin : ∃ acc, H4 D = some (.lst acc) ∧ acc.length < sizeLine ∧ Same H3 (upd H4 D (.lst (acc ++ [V.bl (decide (u.2 ∈ gl.map (·.2)) || decide (u.2 ∈ S2))]))) ∧ (upd H4 D (.lst (acc ++ [V.bl (decide (u.2 ∈ gl.map (·.2)) || decide (u.2 ∈ S2))]))) D = some (.lst ((((e.2.2.map (·.2)).map fun q => decide (q ∈ gl.map (·.2)) || decide (q ∈ S2)).take (j + 1)).map V.bl)) := by
              refine ⟨_, eD, small_len (by rw [List.length_map, List.length_take]; omega), Same.but s4 nD, ?_⟩
              have hh : ((e.2.2.map (·.2)).map fun q => decide (q ∈ gl.map (·.2)) || decide (q ∈ S2))[j]? = some (decide (u.2 ∈ gl.map (·.2)) || decide (u.2 ∈ S2)) := by rw [List.getElem?_map, List.getElem?_map, hu2]; rfl
              rw [upd_same, take_more hh, List.map_append]
              rfl
            refine ⟨_, rfl, _, rfl, dI (iW (pN u.2)), _, dp_tupN (ws := pN u.2) (SqT.of eu), .lst (SqL.of (s04 _ _ eg)) (Pts.dp (pgl.same s04)), sh_dI _, sh_list _, _, rfl, ?_⟩
            rw [any_dP]
            by_cases c1 : u.2 ∈ gl.map (·.2)
            · rw [decide_eq_true c1, Bool.true_or] at fin
              exact iteTe (decide_eq_true c1) fin
            · rw [decide_eq_false c1, Bool.false_or] at fin
              refine iteFe (decide_eq_false c1) ?_
              refine ⟨_, rfl, _, rfl, FA, _, rfl, dgF _ _ _ _ (s4 _ _ eF3) eu, ?_⟩
              rw [fndP_some]
              exact fin
          · rintro H4 ⟨s4, eD⟩
            have ll : (rfs e.2.2).length = ((e.2.2.map (·.2)).map fun q => decide (q ∈ gl.map (·.2)) || decide (q ∈ S2)).length := by rw [rfs_len, List.length_map, List.length_map]
            rw [ll, List.take_length, q4] at eD
            refine ⟨D, _, rfl, SqL.of eD, _, rfl, ?_⟩
            have eg2 : ((f r.2).map fun q => decide (q ∈ gl.map (·.2)) || decide (q ∈ S2)).any id = goP f (gl.map (·.2)) S2 r.2 := by
              unfold goP
              rw [List.any_map]
              rfl
            rw [eg2]
            have s04 := s3.trans s4
            have eF5 := s4 _ _ eF3
            have er5 := s4 _ _ er
            have lS : S2.length ≤ 64 := by
              have := nd_pairs S2 _ nd3 sub3
              rw [List.length_map] at this
              omega
            by_cases gg : goP f (gl.map (·.2)) S2 r.2 = true
            · refine iteTe gg ?_
              refine ⟨_, rfl, _, rfl, FA, _, rfl, DPut.t (k := kp r.2) eF5 er5 (by rw [fndP, List.length_map]; exact small_len (by omega)), ?_⟩
              rw [fndP_add c]
              refine ⟨true, _, _, S2 ++ [r.2], rfl, Same.but s04 nF, upd_same, ?_, rk3.snoc mp gg, fun x m => ?_, .inr ⟨rfl, ?_⟩⟩
              · refine List.nodup_append.mpr ⟨nd3, by simp, fun x hx y hy => ?_⟩
                rw [List.mem_singleton.mp hy]
                exact fun z => c (z ▸ hx)
              · rcases List.mem_append.mp m with m | m
                · exact sub3 x m
                · rw [List.mem_singleton.mp m]; exact mp
              · rw [List.length_append, List.length_singleton]
                rcases stt with ⟨_, q2, _⟩ | ⟨_, q2⟩
                · rw [q2]; omega
                · omega
            · refine iteFe (Bool.eq_false_iff.mpr gg) ?_
              refine ⟨b2, _, _, S2, rfl, s04, eF5, nd3, rk3, sub3, ?_⟩
              rcases stt with ⟨z1, z2, z3⟩ | stt
              · refine .inl ⟨z1, z2, fun t2 m nt => ?_⟩
                rw [take] at m
                rcases List.mem_append.mp m with m | m
                · exact z3 t2 m nt
                · rw [List.mem_singleton.mp m, ← z2]; exact Bool.eq_false_iff.mpr gg
              · exact .inr stt
      · rintro σ H3 ⟨b2, v5, v6, S2, rfl, s3, eF3, nd3, rk3, sub3, stt⟩
        have lS : S2.length ≤ pl.length := by
          have := nd_pairs S2 _ nd3 sub3
          rwa [List.length_map] at this
        have lS0 : S.length ≤ pl.length := by
          have := nd_pairs S _ ndS sub
          rwa [List.length_map] at this
        rcases stt with ⟨rfl, rfl, z3⟩ | ⟨rfl, z2⟩
        · refine ⟨_, ?_, false, _, _, S2, rfl, s3, eF3, nd3, rk3, sub3, fun _ p m nt => z3 p (by rw [rfs_len, List.take_length]; exact m) nt, rfl⟩
          simp
        · refine ⟨_, ?_, true, _, _, S2, rfl, s3, eF3, nd3, rk3, sub3, fun h => (by cases h), rfl⟩
          simp
          omega
end
end KD
set_option Elab.async false
set_option linter.all false
set_option maxRecDepth 100000
set_option maxHeartbeats 4000000
/-! min(t), max(t), t a tuple of ints -/
namespace L2
open PySem PySem.Spec PyProof.Rows
section
variable {prog : Program} {w : World} {A : Around} {E : Value → Shared → Prop} {s : Shared} {l : Addr} {its : List Value} {ns : List Int} {Q : Value → Shared → Prop}
theorem best_mem {ns : List Int} {k : Nat} (h : k < ns.length) : ns.getD k 0 ∈ ns := by
  rw [List.getD, List.getElem?_eq_getElem h]
  exact List.getElem_mem h
theorem mem_at {ns : List Int} {a : Int} (h : a ∈ ns) : ∃ j, j < ns.length ∧ ns.getD j 0 = a := by
  obtain ⟨j, hj, e⟩ := List.getElem_of_mem h
  exact ⟨j, hj, by rw [List.getD, List.getElem?_eq_getElem hj]; exact e⟩
theorem min_rawT (hh : A.in1.handled = none) (hl : s.heap.IsTuple l its.toArray) (hi : IntsAre its ns) (hne : 0 < ns.length)
    (h : ∀ h' tk m t', (∀ b o, s.heap.get? b = some o → h'.get? b = some o) → m ∈ ns → (∀ a ∈ ns, m ≤ a) → Q (.int m t') { s with heap := h', toks := tk }) : wpAny (model prog w) A (call (.builtin "min") [.ref l]) Q E s := by
  have hlen : its.toArray.size = ns.length := by rw [List.size_toArray]; exact hi.length
  refine call_min_walkS (PySem.W.iter_tupleW (A := A.in1) hh hl fun s₂ e W st fp _ _ => ⟨_, _, _, _, _, _, _, fun i j => decide (ns.getD i 0 < ns.getD j 0), rfl, W, st, fp, by rw [hlen]; exact hne, CmpOf.ints_lt (fun i => ns.getD i 0) fun i v hv => intsAre_at hi i v (by simpa using hv), fun v s' hv hm => ?_⟩)
  obtain ⟨t', rfl⟩ := intsAre_at hi (argBest (fun i j => decide (ns.getD i 0 < ns.getD j 0)) (its.toArray.size - 1)) v (by have q := hv; rwa [List.getElem?_toArray] at q)
  obtain ⟨h', tk, rfl, old⟩ := PySem.W.moved_old e rfl hm
  obtain ⟨b1, b2⟩ := argBest_lt (fun i => ns.getD i 0) (its.toArray.size - 1)
  refine h h' tk _ t' old (best_mem (by omega)) fun a ma => ?_
  obtain ⟨j, hj, rfl⟩ := mem_at ma
  exact b2 j (by omega)
theorem max_rawT (hh : A.in1.handled = none) (hl : s.heap.IsTuple l its.toArray) (hi : IntsAre its ns) (hne : 0 < ns.length)
    (h : ∀ h' tk m t', (∀ b o, s.heap.get? b = some o → h'.get? b = some o) → m ∈ ns → (∀ a ∈ ns, a ≤ m) → Q (.int m t') { s with heap := h', toks := tk }) : wpAny (model prog w) A (call (.builtin "max") [.ref l]) Q E s := by
  have hlen : its.toArray.size = ns.length := by rw [List.size_toArray]; exact hi.length
  refine call_max_walkS (PySem.W.iter_tupleW (A := A.in1) hh hl fun s₂ e W st fp _ _ => ⟨_, _, _, _, _, _, _, fun i j => decide (ns.getD i 0 > ns.getD j 0), rfl, W, st, fp, by rw [hlen]; exact hne, CmpOf.ints_gt (fun i => ns.getD i 0) fun i v hv => intsAre_at hi i v (by simpa using hv), fun v s' hv hm => ?_⟩)
  obtain ⟨t', rfl⟩ := intsAre_at hi (argBest (fun i j => decide (ns.getD i 0 > ns.getD j 0)) (its.toArray.size - 1)) v (by have q := hv; rwa [List.getElem?_toArray] at q)
  obtain ⟨h', tk, rfl, old⟩ := PySem.W.moved_old e rfl hm
  obtain ⟨b1, b2⟩ := argBest_gt (fun i => ns.getD i 0) (its.toArray.size - 1)
  refine h h' tk _ t' old (best_mem (by omega)) fun a ma => ?_
  obtain ⟨j, hj, rfl⟩ := mem_at ma
  exact b2 j (by omega)
end
section
variable {X : Cx}
def rMinT (K : PySem.W.Frag) : List V → Hp → VK → Prop := fun vs H Q => ∃ (a : Addr) (ns : List Int), vs = [V.ref a] ∧ SqT K H a (ns.map V.int) ∧ 0 < ns.length ∧ ∀ m, m ∈ ns → (∀ y ∈ ns, m ≤ y) → Q (.int m) H
def rMaxT (K : PySem.W.Frag) : List V → Hp → VK → Prop := fun vs H Q => ∃ (a : Addr) (ns : List Int), vs = [V.ref a] ∧ SqT K H a (ns.map V.int) ∧ 0 < ns.length ∧ ∀ m, m ∈ ns → (∀ y ∈ ns, y ≤ m) → Q (.int m) H
theorem cr_minT (hc : X.calm = true) : CallR X (.builtin "min") (rMinT X.K) := by
  intro pins s σ H vs us Q I r h
  obtain ⟨a, ns, rfl, hs, hne, q⟩ := h
  obtain ⟨its, rv, hl, _⟩ := I.tuple hs
  rw [Vals.ref1 r]
  exact min_rawT (I.ok.hd hc) hl rv.ints hne fun h' tk m t' hk m1 m2 => ⟨.int _, H, I.kept hk, ⟨_, rfl⟩, q m m1 m2⟩
theorem cr_maxT (hc : X.calm = true) : CallR X (.builtin "max") (rMaxT X.K) := by
  intro pins s σ H vs us Q I r h
  obtain ⟨a, ns, rfl, hs, hne, q⟩ := h
  obtain ⟨its, rv, hl, _⟩ := I.tuple hs
  rw [Vals.ref1 r]
  exact max_rawT (I.ok.hd hc) hl rv.ints hne fun h' tk m t' hk m1 m2 => ⟨.int _, H, I.kept hk, ⟨_, rfl⟩, q m m1 m2⟩
end
end L2
set_option Elab.async false
set_option linter.all false
set_option maxRecDepth 100000
set_option maxHeartbeats 4000000
namespace KD
open PySem L2
def spHalf : Sp := fun vs H Q _ => ∃ (t : Addr) (p : Nat × Nat), vs = [.ref t] ∧ H t = some (.tup (prV p)) ∧ ∀ (u : Addr) (H' : Hp), Same H H' → H' u = some (.tup (prV (Dw.half p.1 p.2))) → Q (.ref u) H'
section
variable {P : Program} {w : World} {K : PySem.W.Frag} {mg : Str → Option Value} {base : Heap} {C CC B : Addr}
abbrev s_half : Stmt := top 32
theorem sc_half : FnScope ["pair"] ["pair"] (defScope s_half) := ⟨rfl, rfl, rfl, by decide +kernel, rfl, by decide +kernel, by decide +kernel⟩
theorem ok_half {f : Addr} {fd : FuncData} (F : Fun K "half" "half" s_half f fd) (T : Bm mg) : FnOk P w K mg base CX0 1 f fd ["pair"] spHalf := by
  refine F.ok sc_half (fun vs H Q E h => ?_) (fun cdv A outer s H vs Q E hr h => ?_)
  · obtain ⟨t, p, rfl, _⟩ := h
    rfl
  · obtain ⟨t, p, rfl, et, k⟩ := h
    refine ⟨_, (pss_one (ps_ret (pe_tup (pa_cons (pe_callB (cr_minT rfl) (by rfl) T.n_min (by decide +kernel) (pa_cons (pv 0) pa_nil)) (pa_cons (pe_callB (cr_maxT rfl) (by rfl) T.n_max (by decide +kernel) (pa_cons (pv 0) pa_nil)) pa_nil))))), ?_⟩
    have sq : SqT K H t ([(p.1 : Int), (p.2 : Int)].map V.int) := SqT.of et
    refine ⟨_, rfl, t, [(p.1 : Int), (p.2 : Int)], rfl, sq, by show 0 < 2; omega, fun a ma la => ?_⟩
    refine ⟨_, rfl, t, [(p.1 : Int), (p.2 : Int)], rfl, sq, by show 0 < 2; omega, fun b mb lb => ?_⟩
    refine ⟨by show 2 ≤ sizeLine; decide, fun u nu => ?_⟩
    have l1 := la _ List.mem_cons_self
    have l2 := la (p.2 : Int) (List.mem_cons_of_mem _ List.mem_cons_self)
    have g1 := lb _ List.mem_cons_self
    have g2 := lb (p.2 : Int) (List.mem_cons_of_mem _ List.mem_cons_self)
    have ea : a = ((min p.1 p.2 : Nat) : Int) := by
      rcases List.mem_cons.mp ma with rfl | m
      · omega
      · have e := List.mem_singleton.mp m
        omega
    have eb : b = ((max p.1 p.2 : Nat) : Int) := by
      rcases List.mem_cons.mp mb with rfl | m
      · omega
      · have e := List.mem_singleton.mp m
        omega
    refine k u _ (Same.put nu) ?_
    rw [upd_same, ea, eb]
end
end KD
set_option Elab.async false
set_option linter.all false
set_option maxRecDepth 100000
set_option maxHeartbeats 4000000
namespace KD
open PySem L2
/-- where the maps lead a pair; the pairs of a state with itself -/
def ldP (wss : List (List Nat)) (p : Nat × Nat) : List (Nat × Nat) := (List.range wss.length).map fun a => Dw.half (mA wss a p.1) (mA wss a p.2)
def dgP (n : Nat) : List (Nat × Nat) := (List.range n).map fun s => (s, s)
theorem mem_dgP {n : Nat} {q : Nat × Nat} : q ∈ dgP n ↔ q.1 = q.2 ∧ q.1 < n := by
  unfold dgP
  rw [List.mem_map]
  constructor
  · rintro ⟨s, m, rfl⟩; exact ⟨rfl, List.mem_range.mp m⟩
  · rintro ⟨e, l⟩; exact ⟨q.1, List.mem_range.mpr l, Prod.ext rfl e⟩
theorem able_of {n : Nat} {wss : List (List Nat)} (mw : ∀ ws ∈ wss, IsMap n ws) {S : List (Nat × Nat)} (rk : RkP (ldP wss) (hvs n) (dgP n) S) (cl : ∀ p ∈ hvs n, p ∉ S → goP (ldP wss) (dgP n) S p = false) : Dw.AbleS n wss.length (mA wss) S := by
  refine ⟨fun A p B e => ?_, fun p l ln ns a ha => ?_⟩
  · obtain ⟨_, q, mq, c⟩ := rk A p B e
    unfold ldP at mq
    obtain ⟨a, ma, rfl⟩ := List.mem_map.mp mq
    refine ⟨a, List.mem_range.mp ma, ?_⟩
    rcases c with c | c
    · exact .inl (mem_dgP.mp c).1
    · exact .inr c
  · have h := cl p (mem_hvs.mpr ⟨l, ln⟩) ns
    unfold goP at h
    rw [List.any_eq_false] at h
    have mq : Dw.half (mA wss a p.1) (mA wss a p.2) ∈ ldP wss p := List.mem_map.mpr ⟨a, List.mem_range.mpr ha, rfl⟩
    have h2 := h _ mq
    rw [Bool.or_eq_true, decide_eq_true_eq, decide_eq_true_eq, not_or] at h2
    have b1 := mA_lt mw a p.1 ha (by omega)
    have b2 := mA_lt mw a p.2 ha ln
    refine ⟨fun e => h2.1 (mem_dgP.mpr ⟨e, ?_⟩), h2.2⟩
    show min (mA wss a p.1) (mA wss a p.2) < n
    omega
/-- stuck(draw): the pairs that can't be led together -/
def spStuck (DC : Addr) : Sp := fun vs H Q _ => ∃ (x : Addr) (n : Nat) (ps : List Dp3), vs = [.ref x] ∧ 1 ≤ n ∧ n ≤ 8 ∧ ps.length ≤ 4 ∧ IsDraw DC H x n ps ∧
  ∀ (r : Addr) (us : List Pt) (S : List (Nat × Nat)) (H' : Hp), Same H H' → H' r = some (.lst (rfs us)) → Pts H' us → Dw.AbleS n ps.length (mA (mpD ps)) S → us.map (·.2) = (hvs n).filter (fun p => !decide (p ∈ S)) → Q (.ref r) H'
/-- a word is told just where no pair is stuck -/
theorem stuck_nil {n : Nat} {wss : List (List Nat)} (n1 : 1 ≤ n) (mw : ∀ ws ∈ wss, IsMap n ws) {w : List Nat} (h : goS n wss = some w) {S : List (Nat × Nat)} (hS : Dw.AbleS n wss.length (mA wss) S) : (hvs n).filter (fun p => !decide (p ∈ S)) = [] := by
  rw [List.filter_eq_nil_iff]
  intro p mp
  obtain ⟨l, ln⟩ := mem_hvs.mp mp
  rw [decide_eq_true ((told_word n1 mw h).2.2 S hS p l ln)]
  decide
theorem stuck_some {n : Nat} {wss : List (List Nat)} (n1 : 1 ≤ n) (mw : ∀ ws ∈ wss, IsMap n ws) (h : goS n wss = none) {S : List (Nat × Nat)} (hS : Dw.AbleS n wss.length (mA wss) S) : 0 < ((hvs n).filter (fun p => !decide (p ∈ S))).length := by
  obtain ⟨p, l, ln, ns⟩ := no_word n1 mw h hS
  refine List.length_pos_of_mem (a := p) (List.mem_filter.mpr ⟨mem_hvs.mpr ⟨l, ln⟩, ?_⟩)
  rw [decide_eq_false ns]
  rfl
end KD
set_option Elab.async false
set_option linter.all false
set_option maxRecDepth 100000
set_option maxHeartbeats 4000000
/-! name = {k: v for ..} on one line, the name a local, the keys tuples -/
namespace L2
open PySem PySem.Spec PyProof.Rows
section
variable {X : Cx}
theorem dcT_core {ps : List (Addr × Obj)} {z0 : Shared} {σ : St} {G : Hp} {Q : VK} {kx vx tg iter : Expr} {ifs : List Expr} {scope : Scope} {own : List (Str × Nat)} {pos pos' : Pos} {wi : TI} {g : TG} {tt : TT} {tk tv : TE} {use : Option (Value → Sem Unit)} {Qf : Value → Shared → Prop} {mk : Sem Value}
    (hmk : mk = newObj (.type "dict") (.dict #[]))
    (hc : X.calm = true) (hu : X.A.units + 1 < cLine) (hN : X.N.Nodup) (I : Inv X ps σ G z0) (hi : PI X tg iter wi) (ok : BlkOk X.N X.env.scope scope own)
    (hg : ∀ (z : Shared) (G : Hp) (C : Addr) (cl : List (Str × Addr)) (fp : List Addr), PG (X.blk z G scope (compEnvC scope cl C X.env) fp) tg g)
    (ht : ∀ (z : Shared) (G : Hp) (C : Addr) (cl : List (Str × Addr)) (fp : List Addr), PTs (X.blk z G scope (compEnvC scope cl C X.env) fp) ifs tt)
    (hk : ∀ (z : Shared) (G : Hp) (C : Addr) (cl : List (Str × Addr)) (fp : List Addr), PE (X.blk z G scope (compEnvC scope cl C X.env) fp) kx tk)
    (hv : ∀ (z : Shared) (G : Hp) (C : Addr) (cl : List (Str × Addr)) (fp : List Addr), PE (X.blk z G scope (compEnvC scope cl C X.env) fp) vx tv) (hf : ∀ x, foldedSetIterable iter X.env x = pure x)
    (want : tDcT wi g tt tk tv (own.map (·.2)) σ G Q)
    (hRR : ∀ D C s' m H', Inv X ps σ H' s' → Q (.ref D) H' → s'.heap.Ns C m → FpOk X ps H' C → compPost (model X.prog X.w) X.A X.xe use Qf (.ref D) C (.ok .next) s') :
    wpAny (model X.prog X.w) X.A (comprehension (.DictComp kx vx [⟨tg, iter, ifs, 0⟩] scope pos) scope X.env pos' mk false (eval iter X.env) use) Qf X.xe z0 := by
  subst hmk
  have cells : ∀ y ∈ scope.names, y.2 = .free → ∃ c, X.env.cells.lookup y.1 = some c := fun y hy e => by
    rcases ok.free y hy e with q | q
    · exact I.ok.has _ (.inl q)
    · exact I.ok.has _ (.inr q)
  refine wpAny_comprehension_free (use := use) rfl hf (closure_ok cells) ok.kind (fun y hy e => by rw [ok.uniq y hy, e])
    (thn (hi.run ps z0 σ G _ I want) fun xv z1 hx => thn hx fun itv z2 got => ?_)
  obtain ⟨it, fp, tn, J, G2, e, I2, T, at2, fresh2, plan⟩ := got
  subst e
  refine wpAny_newObj_type (newEnv_comp ?_)
  generalize eD : z2.heap.objs.size = D
  have noD : G2 D = none := I2.hok.fresh (Nat.le_of_eq eD)
  obtain ⟨W, ⟨m0, start⟩, turn⟩ := plan D noD
  generalize e3 : ({ z2 with heap := z2.heap.push { cls := .type "dict", data := .dict #[] } } : Shared) = z3
  have I3 : Inv X ps σ (upd G2 D (.dT [])) z3 := by
    subst e3
    refine I2.laid (t' := z2.toks) (fun b o q => Heap.get?_push_of_some _ q) (Nat.le_of_eq eD) ?_
    subst eD
    exact dt_empty z2.heap I2.big
  have heap3 : z3.heap = z2.heap.push { cls := .type "dict", data := .dict #[] } := by subst e3; rfl
  have low : ∀ b ∈ fp, b < z2.heap.objs.size := fun b hb => let ⟨_, q, _⟩ := T.obj _ _ at2 b hb; Heap.lt_size q
  have fresh3 : ∀ b ∈ fp, FpOk X ps (upd G2 D (.dT [])) b ∧ b < z3.heap.objs.size := fun b hb => by
    have lb := low b hb
    have nb : (upd G2 D (.dT [])) b = none := by
      rw [upd_ne (by subst eD; exact Nat.ne_of_lt lb)]
      exact (fresh2 b hb).1
    exact ⟨⟨nb, (fresh2 b hb).2⟩, by rw [heap3, Heap.size_push]; exact Nat.lt_succ_of_lt lb⟩
  have at3 : tn 0 z3.heap := T.keep _ _ _ at2 fun b _ o q => by rw [heap3]; exact Heap.get?_push_of_some _ q
  have I4 := block_start I3 ok hN fresh3
  generalize eH : upd G2 D (.dT []) = G3 at I3 I4 start fresh3
  show codeAny _ _ (.compStart _ 0 (.ref it) (.ref D) (compEnvC scope (cellsFrom (z3.heap.objs.size + 1) scope.names (cloFrom X.env.cells scope.names [])) z3.heap.objs.size X.env)) (compPost (model X.prog X.w) X.A X.xe use Qf (.ref D) z3.heap.objs.size) { z3 with heap := pushCells (z3.heap.push { cls := .type "dict", data := .dict #[] }) scope.names }
  have ppg := hg z3 G3 z3.heap.objs.size (cellsFrom (z3.heap.objs.size + 1) scope.names (cloFrom X.env.cells scope.names [])) fp
  have ppt := ht z3 G3 z3.heap.objs.size (cellsFrom (z3.heap.objs.size + 1) scope.names (cloFrom X.env.cells scope.names [])) fp
  have ppk := hk z3 G3 z3.heap.objs.size (cellsFrom (z3.heap.objs.size + 1) scope.names (cloFrom X.env.cells scope.names [])) fp
  have ppv := hv z3 G3 z3.heap.objs.size (cellsFrom (z3.heap.objs.size + 1) scope.names (cloFrom X.env.cells scope.names [])) fp
  generalize eE : compEnvC scope (cellsFrom (z3.heap.objs.size + 1) scope.names (cloFrom X.env.cells scope.names [])) z3.heap.objs.size X.env = ce at I4 ppg ppt ppk ppv ⊢
  have loc : ce.locals = z3.heap.objs.size := by subst eE; rfl
  generalize e4 : ({ z3 with heap := pushCells (z3.heap.push { cls := .type "dict", data := .dict #[] }) scope.names } : Shared) = z4 at I4 ⊢
  have at4 : tn 0 z4.heap := T.keep _ _ _ at3 fun b _ o q => by subst e4; exact pushCells_keeps _ _ _ _ (Heap.get?_push_of_some _ q)
  let B : Cx := X.blk z3 G3 scope ce fp
  have calmB : B.calm = true := hc
  -- what is the same at each turn's begin
  let At : Nat → Nat → Hp → Shared → Prop := fun i m G' z' => Inv B [] (wipe σ (own.map (·.2))) G' z' ∧ tn i z'.heap ∧ (∀ b ∈ fp, G' b = none) ∧ W i m G'
  have fps : ∀ {τ : St} {G' : Hp} {z' : Shared}, Inv B [] τ G' z' → (∀ b ∈ fp, G' b = none) → ∀ b ∈ fp, FpOk B [] G' b := fun {τ G' z'} I' no b hb =>
    ⟨no b hb, (I'.ok.exf b hb).1, I'.ok.exfs b hb, .inl hb, fun _ c q => (I'.ok.exf b hb).2 _ c q, fun p hp => absurd (show p ∈ (([] : List (Addr × Obj)) ++ ([] : List (Addr × Obj))) from hp) List.not_mem_nil⟩
  have whole : codeAny (model X.prog X.w) X.A (.compLoop (.DictComp kx vx [⟨tg, iter, ifs, 0⟩] scope pos) 0 (.ref it) (.ref D) ce) (compPost (model X.prog X.w) X.A X.xe use Qf (.ref D) z3.heap.objs.size) z4 := by
    refine compLoop_anyD (fun m z' => ∃ i G', At i m G' z') (fun m z' ⟨i, G', I', at', no, w'⟩ => ?_) m0 ⟨0, G3, I4, at4, fun b hb => (fresh3 b hb).1.1, start⟩
    rcases turn i m G' w' with ⟨stop, won⟩ | ⟨more, Nx, next, step⟩
    · refine thnF (T.done B rfl rfl rfl calmB i [] z' _ G' (fun _ _ => False) I' (fps I' no) at' stop) fun r z5 ⟨er, I5⟩ => ?_
      subst er
      have outer : Inv X ps σ G' z5 := I3.call' (ch := fp) I5.os I5.base I5.hok I5.bare fun b hb =>
        let q := (fresh3 b hb).1.2
        ⟨q.2.2.1, q.1, q.2.2.2.1, q.2.2.2.2⟩
      have freeC : G' z3.heap.objs.size = none := loc ▸ (show G' ce.locals = none from I5.free)
      obtain ⟨mm, ns, _⟩ := I5.loc
      have ns : z5.heap.Ns z3.heap.objs.size mm := loc ▸ (show z5.heap.Ns ce.locals mm from ns)
      exact hRR D z3.heap.objs.size z5 mm G' outer won ns (I3.fpOk (Nat.le_refl _) freeC |> fun f => f)
    · refine thnF (T.item B rfl rfl rfl calmB i [] z' _ G' (fun _ _ => False) I' (fps I' no) at' more) fun r z5 ⟨u, er, then5⟩ => ?_
      subst er
      refine thnF then5 fun _ z6 ⟨x, G6, I6, r6, y6, at6, no6⟩ => ?_
      refine thnF (ppg.run _ z6 _ G6 x u _ (I6.pinned (fps I6 no6) (T.obj _ _ at6)) r6 (step x G6 y6)) fun _ z7 ⟨τ, G7, I7, wiped, q7⟩ => ?_
      refine thnF (ppt.run _ z7 τ G7 _ I7 q7) fun b z8 ⟨G8, I8, q8⟩ => ?_
      have onward : ∀ {z9 : Shared} {G9 : Hp}, Inv B ([] ++ pinsAt fp z6.heap) τ G9 z9 → Nx G9 → ∃ m', m' < m ∧ ∃ i G', At i m' G' z9 := fun {z9 G9} I9 nx => by
        obtain ⟨m', lt, w9⟩ := next G9 nx
        have held : ∀ b ∈ fp, ∀ o, z6.heap.get? b = some o → z9.heap.get? b = some o ∧ G9 b = none := fun b hb o q =>
          have pin := I9.pin (b, o) (List.mem_append_right _ (List.mem_append_right _ (mem_pinsAt hb q)))
          ⟨pin.1, pin.2.1⟩
        have len : (wipe σ (own.map (·.2))).length = τ.length := by rw [← wiped, wipe_length]
        refine ⟨m', lt, i + 1, G9, (I9.unpinned (pins := [])).weak len (fun j v q => (wipe_some (wiped.symm ▸ q : (wipe τ (own.map (·.2)))[j]? = some (some v))).1), T.keep _ _ _ at6 fun b hb o q => (held b hb o q).1, fun b hb => ?_, w9⟩
        obtain ⟨o, q, _⟩ := T.obj _ _ at6 b hb
        exact (held b hb o q).2
      cases b with
      | false =>
        rw [if_neg (by decide)] at q8 ⊢
        exact onward I8 q8
      | true =>
        rw [if_pos rfl] at q8 ⊢
        refine thnF (ppk.run _ z8 τ G8 _ I8 q8) fun ku z9 ⟨y, G9, I9, r9, q9⟩ => ?_
        refine thnF (ppv.run _ z9 τ G9 _ I9 q9) fun vu z10 ⟨v, G10, I10, r10, kvs, k, c, ec, e1, e2, e3', nx⟩ => ?_
        subst ec
        exact putT_set (Y := B) hu I10 e2 e3' e1 r9 r10 fun z11 I11 => onward I11 nx
  exact codeAny_compStart_dict whole (T.self X.A 0 _ _ _ at4 whole)
theorem sw_trueD {kx vx : Expr} {gs : List Comprehension} {scope : Scope} {pos py : Pos} {y : Str} {l : Nat} {env : Env} (hk : env.scope.kind = .function) (hy : env.scope.names.lookup y = some .local) (hl : (py.line == pos.line) = true)
    (ha : (scope.names.any fun (n, k) => n == y && (k == .local || k == .cell)) = false) : swapsWith (.DictComp kx vx gs scope pos) (some (.Name y py)) l env = pure true := by
  have ky : env.kindOf y = some .local := hy
  have hb : env.blockKind = .function := by unfold Env.blockKind; rw [hk]; rfl
  unfold swapsWith
  simp only [hb, ky, ha, Expr.pos, hl]
  rfl
theorem ps_setDcT {i : Nat} {y : Str} {py : Pos} {kx vx tg iter : Expr} {ifs : List Expr} {scope : Scope} {own : List (Str × Nat)} {pos spos : Pos} {wi : TI} {g : TG} {tt : TT} {tk tv : TE} (hc : X.calm = true) (hu : X.A.units + 1 < cLine) (hN : X.N.Nodup) (hy : X.N[i]? = some y) (hyl : X.env.scope.names.lookup y = some .local)
    (hsw : swapsWith (.DictComp kx vx [⟨tg, iter, ifs, 0⟩] scope pos) (some (.Name y py)) spos.line X.env = pure true) (hi : PI X tg iter wi) (ok : BlkOk X.N X.env.scope scope own)
    (hg : ∀ (z : Shared) (G : Hp) (C : Addr) (cl : List (Str × Addr)) (fp : List Addr), PG (X.blk z G scope (compEnvC scope cl C X.env) fp) tg g)
    (ht : ∀ (z : Shared) (G : Hp) (C : Addr) (cl : List (Str × Addr)) (fp : List Addr), PTs (X.blk z G scope (compEnvC scope cl C X.env) fp) ifs tt)
    (hk : ∀ (z : Shared) (G : Hp) (C : Addr) (cl : List (Str × Addr)) (fp : List Addr), PE (X.blk z G scope (compEnvC scope cl C X.env) fp) kx tk)
    (hv : ∀ (z : Shared) (G : Hp) (C : Addr) (cl : List (Str × Addr)) (fp : List Addr), PE (X.blk z G scope (compEnvC scope cl C X.env) fp) vx tv) (hf : ∀ x, foldedSetIterable iter X.env x = pure x := by intro _; rfl) :
    PS X (.Assign [.Name y py] (.DictComp kx vx [⟨tg, iter, ifs, 0⟩] scope pos) spos) (tAsg (tDcT wi g tt tk tv (own.map (·.2))) (gName i)) := by
  refine ⟨fun pins s σ H D I h => ?_⟩
  rw [exec_Assign_Name_used _ _ _ _ hsw]
  refine wpAny_bind (wpAny_standAt (wpAny_bind ?_))
  have h : tDcT wi g tt tk tv (own.map (·.2)) σ H (fun x H1 => gName i x σ H1 D.nx) := h
  show wpAny _ X.A (do let _ ← comprehension (.DictComp kx vx [⟨tg, iter, ifs, 0⟩] scope pos) scope X.env (firstIterPos [⟨tg, iter, ifs, 0⟩] pos) (newObj (.type "dict") (.dict #[])) false (eval iter X.env) (some (assign (.Name y py) X.env))) _ _ s
  refine wpAny_bind (thn (dcT_core (Qf := fun _ s' => SP X pins D .next s') rfl hc hu hN I hi ok hg ht hk hv hf h fun L C s' m H' I' q hn f => ?_) fun _ s' hq => wpAny_pure (wpAny_pure hq))
  show wpAny _ _ (assign (.Name y py) X.env (.ref L)) _ _ _
  refine wpAny_assign_Name (store_ok2 (v := V.ref L) I' hN hy (.inl hyl) rfl (fun s2 I2 ⟨a, sb, ha⟩ => ?_) (.inr hyl))
  obtain ⟨f0, f1, f2, f3, f4, f5⟩ := f
  have haC : C ≠ a := by
    rcases ha with z | z
    · rw [z]; exact f1
    · exact fun e => f4 y a z e.symm
  refine ⟨m, hn.sameBut sb haC, fun h3 sb3 => ?_⟩
  exact ⟨_, H', I2.turned (t' := s2.toks) (fun b o hb e => (sb3.2 b hb).trans e) f0 f1 f3 f4 f5, q⟩
end
end L2
set_option Elab.async false
set_option linter.all false
set_option maxRecDepth 100000
set_option maxHeartbeats 4000000
namespace KD
open PySem L2
section
variable {P : Program} {w : World} {K : PySem.W.Frag} {mg : Str → Option Value} {base : Heap} {C DC : Addr}
abbrev s_stuck : Stmt := top 39
abbrev nSt : List Str := ["draw", "pairs", "moves", "able", "s", "t", "pair", "_", "leads", "state"]
theorem sc_stuck : FnScope nSt ["draw"] (defScope s_stuck) := ⟨rfl, rfl, rfl, by decide +kernel, rfl, by decide +kernel, by decide +kernel⟩
theorem ok_stuck {f : Addr} {fd : FuncData} (F : Fun K "stuck" "stuck" s_stuck f fd) (T : Bm mg) (t : DrT K mg DC) (c_halves : Cal P w K mg base 2 "halves" ["many"] spHalves) (c_half : Cal P w K mg base 1 "half" ["pair"] spHalf) (c_able : Cal P w K mg base 2 "able_places" ["moves", "places", "goals"] spAbleP) : FnOk P w K mg base CX0 3 f fd ["draw"] (spStuck DC) := by
  refine F.ok sc_stuck (fun vs H Q E h => ?_) (fun cdv A outer s H vs Q E hr h => ?_)
  · obtain ⟨x, n, ps, rfl, _⟩ := h
    rfl
  · obtain ⟨x, n, ps, rfl, n1, n8, p4, dr, k⟩ := h
    have hu := hu_of hr
    refine ⟨_, (pss_cons (ps_set (i := 1) sc_stuck.nd rfl (Or.inl rfl) (pe_cal c_halves (hr.mono (by decide)) rfl (pa_cons (pe_fld (pv 0) rfl) pa_nil)))
      (pss_cons (ps_setDcT (i := 2) (own := [("s", 4), ("t", 5)]) (g := gTup K 2 (gCons (gName 4) (gCons (gName 5) gNil))) rfl (by exact hu) sc_stuck.nd rfl rfl (sw_trueD rfl rfl rfl (by decide +kernel)) (pi_list (pv 1)) (blkOk_by (N := nSt) (sc := defScope s_stuck) (by decide +kernel)) (fun _ _ _ _ _ => (pg_tup (by rfl) (pgs_cons (pg_name (i := 4) sc_stuck.nd rfl (Or.inr rfl)) (pgs_cons (pg_name (i := 5) sc_stuck.nd rfl (Or.inr rfl)) pgs_nil))))
          (fun _ _ _ _ _ => pts_nil) (fun _ _ _ _ _ => (pe_tup (pa_cons (pv 4) (pa_cons (pv 5) pa_nil))))
          (fun _ _ _ _ _ => (pe_lc (own := [("_", 7), ("leads", 8)]) (g := gTup K 2 (gCons (gName 7) (gCons (gName 8) gNil))) rfl sc_stuck.nd (show PI _ _ _ (iTup K (tFld K (tVar 0) "parts")) from pi_tup (pe_fld (pv 0) rfl)) (blkOk_by (by rfl)) (fun _ _ _ _ _ => (pg_tup (by rfl) (pgs_cons (pg_name (i := 7) sc_stuck.nd rfl (Or.inl rfl)) (pgs_cons (pg_name (i := 8) sc_stuck.nd rfl (Or.inl rfl)) pgs_nil)))) (fun _ _ _ _ _ => pts_nil)
            (fun _ _ _ _ _ => (pe_cal c_half (hr.mono (by decide)) rfl (pa_cons (pe_tup (pa_cons (pe_ix (show IxR _ (rIx K) from ix_seq) (pv 8) (pv 4) (fun _ _ => rfl)) (pa_cons (pe_ix (show IxR _ (rIx K) from ix_seq) (pv 8) (pv 5) (fun _ _ => rfl)) pa_nil))) pa_nil))))))
      (pss_cons (ps_set (i := 3) sc_stuck.nd rfl (Or.inr rfl) (pe_cal c_able (hr.mono (by decide)) rfl (pa_cons (pv 2) (pa_cons (pv 1) (pa_cons (pe_lc (own := [("state", 9)]) rfl sc_stuck.nd (pi_range1 (by rfl) T.n_range (pa_cons (pe_fld (pv 0) rfl) pa_nil)) (blkOk_by (N := nSt) (sc := defScope s_stuck) (by decide +kernel)) (fun _ _ _ _ _ => (pg_name (i := 9) sc_stuck.nd rfl (Or.inl rfl))) (fun _ _ _ _ _ => pts_nil) (fun _ _ _ _ _ => (pe_tup (pa_cons (pv 9) (pa_cons (pv 9) pa_nil))))) pa_nil)))))
      (pss_one (ps_ret (pe_lc (own := [("pair", 6)]) rfl sc_stuck.nd (pi_list (pv 1)) (blkOk_by (N := nSt) (sc := defScope s_stuck) (by decide +kernel)) (fun _ _ _ _ _ => (pg_name (i := 6) sc_stuck.nd rfl (Or.inl rfl))) (fun _ _ _ _ _ => (pts_one (pt_cmpR (show OpR _ _ (rNotInD K) from op_notInD (by exact un65 hr)) (pv 6) (pv 3) (by rfl)))) (fun _ _ _ _ _ => (pv 6)))))))), ?_⟩
    obtain ⟨dx, pt, ex, ep, ip⟩ := id dr
    refine ⟨_, rfl, x, DC, dx, _, _, rfl, ex, t.it.cl, t.nS, drF_size _ _, n, rfl, n8, fun l pl H1 s1 el ppl qpl => ?_⟩
    refine ⟨_, rfl, l, rfl, ⟨_, SqL.of el⟩, fun D nD => ?_⟩
    have nd : (pl.map (·.2)).Nodup := by
      rw [qpl]
      exact (by decide +kernel : ∀ n : Fin 9, (hvs n.1).Nodup) ⟨n, by omega⟩
    have l64 : pl.length ≤ 64 := by
      have := congrArg List.length qpl
      rw [List.length_map] at this
      rw [this]
      exact (by decide +kernel : ∀ n : Fin 9, (hvs n.1).length ≤ 64) ⟨n, by omega⟩
    generalize hws : mpD ps = wss at k
    have lw : wss.length = ps.length := by rw [← hws, List.length_map]
    have mw : ∀ ws ∈ wss, IsMap n ws := fun ws m => by
      rw [← hws] at m
      obtain ⟨p, mp, rfl⟩ := List.mem_map.mp m
      exact (ip p mp).2.2
    have nDH := s1.free nD
    refine dcT_it (walk_list (K := K) (a := l) (xs := rfs pl)) (fun i H' => Same H1 H' ∧ ∃ ms : List (Addr × (Nat × Nat) × List Pt), H' D = some (.dT (kvE ms)) ∧ (ms.map fun e => e.2.1) = (pl.take i).map (·.2) ∧ ∀ e ∈ ms, H' e.1 = some (.lst (rfs e.2.2)) ∧ Pts H' e.2.2 ∧ e.2.2.map (·.2) = ldP wss e.2.1)
      ⟨Same.put nD, [], upd_same, rfl, fun _ m => by cases m⟩ (fun i H' _ h => SqL.of (h.1 _ _ el)) ?_ ?_
    · rintro i y H'' H' hi ⟨s2, ms, eD, qm, im⟩ ⟨rfl, hy⟩
      obtain ⟨r, hr2, mr, rfl⟩ := rfs_at hy
      have il := (List.getElem?_eq_some_iff.mp hr2).1
      refine ⟨r.1, prV r.2, rfl, SqT.of (s2 _ _ (ppl r mr)), rfl, _, _, rfl, _, _, rfl, rfl, rfl, yes_of ?_⟩
      refine ⟨_, rfl, _, rfl, by show 2 ≤ sizeLine; decide, fun c nc => ?_⟩
      have sc := Same.put (o := .tup (prV r.2)) nc
      have ec : (upd H' c (.tup (prV r.2))) c = some (.tup (prV r.2)) := upd_same
      generalize (upd H' c (.tup (prV r.2))) = H3 at sc ec ⊢
      have s03 := (s1.trans s2).trans sc
      refine ⟨_, rfl, x, DC, dx, _, _, rfl, s03 _ _ ex, t.it.cl, t.nP, drF_parts _ _, pt, rfl, ⟨_, SqT.of (s03 _ _ ep)⟩, fun B nB => ?_⟩
      have mh := mem_hvs.mp (show r.2 ∈ hvs n by rw [← qpl]; exact List.mem_map_of_mem mr)
      refine lc_tup (K := K) (a := pt) (xs := rfs ps) (fun j H' => Same H3 H' ∧ ∃ vs : List Pt, H' B = some (.lst (rfs vs)) ∧ Pts H' vs ∧ vs.map (·.2) = (ldP wss r.2).take j) ⟨Same.put nB, [], upd_same, fun _ m => (by cases m), rfl⟩ (fun j H' _ h => SqT.of (h.1 _ _ (s03 _ _ ep))) ?_ ?_
      · rintro j y H4 hy ⟨s4, vs, eB, pvs, qv⟩
        obtain ⟨p, hp, mp, rfl⟩ := rfs_at hy
        have jl := (List.getElem?_eq_some_iff.mp hp).1
        have dp := (ip p mp).same (s03.trans s4)
        have gm : ∀ q, q < n → p.2.2.2[q]? = some (mA wss j q) := fun q hq => by
          have : q < p.2.2.2.length := by rw [dp.2.2.1]; exact hq
          show _ = some ((wss.getD j []).getD q 0)
          rw [← hws, show (mpD ps).getD j [] = p.2.2.2 by rw [List.getD, List.getElem?_map, hp]; rfl, List.getD, List.getElem?_eq_getElem this]
          rfl
        refine ⟨p.1, [.ref p.2.1, .ref p.2.2.1], rfl, SqT.of dp.1, rfl, _, _, rfl, _, _, rfl, rfl, rfl, yes_of ?_⟩
        refine ⟨_, rfl, _, rfl, .inr (.inl ⟨p.2.2.1, _, _, _, rfl, rfl, SqT.of dp.2.1, atI_nat (cV_at (gm r.2.1 (by omega))), _, rfl, _, rfl, .inr (.inl ⟨p.2.2.1, _, _, _, rfl, rfl, SqT.of dp.2.1, atI_nat (cV_at (gm r.2.2 mh.2)), ?_⟩)⟩)⟩
        refine ⟨by show 2 ≤ sizeLine; decide, fun b nb => ?_⟩
        have sb := Same.put (o := .tup (prV (mA wss j r.2.1, mA wss j r.2.2))) nb
        refine ⟨b, (mA wss j r.2.1, mA wss j r.2.2), rfl, upd_same, fun u H5 s5 eu => ?_⟩
        have s45 := sb.trans s5
        have eB5 := s45 _ _ eB
        have lv : vs.length ≤ 4 := by
          have := congrArg List.length qv
          rw [List.length_map, List.length_take] at this
          omega
        refine ⟨_, eB5, by rw [rfs_len]; exact small_len (by omega), Same.but (fun b u e => s45 _ _ (s4 _ _ e)) nB, vs ++ [(u, Dw.half (mA wss j r.2.1) (mA wss j r.2.2))], by rw [upd_same, rfs_snoc], Pts.lstU (Pts.snoc (pvs.same s45) eu) eB5, ?_⟩
        have hh : (ldP wss r.2)[j]? = some (Dw.half (mA wss j r.2.1) (mA wss j r.2.2)) := by
          unfold ldP
          rw [List.getElem?_map, List.getElem?_range (by omega)]
          rfl
        rw [List.map_append, qv, take_more hh]
        rfl
      · rintro H4 ⟨s4, vs, eB, pvs, qv⟩
        rw [rfs_len, ← lw, show wss.length = (ldP wss r.2).length by unfold ldP; rw [List.length_map, List.length_range], List.take_length] at qv
        have nin : r.2 ∉ ms.map fun e => e.2.1 := by rw [qm]; exact notin_take nd hr2
        have ml : ms.length ≤ 64 := by
          have := congrArg List.length qm
          rw [List.length_map, List.length_map, List.length_take] at this
          omega
        have eD4 := s4 _ _ (sc _ _ eD)
        have noD : ∀ {a : Addr} {u : HO}, H4 a = some u → (∀ kvs, u ≠ .dT kvs) → a ≠ D := fun e h z => by rw [z, eD4] at e; exact h _ (Option.some.inj e).symm
        refine ⟨kvE ms, kp r.2, c, rfl, s4 _ _ ec, eD4, by rw [kvE_len]; exact small_len (by omega), Same.but (fun b u e => s4 _ _ (sc _ _ (s2 _ _ e))) nD, ms ++ [(B, r.2, vs)], ?_, ?_, fun e m => ?_⟩
        · rw [upd_same]
          exact congrArg (fun x => some (HO.dT x)) (put_new nin)
        · rw [List.map_append, qm, take_more hr2, List.map_append]
          rfl
        · have k4 : H4 e.1 = some (.lst (rfs e.2.2)) ∧ Pts H4 e.2.2 ∧ e.2.2.map (·.2) = ldP wss e.2.1 := by
            rcases List.mem_append.mp m with m | m
            · obtain ⟨z1, z2, z3⟩ := im e m
              exact ⟨s4 _ _ (sc _ _ z1), (z2.same sc).same s4, z3⟩
            · rw [List.mem_singleton.mp m]; exact ⟨eB, pvs, qv⟩
          refine ⟨by rw [upd_ne (noD k4.1 (fun _ z => by cases z))]; exact k4.1, fun u mu => ?_, k4.2.2⟩
          rw [upd_ne (noD (k4.2.1 u mu) (fun _ z => by cases z))]
          exact k4.2.1 u mu
    · rintro H2 ⟨s2, ms, eD, qm, im⟩
      rw [rfs_len, List.take_length] at qm
      have s12 := s1.trans s2
      have mv : MvP H2 D (pl.map (·.2)) (ldP wss) := ⟨ms, eD, by rw [qm]; exact nd, fun p mp => by
        rw [← qm] at mp
        obtain ⟨e, me, rfl⟩ := List.mem_map.mp mp
        obtain ⟨z1, z2, z3⟩ := im e me
        exact ⟨e, me, rfl, z1, z2, z3⟩⟩
      refine ⟨_, rfl, _, rfl, _, rfl, x, DC, dx, _, _, rfl, s12 _ _ ex, t.it.cl, t.nS, drF_size _ _, _, rfl, by omega, by omega, fun G nG => ?_⟩
      rw [Int.toNat_natCast]
      refine lc_range (fun i H' => Same H2 H' ∧ ∃ gl : List Pt, H' G = some (.lst (rfs gl)) ∧ Pts H' gl ∧ gl.map (·.2) = (List.range i).map fun s => (s, s)) ⟨Same.put nG, [], upd_same, fun _ m => (by cases m), rfl⟩ ?_ ?_
      · rintro i H3 hi ⟨s3, gl, eG, pG, qG⟩
        rw [Int.zero_add]
        refine ⟨rfl, yes_of ?_⟩
        refine ⟨_, rfl, _, rfl, by show 2 ≤ sizeLine; decide, fun b nb => ?_⟩
        have sb := Same.put (o := .tup (prV (i, i))) nb
        have gll : gl.length ≤ 8 := by
          have := congrArg List.length qG
          rw [List.length_map, List.length_map, List.length_range] at this
          omega
        refine ⟨rfs gl, sb _ _ eG, by rw [rfs_len]; exact small_len (by omega), Same.but (fun b u e => sb _ _ (s3 _ _ e)) nG, gl ++ [(b, (i, i))], by rw [upd_same, rfs_snoc], Pts.lstU (Pts.snoc (pG.same sb) upd_same) (sb _ _ eG), ?_⟩
        rw [List.map_append, qG, List.range_succ, List.map_append]
        rfl
      · rintro H3 ⟨s3, gl, eG, pG, qG⟩
        have s13 := s2.trans s3
        refine ⟨D, l, G, pl, gl, ldP wss, rfl, mv.same s3, s13 _ _ el, ppl.same s13, nd, l64, fun p _ => ?_, eG, pG, fun r us S H4 s4 er pus qus rk cl => ?_⟩
        · unfold ldP
          rw [List.length_map, List.length_range]
          omega
        have hS : Dw.AbleS n wss.length (mA wss) S := able_of mw (by rw [qpl, qG] at rk; exact rk) (fun p mp ns => by rw [qpl, qG] at cl; exact cl p mp ns)
        have s14 := s13.trans s4
        refine ⟨_, rfl, l, rfl, ⟨_, SqL.of (s14 _ _ el)⟩, fun R nR => ?_⟩
        refine lc_list (K := K) (a := l) (xs := rfs pl) (fun i H' => Same H4 H' ∧ ∃ vs : List Pt, H' R = some (.lst (rfs vs)) ∧ Pts H' vs ∧ vs.map (·.2) = ((pl.take i).map (·.2)).filter fun p => !decide (p ∈ S)) ⟨Same.put nR, [], upd_same, fun _ m => (by cases m), rfl⟩ (fun i H' _ h => SqL.of (h.1 _ _ (s14 _ _ el))) ?_ ?_
        · rintro i y H5 hy ⟨s5, vs, eR, pvs, qv⟩
          obtain ⟨q, hq, mq, rfl⟩ := rfs_at hy
          have il := (List.getElem?_eq_some_iff.mp hq).1
          have eq := s5 _ _ (s14 _ _ (ppl q mq))
          have take : (pl.take (i + 1)).map (·.2) = (pl.take i).map (·.2) ++ [q.2] := by rw [take_more hq, List.map_append]; rfl
          have mqp : q.2 ∈ pl.map (·.2) := List.mem_map_of_mem mq
          refine ⟨rfl, ?_⟩
          refine ⟨_, rfl, _, rfl, dI (iW (pN q.2)), _, dp_tupN (ws := pN q.2) (SqT.of eq), .lst (SqL.of (s5 _ _ er)) (Pts.dp (pus.same s5)), sh_dI _, sh_list _, _, rfl, ?_⟩
          rw [any_dP, qus]
          have dd : decide (q.2 ∈ (pl.map (·.2)).filter fun p => decide (p ∈ S)) = decide (q.2 ∈ S) := by
            rw [decide_eq_decide, List.mem_filter, decide_eq_true_eq]
            exact ⟨fun h => h.2, fun h => ⟨mqp, h⟩⟩
          rw [dd]
          by_cases c : q.2 ∈ S
          · refine iteFe (by rw [decide_eq_true c]; rfl) ⟨s5, vs, eR, pvs, ?_⟩
            rw [qv, take, List.filter_append]
            simp [c]
          · refine iteTe (by rw [decide_eq_false c]; rfl) ?_
            have vl : vs.length ≤ 64 := by
              have := congrArg List.length qv
              rw [List.length_map] at this
              have h2 := List.length_filter_le (fun p : Nat × Nat => !decide (p ∈ S)) ((pl.take i).map (·.2))
              rw [List.length_map, List.length_take] at h2
              omega
            refine ⟨_, rfl, _, eR, by rw [rfs_len]; exact small_len (by omega), Same.but s5 nR, vs ++ [q], by rw [upd_same, rfs_snoc], Pts.lstU (Pts.snoc pvs eq) eR, ?_⟩
            rw [List.map_append, qv, take, List.filter_append]
            simp [c]
        · rintro H5 ⟨s5, vs, eR, pvs, qv⟩
          rw [rfs_len, List.take_length, qpl] at qv
          exact k R vs S H5 ((s1.trans s14).trans s5) eR pvs (by rw [← lw]; exact hS) qv
end
end KD
set_option Elab.async false
set_option linter.all false
set_option maxRecDepth 100000
set_option maxHeartbeats 2000000
/-! sorted(d), d a dict whose keys are tuples of ints, all of one length -/
namespace L2
open PySem PySem.Spec PyProof.Rows
def rSortDT (d : Nat) (B : Int) : List V → Hp → VK → Prop := fun vs H Q => ∃ (a : Addr) (kvs : List (List Key × V)) (ks : List (List Int)), vs = [.ref a] ∧ Rd H a (.dT kvs) ∧ kvs.map (·.1) = ks.map (fun ns => ns.map Sum.inl) ∧ ks.length < 64 ∧ (∀ ns ∈ ks, ns.length = d ∧ TS.Bd B ns) ∧
  ∀ (ys : List (Addr × List Int)) (p : Addr), (ys.map (·.2)).Perm ks → ys.Pairwise (fun q r => TS.code B q.2 ≤ TS.code B r.2) → (∀ t ∈ ys, H t.1 = some (.tup (t.2.map V.int))) → H p = none → Q (.ref p) (upd H p (.lst (ys.map fun t => V.ref t.1)))
theorem dt_keys {H : Hp} : ∀ {kvs : List (List Key × V)} {kx : List (List Key × Addr × Value)} {ks : List (List Int)}, KT H kvs kx → kvs.map (·.1) = ks.map (fun ns => ns.map Sum.inl) →
    ∃ L : List (Addr × List Int), L.map (·.1) = kx.map (fun e => e.2.1) ∧ L.map (·.2) = ks ∧ ∀ t ∈ L, H t.1 = some (.tup (t.2.map V.int))
  | [], kx, ks, h, e => by
    cases h
    cases ks with
    | nil => exact ⟨[], rfl, rfl, fun _ m => by cases m⟩
    | cons a l => cases e
  | p :: kvs, kx, ks, h, e => by
    cases h with
    | cons h t =>
      cases ks with
      | nil => cases e
      | cons ns ks =>
        rw [List.map_cons, List.map_cons] at e
        obtain ⟨e1, e2⟩ := List.cons.inj e
        obtain ⟨L, l1, l2, l3⟩ := dt_keys t e2
        rename_i b _
        refine ⟨(b.2.1, ns) :: L, by rw [List.map_cons, List.map_cons, l1], by rw [List.map_cons, l2], fun t m => ?_⟩
        rcases List.mem_cons.mp m with rfl | m
        · have := h.2.1
          rw [e1, List.map_map] at this
          exact this
        · exact l3 t m
def dtAdr : Value → Addr
  | .ref a => a
  | _ => 0
theorem dt_vals : ∀ (ts : List (Addr × List Int)), Vals (ts.map fun t => V.ref t.1) (ts.map fun t => Value.ref t.1)
  | [] => .nil
  | t :: ts => .cons rfl (dt_vals ts)
theorem cr_sortDT {X : Cx} {d : Nat} {B : Int} (hc : X.calm = true) (hd : 1 ≤ d) : CallR X (.builtin "sorted") (rSortDT d B) := by
  intro pins s σ H xs us Q I r h
  obtain ⟨a, kvs, ks, rfl, hr, hk, h64, hB, q⟩ := h
  rw [Vals.ref1 r]
  obtain ⟨z, hs, kx, pr, o, es, ep, ho, hx, hdt, he, hn⟩ := (show ObjOk X.prog X.w H s.heap a (.dT kvs) from hr.ok I.hok)
  have l1 := PySem.size_of_entries he
  have l2 := Paired.length pr
  have lk : kvs.length = ks.length := by have := congrArg List.length hk; rw [List.length_map, List.length_map] at this; exact this
  obtain ⟨L, e1, e2, e3⟩ := dt_keys pr hk
  refine Calls.call_function_entry PyProof.Rows.kind_sorted PyProof.Rows.plain_sorted PyProof.Rows.entry_sorted (PyProof.Rows.args_sorted1 (Value.ref a)) ?_
  refine wpAny_bind (wpAny_pure (wpAny_bind (PySem.W.kdu_collect (kdl_raw hs hx hdt) (I.ok.hd hc) ho (by rw [sizeLine_eq]; omega) fun h' tk acc kp it => ?_)))
  have hl : acc.toList.length = kx.length := by rw [Array.length_toList, it.1, l1]
  have ea : acc.toList = kx.map fun e => Value.ref e.2.1 := by
    refine List.ext_getElem? fun j => ?_
    rw [List.getElem?_map]
    cases hj : acc.toList[j]? with
    | none =>
      have h1 := List.getElem?_eq_none_iff.mp hj
      rw [List.getElem?_eq_none (by omega)]
      rfl
    | some v =>
      obtain ⟨en, hen, hv⟩ := it.2 j v (by rw [← Array.getElem?_toList]; exact hj)
      have qe := PySem.entry_at he j
      rw [hen] at qe
      cases hb : kx[j]? with
      | none => rw [hb] at qe; cases qe
      | some b =>
        rw [hb] at qe
        have e2 := Option.some.inj qe
        show some v = some _
        rw [hv, e2]
        rfl
  have eL : acc.toList = L.map fun t => Value.ref t.1 := by
    rw [ea, show (L.map fun t => Value.ref t.1) = (L.map (·.1)).map Value.ref by rw [List.map_map]; rfl, e1, List.map_map]
    rfl
  have hvl : acc.toList.length < 64 := by omega
  have I1 : Inv X pins σ H { heap := h', gens := s.gens, drawn := s.drawn, toks := tk, os := s.os } := I.kept kp
  refine wpAny_bind (wpAny_newList ?_ (by rw [sizeLine_eq]; omega))
  have hoL : (h'.push (PyProof.Rows.seqObj "list" acc.toList.toArray 0)).get? h'.objs.size = some (PyProof.Rows.seqObj "list" acc.toList.toArray 0) := Heap.get?_push_size _ rfl
  have I2 : Inv X pins σ H { heap := h'.push (PyProof.Rows.seqObj "list" acc.toList.toArray 0), gens := s.gens, drawn := s.drawn, toks := tk, os := s.os } := I1.kept fun b u e => Heap.get?_push_of_some _ e
  have raw : ∀ t ∈ L, TS.TupInts (h'.push (PyProof.Rows.seqObj "list" acc.toList.toArray 0)) (.ref t.1) t.2 := fun t m => tupI_raw I2 (SqT.of (e3 t m))
  have ki : ∀ t ∈ L, TS.intsOf (h'.push (PyProof.Rows.seqObj "list" acc.toList.toArray 0)) (.ref t.1) = t.2 := fun t m => (raw t m).ints
  refine wpAny_bind (wpAny_holding (TS.call_sort_tups (B := B) (d := d) hoL hvl hd (fun v hv => ?_) fun out a1 a2 => ?_))
  · rw [eL] at hv
    obtain ⟨t, m, rfl⟩ := List.mem_map.mp hv
    have mk : t.2 ∈ ks := by rw [← e2]; exact List.mem_map_of_mem m
    exact ⟨t.2, raw t m, hB t.2 mk⟩
  · let g : Value → Addr × List Int := fun v => (dtAdr v, TS.intsOf (h'.push (PyProof.Rows.seqObj "list" acc.toList.toArray 0)) v)
    have back : acc.toList.map g = L := by
      rw [eL, List.map_map]
      refine (List.map_congr_left fun t hm => ?_).trans (List.map_id L)
      show (t.1, TS.intsOf _ (.ref t.1)) = t
      rw [ki t hm]
    have pm : (out.toList.map g).Perm L := by
      have := a1.map g
      rw [back] at this
      exact this
    have outr : (out.toList.map g).map (fun t => Value.ref t.1) = out.toList := by
      rw [List.map_map]
      refine (List.map_congr_left fun v hv => ?_).trans (List.map_id _)
      have := a1.mem_iff.mp hv
      rw [eL] at this
      obtain ⟨t, _, rfl⟩ := List.mem_map.mp this
      rfl
    obtain ⟨ep', he'⟩ := PyProof.Rows.sortedHeap_at (out := out) hoL
    have vo : Vals ((out.toList.map g).map fun t => V.ref t.1) out.toList := by
      have := dt_vals (out.toList.map g)
      rw [outr] at this
      exact this
    have hlen : ((out.toList.map g).map fun t => V.ref t.1).length ≤ sizeLine := by
      rw [List.length_map, List.length_map, a1.length_eq, sizeLine_eq]
      omega
    refine wpAny_pure ⟨.ref h'.objs.size, rfl, .ref h'.objs.size, upd H h'.objs.size (.lst ((out.toList.map g).map fun t => V.ref t.1)), I1.laid (t' := tk) (fun b u e => ?_) (Nat.le_refl _) ⟨hlen, out.toList, ep', vo, ?_⟩, rfl, q _ _ ?_ ?_ (fun t m => e3 t (pm.mem_iff.mp m)) (I1.hok.fresh (Nat.le_refl _))⟩
    · have hb := Heap.lt_size e
      rw [PyProof.Rows.sortedHeap_old (Nat.ne_of_lt hb) (by rw [PyProof.Rows.size_push']; exact Nat.lt_succ_of_lt hb)]
      exact Heap.get?_push_of_some _ e
    · rw [Array.toArray_toList]
      exact he'
    · have := pm.map (fun t : Addr × List Int => t.2)
      rw [e2] at this
      exact this
    · exact List.pairwise_map.mpr a2
end L2
set_option Elab.async false
set_option linter.all false
set_option maxRecDepth 100000
set_option maxHeartbeats 2000000
/-! list(d.values()), the keys tuples -/
namespace L2
open PySem PySem.Spec PyProof.Rows
theorem raw_keep {h h' : Heap} {d : Addr} {es : Array DictEntry} {ep : Nat} (m : h.DictRaw d es ep) (k : ∀ o, h.get? d = some o → h'.get? d = some o) : h'.DictRaw d es ep :=
  let ⟨o, h1, h2, h3⟩ := m; ⟨o, k o h1, h2, h3⟩
theorem walks_valsR {prog : Program} {w : World} {A : Around} {es : Array DictEntry} {ep : Nat} (hh : A.handled = none) (I d : Addr) (hne : d ≠ I) : Walks prog w A I [I, d] [I] es.size (fun i v => ∃ en, es[i]? = some en ∧ v = en.val) (fun i h => h.IsValIter I d i es.size ep ∧ h.DictRaw d es ep) where
  sub := fun b hb => by simp at hb ⊢; exact .inl hb
  frame := fun i h h' st hk => ⟨st.1.at fun o e => hk I (by simp) o e, raw_keep st.2 fun o e => hk d (by simp) o e⟩
  item := fun i s Q E hi st hQ => wpAny_pyNext_values_item_raw st.1 st.2 hi fun h' hit' hs' => hQ es[i].val h' s.toks ⟨es[i], Array.getElem?_eq_getElem hi, rfl⟩ ⟨hit', raw_keep st.2 fun o e => hs'.extBut d o hne e⟩ fun b o hb e => hs'.extBut b o (by simpa using hb) e
  done := fun s Q E st hQ => wpAny_pyNext_values_end_raw hh st.1 st.2 (Nat.le_refl _) fun h' he' => hQ h' s.toks fun b o hb e => he' b o (by simpa using hb) e
  self := fun _ _ _ _ st hQ => wpAny_pyIter_valiter st.1 hQ
theorem kdl_valsR {prog : Program} {w : World} {d r : Addr} {es : Array DictEntry} {ep : Nat} : PySem.W.KdlSrc prog w "dict_values" r d es.size (fun i v => ∃ en, es[i]? = some en ∧ v = en.val) (fun h => h.IsValuesView r d ∧ h.DictRaw d es ep) where
  type := fun x hm => hm.1.typeIs
  there := fun x hm => ⟨let ⟨_, ho, _⟩ := hm.1; Heap.lt_size ho, let ⟨_, ho, _⟩ := hm.2; Heap.lt_size ho⟩
  keep := fun h h' hm hk => ⟨let ⟨o, ho, x⟩ := hm.1; ⟨o, hk r (.inl rfl) o ho, x⟩, raw_keep hm.2 fun o e => hk d (.inr rfl) o e⟩
  notList := by decide
  notTuple := by decide
  hint := fun A E s Q hm hq => PySem.W.kdl_hint_values hm.1.typeIs hq
  iter := fun A s hh hm => ⟨{ cls := Value.type "dict_valueiterator", data := Data.fields #[Value.ref d, Value.int 0 0, Value.int (↑es.size) 0, Value.int (↑ep) 0] },
    fun i h => h.IsValIter s.heap.objs.size d i es.size ep ∧ h.DictRaw d es ep, fun E Q hq => wpAny_pyIter_values_raw hm.1 hm.2 hq,
    walks_valsR hh s.heap.objs.size d (let ⟨_, ho, _⟩ := hm.2; Nat.ne_of_lt (Heap.lt_size ho)),
    ⟨_, Heap.get?_push_size s.heap rfl, rfl, rfl⟩, raw_keep hm.2 fun o e => Heap.get?_push_of_some _ e⟩
def rValsLT : V → Hp → VK → Prop := fun x H Q => ∃ (d : Addr) (kvs : List (List Key × V)), x = .ref d ∧ H d = some (.dT kvs) ∧ ∀ (H' : Hp) (p : Addr), (∀ b o, H b = some o → H' b = some o) → H p = none → H' p = some (.lst (kvs.map (·.2))) → Q (.ref p) H'
def tListValsT (te : TE) : TE := fun σ H Q => te σ H fun x H1 => rValsLT x H1 Q
theorem kt_vals {H : Hp} : ∀ {kvs : List (List Key × V)} {kx : List (List Key × Addr × Value)}, KT H kvs kx → Vals (kvs.map (·.2)) (kx.map fun e => e.2.2)
  | [], kx, h => by cases h; exact .nil
  | p :: kvs, kx, h => by
    cases h with
    | cons h t => exact .cons h.2.2 (kt_vals t)
theorem pe_listValsT {X : Cx} {e : Expr} {te : TE} {p apos cpos pos : Pos} (hc : X.calm = true) (he : PE X e te) (hg : Gl X "list") (hm : X.mg "list" = none) (hv : bootBuiltins "list" = some (.type "list")) (hbase : attributeBase e "values" X.env (eval e X.env) = eval e X.env := by rfl) (hline : (apos.endLine == cpos.line) = true := by rfl)
    (hs : starEach [.Call (.Attribute e "values" apos) [] [] cpos] X.env = (false, eval (.Call (.Attribute e "values" apos) [] [] cpos) X.env) :: starEach [] X.env := by rfl) :
    PE X (.Call (.Name "list" p) [.Call (.Attribute e "values" apos) [] [] cpos] [] pos) (tListValsT te) := by
  refine ⟨fun pins s σ H Q I hq => ?_⟩
  refine wpAny_Call_Name_kw (ld_blt I hg hm hv ?_)
  refine PyProof.Rows.callWith_type1 ?_ hs rfl
  rw [hs]
  show wpAny _ _ (spliced ((false, eval (.Call (.Attribute e "values" apos) [] [] cpos) X.env) :: backTo pos (starEach [] X.env))) _ _ s
  refine Calls.spliced_cons ?_
  refine wpAny_Call_method (T := "dict") (id := "dict.values") hbase rfl hline F.plainAttrs_dict F.slot_dict_values F.type_dict_values (thn (he.run pins s σ H _ I hq) fun u s1 ⟨x, H1, I1, rx, d, kvs, ex, hd, q⟩ => ?_)
  subst ex
  obtain rfl : u = Value.ref d := rx
  obtain ⟨hz, hs0, kx, pr, ob, es, ep, ho, hx, hdt, hen, hn⟩ := (show ObjOk X.prog X.w H1 s1.heap d (.dT kvs) from I1.hok d _ hd)
  have l1 := PySem.size_of_entries hen
  have l2 := Paired.length pr
  have hm0 : s1.heap.DictRaw d es ep := ⟨_, ho, hx, hdt⟩
  have I2 : Inv X pins σ H1 { s1 with heap := s1.heap.push { cls := .type "dict_values", data := .fields #[.ref d] } } := I1.kept (t' := s1.toks) fun b ob q => Heap.get?_push_of_some _ q
  refine ⟨hm0.typeIs, ?_, ?_⟩
  · intro b q
    cases q
    obtain ⟨ob, h1, h2, _⟩ := id hm0
    exact ⟨ob, h1, h2.2.1⟩
  show wpAny _ _ (callWith cpos (.builtin "dict.values") [.ref d] [] []) _ X.xe s1
  refine method_meetsIn F.slot_dict_values F.entry_dict_values rfl (PySem.evalArgs_none ⟨rfl, hm0.typeIs, F.args_dict_values_1 _, _, meets_dict_values_raw d hs0, ⟨⟨_, _, hm0⟩, ?_⟩⟩)
  refine Calls.spliced_nil ?_
  refine PySem.W.kdl_call kdl_valsR (I1.ok.hd hc) ⟨⟨_, Heap.get?_push_size _ rfl, rfl, rfl⟩, raw_keep hm0 fun o e => Heap.get?_push_of_some _ e⟩ (by omega) fun h' tk acc c hkeep hS hacc => ?_
  refine ⟨.ref _, upd H1 _ (.lst (kvs.map (·.2))), I2.laid hkeep (Nat.le_refl _) (show ObjOk X.prog X.w _ _ _ (.lst (kvs.map (·.2))) from ⟨?_, acc.toList, c, ?_, ?_⟩), rfl, q _ _ (fun b o e => ?_) (I2.hok.fresh (Nat.le_refl _)) upd_same⟩
  · rw [List.length_map]; omega
  · have el : acc.toList.length = acc.size := by simp
    refine vals_of_at (by rw [List.length_map, el, hacc.1]; omega) fun j x w h1 h2 => ?_
    obtain ⟨en, hky, rfl⟩ := hacc.2 j w (by rw [← Array.getElem?_toList]; exact h2)
    obtain ⟨u2, e2, r2⟩ := (kt_vals pr).get h1
    have qe := PySem.entry_at hen j
    rw [hky] at qe
    rw [List.getElem?_map] at e2
    cases hb : kx[j]? with
    | none => rw [hb] at qe; cases qe
    | some b =>
      rw [hb] at qe e2
      have e3 := Option.some.inj qe
      have e4 := Option.some.inj e2
      rw [e3]
      rw [← e4] at r2
      exact r2
  · rw [Array.toArray_toList]; exact hS
  · rw [upd_ne (fun z => by rw [z, I2.hok.fresh (Nat.le_refl _)] at e; cases e)]
    exact e
end L2
set_option Elab.async false
set_option linter.all false
set_option maxRecDepth 100000
set_option maxHeartbeats 4000000
namespace KD
open PySem L2
/-! ### the parts of a draw are looked at -/
theorem all_true (n : Nat) : (List.replicate n true).all id = true := List.all_eq_true.mpr fun b m => List.eq_of_mem_replicate m
theorem refs_rep {i : Nat} : (List.replicate i true).map V.bl ++ [V.bl true] = (List.replicate (i + 1) true).map V.bl := by
  rw [List.replicate_succ', List.map_append]
  rfl
structure DrG (mg : Str → Option Value) : Prop where
  gP : ∃ t, mg "MOST_PARTS" = some (.int 300 t)
  gL : ∃ t, mg "MOST_LED" = some (.int 8 t)
/-- is_above_zero(thing) -/
def spAbove (K : PySem.W.Frag) (C : Addr) : Sp := fun vs H Q _ => ∃ x, vs = [x] ∧ ((∃ S D, Num C H x S D ∧ 0 < D ∧ S.natAbs < 2 ^ 4000 ∧ D.natAbs < 2 ^ 4000 ∧ ∀ H', Same H H' → Q (.bl (decide (0 < S))) H') ∨ ∃ T, Fo K H x T ∧ isI x = false ∧ ∀ H', Same H H' → Q (.bl false) H')
/-- map_length(part), of a part with a map -/
def spMapLen : Sp := fun vs H Q _ => ∃ (t m : Addr) (x : V) (ws : List Nat), vs = [.ref t] ∧ H t = some (.tup [x, .ref m]) ∧ H m = some (.tup (cV ws)) ∧ Q (.int (ws.length : Int)) H
/-- is_part(size, thing), of a part that is right -/
def spIsPart (C : Addr) : Sp := fun vs H Q _ => ∃ (n : Nat) (t m : Addr) (x : V) (ws : List Nat) (S D : Int), vs = [.int (n : Int), .ref t] ∧ 1 ≤ n ∧ n ≤ 8 ∧ H t = some (.tup [x, .ref m]) ∧ Num C H x S D ∧ 0 < S ∧ 0 < D ∧ S.natAbs < 2 ^ 4000 ∧ D.natAbs < 2 ^ 4000 ∧ MapAt n H m ws ∧ ∀ H', Same H H' → Q (.bl true) H'
section
variable {P : Program} {w : World} {K : PySem.W.Frag} {mg : Str → Option Value} {base : Heap} {C B DC : Addr}
abbrev s_above : Stmt := top 19
theorem sc_above : FnScope ["thing"] ["thing"] (defScope s_above) := ⟨rfl, rfl, rfl, by decide +kernel, rfl, by decide +kernel, by decide +kernel⟩
theorem ok_above {f : Addr} {fd : FuncData} (F : Fun K "is_above_zero" "is_above_zero" s_above f fd) (T : ShT K mg C) (c_is : Cal P w K mg base 2 "is_share" ["thing"] (spIsShare K C)) (c_of : Cal P w K mg base 6 "share_of" ["thing"] (spShareOf C)) (ls : LsT P w K mg base C) :
    FnOk P w K mg base CX0 8 f fd ["thing"] (spAbove K C) := by
  obtain ⟨g, gd, M, G, bG⟩ := ls.ex
  refine F.ok sc_above (fun vs H Q E h => ?_) (fun cdv A outer s H vs Q E hr h => ?_)
  · obtain ⟨x, rfl, _⟩ := h
    rfl
  · obtain ⟨x, rfl, h⟩ := h
    refine ⟨_, (pss_one (ps_ret (pe_and (pe_cal c_is (hr.mono (by decide)) rfl (pa_cons (pv 0) pa_nil)) (pe_one (pe_meth (pl := _) (pe_cal c_of (hr.mono (by decide)) rfl (pa_cons pe_int pa_nil)) T.it.cl M G hr bG .nil pass0 (pa_cons (pv 0) pa_nil)))))), ?_⟩
    rcases h with ⟨S, D, hx, hD, hS, hDb, k⟩ | ⟨T', fo, ix, k⟩
    · refine ⟨_, rfl, x, rfl, .inl ⟨_, _, hx, _, rfl, iteT ?_⟩⟩
      refine ⟨.int 0, 0, 1, rfl, .inl ⟨rfl, rfl⟩, fun a dx H1 s1 e1 => ⟨a, dx, _, rfl, e1, less_none _ _, _, rfl, a, dx, x, 0, 1, _, _, rfl, e1, hx.same s1, Low.one (by decide +kernel), low_of hD hS hDb, fun H2 s2 => ?_⟩⟩
      have h := low_lt (S := 0 * D) (S' := S) hD
      rw [(low_whole hD).1, (low_whole hD).2, Int.zero_mul] at h
      have e : decide (0 * lowB S D < lowT S D * 1) = decide (0 < S) := by
        rw [decide_eq_decide, Int.zero_mul, h, Int.zero_mul]
      rw [e]
      exact k H2 (s1.trans s2)
    · exact ⟨_, rfl, x, rfl, .inr ⟨T', fo, ix, _, rfl, iteF (k H (Same.refl H))⟩⟩
abbrev s_mlen : Stmt := top 27
theorem sc_mlen : FnScope ["part"] ["part"] (defScope s_mlen) := ⟨rfl, rfl, rfl, by decide +kernel, rfl, by decide +kernel, by decide +kernel⟩
theorem ok_mlen {f : Addr} {fd : FuncData} (F : Fun K "map_length" "map_length" s_mlen f fd) (T : Bm mg) (c_tup : Cal P w K mg base 1 "is_tuple_of" ["many", "thing"] (spTupOf K C)) : FnOk P w K mg base CX0 2 f fd ["part"] spMapLen := by
  refine F.ok sc_mlen (fun vs H Q E h => ?_) (fun cdv A outer s H vs Q E hr h => ?_)
  · obtain ⟨t, m, x, ws, rfl, _⟩ := h
    rfl
  · obtain ⟨t, m, x, ws, rfl, et, em, k⟩ := h
    refine ⟨_, (pss_cons (ps_if (PW.pt (pw_or (pt_not (pt_val (pe_cal c_tup (hr.mono (by decide)) rfl (pa_cons pe_int (pa_cons (pv 0) pa_nil))))) (pw_or1 (pt_not (pt_val (pe_callB call_isi (by rfl) T.b.n_isinstance (by decide +kernel) (pa_cons (pe_ix ix_tup (pv 0) pe_int (fun _ _ => rfl)) (pa_cons (pe_bltn (v := .ty "tuple") rfl T.n_tuple (by decide +kernel) rfl) pa_nil))))))))
        (pss_one (ps_ret pe_int))
        pss_nil)
      (pss_one (ps_ret (pe_callB call_len_seq (by rfl) T.b.n_len PySem.boot_len (pa_cons (pe_ix ix_tup (pv 0) pe_int (fun _ _ => rfl)) pa_nil))))), ?_⟩
    refine ⟨_, rfl, 2, .ref t, rfl, .inl ⟨t, _, rfl, et, true, congrArg V.bl (decide_eq_true rfl), iteF ?_⟩⟩
    refine ⟨_, rfl, t, _, 1, _, rfl, rfl, SqT.of et, i1, .ref m, .ty "tuple", _, _, true, rfl, .ty _, (Fo.tup em).ty, kit_ty (r := true) (by decide +kernel), _, rfl, iteF ?_⟩
    refine ⟨_, rfl, t, _, 1, _, rfl, rfl, SqT.of et, i1, m, _, rfl, .inr (SqT.of em), ?_⟩
    rw [List.length_map]
    exact k
abbrev s_part : Stmt := top 28
theorem sc_part : FnScope ["size", "thing", "state"] ["size", "thing"] (defScope s_part) := ⟨rfl, rfl, rfl, by decide +kernel, rfl, by decide +kernel, by decide +kernel⟩
theorem ok_part {f : Addr} {fd : FuncData} (F : Fun K "is_part" "is_part" s_part f fd) (T : Bm mg) (G : DrG mg) (c_tup : Cal P w K mg base 1 "is_tuple_of" ["many", "thing"] (spTupOf K C)) (c_ab : Cal P w K mg base 8 "is_above_zero" ["thing"] (spAbove K C)) (c_ix : Cal P w K mg base 3 "is_index" ["many", "thing"] (spIndex K C DC)) : FnOk P w K mg base CX0 9 f fd ["size", "thing"] (spIsPart C) := by
  obtain ⟨tL, gL⟩ := G.gL
  refine F.ok sc_part (fun vs H Q E h => ?_) (fun cdv A outer s H vs Q E hr h => ?_)
  · obtain ⟨n, t, m, x, ws, S, D, rfl, _⟩ := h
    rfl
  · obtain ⟨n, t, m, x, ws, S, D, rfl, n1, n8, et, hx, hS, hD, hSb, hDb, hm, k⟩ := h
    refine ⟨_, (pss_cons (ps_if (PW.pt (pw_or (pt_not (pt_chain op_le op_le pe_int (pv 0) (pe_glob (v := .int 8) rfl gL ⟨_, rfl⟩))) (pw_or (pt_not (pt_val (pe_cal c_tup (hr.mono (by decide)) rfl (pa_cons pe_int (pa_cons (pv 1) pa_nil))))) (pw_or1 (pt_not (pt_val (pe_cal c_ab (hr.mono (by decide)) rfl (pa_cons (pe_ix ix_tup (pv 1) pe_int (fun _ _ => rfl)) pa_nil))))))))
        (pss_one (ps_ret pe_bl))
        pss_nil)
      (pss_one (ps_ret (pe_and (pe_cal c_tup (hr.mono (by decide)) rfl (pa_cons (pv 0) (pa_cons (pe_ix ix_tup (pv 1) pe_int (fun _ _ => rfl)) pa_nil))) (pe_one (pe_callB (cr_all rfl) (by rfl) T.n_all PyProof.Rows.boot_all (pa_cons (pe_lc (own := [("state", 2)]) rfl sc_part.nd (pi_tup (pe_ix ix_tup (pv 1) pe_int (fun _ _ => rfl))) (blkOk_by (N := ["size", "thing", "state"]) (sc := defScope s_part) (by decide +kernel)) (fun _ _ _ _ _ => (pg_name (i := 2) sc_part.nd rfl (Or.inl rfl))) (fun _ _ _ _ _ => pts_nil) (fun _ _ _ _ _ => (pe_cal c_ix (hr.mono (by decide)) rfl (pa_cons (pv 0) (pa_cons (pv 2) pa_nil))))) pa_nil))))))), ?_⟩
    refine ⟨_, rfl, 1, n, rfl, rfl, true, congrArg V.bl (decide_eq_true (by omega)), iteT ⟨n, 8, rfl, rfl, true, congrArg V.bl (decide_eq_true (by omega)), iteF ?_⟩⟩
    refine ⟨_, rfl, 2, .ref t, rfl, .inl ⟨t, _, rfl, et, true, congrArg V.bl (decide_eq_true rfl), iteF ?_⟩⟩
    refine ⟨_, rfl, t, _, 0, _, rfl, rfl, SqT.of et, at0, x, rfl, .inl ⟨S, D, hx, hD, hSb, hDb, fun H1 s1 => ⟨true, congrArg V.bl (decide_eq_true hS), iteF ?_⟩⟩⟩
    have et1 := s1 _ _ et
    have hm1 := hm.same s1
    refine ⟨_, rfl, _, rfl, t, _, 1, _, rfl, rfl, SqT.of et1, i1, n, .ref m, rfl, .inl ⟨m, _, rfl, hm1.1, true, congrArg V.bl (decide_eq_true (by rw [List.length_map, hm.2.1])), iteT ?_⟩⟩
    refine ⟨_, rfl, t, _, 1, _, rfl, rfl, SqT.of et1, i1, m, rfl, ⟨_, SqT.of hm1.1⟩, fun G nG => ?_⟩
    refine lc_tup (K := K) (a := m) (xs := cV ws) (fun i H' => Same H1 H' ∧ H' G = some (.lst ((List.replicate i true).map V.bl))) ⟨Same.put nG, upd_same⟩ (fun i H' _ h => SqT.of (h.1 _ _ hm1.1)) ?_ ?_
    · rintro i y H' hy ⟨s2, eG⟩
      obtain ⟨z, hz, rfl⟩ := cV_of hy
      have il := (List.getElem?_eq_some_iff.mp hz).1
      have zn : z < n := hm.2.2 z (List.mem_of_getElem? hz)
      refine ⟨rfl, yes_of ?_⟩
      refine ⟨_, rfl, _, rfl, n, .int (z : Int), rfl, .th (.fo (.int _)), ?_⟩
      rw [int_btw zn]
      refine ⟨_, eG, by rw [List.length_map, List.length_replicate]; exact small_len (by have := hm.2.1; omega), Same.but s2 nG, ?_⟩
      rw [upd_same, refs_rep]
    · rintro H2 ⟨s2, eG⟩
      refine ⟨G, _, rfl, SqL.of eG, ?_⟩
      rw [all_true]
      exact k H2 (s1.trans s2)
end
end KD
set_option Elab.async false
set_option linter.all false
set_option maxRecDepth 100000
set_option maxHeartbeats 4000000
/-! sum(list, start=share) -/
namespace L2
open PySem PySem.Spec PyProof.Rows
section
variable {X : Cx} {pins : List (Addr × Obj)} {σ : St} {H : Hp} {s : Shared}
theorem sum_turnsL {rA : R2} {l it S : Addr} {xs : List V} {Q : VK} (hc : X.calm = true) (op : OpN X.inn (binaryOp .Add) rA) (Pv : Nat → V → Hp → Prop) (own : ∀ i acc H, Pv i acc H → ∃ a, acc = .ref a) (row : ∀ i acc H, i ≤ xs.length → Pv i acc H → SqL X.K H l xs)
    (step : ∀ i acc x H, xs[i]? = some x → Pv i acc H → rA acc x H (Pv (i + 1))) (fin : ∀ acc H, Pv xs.length acc H → Q acc H) (ne : it ≠ S) :
    ∀ (k i : Nat) (acc : V) (v : Value) (c : Nat) (H : Hp) (s : Shared), xs.length - i = k → i ≤ xs.length → Inv X pins σ H s → RelV acc v → Pv i acc H → s.heap.IsListIter it l i → s.heap.get? S = some (sumSt v c) → FpOk X pins H it → FpOk X pins H S →
      codeAny (model X.prog X.w) X.A (.builtin "sum.loop" ⟨[.ref it, .ref S, rawInt 2, rawInt 0], []⟩) (fun r s' => match r with | .ok (.ret v) => EP X pins σ Q v s' | .ok _ => False | .error e => X.xe e s') s := by
  intro k
  induction k with
  | zero =>
    intro i acc v c H s hk hi I rv pv st hS fi fS
    have e : i = xs.length := by omega
    subst e
    obtain ⟨a, rfl⟩ := own _ _ _ pv
    obtain rfl : v = Value.ref a := rv
    obtain ⟨its, ri, pl, hz⟩ := I.list (row _ _ _ hi pv)
    have hl := ri.length
    obtain ⟨f0, f1, f2, f3, f4, f5⟩ := fi
    refine codeAny_builtin F.entry_sum_loop ?_
    rw [Around.under_plainId F.plain_sum_loop _]
    show wpAny _ X.A.in1 (seqItems? (.ref S) >>= _) _ _ s
    refine wpAny_bind (wpAny_seqItems hS rfl ?_)
    show wpAny _ X.A.in1 (tryCatch (pyNext (.ref it)) _ >>= _) _ _ s
    refine wpAny_bind (wpAny_tryCatch (wpAny_pyNext_list_end (I.ok.hd hc) st (show s.heap.IsList l its.toArray from pl.isList) (by simp; omega) fun h' eb => ?_))
    exact wpAny_pure ⟨.ref a, H, I.turned (t' := s.toks) (fun b o hb e => eb b o hb e) f0 f1 f3 f4 f5, rfl, fin _ _ pv⟩
  | succ k ih =>
    intro i acc v c H s hk hi I rv pv st hS fi fS
    have hlt : i < xs.length := by omega
    obtain ⟨a, rfl⟩ := own _ _ _ pv
    obtain rfl : v = Value.ref a := rv
    have hx : xs[i]? = some xs[i] := by simp [hlt]
    obtain ⟨its, ri, pl, hz⟩ := I.list (row _ _ _ hi pv)
    obtain ⟨u, hu, ru⟩ := ri.get hx
    have go := step i (.ref a) xs[i] H hx pv
    generalize xs[i] = x at go ru
    obtain ⟨f0, f1, f2, f3, f4, f5⟩ := id fi
    obtain ⟨g0, g1, g2, g3, g4, g5⟩ := id fS
    refine codeAny_builtin F.entry_sum_loop ?_
    rw [Around.under_plainId F.plain_sum_loop _]
    show wpAny _ X.A.in1 (seqItems? (.ref S) >>= _) _ _ s
    refine wpAny_bind (wpAny_seqItems hS rfl ?_)
    show wpAny _ X.A.in1 (tryCatch (pyNext (.ref it)) _ >>= _) _ _ s
    refine wpAny_bind (wpAny_tryCatch (wpAny_pyNext_list_item st (show s.heap.IsList l its.toArray from pl.isList) (x := u) (by simpa using hu) fun h' st' sb => ?_))
    have I1 : Inv X pins σ H { s with heap := h' } := I.turned (t' := s.toks) (fun b o hb e => (sb.2 b hb).trans e) f0 f1 f3 f4 f5
    have hS1 : h'.get? S = some (sumSt (.ref a) c) := (sb.2 S (Ne.symm ne)).trans hS
    obtain ⟨oi, ei, ci, di⟩ := id st'
    have I2 : Inv X (pins ++ [(it, oi), (S, sumSt (.ref a) c)]) σ H { s with heap := h' } := I1.pins_of fun p hp => by
      rcases List.mem_append.mp hp with hp | hp
      · exact I1.pin p (List.mem_append_right _ hp)
      · rcases List.mem_cons.mp hp with rfl | hp
        · exact ⟨ei, f0, f1, f2, fun v z => by rw [di] at z; cases z⟩
        · rw [List.mem_singleton.mp hp]
          exact ⟨hS1, g0, g1, g2, fun v z => by cases z⟩
    show wpAny _ X.A.in1 ((holding [u] (binaryOp .Add (.ref a) u)).attempt >>= _) _ _ _
    refine wpAny_bind (wpAny_attempt (wpAny_holding (wpAny_mono (op (fun _ _ => False) _ _ σ H (.ref a) x (.ref a) u _ I2.inn rfl ru go) (fun w s2 q => ?_) (fun e s2 z => z.elim))))
    obtain ⟨z, H2, I3, rz, pv2⟩ := q
    have I4 : Inv X (pins ++ [(it, oi), (S, sumSt (.ref a) c)]) σ H2 s2 := I3.outn I.ok
    obtain ⟨ki, ni, _⟩ := I4.pin (it, oi) (List.mem_append_right _ (List.mem_append_right _ List.mem_cons_self))
    obtain ⟨kS, nS, _⟩ := I4.pin (S, sumSt (.ref a) c) (List.mem_append_right _ (List.mem_append_right _ (List.mem_cons_of_mem _ List.mem_cons_self)))
    obtain ⟨a2, rfl⟩ := own _ _ _ pv2
    obtain rfl : w = Value.ref a2 := rz
    have I5 : Inv X pins σ H2 s2 := I4.unpinned
    show wpAny _ X.A.in1 (updateSeq S (fun _ => #[Value.ref a2]) >>= _) _ _ _
    refine wpAny_bind (wpAny_updateSeq kS rfl ?_)
    have hS₂ := Heap.get?_update_self (Obj.mapSeq fun _ => #[Value.ref a2]) kS rfl
    refine wpAny_bind (wpAny_letGo ?_)
    refine wpAny_bind (wpAny_updateSeq hS₂ rfl ?_)
    have hS3 := Heap.get?_update_self (Obj.mapSeq fun _ => #[Value.ref a2]) hS₂ rfl
    have oth : ∀ (b : Addr) (o : Obj), b ≠ S → s2.heap.get? b = some o → ((s2.heap.update S (Obj.mapSeq fun _ => #[Value.ref a2])).update S (Obj.mapSeq fun _ => #[Value.ref a2])).get? b = some o := fun b o hb e =>
      (Heap.get?_update_other _ _ (Ne.symm hb)).trans ((Heap.get?_update_other _ _ (Ne.symm hb)).trans e)
    have I6 : Inv X pins σ H2 { s2 with heap := (s2.heap.update S (Obj.mapSeq fun _ => #[Value.ref a2])).update S (Obj.mapSeq fun _ => #[Value.ref a2]) } := I5.turned (t' := s2.toks) oth nS g1 g3 g4 g5
    refine wpAny_pure ⟨plainId_quiet F.plain_sum_loop _, ih (i + 1) (.ref a2) (.ref a2) c H2 _ (by omega) hlt I6 rfl pv2 ⟨oi, oth it oi ne ki, by obtain ⟨o', e', c', d'⟩ := st'; rw [ei] at e'; cases e'; exact ⟨c', d'⟩⟩ hS3 ⟨ni, f1, f2, f3, f4, f5⟩ ⟨nS, g1, g2, g3, g4, g5⟩⟩
/-- sum(row, start=an instance): Pv tells the total behind i items -/
def rSumOL (K : PySem.W.Frag) (rA : R2) : List V → List V → Hp → VK → Prop := fun xs zs H Q => ∃ (l a C dx : Addr) (fs : List (Str × V)) (row : List V), xs = [.ref l] ∧ zs = [.ref a] ∧ H a = some (.ins C dx fs) ∧ NoTxt K C ∧
  ∃ Pv : Nat → V → Hp → Prop, Pv 0 (.ref a) H ∧ (∀ i acc H', Pv i acc H' → ∃ b, acc = .ref b) ∧ (∀ i acc H', i ≤ row.length → Pv i acc H' → SqL K H' l row) ∧ (∀ i acc x H', row[i]? = some x → Pv i acc H' → rA acc x H' (Pv (i + 1))) ∧ ∀ acc H', Pv row.length acc H' → Q acc H'
theorem cr_sumOL {rA : R2} (hc : X.calm = true) (op : OpN X.inn (binaryOp .Add) rA) : CallRK X (.builtin "sum") [Str.ofString "start"] (rSumOL X.K rA) := by
  intro pins s σ H xs zs us ws Q I r rz h
  obtain ⟨l, a, C, dx, fs, row, rfl, rfl, ha, nt, Pv, p0, own, kept, step, fin⟩ := h
  obtain rfl := Vals.ref1 r
  obtain rfl := Vals.ref1 rz
  obtain ⟨its, ri, pl, hz⟩ := I.list (kept 0 _ _ (Nat.zero_le _) p0)
  obtain ⟨mA, J, _⟩ := ins_get I.hok ha
  obtain ⟨od, J, _⟩ := J.look
  have n1 : ∀ M : Model, PySem.W.Looks M s.heap (isInstance (.ref a) (.type "str")) false := fun M => OC.not_inst I.kIn J nt.str
  have n2 : ∀ M : Model, PySem.W.Looks M s.heap (isInstance (.ref a) (.type "bytes")) false := fun M => OC.not_inst I.kIn J nt.byt
  have n3 : ∀ M : Model, PySem.W.Looks M s.heap (isInstance (.ref a) (.type "bytearray")) false := fun M => OC.not_inst I.kIn J nt.bar
  refine wpAny_call (codeAny_call_builtin F.plain_sum F.entry_sum ?_)
  have body : wpAny (model X.prog X.w) X.A.in1 (Builtin.«sum» ⟨[.ref l], [(Str.ofString "start", .ref a)]⟩) (fun fin s' => match fin with
      | .done f => (match (Except.ok f : Result) with | .ok (.ret v) => EP X pins σ Q v s' | .ok _ => False | .error e => X.xe e s')
      | .again c' => c'.quiet = true ∧ codeAny (model X.prog X.w) X.A c' (fun r s' => match r with | .ok (.ret v) => EP X pins σ Q v s' | .ok _ => False | .error e => X.xe e s') s') X.xe s := by
    unfold Builtin.«sum»
    simp only [List.length_cons, List.length_nil]
    rw [if_neg (by decide)]
    refine wpAny_bind (wpAny_of_eq (show Builtin.Builtins.bindParams "sum" ["start"] 0 ⟨[], [(Str.ofString "start", .ref a)]⟩ = pure [some (.ref a)] from rfl) ?_)
    refine wpAny_bind (wpAny_pyIter_list (show s.heap.IsList l its.toArray from pl.isList) ?_)
    have up : ∀ b o, s.heap.get? b = some o → (s.heap.push { cls := .type "list_iterator", data := .fields #[.ref l, .int 0 0] }).get? b = some o := fun b o e => Heap.get?_push_of_some _ e
    refine wpAny_bind (wpAny_pure ?_)
    simp only [List.forIn_cons, List.forIn_nil]
    refine wpAny_bind (wpAny_bind (wpAny_bind (n1 _ _ _ _ _ up ?_)))
    simp only [Bool.false_eq_true, if_false]
    refine wpAny_pure (wpAny_bind (wpAny_bind (n2 _ _ _ _ _ up ?_)))
    simp only [Bool.false_eq_true, if_false]
    refine wpAny_pure (wpAny_bind (wpAny_bind (n3 _ _ _ _ _ up ?_)))
    simp only [Bool.false_eq_true, if_false]
    refine wpAny_pure (wpAny_pure ?_)
    refine wpAny_bind (wpAny_newObj_type ?_)
    have I1 : Inv X pins σ H { s with heap := s.heap.push { cls := .type "list_iterator", data := .fields #[.ref l, .int 0 0] } } := I.kept (t' := s.toks) up
    have sz1 : (s.heap.push { cls := .type "list_iterator", data := .fields #[.ref l, .int 0 0] }).objs.size = s.heap.objs.size + 1 := Heap.size_push ..
    have up2 : ∀ b o, (s.heap.push { cls := .type "list_iterator", data := .fields #[.ref l, .int 0 0] }).get? b = some o → ((s.heap.push { cls := .type "list_iterator", data := .fields #[.ref l, .int 0 0] }).push { cls := .type "list", dict := none, data := .seq #[.ref a] 0 }).get? b = some o := fun b o e => Heap.get?_push_of_some _ e
    have I2 := I1.kept (t' := s.toks) up2
    have le1 : s.heap.objs.size ≤ (s.heap.push { cls := .type "list_iterator", data := .fields #[.ref l, .int 0 0] }).objs.size := by rw [sz1]; exact Nat.le_succ _
    exact wpAny_pure ⟨plainId_quiet F.plain_sum_loop _, sum_turnsL hc op Pv own kept step fin (by show s.heap.objs.size ≠ _; rw [sz1]; exact Nat.ne_of_lt (Nat.lt_succ_self _)) row.length 0 (.ref a) (.ref a) 0 H _ rfl (Nat.zero_le _) I2 rfl p0
      ⟨_, up2 _ _ (Heap.get?_push_size _ rfl), rfl, rfl⟩ (Heap.get?_push_size _ rfl) (I.fpOk (Nat.le_refl _) (I.hok.fresh (Nat.le_refl _))) (I.fpOk le1 (I.hok.fresh le1))⟩
  simp only [checkBuiltinCall, F.kind_sum]
  cases hsig : Manifest.signature? "sum" with
  | none => exact wpAny_pure body
  | some sig =>
    have ha' : Bind.checkArgs "sum" sig ⟨[.ref l], [(Str.ofString "start", .ref a)]⟩ = pure () := by simpa only [argsOk, hsig] using argsOk_sum (.ref l) (.ref a)
    simp only [List.zip_cons_cons, List.zip_nil_right, ha']
    exact wpAny_pure body
end
end L2
set_option Elab.async false
set_option linter.all false
set_option maxRecDepth 100000
set_option maxHeartbeats 4000000
namespace KD
open PySem L2
/-! ### maps in their order -/
def cle (x y : List Nat) : Prop := TS.code 8 (iW x) ≤ TS.code 8 (iW y)
theorem iW_len (x : List Nat) : (iW x).length = x.length := List.length_map _
theorem iW_bd {n : Nat} {x : List Nat} (n8 : n ≤ 8) (h : IsMap n x) : TS.Bd 8 (iW x) := fun m hm => by
  obtain ⟨k, mk, rfl⟩ := List.mem_map.mp hm
  have := h.2 k mk
  show (0 : Int) ≤ (k : Int) ∧ (k : Int) < 8
  omega
theorem bd_tail {B a : Int} {x : List Int} (h : TS.Bd B (a :: x)) : TS.Bd B x := fun m hm => h m (List.mem_cons_of_mem _ hm)
theorem code_inj {B : Int} : ∀ {x y : List Int}, x.length = y.length → TS.Bd B x → TS.Bd B y → TS.code B x ≤ TS.code B y → TS.code B y ≤ TS.code B x → x = y
  | [], [], _, _, _, _, _ => rfl
  | [], _ :: _, h, _, _, _, _ => by cases h
  | _ :: _, [], h, _, _, _, _ => by cases h
  | a :: x, b :: y, hl, hx, hy, h1, h2 => by
    have lq : x.length = y.length := by simpa using hl
    have t1 := bd_tail hx
    have t2 := bd_tail hy
    have e : a = b := by
      rcases Int.lt_trichotomy a b with h | h | h
      · have := TS.code_lt lq t1 t2 h
        omega
      · exact h
      · have := TS.code_lt lq.symm t2 t1 h
        omega
    subst e
    have s1 := TS.code_same (B := B) (d := a) lq
    have s2 := TS.code_same (B := B) (d := a) lq.symm
    rw [code_inj lq t1 t2 (by
      refine Int.not_lt.mp fun z => ?_
      have := s2.mpr z
      omega) (by
      refine Int.not_lt.mp fun z => ?_
      have := s1.mpr z
      omega)]
/-- there is one such list in this order -/
theorem cle_uniq {n : Nat} {l m : List (List Nat)} (n8 : n ≤ 8) (h : ∀ x ∈ l, IsMap n x) (hl : l.Pairwise cle) (hm : m.Pairwise cle) (p : l.Perm m) : l = m := by
  refine List.Perm.eq_of_pairwise (le := cle) (fun a b ha hb h1 h2 => ?_) hl hm p
  have ia := h a ha
  have ib := h b (p.mem_iff.mpr hb)
  exact iW_inj (code_inj (by rw [iW_len, iW_len, ia.1, ib.1]) (iW_bd n8 ia) (iW_bd n8 ib) h1 h2)
/-- total(row), of a list of numbers over D -/
def spTotalN (K : PySem.W.Frag) (C : Addr) : Sp := fun vs H Q _ => ∃ (l : Addr) (xs : List V) (Ss : List Int) (D : Int), vs = [.ref l] ∧ SqL K H l xs ∧ Nums C D H xs Ss ∧ 0 < D ∧ D.natAbs < 2 ^ 4000 ∧ Ss.length ≤ 1000 ∧ (∀ S ∈ Ss, S.natAbs < 2 ^ 3000) ∧
  ∀ (a dx : Addr) (H' : Hp), Same H H' → H' a = some (.ins C dx (shF (lowT Ss.sum D) (lowB Ss.sum D))) → Q (.ref a) H'
section
variable {P : Program} {w : World} {K : PySem.W.Frag} {mg : Str → Option Value} {base : Heap} {C B : Addr}
theorem ok_totalN {f : Addr} {fd : FuncData} (F : Fun K "total" "total" s_total f fd) (m : MkT P w K mg base C B) (nt : NoTxt K C) (n_sum : mg "sum" = none) (ad : AddT P w K mg base C) : FnOk P w K mg base CX0 10 f fd ["row"] (spTotalN K C) := by
  refine F.ok sc_total (fun vs H Q E h => ?_) (fun cdv A outer s H vs Q E hr h => ?_)
  · obtain ⟨l, xs, Ss, D, rfl, _⟩ := h
    rfl
  · obtain ⟨l, xs, Ss, D, rfl, hl, hn, hD, hDb, hlen, hS, k⟩ := h
    have o := ArT.op (X := (cxOf CX0 P w K mg base ["row"] "total" (defScope s_total) f cdv A outer s H E).nox.inn) ad (hr.in1.mono (by decide)) (hr.in1.mono (by decide))
    refine ⟨_, pss_one (ps_ret (pe_callBK (cr_sumOL rfl o) rfl n_sum PyProof.Rows.boot_sum (pa_cons (pv 0) pa_nil) (pk_cons (pe_share1 m (hr.mono (by decide)) rfl (pa_cons pe_int pa_nil)) pk_nil))), ?_⟩
    refine ⟨_, rfl, fun z dz hz hd ne => si_ok hz hd ne (a := 0) (b := 1) (by decide) (by decide +kernel) fun H1 s1 e1 => ⟨rfl, ?_⟩⟩
    have e0 : shF (lowT 0 1) (lowB 0 1) = shF (lowT (Ss.take 0).sum D) (lowB (Ss.take 0).sum D) := by
      have h1 := low_whole (i := 0) hD
      have h2 := low_int 0
      rw [Int.zero_mul] at h1
      rw [h2.1, h2.2, List.take_zero, List.sum_nil, h1.1, h1.2]
    rw [e0] at e1
    refine ⟨l, z, C, dz, _, xs, rfl, rfl, e1, nt, fun i acc H' => Same H1 H' ∧ ∃ a dx, acc = .ref a ∧ H' a = some (.ins C dx (shF (lowT (Ss.take i).sum D) (lowB (Ss.take i).sum D))),
      ⟨Same.refl _, z, dz, rfl, e1⟩, fun i acc H' ⟨_, a, _, e, _⟩ => ⟨a, e⟩, fun i acc H' _ ⟨s2, _⟩ => (s1.trans s2).seq hl, ?_, ?_⟩
    · rintro i acc x H' hx ⟨s2, a, dx, rfl, ea⟩
      obtain ⟨S, hSi, nx⟩ := (hn.same (s1.trans s2)).2 i x hx
      have hi : i < Ss.length := (List.getElem?_eq_some_iff.mp hSi).1
      have b1 : (Ss.take i).sum.natAbs < 2 ^ 4000 := sum_small (by rw [List.length_take]; omega) fun S hm => hS S (List.mem_of_mem_take hm)
      have b2 : S.natAbs < 2 ^ 4000 := Nat.lt_trans (hS S (mem_of_at hSi)) (by decide +kernel)
      refine .inl ⟨a, dx, _, rfl, ea, other_of nx, a, dx, x, _, _, _, _, rfl, ea, nx, low_of hD b1 hDb, low_of hD b2 hDb, fun z2 dz2 H2 s3 e3 => ?_⟩
      rw [(low_sum hD).1, (low_sum hD).2] at e3
      refine ⟨s2.trans s3, z2, dz2, rfl, ?_⟩
      rw [take_more hSi, List.sum_append, List.sum_cons, List.sum_nil, Int.add_zero]
      exact e3
    · rintro acc H' ⟨s2, a, dx, rfl, ea⟩
      rw [hn.1, List.take_length] at ea
      exact k a dx H' (s1.trans s2) ea
end
end KD
set_option Elab.async false
set_option linter.all false
set_option maxRecDepth 100000
set_option maxHeartbeats 4000000
namespace KD
open PySem L2
/-! ### a draw is made -/
theorem notin_takeL {α : Type} : ∀ {l : List α} {i : Nat} {x : α}, l.Nodup → l[i]? = some x → x ∉ l.take i
  | [], i, x, _, h => by simp at h
  | a :: l, 0, x, _, _ => by simp
  | a :: l, i + 1, x, nd, h => by
    rw [List.nodup_cons] at nd
    have h : l[i]? = some x := h
    rw [List.take_succ_cons, List.mem_cons, not_or]
    exact ⟨fun z => nd.1 (z ▸ List.mem_of_getElem? h), notin_takeL nd.2 h⟩
/-- the share at a is t over W -/
def ShAt (C : Addr) (W : Nat) (H : Hp) (a : Addr) (t : Nat) : Prop := ∃ dx, H a = some (.ins C dx (shF (lowT (t : Int) (W : Int)) (lowB (t : Int) (W : Int))))
theorem ShAt.same {C : Addr} {W : Nat} {H H' : Hp} {a : Addr} {t : Nat} (h : ShAt C W H a t) (s : Same H H') : ShAt C W H' a t := let ⟨dx, e⟩ := h; ⟨dx, s _ _ e⟩
theorem ShAt.upx {C CC x dx : Addr} {W : Nat} {H : Hp} {a : Addr} {t : Nat} {fs : List (Str × V)} {o : HO} (h : ShAt C W H a t) (ex : H x = some (.ins CC dx fs)) (nf : fs.lookup ("top" : Str) = none) : ShAt C W (upd H x o) a t := by
  obtain ⟨dy, e⟩ := h
  refine ⟨dy, ?_⟩
  rw [upd_ne (fun z => ?_)]
  · exact e
  · rw [z, ex] at e
    have e4 := HO.ins.inj (Option.some.inj e)
    rw [e4.2.2, shF_top] at nf
    cases nf
theorem ShAt.lstU {C l : Addr} {W : Nat} {H : Hp} {a : Addr} {t : Nat} {ys : List V} {o : HO} (h : ShAt C W H a t) (e : H l = some (.lst ys)) : ShAt C W (upd H l o) a t := by
  obtain ⟨dy, h⟩ := h
  exact ⟨dy, by rw [upd_ne (fun z => by rw [z, e] at h; cases h)]; exact h⟩
theorem ShAt.dT {C d : Addr} {W : Nat} {H : Hp} {a : Addr} {t : Nat} {kvs : List (List L2.Key × V)} {o : HO} (h : ShAt C W H a t) (e : H d = some (.dT kvs)) : ShAt C W (upd H d o) a t := by
  obtain ⟨dy, h⟩ := h
  exact ⟨dy, by rw [upd_ne (fun z => by rw [z, e] at h; cases h)]; exact h⟩
/-- what is made: parts in their order, with the shares that were given -/
def DrMade (C : Addr) (n W : Nat) (H : Hp) (pt : Addr) (gs : List (Nat × List Nat)) (ps : List Dp3) : Prop := H pt = some (.tup (rfs ps)) ∧ (∀ p ∈ ps, DpAt n H p) ∧ (∀ p ∈ ps, ∃ t, (t, p.2.2.2) ∈ gs ∧ ShAt C W H p.2.1 t) ∧ (mpD ps).Pairwise cle ∧ (mpD ps).Perm (gs.map (·.2))
/-- Draw.__init__(parts), of parts that are right -/
def spDI (C DC : Addr) : Sp := fun vs H Q _ => ∃ (x dx g : Addr) (n W : Nat) (gs : List Prt), vs = [.ref x, .ref g] ∧ H x = some (.ins DC dx []) ∧ 1 ≤ n ∧ n ≤ 8 ∧ 1 ≤ W ∧ W ≤ 1000 ∧ H g = some (.tup (rfs gs)) ∧ (∀ u ∈ gs, GivAt C n W H u) ∧ (∀ u ∈ gs, u.2.1 ≤ W) ∧ (mps gs).Nodup ∧ (topsOf gs).sum = W ∧ 1 ≤ gs.length ∧ gs.length < 64 ∧
  ∀ (pt : Addr) (ps : List Dp3) (H2 : Hp), Same H H2 → DrMade C n W H2 pt (gs.map fun u => (u.2.1, u.2.2.2)) ps → Q .non (upd H2 x (.ins DC dx (drF n pt)))
theorem kx_iW (l : List Nat) : (iW l).map Sum.inl = kx l := by rw [kx, iW, List.map_map]; rfl
/-- what the dict holds behind the first parts -/
def DSt (C : Addr) (W : Nat) (H H' : Hp) (d : Addr) (gs : List Prt) (i : Nat) (es : List Ent) : Prop := Same H H' ∧ H' d = some (.dT (kvX es)) ∧ (es.map fun e => (e.1, e.2.2)) = (gs.take i).map (fun u => (u.2.2.2, [u.2.1])) ∧ ∀ e ∈ es, ∃ t, e.2.2 = [t] ∧ ShAt C W H' e.2.1 t
theorem DSt.keys {C : Addr} {W : Nat} {H H' : Hp} {d : Addr} {gs : List Prt} {i : Nat} {es : List Ent} (h : DSt C W H H' d gs i es) : es.map (·.1) = mps (gs.take i) := by
  have := congrArg (List.map fun p : List Nat × List Nat => p.1) h.2.2.1
  rw [List.map_map, List.map_map] at this
  exact this
theorem DSt.tops {C : Addr} {W : Nat} {H H' : Hp} {d : Addr} {gs : List Prt} {i : Nat} {es : List Ent} (h : DSt C W H H' d gs i es) : (es.map fun e => e.2.2.getD 0 0) = topsOf (gs.take i) := by
  have := congrArg (List.map fun p : List Nat × List Nat => p.2.getD 0 0) h.2.2.1
  rw [List.map_map, List.map_map] at this
  exact this
theorem DSt.len {C : Addr} {W : Nat} {H H' : Hp} {d : Addr} {gs : List Prt} {i : Nat} {es : List Ent} (h : DSt C W H H' d gs i es) : es.length ≤ gs.length := by
  have := congrArg List.length h.2.2.1
  rw [List.length_map, List.length_map, List.length_take] at this
  omega
section
variable {P : Program} {w : World} {K : PySem.W.Frag} {mg : Str → Option Value} {base : Heap} {C B DC : Addr}
abbrev s_DI : Stmt := inClass (top 26) 0
abbrev nDI : List Str := ["self", "parts", "size", "shares", "at", "part", "leads"]
theorem sc_DI : FnScope nDI ["self", "parts"] (defScope s_DI) := ⟨rfl, rfl, rfl, by decide +kernel, rfl, by decide +kernel, by decide +kernel⟩
theorem ok_DI {f : Addr} {fd : FuncData} (F : Fun K "__init__" "Draw.__init__" s_DI f fd) (T : Bm mg) (t : DrT K mg DC) (G : DrG mg) (c_ml : Cal P w K mg base 2 "map_length" ["part"] spMapLen) (c_part : Cal P w K mg base 9 "is_part" ["size", "thing"] (spIsPart C))
    (c_of : Cal P w K mg base 6 "share_of" ["thing"] (spShareOf C)) (c_total : Cal P w K mg base 10 "total" ["row"] (spTotalN K C)) (c_eq : EqT P w K mg base C) : FnOk P w K mg base CX0 12 f fd ["self", "parts"] (spDI C DC) := by
  obtain ⟨tP, gP⟩ := G.gP
  refine F.ok sc_DI (fun vs H Q E h => ?_) (fun cdv A outer s H vs Q E hr h => ?_)
  · obtain ⟨x, dx, g, n, W, gs, rfl, _⟩ := h
    rfl
  · obtain ⟨x, dx, g, n, W, gs, rfl, ex, n1, n8, W1, W9, eg, ig, tW, ndm, sW, g1, g64, k⟩ := h
    have hu := hu_of hr
    obtain ⟨r1, o1, q1⟩ := EqT.op (X := (cxOf CX0 P w K mg base nDI "Draw.__init__" (defScope s_DI) f cdv A outer s H E).nox) is_ne c_eq (hr.mono (by decide))
    refine ⟨_, (pss_cons (ps_if (PW.pt (pw_or (pt_not (pt_val (pe_callB call_isi (by rfl) T.b.n_isinstance (by decide +kernel) (pa_cons (pv 1) (pa_cons (pe_bltn (v := .ty "tuple") rfl T.n_tuple (by decide +kernel) rfl) pa_nil))))) (pw_or1 (pt_not (pt_chain op_le op_le pe_int (pe_callB call_len_seq (by rfl) T.b.n_len PySem.boot_len (pa_cons (pv 1) pa_nil)) (pe_glob (v := .int 300) rfl gP ⟨_, rfl⟩))))))
        pss_never
        pss_nil)
      (pss_cons (ps_set (i := 2) sc_DI.nd rfl (Or.inl rfl) (pe_cal c_ml (hr.mono (by decide)) rfl (pa_cons (pe_ix ix_tup (pv 1) pe_int (fun _ _ => rfl)) pa_nil)))
      (pss_cons (ps_set (i := 3) sc_DI.nd rfl (Or.inr rfl) pe_dnewT)
      (pss_cons (ps_for PassesOwn.never rfl (pi_enumT (by rfl) T.n_enumerate (pa_cons (pv 1) pa_nil)) (pg_tup (by rfl) (pgs_cons (pg_name (i := 4) sc_DI.nd rfl (Or.inl rfl)) (pgs_cons (pg_name (i := 5) sc_DI.nd rfl (Or.inl rfl)) pgs_nil)))
        (pss_cons (ps_if (PW.pt (pw_or (pt_not (pt_val (pe_cal c_part (hr.mono (by decide)) rfl (pa_cons (pv 2) (pa_cons (pv 5) pa_nil))))) (pw_or1 (pt_cmp (pc_din (by exact hu) (pe_ix ix_tup (pv 5) pe_int (fun _ _ => rfl)) (pv 3)) (by rfl)))))
            pss_never
            pss_nil)
          (pss_one (ps_dput (by exact hu) (pv 3) (pe_ix ix_tup (pv 5) pe_int (fun _ _ => rfl)) (pe_cal c_of (hr.mono (by decide)) rfl (pa_cons (pe_ix ix_tup (pv 5) pe_int (fun _ _ => rfl)) pa_nil)) rfl))))
      (pss_cons (ps_if (pt_cmpR o1 (pe_cal c_total (hr.mono (by decide)) rfl (pa_cons (pe_listValsT rfl (pv 3) rfl T.n_list (by decide +kernel)) pa_nil)) pe_int (nomark _))
        pss_never
        pss_nil)
      (pss_cons (ps_fld (pv 0) (pv 2) rfl)
      (pss_one (ps_fld (pv 0) (pe_callTy call_tuple_of (by rfl) T.n_tuple (by decide +kernel) (pa_cons (pe_lc (own := [("leads", 6)]) rfl sc_DI.nd (pi_list (pe_callB (cr_sortDT (d := n) (B := 8) rfl n1) (by rfl) T.n_sorted (by decide +kernel) (pa_cons (pv 3) pa_nil))) (blkOk_by (N := nDI) (sc := defScope s_DI) (by decide +kernel)) (fun _ _ _ _ _ => (pg_name (i := 6) sc_DI.nd rfl (Or.inl rfl))) (fun _ _ _ _ _ => pts_nil)
          (fun _ _ _ _ _ => (pe_tup (pa_cons (pe_dget (by exact hu) (pv 3) (pv 6) (by intro _ _; rfl)) (pa_cons (pv 6) pa_nil))))) pa_nil)) rfl)))))))), ?_⟩
    have ml : ∀ (u : Prt), u ∈ gs → (u.2.1 : Int).natAbs < 2 ^ 4000 := fun u m => by
      have := tW u m
      exact Nat.lt_of_le_of_lt (show (u.2.1 : Int).natAbs ≤ 1000 by omega) (by decide +kernel)
    have wl : (W : Int).natAbs < 2 ^ 4000 := Nat.lt_of_le_of_lt (show (W : Int).natAbs ≤ 1000 by omega) (by decide +kernel)
    refine ⟨_, rfl, .ref g, .ty "tuple", _, _, true, rfl, .ty _, (Fo.tup eg).ty, kit_ty (r := true) (by decide +kernel), _, rfl, iteF ?_⟩
    refine ⟨_, rfl, g, _, rfl, .inr (SqT.of eg), 1, _, rfl, rfl, true, congrArg V.bl (decide_eq_true (by rw [rfs_len]; omega)), iteT ⟨_, 300, rfl, rfl, true, congrArg V.bl (decide_eq_true (by rw [rfs_len]; omega)), iteF ?_⟩⟩
    -- the size
    obtain ⟨u0, hu0⟩ : ∃ u0, gs[0]? = some u0 := ⟨gs[0], List.getElem?_eq_getElem (by omega)⟩
    have mu0 := List.mem_of_getElem? hu0
    obtain ⟨x0, i1', i2', i3', i4'⟩ := ig u0 mu0
    refine ⟨_, rfl, g, _, 0, .ref u0.1, rfl, rfl, SqT.of eg, atI_nat (j := 0) (by rw [rfs, List.getElem?_map, hu0]; rfl), u0.1, u0.2.2.1, x0, u0.2.2.2, rfl, i1', i3'.1, ?_⟩
    rw [i3'.2.1]
    intro d nd
    have sd := Same.put (o := .dT []) nd
    have st0 : DSt C W H (upd H d (.dT [])) d gs 0 [] := ⟨sd, upd_same, rfl, fun _ m => by cases m⟩
    generalize (upd H d (.dT [])) = H1 at st0 ⊢
    refine ⟨_, rfl, g, rfs gs, rfl, SqT.of (st0.1 _ _ eg), ?_⟩
    refine for_it (walk_enumT (K := K) (a := g) (xs := rfs gs)) (fun i σ H' => ∃ (v4 v5 : Option V) (es : List Ent), σ = [some (.ref x), some (.ref g), some (.int (n : Int)), some (.ref d), v4, v5, none] ∧ DSt C W H H' d gs i es) ⟨none, none, [], rfl, st0⟩ (fun i σ H' _ h => by obtain ⟨_, _, _, _, h⟩ := h; exact SqT.of (h.1 _ _ eg)) ?_ ?_
    · rintro i y σ H2 H3 hi ⟨v4, v5, es, rfl, st⟩ ⟨Tn, x1, x2, rfl, nT, rfl, hx1, hx2⟩
      cases (Option.some.inj hx1)
      obtain ⟨u, hu1, mu, rfl⟩ := rfs_at hx2
      have il := (List.getElem?_eq_some_iff.mp hu1).1
      have sT := Same.put (o := .tup [.int ((i : Nat) : Int), .ref u.1]) nT
      have eT : (upd H2 Tn (.tup [.int ((i : Nat) : Int), .ref u.1])) Tn = some (.tup [.int ((i : Nat) : Int), .ref u.1]) := upd_same
      have nkm : u.2.2.2 ∉ es.map (·.1) := by
        rw [st.keys, mps, List.map_take]
        exact notin_takeL ndm (show (gs.map fun t => t.2.2.2)[i]? = some u.2.2.2 by rw [List.getElem?_map, hu1]; rfl)
      have lk := st.len
      have nde : (es.map (·.1)).Nodup := by rw [st.keys, mps, List.map_take]; exact ndm.sublist (List.take_sublist _ _)
      obtain ⟨s02, ed2, qe, ie⟩ := st
      have s03 := s02.trans sT
      have ed3 := sT _ _ ed2
      have ie3 : ∀ e ∈ es, ∃ t, e.2.2 = [t] ∧ ShAt C W (upd H2 Tn (.tup [.int ((i : Nat) : Int), .ref u.1])) e.2.1 t := fun e m => let ⟨t, h1, h2⟩ := ie e m; ⟨t, h1, h2.same sT⟩
      generalize (upd H2 Tn (.tup [.int ((i : Nat) : Int), .ref u.1])) = H3 at s03 ed3 eT ie3 ⊢
      refine ⟨Tn, [.int ((i : Nat) : Int), .ref u.1], rfl, SqT.of eT, rfl, _, _, rfl, _, _, rfl, rfl, ?_⟩
      obtain ⟨xu, g1', g2', g3', g4'⟩ := (ig u mu).same s03
      refine ⟨_, rfl, _, rfl, n, u.1, u.2.2.1, xu, u.2.2.2, (u.2.1 : Int), (W : Int), rfl, n1, n8, g1', g2', by omega, by omega, ml u mu, wl, g3', fun H4 s4 => ⟨true, rfl, iteF ?_⟩⟩
      have e4 := s4 _ _ g1'
      have em4 := s4 _ _ g3'.1
      have ed4 := s4 _ _ ed3
      refine ⟨_, rfl, u.1, _, 1, _, rfl, rfl, SqT.of e4, i1, _, rfl, d, valV (kvX es) (kx u.2.2.2), rfl, .inr ⟨kvX es, kx u.2.2.2, u.2.2.1, .inl ed4, rfl, by rw [kx_V]; exact em4, rfl⟩, _, rfl, ?_⟩
      rw [kvX_some nde]
      refine iteFe (decide_eq_false nkm) ?_
      refine ⟨_, rfl, u.1, _, 0, _, rfl, rfl, SqT.of e4, at0, xu, _, _, rfl, g2'.same s4, fun a da H5 s5 ea => ?_⟩
      have e5 := s5 _ _ e4
      have em5 := s5 _ _ em4
      have ed5 := s5 _ _ ed4
      refine ⟨_, rfl, _, rfl, u.1, _, 1, _, rfl, rfl, SqT.of e5, i1, d, _, rfl, DPut.t (k := kx u.2.2.2) ed5 (by rw [kx_V]; exact em5) (by rw [kvX, List.length_map]; exact small_len (by omega)), ?_⟩
      refine ⟨_, _, es ++ [(u.2.2.2, (a, [u.2.1]))], rfl, Same.but (fun b o e => s5 _ _ (s4 _ _ (s03 _ _ e))) nd, by rw [upd_same, kvX_put nkm], ?_, fun e m => ?_⟩
      · rw [List.map_append, qe, take_more hu1, List.map_append]
        rfl
      · rcases List.mem_append.mp m with m | m
        · obtain ⟨t, h1, h2⟩ := ie3 e m
          exact ⟨t, h1, ((h2.same s4).same s5).dT ed5⟩
        · rw [List.mem_singleton.mp m]
          exact ⟨u.2.1, rfl, ShAt.dT ⟨da, ea⟩ ed5⟩
    · rintro σ H2 ⟨v4, v5, es, rfl, st⟩
      rw [rfs_len] at st
      have kE := st.keys
      have tE := st.tops
      rw [List.take_length] at kE tE
      have lE : es.length = gs.length := by have := congrArg List.length kE; rw [List.length_map, List.length_map] at this; exact this
      have nde : (es.map (·.1)).Nodup := by rw [kE]; exact ndm
      obtain ⟨s02, ed2, qe, ie⟩ := st
      rw [List.take_length] at qe
      refine ⟨_, rfl, d, kvX es, rfl, ed2, fun H3 l s3 nl el => ?_⟩
      have s3 : Same H2 H3 := s3
      have ie3 : ∀ e ∈ es, ∃ t, e.2.2 = [t] ∧ ShAt C W H3 e.2.1 t := fun e m => let ⟨t, h1, h2⟩ := ie e m; ⟨t, h1, h2.same s3⟩
      refine ⟨l, _, iW (topsOf gs), (W : Int), rfl, SqL.of el, ⟨?_, fun i v hv => ?_⟩, by omega, wl, ?_, fun S hS => ?_, fun a da H4 s4 e4 => ?_⟩
      · rw [List.length_map, kvX, List.length_map, lE, iW_len, List.length_map]
      · rw [kvX, List.map_map, List.getElem?_map] at hv
        cases he : es[i]? with
        | none => rw [he] at hv; cases hv
        | some e =>
          rw [he] at hv
          obtain rfl := (Option.some.inj hv).symm
          obtain ⟨t, h1, dy, h2⟩ := ie3 e (List.mem_of_getElem? he)
          refine ⟨(t : Int), ?_, .inr ⟨e.2.1, dy, rfl, h2⟩⟩
          rw [iW, List.getElem?_map, ← tE, List.getElem?_map, he]
          show some (((e.2.2.getD 0 0 : Nat)) : Int) = _
          rw [h1]
          rfl
      · rw [iW_len, List.length_map]
        omega
      · obtain ⟨t, mt, rfl⟩ := List.mem_map.mp hS
        obtain ⟨u, mu, rfl⟩ := List.mem_map.mp mt
        have := tW u mu
        exact Nat.lt_of_le_of_lt (show (u.2.1 : Int).natAbs ≤ 1000 by omega) (by decide +kernel)
      have hs : (iW (topsOf gs)).sum = (W : Int) := by rw [← sW]; exact sum_ints _
      rw [hs] at e4
      obtain ⟨l1, l2⟩ := low_self (d := (W : Int)) (by omega)
      obtain ⟨c1, _⟩ := cmp_fo (K := K) (C := C) (y := .int 1) (b := true) e4 (.int 1) (by rw [l1, l2]; rfl)
      refine q1 _ _ _ _ _ c1 ?_
      refine ⟨_, rfl, iteF ?_⟩
      have s34 := s3.trans s4
      have s04 := s02.trans s34
      have ed4 := s34 _ _ ed2
      have ie4 : ∀ e ∈ es, ∃ t, e.2.2 = [t] ∧ ShAt C W H4 e.2.1 t := fun e m => let ⟨t, h1, h2⟩ := ie3 e m; ⟨t, h1, h2.same s4⟩
      have ex4 := s04 _ _ ex
      -- the fields
      refine ⟨_, rfl, _, rfl, x, DC, dx, [], rfl, ex4, t.it.cl, t.nS, by show 0 < 1000; decide, ?_⟩
      have ed5 : (upd H4 x (.ins DC dx (putF "size" (.int (n : Int)) []))) d = some (.dT (kvX es)) := by rw [upd_ne (fun z => by rw [z, ex4] at ed4; cases ed4)]; exact ed4
      have ie5 : ∀ e ∈ es, ∃ t, e.2.2 = [t] ∧ ShAt C W (upd H4 x (.ins DC dx (putF "size" (.int (n : Int)) []))) e.2.1 t := fun e m => let ⟨t, h1, h2⟩ := ie4 e m; ⟨t, h1, h2.upx ex4 rfl⟩
      have ex5 : (upd H4 x (.ins DC dx (putF "size" (.int (n : Int)) []))) x = some (.ins DC dx (putF "size" (.int (n : Int)) [])) := upd_same
      have back : ∀ (H' : Hp), Same (upd H4 x (.ins DC dx (putF "size" (.int (n : Int)) []))) H' → Same H (upd H' x (.ins DC dx [])) := fun H' s b o e => by
        by_cases q : b = x
        · subst q
          rw [upd_same]
          rw [ex] at e
          exact e
        · rw [upd_ne q]
          exact s _ _ (by rw [upd_ne q]; exact s04 _ _ e)
      have free : ∀ p, (upd H4 x (.ins DC dx (putF "size" (.int (n : Int)) []))) p = none → p ≠ x := fun p np z => by rw [z, ex5] at np; cases np
      generalize (upd H4 x (.ins DC dx (putF "size" (.int (n : Int)) []))) = H5 at ed5 ie5 ex5 back free ⊢
      refine ⟨_, rfl, d, kvX es, es.map (fun e => iW e.1), rfl, .inl ed5, ?_, by rw [List.length_map]; omega, fun ns hn => ?_, fun ys p py srt ey np => ?_⟩
      · rw [kvX, List.map_map, List.map_map]
        refine List.map_congr_left fun e _ => ?_
        exact (kx_iW e.1).symm
      · obtain ⟨e, me, rfl⟩ := List.mem_map.mp hn
        have : e.1 ∈ mps gs := by rw [← kE]; exact List.mem_map_of_mem me
        obtain ⟨u, mu, hue⟩ := List.mem_map.mp this
        have im := (ig u mu)
        obtain ⟨_, _, _, im, _⟩ := im
        rw [← hue]
        exact ⟨by rw [iW_len, im.2.1], iW_bd n8 im.2⟩
      rw [show (es.map fun e => iW e.1) = (es.map (·.1)).map iW by rw [List.map_map]; rfl] at py
      obtain ⟨us, eus, pus⟩ := perm_map py
      have ey2 : ∀ (i : Nat) (y : Addr × List Int), ys[i]? = some y → ∃ m, us[i]? = some m ∧ y.2 = iW m := fun i y e => by
        have h : (ys.map (·.2))[i]? = (us.map iW)[i]? := by rw [eus]
        rw [List.getElem?_map, List.getElem?_map, e] at h
        cases hm : us[i]? with
        | none => rw [hm] at h; cases h
        | some m => rw [hm] at h; exact ⟨m, rfl, Option.some.inj h⟩
      have lus : us.length = ys.length := by have := congrArg List.length eus; rw [List.length_map, List.length_map] at this; exact this.symm
      have lu : us.length = es.length := by have := pus.length_eq; rw [List.length_map] at this; exact this
      have sp := Same.put (o := .lst (ys.map fun t => V.ref t.1)) np
      have ep : (upd H5 p (.lst (ys.map fun t => V.ref t.1))) p = some (.lst (ys.map fun t => V.ref t.1)) := upd_same
      refine ⟨p, rfl, ⟨_, SqL.of ep⟩, fun D nD => ?_⟩
      have ed6 := sp _ _ ed5
      have ey6 : ∀ t ∈ ys, (upd H5 p (.lst (ys.map fun t => V.ref t.1))) t.1 = some (.tup (t.2.map V.int)) := fun t m => sp _ _ (ey t m)
      have ie6 : ∀ e ∈ es, ∃ t, e.2.2 = [t] ∧ ShAt C W (upd H5 p (.lst (ys.map fun t => V.ref t.1))) e.2.1 t := fun e m => let ⟨t, h1, h2⟩ := ie5 e m; ⟨t, h1, h2.same sp⟩
      generalize (upd H5 p (.lst (ys.map fun t => V.ref t.1))) = H6 at sp ep nD ed6 ey6 ie6 ⊢
      refine lc_list (K := K) (a := p) (xs := ys.map fun t => V.ref t.1) (fun i H' => Same H6 H' ∧ ∃ ps : List Dp3, H' D = some (.lst (rfs ps)) ∧ mpD ps = us.take i ∧ (∀ q ∈ ps, DpAt n H' q) ∧ ∀ q ∈ ps, ∃ t, (t, q.2.2.2) ∈ (gs.map fun u => (u.2.1, u.2.2.2)) ∧ ShAt C W H' q.2.1 t) ⟨Same.put nD, [], upd_same, rfl, fun _ m => (by cases m), fun _ m => (by cases m)⟩ (fun i H' _ h => SqL.of (h.1 _ _ ep)) ?_ ?_
      · rintro i v H' hv ⟨s7, ps, eD, qm, ip, isx⟩
        rw [List.getElem?_map] at hv
        cases hy : ys[i]? with
        | none => rw [hy] at hv; cases hv
        | some y =>
        rw [hy] at hv
        obtain rfl := (Option.some.inj hv).symm
        have my := List.mem_of_getElem? hy
        obtain ⟨m, hm, hym⟩ := ey2 i y hy
        have mm : m ∈ es.map (·.1) := pus.mem_iff.mp (List.mem_of_getElem? hm)
        obtain ⟨e, me, rfl⟩ := List.mem_map.mp mm
        have ety : H' y.1 = some (.tup (cV e.1)) := by
          have := s7 _ _ (ey6 y my)
          rw [hym, iW, List.map_map] at this
          exact this
        obtain ⟨tt, ht1, hsh⟩ := ie6 e me
        have hsh := hsh.same s7
        have imap : IsMap n e.1 := by
          have : e.1 ∈ mps gs := by rw [← kE]; exact List.mem_map_of_mem me
          obtain ⟨u, mu, hue⟩ := List.mem_map.mp this
          obtain ⟨_, _, _, im, _⟩ := ig u mu
          rw [← hue]
          exact im.2
        have mgs : (tt, e.1) ∈ (gs.map fun u => (u.2.1, u.2.2.2)) := by
          have : (e.1, e.2.2) ∈ gs.map (fun u => (u.2.2.2, [u.2.1])) := by rw [← qe]; exact List.mem_map_of_mem me
          obtain ⟨u, mu, hue⟩ := List.mem_map.mp this
          refine List.mem_map.mpr ⟨u, mu, ?_⟩
          rw [ht1] at hue
          have h1 := (Prod.mk.inj hue).1
          have h2 := (Prod.mk.inj hue).2
          rw [h1, (List.cons.inj h2).1]
        refine ⟨rfl, yes_of ?_⟩
        refine ⟨_, rfl, _, rfl, d, .ref e.2.1, rfl, .inr ⟨kvX es, kx e.1, y.1, .inl (s7 _ _ ed6), rfl, by rw [kx_V]; exact ety, (kvX_at nde me).symm⟩, _, rfl, by show 2 ≤ sizeLine; decide, fun b nb => ?_⟩
        have sb := Same.put (o := .tup [.ref e.2.1, .ref y.1]) nb
        have lps : ps.length ≤ 64 := by
          have := congrArg List.length qm
          rw [List.length_map, List.length_take] at this
          omega
        have eD2 := sb _ _ eD
        refine ⟨rfs ps, eD2, by rw [rfs_len]; exact small_len (by omega), Same.but (fun b o e => sb _ _ (s7 _ _ e)) nD, ps ++ [(b, (e.2.1, (y.1, e.1)))], by rw [upd_same, rfs_snoc], ?_, fun q mq => ?_, fun q mq => ?_⟩
        · rw [mpD, List.map_append, take_more hm, ← qm]
          rfl
        · have up : DpAt n (upd H' b (.tup [.ref e.2.1, .ref y.1])) q := by
            rcases List.mem_append.mp mq with mq | mq
            · exact (ip q mq).same sb
            · rw [List.mem_singleton.mp mq]
              exact ⟨upd_same, sb _ _ ety, imap⟩
          exact ⟨by rw [upd_ne (fun z => by have := up.1; rw [z, eD2] at this; cases this)]; exact up.1, by rw [upd_ne (fun z => by have := up.2.1; rw [z, eD2] at this; cases this)]; exact up.2.1, up.2.2⟩
        · rcases List.mem_append.mp mq with mq | mq
          · obtain ⟨t, h1, h2⟩ := isx q mq
            exact ⟨t, h1, (h2.same sb).lstU eD2⟩
          · rw [List.mem_singleton.mp mq]
            exact ⟨tt, mgs, (hsh.same sb).lstU eD2⟩
      · rintro H7 ⟨s7, ps, eD, qm, ip, isx⟩
        rw [List.length_map, ← lus, List.take_length] at qm
        refine ⟨D, _, rfl, .inl ⟨SqL.of eD, fun pt npt => ?_⟩⟩
        have spt := Same.put (o := .tup (rfs ps)) npt
        have ept : (upd H7 pt (.tup (rfs ps))) pt = some (.tup (rfs ps)) := upd_same
        have s58 := (sp.trans s7).trans spt
        have ip8 : ∀ q ∈ ps, DpAt n (upd H7 pt (.tup (rfs ps))) q := fun q m => (ip q m).same spt
        have is8 : ∀ q ∈ ps, ∃ t, (t, q.2.2.2) ∈ (gs.map fun u => (u.2.1, u.2.2.2)) ∧ ShAt C W (upd H7 pt (.tup (rfs ps))) q.2.1 t := fun q m => let ⟨t, h1, h2⟩ := isx q m; ⟨t, h1, h2.same spt⟩
        generalize (upd H7 pt (.tup (rfs ps))) = H8 at spt ept s58 ip8 is8 ⊢
        have ex8 := s58 _ _ ex5
        refine ⟨_, rfl, x, DC, dx, _, rfl, ex8, t.it.cl, t.nP, by show 1 < 1000; decide, ?_⟩
        have ntu : ∀ {a : Addr} {zs : List V}, H8 a = some (.tup zs) → a ≠ x := fun e z => by rw [z, ex8] at e; cases e
        have kk := k pt ps (upd H8 x (.ins DC dx [])) (back H8 s58) ⟨by rw [upd_ne (ntu ept)]; exact ept, fun q m => ?_, fun q m => ?_, ?_, ?_⟩
        · rw [upd_upd] at kk
          exact kk
        · obtain ⟨h1, h2, h3⟩ := ip8 q m
          exact ⟨by rw [upd_ne (ntu h1)]; exact h1, by rw [upd_ne (ntu h2)]; exact h2, h3⟩
        · obtain ⟨t, h1, h2⟩ := is8 q m
          exact ⟨t, h1, h2.upx ex8 rfl⟩
        · rw [qm]
          have h : (ys.map (·.2)).Pairwise fun a b => TS.code 8 a ≤ TS.code 8 b := List.pairwise_map.mpr srt
          rw [eus] at h
          rw [List.pairwise_map] at h
          exact h
        · rw [qm, List.map_map]
          refine pus.trans ?_
          rw [kE]
          exact List.Perm.refl _
end
end KD
set_option Elab.async false
set_option linter.all false
set_option maxRecDepth 100000
set_option maxHeartbeats 4000000
namespace Dw
section
variable {σ : Type} [DecidableEq σ]
theorem ex1_mem {f : σ → Nat → σ} {x : σ} {w : List Nat} {L : List (σ × List Nat)} {a : Nat} {e : σ × List Nat} (m : e ∈ ex1 f x w L a) : e ∈ L ∨ e.2 = w ++ [a] := by
  unfold ex1 at m
  split at m
  · exact .inl m
  · rcases List.mem_append.mp m with m | m
    · exact .inl m
    · rw [List.mem_singleton.mp m]; exact .inr rfl
theorem exs_len {f : σ → Nat → σ} {x : σ} {w : List Nat} {L : List (σ × List Nat)} {N : Nat} (h : ∀ e ∈ L, e.2.length ≤ N + 1) (hw : w.length ≤ N) : ∀ k, ∀ e ∈ exs f k x w L, e.2.length ≤ N + 1
  | 0 => h
  | k + 1 => fun e m => by
    rw [exs_succ] at m
    rcases ex1_mem m with m | m
    · exact exs_len h hw k e m
    · rw [m, List.length_append]
      show w.length + 1 ≤ N + 1
      omega
/-- a word is no longer than the search -/
theorem go_len {f : σ → Nat → σ} {lone : σ → Bool} {k : Nat} : ∀ (n i : Nat) (L : List (σ × List Nat)) (w : List Nat), (∀ e ∈ L, e.2.length ≤ i) → go f lone k n i L = some w → w.length ≤ i + n
  | 0, _, _, _, _, h => by cases h
  | n + 1, i, L, w, hL, h => by
    unfold go at h
    cases e : L[i]? with
    | none => rw [e] at h; cases h
    | some u =>
      rw [e] at h
      dsimp only at h
      have mu := hL u (List.mem_of_getElem? e)
      by_cases l : lone u.1 = true
      · rw [if_pos l] at h
        cases h
        omega
      · rw [if_neg l] at h
        have := go_len n (i + 1) _ w (exs_len (N := i) (fun e m => by have := hL e m; omega) mu k) h
        omega
end
end Dw
namespace KD
open PySem L2
theorem goS_len {n : Nat} {wss : List (List Nat)} {w : List Nat} (n8 : n ≤ 8) (h : goS n wss = some w) : w.length ≤ 256 := by
  have := Dw.go_len _ 0 _ w (fun e m => by rw [List.mem_singleton.mp m]; exact Nat.le_refl _) h
  have p8 : 2 ^ n ≤ 2 ^ 8 := Nat.pow_le_pow_right (by decide) n8
  omega
theorem un64 {k : Nat} {A : Around} (r : Room k A) : A.units + 64 < cLine := by
  have := r.un
  omega
theorem sh_ints (ns : List Int) : SeqAt.shaped (.list (ns.map PyData.int)) = true := by
  obtain ⟨h1, h2⟩ := lay_ints ns
  unfold SeqAt.shaped
  rw [Bool.and_eq_true, decide_eq_true_eq]
  refine ⟨h1, ?_⟩
  show PyData.depthAll (ns.map PyData.int) + 1 ≤ 64
  omega
theorem dp_lints {K : PySem.W.Frag} {H : Hp} {a : Addr} {ws : List Nat} (h : H a = some (.lst (cV ws))) : Dp K H (.ref a) (.list ((iW ws).map PyData.int)) := by
  refine .lst (SqL.of h) ?_
  rw [cV_ints]
  exact dp_ints _
theorem eqv_lints (ws : List Nat) : PyData.eqv (.list ((iW ws).map PyData.int)) (.list ((iW ws).map PyData.int)) = true := by
  rw [PyData.eqv, eqvAll_ints]
  exact decide_eq_true rfl
theorem eqvAll_dIs : ∀ L : List (List Int), PyData.eqvAll (L.map dI) (L.map dI) = true
  | [] => rfl
  | a :: L => by
    show (PyData.eqv (dI a) (dI a) && PyData.eqvAll (L.map dI) (L.map dI)) = true
    rw [eqvAll_dIs L, eqv_dI, decide_eq_true rfl]
    rfl
theorem eqv_ldIs (L : List (List Int)) : PyData.eqv (.list (L.map dI)) (.list (L.map dI)) = true := by
  rw [PyData.eqv]
  exact eqvAll_dIs L
/-- Draw(parts) -/
structure MkD (P : Program) (w : World) (K : PySem.W.Frag) (mg : Str → Option Value) (base : Heap) (C DC : Addr) : Prop where
  ex : ∃ (f : Addr) (fd : FuncData), Mk K DC f ∧ FnOk P w K mg base CX0 12 f fd ["self", "parts"] (spDI C DC) ∧ Binds K fd ["self", "parts"] []
  gD : mg "Draw" = some (.ref DC)
section
variable {X : Cx} {C DC : Addr} {p pos : Pos} {e : Expr} {es : List Expr} {t : TA}
theorem pe_drw (m : MkD X.prog X.w X.K X.mg X.base C DC) (hr : Room 13 X.A) (hg : Gl X "Draw") (ha : PA X (e :: es) t)
    (he : starEach (e :: es) X.env = (false, eval e X.env) :: starEach es X.env := by rfl) (hpl : (backTo pos (starEach es X.env)).any (·.1) = false := by rfl) :
    PE X (.Call (.Name "Draw" p) (e :: es) [] pos) (tMake DC (spDI C DC) [] E0 t) := by
  obtain ⟨f, fd, M, F, b0⟩ := m.ex
  exact pe_make M F hr hg m.gD b0 .nil pass0 ha (by decide) he hpl
end
theorem DrMade.upx {C DC x dx : Addr} {n W : Nat} {H : Hp} {pt : Addr} {gs : List (Nat × List Nat)} {ps : List Dp3} {fs : List (Str × V)} {o : HO} (h : DrMade C n W H pt gs ps) (ex : H x = some (.ins DC dx fs)) (nf : fs.lookup ("top" : Str) = none) : DrMade C n W (upd H x o) pt gs ps := by
  have ntu : ∀ {a : Addr} {zs : List V}, H a = some (.tup zs) → a ≠ x := fun e z => by rw [z, ex] at e; cases e
  obtain ⟨h1, h2, h3, h4, h5⟩ := h
  refine ⟨by rw [upd_ne (ntu h1)]; exact h1, fun q m => ?_, fun q m => ?_, h4, h5⟩
  · obtain ⟨a1, a2, a3⟩ := h2 q m
    exact ⟨by rw [upd_ne (ntu a1)]; exact a1, by rw [upd_ne (ntu a2)]; exact a2, a3⟩
  · obtain ⟨t, a1, a2⟩ := h3 q m
    exact ⟨t, a1, a2.upx ex nf⟩
/-- a draw is made -/
theorem drw_go {C DC : Addr} {n W : Nat} {g : Addr} {gs : List Prt} {H : Hp} {Qv : VK} {E : XK} {x dx : Addr} (hx : H x = none) (hd : H dx = none) (ne : dx ≠ x) (n1 : 1 ≤ n) (n8 : n ≤ 8) (W1 : 1 ≤ W) (W9 : W ≤ 1000) (eg : H g = some (.tup (rfs gs))) (ig : ∀ u ∈ gs, GivAt C n W H u) (tW : ∀ u ∈ gs, u.2.1 ≤ W) (nd : (mps gs).Nodup) (sW : (topsOf gs).sum = W) (g1 : 1 ≤ gs.length) (g64 : gs.length < 64)
    (k : ∀ (pt : Addr) (ps : List Dp3) (H' : Hp), Same H H' → H' x = some (.ins DC dx (drF n pt)) → DrMade C n W H' pt (gs.map fun u => (u.2.1, u.2.2.2)) ps → Qv .non H') : spDI C DC [.ref x, .ref g] (upd (upd H dx (.own x)) x (.ins DC dx [])) Qv E := by
  have s1 : Same H (upd (upd H dx (.own x)) x (.ins DC dx [])) := (Same.put hd).trans (Same.put (by rw [upd_ne ne.symm]; exact hx))
  refine ⟨x, dx, g, n, W, gs, rfl, upd_same, n1, n8, W1, W9, s1 _ _ eg, fun u m => (ig u m).same s1, tW, nd, sW, g1, g64, fun pt ps H2 s2 dm => ?_⟩
  have ex := s2 _ _ (show (upd (upd H dx (.own x)) x (.ins DC dx [])) x = some (.ins DC dx []) from upd_same)
  refine k pt ps _ (fun b u e => ?_) upd_same (dm.upx ex rfl)
  rw [upd_ne (ne_of_none e hx)]
  exact s2 _ _ (s1 _ _ e)
theorem DrMade.isDraw {C DC x dx : Addr} {n W : Nat} {H : Hp} {pt : Addr} {gs : List (Nat × List Nat)} {ps : List Dp3} (h : DrMade C n W H pt gs ps) (ex : H x = some (.ins DC dx (drF n pt))) : IsDraw DC H x n ps := ⟨dx, pt, ex, h.1, h.2.1⟩
end KD
set_option Elab.async false
set_option linter.all false
set_option maxRecDepth 100000
set_option maxHeartbeats 4000000
namespace KD
open PySem L2
/-! ### the law, from the word on -/
structure LawT (P : Program) (w : World) (K : PySem.W.Frag) (mg : Str → Option Value) (base : Heap) (C DC : Addr) : Prop where
  T : Bm mg
  t : DrT K mg DC
  mD : MkD P w K mg base C DC
  pool : Cal P w K mg base 1 "_law_pool" ["_law_script"] (spPool K)
  draw : Cal P w K mg base 1 "_law_draw" ["_law_pool_here", "_law_many"] spDraw
  turn : Cal P w K mg base 2 "_law_turned_about" ["_law_pool_here", "_law_things"] spTurnAbout
  given : Cal P w K mg base 7 "_law_given" ["_law_pool_here", "_law_parts"] (spGiven C)
  gather : Cal P w K mg base 5 "_law_gather_parts" ["_law_pool_here", "_law_size"] spGather
  ring : Cal P w K mg base 3 "_law_ring" ["_law_pool_here", "_law_size"] spRing
  weighed : Cal P w K mg base 2 "_law_weighed" ["_law_pool_here", "_law_maps"] spWeighed
  word : Cal P w K mg base 2 "_law_word" ["_law_maps", "_law_size"] spWord
  gw : Cal P w K mg base 2 "gather_word" ["draw"] (spGW DC)
  stuck : Cal P w K mg base 3 "stuck" ["draw"] (spStuck DC)
  lint : Cal P w K mg base 1 "_law_is_integer" ["_law_thing"] (spWhole K C)
section
variable {P : Program} {w : World} {K : PySem.W.Frag} {mg : Str → Option Value} {base : Heap} {C B DC : Addr}
abbrev s_law : Stmt := top 57
abbrev nLw : List Str := ["_law_script", "_law_pool_here", "_law_size", "_law_parts", "_law_draw_here", "_law_maps", "_law_due", "_law_told", "_law_states", "_law_index", "_law_top", "_law_led", "_law_part", "_law_s"]
theorem sc_law : FnScope nLw ["_law_script"] (defScope s_law) := ⟨rfl, rfl, rfl, by decide +kernel, rfl, by decide +kernel, by decide +kernel⟩
abbrev XLw (P : Program) (w : World) (K : PySem.W.Frag) (mg : Str → Option Value) (base : Heap) (f : Addr) (cdv : Value) (A : Around) (outer : List Env) (s : Shared) (H : Hp) (E : XK) : Cx :=
  (cxOf CX0 P w K mg base nLw "law" (defScope s_law) f cdv A outer s H E).nox
theorem rep_flat (c : Nat) : ∀ n, (List.replicate n [V.int (c : Int)]).flatten = cV (List.replicate n c)
  | 0 => rfl
  | n + 1 => by rw [List.replicate_succ, List.flatten_cons, rep_flat c n]; rfl
/-- the states behind the word -/
theorem segLw11 {f : Addr} {cdv : Value} {A : Around} {outer : List Env} {s : Shared} {H : Hp} {E : XK} {Q : VK} (L : LawT P w K mg base C DC) (hr : Room 13 (XLw P w K mg base f cdv A outer s H E).A) (k : ∀ H', Q (.bl true) H') :
    ∃ u, PSs (XLw P w K mg base f cdv A outer s H E) ((defBody s_law).drop 11) u ∧ ∀ (v0 v1 v3 v6 : Option V) (x ml tl : Addr) (n : Nat) (ps : List Dp3) (ms : List (Addr × List Nat)) (w : List Nat) (G : Hp), 1 ≤ n → n ≤ 8 → IsDraw DC G x n ps → ps.length ≤ 4 → G ml = some (.lst (rfs ms)) → MapsIn n G ms → mpD ps = ms.map (·.2) → G tl = some (.tup (cV w)) → w.length ≤ 256 → goS n (mpD ps) = some w →
      u { nx := fun _ H' => Q .non H', rt := Q } [v0, v1, some (.int (n : Int)), v3, some (.ref x), some (.ref ml), v6, some (.ref tl), none, none, none, none, none, none] G := by
  have hu := hu_of hr
  have h64 := un64 hr
  refine ⟨_, (pss_cons (ps_set (i := 8) sc_law.nd rfl (Or.inl rfl) (pe_listRg rfl (by rfl) L.T.n_list (prg_1 (by rfl) L.T.n_range (pv 2))))
    (pss_cons (ps_for PassesOwn.never rfl (pi_tup (pv 7)) (pg_name (i := 9) sc_law.nd rfl (Or.inr rfl))
      (pss_one (ps_setLc (i := 8) (own := [("_law_s", 13)]) rfl sc_law.nd rfl rfl (sw_true rfl rfl rfl (by decide +kernel)) (pi_list (pv 8)) (blkOk_by (N := nLw) (sc := defScope s_law) (by decide +kernel)) (fun _ _ _ _ _ => (pg_name (i := 13) sc_law.nd rfl (Or.inl rfl))) (fun _ _ _ _ _ => pts_nil)
        (fun _ _ _ _ _ => (pe_ix (show IxR _ (rIxT K) from ix_tup) (pe_ix (show IxR _ (rIxL K) from ix_list) (pv 5) (pv 9) (fun _ _ => rfl)) (pv 13) (fun _ _ => rfl))))))
    (pss_one (ps_ret (pe_and (pe_cmpR (op_eqD (by exact h64)) (pv 8) (pe_op op_rep (pe_lst (pa_cons (pe_ix ix_list (pv 8) pe_int (fun _ _ => rfl)) pa_nil)) (pv 2)) (nomark _)) (pe_one (pe_cmpR (op_eqD (by exact h64)) (pe_cal L.stuck (hr.mono (by decide)) rfl (pa_cons (pv 4) pa_nil)) (pe_lst pa_nil) (nomark _)))))))), ?_⟩
  intro v0 v1 v3 v6 x ml tl n ps ms w G n1 n8 dr p4 eml imm qm etl w256 hg
  obtain ⟨wlt, wall, _⟩ := told_word n1 (wss := mpD ps) (fun ws m => by
    rw [qm] at m
    obtain ⟨t, mt, rfl⟩ := List.mem_map.mp m
    exact (imm t mt).2) hg
  have mlt : ∀ a s, a < ms.length → s < n → mA (mpD ps) a s < n := fun a s ha hs => mA_lt (fun ws m => by
    rw [qm] at m
    obtain ⟨t, mt, rfl⟩ := List.mem_map.mp m
    exact (imm t mt).2) a s (by rw [qm, List.length_map]; exact ha) hs
  have lps : ps.length = ms.length := by have := congrArg List.length qm; rw [List.length_map, List.length_map] at this; exact this
  have mw : ∀ ws ∈ mpD ps, IsMap n ws := fun ws m => by
    rw [qm] at m
    obtain ⟨t, mt, rfl⟩ := List.mem_map.mp m
    exact (imm t mt).2
  refine ⟨_, rfl, (n : Int), rfl, RgOk.of_le (by omega) (by omega) (by omega) (by omega), fun l0 nl0 => ?_⟩
  rw [rg_cV]
  have s1 := Same.put (o := .lst (cV (List.range n))) nl0
  have e1 : (upd G l0 (.lst (cV (List.range n)))) l0 = some (.lst (cV (List.range n))) := upd_same
  generalize (upd G l0 (.lst (cV (List.range n)))) = G1 at s1 e1 ⊢
  refine ⟨_, rfl, tl, rfl, ⟨_, SqT.of (s1 _ _ etl)⟩, ?_⟩
  have rlt : ∀ j, ∀ s, s < n → Dw.runS (mA (mpD ps)) (w.take j) s < n := fun j => by
    induction j with
    | zero => exact fun s hs => hs
    | succ j ih =>
      intro s hs
      cases hj : w[j]? with
      | none => 
        have : w.length ≤ j := List.getElem?_eq_none_iff.mp hj
        rw [List.take_of_length_le (by omega)]
        have := ih s hs
        rw [List.take_of_length_le (by omega)] at this
        exact this
      | some a =>
        rw [take_more hj]
        show List.foldl _ s (_ ++ [a]) < n
        rw [List.foldl_append]
        exact mlt a _ (by rw [← lps]; have := wlt a (List.mem_of_getElem? hj); rw [List.length_map] at this; exact this) (ih s hs)
  refine for_it (walk_tup (K := K) (a := tl) (xs := cV w)) (fun j σ H' => ∃ (v9 v13 : Option V) (l : Addr), σ = [v0, v1, some (.int (n : Int)), v3, some (.ref x), some (.ref ml), v6, some (.ref tl), some (.ref l), v9, none, none, none, v13] ∧ Same G H' ∧ H' l = some (.lst (cV ((List.range n).map (Dw.runS (mA (mpD ps)) (w.take j))))))
    ⟨none, none, l0, rfl, s1, by rw [e1]; simp [Dw.runS]⟩ (fun j σ H' _ h => by obtain ⟨_, _, _, _, h, _⟩ := h; exact SqT.of (h _ _ etl)) ?_ ?_
  · rintro j y σ H2' H2 hj ⟨v9, v13, l, rfl, s2, el⟩ ⟨rfl, hy⟩
    obtain ⟨a, ha, rfl⟩ := cV_of hy
    have al : a < ms.length := by rw [← lps]; have := wlt a (List.mem_of_getElem? ha); rw [List.length_map] at this; exact this
    refine ⟨_, rfl, l, rfl, ⟨_, SqL.of el⟩, fun D nD => ?_⟩
    refine lc_list (K := K) (a := l) (xs := cV ((List.range n).map (Dw.runS (mA (mpD ps)) (w.take j)))) (fun i H' => Same H2 H' ∧ H' D = some (.lst (cV ((List.range i).map (Dw.runS (mA (mpD ps)) (w.take (j + 1))))))) ⟨Same.put nD, upd_same⟩ (fun i H' _ h => SqL.of (h.1 _ _ el)) ?_ ?_
    · rintro i y H' hy ⟨s3, eD⟩
      obtain ⟨b, hb, rfl⟩ := cV_of hy
      have il := (List.getElem?_eq_some_iff.mp hb).1
      rw [List.length_map, List.length_range] at il
      rw [List.getElem?_map, List.getElem?_range il] at hb
      obtain rfl := (Option.some.inj hb)
      have bl := rlt j i il
      have gm : ms[a]? = some ms[a] := List.getElem?_eq_getElem al
      have imA := imm _ (List.mem_of_getElem? gm)
      have gb : ∀ z, z < n → (ms[a]).2[z]? = some (mA (mpD ps) a z) := fun z hz => by
        have lb : z < (ms[a]).2.length := by rw [imA.2.1]; exact hz
        rw [List.getElem?_eq_getElem lb]
        show _ = some ((((mpD ps).getD a []).getD z 0))
        have g2 : (mpD ps).getD a [] = (ms[a]).2 := by
          rw [qm, List.getD, List.getElem?_map, gm]
          rfl
        rw [g2]
        rw [List.getD, List.getElem?_eq_getElem lb]
        rfl
      refine ⟨rfl, yes_of ?_⟩
      refine ⟨_, rfl, _, rfl, ml, rfs ms, (a : Int), .ref (ms[a]).1, rfl, rfl, SqL.of (s3 _ _ (s2 _ _ eml)), atI_nat (by rw [rfs, List.getElem?_map, gm]; rfl), ?_⟩
      refine ⟨_, rfl, (ms[a]).1, cV (ms[a]).2, _, _, rfl, rfl, SqT.of (s3 _ _ (s2 _ _ imA.1)), atI_nat (cV_at (gb _ bl)), ?_⟩
      refine ⟨_, eD, by rw [List.length_map, List.length_map, List.length_range]; exact small_len (by omega), Same.but s3 nD, ?_⟩
      rw [upd_same, cV_snoc, List.range_succ, List.map_append, take_more ha]
      show some (HO.lst (cV (_ ++ [_]))) = some (HO.lst (cV (_ ++ [List.foldl _ i (_ ++ [a])])))
      rw [List.foldl_append]
      rfl
    · rintro H3 ⟨s3, eD⟩
      rw [List.length_map, List.length_map, List.length_range] at eD
      exact ⟨_, _, D, rfl, s2.trans s3, eD⟩
  · rintro σ H2 ⟨v9, v13, l, rfl, s2, el⟩
    rw [List.length_map, List.take_length] at el
    have same : (List.range n).map (Dw.runS (mA (mpD ps)) w) = List.replicate n (Dw.runS (mA (mpD ps)) w 0) := by
      refine List.eq_replicate_iff.mpr ⟨by rw [List.length_map, List.length_range], fun y m => ?_⟩
      obtain ⟨s, ms, rfl⟩ := List.mem_map.mp m
      exact wall s 0 (List.mem_range.mp ms) (by omega)
    rw [same] at el
    generalize Dw.runS (mA (mpD ps)) w 0 = c at el
    have g0 : (List.replicate n c)[0]? = some c := by rw [List.getElem?_replicate, if_pos (by omega)]
    refine ⟨_, rfl, _, rfl, l, cV (List.replicate n c), 0, _, rfl, rfl, SqL.of el, atI_nat (cV_at g0), ?_⟩
    refine ⟨by show 1 ≤ sizeLine; decide, fun p np => ?_⟩
    have sp := Same.put (o := .lst [.int (c : Int)]) np
    have ep : (upd H2 p (.lst [.int (c : Int)])) p = some (.lst [.int (c : Int)]) := upd_same
    have el3 := sp _ _ el
    have s3 := s2.trans sp
    show tVar 2 _ (upd H2 p (.lst [.int (c : Int)])) _
    generalize (upd H2 p (.lst [.int (c : Int)])) = H3 at ep el3 s3 ⊢
    refine ⟨_, rfl, p, (n : Int), _, rfl, rfl, ep, by omega, by omega, ?_, fun q nq => ?_⟩
    · rw [Int.toNat_natCast]
      show 1 * n ≤ sizeLine
      exact Nat.le_of_lt (small_len (by omega))
    have sq := Same.put (o := .lst (List.replicate (n : Int).toNat [V.int (c : Int)]).flatten) nq
    have eq : (upd H3 q (.lst (List.replicate (n : Int).toNat [V.int (c : Int)]).flatten)) q = some (.lst (cV (List.replicate n c))) := by
      rw [upd_same, Int.toNat_natCast]
      exact congrArg (fun z => some (HO.lst z)) (rep_flat c n)
    have el4 := sq _ _ el3
    have s4 := s3.trans sq
    refine ⟨_, _, dp_lints el4, dp_lints eq, sh_ints _, sh_ints _, true, congrArg V.bl (eqv_lints _), iteT ?_⟩
    refine ⟨_, rfl, x, n, ps, rfl, n1, n8, p4, dr.same s4, fun r us S H5 s5 er pu hS qu => ?_⟩
    rw [stuck_nil n1 mw hg (by rw [List.length_map]; exact hS)] at qu
    obtain rfl : us = [] := List.map_eq_nil_iff.mp qu
    refine ⟨by show 0 ≤ sizeLine; decide, fun z nz => ?_⟩
    have sz := Same.put (o := .lst []) nz
    refine ⟨_, _, .lst (SqL.of (sz _ _ er)) .nil, .lst (SqL.of upd_same) .nil, rfl, rfl, k _⟩
end
end KD
set_option Elab.async false
set_option linter.all false
set_option maxRecDepth 100000
set_option maxHeartbeats 4000000
namespace KD
open PySem L2
section
variable {P : Program} {w : World} {K : PySem.W.Frag} {mg : Str → Option Value} {base : Heap} {C B DC : Addr}
/-- from the word on -/
theorem segLw7 {f : Addr} {cdv : Value} {A : Around} {outer : List Env} {s : Shared} {H : Hp} {E : XK} {Q : VK} (L : LawT P w K mg base C DC) (hr : Room 13 (XLw P w K mg base f cdv A outer s H E).A) (k : ∀ H', Q (.bl true) H') :
    ∃ u, PSs (XLw P w K mg base f cdv A outer s H E) ((defBody s_law).drop 7) u ∧ ∀ (v0 v1 v3 : Option V) (x ml : Addr) (n : Nat) (ps : List Dp3) (ms : List (Addr × List Nat)) (G : Hp), 1 ≤ n → n ≤ 8 → IsDraw DC G x n ps → ps.length ≤ 4 → G ml = some (.lst (rfs ms)) → MapsIn n G ms → mpD ps = ms.map (·.2) →
      u { nx := fun _ H' => Q .non H', rt := Q } [v0, v1, some (.int (n : Int)), v3, some (.ref x), some (.ref ml), none, none, none, none, none, none, none, none] G := by
  have h64 := un64 hr
  obtain ⟨u, hu, qu⟩ := segLw11 (f := f) (cdv := cdv) (A := A) (outer := outer) (s := s) (H := H) (E := E) L hr k
  refine ⟨_, (pss_cons (ps_set (i := 6) sc_law.nd rfl (Or.inl rfl) (pe_cal L.word (hr.mono (by decide)) rfl (pa_cons (pv 5) (pa_cons (pv 2) pa_nil))))
    (pss_cons (ps_set (i := 7) sc_law.nd rfl (Or.inl rfl) (pe_cal L.gw (hr.mono (by decide)) rfl (pa_cons (pv 4) pa_nil)))
    (pss_cons (ps_if (pt_cmpR op_isN (pv 6) pe_non (nomark _))
      (pss_one (ps_ret (pe_and (pe_cmpR op_isN (pv 7) pe_non (nomark _)) (pe_one (pe_cmpR op_gt (pe_callB call_len_seq (by rfl) L.T.b.n_len PySem.boot_len (pa_cons (pe_cal L.stuck (hr.mono (by decide)) rfl (pa_cons (pv 4) pa_nil)) pa_nil)) pe_int (nomark _))))))
      pss_nil)
    (pss_cons (ps_if (PW.pt (pw_or (pt_not (pt_val (pe_callB call_isi (by rfl) L.T.b.n_isinstance (by decide +kernel) (pa_cons (pv 7) (pa_cons (pe_bltn (v := .ty "tuple") rfl L.T.n_tuple (by decide +kernel) rfl) pa_nil))))) (pw_or (pt_not (pt_val (pe_callB (cr_all rfl) (by rfl) L.T.n_all PyProof.Rows.boot_all (pa_cons (pe_lc (own := [("_law_index", 9)]) rfl sc_law.nd (pi_tup (pv 7)) (blkOk_by (N := nLw) (sc := defScope s_law) (by decide +kernel)) (fun _ _ _ _ _ => (pg_name (i := 9) sc_law.nd rfl (Or.inl rfl))) (fun _ _ _ _ _ => pts_nil) (fun _ _ _ _ _ => (pe_cal L.lint (hr.mono (by decide)) rfl (pa_cons (pv 9) pa_nil)))) pa_nil)))) (pw_or1 (pt_cmpR (op_neD (by exact h64)) (pv 7) (pv 6) (nomark _))))))
      (pss_one (ps_ret pe_bl))
      pss_nil) hu)))), ?_⟩
  intro v0 v1 v3 x ml n ps ms G n1 n8 dr p4 eml imm qm
  have lps : ps.length = ms.length := by have := congrArg List.length qm; rw [List.length_map, List.length_map] at this; exact this
  have mw : ∀ ws ∈ mpD ps, IsMap n ws := fun ws m => by
    rw [qm] at m
    obtain ⟨t, mt, rfl⟩ := List.mem_map.mp m
    exact (imm t mt).2
  refine ⟨_, rfl, _, rfl, ml, n, ms, rfl, n1, n8, eml, imm, by omega, fun r1 H1 s1 w1 => ?_⟩
  rw [← qm, goMS n1 n8 mw] at w1
  refine ⟨_, rfl, x, n, ps, rfl, n1, n8, p4, dr.same s1, fun r2 H2 s2 w2 => ?_⟩
  have s12 := s1.trans s2
  cases hg : goS n (mpD ps) with
  | none =>
    rw [hg] at w1 w2
    obtain rfl : r1 = .non := w1
    obtain rfl : r2 = .non := w2
    refine ⟨_, rfl, rfl, _, rfl, iteTe (decide_eq_true rfl) ?_⟩
    refine ⟨_, rfl, rfl, _, rfl, iteTe (decide_eq_true rfl) ?_⟩
    refine ⟨_, rfl, x, n, ps, rfl, n1, n8, p4, dr.same s12, fun r us S H3 s3 er pu hS qu => ?_⟩
    have ne := stuck_some n1 mw hg (by rw [List.length_map]; exact hS)
    rw [← qu, List.length_map] at ne
    refine ⟨r, _, rfl, .inl (SqL.of er), _, _, rfl, rfl, ?_⟩
    have e : decide ((0 : Int) < ((rfs us).length : Int)) = true := decide_eq_true (by rw [rfs_len]; omega)
    show Q (.bl (decide (((rfs us).length : Int) > 0))) H3
    rw [show decide (((rfs us).length : Int) > 0) = true from e]
    exact k H3
  | some w =>
    rw [hg] at w1 w2
    obtain ⟨t1, rfl, e1⟩ := w1
    obtain ⟨t2, rfl, e2⟩ := w2
    have w256 := goS_len n8 hg
    refine ⟨_, rfl, rfl, _, rfl, iteFe (decide_eq_false fun z => by cases z) ?_⟩
    refine ⟨_, rfl, .ref t2, .ty "tuple", _, _, true, rfl, .ty _, (Fo.tup e2).ty, kit_ty (r := true) (by decide +kernel), _, rfl, iteF ?_⟩
    refine ⟨_, rfl, t2, rfl, ⟨_, SqT.of e2⟩, fun D nD => ?_⟩
    refine lc_tup (K := K) (a := t2) (xs := cV w) (fun i H' => Same H2 H' ∧ H' D = some (.lst ((List.replicate i true).map V.bl))) ⟨Same.put nD, upd_same⟩ (fun i H' _ h => SqT.of (h.1 _ _ e2)) ?_ ?_
    · rintro i y H' hy ⟨s3, eD⟩
      obtain ⟨z, hz, rfl⟩ := cV_of hy
      have il := (List.getElem?_eq_some_iff.mp hz).1
      refine ⟨rfl, yes_of ?_⟩
      refine ⟨_, rfl, _, rfl, .fo (.int _), ?_⟩
      refine ⟨_, eD, by rw [List.length_map, List.length_replicate]; exact small_len (by omega), Same.but s3 nD, ?_⟩
      rw [upd_same]
      exact congrArg (fun z => some (HO.lst z)) refs_rep
    · rintro H3 ⟨s3, eD⟩
      refine ⟨D, _, rfl, SqL.of eD, ?_⟩
      rw [all_true]
      refine ⟨true, rfl, iteF ?_⟩
      have s13 := s12.trans s3
      refine ⟨_, rfl, _, rfl, _, _, dp_tupN (SqT.of (s3 _ _ e2)), dp_tupN (SqT.of (s3 _ _ (s2 _ _ e1))), sh_dI _, sh_dI _, _, rfl, ?_⟩
      rw [eqv_dI, decide_eq_true rfl]
      refine iteF ?_
      exact qu v0 v1 v3 _ x ml t2 n ps ms w H3 n1 n8 (dr.same s13) p4 (s13 _ _ eml) (imm.same s13) qm (s3 _ _ e2) w256 hg
end
end KD
set_option Elab.async false
set_option linter.all false
set_option maxRecDepth 100000
set_option maxHeartbeats 4000000
namespace KD
open PySem L2
def spLaw (K : PySem.W.Frag) : Sp := fun vs H Q _ => ∃ (a : Addr) (ns : List Int), vs = [.ref a] ∧ SqL K H a (ns.map V.int) ∧ ns.length ≤ 63 ∧ ∀ H', Q (.bl true) H'
/-- sorted(xs), xs a list of tuples of one length, whatever it is -/
theorem cr_sortTE {X : Cx} : CallR X (.builtin "sorted") (fun xs H Q => ∃ d, 1 ≤ d ∧ rSortU X.K d 8 xs H Q) := fun pins s σ H xs us Q I r ⟨_, hd, h⟩ => cr_sortT hd pins s σ H xs us Q I r h
theorem iW_V (ws : List Nat) : (iW ws).map V.int = cV ws := (cV_ints ws).symm
section
variable {P : Program} {w : World} {K : PySem.W.Frag} {mg : Str → Option Value} {base : Heap} {C B DC : Addr}
/-- from the draw on -/
theorem segLw4 {f : Addr} {cdv : Value} {A : Around} {outer : List Env} {s : Shared} {H : Hp} {E : XK} {Q : VK} (L : LawT P w K mg base C DC) (hr : Room 13 (XLw P w K mg base f cdv A outer s H E).A) (k : ∀ H', Q (.bl true) H') :
    ∃ u, PSs (XLw P w K mg base f cdv A outer s H E) ((defBody s_law).drop 4) u ∧ ∀ (v0 : Option V) (a l : Addr) (n : Nat) (ts : List Prt) (G : Hp), 1 ≤ n → n ≤ 8 → PoolAt G a → l ≠ a → G l = some (.lst (rfs ts)) → PrtsIn n G ts → (mps ts).Nodup → 1 ≤ ts.length → ts.length ≤ 4 →
      u { nx := fun _ H' => Q .non H', rt := Q } [v0, some (.ref a), some (.int (n : Int)), some (.ref l), none, none, none, none, none, none, none, none, none, none] G := by
  have h64 := un64 hr
  obtain ⟨u, hu, qu⟩ := segLw7 (f := f) (cdv := cdv) (A := A) (outer := outer) (s := s) (H := H) (E := E) L hr k
  refine ⟨_, (pss_cons (ps_set (i := 4) sc_law.nd rfl (Or.inl rfl) (pe_drw L.mD hr rfl (pa_cons (pe_cal L.given (hr.mono (by decide)) rfl (pa_cons (pv 1) (pa_cons (pe_cal L.turn (hr.mono (by decide)) rfl (pa_cons (pv 1) (pa_cons (pv 3) pa_nil))) pa_nil))) pa_nil)))
    (pss_cons (ps_set (i := 5) sc_law.nd rfl (Or.inr rfl) (pe_callB cr_sortTE (by rfl) L.T.n_sorted PyProof.Rows.boot_sorted (pa_cons (pe_lc (own := [("_law_top", 10), ("_law_led", 11)]) (g := gTup K 2 (gCons (gName 10) (gCons (gName 11) gNil))) rfl sc_law.nd (pi_list (pv 3)) (blkOk_by (N := nLw) (sc := defScope s_law) (by decide +kernel)) (fun _ _ _ _ _ => (pg_tup (by rfl) (pgs_cons (pg_name (i := 10) sc_law.nd rfl (Or.inl rfl)) (pgs_cons (pg_name (i := 11) sc_law.nd rfl (Or.inl rfl)) pgs_nil)))) (fun _ _ _ _ _ => pts_nil) (fun _ _ _ _ _ => (pv 11))) pa_nil)))
    (pss_cons (ps_if (pt_cmpR (op_neD (by exact h64)) (pe_lc (own := [("_law_part", 12)]) rfl sc_law.nd (pi_tup (pe_fld (pv 4) rfl)) (blkOk_by (N := nLw) (sc := defScope s_law) (by decide +kernel)) (fun _ _ _ _ _ => (pg_name (i := 12) sc_law.nd rfl (Or.inl rfl))) (fun _ _ _ _ _ => pts_nil) (fun _ _ _ _ _ => (pe_ix (show IxR _ (rIxT K) from ix_tup) (pv 12) pe_int (fun _ _ => rfl)))) (pv 5) (nomark _))
      (pss_one (ps_ret pe_bl))
      pss_nil) hu))), ?_⟩
  intro v0 a l n ts G n1 n8 hp la el pi nd t1 t4
  refine ⟨_, rfl, _, rfl, _, rfl, a, l, _, rfl, hp, by rw [rfs_len]; omega, el, fun r ys H1 k1 p1 ra nr er pm => ?_⟩
  obtain ⟨us, rfl, pu⟩ := perm_map pm
  have el1 := k1 _ _ el la
  have pi1 := pi.keep k1 hp
  have piU : PrtsIn n H1 us := fun t m => pi1 t (pu.mem_iff.mp m)
  have lu := pu.length_eq
  refine ⟨a, r, n, us, rfl, p1, ra, er, piU, by omega, by omega, fun g gs H2 k2 p2 eg qg ig => ?_⟩
  have el2 := k2 _ _ el1 la
  have pi2 := pi1.keep k2 p1
  obtain ⟨tl, tle⟩ := tops_le piU
  have mpq : mps gs = mps us := by
    have := congrArg (List.map fun q : Nat × (Addr × List Nat) => q.2.2) qg
    rw [List.map_map, List.map_map] at this
    exact this
  have tpq : topsOf gs = topsOf us := by
    have := congrArg (List.map fun q : Nat × (Addr × List Nat) => q.1) qg
    rw [List.map_map, List.map_map] at this
    exact this
  have lg : gs.length = us.length := by have := congrArg List.length qg; rw [List.length_map, List.length_map] at this; exact this
  have W1 : 1 ≤ (topsOf us).sum := by
    have m0 : us[0]? = some (us[0]'(by omega)) := List.getElem?_eq_getElem _
    have mm := List.mem_of_getElem? m0
    have := tle _ mm
    have := (piU _ mm).2.2.1
    omega
  have tgs : ∀ u ∈ gs, u.2.1 ≤ (topsOf us).sum := fun u mu => by
    have : u.2.1 ∈ topsOf us := by rw [← tpq]; exact List.mem_map_of_mem (f := fun t : Prt => t.2.1) mu
    obtain ⟨v, mv, e⟩ := List.mem_map.mp this
    rw [← e]
    exact tle v mv
  have pmu : (mps us).Perm (mps ts) := pu.map _
  have ndg : (mps gs).Nodup := by rw [mpq]; exact pmu.nodup_iff.mpr nd
  intro x dx hx hd ne
  refine drw_go hx hd ne n1 n8 W1 (by omega) eg ig tgs ndg (by rw [tpq]) (by omega) (by omega) fun pt ps H3 s3 ex dm => ⟨rfl, ?_⟩
  have dr := dm.isDraw ex
  have el3 := s3 _ _ el2
  have pi3 := pi2.same s3
  obtain ⟨ept, ips, _, srt, prm⟩ := dm
  rw [show (gs.map fun u => (u.2.1, u.2.2.2)).map (·.2) = mps gs by rw [List.map_map]; rfl, mpq] at prm
  have lps : ps.length ≤ 4 := by have := prm.length_eq; rw [List.length_map, List.length_map] at this; omega
  -- the maps, sorted
  refine ⟨_, rfl, l, rfl, ⟨_, SqL.of el3⟩, fun D nD => ?_⟩
  refine lc_list (K := K) (a := l) (xs := rfs ts) (fun i H' => Same H3 H' ∧ H' D = some (.lst (rfs (mpA (ts.take i))))) ⟨Same.put nD, upd_same⟩ (fun i H' _ h => SqL.of (h.1 _ _ el3)) ?_ ?_
  · rintro i y H' hy ⟨s4, eD⟩
    obtain ⟨t, ht, mt, rfl⟩ := rfs_at hy
    have il := (List.getElem?_eq_some_iff.mp ht).1
    refine ⟨t.1, _, rfl, SqT.of (s4 _ _ (pi3 t mt).1), rfl, _, _, rfl, _, _, rfl, rfl, rfl, yes_of ?_⟩
    refine ⟨_, rfl, _, eD, by rw [rfs_len, List.length_map, List.length_take]; exact small_len (by omega), Same.but s4 nD, ?_⟩
    rw [upd_same, take_more ht, show mpA (ts.take i ++ [t]) = mpA (ts.take i) ++ [t.2.2] from List.map_append]
    exact congrArg (fun z => some (HO.lst z)) rfs_snoc.symm
  · rintro H4 ⟨s4, eD⟩
    rw [rfs_len, List.take_length] at eD
    have pi4 := pi3.same s4
    have im4 : MapsIn n H4 (mpA ts) := fun q m => by
      obtain ⟨t, mt, rfl⟩ := List.mem_map.mp m
      exact (pi4 t mt).2.1
    refine ⟨n, n1, D, _, rfl, SqL.of eD, by rw [rfs_len, List.length_map]; omega, fun y m => ?_, fun zs p pz pw np => ?_⟩
    · obtain ⟨q, mq, rfl⟩ := List.mem_map.mp m
      have h := im4 q mq
      exact ⟨iW q.2, ⟨q.1, rfl, by rw [iW_V]; exact SqT.of h.1⟩, by rw [iW_len, h.2.1], iW_bd n8 h.2⟩
    · obtain ⟨ms, rfl, pms⟩ := perm_map pz
      have imm : MapsIn n H4 ms := fun q m => im4 q (pms.mem_iff.mp m)
      have srt2 : (ms.map (·.2)).Pairwise cle := by
        rw [List.pairwise_map] at pw ⊢
        refine List.Pairwise.imp_of_mem (fun {q r} hq hr h => ?_) pw
        exact h (iW q.2) (iW r.2) ⟨q.1, rfl, by rw [iW_V]; exact SqT.of (imm q hq).1⟩ ⟨r.1, rfl, by rw [iW_V]; exact SqT.of (imm r hr).1⟩
      have prm2 : (ms.map (·.2)).Perm (mps ts) := by
        have := pms.map (fun q : Addr × List Nat => q.2)
        rw [List.map_map] at this
        exact this
      have qm : mpD ps = ms.map (·.2) := by
        refine cle_uniq n8 (fun y my => ?_) srt srt2 ((prm.trans pmu).trans prm2.symm)
        obtain ⟨q, mq, rfl⟩ := List.mem_map.mp my
        exact (ips q mq).2.2
      have sp := Same.put (o := .lst (rfs ms)) np
      have ep : (upd H4 p (.lst (rfs ms))) p = some (.lst (rfs ms)) := upd_same
      have s35 := s4.trans sp
      have imm5 := imm.same sp
      show tSeq _ _ _ _ (upd H4 p (.lst (rfs ms)))
      generalize (upd H4 p (.lst (rfs ms))) = H5 at ep s35 imm5 ⊢
      have ept5 := s35 _ _ ept
      have ips5 : ∀ q ∈ ps, DpAt n H5 q := fun q m => (ips q m).same s35
      refine ⟨_, rfl, x, DC, dx, _, _, rfl, s35 _ _ ex, L.t.it.cl, L.t.nP, drF_parts _ _, pt, rfl, ⟨_, SqT.of ept5⟩, fun D2 nD2 => ?_⟩
      refine lc_tup (K := K) (a := pt) (xs := rfs ps) (fun i H' => Same H5 H' ∧ H' D2 = some (.lst (rfs ((ps.take i).map fun q => q.2.2)))) ⟨Same.put nD2, upd_same⟩ (fun i H' _ h => SqT.of (h.1 _ _ ept5)) ?_ ?_
      · rintro i y H' hy ⟨s6, eD2⟩
        obtain ⟨q, hq, mq, rfl⟩ := rfs_at hy
        have il := (List.getElem?_eq_some_iff.mp hq).1
        refine ⟨rfl, yes_of ?_⟩
        refine ⟨_, rfl, q.1, [.ref q.2.1, .ref q.2.2.1], 1, _, rfl, rfl, SqT.of (s6 _ _ (ips5 q mq).1), i1, ?_⟩
        refine ⟨_, eD2, by rw [rfs_len, List.length_map, List.length_take]; exact small_len (by omega), Same.but s6 nD2, ?_⟩
        rw [upd_same, take_more hq, List.map_append]
        exact congrArg (fun z => some (HO.lst z)) rfs_snoc.symm
      · rintro H6 ⟨s6, eD2⟩
        rw [rfs_len, List.take_length] at eD2
        have ips6 : ∀ q ∈ ps.map (fun q => q.2.2), H6 q.1 = some (.tup (cV q.2)) := fun q m => by
          obtain ⟨t, mt, rfl⟩ := List.mem_map.mp m
          exact s6 _ _ (ips5 t mt).2.1
        have imm6 := imm5.same s6
        refine ⟨_, rfl, _, _, .lst (SqL.of eD2) (Tups.dp ips6), .lst (SqL.of (s6 _ _ ep)) (Tups.dp fun q m => (imm6 q m).1), sh_list _, sh_list _, _, rfl, ?_⟩
        rw [show ((ps.map fun q => q.2.2).map (·.2)) = ms.map (·.2) by rw [List.map_map]; exact qm, eqv_ldIs]
        refine iteF ?_
        exact qu v0 _ _ x p n ps ms H6 n1 n8 (dr.same (s35.trans s6)) lps (s6 _ _ ep) imm6 qm
theorem ok_law {f : Addr} {fd : FuncData} (F : Fun K "law" "law" s_law f fd) (L : LawT P w K mg base C DC) : FnOk P w K mg base CX0 14 f fd ["_law_script"] (spLaw K) := by
  refine F.ok sc_law (fun vs H Q E h => ?_) (fun cdv A outer s H vs Q E hr h => ?_)
  · obtain ⟨a, ns, rfl, _⟩ := h
    rfl
  · obtain ⟨a, ns, rfl, ha, hl, k⟩ := h
    obtain ⟨u, hu, qu⟩ := segLw4 (f := f) (cdv := cdv) (A := A) (outer := outer) (s := s) (H := H) (E := E) L hr k
    refine ⟨_, (pss_cons (ps_set (i := 1) sc_law.nd rfl (Or.inl rfl) (pe_cal L.pool (hr.mono (by decide)) rfl (pa_cons (pv 0) pa_nil)))
      (pss_cons (ps_set (i := 2) sc_law.nd rfl (Or.inl rfl) (pe_op op_add pe_int (pe_cal L.draw (hr.mono (by decide)) rfl (pa_cons (pv 1) (pa_cons pe_int pa_nil)))))
      (pss_cons (ps_set (i := 3) sc_law.nd rfl (Or.inl rfl) (pe_cal L.gather (hr.mono (by decide)) rfl (pa_cons (pv 1) (pa_cons (pv 2) pa_nil))))
      (pss_cons (ps_if (pt_cmpR op_eq (pe_cal L.draw (hr.mono (by decide)) rfl (pa_cons (pv 1) (pa_cons pe_int pa_nil))) pe_int (nomark _))
        (pss_cons (ps_set (i := 2) sc_law.nd rfl (Or.inl rfl) (pe_op op_add pe_int (pe_cal L.draw (hr.mono (by decide)) rfl (pa_cons (pv 1) (pa_cons pe_int pa_nil)))))
          (pss_one (ps_set (i := 3) sc_law.nd rfl (Or.inl rfl) (pe_cal L.weighed (hr.mono (by decide)) rfl (pa_cons (pv 1) (pa_cons (pe_cal L.ring (hr.mono (by decide)) rfl (pa_cons (pv 1) (pa_cons (pv 2) pa_nil))) pa_nil))))))
        pss_nil) hu)))), ?_⟩
    refine ⟨_, rfl, a, ns, rfl, ha, hl, fun p H1 s1 np hp => ?_⟩
    refine ⟨_, rfl, p, 6, rfl, hp, by decide, by decide, fun y o y0 y1 ho => ?_⟩
    obtain ⟨p2, k2⟩ := drawn hp (Keep.refl p H1) ho
    generalize (upd H1 p o) = H2 at p2 k2 ⊢
    obtain ⟨y, rfl⟩ := nat_of y0
    refine ⟨_, _, rfl, rfl, ?_⟩
    dsimp only
    rw [show ((1 : Int) + (y : Int)) = ((1 + y : Nat) : Int) by omega]
    refine ⟨_, rfl, _, rfl, p, 1 + y, rfl, p2, by omega, by omega, fun l ts H3 k3 p3 la el pi nd t1 t4 => ?_⟩
    refine ⟨_, rfl, p, 12, rfl, p3, by decide, by decide, fun z o z0 z1 ho => ?_⟩
    obtain ⟨p4, k4⟩ := drawn p3 (Keep.refl p H3) ho
    have el4 := k4 _ _ el la
    have pi4 := pi.keep k4 p3
    generalize (upd H3 p o) = H4 at p4 k4 el4 pi4 ⊢
    refine ⟨rfl, _, rfl, iteA ?_ ?_⟩
    · refine ⟨_, rfl, p, 2, rfl, p4, by decide, by decide, fun c o c0 c1 ho => ?_⟩
      obtain ⟨p5, k5⟩ := drawn p4 (Keep.refl p H4) ho
      generalize (upd H4 p o) = H5 at p5 k5 ⊢
      obtain ⟨c, rfl⟩ := nat_of c0
      refine ⟨_, _, rfl, rfl, ?_⟩
      dsimp only
      rw [show ((7 : Int) + (c : Int)) = ((7 + c : Nat) : Int) by omega]
      refine ⟨_, rfl, _, rfl, _, rfl, p, 7 + c, rfl, p5, by omega, by omega, fun g ms H6 k6 p6 ga eg mi m1 m4 => ?_⟩
      refine ⟨p, g, 7 + c, ms, rfl, p6, ga, eg, mi, m1, m4, fun l2 ts2 H7 k7 p7 la2 el2 pi2 nd2 t12 t42 => ?_⟩
      exact qu _ p l2 (7 + c) ts2 H7 (by omega) (by omega) p7 la2 el2 pi2 nd2 t12 t42
    · exact qu _ p l (1 + y) ts H4 (by omega) (by omega) p4 la el4 pi4 nd t1 t4
end
end KD
set_option Elab.async false
set_option linter.all false
set_option maxRecDepth 100000
set_option maxHeartbeats 8000000
namespace KD
open PySem L2
theorem kit_sub {K : PySem.W.Frag} {C : Addr} {T : String} {b : Bool} (h : PySem.W.subIn K (.ref C) (.type T) = some b) (m : PySem.W.kitMeta T = true) : PySem.W.kitOne K (.ref C) (.type T) = some b := by
  show (if (Value.ref C == Value.type T) = true then some true else if PySem.W.kitMeta T = true then PySem.W.subIn K (.ref C) (.type T) else none) = some b
  rw [if_neg (show ¬ ((Value.ref C == Value.type T) = true) from fun z => by cases beq_iff_eq.mp z), if_pos m]
  exact h
theorem kit_self (K : PySem.W.Frag) (C : Addr) : PySem.W.kitOne K (.ref C) (.ref C) = some true := by
  show (if (Value.ref C == Value.ref C) = true then some true else _) = some true
  rw [if_pos (beq_iff_eq.mpr rfl)]
theorem is_cls {K : PySem.W.Frag} {C : Addr} (hd : PySem.W.hasDictIn K C = true) (t : PySem.W.typeIn K (.ref C) = some (.type "type")) : ((PySem.W.clsIn K C).isSome && PySem.W.typeIn K (.ref C) == some (.type "type")) = true := by
  obtain ⟨cd, hc, _⟩ := PySem.W.any_some hd
  rw [hc, t] <;> rfl
theorem kit_cref {K : PySem.W.Frag} {C : Addr} {t : Value} {b : Bool} (hd : PySem.W.hasDictIn K C = true) (tC : PySem.W.typeIn K (.ref C) = some (.type "type")) (h : PySem.W.subIn K t (.ref C) = some b) : PySem.W.kitCls K t (.ref C) = some b := by
  show (if ((PySem.W.clsIn K C).isSome && PySem.W.typeIn K (.ref C) == some (.type "type")) = true then PySem.W.subIn K t (.ref C) else none) = some b
  rw [if_pos (is_cls hd tC)]
  exact h
theorem no_ref {C : Addr} : ∀ {l : List Value}, l.all (fun v => match v with | .type _ => true | _ => false) = true → l.contains (.ref C) = false
  | [], _ => rfl
  | a :: r, h => by
    rw [List.all_cons, Bool.and_eq_true] at h
    rw [List.contains_cons, no_ref h.2, Bool.or_false]
    cases a <;> first | rfl | (simp at h)
theorem kit_from {K : PySem.W.Frag} {C : Addr} {T : String} {l : List Value} (hd : PySem.W.hasDictIn K C = true) (tC : PySem.W.typeIn K (.ref C) = some (.type "type")) (e : fastBuiltinMro T = some l) (hl : l.all (fun v => match v with | .type _ => true | _ => false) = true) :
    PySem.W.kitOne K (.type T) (.ref C) = some false := by
  show (if (Value.type T == Value.ref C) = true then some true else PySem.W.kitCls K (.type T) (.ref C)) = some false
  rw [if_neg (show ¬ ((Value.type T == Value.ref C) = true) from fun z => by cases beq_iff_eq.mp z)]
  refine kit_cref hd tC ?_
  show (fastBuiltinMro T).map (·.contains (.ref C)) = some false
  rw [e]
  exact congrArg some (no_ref hl)
section
variable {K : PySem.W.Frag} {mg : Str → Option Value} {h : Heap}
theorem all_mk {l : PySem.W.OpenLaw} {w : World} {fa C DC W BS T_SI T_WE f_WE f_BS f_iw f_ib f_ii f_tu f_ixp f_SI f_add f_radd f_eq f_less f_ish f_sof f_tot f_abv f_DI f_mln f_prt f_hvs f_hlf f_abl f_led f_evr f_gwd f_stk f_pool f_draw f_pick f_trn f_whl f_lint f_map f_dpa f_giv f_gat f_rng f_wei f_inh f_lmk f_lon f_wrd f_law : Addr} (X : K.In h) (G : h.Ns mainGlobals mg) (hfa : mg "law" = some (.ref fa))
    {oc_WE kV_WE dc_WE pm_WE cd_WE ct_WE oc_BS kV_BS dc_BS pm_BS cd_BS ct_BS oc_iw kV_iw dc_iw pm_iw cd_iw ct_iw oc_ib kV_ib dc_ib pm_ib cd_ib ct_ib oc_ii kV_ii dc_ii pm_ii cd_ii ct_ii oc_tu kV_tu dc_tu pm_tu cd_tu ct_tu oc_ixp kV_ixp dc_ixp pm_ixp cd_ixp ct_ixp oc_SI kV_SI dc_SI pm_SI cd_SI ct_SI oc_add kV_add dc_add pm_add cd_add ct_add oc_radd kV_radd dc_radd pm_radd cd_radd ct_radd oc_eq kV_eq dc_eq pm_eq cd_eq ct_eq oc_less kV_less dc_less pm_less cd_less ct_less oc_ish kV_ish dc_ish pm_ish cd_ish ct_ish oc_sof kV_sof dc_sof pm_sof cd_sof ct_sof oc_tot kV_tot dc_tot pm_tot cd_tot ct_tot oc_abv kV_abv dc_abv pm_abv cd_abv ct_abv oc_DI kV_DI dc_DI pm_DI cd_DI ct_DI oc_mln kV_mln dc_mln pm_mln cd_mln ct_mln oc_prt kV_prt dc_prt pm_prt cd_prt ct_prt oc_hvs kV_hvs dc_hvs pm_hvs cd_hvs ct_hvs oc_hlf kV_hlf dc_hlf pm_hlf cd_hlf ct_hlf oc_abl kV_abl dc_abl pm_abl cd_abl ct_abl oc_led kV_led dc_led pm_led cd_led ct_led oc_evr kV_evr dc_evr pm_evr cd_evr ct_evr oc_gwd kV_gwd dc_gwd pm_gwd cd_gwd ct_gwd oc_stk kV_stk dc_stk pm_stk cd_stk ct_stk oc_pool kV_pool dc_pool pm_pool cd_pool ct_pool oc_draw kV_draw dc_draw pm_draw cd_draw ct_draw oc_pick kV_pick dc_pick pm_pick cd_pick ct_pick oc_trn kV_trn dc_trn pm_trn cd_trn ct_trn oc_whl kV_whl dc_whl pm_whl cd_whl ct_whl oc_lint kV_lint dc_lint pm_lint cd_lint ct_lint oc_map kV_map dc_map pm_map cd_map ct_map oc_dpa kV_dpa dc_dpa pm_dpa cd_dpa ct_dpa oc_giv kV_giv dc_giv pm_giv cd_giv ct_giv oc_gat kV_gat dc_gat pm_gat cd_gat ct_gat oc_rng kV_rng dc_rng pm_rng cd_rng ct_rng oc_wei kV_wei dc_wei pm_wei cd_wei ct_wei oc_inh kV_inh dc_inh pm_inh cd_inh ct_inh oc_lmk kV_lmk dc_lmk pm_lmk cd_lmk ct_lmk oc_lon kV_lon dc_lon pm_lon cd_lon ct_lon oc_wrd kV_wrd dc_wrd pm_wrd cd_wrd ct_wrd oc_law kV_law dc_law pm_law cd_law ct_law : Value} {od_WE an_WE od_BS an_BS od_iw an_iw od_ib an_ib od_ii an_ii od_tu an_tu od_ixp an_ixp od_SI an_SI od_add an_add od_radd an_radd od_eq an_eq od_less an_less od_ish an_ish od_sof an_sof od_tot an_tot od_abv an_abv od_DI an_DI od_mln an_mln od_prt an_prt od_hvs an_hvs od_hlf an_hlf od_abl an_abl od_led an_led od_evr an_evr od_gwd an_gwd od_stk an_stk od_pool an_pool od_draw an_draw od_pick an_pick od_trn an_trn od_whl an_whl od_lint an_lint od_map an_map od_dpa an_dpa od_giv an_giv od_gat an_gat od_rng an_rng od_wei an_wei od_inh an_inh od_lmk an_lmk od_lon an_lon od_wrd an_wrd od_law an_law : Option Addr} {sl_WE sl_BS sl_iw sl_ib sl_ii sl_tu sl_ixp sl_SI sl_add sl_radd sl_eq sl_less sl_ish sl_sof sl_tot sl_abv sl_DI sl_mln sl_prt sl_hvs sl_hlf sl_abl sl_led sl_evr sl_gwd sl_stk sl_pool sl_draw sl_pick sl_trn sl_whl sl_lint sl_map sl_dpa sl_giv sl_gat sl_rng sl_wei sl_inh sl_lmk sl_lon sl_wrd sl_law : Array (Option Value)}
    {mp ml : Int} {tkM tkL tkS tkW : Tok} {xW : Str} {tcS tcW : Value} {tdS tdW : Option Addr} {tnS tnW : Nat} {tsS tsW : Array (Option Value)} {ro_add : Option Value}
    {nmB qB : Str} {NB : Addr} {bsB bmB : List Value} {snB : List Str} {subB : List Value} {abB : Bool} {colB : Option Bool} {ddB : Option Addr} {b0B b1B b2B b3B b5B : Option Value}
    (aS : PySem.W.nsIn K mainGlobals "Share" = some (some (.ref C)))
    (aW : PySem.W.nsIn K mainGlobals "WalkError" = some (some (.ref W)))
    (aB : PySem.W.nsIn K mainGlobals "BadShare" = some (some (.ref BS)))
    (aD : PySem.W.nsIn K mainGlobals "Draw" = some (some (.ref DC)))
    (aM : PySem.W.nsIn K mainGlobals "MOST_PARTS" = some (some (.int mp tkM)))
    (eM : mp = 300)
    (aL : PySem.W.nsIn K mainGlobals "MOST_LED" = some (some (.int ml tkL)))
    (eL : ml = 8)
    (aG : PySem.W.nsIn K mainGlobals "gcd" = some (some (.builtin "math.gcd")))
    (n_isinstance : PySem.W.nsIn K mainGlobals "isinstance" = some none)
    (n_int : PySem.W.nsIn K mainGlobals "int" = some none)
    (n_bool : PySem.W.nsIn K mainGlobals "bool" = some none)
    (n_abs : PySem.W.nsIn K mainGlobals "abs" = some none)
    (n_len : PySem.W.nsIn K mainGlobals "len" = some none)
    (n_str : PySem.W.nsIn K mainGlobals "str" = some none)
    (n_divmod : PySem.W.nsIn K mainGlobals "divmod" = some none)
    (n_ValueError : PySem.W.nsIn K mainGlobals "ValueError" = some none)
    (n_list : PySem.W.nsIn K mainGlobals "list" = some none)
    (n_tuple : PySem.W.nsIn K mainGlobals "tuple" = some none)
    (n_range : PySem.W.nsIn K mainGlobals "range" = some none)
    (n_sum : PySem.W.nsIn K mainGlobals "sum" = some none)
    (n_min : PySem.W.nsIn K mainGlobals "min" = some none)
    (n_max : PySem.W.nsIn K mainGlobals "max" = some none)
    (n_all : PySem.W.nsIn K mainGlobals "all" = some none)
    (n_any : PySem.W.nsIn K mainGlobals "any" = some none)
    (n_set : PySem.W.nsIn K mainGlobals "set" = some none)
    (n_sorted : PySem.W.nsIn K mainGlobals "sorted" = some none)
    (n_enumerate : PySem.W.nsIn K mainGlobals "enumerate" = some none)
    (a_WE : PySem.W.findIn K (.ref W) "__init__" = some (some (.ref f_WE)))
    (l_WE : K.lookup f_WE = some ⟨oc_WE, od_WE, .func (PySem.W.fnOf "__init__" "WalkError.__init__" (defArgs s_WE) (defBody s_WE) (defScope s_WE) (.ref T_WE) kV_WE dc_WE pm_WE an_WE cd_WE ct_WE), sl_WE⟩)
    (c_WE : PySem.W.codeIn K cd_WE "WalkError.__init__" = true)
    (k_WE : PySem.W.keepIn K (.ref f_WE) = true)
    (a_BS : PySem.W.findIn K (.ref BS) "__init__" = some (some (.ref f_BS)))
    (l_BS : K.lookup f_BS = some ⟨oc_BS, od_BS, .func (PySem.W.fnOf "__init__" "BadShare.__init__" (defArgs s_BS) (defBody s_BS) (defScope s_BS) .none kV_BS dc_BS pm_BS an_BS cd_BS ct_BS), sl_BS⟩)
    (c_BS : PySem.W.codeIn K cd_BS "BadShare.__init__" = true)
    (k_BS : PySem.W.keepIn K (.ref f_BS) = true)
    (a_iw : PySem.W.nsIn K mainGlobals "is_whole" = some (some (.ref f_iw)))
    (l_iw : K.lookup f_iw = some ⟨oc_iw, od_iw, .func (PySem.W.fnOf "is_whole" "is_whole" (defArgs s_is_whole) (defBody s_is_whole) (defScope s_is_whole) .none kV_iw dc_iw pm_iw an_iw cd_iw ct_iw), sl_iw⟩)
    (c_iw : PySem.W.codeIn K cd_iw "is_whole" = true)
    (k_iw : PySem.W.keepIn K (.ref f_iw) = true)
    (a_ib : PySem.W.nsIn K mainGlobals "is_between" = some (some (.ref f_ib)))
    (l_ib : K.lookup f_ib = some ⟨oc_ib, od_ib, .func (PySem.W.fnOf "is_between" "is_between" (defArgs s_is_between) (defBody s_is_between) (defScope s_is_between) .none kV_ib dc_ib pm_ib an_ib cd_ib ct_ib), sl_ib⟩)
    (c_ib : PySem.W.codeIn K cd_ib "is_between" = true)
    (k_ib : PySem.W.keepIn K (.ref f_ib) = true)
    (a_ii : PySem.W.nsIn K mainGlobals "is_index" = some (some (.ref f_ii)))
    (l_ii : K.lookup f_ii = some ⟨oc_ii, od_ii, .func (PySem.W.fnOf "is_index" "is_index" (defArgs s_is_index) (defBody s_is_index) (defScope s_is_index) .none kV_ii dc_ii pm_ii an_ii cd_ii ct_ii), sl_ii⟩)
    (c_ii : PySem.W.codeIn K cd_ii "is_index" = true)
    (k_ii : PySem.W.keepIn K (.ref f_ii) = true)
    (a_tu : PySem.W.nsIn K mainGlobals "is_tuple_of" = some (some (.ref f_tu)))
    (l_tu : K.lookup f_tu = some ⟨oc_tu, od_tu, .func (PySem.W.fnOf "is_tuple_of" "is_tuple_of" (defArgs s_tupOf) (defBody s_tupOf) (defScope s_tupOf) .none kV_tu dc_tu pm_tu an_tu cd_tu ct_tu), sl_tu⟩)
    (c_tu : PySem.W.codeIn K cd_tu "is_tuple_of" = true)
    (k_tu : PySem.W.keepIn K (.ref f_tu) = true)
    (a_ixp : PySem.W.nsIn K mainGlobals "index_pairs" = some (some (.ref f_ixp)))
    (l_ixp : K.lookup f_ixp = some ⟨oc_ixp, od_ixp, .func (PySem.W.fnOf "index_pairs" "index_pairs" (defArgs s_index_pairs) (defBody s_index_pairs) (defScope s_index_pairs) .none kV_ixp dc_ixp pm_ixp an_ixp cd_ixp ct_ixp), sl_ixp⟩)
    (c_ixp : PySem.W.codeIn K cd_ixp "index_pairs" = true)
    (k_ixp : PySem.W.keepIn K (.ref f_ixp) = true)
    (a_SI : PySem.W.findIn K (.ref C) "__init__" = some (some (.ref f_SI)))
    (l_SI : K.lookup f_SI = some ⟨oc_SI, od_SI, .func (PySem.W.fnOf "__init__" "Share.__init__" (defArgs s_SI) (defBody s_SI) (defScope s_SI) (.ref T_SI) kV_SI dc_SI pm_SI an_SI cd_SI ct_SI), sl_SI⟩)
    (c_SI : PySem.W.codeIn K cd_SI "Share.__init__" = true)
    (k_SI : PySem.W.keepIn K (.ref f_SI) = true)
    (a_add : PySem.W.findIn K (.ref C) "__add__" = some (some (.ref f_add)))
    (l_add : K.lookup f_add = some ⟨oc_add, od_add, .func (PySem.W.fnOf "__add__" "Share.__add__" (defArgs s_add) (defBody s_add) (defScope s_add) .none kV_add dc_add pm_add an_add cd_add ct_add), sl_add⟩)
    (c_add : PySem.W.codeIn K cd_add "Share.__add__" = true)
    (k_add : PySem.W.keepIn K (.ref f_add) = true)
    (a_radd : PySem.W.findIn K (.ref C) "__radd__" = some (some (.ref f_radd)))
    (l_radd : K.lookup f_radd = some ⟨oc_radd, od_radd, .func (PySem.W.fnOf "__radd__" "Share.__radd__" (defArgs s_radd) (defBody s_radd) (defScope s_radd) .none kV_radd dc_radd pm_radd an_radd cd_radd ct_radd), sl_radd⟩)
    (c_radd : PySem.W.codeIn K cd_radd "Share.__radd__" = true)
    (k_radd : PySem.W.keepIn K (.ref f_radd) = true)
    (a_eq : PySem.W.findIn K (.ref C) "__eq__" = some (some (.ref f_eq)))
    (l_eq : K.lookup f_eq = some ⟨oc_eq, od_eq, .func (PySem.W.fnOf "__eq__" "Share.__eq__" (defArgs s_eq) (defBody s_eq) (defScope s_eq) .none kV_eq dc_eq pm_eq an_eq cd_eq ct_eq), sl_eq⟩)
    (c_eq : PySem.W.codeIn K cd_eq "Share.__eq__" = true)
    (k_eq : PySem.W.keepIn K (.ref f_eq) = true)
    (a_less : PySem.W.findIn K (.ref C) "less" = some (some (.ref f_less)))
    (l_less : K.lookup f_less = some ⟨oc_less, od_less, .func (PySem.W.fnOf "less" "Share.less" (defArgs s_sless) (defBody s_sless) (defScope s_sless) .none kV_less dc_less pm_less an_less cd_less ct_less), sl_less⟩)
    (c_less : PySem.W.codeIn K cd_less "Share.less" = true)
    (k_less : PySem.W.keepIn K (.ref f_less) = true)
    (a_ish : PySem.W.nsIn K mainGlobals "is_share" = some (some (.ref f_ish)))
    (l_ish : K.lookup f_ish = some ⟨oc_ish, od_ish, .func (PySem.W.fnOf "is_share" "is_share" (defArgs s_is_share) (defBody s_is_share) (defScope s_is_share) .none kV_ish dc_ish pm_ish an_ish cd_ish ct_ish), sl_ish⟩)
    (c_ish : PySem.W.codeIn K cd_ish "is_share" = true)
    (k_ish : PySem.W.keepIn K (.ref f_ish) = true)
    (a_sof : PySem.W.nsIn K mainGlobals "share_of" = some (some (.ref f_sof)))
    (l_sof : K.lookup f_sof = some ⟨oc_sof, od_sof, .func (PySem.W.fnOf "share_of" "share_of" (defArgs s_share_of) (defBody s_share_of) (defScope s_share_of) .none kV_sof dc_sof pm_sof an_sof cd_sof ct_sof), sl_sof⟩)
    (c_sof : PySem.W.codeIn K cd_sof "share_of" = true)
    (k_sof : PySem.W.keepIn K (.ref f_sof) = true)
    (a_tot : PySem.W.nsIn K mainGlobals "total" = some (some (.ref f_tot)))
    (l_tot : K.lookup f_tot = some ⟨oc_tot, od_tot, .func (PySem.W.fnOf "total" "total" (defArgs s_total) (defBody s_total) (defScope s_total) .none kV_tot dc_tot pm_tot an_tot cd_tot ct_tot), sl_tot⟩)
    (c_tot : PySem.W.codeIn K cd_tot "total" = true)
    (k_tot : PySem.W.keepIn K (.ref f_tot) = true)
    (a_abv : PySem.W.nsIn K mainGlobals "is_above_zero" = some (some (.ref f_abv)))
    (l_abv : K.lookup f_abv = some ⟨oc_abv, od_abv, .func (PySem.W.fnOf "is_above_zero" "is_above_zero" (defArgs s_above) (defBody s_above) (defScope s_above) .none kV_abv dc_abv pm_abv an_abv cd_abv ct_abv), sl_abv⟩)
    (c_abv : PySem.W.codeIn K cd_abv "is_above_zero" = true)
    (k_abv : PySem.W.keepIn K (.ref f_abv) = true)
    (a_DI : PySem.W.findIn K (.ref DC) "__init__" = some (some (.ref f_DI)))
    (l_DI : K.lookup f_DI = some ⟨oc_DI, od_DI, .func (PySem.W.fnOf "__init__" "Draw.__init__" (defArgs s_DI) (defBody s_DI) (defScope s_DI) .none kV_DI dc_DI pm_DI an_DI cd_DI ct_DI), sl_DI⟩)
    (c_DI : PySem.W.codeIn K cd_DI "Draw.__init__" = true)
    (k_DI : PySem.W.keepIn K (.ref f_DI) = true)
    (a_mln : PySem.W.nsIn K mainGlobals "map_length" = some (some (.ref f_mln)))
    (l_mln : K.lookup f_mln = some ⟨oc_mln, od_mln, .func (PySem.W.fnOf "map_length" "map_length" (defArgs s_mlen) (defBody s_mlen) (defScope s_mlen) .none kV_mln dc_mln pm_mln an_mln cd_mln ct_mln), sl_mln⟩)
    (c_mln : PySem.W.codeIn K cd_mln "map_length" = true)
    (k_mln : PySem.W.keepIn K (.ref f_mln) = true)
    (a_prt : PySem.W.nsIn K mainGlobals "is_part" = some (some (.ref f_prt)))
    (l_prt : K.lookup f_prt = some ⟨oc_prt, od_prt, .func (PySem.W.fnOf "is_part" "is_part" (defArgs s_part) (defBody s_part) (defScope s_part) .none kV_prt dc_prt pm_prt an_prt cd_prt ct_prt), sl_prt⟩)
    (c_prt : PySem.W.codeIn K cd_prt "is_part" = true)
    (k_prt : PySem.W.keepIn K (.ref f_prt) = true)
    (a_hvs : PySem.W.nsIn K mainGlobals "halves" = some (some (.ref f_hvs)))
    (l_hvs : K.lookup f_hvs = some ⟨oc_hvs, od_hvs, .func (PySem.W.fnOf "halves" "halves" (defArgs s_halves) (defBody s_halves) (defScope s_halves) .none kV_hvs dc_hvs pm_hvs an_hvs cd_hvs ct_hvs), sl_hvs⟩)
    (c_hvs : PySem.W.codeIn K cd_hvs "halves" = true)
    (k_hvs : PySem.W.keepIn K (.ref f_hvs) = true)
    (a_hlf : PySem.W.nsIn K mainGlobals "half" = some (some (.ref f_hlf)))
    (l_hlf : K.lookup f_hlf = some ⟨oc_hlf, od_hlf, .func (PySem.W.fnOf "half" "half" (defArgs s_half) (defBody s_half) (defScope s_half) .none kV_hlf dc_hlf pm_hlf an_hlf cd_hlf ct_hlf), sl_hlf⟩)
    (c_hlf : PySem.W.codeIn K cd_hlf "half" = true)
    (k_hlf : PySem.W.keepIn K (.ref f_hlf) = true)
    (a_abl : PySem.W.nsIn K mainGlobals "able_places" = some (some (.ref f_abl)))
    (l_abl : K.lookup f_abl = some ⟨oc_abl, od_abl, .func (PySem.W.fnOf "able_places" "able_places" (defArgs s_able) (defBody s_able) (defScope s_able) .none kV_abl dc_abl pm_abl an_abl cd_abl ct_abl), sl_abl⟩)
    (c_abl : PySem.W.codeIn K cd_abl "able_places" = true)
    (k_abl : PySem.W.keepIn K (.ref f_abl) = true)
    (a_led : PySem.W.nsIn K mainGlobals "led" = some (some (.ref f_led)))
    (l_led : K.lookup f_led = some ⟨oc_led, od_led, .func (PySem.W.fnOf "led" "led" (defArgs s_led) (defBody s_led) (defScope s_led) .none kV_led dc_led pm_led an_led cd_led ct_led), sl_led⟩)
    (c_led : PySem.W.codeIn K cd_led "led" = true)
    (k_led : PySem.W.keepIn K (.ref f_led) = true)
    (a_evr : PySem.W.nsIn K mainGlobals "everywhere" = some (some (.ref f_evr)))
    (l_evr : K.lookup f_evr = some ⟨oc_evr, od_evr, .func (PySem.W.fnOf "everywhere" "everywhere" (defArgs s_every) (defBody s_every) (defScope s_every) .none kV_evr dc_evr pm_evr an_evr cd_evr ct_evr), sl_evr⟩)
    (c_evr : PySem.W.codeIn K cd_evr "everywhere" = true)
    (k_evr : PySem.W.keepIn K (.ref f_evr) = true)
    (a_gwd : PySem.W.nsIn K mainGlobals "gather_word" = some (some (.ref f_gwd)))
    (l_gwd : K.lookup f_gwd = some ⟨oc_gwd, od_gwd, .func (PySem.W.fnOf "gather_word" "gather_word" (defArgs s_gw) (defBody s_gw) (defScope s_gw) .none kV_gwd dc_gwd pm_gwd an_gwd cd_gwd ct_gwd), sl_gwd⟩)
    (c_gwd : PySem.W.codeIn K cd_gwd "gather_word" = true)
    (k_gwd : PySem.W.keepIn K (.ref f_gwd) = true)
    (a_stk : PySem.W.nsIn K mainGlobals "stuck" = some (some (.ref f_stk)))
    (l_stk : K.lookup f_stk = some ⟨oc_stk, od_stk, .func (PySem.W.fnOf "stuck" "stuck" (defArgs s_stuck) (defBody s_stuck) (defScope s_stuck) .none kV_stk dc_stk pm_stk an_stk cd_stk ct_stk), sl_stk⟩)
    (c_stk : PySem.W.codeIn K cd_stk "stuck" = true)
    (k_stk : PySem.W.keepIn K (.ref f_stk) = true)
    (a_pool : PySem.W.nsIn K mainGlobals "_law_pool" = some (some (.ref f_pool)))
    (l_pool : K.lookup f_pool = some ⟨oc_pool, od_pool, .func (PySem.W.fnOf "_law_pool" "_law_pool" (defArgs s_pool) (defBody s_pool) (defScope s_pool) .none kV_pool dc_pool pm_pool an_pool cd_pool ct_pool), sl_pool⟩)
    (c_pool : PySem.W.codeIn K cd_pool "_law_pool" = true)
    (k_pool : PySem.W.keepIn K (.ref f_pool) = true)
    (a_draw : PySem.W.nsIn K mainGlobals "_law_draw" = some (some (.ref f_draw)))
    (l_draw : K.lookup f_draw = some ⟨oc_draw, od_draw, .func (PySem.W.fnOf "_law_draw" "_law_draw" (defArgs s_draw) (defBody s_draw) (defScope s_draw) .none kV_draw dc_draw pm_draw an_draw cd_draw ct_draw), sl_draw⟩)
    (c_draw : PySem.W.codeIn K cd_draw "_law_draw" = true)
    (k_draw : PySem.W.keepIn K (.ref f_draw) = true)
    (a_pick : PySem.W.nsIn K mainGlobals "_law_pick" = some (some (.ref f_pick)))
    (l_pick : K.lookup f_pick = some ⟨oc_pick, od_pick, .func (PySem.W.fnOf "_law_pick" "_law_pick" (defArgs s_pick) (defBody s_pick) (defScope s_pick) .none kV_pick dc_pick pm_pick an_pick cd_pick ct_pick), sl_pick⟩)
    (c_pick : PySem.W.codeIn K cd_pick "_law_pick" = true)
    (k_pick : PySem.W.keepIn K (.ref f_pick) = true)
    (a_trn : PySem.W.nsIn K mainGlobals "_law_turned_about" = some (some (.ref f_trn)))
    (l_trn : K.lookup f_trn = some ⟨oc_trn, od_trn, .func (PySem.W.fnOf "_law_turned_about" "_law_turned_about" (defArgs s_turn) (defBody s_turn) (defScope s_turn) .none kV_trn dc_trn pm_trn an_trn cd_trn ct_trn), sl_trn⟩)
    (c_trn : PySem.W.codeIn K cd_trn "_law_turned_about" = true)
    (k_trn : PySem.W.keepIn K (.ref f_trn) = true)
    (a_whl : PySem.W.nsIn K mainGlobals "_law_whole" = some (some (.ref f_whl)))
    (l_whl : K.lookup f_whl = some ⟨oc_whl, od_whl, .func (PySem.W.fnOf "_law_whole" "_law_whole" (defArgs s_whole) (defBody s_whole) (defScope s_whole) .none kV_whl dc_whl pm_whl an_whl cd_whl ct_whl), sl_whl⟩)
    (c_whl : PySem.W.codeIn K cd_whl "_law_whole" = true)
    (k_whl : PySem.W.keepIn K (.ref f_whl) = true)
    (a_lint : PySem.W.nsIn K mainGlobals "_law_is_integer" = some (some (.ref f_lint)))
    (l_lint : K.lookup f_lint = some ⟨oc_lint, od_lint, .func (PySem.W.fnOf "_law_is_integer" "_law_is_integer" (defArgs s_lint) (defBody s_lint) (defScope s_lint) .none kV_lint dc_lint pm_lint an_lint cd_lint ct_lint), sl_lint⟩)
    (c_lint : PySem.W.codeIn K cd_lint "_law_is_integer" = true)
    (k_lint : PySem.W.keepIn K (.ref f_lint) = true)
    (a_map : PySem.W.nsIn K mainGlobals "_law_map" = some (some (.ref f_map)))
    (l_map : K.lookup f_map = some ⟨oc_map, od_map, .func (PySem.W.fnOf "_law_map" "_law_map" (defArgs s_map) (defBody s_map) (defScope s_map) .none kV_map dc_map pm_map an_map cd_map ct_map), sl_map⟩)
    (c_map : PySem.W.codeIn K cd_map "_law_map" = true)
    (k_map : PySem.W.keepIn K (.ref f_map) = true)
    (a_dpa : PySem.W.nsIn K mainGlobals "_law_draw_parts" = some (some (.ref f_dpa)))
    (l_dpa : K.lookup f_dpa = some ⟨oc_dpa, od_dpa, .func (PySem.W.fnOf "_law_draw_parts" "_law_draw_parts" (defArgs s_draw_parts) (defBody s_draw_parts) (defScope s_draw_parts) .none kV_dpa dc_dpa pm_dpa an_dpa cd_dpa ct_dpa), sl_dpa⟩)
    (c_dpa : PySem.W.codeIn K cd_dpa "_law_draw_parts" = true)
    (k_dpa : PySem.W.keepIn K (.ref f_dpa) = true)
    (a_giv : PySem.W.nsIn K mainGlobals "_law_given" = some (some (.ref f_giv)))
    (l_giv : K.lookup f_giv = some ⟨oc_giv, od_giv, .func (PySem.W.fnOf "_law_given" "_law_given" (defArgs s_given) (defBody s_given) (defScope s_given) .none kV_giv dc_giv pm_giv an_giv cd_giv ct_giv), sl_giv⟩)
    (c_giv : PySem.W.codeIn K cd_giv "_law_given" = true)
    (k_giv : PySem.W.keepIn K (.ref f_giv) = true)
    (a_gat : PySem.W.nsIn K mainGlobals "_law_gather_parts" = some (some (.ref f_gat)))
    (l_gat : K.lookup f_gat = some ⟨oc_gat, od_gat, .func (PySem.W.fnOf "_law_gather_parts" "_law_gather_parts" (defArgs s_gather) (defBody s_gather) (defScope s_gather) .none kV_gat dc_gat pm_gat an_gat cd_gat ct_gat), sl_gat⟩)
    (c_gat : PySem.W.codeIn K cd_gat "_law_gather_parts" = true)
    (k_gat : PySem.W.keepIn K (.ref f_gat) = true)
    (a_rng : PySem.W.nsIn K mainGlobals "_law_ring" = some (some (.ref f_rng)))
    (l_rng : K.lookup f_rng = some ⟨oc_rng, od_rng, .func (PySem.W.fnOf "_law_ring" "_law_ring" (defArgs s_ring) (defBody s_ring) (defScope s_ring) .none kV_rng dc_rng pm_rng an_rng cd_rng ct_rng), sl_rng⟩)
    (c_rng : PySem.W.codeIn K cd_rng "_law_ring" = true)
    (k_rng : PySem.W.keepIn K (.ref f_rng) = true)
    (a_wei : PySem.W.nsIn K mainGlobals "_law_weighed" = some (some (.ref f_wei)))
    (l_wei : K.lookup f_wei = some ⟨oc_wei, od_wei, .func (PySem.W.fnOf "_law_weighed" "_law_weighed" (defArgs s_weighed) (defBody s_weighed) (defScope s_weighed) .none kV_wei dc_wei pm_wei an_wei cd_wei ct_wei), sl_wei⟩)
    (c_wei : PySem.W.codeIn K cd_wei "_law_weighed" = true)
    (k_wei : PySem.W.keepIn K (.ref f_wei) = true)
    (a_inh : PySem.W.nsIn K mainGlobals "_law_in_half" = some (some (.ref f_inh)))
    (l_inh : K.lookup f_inh = some ⟨oc_inh, od_inh, .func (PySem.W.fnOf "_law_in_half" "_law_in_half" (defArgs s_in_half) (defBody s_in_half) (defScope s_in_half) .none kV_inh dc_inh pm_inh an_inh cd_inh ct_inh), sl_inh⟩)
    (c_inh : PySem.W.codeIn K cd_inh "_law_in_half" = true)
    (k_inh : PySem.W.keepIn K (.ref f_inh) = true)
    (a_lmk : PySem.W.nsIn K mainGlobals "_law_led_mask" = some (some (.ref f_lmk)))
    (l_lmk : K.lookup f_lmk = some ⟨oc_lmk, od_lmk, .func (PySem.W.fnOf "_law_led_mask" "_law_led_mask" (defArgs s_led_mask) (defBody s_led_mask) (defScope s_led_mask) .none kV_lmk dc_lmk pm_lmk an_lmk cd_lmk ct_lmk), sl_lmk⟩)
    (c_lmk : PySem.W.codeIn K cd_lmk "_law_led_mask" = true)
    (k_lmk : PySem.W.keepIn K (.ref f_lmk) = true)
    (a_lon : PySem.W.nsIn K mainGlobals "_law_is_lone" = some (some (.ref f_lon)))
    (l_lon : K.lookup f_lon = some ⟨oc_lon, od_lon, .func (PySem.W.fnOf "_law_is_lone" "_law_is_lone" (defArgs s_is_lone) (defBody s_is_lone) (defScope s_is_lone) .none kV_lon dc_lon pm_lon an_lon cd_lon ct_lon), sl_lon⟩)
    (c_lon : PySem.W.codeIn K cd_lon "_law_is_lone" = true)
    (k_lon : PySem.W.keepIn K (.ref f_lon) = true)
    (a_wrd : PySem.W.nsIn K mainGlobals "_law_word" = some (some (.ref f_wrd)))
    (l_wrd : K.lookup f_wrd = some ⟨oc_wrd, od_wrd, .func (PySem.W.fnOf "_law_word" "_law_word" (defArgs s_word) (defBody s_word) (defScope s_word) .none kV_wrd dc_wrd pm_wrd an_wrd cd_wrd ct_wrd), sl_wrd⟩)
    (c_wrd : PySem.W.codeIn K cd_wrd "_law_word" = true)
    (k_wrd : PySem.W.keepIn K (.ref f_wrd) = true)
    (a_law : PySem.W.nsIn K mainGlobals "law" = some (some (.ref f_law)))
    (l_law : K.lookup f_law = some ⟨oc_law, od_law, .func (PySem.W.fnOf "law" "law" (defArgs s_law) (defBody s_law) (defScope s_law) .none kV_law dc_law pm_law an_law cd_law ct_law), sl_law⟩)
    (c_law : PySem.W.codeIn K cd_law "law" = true)
    (k_law : PySem.W.keepIn K (.ref f_law) = true)
    (dSI : K.lookup T_SI = some ⟨tcS, tdS, .seq #[.int 1 tkS] tnS, tsS⟩)
    (dWE : K.lookup T_WE = some ⟨tcW, tdW, .seq #[.str xW tkW] tnW, tsW⟩)
    (hn : PySem.W.specialIn K (.builtin "object.__class__") "__get__" = some (some (.builtin "getset_descriptor.__get__")))
    (htk : PySem.W.takesIn K (.builtin "object.__class__") = some true)
    (pgD : PySem.W.plainGet K DC Str.empty = true)
    (hdD : PySem.W.hasDictIn K DC = true)
    (poD : PySem.W.plainOver K DC = true)
    (saD : PySem.W.findIn K (.ref DC) "__setattr__" = some (some (.builtin "object.__setattr__")))
    (mkD : PySem.W.makesIn K DC = true)
    (kcD : PySem.W.keepIn K (.ref DC) = true)
    (tCD : PySem.W.typeIn K (.ref DC) = some (.type "type"))
    (haD : PySem.W.findIn K (.ref DC) "__class__" = some (some (.builtin "object.__class__")))
    (hmD : PySem.W.mroIn K DC (.type "object") = some true)
    (neD : PySem.W.findIn K (.ref DC) "__ne__" = some (some (.builtin "object.__ne__")))
    (uD_int : PySem.W.subIn K (.ref DC) (.type "int") = some false)
    (uD_bool : PySem.W.subIn K (.ref DC) (.type "bool") = some false)
    (uD_NoneType : PySem.W.subIn K (.ref DC) (.type "NoneType") = some false)
    (uD_str : PySem.W.subIn K (.ref DC) (.type "str") = some false)
    (uD_list : PySem.W.subIn K (.ref DC) (.type "list") = some false)
    (uD_tuple : PySem.W.subIn K (.ref DC) (.type "tuple") = some false)
    (uD_dict : PySem.W.subIn K (.ref DC) (.type "dict") = some false)
    (pgS : PySem.W.plainGet K C Str.empty = true)
    (hdS : PySem.W.hasDictIn K C = true)
    (poS : PySem.W.plainOver K C = true)
    (saS : PySem.W.findIn K (.ref C) "__setattr__" = some (some (.builtin "object.__setattr__")))
    (mkS : PySem.W.makesIn K C = true)
    (kcS : PySem.W.keepIn K (.ref C) = true)
    (tCS : PySem.W.typeIn K (.ref C) = some (.type "type"))
    (haS : PySem.W.findIn K (.ref C) "__class__" = some (some (.builtin "object.__class__")))
    (hmS : PySem.W.mroIn K C (.type "object") = some true)
    (neS : PySem.W.findIn K (.ref C) "__ne__" = some (some (.builtin "object.__ne__")))
    (uS_int : PySem.W.subIn K (.ref C) (.type "int") = some false)
    (uS_bool : PySem.W.subIn K (.ref C) (.type "bool") = some false)
    (uS_NoneType : PySem.W.subIn K (.ref C) (.type "NoneType") = some false)
    (uS_str : PySem.W.subIn K (.ref C) (.type "str") = some false)
    (uS_list : PySem.W.subIn K (.ref C) (.type "list") = some false)
    (uS_tuple : PySem.W.subIn K (.ref C) (.type "tuple") = some false)
    (uS_dict : PySem.W.subIn K (.ref C) (.type "dict") = some false)
    (uS_bytes : PySem.W.subIn K (.ref C) (.type "bytes") = some false)
    (uS_bytearray : PySem.W.subIn K (.ref C) (.type "bytearray") = some false)
    (sf : PySem.W.selfFirst K C = true)
    (upC : PySem.W.subIn K (.type "int") (.ref C) = some false)
    (d_add : PySem.W.findIn K (.ref C) (PySem.dunder "add") = some (some (.ref f_add)))
    (e_add : PySem.W.findIn K (.ref C) (dunderR "add") = some (some (.ref f_radd)))
    (o_add : PySem.W.findIn K (.type "int") (dunderR "add") = some ro_add)
    (nSz : PySem.W.findIn K (.ref DC) "size" = some none)
    (nPt : PySem.W.findIn K (.ref DC) "parts" = some none)
    (nT : PySem.W.findIn K (.ref C) "top" = some none)
    (nBm : PySem.W.findIn K (.ref C) "bottom" = some none)
    (i_SI : PySem.W.isFn K (.ref f_SI) = true)
    (i_eq : PySem.W.isFn K (.ref f_eq) = true)
    (i_add : PySem.W.isFn K (.ref f_add) = true)
    (i_radd : PySem.W.isFn K (.ref f_radd) = true)
    (i_less : PySem.W.isFn K (.ref f_less) = true)
    (i_DI : PySem.W.isFn K (.ref f_DI) = true)
    (xB : K.lookup BS = some (excClassObj nmB qB BS NB bsB bmB true snB subB abB colB ddB b0B b1B b2B b3B b5B "ValueError.__new__"))
    (rB : PySem.HandSPX.refsVE bmB = true)
    (saB : PySem.W.findIn K (.ref BS) "__setattr__" = some (some (.builtin "object.__setattr__")))
    (exB : PySem.W.subIn K (.ref BS) (.type "BaseException") = some true)
    (tB : PySem.W.typeIn K (.ref BS) = some (.type "type"))
    (kB : PySem.W.keepIn K (.ref BS) = true)
    (hdB : PySem.W.hasDictIn K BS = true)
    (sBB : PySem.W.subIn K (.ref BS) (.ref BS) = some true)
    (ntB : PySem.W.findIn K (.ref BS) "top" = some none)
    (nbB : PySem.W.findIn K (.ref BS) "bottom" = some none)
    (tfB : PySem.W.typeIn K (.ref f_BS) = some (.type "function"))
    (rdW : PySem.W.readsIn K W (.type "type") = true)
    (gaW : PySem.W.specialIn K (.ref W) "__getattribute__" = some (some (.builtin "type.__getattribute__")))
    (fcW : PySem.W.findCls K (.ref W) (.type "type") "__init__" = some (.val (.ref f_WE)))
    (vV : PySem.W.findCls K (.type "ValueError") (.type "type") "__init__" = some (.val (.builtin "ValueError.__init__"))) :
    ∃ fd : FuncData, (∀ (s : Shared) (v : Value), BindsTo s fd ⟨[v], []⟩ [("_law_script", v)]) ∧ ∀ base : Heap, K.In base → base.Ns mainGlobals mg → FnOk l.prog w K mg base CX0 14 fa fd ["_law_script"] (spLaw K) := by
  have e := hfa.symm.trans (PySem.W.mg_of X G a_law)
  cases e
  subst eM
  subst eL
  have F_SI : FunD K "__init__" "Share.__init__" (defArgs s_SI) (defBody s_SI) (defScope s_SI) [.int 1] [] f_SI _ := ⟨⟨_, _, _, _, _, _, _, _, _, _, rfl, l_SI, c_SI, .inr ⟨by simp, _, _, _, _, rfl, dSI, rfl, .cons ⟨_, rfl⟩ .nil⟩, .inl rfl⟩, k_SI⟩
  have F_WE : FunD K "__init__" "WalkError.__init__" (defArgs s_WE) (defBody s_WE) (defScope s_WE) [.str xW] [] f_WE _ := ⟨⟨_, _, _, _, _, _, _, _, _, _, rfl, l_WE, c_WE, .inr ⟨by simp, _, _, _, _, rfl, dWE, rfl, .cons ⟨_, rfl⟩ .nil⟩, .inl rfl⟩, k_WE⟩
  have F_BS := fun_mk (st := s_BS) l_BS c_BS k_BS
  have F_iw := fun_mk (st := s_is_whole) l_iw c_iw k_iw
  have F_ib := fun_mk (st := s_is_between) l_ib c_ib k_ib
  have F_ii := fun_mk (st := s_is_index) l_ii c_ii k_ii
  have F_tu := fun_mk (st := s_tupOf) l_tu c_tu k_tu
  have F_ixp := fun_mk (st := s_index_pairs) l_ixp c_ixp k_ixp
  have F_add := fun_mk (st := s_add) l_add c_add k_add
  have F_radd := fun_mk (st := s_radd) l_radd c_radd k_radd
  have F_eq := fun_mk (st := s_eq) l_eq c_eq k_eq
  have F_less := fun_mk (st := s_sless) l_less c_less k_less
  have F_ish := fun_mk (st := s_is_share) l_ish c_ish k_ish
  have F_sof := fun_mk (st := s_share_of) l_sof c_sof k_sof
  have F_tot := fun_mk (st := s_total) l_tot c_tot k_tot
  have F_abv := fun_mk (st := s_above) l_abv c_abv k_abv
  have F_DI := fun_mk (st := s_DI) l_DI c_DI k_DI
  have F_mln := fun_mk (st := s_mlen) l_mln c_mln k_mln
  have F_prt := fun_mk (st := s_part) l_prt c_prt k_prt
  have F_hvs := fun_mk (st := s_halves) l_hvs c_hvs k_hvs
  have F_hlf := fun_mk (st := s_half) l_hlf c_hlf k_hlf
  have F_abl := fun_mk (st := s_able) l_abl c_abl k_abl
  have F_led := fun_mk (st := s_led) l_led c_led k_led
  have F_evr := fun_mk (st := s_every) l_evr c_evr k_evr
  have F_gwd := fun_mk (st := s_gw) l_gwd c_gwd k_gwd
  have F_stk := fun_mk (st := s_stuck) l_stk c_stk k_stk
  have F_pool := fun_mk (st := s_pool) l_pool c_pool k_pool
  have F_draw := fun_mk (st := s_draw) l_draw c_draw k_draw
  have F_pick := fun_mk (st := s_pick) l_pick c_pick k_pick
  have F_trn := fun_mk (st := s_turn) l_trn c_trn k_trn
  have F_whl := fun_mk (st := s_whole) l_whl c_whl k_whl
  have F_lint := fun_mk (st := s_lint) l_lint c_lint k_lint
  have F_map := fun_mk (st := s_map) l_map c_map k_map
  have F_dpa := fun_mk (st := s_draw_parts) l_dpa c_dpa k_dpa
  have F_giv := fun_mk (st := s_given) l_giv c_giv k_giv
  have F_gat := fun_mk (st := s_gather) l_gat c_gat k_gat
  have F_rng := fun_mk (st := s_ring) l_rng c_rng k_rng
  have F_wei := fun_mk (st := s_weighed) l_wei c_wei k_wei
  have F_inh := fun_mk (st := s_in_half) l_inh c_inh k_inh
  have F_lmk := fun_mk (st := s_led_mask) l_lmk c_lmk k_lmk
  have F_lon := fun_mk (st := s_is_lone) l_lon c_lon k_lon
  have F_wrd := fun_mk (st := s_word) l_wrd c_wrd k_wrd
  have F_law := fun_mk (st := s_law) l_law c_law k_law
  have b_BS := F_BS.binds (ps := ["self", "top", "bottom"]) fun _ _ _ _ _ _ us hl => match us, hl with | [_, _, _], _ => rfl
  have b_iw := F_iw.binds (ps := ["thing"]) fun _ _ _ _ _ _ us hl => match us, hl with | [_], _ => rfl
  have b_ib := F_ib.binds (ps := ["least", "most", "thing"]) fun _ _ _ _ _ _ us hl => match us, hl with | [_, _, _], _ => rfl
  have b_ii := F_ii.binds (ps := ["many", "thing"]) fun _ _ _ _ _ _ us hl => match us, hl with | [_, _], _ => rfl
  have b_tu := F_tu.binds (ps := ["many", "thing"]) fun _ _ _ _ _ _ us hl => match us, hl with | [_, _], _ => rfl
  have b_ixp := F_ixp.binds (ps := ["many"]) fun _ _ _ _ _ _ us hl => match us, hl with | [_], _ => rfl
  have b_add := F_add.binds (ps := ["self", "other"]) fun _ _ _ _ _ _ us hl => match us, hl with | [_, _], _ => rfl
  have b_radd := F_radd.binds (ps := ["self", "other"]) fun _ _ _ _ _ _ us hl => match us, hl with | [_, _], _ => rfl
  have b_eq := F_eq.binds (ps := ["self", "other"]) fun _ _ _ _ _ _ us hl => match us, hl with | [_, _], _ => rfl
  have b_less := F_less.binds (ps := ["self", "other"]) fun _ _ _ _ _ _ us hl => match us, hl with | [_, _], _ => rfl
  have b_ish := F_ish.binds (ps := ["thing"]) fun _ _ _ _ _ _ us hl => match us, hl with | [_], _ => rfl
  have b_sof := F_sof.binds (ps := ["thing"]) fun _ _ _ _ _ _ us hl => match us, hl with | [_], _ => rfl
  have b_tot := F_tot.binds (ps := ["row"]) fun _ _ _ _ _ _ us hl => match us, hl with | [_], _ => rfl
  have b_abv := F_abv.binds (ps := ["thing"]) fun _ _ _ _ _ _ us hl => match us, hl with | [_], _ => rfl
  have b_DI := F_DI.binds (ps := ["self", "parts"]) fun _ _ _ _ _ _ us hl => match us, hl with | [_, _], _ => rfl
  have b_mln := F_mln.binds (ps := ["part"]) fun _ _ _ _ _ _ us hl => match us, hl with | [_], _ => rfl
  have b_prt := F_prt.binds (ps := ["size", "thing"]) fun _ _ _ _ _ _ us hl => match us, hl with | [_, _], _ => rfl
  have b_hvs := F_hvs.binds (ps := ["many"]) fun _ _ _ _ _ _ us hl => match us, hl with | [_], _ => rfl
  have b_hlf := F_hlf.binds (ps := ["pair"]) fun _ _ _ _ _ _ us hl => match us, hl with | [_], _ => rfl
  have b_abl := F_abl.binds (ps := ["moves", "places", "goals"]) fun _ _ _ _ _ _ us hl => match us, hl with | [_, _, _], _ => rfl
  have b_led := F_led.binds (ps := ["states", "leads"]) fun _ _ _ _ _ _ us hl => match us, hl with | [_, _], _ => rfl
  have b_evr := F_evr.binds (ps := ["draw"]) fun _ _ _ _ _ _ us hl => match us, hl with | [_], _ => rfl
  have b_gwd := F_gwd.binds (ps := ["draw"]) fun _ _ _ _ _ _ us hl => match us, hl with | [_], _ => rfl
  have b_stk := F_stk.binds (ps := ["draw"]) fun _ _ _ _ _ _ us hl => match us, hl with | [_], _ => rfl
  have b_pool := F_pool.binds (ps := ["_law_script"]) fun _ _ _ _ _ _ us hl => match us, hl with | [_], _ => rfl
  have b_draw := F_draw.binds (ps := ["_law_pool_here", "_law_many"]) fun _ _ _ _ _ _ us hl => match us, hl with | [_, _], _ => rfl
  have b_pick := F_pick.binds (ps := ["_law_pool_here", "_law_things"]) fun _ _ _ _ _ _ us hl => match us, hl with | [_, _], _ => rfl
  have b_trn := F_trn.binds (ps := ["_law_pool_here", "_law_things"]) fun _ _ _ _ _ _ us hl => match us, hl with | [_, _], _ => rfl
  have b_whl := F_whl.binds (ps := ["_law_top", "_law_whole_here"]) fun _ _ _ _ _ _ us hl => match us, hl with | [_, _], _ => rfl
  have b_lint := F_lint.binds (ps := ["_law_thing"]) fun _ _ _ _ _ _ us hl => match us, hl with | [_], _ => rfl
  have b_map := F_map.binds (ps := ["_law_pool_here", "_law_size"]) fun _ _ _ _ _ _ us hl => match us, hl with | [_, _], _ => rfl
  have b_dpa := F_dpa.binds (ps := ["_law_pool_here", "_law_size", "_law_most"]) fun _ _ _ _ _ _ us hl => match us, hl with | [_, _, _], _ => rfl
  have b_giv := F_giv.binds (ps := ["_law_pool_here", "_law_parts"]) fun _ _ _ _ _ _ us hl => match us, hl with | [_, _], _ => rfl
  have b_gat := F_gat.binds (ps := ["_law_pool_here", "_law_size"]) fun _ _ _ _ _ _ us hl => match us, hl with | [_, _], _ => rfl
  have b_rng := F_rng.binds (ps := ["_law_pool_here", "_law_size"]) fun _ _ _ _ _ _ us hl => match us, hl with | [_, _], _ => rfl
  have b_wei := F_wei.binds (ps := ["_law_pool_here", "_law_maps"]) fun _ _ _ _ _ _ us hl => match us, hl with | [_, _], _ => rfl
  have b_inh := F_inh.binds (ps := ["_law_pool_here", "_law_halves", "_law_half", "_law_s"]) fun _ _ _ _ _ _ us hl => match us, hl with | [_, _, _, _], _ => rfl
  have b_lmk := F_lmk.binds (ps := ["_law_mask", "_law_led"]) fun _ _ _ _ _ _ us hl => match us, hl with | [_, _], _ => rfl
  have b_lon := F_lon.binds (ps := ["_law_mask"]) fun _ _ _ _ _ _ us hl => match us, hl with | [_], _ => rfl
  have b_wrd := F_wrd.binds (ps := ["_law_maps", "_law_size"]) fun _ _ _ _ _ _ us hl => match us, hl with | [_, _], _ => rfl
  obtain ⟨d2, v2, bSI2⟩ := F_SI.binds1 (ps := ["self", "top", "bottom"]) 3 1 (by simp) rfl fun _ _ _ _ _ _ _ us its hu hi => match us, its, hu, hi with | [_, _, _], [_], _, _ => ⟨_, rfl, rfl⟩
  cases v2
  obtain ⟨dsS, vS, bSI1⟩ := F_SI.binds1 (ps := ["self", "top", "bottom"]) 2 0 (by simp) rfl fun _ _ _ _ _ _ _ us its hu hi => match us, its, hu, hi with | [_, _], [_], _, _ => ⟨_, rfl, rfl⟩
  obtain ⟨d3, v3, bWE⟩ := F_WE.binds1 (ps := ["self", "words"]) 2 1 (by simp) rfl fun _ _ _ _ _ _ _ us its hu hi => match us, its, hu, hi with | [_, _], [_], _, _ => ⟨_, rfl, rfl⟩
  cases v3
  have bn : Bn mg := ⟨PySem.W.mg_none_of X G n_isinstance, PySem.W.mg_none_of X G n_int, PySem.W.mg_none_of X G n_bool, PySem.W.mg_none_of X G n_abs, PySem.W.mg_none_of X G n_len, PySem.W.mg_none_of X G n_str, PySem.W.mg_none_of X G n_divmod, PySem.W.mg_none_of X G n_ValueError⟩
  have T : Bm mg := ⟨bn, PySem.W.mg_none_of X G n_list, PySem.W.mg_none_of X G n_tuple, PySem.W.mg_none_of X G n_range, PySem.W.mg_none_of X G n_sum, PySem.W.mg_none_of X G n_min, PySem.W.mg_none_of X G n_max, PySem.W.mg_none_of X G n_all, PySem.W.mg_none_of X G n_any, PySem.W.mg_none_of X G n_set, PySem.W.mg_none_of X G n_sorted, PySem.W.mg_none_of X G n_enumerate⟩
  have itS : InsT K C := ⟨⟨pgS, hdS, poS, saS⟩, haS, hn, htk, hmS, kit_sub uS_int (by decide +kernel), kit_sub uS_bool (by decide +kernel), kit_self K C, kit_from hdS tCS (l := [.type "int", .type "object"]) (by decide +kernel) (by decide +kernel), kit_from hdS tCS (l := [.type "bool", .type "int", .type "object"]) (by decide +kernel) (by decide +kernel), kit_from hdS tCS (l := [.type "NoneType", .type "object"]) (by decide +kernel) (by decide +kernel), kit_from hdS tCS (l := [.type "str", .type "object"]) (by decide +kernel) (by decide +kernel), kit_from hdS tCS (l := [.type "list", .type "object"]) (by decide +kernel) (by decide +kernel), kit_from hdS tCS (l := [.type "tuple", .type "object"]) (by decide +kernel) (by decide +kernel), kit_from hdS tCS (l := [.type "dict", .type "object"]) (by decide +kernel) (by decide +kernel)⟩
  have itC : InsT K DC := ⟨⟨pgD, hdD, poD, saD⟩, haD, hn, htk, hmD, kit_sub uD_int (by decide +kernel), kit_sub uD_bool (by decide +kernel), kit_self K DC, kit_from hdD tCD (l := [.type "int", .type "object"]) (by decide +kernel) (by decide +kernel), kit_from hdD tCD (l := [.type "bool", .type "int", .type "object"]) (by decide +kernel) (by decide +kernel), kit_from hdD tCD (l := [.type "NoneType", .type "object"]) (by decide +kernel) (by decide +kernel), kit_from hdD tCD (l := [.type "str", .type "object"]) (by decide +kernel) (by decide +kernel), kit_from hdD tCD (l := [.type "list", .type "object"]) (by decide +kernel) (by decide +kernel), kit_from hdD tCD (l := [.type "tuple", .type "object"]) (by decide +kernel) (by decide +kernel), kit_from hdD tCD (l := [.type "dict", .type "object"]) (by decide +kernel) (by decide +kernel)⟩
  have sh : ShT K mg C := { bn := bn, it := itS, nT := nT, nB := nBm, g_gcd := PySem.W.mg_of X G aG, g_Share := PySem.W.mg_of X G aS }
  have t : DrT K mg DC := { it := itC, nS := nSz, nP := nPt, gD := PySem.W.mg_of X G aD }
  have dg : DrG mg := { gP := ⟨tkM, PySem.W.mg_of X G aM⟩, gL := ⟨tkL, PySem.W.mg_of X G aL⟩ }
  have tuS : PySem.W.kitOne K (.ref C) (.type "tuple") = some false := kit_sub uS_tuple (by decide +kernel)
  have nt : NoTxt K C := ⟨uS_str, uS_bytes, uS_bytearray⟩
  have gW : mg "WalkError" = some (.ref W) := PySem.W.mg_of X G aW
  have OB : OexC K BS := { cls := ⟨_, _, _, _, _, _, _, _, _, _, _, _, _, _, _, xB, rB⟩, sa := saB, exC := exB, tyC := tB, kC := kB }
  have cW : ClsFn K W (.type "type") "__init__" f_WE := ⟨rdW, gaW, fcW, k_WE⟩
  have ownS : OwnT K C f_eq := { q := ⟨a_eq, neS, hmS, i_eq⟩, sint := uS_int, sbool := uS_bool, snon := uS_NoneType, sstr := uS_str, slst := uS_list, stup := uS_tuple, sdct := uS_dict }
  have LA : ArL K C .Add "+" "add" f_add := ⟨rfl, sf, d_add, i_add⟩
  have RA : ArR K C "add" f_radd := ⟨e_add, i_radd, ⟨_, o_add⟩, PySem.F.fills_int_add, upC, uS_int, _, PySem.F.slot_int_add, OA.dec_add⟩
  have cs : ∀ base : Heap, LawT l.prog w K mg base C DC := by
    intro base
    have n_ok_WE : FnOk l.prog w K mg base CX0 1 f_WE _ ["self", "words"] (spWE K) := ok_WE F_WE bn vV
    have n_ok_BS : FnOk l.prog w K mg base CX0 2 f_BS _ ["self", "top", "bottom"] (spBS K BS) := ok_BS F_BS gW cW n_ok_WE bWE
    have Bt : BsT l.prog w K mg base BS := { O := OB, nt := ntB, nb := nbB, gB := PySem.W.mg_of X G aB, made := ⟨_, _, a_BS, tfB, n_ok_BS, b_BS⟩ }
    have c_iw : Cal l.prog w K mg base 1 "is_whole" ["thing"] (spWhole K C) := ⟨_, _, PySem.W.mg_of X G a_iw, k_iw, ok_is_whole F_iw bn itS, b_iw⟩
    have c_iw2 : Cal l.prog w K mg base 1 "is_whole" ["thing"] (spWhole2 K C DC) := ⟨_, _, PySem.W.mg_of X G a_iw, k_iw, ok_is_whole2 F_iw bn itS itC, b_iw⟩
    have c_ib : Cal l.prog w K mg base 2 "is_between" ["least", "most", "thing"] (spBetween K C DC) := ⟨_, _, PySem.W.mg_of X G a_ib, k_ib, ok_is_between F_ib c_iw2, b_ib⟩
    have c_ii : Cal l.prog w K mg base 3 "is_index" ["many", "thing"] (spIndex K C DC) := ⟨_, _, PySem.W.mg_of X G a_ii, k_ii, ok_is_index F_ii c_ib, b_ii⟩
    have c_tu : Cal l.prog w K mg base 1 "is_tuple_of" ["many", "thing"] (spTupOf K C) := ⟨_, _, PySem.W.mg_of X G a_tu, k_tu, ok_tupOf F_tu sh T.n_tuple tuS, b_tu⟩
    have c_ixp : Cal l.prog w K mg base 1 "index_pairs" ["many"] spIxPrs := ⟨_, _, PySem.W.mg_of X G a_ixp, k_ixp, ok_index_pairs F_ixp T, b_ixp⟩
    have n_ok_SI : FnOk l.prog w K mg base (L2.CX l.prog w) 4 f_SI _ ["self", "top", "bottom"] (spSI K C BS) := ok_SI F_SI sh Bt c_iw
    have m : MkT l.prog w K mg base C BS := { ex := ⟨_, _, _, ⟨mkS, a_SI, i_SI, kcS⟩, n_ok_SI, bSI2, vS, bSI1⟩, gS := sh.g_Share }
    have n_ok_eq : FnOk l.prog w K mg base CX0 2 f_eq _ ["self", "other"] (spOwn (EqS K C)) := ok_eq F_eq sh c_iw
    have eqT : EqT l.prog w K mg base C := ⟨_, _, ownS, n_ok_eq, b_eq⟩
    have c_ish : Cal l.prog w K mg base 2 "is_share" ["thing"] (spIsShare K C) := ⟨_, _, PySem.W.mg_of X G a_ish, k_ish, ok_is_share F_ish sh c_iw, b_ish⟩
    have c_sof : Cal l.prog w K mg base 6 "share_of" ["thing"] (spShareOf C) := ⟨_, _, PySem.W.mg_of X G a_sof, k_sof, ok_share_of F_sof sh m, b_sof⟩
    have n_ok_less : FnOk l.prog w K mg base CX0 7 f_less _ ["self", "other"] (spLess C) := ok_sless F_less sh c_sof
    have ls : LsT l.prog w K mg base C := ⟨_, _, ⟨a_less, i_less, k_less⟩, n_ok_less, b_less⟩
    have n_ok_add : FnOk l.prog w K mg base CX0 7 f_add _ ["self", "other"] (spAdd C) := ok_add F_add sh m c_ish c_sof
    have adL : ArTL l.prog w K mg base C .Add "+" "add" 7 (spAdd C) := ⟨_, _, _, LA, RA, n_ok_add, b_add⟩
    have n_ok_radd : FnOk l.prog w K mg base CX0 8 f_radd _ ["self", "other"] (spRadd C) := ok_radd F_radd c_iw adL
    have ad : AddT l.prog w K mg base C := ⟨_, _, _, _, LA, RA, n_ok_add, b_add, n_ok_radd, b_radd⟩
    have c_tot : Cal l.prog w K mg base 10 "total" ["row"] (spTotalN K C) := ⟨_, _, PySem.W.mg_of X G a_tot, k_tot, ok_totalN F_tot m nt T.n_sum ad, b_tot⟩
    have c_abv : Cal l.prog w K mg base 8 "is_above_zero" ["thing"] (spAbove K C) := ⟨_, _, PySem.W.mg_of X G a_abv, k_abv, ok_above F_abv sh c_ish c_sof ls, b_abv⟩
    have c_mln : Cal l.prog w K mg base 2 "map_length" ["part"] spMapLen := ⟨_, _, PySem.W.mg_of X G a_mln, k_mln, ok_mlen F_mln T c_tu, b_mln⟩
    have c_prt : Cal l.prog w K mg base 9 "is_part" ["size", "thing"] (spIsPart C) := ⟨_, _, PySem.W.mg_of X G a_prt, k_prt, ok_part F_prt T dg c_tu c_abv c_ii, b_prt⟩
    have n_ok_DI : FnOk l.prog w K mg base CX0 12 f_DI _ ["self", "parts"] (spDI C DC) := ok_DI F_DI T t dg c_mln c_prt c_sof c_tot eqT
    have mD : MkD l.prog w K mg base C DC := { ex := ⟨_, _, ⟨mkD, a_DI, i_DI, kcD⟩, n_ok_DI, b_DI⟩, gD := t.gD }
    have c_hvs : Cal l.prog w K mg base 2 "halves" ["many"] spHalves := ⟨_, _, PySem.W.mg_of X G a_hvs, k_hvs, ok_halves F_hvs c_ixp, b_hvs⟩
    have c_hlf : Cal l.prog w K mg base 1 "half" ["pair"] spHalf := ⟨_, _, PySem.W.mg_of X G a_hlf, k_hlf, ok_half F_hlf T, b_hlf⟩
    have c_abl : Cal l.prog w K mg base 2 "able_places" ["moves", "places", "goals"] spAbleP := ⟨_, _, PySem.W.mg_of X G a_abl, k_abl, ok_able F_abl T, b_abl⟩
    have c_led : Cal l.prog w K mg base 1 "led" ["states", "leads"] spLed := ⟨_, _, PySem.W.mg_of X G a_led, k_led, ok_led F_led T, b_led⟩
    have c_evr : Cal l.prog w K mg base 1 "everywhere" ["draw"] (spEvery DC) := ⟨_, _, PySem.W.mg_of X G a_evr, k_evr, ok_every F_evr T t, b_evr⟩
    have c_gwd : Cal l.prog w K mg base 2 "gather_word" ["draw"] (spGW DC) := ⟨_, _, PySem.W.mg_of X G a_gwd, k_gwd, ok_gw F_gwd T t c_evr c_led, b_gwd⟩
    have c_stk : Cal l.prog w K mg base 3 "stuck" ["draw"] (spStuck DC) := ⟨_, _, PySem.W.mg_of X G a_stk, k_stk, ok_stuck F_stk T t c_hvs c_hlf c_abl, b_stk⟩
    have c_pool : Cal l.prog w K mg base 1 "_law_pool" ["_law_script"] (spPool K) := ⟨_, _, PySem.W.mg_of X G a_pool, k_pool, ok_pool F_pool bn, b_pool⟩
    have c_draw : Cal l.prog w K mg base 1 "_law_draw" ["_law_pool_here", "_law_many"] spDraw := ⟨_, _, PySem.W.mg_of X G a_draw, k_draw, ok_draw F_draw bn, b_draw⟩
    have c_pick : Cal l.prog w K mg base 2 "_law_pick" ["_law_pool_here", "_law_things"] spPickQ := ⟨_, _, PySem.W.mg_of X G a_pick, k_pick, ok_pickQ F_pick bn c_draw, b_pick⟩
    have c_trn : Cal l.prog w K mg base 2 "_law_turned_about" ["_law_pool_here", "_law_things"] spTurnAbout := ⟨_, _, PySem.W.mg_of X G a_trn, k_trn, ok_turn F_trn T c_draw, b_trn⟩
    have c_whl : Cal l.prog w K mg base 6 "_law_whole" ["_law_top", "_law_whole_here"] (spWholeP C) := ⟨_, _, PySem.W.mg_of X G a_whl, k_whl, ok_whole F_whl m, b_whl⟩
    have c_lint : Cal l.prog w K mg base 1 "_law_is_integer" ["_law_thing"] (spWhole K C) := ⟨_, _, PySem.W.mg_of X G a_lint, k_lint, ok_lint F_lint bn itS, b_lint⟩
    have c_map : Cal l.prog w K mg base 3 "_law_map" ["_law_pool_here", "_law_size"] spMap := ⟨_, _, PySem.W.mg_of X G a_map, k_map, ok_map F_map T c_draw c_trn, b_map⟩
    have c_dpa : Cal l.prog w K mg base 4 "_law_draw_parts" ["_law_pool_here", "_law_size", "_law_most"] spDrawParts := ⟨_, _, PySem.W.mg_of X G a_dpa, k_dpa, ok_draw_parts F_dpa T c_draw c_map, b_dpa⟩
    have c_rng : Cal l.prog w K mg base 3 "_law_ring" ["_law_pool_here", "_law_size"] spRing := ⟨_, _, PySem.W.mg_of X G a_rng, k_rng, ok_ring F_rng T c_trn, b_rng⟩
    have c_wei : Cal l.prog w K mg base 2 "_law_weighed" ["_law_pool_here", "_law_maps"] spWeighed := ⟨_, _, PySem.W.mg_of X G a_wei, k_wei, ok_weighed F_wei T c_draw, b_wei⟩
    have c_inh : Cal l.prog w K mg base 3 "_law_in_half" ["_law_pool_here", "_law_halves", "_law_half", "_law_s"] spInHalf := ⟨_, _, PySem.W.mg_of X G a_inh, k_inh, ok_in_half F_inh T c_pick, b_inh⟩
    have c_giv : Cal l.prog w K mg base 7 "_law_given" ["_law_pool_here", "_law_parts"] (spGiven C) := ⟨_, _, PySem.W.mg_of X G a_giv, k_giv, ok_given F_giv T m c_draw c_whl, b_giv⟩
    have c_gat : Cal l.prog w K mg base 5 "_law_gather_parts" ["_law_pool_here", "_law_size"] spGather := ⟨_, _, PySem.W.mg_of X G a_gat, k_gat, ok_gather F_gat T c_draw c_trn c_dpa c_rng c_wei c_inh, b_gat⟩
    have c_lmk : Cal l.prog w K mg base 1 "_law_led_mask" ["_law_mask", "_law_led"] spLedMask := ⟨_, _, PySem.W.mg_of X G a_lmk, k_lmk, ok_led_mask F_lmk T, b_lmk⟩
    have c_lon : Cal l.prog w K mg base 1 "_law_is_lone" ["_law_mask"] spLone := ⟨_, _, PySem.W.mg_of X G a_lon, k_lon, ok_is_lone F_lon , b_lon⟩
    have c_wrd : Cal l.prog w K mg base 2 "_law_word" ["_law_maps", "_law_size"] spWord := ⟨_, _, PySem.W.mg_of X G a_wrd, k_wrd, ok_word F_wrd T c_lon c_lmk, b_wrd⟩
    exact { T := T, t := t, mD := mD, pool := c_pool, draw := c_draw, turn := c_trn, given := c_giv, gather := c_gat, ring := c_rng, weighed := c_wei, word := c_wrd, gw := c_gwd, stuck := c_stk, lint := c_lint }
  exact ⟨_, fun s v => .of_eq rfl, fun base _ _ => ok_law F_law (cs base)⟩
end
theorem walk {l : PySem.W.OpenLaw} {q : Program} {loose : List Str} {XP : (Str → Option Value) → Heap → Prop} {YP : World → Heap → Prop} {d : DefRec} {K : Params → PySem.W.Frag} (hn : l.most = some 63) (hdf : d.params.defaults = [])
    (hY : ∀ (w : World) (h : Heap), YP w h → (K w.params).In h)
    (F : ∀ (w : World) (mg : Str → Option Value) (fa : Addr) (h : Heap), (K w.params).In h → h.Ns mainGlobals mg → mg d.name = some (.ref fa) →
      ∃ fd : FuncData, (∀ (s : Shared) (u : Value), BindsTo s fd ⟨[u], []⟩ [("_law_script", u)]) ∧ ∀ base : Heap, (K w.params).In base → base.Ns mainGlobals mg → FnOk l.prog w (K w.params) mg base CX0 14 fa fd ["_law_script"] (spLaw (K w.params))) :
    PySem.W.WalkO q loose XP YP l.row.toRowW d [] (fun f vs => PySem.call f vs) :=
  L2.walk_of (n := 63) (k := 14) (x := "_law_script") (CX := fun _ => CX0) (sp := fun w => spLaw (K w.params)) hn (by decide) hdf ⟨rfl, by decide, by decide⟩ hY F (fun _ _ a ns hl _ hS => ⟨a, ns, rfl, hS, hl, fun _ => rfl⟩) fun _ _ _ _ _ z => z
end KD
set_option Elab.async false
set_option maxRecDepth 100000
open PySem PySem.W PyProof.Rows
set_option maxRecDepth 100000
set_option maxHeartbeats 0
open_top head for PySem.Challenge.rw_bothwalks_k70_the_shortest_gathering_wor
set_option Elab.async false
set_option maxRecDepth 100000
set_option maxHeartbeats 0
open PySem PySem.W PyProof.Rows
theorem PySem.Challenge.cw_bothwalks_k70_the_shortest_gathering_wor_holds : PySem.Challenge.rw_bothwalks_k70_the_shortest_gathering_wor.Holds := by
  refine head ?_
  k_fill
  refine KD.walk (l := PySem.Challenge.rw_bothwalks_k70_the_shortest_gathering_wor) rfl rfl (fun w h Y => PySem.W.kIn_of Y) ?F
  case F =>
    intro w mg fa h KX G hmg
    refine' KD.all_mk KX G hmg ?aS ?aW ?aB ?aD ?aM ?eM ?aL ?eL ?aG ?n_isinstance ?n_int ?n_bool ?n_abs ?n_len ?n_str ?n_divmod ?n_ValueError ?n_list ?n_tuple ?n_range ?n_sum ?n_min ?n_max ?n_all ?n_any ?n_set ?n_sorted ?n_enumerate ?a_WE ?l_WE ?c_WE ?k_WE ?a_BS ?l_BS ?c_BS ?k_BS ?a_iw ?l_iw ?c_iw ?k_iw ?a_ib ?l_ib ?c_ib ?k_ib ?a_ii ?l_ii ?c_ii ?k_ii ?a_tu ?l_tu ?c_tu ?k_tu ?a_ixp ?l_ixp ?c_ixp ?k_ixp ?a_SI ?l_SI ?c_SI ?k_SI ?a_add ?l_add ?c_add ?k_add ?a_radd ?l_radd ?c_radd ?k_radd ?a_eq ?l_eq ?c_eq ?k_eq ?a_less ?l_less ?c_less ?k_less ?a_ish ?l_ish ?c_ish ?k_ish ?a_sof ?l_sof ?c_sof ?k_sof ?a_tot ?l_tot ?c_tot ?k_tot ?a_abv ?l_abv ?c_abv ?k_abv ?a_DI ?l_DI ?c_DI ?k_DI ?a_mln ?l_mln ?c_mln ?k_mln ?a_prt ?l_prt ?c_prt ?k_prt ?a_hvs ?l_hvs ?c_hvs ?k_hvs ?a_hlf ?l_hlf ?c_hlf ?k_hlf ?a_abl ?l_abl ?c_abl ?k_abl ?a_led ?l_led ?c_led ?k_led ?a_evr ?l_evr ?c_evr ?k_evr ?a_gwd ?l_gwd ?c_gwd ?k_gwd ?a_stk ?l_stk ?c_stk ?k_stk ?a_pool ?l_pool ?c_pool ?k_pool ?a_draw ?l_draw ?c_draw ?k_draw ?a_pick ?l_pick ?c_pick ?k_pick ?a_trn ?l_trn ?c_trn ?k_trn ?a_whl ?l_whl ?c_whl ?k_whl ?a_lint ?l_lint ?c_lint ?k_lint ?a_map ?l_map ?c_map ?k_map ?a_dpa ?l_dpa ?c_dpa ?k_dpa ?a_giv ?l_giv ?c_giv ?k_giv ?a_gat ?l_gat ?c_gat ?k_gat ?a_rng ?l_rng ?c_rng ?k_rng ?a_wei ?l_wei ?c_wei ?k_wei ?a_inh ?l_inh ?c_inh ?k_inh ?a_lmk ?l_lmk ?c_lmk ?k_lmk ?a_lon ?l_lon ?c_lon ?k_lon ?a_wrd ?l_wrd ?c_wrd ?k_wrd ?a_law ?l_law ?c_law ?k_law ?dSI ?dWE ?hn ?htk ?pgD ?hdD ?poD ?saD ?mkD ?kcD ?tCD ?haD ?hmD ?neD ?uD_int ?uD_bool ?uD_NoneType ?uD_str ?uD_list ?uD_tuple ?uD_dict ?pgS ?hdS ?poS ?saS ?mkS ?kcS ?tCS ?haS ?hmS ?neS ?uS_int ?uS_bool ?uS_NoneType ?uS_str ?uS_list ?uS_tuple ?uS_dict ?uS_bytes ?uS_bytearray ?sf ?upC ?d_add ?e_add ?o_add ?nSz ?nPt ?nT ?nBm ?i_SI ?i_eq ?i_add ?i_radd ?i_less ?i_DI ?xB ?rB ?saB ?exB ?tB ?kB ?hdB ?sBB ?ntB ?nbB ?tfB ?rdW ?gaW ?fcW ?vV
    (case aS => k_is)
    (case aW => k_is)
    (case aB => k_is)
    (case aD => k_is)
    (case aM => k_is)
    (case eM => decide +kernel)
    (case aL => k_is)
    (case eL => decide +kernel)
    (case aG => k_is)
    (case n_isinstance => k_is)
    (case n_int => k_is)
    (case n_bool => k_is)
    (case n_abs => k_is)
    (case n_len => k_is)
    (case n_str => k_is)
    (case n_divmod => k_is)
    (case n_ValueError => k_is)
    (case n_list => k_is)
    (case n_tuple => k_is)
    (case n_range => k_is)
    (case n_sum => k_is)
    (case n_min => k_is)
    (case n_max => k_is)
    (case n_all => k_is)
    (case n_any => k_is)
    (case n_set => k_is)
    (case n_sorted => k_is)
    (case n_enumerate => k_is)
    (case a_WE => k_is)
    (case l_WE => k_is)
    (case c_WE => k_is)
    (case k_WE => k_is)
    (case a_BS => k_is)
    (case l_BS => k_is)
    (case c_BS => k_is)
    (case k_BS => k_is)
    (case a_iw => k_is)
    (case l_iw => k_is)
    (case c_iw => k_is)
    (case k_iw => k_is)
    (case a_ib => k_is)
    (case l_ib => k_is)
    (case c_ib => k_is)
    (case k_ib => k_is)
    (case a_ii => k_is)
    (case l_ii => k_is)
    (case c_ii => k_is)
    (case k_ii => k_is)
    (case a_tu => k_is)
    (case l_tu => k_is)
    (case c_tu => k_is)
    (case k_tu => k_is)
    (case a_ixp => k_is)
    (case l_ixp => k_is)
    (case c_ixp => k_is)
    (case k_ixp => k_is)
    (case a_SI => k_is)
    (case l_SI => k_is)
    (case c_SI => k_is)
    (case k_SI => k_is)
    (case a_add => k_is)
    (case l_add => k_is)
    (case c_add => k_is)
    (case k_add => k_is)
    (case a_radd => k_is)
    (case l_radd => k_is)
    (case c_radd => k_is)
    (case k_radd => k_is)
    (case a_eq => k_is)
    (case l_eq => k_is)
    (case c_eq => k_is)
    (case k_eq => k_is)
    (case a_less => k_is)
    (case l_less => k_is)
    (case c_less => k_is)
    (case k_less => k_is)
    (case a_ish => k_is)
    (case l_ish => k_is)
    (case c_ish => k_is)
    (case k_ish => k_is)
    (case a_sof => k_is)
    (case l_sof => k_is)
    (case c_sof => k_is)
    (case k_sof => k_is)
    (case a_tot => k_is)
    (case l_tot => k_is)
    (case c_tot => k_is)
    (case k_tot => k_is)
    (case a_abv => k_is)
    (case l_abv => k_is)
    (case c_abv => k_is)
    (case k_abv => k_is)
    (case a_DI => k_is)
    (case l_DI => k_is)
    (case c_DI => k_is)
    (case k_DI => k_is)
    (case a_mln => k_is)
    (case l_mln => k_is)
    (case c_mln => k_is)
    (case k_mln => k_is)
    (case a_prt => k_is)
    (case l_prt => k_is)
    (case c_prt => k_is)
    (case k_prt => k_is)
    (case a_hvs => k_is)
    (case l_hvs => k_is)
    (case c_hvs => k_is)
    (case k_hvs => k_is)
    (case a_hlf => k_is)
    (case l_hlf => k_is)
    (case c_hlf => k_is)
    (case k_hlf => k_is)
    (case a_abl => k_is)
    (case l_abl => k_is)
    (case c_abl => k_is)
    (case k_abl => k_is)
    (case a_led => k_is)
    (case l_led => k_is)
    (case c_led => k_is)
    (case k_led => k_is)
    (case a_evr => k_is)
    (case l_evr => k_is)
    (case c_evr => k_is)
    (case k_evr => k_is)
    (case a_gwd => k_is)
    (case l_gwd => k_is)
    (case c_gwd => k_is)
    (case k_gwd => k_is)
    (case a_stk => k_is)
    (case l_stk => k_is)
    (case c_stk => k_is)
    (case k_stk => k_is)
    (case a_pool => k_is)
    (case l_pool => k_is)
    (case c_pool => k_is)
    (case k_pool => k_is)
    (case a_draw => k_is)
    (case l_draw => k_is)
    (case c_draw => k_is)
    (case k_draw => k_is)
    (case a_pick => k_is)
    (case l_pick => k_is)
    (case c_pick => k_is)
    (case k_pick => k_is)
    (case a_trn => k_is)
    (case l_trn => k_is)
    (case c_trn => k_is)
    (case k_trn => k_is)
    (case a_whl => k_is)
    (case l_whl => k_is)
    (case c_whl => k_is)
    (case k_whl => k_is)
    (case a_lint => k_is)
    (case l_lint => k_is)
    (case c_lint => k_is)
    (case k_lint => k_is)
    (case a_map => k_is)
    (case l_map => k_is)
    (case c_map => k_is)
    (case k_map => k_is)
    (case a_dpa => k_is)
    (case l_dpa => k_is)
    (case c_dpa => k_is)
    (case k_dpa => k_is)
    (case a_giv => k_is)
    (case l_giv => k_is)
    (case c_giv => k_is)
    (case k_giv => k_is)
    (case a_gat => k_is)
    (case l_gat => k_is)
    (case c_gat => k_is)
    (case k_gat => k_is)
    (case a_rng => k_is)
    (case l_rng => k_is)
    (case c_rng => k_is)
    (case k_rng => k_is)
    (case a_wei => k_is)
    (case l_wei => k_is)
    (case c_wei => k_is)
    (case k_wei => k_is)
    (case a_inh => k_is)
    (case l_inh => k_is)
    (case c_inh => k_is)
    (case k_inh => k_is)
    (case a_lmk => k_is)
    (case l_lmk => k_is)
    (case c_lmk => k_is)
    (case k_lmk => k_is)
    (case a_lon => k_is)
    (case l_lon => k_is)
    (case c_lon => k_is)
    (case k_lon => k_is)
    (case a_wrd => k_is)
    (case l_wrd => k_is)
    (case c_wrd => k_is)
    (case k_wrd => k_is)
    (case a_law => k_is)
    (case l_law => k_is)
    (case c_law => k_is)
    (case k_law => k_is)
    (case dSI => k_is)
    (case dWE => k_is)
    (case hn => k_is)
    (case htk => k_is)
    (case pgD => k_is)
    (case hdD => k_is)
    (case poD => k_is)
    (case saD => k_is)
    (case mkD => k_is)
    (case kcD => k_is)
    (case tCD => k_is)
    (case haD => k_is)
    (case hmD => k_is)
    (case neD => k_is)
    (case uD_int => k_is)
    (case uD_bool => k_is)
    (case uD_NoneType => k_is)
    (case uD_str => k_is)
    (case uD_list => k_is)
    (case uD_tuple => k_is)
    (case uD_dict => k_is)
    (case pgS => k_is)
    (case hdS => k_is)
    (case poS => k_is)
    (case saS => k_is)
    (case mkS => k_is)
    (case kcS => k_is)
    (case tCS => k_is)
    (case haS => k_is)
    (case hmS => k_is)
    (case neS => k_is)
    (case uS_int => k_is)
    (case uS_bool => k_is)
    (case uS_NoneType => k_is)
    (case uS_str => k_is)
    (case uS_list => k_is)
    (case uS_tuple => k_is)
    (case uS_dict => k_is)
    (case uS_bytes => k_is)
    (case uS_bytearray => k_is)
    (case sf => k_is)
    (case upC => k_is)
    (case d_add => k_is)
    (case e_add => k_is)
    (case o_add => k_is)
    (case nSz => k_is)
    (case nPt => k_is)
    (case nT => k_is)
    (case nBm => k_is)
    (case i_SI => k_is)
    (case i_eq => k_is)
    (case i_add => k_is)
    (case i_radd => k_is)
    (case i_less => k_is)
    (case i_DI => k_is)
    (case xB => k_is)
    (case rB => first | rfl | decide +kernel | k_is)
    (case saB => k_is)
    (case exB => k_is)
    (case tB => k_is)
    (case kB => k_is)
    (case hdB => k_is)
    (case sBB => first | rfl | k_is)
    (case ntB => k_is)
    (case nbB => k_is)
    (case tfB => k_is)
    (case rdW => k_is)
    (case gaW => k_is)
    (case fcW => k_is)
    (case vV => k_is)

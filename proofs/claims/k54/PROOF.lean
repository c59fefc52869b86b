import PyProof.Rows.All
import HandS.ForMost
import HandS.SortInts
import HandS.TupSets
import HandS.TupLe
import HandS.Deep
import KE.LtData
import HandS.DictComp
import KE.KDictDisplayH
import Wide.All
import OpenK.AllK
import Wide.FinOn
import PyProof.EqAt
import PyProof.EqKinds
import PyProof.NeKinds
import PyProof.TupleCall
import HandS.OwnEq
import HandS.IsInst
import HandS.ForExc
import HandS.ExcInit
import HandS.Comp
import KE.DataEq
import HandS.ExcField
import HandS.ExcIs
import HandS.Gcd
import HandS.Wide
import HandS.WideBits
import HandS.Star
import HandS.EndBits
import HandS.ClsMeth
import HandS.Conv
import HandS.Flow
import HandS.TupAny
import HandS.SortKw
import HandS.Defaults
import PySem.Challenge.RW_bothwalks_k54_an_order_is_the_closure_of
import HandS.WordsExc
import KE.OsArith
import HandS.TryOnly
set_option Elab.async false
set_option linter.all false
set_option maxRecDepth 100000
set_option maxHeartbeats 4000000
/-! sorted(xs), xs a list of tuples of ints, the empty one among them: any length, any lengths -/
namespace UpT
open PySem PyProof.Rows
/-- strictly before, by the first place that differs -/
def ltL : List Int → List Int → Bool
  | _, [] => false
  | [], _ :: _ => true
  | a :: x, b :: y => if a = b then ltL x y else decide (a < b)
theorem ltL_nil (x : List Int) : ltL x [] = false := by cases x <;> rfl
theorem ltL_cons (a b : Int) (x y : List Int) : ltL (a :: x) (b :: y) = if a = b then ltL x y else decide (a < b) := rfl
theorem lex_lt (f g : Nat → Int) (z : Bool) : ∀ (ns ms : List Int) (i : Nat), (∀ k, k < ns.length → f (i + k) = ns.getD k 0) → (∀ k, k < ms.length → g (i + k) = ms.getD k 0) → z = decide (ns.length < ms.length) →
    Ob.lexAt (fun j => decide (f j = g j)) (fun j => decide (f j < g j)) z i (min ns.length ms.length) = ltL ns ms
  | [], [], i, _, _, hz => by rw [hz]; rfl
  | [], b :: y, i, _, _, hz => by rw [hz]; show Ob.lexAt _ _ _ _ (min 0 (y.length + 1)) = true; rw [Nat.zero_min]; exact decide_eq_true (Nat.succ_pos _)
  | a :: x, [], i, _, _, hz => by rw [hz]; show Ob.lexAt _ _ _ _ (min (x.length + 1) 0) = false; rw [Nat.min_zero]; exact decide_eq_false (Nat.not_lt_zero _)
  | a :: x, b :: y, i, hf, hg, hz => by
    have f0 : f i = a := hf 0 (Nat.succ_pos _)
    have g0 : g i = b := hg 0 (Nat.succ_pos _)
    have e : min (a :: x).length (b :: y).length = min x.length y.length + 1 := by
      show min (x.length + 1) (y.length + 1) = _
      omega
    rw [e, Ob.lexAt_succ, f0, g0, ltL_cons]
    by_cases q : a = b
    · rw [if_pos (decide_eq_true q), if_pos q]
      refine lex_lt f g z x y (i + 1) (fun k hk => ?_) (fun k hk => ?_) ?_
      · have h := hf (k + 1) (Nat.succ_lt_succ hk)
        rw [show i + 1 + k = i + (k + 1) by omega, h]
        rfl
      · have h := hg (k + 1) (Nat.succ_lt_succ hk)
        rw [show i + 1 + k = i + (k + 1) by omega, h]
        rfl
      · rw [hz]
        simp only [List.length_cons, Nat.add_lt_add_iff_right]
    · rw [if_neg (by simpa using q), if_neg q]
theorem ltL_asym : ∀ x y : List Int, ltL x y = true → ltL y x = false
  | x, [], h => by rw [ltL_nil] at h; cases h
  | [], b :: y, h => rfl
  | a :: x, b :: y, h => by
    rw [ltL_cons] at h ⊢
    by_cases q : a = b
    · rw [if_pos q] at h
      rw [if_pos q.symm]
      exact ltL_asym x y h
    · rw [if_neg q] at h
      rw [if_neg (fun z => q z.symm)]
      have := of_decide_eq_true h
      exact decide_eq_false (by omega)
theorem ltL_tr : ∀ x y z : List Int, ltL y x = false → ltL z y = false → ltL z x = false
  | [], y, z, _, _ => ltL_nil z
  | a :: x, [], z, h, _ => by cases h
  | a :: x, b :: y, [], _, h => by cases h
  | a :: x, b :: y, c :: z, h1, h2 => by
    rw [ltL_cons] at h1 h2 ⊢
    by_cases q : b = a
    · rw [if_pos q] at h1
      subst q
      by_cases q2 : c = b
      · rw [if_pos q2] at h2 ⊢
        exact ltL_tr x y z h1 h2
      · rw [if_neg q2] at h2 ⊢
        exact h2
    · rw [if_neg q] at h1
      have n1 := of_decide_eq_false h1
      by_cases q2 : c = b
      · rw [if_neg (by omega)]
        exact decide_eq_false (by omega)
      · rw [if_neg q2] at h2
        have n2 := of_decide_eq_false h2
        rw [if_neg (by omega)]
        exact decide_eq_false (by omega)
theorem ltL_anti : ∀ x y : List Int, ltL x y = false → ltL y x = false → x = y
  | [], [], _, _ => rfl
  | [], b :: y, h, _ => by cases h
  | a :: x, [], _, h => by cases h
  | a :: x, b :: y, h1, h2 => by
    rw [ltL_cons] at h1 h2
    by_cases q : a = b
    · rw [if_pos q] at h1
      rw [if_pos q.symm] at h2
      rw [q, ltL_anti x y h1 h2]
    · rw [if_neg q] at h1
      rw [if_neg (fun z => q z.symm)] at h2
      have := of_decide_eq_false h1
      have := of_decide_eq_false h2
      omega
theorem swo_by {α : Type} (k : α → List Int) : SrtO.Swo (fun x y => ltL (k x) (k y)) := ⟨fun x y h => ltL_asym _ _ h, fun x y z h1 h2 => ltL_tr _ _ _ h1 h2⟩
abbrev Srt (l : List (List Int)) : Prop := l.Pairwise fun x y => ltL y x = false
/-- there is one sorted list of the same ones -/
theorem srt_uniq : ∀ {l m : List (List Int)}, Srt l → Srt m → l.Perm m → l = m
  | [], m, _, _, h => (List.Perm.eq_nil h.symm).symm
  | x :: l, [], _, _, h => absurd h.length_eq (by simp)
  | x :: l, y :: m, hl, hm, h => by
    have e : x = y := by
      have h1 : ltL x y = false := by
        rcases List.mem_cons.mp (h.mem_iff.mp List.mem_cons_self) with e | hx
        · rw [e]
          exact (swo_by (id : List Int → List Int)).refl y
        · exact (List.pairwise_cons.mp hm).1 x hx
      have h2 : ltL y x = false := by
        rcases List.mem_cons.mp (h.mem_iff.mpr List.mem_cons_self) with e | hy
        · rw [e]
          exact (swo_by (id : List Int → List Int)).refl x
        · exact (List.pairwise_cons.mp hl).1 y hy
      exact ltL_anti x y h1 h2
    subst e
    rw [srt_uniq (List.pairwise_cons.mp hl).2 (List.pairwise_cons.mp hm).2 h.cons_inv]
section
variable {prog : Program} {w : World} {A : Around} {E : Value → Shared → Prop} {s : Shared}
theorem tup_lt_parts {v u : Value} {ns ms : List Int} (h1 : TS.TupInts s.heap v ns) (h2 : TS.TupInts s.heap u ms) :
    ∃ (a b : Addr) (its its2 : Array Value), v = .ref a ∧ u = .ref b ∧ s.heap.IsTuple a its ∧ s.heap.IsTuple b its2 ∧ (∀ j (h1 : j < its.size) (h2 : j < its2.size), SeqAt.EqAt A s its[j] its2[j] (decide (ns.getD j 0 = ms.getD j 0))) ∧
      (∀ j (h1 : j < its.size) (h2 : j < its2.size), decide (ns.getD j 0 = ms.getD j 0) = false → Ob.RcOp .Lt A s its[j] its2[j] (decide (ns.getD j 0 < ms.getD j 0))) ∧ its.size = ns.length ∧ its2.size = ms.length := by
  obtain ⟨a, its, rfl, p1, i1⟩ := h1
  obtain ⟨b, its2, rfl, p2, i2⟩ := h2
  have e1 : its.size = ns.length := by rw [← Array.length_toList]; exact i1.length
  have e2 : its2.size = ms.length := by rw [← Array.length_toList]; exact i2.length
  have at1 : ∀ j (h1 : j < its.size), ∃ t, its[j] = .int (ns.getD j 0) t := fun j h1 => by
    have h := PyProof.Rows.IntsAre.int_at i1 j its[j] (by simp [h1])
    exact h
  have at2 : ∀ j (h1 : j < its2.size), ∃ t, its2[j] = .int (ms.getD j 0) t := fun j h1 => by
    have h := PyProof.Rows.IntsAre.int_at i2 j its2[j] (by simp [h1])
    exact h
  refine ⟨a, b, its, its2, rfl, rfl, p1, p2, fun j h1 h2 => ?_, fun j h1 h2 _ => ?_, e1, e2⟩
  · obtain ⟨t, et⟩ := at1 j h1
    obtain ⟨t', et'⟩ := at2 j h2
    rw [et, et']
    have z : decide (ns.getD j 0 = ms.getD j 0) = (ns.getD j 0 == ms.getD j 0) := by
      rw [Bool.eq_iff_iff, decide_eq_true_eq, beq_iff_eq]
    rw [z]
    exact SeqAt.EqAt.int_int _ _ _ _
  · obtain ⟨t, et⟩ := at1 j h1
    obtain ⟨t', et'⟩ := at2 j h2
    rw [et, et']
    exact Ob.RcOp.lt_int _ _ _ _
theorem lex_of {ns ms : List Int} : Ob.lexAt (fun j => decide (ns.getD j 0 = ms.getD j 0)) (fun j => decide (ns.getD j 0 < ms.getD j 0)) (decide (ns.length < ms.length)) 0 (min ns.length ms.length) = ltL ns ms :=
  lex_lt (fun j => ns.getD j 0) (fun j => ms.getD j 0) _ ns ms 0 (fun k _ => by rw [Nat.zero_add]) (fun k _ => by rw [Nat.zero_add]) rfl
/-- < of two tuples of ints -/
theorem rc_tups {v u : Value} {ns ms : List Int} (h1 : TS.TupInts s.heap v ns) (h2 : TS.TupInts s.heap u ms) (hu : A.units < cLine) : Ob.RcOp .Lt A s v u (ltL ns ms) := by
  obtain ⟨a, b, its, its2, rfl, rfl, p1, p2, he, hr, e1, e2⟩ := tup_lt_parts (A := A.in1) h1 h2
  have R := Ob.RcOp.tuples_lt (A := A) (s := s) p1 p2 hu he hr
  rw [e1, e2, lex_of] at R
  exact R
/-- as sorting compares them -/
theorem one_tups (f : Bool) {v u : Value} {ns ms : List Int} (h1 : TS.TupInts s.heap v ns) (h2 : TS.TupInts s.heap u ms) (hu : A.units < cLine) {Q : Bool → Shared → Prop} (hq : Q (ltL ns ms) s) : wpAny (model prog w) A (oneLt' f v u) Q E s := by
  cases f with
  | false =>
    rw [oneLt'_eq]
    simp only [Bool.false_eq_true, if_false]
    exact wpAny_bind (rc_tups h1 h2 hu prog w E _ (wpAny_truthy_bool hq))
  | true =>
    obtain ⟨a, b, its, its2, rfl, rfl, p1, p2, he, hr, e1, e2⟩ := tup_lt_parts (A := A.in1) h1 h2
    obtain ⟨⟨cls, dd, data, sl⟩, ho, hc, n, hd⟩ := id p1
    obtain ⟨⟨cls2, dd2, data2, sl2⟩, ho2, hc2, n2, hd2⟩ := id p2
    simp only at hc hd hc2 hd2
    subst hc hd hc2 hd2
    rw [oneLt'_eq]
    simp only [if_true]
    refine wpAny_bind (wpAny_cRoomFor hu ?_)
    refine wpAny_bind (wpAny_callSpecialIfBound?_slot (T := "tuple") ⟨_, ho, rfl⟩ F.slot_tuple_lt (call_meets F.slot_tuple_lt ⟨_, ho, rfl⟩ F.entry_tuple_lt (F.args_tuple_lt_2 _ _) (Ob.tuple_ltAt a b its its2 n n2 dd dd2 sl sl2 _ _) ⟨ho, ho2, he, hr, ?_⟩))
    rw [e1, e2, lex_of]
    exact wpAny_truthy_bool hq
theorem first_tups {M : Model} : ∀ (vs : List Value) (k : Value → List Int) {Q : List (Option Value) → Shared → Prop}, (∀ v ∈ vs, TS.TupInts s.heap v (k v)) → (∀ fs : List (Option Value), fs.map (·.isSome) = vs.map (fun v => decide (k v ≠ [])) → Q fs s) →
    wpAny M A (vs.mapM firstOfTuple') Q E s
  | [], k, Q, _, h => by rw [List.mapM_nil]; exact wpAny_pure (h [] rfl)
  | v :: vs, k, Q, hk, h => by
    rw [List.mapM_cons]
    obtain ⟨a, xs, ev, ⟨o, ho, hc, n, hd⟩, hi⟩ := hk v List.mem_cons_self
    have typed : PySem.W.Looks M s.heap (typeOf (Value.ref a)) (Value.type "tuple") := hc ▸ (PySem.W.Looks.ld ho).andThen .now
    refine wpAny_bind ?_
    rw [PySem.W.kas_first_eq, ev]
    refine wpAny_bind (typed.here ?_)
    rw [if_neg (by first | decide | simp)]
    refine wpAny_bind (listItems_at ho hd (wpAny_pure ?_))
    refine wpAny_bind (first_tups vs k (fun u hu => hk u (List.mem_cons_of_mem _ hu)) fun fs hl => wpAny_pure (h _ ?_))
    rw [List.map_cons, List.map_cons, hl]
    congr 1
    rw [Bool.eq_iff_iff, decide_eq_true_eq]
    have hn := hi.length
    rw [Array.length_toList] at hn
    cases hz : k v with
    | nil =>
      rw [hz] at hn
      have : xs = #[] := Array.eq_empty_of_size_eq_zero hn
      subst this
      simp
    | cons y ys =>
      rw [hz] at hn
      have : 0 < xs.size := by rw [hn]; exact Nat.succ_pos _
      simp [this]
/-- a list of tuples of ints with an empty one: how they are compared -/
theorem kind_tups {vs : List Value} (k : Value → List Int) (hk : ∀ v ∈ vs, TS.TupInts s.heap v (k v)) (he : ∃ v ∈ vs, k v = []) : ∃ f : Bool, ∀ (Q : SortKind → Shared → Prop) (E : Value → Shared → Prop), Q (if f = true then oneType' else general') s → wpAny (model prog w) A (keyKind' vs.toArray) Q E s := by
  obtain ⟨v0, hm, h0⟩ := he
  cases vs with
  | nil => cases hm
  | cons v vs =>
    refine ⟨decide (k v = []), fun Q E hq => ?_⟩
    rw [PyProof.Rows.kat_kind_eq, List.mapM_toArray, map_eq_pure_bind]
    refine wpAny_bind (wpAny_bind (first_tups _ k hk fun fs hf => wpAny_pure ?_))
    have nall : ¬ (fs.toArray.all fun x => x.isSome) = true := by
      intro z
      rw [List.all_toArray] at z
      have z2 : (fs.map (·.isSome)).all id = true := by
        rw [List.all_map]
        exact z
      rw [hf, List.all_map] at z2
      have := List.all_eq_true.mp z2 v0 hm
      simp [h0] at this
    rw [if_neg nall]
    cases fs with
    | nil => simp at hf
    | cons o fs =>
      rw [List.map_cons, List.map_cons] at hf
      have ho := (List.cons.inj hf).1
      by_cases e : k v = []
      · rw [decide_eq_true e] at hq
        simp only [e, ne_eq, not_true_eq_false, decide_false] at ho
        have no : o = none := by cases o with
          | none => rfl
          | some _ => cases ho
        subst no
        rw [if_neg (by simp), oneTypeOnly'_eq, List.mapM_toArray, map_eq_pure_bind]
        refine wpAny_bind (wpAny_bind (wpAny_bind (PySem.W.kas_mapM (r := Value.type "tuple") _ (fun u hu Q' hq' => ?_) (wpAny_pure ?_))))
        · obtain ⟨a, xs, ev, ⟨o, ho, hc, n, hd⟩, hi⟩ := hk u hu
          rw [ev]
          have typed : PySem.W.Looks (model prog w) s.heap (typeOf (Value.ref a)) (Value.type "tuple") := hc ▸ (PySem.W.Looks.ld ho).andThen .now
          exact typed.here hq'
        · have hall : ((List.map (fun _ => Value.type "tuple") (v :: vs)).toArray.all fun x => x == Value.type "tuple") = true := by
            simp only [List.all_toArray, List.all_map, List.all_eq_true]
            intro _ _
            rfl
          have h0 : (List.map (fun _ => Value.type "tuple") (v :: vs)).toArray[0]? = some (Value.type "tuple") := by simp
          rw [h0]
          simp only [hall, if_true]
          exact wpAny_pure (wpAny_pure hq)
      · rw [decide_eq_false e] at hq
        simp only [e, ne_eq, not_false_eq_true, decide_true] at ho
        obtain ⟨u, rfl⟩ : ∃ u, o = some u := by cases o with
          | none => cases ho
          | some u => exact ⟨u, rfl⟩
        rw [if_pos (by simp)]
        exact wpAny_pure hq
theorem tups_sortable {a : Addr} {vs : List Value} (k : Value → List Int) (ha : ∀ o, s.heap.get? a = some o → o.cls ≠ .type "tuple") (hk : ∀ v ∈ vs, TS.TupInts s.heap v (k v)) (he : ∃ v ∈ vs, k v = []) (hu : A.units < cLine) : SrtO.SortableO prog w A s a vs (fun x y => ltL (k x) (k y)) := by
  intro h' hh
  have hk' : ∀ v ∈ vs, TS.TupInts h' v (k v) := fun v hv => (hk v hv).keeps fun b o e hc => hh b o (fun z => by rw [z] at e; exact ha o e hc) e
  obtain ⟨f, hf⟩ := kind_tups (prog := prog) (w := w) (A := A) (s := { s with heap := h' }) k hk' he
  refine ⟨if f = true then oneType' else general', fun Q E hq => hf Q E hq, ?_⟩
  intro p q hp hq
  cases f with
  | true =>
    show wpAny (model prog w) A (keyLt' oneType' p.1 q.1) (fun r s' => s' = _ ∧ r = ltL (k p.1) (k q.1)) (fun _ _ => False) _
    exact one_tups true (hk' _ hp) (hk' _ hq) hu ⟨rfl, rfl⟩
  | false =>
    show wpAny (model prog w) A (keyLt' general' p.1 q.1) (fun r s' => s' = _ ∧ r = ltL (k p.1) (k q.1)) (fun _ _ => False) _
    exact one_tups false (hk' _ hp) (hk' _ hq) hu ⟨rfl, rfl⟩
end
end UpT
namespace L2
open PySem PySem.Spec PyProof.Rows
/-- sorted(xs), xs a list of tuples of ints, the empty one among them -/
def rSortUp (K : PySem.W.Frag) : List V → Hp → VK → Prop := fun vs H Q => ∃ (a : Addr) (ts : List (Addr × List Int)), vs = [V.ref a] ∧ SqL K H a (ts.map fun t => V.ref t.1) ∧ (∀ t ∈ ts, SqT K H t.1 (t.2.map V.int)) ∧ (∃ t ∈ ts, t.2 = []) ∧
  ∀ (ys : List (Addr × List Int)) (p : Addr), ys.Perm ts → UpT.Srt (ys.map (·.2)) → H p = none → Q (.ref p) (upd H p (.lst (ys.map fun t => V.ref t.1)))
theorem upt_refs : ∀ {ts : List (Addr × List Int)} {its : List Value}, Vals (ts.map fun t => V.ref t.1) its → its = ts.map fun t => Value.ref t.1
  | [], its, r => by cases r; rfl
  | t :: ts, its, r => by
    cases r with
    | cons h r =>
      cases h
      rw [upt_refs r]
      rfl
theorem upt_vals : ∀ (ts : List (Addr × List Int)), Vals (ts.map fun t => V.ref t.1) (ts.map fun t => Value.ref t.1)
  | [] => .nil
  | t :: ts => .cons rfl (upt_vals ts)
def uptAdr : Value → Addr
  | .ref a => a
  | _ => 0
theorem cr_sortUp {X : Cx} (hu : X.A.units + 2 < cLine) : CallR X (.builtin "sorted") (rSortUp X.K) := by
  intro pins s σ H vs us Q I r h
  obtain ⟨a, ts, rfl, hs, ht, ⟨t0, hm0, h0⟩, q⟩ := h
  obtain ⟨its, rv, hl, hz⟩ := I.list hs
  rw [Vals.ref1 r]
  obtain rfl := upt_refs rv
  have raw : ∀ t ∈ ts, TS.TupInts s.heap (.ref t.1) t.2 := fun t hm => tupI_raw I (ht t hm)
  have ki : ∀ t ∈ ts, TS.intsOf s.heap (.ref t.1) = t.2 := fun t hm => (raw t hm).ints
  have hk : ∀ v ∈ ts.map (fun t => Value.ref t.1), TS.TupInts s.heap v (TS.intsOf s.heap v) := fun v hv => by
    obtain ⟨t, hm, rfl⟩ := List.mem_map.mp hv
    rw [ki t hm]
    exact raw t hm
  refine SrtO.sorted_ord (UpT.swo_by (TS.intsOf s.heap)) hl.isList (by rw [← rv.length]; exact hz) (fun h2 h₁ a' e kp => ?_) fun out h1 h2 => ?_
  · refine UpT.tups_sortable (A := X.A.in1.in1) (s := { s with heap := h₁ }) (TS.intsOf s.heap) (fun o eo hc => ?_) (fun v hv => (hk v hv).keeps fun b o e hc => (kp b o e).2) ⟨_, List.mem_map.mpr ⟨t0, hm0, rfl⟩, by rw [ki t0 hm0, h0]⟩ hu
    have e3 : some (seqObj "list" (ts.map fun t => Value.ref t.1).toArray 0) = some o := e.symm.trans eo
    rw [← Option.some.inj e3] at hc
    exact absurd (Value.type.inj hc) (by decide)
  · have hp := h2.perm
    let g : Value → Addr × List Int := fun v => (uptAdr v, TS.intsOf s.heap v)
    have back : (ts.map fun t => Value.ref t.1).map g = ts := by
      rw [List.map_map]
      refine (List.map_congr_left fun t hm => ?_).trans (List.map_id ts)
      show (t.1, TS.intsOf s.heap (.ref t.1)) = t
      rw [ki t hm]
    have pm : (out.map g).Perm ts := by
      have := hp.map g
      rw [back] at this
      exact this
    have outr : (out.map g).map (fun t => Value.ref t.1) = out := by
      rw [List.map_map]
      refine (List.map_congr_left fun v hv => ?_).trans (List.map_id out)
      obtain ⟨t, _, rfl⟩ := List.mem_map.mp (hp.mem_iff.mp hv)
      rfl
    obtain ⟨ep, he'⟩ := PyProof.Rows.sortedAll_at s.heap (ts.map fun t => Value.ref t.1) out.toArray
    have hlen : ((out.map g).map fun t => V.ref t.1).length ≤ sizeLine := by
      rw [List.length_map, pm.length_eq]
      rw [List.length_map] at hz
      exact hz
    have vo : Vals ((out.map g).map fun t => V.ref t.1) out := by
      have := upt_vals (out.map g)
      rw [outr] at this
      exact this
    refine ⟨.ref _, upd H (s.heap.objs.size + 1) (.lst ((out.map g).map fun t => V.ref t.1)), I.laid (t' := s.toks) (fun _ _ => PyProof.Rows.sortedAll_old) (Nat.le_succ _) ⟨hlen, out, ep, vo, he'⟩, rfl, q _ _ pm ?_ (I.hok.fresh (Nat.le_succ _))⟩
    show UpT.Srt _
    rw [List.map_map]
    exact List.pairwise_map.mpr h1
end L2

set_option Elab.async false
set_option linter.all false
set_option maxRecDepth 100000
set_option maxHeartbeats 4000000
/-! a dict comprehension whose keys are tuples; x in a tuple of data; a block that is never reached -/
namespace L2
open PySem PySem.Spec PyProof.Rows
/-- the new dict D takes a pair -/
theorem putT_set {Y : Cx} {ps : List (Addr × Obj)} {τ : St} {G : Hp} {z : Shared} {Er : Value → Shared → Prop} {D b : Addr} {kvs : List (List Key × V)} {k : List Key} {v : V} {u r : Value} {Q : Unit → Shared → Prop} (hu : Y.A.units + 1 < cLine)
    (I : Inv Y ps τ G z) (eD : G D = some (.dT kvs)) (room : kvs.length < sizeLine) (eb : G b = some (.tup (k.map kV))) (ry : RelV (.ref b) u) (rv : RelV v r) (go : ∀ z', Inv Y ps τ (upd G D (.dT (putK kvs k v))) z' → Q () z') :
    wpAny (model Y.prog Y.w) Y.A (dictSet D u r) Q Er z := by
  obtain rfl : u = Value.ref b := ry
  obtain ⟨sz, hd, xs, rel, dd⟩ := dt_of I.hok eD
  have sz1 : xs.length ≤ sizeLine := (Paired.length rel) ▸ sz
  have sz2 : (putK kvs k v).length ≤ sizeLine := by
    have := length_putK kvs k v
    omega
  refine wpAny_dictSet_heap (hsz := sz1) (knd := tupleKind (mixKind Y.prog Y.w)) (by first | exact Nat.lt_of_succ_lt hu | exact hu) (key_of I.hok eb) dd fun h1 d1 same => go _ ?_
  obtain ⟨ob, es, ep, g1, g2, g3, g4, _, g6⟩ := d1
  refine d_write I (by rw [eD]; trivial) same ⟨ob, g1⟩ ⟨sz2, hd, _, KT.keeps (rel.put k eb rv) fun c ys ec => ?_, ob, es, ep, g1, g2, g3, g4, g6⟩
  rw [upd_ne (ne_of ec eD (by intro q; cases q))]
  exact ec
/-- {k: v for target in iter if ..}, keys tuples of ints and texts -/
def tDcT (wi : TI) (g : TG) (tt : TT) (tk tv : TE) (vs : List Nat) : TE := fun σ H Q => wi σ H fun J H1 => ∀ D, H1 D = none → ∃ W : Nat → Nat → Hp → Prop, (∃ m, W 0 m (upd H1 D (.dT []))) ∧
  ∀ i m H, W i m H → (J.stop i H ∧ Q (.ref D) H) ∨ (J.go i H ∧ ∃ Nx : Hp → Prop, (∀ H', Nx H' → ∃ m', m' < m ∧ W (i + 1) m' H') ∧
    ∀ x H', J.yld i H x H' → g x (wipe σ vs) H' fun σ2 H2 => wipe σ2 vs = wipe σ vs ∧ tt σ2 H2 fun b H3 => if b = true then tk σ2 H3 fun y H4 => tv σ2 H4 fun z H5 =>
      ∃ kvs k c, y = .ref c ∧ H5 c = some (.tup (k.map kV)) ∧ H5 D = some (.dT kvs) ∧ kvs.length < sizeLine ∧ Nx (upd H5 D (.dT (putK kvs k z))) else Nx H3)
section
variable {X : Cx}
theorem pe_dcT {kx vx tg iter : Expr} {ifs : List Expr} {scope : Scope} {own : List (Str × Nat)} {pos : Pos} {wi : TI} {g : TG} {tt : TT} {tk tv : TE} (hc : X.calm = true) (hu : X.A.units + 1 < cLine) (hN : X.N.Nodup) (hi : PI X tg iter wi) (ok : BlkOk X.N X.env.scope scope own)
    (hg : ∀ (z : Shared) (G : Hp) (C : Addr) (cl : List (Str × Addr)) (fp : List Addr), PG (X.blk z G scope (compEnvC scope cl C X.env) fp) tg g)
    (ht : ∀ (z : Shared) (G : Hp) (C : Addr) (cl : List (Str × Addr)) (fp : List Addr), PTs (X.blk z G scope (compEnvC scope cl C X.env) fp) ifs tt)
    (hk : ∀ (z : Shared) (G : Hp) (C : Addr) (cl : List (Str × Addr)) (fp : List Addr), PE (X.blk z G scope (compEnvC scope cl C X.env) fp) kx tk)
    (hv : ∀ (z : Shared) (G : Hp) (C : Addr) (cl : List (Str × Addr)) (fp : List Addr), PE (X.blk z G scope (compEnvC scope cl C X.env) fp) vx tv) (hf : ∀ x, foldedSetIterable iter X.env x = pure x := by intro _; rfl) :
    PE X (.DictComp kx vx [⟨tg, iter, ifs, 0⟩] scope pos) (tDcT wi g tt tk tv (own.map (·.2))) := by
  refine ⟨fun ps z0 σ G Q I want => ?_⟩
  rw [arm_eval_DictComp]
  have cells : ∀ y ∈ scope.names, y.2 = .free → ∃ c, X.env.cells.lookup y.1 = some c := fun y hy e => by
    rcases ok.free y hy e with q | q
    · exact I.ok.has _ (.inl q)
    · exact I.ok.has _ (.inr q)
  refine wpAny_comprehension_free rfl hf (closure_ok cells) ok.kind (fun y hy e => by rw [ok.uniq y hy, e])
    (thn (hi.run ps z0 σ G _ I want) fun xv z1 hx => thn hx fun itv z2 got => ?_)
  obtain ⟨it, fp, tn, J, G2, e, I2, T, at2, fresh2, plan⟩ := got
  subst e
  refine wpAny_newObj_type (newEnv_comp ?_)
  generalize eD : z2.heap.objs.size = D
  have noD : G2 D = none := I2.hok.fresh (Nat.le_of_eq eD)
  obtain ⟨W, ⟨m0, start⟩, turn⟩ := plan D noD
  generalize e3 : ({ z2 with heap := z2.heap.push { cls := .type "dict", data := .dict #[] } } : Shared) = z3
  have I3 : Inv X ps σ (upd G2 D (.dT [])) z3 := by
    subst e3
    refine I2.laid (t' := z2.toks) (fun b o q => Heap.get?_push_of_some _ q) (Nat.le_of_eq eD) ?_
    subst eD
    exact dt_empty z2.heap I2.big
  have heap3 : z3.heap = z2.heap.push { cls := .type "dict", data := .dict #[] } := by subst e3; rfl
  have low : ∀ b ∈ fp, b < z2.heap.objs.size := fun b hb => let ⟨_, q, _⟩ := T.obj _ _ at2 b hb; Heap.lt_size q
  have fresh3 : ∀ b ∈ fp, FpOk X ps (upd G2 D (.dT [])) b ∧ b < z3.heap.objs.size := fun b hb => by
    have lb := low b hb
    have nb : (upd G2 D (.dT [])) b = none := by
      rw [upd_ne (by subst eD; exact Nat.ne_of_lt lb)]
      exact (fresh2 b hb).1
    exact ⟨⟨nb, (fresh2 b hb).2⟩, by rw [heap3, Heap.size_push]; exact Nat.lt_succ_of_lt lb⟩
  have at3 : tn 0 z3.heap := T.keep _ _ _ at2 fun b _ o q => by rw [heap3]; exact Heap.get?_push_of_some _ q
  have I4 := block_start I3 ok hN fresh3
  generalize eH : upd G2 D (.dT []) = G3 at I3 I4 start fresh3
  show codeAny _ _ (.compStart _ 0 (.ref it) (.ref D) (compEnvC scope (cellsFrom (z3.heap.objs.size + 1) scope.names (cloFrom X.env.cells scope.names [])) z3.heap.objs.size X.env)) (compPost (model X.prog X.w) X.A X.xe none _ (.ref D) z3.heap.objs.size) { z3 with heap := pushCells (z3.heap.push { cls := .type "dict", data := .dict #[] }) scope.names }
  have ppg := hg z3 G3 z3.heap.objs.size (cellsFrom (z3.heap.objs.size + 1) scope.names (cloFrom X.env.cells scope.names [])) fp
  have ppt := ht z3 G3 z3.heap.objs.size (cellsFrom (z3.heap.objs.size + 1) scope.names (cloFrom X.env.cells scope.names [])) fp
  have ppk := hk z3 G3 z3.heap.objs.size (cellsFrom (z3.heap.objs.size + 1) scope.names (cloFrom X.env.cells scope.names [])) fp
  have ppv := hv z3 G3 z3.heap.objs.size (cellsFrom (z3.heap.objs.size + 1) scope.names (cloFrom X.env.cells scope.names [])) fp
  generalize eE : compEnvC scope (cellsFrom (z3.heap.objs.size + 1) scope.names (cloFrom X.env.cells scope.names [])) z3.heap.objs.size X.env = ce at I4 ppg ppt ppk ppv ⊢
  have loc : ce.locals = z3.heap.objs.size := by subst eE; rfl
  generalize e4 : ({ z3 with heap := pushCells (z3.heap.push { cls := .type "dict", data := .dict #[] }) scope.names } : Shared) = z4 at I4 ⊢
  have at4 : tn 0 z4.heap := T.keep _ _ _ at3 fun b _ o q => by subst e4; exact pushCells_keeps _ _ _ _ (Heap.get?_push_of_some _ q)
  let B : Cx := X.blk z3 G3 scope ce fp
  have calmB : B.calm = true := hc
  -- what is the same at each turn's begin
  let At : Nat → Nat → Hp → Shared → Prop := fun i m G' z' => Inv B [] (wipe σ (own.map (·.2))) G' z' ∧ tn i z'.heap ∧ (∀ b ∈ fp, G' b = none) ∧ W i m G'
  have fps : ∀ {τ : St} {G' : Hp} {z' : Shared}, Inv B [] τ G' z' → (∀ b ∈ fp, G' b = none) → ∀ b ∈ fp, FpOk B [] G' b := fun {τ G' z'} I' no b hb =>
    ⟨no b hb, (I'.ok.exf b hb).1, I'.ok.exfs b hb, .inl hb, fun _ c q => (I'.ok.exf b hb).2 _ c q, fun p hp => absurd (show p ∈ (([] : List (Addr × Obj)) ++ ([] : List (Addr × Obj))) from hp) List.not_mem_nil⟩
  have whole : codeAny (model X.prog X.w) X.A (.compLoop (.DictComp kx vx [⟨tg, iter, ifs, 0⟩] scope pos) 0 (.ref it) (.ref D) ce) (compPost (model X.prog X.w) X.A X.xe none (EP X ps σ Q) (.ref D) z3.heap.objs.size) z4 := by
    refine compLoop_anyD (fun m z' => ∃ i G', At i m G' z') (fun m z' ⟨i, G', I', at', no, w'⟩ => ?_) m0 ⟨0, G3, I4, at4, fun b hb => (fresh3 b hb).1.1, start⟩
    rcases turn i m G' w' with ⟨stop, won⟩ | ⟨more, Nx, next, step⟩
    · refine thnF (T.done B rfl rfl rfl calmB i [] z' _ G' (fun _ _ => False) I' (fps I' no) at' stop) fun r z5 ⟨er, I5⟩ => ?_
      subst er
      have outer : Inv X ps σ G' z5 := I3.call' (ch := fp) I5.os I5.base I5.hok I5.bare fun b hb =>
        let q := (fresh3 b hb).1.2
        ⟨q.2.2.1, q.1, q.2.2.2.1, q.2.2.2.2⟩
      have freeC : G' z3.heap.objs.size = none := loc ▸ (show G' ce.locals = none from I5.free)
      obtain ⟨mm, ns, _⟩ := I5.loc
      have ns : z5.heap.Ns z3.heap.objs.size mm := loc ▸ (show z5.heap.Ns ce.locals mm from ns)
      obtain ⟨f0, f1, f2, f3, f4, f5⟩ := I3.fpOk (Nat.le_refl _) freeC
      exact ⟨mm, ns, fun h2 sb => ⟨.ref D, G', outer.turned (t' := z5.toks) (fun b o hb q => (sb.2 b hb).trans q) f0 f1 f3 f4 f5, rfl, won⟩⟩
    · refine thnF (T.item B rfl rfl rfl calmB i [] z' _ G' (fun _ _ => False) I' (fps I' no) at' more) fun r z5 ⟨u, er, then5⟩ => ?_
      subst er
      refine thnF then5 fun _ z6 ⟨x, G6, I6, r6, y6, at6, no6⟩ => ?_
      refine thnF (ppg.run _ z6 _ G6 x u _ (I6.pinned (fps I6 no6) (T.obj _ _ at6)) r6 (step x G6 y6)) fun _ z7 ⟨τ, G7, I7, wiped, q7⟩ => ?_
      refine thnF (ppt.run _ z7 τ G7 _ I7 q7) fun b z8 ⟨G8, I8, q8⟩ => ?_
      have onward : ∀ {z9 : Shared} {G9 : Hp}, Inv B ([] ++ pinsAt fp z6.heap) τ G9 z9 → Nx G9 → ∃ m', m' < m ∧ ∃ i G', At i m' G' z9 := fun {z9 G9} I9 nx => by
        obtain ⟨m', lt, w9⟩ := next G9 nx
        have held : ∀ b ∈ fp, ∀ o, z6.heap.get? b = some o → z9.heap.get? b = some o ∧ G9 b = none := fun b hb o q =>
          have pin := I9.pin (b, o) (List.mem_append_right _ (List.mem_append_right _ (mem_pinsAt hb q)))
          ⟨pin.1, pin.2.1⟩
        have len : (wipe σ (own.map (·.2))).length = τ.length := by rw [← wiped, wipe_length]
        refine ⟨m', lt, i + 1, G9, (I9.unpinned (pins := [])).weak len (fun j v q => (wipe_some (wiped.symm ▸ q : (wipe τ (own.map (·.2)))[j]? = some (some v))).1), T.keep _ _ _ at6 fun b hb o q => (held b hb o q).1, fun b hb => ?_, w9⟩
        obtain ⟨o, q, _⟩ := T.obj _ _ at6 b hb
        exact (held b hb o q).2
      cases b with
      | false =>
        rw [if_neg (by decide)] at q8 ⊢
        exact onward I8 q8
      | true =>
        rw [if_pos rfl] at q8 ⊢
        refine thnF (ppk.run _ z8 τ G8 _ I8 q8) fun ku z9 ⟨y, G9, I9, r9, q9⟩ => ?_
        refine thnF (ppv.run _ z9 τ G9 _ I9 q9) fun vu z10 ⟨v, G10, I10, r10, kvs, k, c, ec, e1, e2, e3', nx⟩ => ?_
        subst ec
        exact putT_set (Y := B) hu I10 e2 e3' e1 r9 r10 fun z11 I11 => onward I11 nx
  exact codeAny_compStart_dict whole (T.self X.A 0 _ _ _ at4 whole)
/-- over a list that stays -/
theorem dcT_list {K : PySem.W.Frag} {a : Addr} {xs : List V} {g : TG} {tt : TT} {tk tv : TE} {vs : List Nat} {σ : St} {H1 : Hp} {D : Addr} {Qd : Hp → Prop} (Pv : Nat → Hp → Prop) (h0 : Pv 0 (upd H1 D (.dT []))) (stays : ∀ i H, i ≤ xs.length → Pv i H → SqL K H a xs)
    (hs : ∀ i x H, xs[i]? = some x → Pv i H → g x (wipe σ vs) H fun σ2 H2 => wipe σ2 vs = wipe σ vs ∧ tt σ2 H2 fun b H3 => if b = true then tk σ2 H3 fun y H4 => tv σ2 H4 fun z H5 =>
      ∃ kvs k c, y = .ref c ∧ H5 c = some (.tup (k.map kV)) ∧ H5 D = some (.dT kvs) ∧ kvs.length < sizeLine ∧ Pv (i + 1) (upd H5 D (.dT (putK kvs k z))) else Pv (i + 1) H3) (hd : ∀ H, Pv xs.length H → Qd H) :
    ∃ W : Nat → Nat → Hp → Prop, (∃ m, W 0 m (upd H1 D (.dT []))) ∧ ∀ i m H, W i m H → ((Itl K a).stop i H ∧ Qd H) ∨ ((Itl K a).go i H ∧ ∃ Nx : Hp → Prop, (∀ H', Nx H' → ∃ m', m' < m ∧ W (i + 1) m' H') ∧
      ∀ x H', (Itl K a).yld i H x H' → g x (wipe σ vs) H' fun σ2 H2 => wipe σ2 vs = wipe σ vs ∧ tt σ2 H2 fun b H3 => if b = true then tk σ2 H3 fun y H4 => tv σ2 H4 fun z H5 =>
        ∃ kvs k c, y = .ref c ∧ H5 c = some (.tup (k.map kV)) ∧ H5 D = some (.dT kvs) ∧ kvs.length < sizeLine ∧ Nx (upd H5 D (.dT (putK kvs k z))) else Nx H3) := by
  refine ⟨fun i m H => m + i = xs.length ∧ Pv i H, ⟨xs.length, by omega, h0⟩, fun i m H ⟨em, p⟩ => ?_⟩
  have q := stays i H (by omega) p
  cases m with
  | zero =>
    obtain rfl : i = xs.length := by omega
    exact .inl ⟨⟨xs, q, Nat.le_refl _⟩, hd H p⟩
  | succ m =>
    have lt : i < xs.length := by omega
    refine .inr ⟨⟨xs, xs[i], q, by simp [lt]⟩, Pv (i + 1), fun H' p' => ⟨m, Nat.lt_succ_self m, by omega, p'⟩, fun x H' y => ?_⟩
    obtain ⟨e, y⟩ := y
    subst e
    exact hs i x _ (y xs q) p
def rInDT (K : PySem.W.Frag) : R2 := fun x y H Q => ∃ d ds, Dp K H x d ∧ Dp K H y (.tuple ds) ∧ SeqAt.shaped d = true ∧ SeqAt.shaped (.tuple ds) = true ∧ Q (.bl (ds.any fun z => PyData.eqv z d)) H
/-- x in t, t a tuple of data -/
theorem op_inDT (hu : X.A.units + 65 < cLine) : OpR X (compareOp .In) (rInDT X.K) := by
  intro ps z σ G x y v u Q I rx ry ⟨d, ds, hd, he, sd, se, q⟩
  obtain ⟨as, r1⟩ := Dp.reads I d x v hd rx
  obtain ⟨bs, r2⟩ := Dp.reads I (.tuple ds) y u he ry
  exact SeqAt.in_tuple_reads r2 r1 (SeqAt.canLay_of_shaped se) (SeqAt.canLay_of_shaped sd) (room_in_shaped sd hu) ⟨.bl _, G, I, rfl, q⟩
end
end L2

set_option Elab.async false
set_option linter.all false
set_option maxRecDepth 100000
set_option maxHeartbeats 4000000
/-! == and != where one side is an instance of an own class with an own __eq__ -/
namespace OC
open PySem PySem.SeqAt PySem.W
open AutoSeq1 (wpAny_loadPart')
open MeetsSeq MeetsSeq2 MeetsSeq3 SeqRoads2

def Is2 (op : CmpOp) : Prop := op = .Eq ∨ op = .NotEq

section
variable {prog : Program} {w : World} {A : Around} {E : Value → Shared → Prop} {s : Shared} {K : Frag} {x C f : Addr} {ox : Obj} {od : Option Obj}

/-- the built-in's own comparison hands back NotImplemented: nothing is known of it, nothing has changed -/
def Decl (prog : Program) (w : World) (A : Around) (s : Shared) (op : CmpOp) (a b : Value) : Prop :=
  ∀ (Q : Option Value → Shared → Prop) (E : Value → Shared → Prop), Q none s → wpAny (model prog w) A (tryCompare a (cmpInfo op).2.1 b) Q E s

theorem int_ref_eq (b : Int) (u : Tok) {o : Obj} (hd : o.data = .plain) (l : Addr) :
    Meets (Builtin.«int.__eq__» ⟨[.int b u, .ref l], []⟩) (fun _ R s => s.heap.get? l = some o ∧ R (.ok (.ret .notImplemented)) s) :=
  .of_wp fun prog w A R s h => by obtain ⟨cls, dd, data, sl⟩ := o; obtain ⟨hp, g, d, tk, os⟩ := s; obtain ⟨hl, h⟩ := h; simp only at hd; subst hd; wp_walk using wpAny_loadPart' hl, wpAny_load hl; exact ⟨_, rfl, h⟩
theorem int_ref_ne (b : Int) (u : Tok) {o : Obj} (hd : o.data = .plain) (l : Addr) :
    Meets (Builtin.«int.__ne__» ⟨[.int b u, .ref l], []⟩) (fun _ R s => s.heap.get? l = some o ∧ R (.ok (.ret .notImplemented)) s) :=
  .of_wp fun prog w A R s h => by obtain ⟨cls, dd, data, sl⟩ := o; obtain ⟨hp, g, d, tk, os⟩ := s; obtain ⟨hl, h⟩ := h; simp only at hd; subst hd; wp_walk using wpAny_loadPart' hl, wpAny_load hl; exact ⟨_, rfl, h⟩
theorem bool_ref_eq (b : Bool) {o : Obj} (hd : o.data = .plain) (l : Addr) :
    Meets (Builtin.«int.__eq__» ⟨[.bool b, .ref l], []⟩) (fun _ R s => s.heap.get? l = some o ∧ R (.ok (.ret .notImplemented)) s) :=
  .of_wp fun prog w A R s h => by obtain ⟨cls, dd, data, sl⟩ := o; obtain ⟨hp, g, d, tk, os⟩ := s; obtain ⟨hl, h⟩ := h; simp only at hd; subst hd; wp_walk using wpAny_loadPart' hl, wpAny_load hl; exact ⟨_, rfl, h⟩
theorem bool_ref_ne (b : Bool) {o : Obj} (hd : o.data = .plain) (l : Addr) :
    Meets (Builtin.«int.__ne__» ⟨[.bool b, .ref l], []⟩) (fun _ R s => s.heap.get? l = some o ∧ R (.ok (.ret .notImplemented)) s) :=
  .of_wp fun prog w A R s h => by obtain ⟨cls, dd, data, sl⟩ := o; obtain ⟨hp, g, d, tk, os⟩ := s; obtain ⟨hl, h⟩ := h; simp only at hd; subst hd; wp_walk using wpAny_loadPart' hl, wpAny_load hl; exact ⟨_, rfl, h⟩
theorem str_ref_eq (b : Str) (u : Tok) {o : Obj} (hd : o.data = .plain) (l : Addr) :
    Meets (Builtin.«str.__eq__» ⟨[.str b u, .ref l], []⟩) (fun _ R s => s.heap.get? l = some o ∧ R (.ok (.ret .notImplemented)) s) :=
  .of_wp fun prog w A R s h => by obtain ⟨cls, dd, data, sl⟩ := o; obtain ⟨hp, g, d, tk, os⟩ := s; obtain ⟨hl, h⟩ := h; simp only at hd; subst hd; wp_walk using wpAny_loadPart' hl, wpAny_load hl; exact ⟨_, rfl, h⟩
theorem str_ref_ne (b : Str) (u : Tok) {o : Obj} (hd : o.data = .plain) (l : Addr) :
    Meets (Builtin.«str.__ne__» ⟨[.str b u, .ref l], []⟩) (fun _ R s => s.heap.get? l = some o ∧ R (.ok (.ret .notImplemented)) s) :=
  .of_wp fun prog w A R s h => by obtain ⟨cls, dd, data, sl⟩ := o; obtain ⟨hp, g, d, tk, os⟩ := s; obtain ⟨hl, h⟩ := h; simp only at hd; subst hd; wp_walk using wpAny_loadPart' hl, wpAny_load hl; exact ⟨_, rfl, h⟩

theorem decl_int {op : CmpOp} (ho : Is2 op) (b : Int) (u : Tok) (hx : s.heap.get? x = some ox) (hd : ox.data = .plain) : Decl prog w A s op (.int b u) (.ref x) := fun Q E hq => by
  rcases ho with rfl | rfl
  · exact wpAny_tryCompare_declines (typeIs_int s b u) F.slot_int_eq (call_meets F.slot_int_eq (typeIs_int s b u) F.entry_int_eq (F.args_int_eq_2 _ _) (int_ref_eq b u hd x) ⟨hx, rfl, hq⟩)
  · exact wpAny_tryCompare_declines (typeIs_int s b u) F.slot_int_ne (call_meets F.slot_int_ne (typeIs_int s b u) F.entry_int_ne (F.args_int_ne_2 _ _) (int_ref_ne b u hd x) ⟨hx, rfl, hq⟩)
theorem decl_bool {op : CmpOp} (ho : Is2 op) (b : Bool) (hx : s.heap.get? x = some ox) (hd : ox.data = .plain) : Decl prog w A s op (.bool b) (.ref x) := fun Q E hq => by
  rcases ho with rfl | rfl
  · exact wpAny_tryCompare_declines (T := "bool") rfl F.slot_bool_eq (call_meets F.slot_bool_eq rfl F.entry_int_eq (F.args_int_eq_2 _ _) (bool_ref_eq b hd x) ⟨hx, rfl, hq⟩)
  · exact wpAny_tryCompare_declines (T := "bool") rfl F.slot_bool_ne (call_meets F.slot_bool_ne rfl F.entry_int_ne (F.args_int_ne_2 _ _) (bool_ref_ne b hd x) ⟨hx, rfl, hq⟩)
theorem decl_str {op : CmpOp} (ho : Is2 op) (b : Str) (u : Tok) (hx : s.heap.get? x = some ox) (hd : ox.data = .plain) : Decl prog w A s op (.str b u) (.ref x) := fun Q E hq => by
  rcases ho with rfl | rfl
  · exact wpAny_tryCompare_declines (typeIs_str s b u) F.slot_str_eq (call_meets F.slot_str_eq (typeIs_str s b u) F.entry_str_eq (F.args_str_eq_2 _ _) (str_ref_eq b u hd x) ⟨hx, rfl, hq⟩)
  · exact wpAny_tryCompare_declines (typeIs_str s b u) F.slot_str_ne (call_meets F.slot_str_ne (typeIs_str s b u) F.entry_str_ne (F.args_str_ne_2 _ _) (str_ref_ne b u hd x) ⟨hx, rfl, hq⟩)
theorem decl_none {op : CmpOp} (ho : Is2 op) : Decl prog w A s op .none (.ref x) := fun Q E hq => by
  rcases ho with rfl | rfl
  · exact wpAny_tryCompare_declines (T := "NoneType") rfl F.slot_NoneType_eq (call_gives F.slot_NoneType_eq rfl F.entry_NoneType_eq (F.args_NoneType_eq_2 _ _) (NoneType___eq___none_ref_0 x) ⟨rfl, hq⟩)
  · exact wpAny_tryCompare_declines (T := "NoneType") rfl F.slot_NoneType_ne (call_gives F.slot_NoneType_ne rfl F.entry_NoneType_ne (F.args_NoneType_ne_2 _ _) (NoneType___ne___none_ref_0 x) ⟨rfl, hq⟩)
end
end OC

set_option Elab.async false
set_option linter.all false
set_option maxRecDepth 100000
set_option maxHeartbeats 4000000
namespace OC
open PySem PySem.SeqAt PySem.W
open AutoSeq1 (wpAny_loadPart')
open MeetsSeq MeetsSeq2 MeetsSeq3 SeqRoads2
section
variable {prog : Program} {w : World} {A : Around} {E : Value → Shared → Prop} {s : Shared} {K : Frag} {x C f : Addr} {ox : Obj} {od : Option Obj}

theorem not_inst {M : Model} {h : Heap} {T : String} (X : K.In h) (I : InstAt h x ox C od) (hn : subIn K (.ref C) (.type T) = some false) : Looks M h (isInstance (.ref x) (.type T)) false :=
  I.type.andThen (looks_subIn X hn)

theorem tup_ref_eq (l : Addr) (items : Array Value) (n : Nat) (dd : Option Addr) (sl : Array (Option Value)) (x : Addr) :
    Meets (Builtin.«tuple.__eq__» ⟨[.ref l, .ref x], []⟩) (fun _ R s => (∀ M : Model, Looks M s.heap (isInstance (.ref x) (.type "tuple")) false) ∧ s.heap.get? l = some { cls := .type "tuple", dict := dd, data := .seq items n, slots := sl } ∧ R (.ok (.ret .notImplemented)) s) :=
  .of_wp fun prog w A R s h => by
    obtain ⟨hp, g, d, tk, os⟩ := s; obtain ⟨L0, hl, h⟩ := h
    have L := L0 (model prog w)
    unfold Builtin.«tuple.__eq__»
    repeat (first | with_reducible refine L.at ?_ | (refine wpAny_bind (m := isInstance (.ref x) (.type "tuple")) (L.at ?_)) | wp_step)
    exact ⟨_, rfl, h⟩
theorem tup_ref_ne (l : Addr) (items : Array Value) (n : Nat) (dd : Option Addr) (sl : Array (Option Value)) (x : Addr) :
    Meets (Builtin.«tuple.__ne__» ⟨[.ref l, .ref x], []⟩) (fun _ R s => (∀ M : Model, Looks M s.heap (isInstance (.ref x) (.type "tuple")) false) ∧ s.heap.get? l = some { cls := .type "tuple", dict := dd, data := .seq items n, slots := sl } ∧ R (.ok (.ret .notImplemented)) s) :=
  .of_wp fun prog w A R s h => by
    obtain ⟨hp, g, d, tk, os⟩ := s; obtain ⟨L0, hl, h⟩ := h
    have L := L0 (model prog w)
    unfold Builtin.«tuple.__ne__»
    repeat (first | with_reducible refine L.at ?_ | (refine wpAny_bind (m := isInstance (.ref x) (.type "tuple")) (L.at ?_)) | wp_step)
    exact ⟨_, rfl, h⟩
theorem list_ref_eq (l : Addr) (items : Array Value) (n : Nat) (dd : Option Addr) (sl : Array (Option Value)) (x : Addr) :
    Meets (Builtin.«list.__eq__» ⟨[.ref l, .ref x], []⟩) (fun _ R s => (∀ M : Model, Looks M s.heap (isInstance (.ref x) (.type "list")) false) ∧ s.heap.get? l = some { cls := .type "list", dict := dd, data := .seq items n, slots := sl } ∧ R (.ok (.ret .notImplemented)) s) :=
  .of_wp fun prog w A R s h => by
    obtain ⟨hp, g, d, tk, os⟩ := s; obtain ⟨L0, hl, h⟩ := h
    have L := L0 (model prog w)
    unfold Builtin.«list.__eq__»
    repeat (first | with_reducible refine L.at ?_ | (refine wpAny_bind (m := isInstance (.ref x) (.type "list")) (L.at ?_)) | wp_step)
    exact ⟨_, rfl, h⟩
theorem list_ref_ne (l : Addr) (items : Array Value) (n : Nat) (dd : Option Addr) (sl : Array (Option Value)) (x : Addr) :
    Meets (Builtin.«list.__ne__» ⟨[.ref l, .ref x], []⟩) (fun _ R s => (∀ M : Model, Looks M s.heap (isInstance (.ref x) (.type "list")) false) ∧ s.heap.get? l = some { cls := .type "list", dict := dd, data := .seq items n, slots := sl } ∧ R (.ok (.ret .notImplemented)) s) :=
  .of_wp fun prog w A R s h => by
    obtain ⟨hp, g, d, tk, os⟩ := s; obtain ⟨L0, hl, h⟩ := h
    have L := L0 (model prog w)
    unfold Builtin.«list.__ne__»
    repeat (first | with_reducible refine L.at ?_ | (refine wpAny_bind (m := isInstance (.ref x) (.type "list")) (L.at ?_)) | wp_step)
    exact ⟨_, rfl, h⟩
theorem dict_ref_eq (l : Addr) (x : Addr) {o : Obj} (ho : o.ExactDict) :
    Meets (Builtin.«dict.__eq__» ⟨[.ref l, .ref x], []⟩) (fun _ R s => (∀ M : Model, Looks M s.heap (isInstance (.ref x) (.type "dict")) false) ∧ s.heap.get? l = some o ∧ R (.ok (.ret .notImplemented)) s) :=
  .of_wp fun prog w A R s h => by
    obtain ⟨hp, g, d, tk, os⟩ := s; obtain ⟨L0, hl, h⟩ := h
    have L := L0 (model prog w)
    show wpAny _ _ (Builtin.Dict.dictSlotArgs "__eq__" ⟨[.ref l, .ref x], []⟩ >>= _) _ _ _
    repeat (first | with_reducible refine L.at ?_ | (refine wpAny_bind (m := isInstance (.ref x) (.type "dict")) (L.at ?_)) | wp_step)
    exact ⟨_, rfl, h⟩
theorem dict_ref_ne (l : Addr) (x : Addr) {o : Obj} (ho : o.ExactDict) :
    Meets (Builtin.«dict.__ne__» ⟨[.ref l, .ref x], []⟩) (fun _ R s => (∀ M : Model, Looks M s.heap (isInstance (.ref x) (.type "dict")) false) ∧ s.heap.get? l = some o ∧ R (.ok (.ret .notImplemented)) s) :=
  .of_wp fun prog w A R s h => by
    obtain ⟨hp, g, d, tk, os⟩ := s; obtain ⟨L0, hl, h⟩ := h
    have L := L0 (model prog w)
    show wpAny _ _ (Builtin.Dict.dictSlotArgs "__ne__" ⟨[.ref l, .ref x], []⟩ >>= _) _ _ _
    repeat (first | with_reducible refine L.at ?_ | (refine wpAny_bind (m := isInstance (.ref x) (.type "dict")) (L.at ?_)) | wp_step)
    exact ⟨_, rfl, h⟩
end
end OC

set_option Elab.async false
set_option linter.all false
set_option maxRecDepth 100000
set_option maxHeartbeats 4000000
namespace OC
open PySem PySem.SeqAt PySem.W Builtin
open AutoSeq1 (wpAny_loadPart')
open MeetsSeq MeetsSeq2 MeetsSeq3 SeqRoads2
section
variable {prog : Program} {w : World} {A : Around} {E : Value → Shared → Prop} {s : Shared} {K : Frag} {x C f : Addr} {ox : Obj} {od : Option Obj} {y : Value}

/-- what the own __eq__ hands back, turned for != -/
def turn (op : CmpOp) (b : Bool) : Bool := match op with | .Eq => b | _ => !b

/-- the class: its own __eq__ at f, its __ne__ is object's -/
structure OwnQ (K : Frag) (C f : Addr) : Prop where
  eq : findIn K (.ref C) "__eq__" = some (some (.ref f))
  ne : findIn K (.ref C) "__ne__" = some (some (.builtin "object.__ne__"))
  ob : mroIn K C (.type "object") = some true
  fn : isFn K (.ref f) = true

theorem ifBound_objNe {M : Model} {args : List Value} {Q : Option Value → Shared → Prop} (X : K.In s.heap) (I : InstAt s.heap x ox C od) (hs : findIn K (.ref C) "__ne__" = some (some (.builtin "object.__ne__")))
    (h : wpAny M A (call (.builtin "object.__ne__") (.ref x :: args)) (fun v => Q (some v)) E s) : wpAny M A (callSpecialIfBound? (.ref x) "__ne__" args) Q E s := by
  simp only [callSpecialIfBound?, bindSpecialIfBound?]
  refine wpAny_holding (wpAny_bind (wpAny_bind (wpAny_bind (I.type.here ((looks_findIn X hs).here ?_)))))
  refine wpAny_bind (wpAny_askSetting (wpAny_ite ?_))
  have fin : wpAny M A (call (.builtin "object.__ne__") ([.ref x] ++ args) >>= fun v => pure (some v)) Q E s := wpAny_bind (wpAny_mono h (fun v s' h' => wpAny_pure h') fun _ _ h' => h')
  split
  · exact wpAny_bind (wpAny_of_eq (F.cmp_object.ne.bind _) (wpAny_pure (by exact fin)))
  · exact wpAny_tryCatch (wpAny_bind (wpAny_of_eq (F.cmp_object.ne.bind _) (wpAny_pure (by exact fin))))

theorem ne_entry {Q : Fin → Shared → Prop} (hu : A.units < cLine) (X : K.In s.heap) (I : InstAt s.heap x ox C od) (O : OwnQ K C f)
    (h : wpAny (model prog w) A (call (.ref f) [.ref x, y]) (fun v s' => ∃ b, v = .bool b ∧ Q (.done (.ret (.bool (!b)))) s') E s) :
    wpAny (model prog w) A (Builtin.«object.__ne__» ⟨[.ref x, y], []⟩) Q E s := by
  obtain ⟨hp, g, d, t, os⟩ := s
  unfold Builtin.«object.__ne__»
  repeat (first
    | with_reducible refine wpAny_cRoomFor hu ?_
    | (refine wpAny_bind (m := callSpecialIfBound? (.ref x) (Str.ofString "__eq__") [y])
        (ifBound_K X I O.eq O.fn (wpAny_mono h (fun r s' hr => by
          obtain ⟨b, rfl, hq⟩ := hr
          repeat (first | exact hq | exact wpAny_pure hq | exact wpAny_truthy_bool hq | (refine wpAny_bind (m := truthy (.bool _)) (wpAny_truthy_bool ?_)) | wp_step)) fun _ _ e => e)))
    | wp_step)

theorem own_try {op : CmpOp} {Q : Value → Shared → Prop} (ho : Is2 op) (hu : A.units + 1 < cLine) (X : K.In s.heap) (I : InstAt s.heap x ox C od) (O : OwnQ K C f)
    (h : ∀ A' : Around, A' = A ∨ A' = A.in1 → wpAny (model prog w) A' (call (.ref f) [.ref x, y]) (fun v s' => ∃ b, v = .bool b ∧ Q (.bool (turn op b)) s') E s) :
    wpAny (model prog w) A (tryCompare (.ref x) (cmpInfo op).2.1 y) (fun r s' => ∃ v, r = some v ∧ Q v s') E s := by
  rcases ho with rfl | rfl
  · unfold tryCompare
    refine wpAny_bind (m := callSpecialIfBound? (.ref x) "__eq__" [y]) (ifBound_K X I O.eq O.fn (wpAny_mono (h A (.inl rfl)) (fun v s' hv => ?_) fun _ _ e => e))
    obtain ⟨b, rfl, hq⟩ := hv
    exact wpAny_pure ⟨_, rfl, hq⟩
  · unfold tryCompare
    refine wpAny_bind (m := callSpecialIfBound? (.ref x) "__ne__" [y]) (ifBound_objNe X I O.ne ?_)
    refine wpAny_call (codeAny_call_builtin F.cmp_object.ne.plain F.cmpEntry_ne (check_slot F.cmpKind_ne F.cmpSplit_ne (I.type.andThen (looks_mroIn X O.ob)) (F.cmpArgs_ne _ _) ?_))
    refine ne_entry (A := A.in1) hu X I O (wpAny_mono (h A.in1 (.inr rfl)) (fun v s' hv => ?_) fun _ _ e => e)
    obtain ⟨b, rfl, hq⟩ := hv
    first
      | exact ⟨b, rfl, wpAny_pure ⟨_, rfl, hq⟩⟩
      | exact ⟨b, rfl, wpAny_pure (wpAny_pure ⟨_, rfl, hq⟩)⟩
      | exact ⟨b, rfl, ⟨_, rfl, hq⟩⟩

theorem compareOp2 {op : CmpOp} (ho : Is2 op) (a b : Value) : compareOp op a b = richCompare op a b := by rcases ho with rfl | rfl <;> rfl

/-- the instance on the left -/
theorem rc_left {op : CmpOp} {tb : Value} {Q : Value → Shared → Prop} (ho : Is2 op) (hu : A.units + 1 < cLine) (X : K.In s.heap) (I : InstAt s.heap x ox C od) (O : OwnQ K C f) (hb : Looks (model prog w) s.heap (typeOf y) tb) (hn : notFirst K C tb = true)
    (h : ∀ A' : Around, A' = A ∨ A' = A.in1 → wpAny (model prog w) A' (call (.ref f) [.ref x, y]) (fun v s' => ∃ b, v = .bool b ∧ Q (.bool (turn op b)) s') E s) :
    wpAny (model prog w) A (richCompare op (.ref x) y) Q E s := by
  have one := own_try ho hu X I O h
  unfold richCompare
  simp only [oneThing_ref]
  refine wpAny_holding (wpAny_bind (wpAny_cRoomFor (Nat.lt_of_succ_lt hu) ?_))
  refine wpAny_bind (I.type.here (wpAny_bind (hb.here ?_)))
  split
  · rename_i q
    have e : subIn K tb (.ref C) = some false := by
      rcases Bool.or_eq_true_iff.mp hn with e | e
      · rw [beq_iff_eq.mp e] at q; simp at q
      · exact beq_iff_eq.mp e
    refine wpAny_bind ((looks_subIn X e).here ?_)
    simp only [Bool.false_eq_true, if_false]
    refine wpAny_bind (wpAny_mono one (fun r s' z => ?_) fun _ _ e => e)
    obtain ⟨v, rfl, hq⟩ := z
    exact wpAny_pure hq
  · refine wpAny_bind (wpAny_pure ?_)
    simp only [Bool.false_eq_true, if_false]
    refine wpAny_bind (wpAny_mono one (fun r s' z => ?_) fun _ _ e => e)
    obtain ⟨v, rfl, hq⟩ := z
    exact wpAny_pure hq

/-- the instance on the right, a value of a built-in type on the left -/
theorem rc_right {op : CmpOp} {T : String} {a : Value} {Q : Value → Shared → Prop} (ho : Is2 op) (hu : A.units + 1 < cLine) (X : K.In s.heap) (I : InstAt s.heap x ox C od) (O : OwnQ K C f) (ha : s.TypeIs a T) (hn : subIn K (.ref C) (.type T) = some false)
    (hne : (oneThing? op a (.ref x)) = none)
    (hd : Decl prog w A s op a (.ref x))
    (h : ∀ A' : Around, A' = A ∨ A' = A.in1 → wpAny (model prog w) A' (call (.ref f) [.ref x, a]) (fun v s' => ∃ b, v = .bool b ∧ Q (.bool (turn op b)) s') E s) :
    wpAny (model prog w) A (richCompare op a (.ref x)) Q E s := by
  have one := own_try ho hu X I O h
  have e2 : (cmpInfo op).2.2 = (cmpInfo op).2.1 := by rcases ho with rfl | rfl <;> rfl
  unfold richCompare
  simp only [hne]
  refine wpAny_holding (wpAny_bind (wpAny_cRoomFor (Nat.lt_of_succ_lt hu) ?_))
  refine wpAny_bind (wpAny_typeOf ha (wpAny_bind (I.type.here ?_)))
  have ne : (Value.type T != Value.ref C) = true := by simp
  simp only [ne, if_true]
  refine wpAny_bind ((looks_subIn X hn).here ?_)
  simp only [Bool.false_eq_true, if_false]
  refine wpAny_bind (m := tryCompare a (cmpInfo op).2.1 (.ref x)) (hd _ _ ?_)
  simp only [Bool.not_false, if_true]
  rw [e2]
  refine wpAny_bind (m := tryCompare (.ref x) (cmpInfo op).2.1 a) (wpAny_mono one (fun r s' z => ?_) fun _ _ e => e)
  obtain ⟨v, rfl, hq⟩ := z
  exact wpAny_pure hq
end
end OC

set_option Elab.async false
set_option linter.all false
set_option maxRecDepth 100000
set_option maxHeartbeats 4000000
namespace L2
open PySem PySem.Spec PyProof.Rows

/-- a foreign thing: its built-in type, its kind told by the heap -/
inductive Fo (K : PySem.W.Frag) (H : Hp) : V → String → Prop where
  | non : Fo K H .non "NoneType"
  | bl (b : Bool) : Fo K H (.bl b) "bool"
  | int (i : Int) : Fo K H (.int i) "int"
  | str (x : Str) : Fo K H (.str x) "str"
  | lst {a : Addr} {xs : List V} (e : H a = some (.lst xs)) : Fo K H (.ref a) "list"
  | tup {a : Addr} {xs : List V} (e : H a = some (.tup xs)) : Fo K H (.ref a) "tuple"
  | dK {a : Addr} {kvs : List (Key × V)} (e : H a = some (.dK kvs)) : Fo K H (.ref a) "dict"
theorem Fo.ty {K : PySem.W.Frag} {H : Hp} {x : V} {T : String} (h : Fo K H x T) : TyX K H x (.type T) := by
  cases h with
  | non => exact .base .non
  | bl b => exact .base (.bl b)
  | int i => exact .base (.int i)
  | str x => exact .base (.str x)
  | lst e => exact .base (.lst e)
  | tup e => exact .base (.tup e)
  | dK e => exact .base (.dK e)

/-- the class at C as far as == and != ask -/
structure OwnT (K : PySem.W.Frag) (C f : Addr) : Prop where
  q : OC.OwnQ K C f
  sint : PySem.W.subIn K (.ref C) (.type "int") = some false
  sbool : PySem.W.subIn K (.ref C) (.type "bool") = some false
  snon : PySem.W.subIn K (.ref C) (.type "NoneType") = some false
  sstr : PySem.W.subIn K (.ref C) (.type "str") = some false
  slst : PySem.W.subIn K (.ref C) (.type "list") = some false
  stup : PySem.W.subIn K (.ref C) (.type "tuple") = some false
  sdct : PySem.W.subIn K (.ref C) (.type "dict") = some false
theorem not_first {K : PySem.W.Frag} {C : Addr} {T : String} {l : List Value} (h : fastBuiltinMro T = some l) (hl : l.all (fun v => match v with | .type _ => true | _ => false) = true) : PySem.W.notFirst K C (.type T) = true := by
  unfold PySem.W.notFirst
  have e : PySem.W.subIn K (.type T) (.ref C) = some false := by
    show (fastBuiltinMro T).map (·.contains (.ref C)) = some false
    rw [h]
    show some (l.contains (.ref C)) = some false
    congr 1
    induction l with
    | nil => rfl
    | cons a r ih =>
      rw [List.all_cons, Bool.and_eq_true] at hl
      rw [List.contains_cons]
      have : (Value.ref C == a) = false := by
        cases a <;> first | rfl | (simp at hl)
        
      rw [this, Bool.false_or]
      clear h
      exact (by
        revert hl
        intro hl
        clear ih this
        have hl2 := hl.2
        clear hl
        induction r with
        | nil => rfl
        | cons b r ih2 =>
          rw [List.all_cons, Bool.and_eq_true] at hl2
          rw [List.contains_cons]
          have : (Value.ref C == b) = false := by
            cases b <;> first | rfl | (simp at hl2)
          rw [this, Bool.false_or]
          exact ih2 hl2.2)
  rw [e]
  simp
theorem Fo.nf {K : PySem.W.Frag} {H : Hp} {x : V} {T : String} {C : Addr} (h : Fo K H x T) : PySem.W.notFirst K C (.type T) = true := by
  cases h with
  | non => exact not_first (l := [.type "NoneType", .type "object"]) (by decide +kernel) (by decide +kernel)
  | bl b => exact not_first (l := [.type "bool", .type "int", .type "object"]) (by decide +kernel) (by decide +kernel)
  | int i => exact not_first (l := [.type "int", .type "object"]) (by decide +kernel) (by decide +kernel)
  | str x => exact not_first (l := [.type "str", .type "object"]) (by decide +kernel) (by decide +kernel)
  | lst e => exact not_first (l := [.type "list", .type "object"]) (by decide +kernel) (by decide +kernel)
  | tup e => exact not_first (l := [.type "tuple", .type "object"]) (by decide +kernel) (by decide +kernel)
  | dK e => exact not_first (l := [.type "dict", .type "object"]) (by decide +kernel) (by decide +kernel)
theorem Fo.sub {K : PySem.W.Frag} {H : Hp} {x : V} {T : String} {C f : Addr} (h : Fo K H x T) (O : OwnT K C f) : PySem.W.subIn K (.ref C) (.type T) = some false := by
  cases h with
  | non => exact O.snon
  | bl b => exact O.sbool
  | int i => exact O.sint
  | str x => exact O.sstr
  | lst e => exact O.slst
  | tup e => exact O.stup
  | dK e => exact O.sdct

section
variable {X : Cx} {pins : List (Addr × Obj)} {σ : St} {H : Hp} {s : Shared}
theorem Fo.typ {x : V} {u : Value} {T : String} (h : Fo X.K H x T) (I : Inv X pins σ H s) (r : RelV x u) : s.TypeIs u T := by
  cases h with
  | non => cases (show u = Value.none from r); rfl
  | bl b => cases (show u = Value.bool b from r); rfl
  | int i => obtain ⟨t, q⟩ := (show ∃ t, u = Value.int i t from r); cases q; rfl
  | str x => obtain ⟨t, q⟩ := (show ∃ t, u = Value.str x t from r); cases q; rfl
  | @lst a xs e =>
    cases (show u = Value.ref a from r)
    obtain ⟨_, _, n, _, h1⟩ := (show ObjOk X.prog X.w H s.heap a (.lst xs) from I.hok a _ e)
    exact ⟨_, h1, rfl⟩
  | @tup a xs e =>
    cases (show u = Value.ref a from r)
    obtain ⟨_, _, _, o, h1, h2, _⟩ := (show ObjOk X.prog X.w H s.heap a (.tup xs) from I.hok a _ e)
    exact ⟨o, h1, h2⟩
  | @dK a kvs e =>
    cases (show u = Value.ref a from r)
    obtain ⟨_, _, vs, _, o, es, ep, h1, h2, _⟩ := (show ObjOk X.prog X.w H s.heap a (.dK kvs) from I.hok a _ e)
    exact ⟨o, h1, h2.1⟩
theorem Fo.looks {x : V} {u : Value} {T : String} (h : Fo X.K H x T) (I : Inv X pins σ H s) (r : RelV x u) : PySem.W.Looks (model X.prog X.w) s.heap (typeOf u) (.type T) := by
  cases h with
  | non => cases (show u = Value.none from r); exact .of_pure rfl
  | bl b => cases (show u = Value.bool b from r); exact .of_pure rfl
  | int i => obtain ⟨t, q⟩ := (show ∃ t, u = Value.int i t from r); cases q; exact .of_pure rfl
  | str x => obtain ⟨t, q⟩ := (show ∃ t, u = Value.str x t from r); cases q; exact .of_pure rfl
  | @lst a xs e =>
    cases (show u = Value.ref a from r)
    obtain ⟨_, _, n, _, h1⟩ := (show ObjOk X.prog X.w H s.heap a (.lst xs) from I.hok a _ e)
    exact (PySem.W.Looks.ld h1).andThen .now
  | @tup a xs e =>
    cases (show u = Value.ref a from r)
    obtain ⟨_, _, _, o, h1, h2, _⟩ := (show ObjOk X.prog X.w H s.heap a (.tup xs) from I.hok a _ e)
    rw [← h2]
    exact (PySem.W.Looks.ld h1).andThen .now
  | @dK a kvs e =>
    cases (show u = Value.ref a from r)
    obtain ⟨_, _, vs, _, o, es, ep, h1, h2, _⟩ := (show ObjOk X.prog X.w H s.heap a (.dK kvs) from I.hok a _ e)
    rw [← h2.1]
    exact (PySem.W.Looks.ld h1).andThen .now
theorem Fo.one {x : V} {u : Value} {T : String} {op : CmpOp} {c : Addr} (h : Fo X.K H x T) (r : RelV x u) : oneThing? op u (.ref c) = none := by
  cases h with
  | non => cases (show u = Value.none from r); rfl
  | bl b => cases (show u = Value.bool b from r); rfl
  | int i => obtain ⟨t, q⟩ := (show ∃ t, u = Value.int i t from r); cases q; rfl
  | str x => obtain ⟨t, q⟩ := (show ∃ t, u = Value.str x t from r); cases q; rfl
  | @lst a xs e => cases (show u = Value.ref a from r); rfl
  | @tup a xs e => cases (show u = Value.ref a from r); rfl
  | @dK a kvs e => cases (show u = Value.ref a from r); rfl
theorem Fo.decl {A : Around} {x : V} {u : Value} {T : String} {op : CmpOp} {c C f : Addr} {ox : Obj} {od : Option Obj} (ho : OC.Is2 op) (h : Fo X.K H x T) (O : OwnT X.K C f) (I : Inv X pins σ H s) (r : RelV x u) (J : PySem.W.InstAt s.heap c ox C od) (hd : ox.data = .plain) :
    OC.Decl X.prog X.w A s op u (.ref c) := by
  cases h with
  | non => cases (show u = Value.none from r); exact OC.decl_none ho
  | bl b => cases (show u = Value.bool b from r); exact OC.decl_bool ho b J.at_ hd
  | int i => obtain ⟨t, q⟩ := (show ∃ t, u = Value.int i t from r); cases q; exact OC.decl_int ho i t J.at_ hd
  | str x => obtain ⟨t, q⟩ := (show ∃ t, u = Value.str x t from r); cases q; exact OC.decl_str ho x t J.at_ hd
  | @lst a xs e =>
    cases (show u = Value.ref a from r)
    obtain ⟨_, its, n, _, h1⟩ := (show ObjOk X.prog X.w H s.heap a (.lst xs) from I.hok a _ e)
    intro Q E hq
    rcases ho with rfl | rfl
    · exact wpAny_tryCompare_declines ⟨_, h1, rfl⟩ F.slot_list_eq (call_meets F.slot_list_eq ⟨_, h1, rfl⟩ F.entry_list_eq (F.args_list_eq_2 _ _) (OC.list_ref_eq a _ n _ _ c) ⟨fun M => OC.not_inst I.kIn J O.slst, h1, rfl, hq⟩)
    · exact wpAny_tryCompare_declines ⟨_, h1, rfl⟩ F.slot_list_ne (call_meets F.slot_list_ne ⟨_, h1, rfl⟩ F.entry_list_ne (F.args_list_ne_2 _ _) (OC.list_ref_ne a _ n _ _ c) ⟨fun M => OC.not_inst I.kIn J O.slst, h1, rfl, hq⟩)
  | @tup a xs e =>
    cases (show u = Value.ref a from r)
    obtain ⟨_, its, _, o, h1, h2, n, h3⟩ := (show ObjOk X.prog X.w H s.heap a (.tup xs) from I.hok a _ e)
    obtain ⟨oc, odd, dt, sl⟩ := o
    simp only at h2 h3
    subst h2 h3
    intro Q E hq
    rcases ho with rfl | rfl
    · exact wpAny_tryCompare_declines ⟨_, h1, rfl⟩ F.slot_tuple_eq (call_meets F.slot_tuple_eq ⟨_, h1, rfl⟩ F.entry_tuple_eq (F.args_tuple_eq_2 _ _) (OC.tup_ref_eq a _ n _ _ c) ⟨fun M => OC.not_inst I.kIn J O.stup, h1, rfl, hq⟩)
    · exact wpAny_tryCompare_declines ⟨_, h1, rfl⟩ F.slot_tuple_ne (call_meets F.slot_tuple_ne ⟨_, h1, rfl⟩ F.entry_tuple_ne (F.args_tuple_ne_2 _ _) (OC.tup_ref_ne a _ n _ _ c) ⟨fun M => OC.not_inst I.kIn J O.stup, h1, rfl, hq⟩)
  | @dK a kvs e =>
    cases (show u = Value.ref a from r)
    obtain ⟨_, _, vs, _, o, es, ep, h1, h2, _⟩ := (show ObjOk X.prog X.w H s.heap a (.dK kvs) from I.hok a _ e)
    intro Q E hq
    rcases ho with rfl | rfl
    · exact wpAny_tryCompare_declines ⟨_, h1, h2.1⟩ F.slot_dict_eq (call_meets F.slot_dict_eq ⟨_, h1, h2.1⟩ F.entry_dict_eq (F.args_dict_eq_2 _ _) (OC.dict_ref_eq a c h2) ⟨fun M => OC.not_inst I.kIn J O.sdct, h1, rfl, hq⟩)
    · exact wpAny_tryCompare_declines ⟨_, h1, h2.1⟩ F.slot_dict_ne (call_meets F.slot_dict_ne ⟨_, h1, h2.1⟩ F.entry_dict_ne (F.args_dict_ne_2 _ _) (OC.dict_ref_ne a c h2) ⟨fun M => OC.not_inst I.kIn J O.sdct, h1, rfl, hq⟩)

/-- what the own == promises: R tells its answer; nothing changes -/
def spOwn (R : Addr → V → Bool → Hp → Prop) : Sp := fun vs H Q _ => ∃ (a : Addr) (y : V) (b : Bool), vs = [.ref a, y] ∧ R a y b H ∧ Q (.bl b) H
/-- x == y, x != y, one of both an instance of the class at C -/
def rOwnB (K : PySem.W.Frag) (C : Addr) (R : Addr → V → Bool → Hp → Prop) (op : CmpOp) : R2 := fun x y H Q => ∃ b : Bool,
  ((∃ a dx fs, x = .ref a ∧ H a = some (.ins C dx fs) ∧ R a y b H ∧ ((∃ T, Fo K H y T) ∨ ∃ c dy gs, y = .ref c ∧ H c = some (.ins C dy gs))) ∨
    (∃ c dy gs T, y = .ref c ∧ H c = some (.ins C dy gs) ∧ Fo K H x T ∧ R c x b H)) ∧ Q (.bl (OC.turn op b)) H

theorem op_ownB {CX : CXT} {C f : Addr} {fd : FuncData} {ps : List Str} {n : Nat} {R : Addr → V → Bool → Hp → Prop} {E : XK} {op : CmpOp} (ho : OC.Is2 op) (F : FnOk X.prog X.w X.K X.mg X.base CX n f fd ps (spOwn R))
    (O : OwnT X.K C f) (hb : Binds X.K fd ps []) (hx : Passes CX X E) (hr : Room (n + 1) X.A) : OpR X (compareOp op) (rOwnB X.K C R op) := by
  intro pins s σ H x y v u Q I rx ry hq
  obtain ⟨b, hc, q⟩ := hq
  rw [OC.compareOp2 ho]
  have hu : X.A.units + 1 < cLine := hu_of hr
  -- the call of __eq__
  have run : ∀ (a : Addr) (y : V) (u : Value) (A' : Around), RelV y u → R a y b H → (A' = X.A ∨ A' = X.A.in1) →
      wpAny (model X.prog X.w) A' (call (.ref f) [.ref a, u]) (fun v s' => ∃ b, v = .bool b ∧ EP X pins σ Q (.bool (OC.turn op b)) s') X.xe s := by
    intro a y u A' ry hR hA
    have sb : Room n A' ∧ A'.frames = X.A.frames := by
      rcases hA with rfl | rfl
      · exact ⟨hr.mono (Nat.le_succ n), rfl⟩
      · exact ⟨hr.in1, rfl⟩
    have hsp : spOwn R [.ref a, y] H (fun v H' => v = .bl b ∧ H' = H) E := ⟨a, y, b, rfl, hR, rfl, rfl⟩
    have e0 : Env0 X.prog X.w X.K X.mg X.base A' X.stack s H := by
      have e := I.env0
      exact ⟨by rw [sb.2]; exact e.frames, e.mod, e.bs, e.bsz, e.funs, e.frf, e.hok, e.bare⟩
    have hl := F.len _ _ _ _ hsp
    have r2 : Vals [V.ref a, y] [Value.ref a, u] := .cons rfl (.cons ry .nil)
    refine wpAny_call (codeAny_mono (F.run A' X.stack s H ⟨[.ref a, u], []⟩ [.ref a, u] [.ref a, y] _ E sb.1 e0 (by
      have := hb s [.ref a, u] I.kIn (by simpa using hl)
      simpa using this) r2 hsp) fun r s' hq => ?_)
    cases r with
    | error e => exact hx pins σ H s e s' I hq
    | ok fl =>
      cases fl with
      | ret w =>
        obtain ⟨z, H', I', rz, ez, ex⟩ := I.after hq
        subst ez ex
        cases rz
        exact ⟨b, rfl, .bl (OC.turn op b), H', I', rfl, q⟩
      | next => exact False.elim hq
      | brk => exact False.elim hq
      | cont => exact False.elim hq
  rcases hc with ⟨a, dx, fs, rfl, ha, hR, hy⟩ | ⟨c, dy, gs, T, rfl, hc, hT, hR⟩
  · cases rx
    obtain ⟨mA, J, _⟩ := ins_get I.hok ha
    obtain ⟨od, J, _⟩ := J.look
    rcases hy with ⟨T, hT⟩ | ⟨c, dy, gs, rfl, hc⟩
    · exact OC.rc_left ho hu I.kIn J O.q (hT.looks I ry) hT.nf fun A' hA => run a y u A' ry hR hA
    · cases ry
      obtain ⟨mB, J', _⟩ := ins_get I.hok hc
      obtain ⟨od', J', _⟩ := J'.look
      exact OC.rc_left ho hu I.kIn J O.q J'.type (by simp [PySem.W.notFirst]) fun A' hA => run a (.ref c) _ A' rfl hR hA
  · cases ry
    obtain ⟨mA, J, _⟩ := ins_get I.hok hc
    obtain ⟨od, J, _⟩ := J.look
    exact OC.rc_right ho hu I.kIn J O.q (hT.typ I rx) (hT.sub O) (hT.one rx) (hT.decl ho O I rx J rfl) fun A' hA => run c x v A' rx hR hA
end
end L2

set_option Elab.async false
set_option linter.all false
set_option maxRecDepth 100000
set_option maxHeartbeats 4000000
namespace L2
open PySem PySem.Spec PyProof.Rows
/-- a try with one clause «except x as n» that serves every exception of the body, and an else: what the clause wishes -/
def wAsT (K : PySem.W.Frag) (c : Value) (i : Nat) (ts : Addr → Value → Option Addr → TS) (D : Ends) : WX := fun cls d σ H =>
  PySem.W.exmOne K cls c = some true ∧ ∀ a, H a = none → ts a cls d { nx := fun σ' H' => D.nx (σ'.set i none) H', rt := D.rt, bk := fun σ' H' => D.bk (σ'.set i none) H', ct := fun σ' H' => D.ct (σ'.set i none) H' } (σ.set i (some (.ref a))) H
section
variable {X : Cx} {x n : Str} {c : Value} {i : Nat} {body suite orelse : List Stmt} {b₀ : Stmt} {np pos pos' : Pos} {tb : WX → TS} {ts : Addr → Value → Option Addr → TS} {u : TS}
theorem ps_try_asE (ho : PSs X orelse u) (hs : X.stack = X.env :: X.outer) (hf : X.env.frame = some X.env.locals) (hN : X.N.Nodup) (hi : X.N[i]? = some n) (hln : X.env.kindOf n = some .local) (hc : Names X x c)
    (hb : ∀ (W : WX) (pn : List (Addr × Obj)) (xe : Value → Shared → Prop), Takes (X.tr pn xe) W → PSs (X.tr pn xe) body (tb W))
    (hsu : ∀ (a : Addr) (oe : Obj) (cls : Value) (d : Option Addr) (pn : List (Addr × Obj)), Zc cls d oe → (∃ vs, oe.data = .fields vs) → PSs (X.suite a ((a, oe) :: pn)) (b₀ :: suite) (ts a cls d)) :
    PS X (.Try body [.ExceptHandler (some (.Name x np)) (some n) (b₀ :: suite) pos'] orelse [] pos) (fun D σ H => tb (wAsT X.K c i ts D) { D with nx := u D } σ H) := by
  refine ⟨fun pins s σ H D I h => wpAny_Try_except ?_⟩
  have ok := I.ok
  -- the clause, from an exception that has left the body
  have catch_ : ∀ (a : Addr) (B : Heap) (sI s' : Shared) (σ' : St) (H' : Hp) (cls : Value) (d : Option Addr), Inv X pins σ' H' sI → (∀ b o, sI.heap.get? b = some o → b ∉ frs X.stack → B.get? b = some o) → sI.heap.UpToSlots s'.heap →
      Sky B X.stack a (Zc cls d) X.env.locals s'.heap → H' a = none → s'.os = sI.os → AllBare s'.gens → wAsT X.K c i ts D cls d σ' H' →
      wpAny (model X.prog X.w) X.A (noteFrame (.ref a) X.env) (fun _ s₂ => wpAny (model X.prog X.w) X.A (setFlight (.ref a) none) (fun _ s₃ =>
        wpAny (model X.prog X.w) X.A (handleBy (.ref a) X.env [.ExceptHandler (some (.Name x np)) (some n) (b₀ :: suite) pos']) (SP X pins D) X.xe s₃) X.xe s₂) X.xe s' := by
    intro a B sI s' σ' H' cls d J nb up sky na os ag ⟨hm, go⟩
    refine Sky.land (outer := X.outer) (L := X.env.locals) Zc.steady (by rw [ok.frames, hs]) hf (by rw [← hs]; exact sky) fun h3 fl up3 => ?_
    have J3 : Inv X pins σ' H' { s' with heap := h3 } := J.landed nb fl.1 (up.trans up3) os ag
    have off : a ∉ frs (X.env :: X.outer) := fun hm2 => by
      obtain ⟨oe, vs, e1, _, e2⟩ := fl.there
      obtain ⟨_, o', e3, hnf⟩ := fl.2.2.1.mem hm2
      rw [e1] at e3
      cases e3
      exact hnf _ e2
    have nL : a ≠ X.env.locals := fun z => off (List.mem_filterMap.mpr ⟨X.env, List.mem_cons_self, by rw [hf, z]⟩)
    have nF : a ∉ X.fs := fun hm2 => by
      obtain ⟨v, h1, h2⟩ := List.mem_filterMap.mp hm2
      exact off (List.mem_filterMap.mpr ⟨v, List.mem_cons_of_mem _ h1, h2⟩)
    obtain ⟨o3, v3, at3, z3, dt3⟩ := fl.there
    have S3 := J3.suite at3 dt3 na nL nF
    refine wpAny_handleBy_cons (codeAny_handlers_test ?_) (by intro q; cases q)
    have ty : PySem.W.Looks (model X.prog X.w) h3 (typeOf (.ref a)) cls := fun A Q E s k q => wpAny_typeOf_ref (k _ _ at3) (by rw [z3.1]; exact q)
    have fits := PySem.W.exm_one (M := model X.prog X.w) J3.kIn ty hm
    have name : ∀ {Q E : Value → Shared → Prop}, Q c { s' with heap := h3 } → wpAny (model X.prog X.w) (X.A.mark (some (.ref a))) (eval (.Name x np) X.env) Q E { s' with heap := h3 } := fun {Q E} q => by
      rcases hc with ⟨g, db, m | ⟨m, v, nn⟩⟩
      · exact ld_glob (X := X.suite a ((a, o3) :: (X.pn ++ pins))) S3 g m q db
      · exact ld_blt (X := X.suite a ((a, o3) :: (X.pn ++ pins))) S3 g m v q nn db
    refine name (fits.here (codeAny_handlers_suite_as (HandSPX.lands_againZ fl fun h4 fl4 up4 => ?_)))
    have J4 : Inv X pins σ' H' { s' with heap := h4 } := J.landed nb fl4.1 ((up.trans up3).trans up4) os ag
    obtain ⟨o4, v4, at4, z4, dt4⟩ := fl4.there
    refine store_ok (X := X.suite a ((a, o4) :: (X.pn ++ pins))) (v := .ref a) (J4.suite at4 dt4 na nL nF) hN hi (.inl hln) rfl (fun s5 S5 => ?_) (.inr hln)
    refine wpAny_mono ((hsu a o4 cls d (X.pn ++ pins) z4 ⟨_, dt4⟩).run [] s5 _ H' _ S5 (go a na)) (fun f s6 q => ?_) (fun _ _ z => z.elim)
    cases f with
    | next =>
      obtain ⟨σ6, H6, S6, q6⟩ := q
      exact gone_ok (S6.unsuite ok) hN hi hln fun s7 J7 => ⟨_, _, J7, q6⟩
    | brk =>
      obtain ⟨σ6, H6, S6, q6⟩ := q
      exact gone_ok (S6.unsuite ok) hN hi hln fun s7 J7 => ⟨_, _, J7, q6⟩
    | cont =>
      obtain ⟨σ6, H6, S6, q6⟩ := q
      exact gone_ok (S6.unsuite ok) hN hi hln fun s7 J7 => ⟨_, _, J7, q6⟩
    | ret r =>
      obtain ⟨v6, σ6, H6, S6, r6, q6⟩ := q
      exact gone_ok (S6.unsuite ok) hN hi hln fun s7 J7 => ⟨_, _, _, J7, r6, q6⟩
  refine wpAny_mono ((hb (wAsT X.K c i ts D) (X.pn ++ pins) _ fun e s' xx => ?_).run [] s σ H { D with nx := u D } (I.toTry _) h) (fun f s1 q => ?_) (fun e s1 z => z)
  · obtain ⟨a, B, sI, pins', σ', H', cls, d, rfl, J', nb, up, sky, na, os, ag, go⟩ := xx
    exact catch_ a B sI s' σ' H' cls d (J'.ofTry ok) nb up sky na os ag go
  · cases f with
    | next =>
      obtain ⟨σ', H', J', q'⟩ := q
      exact ho.run pins s1 σ' H' D (J'.ofTry ok) q'
    | brk =>
      obtain ⟨σ', H', J', q'⟩ := q
      exact ⟨σ', H', J'.ofTry ok, q'⟩
    | cont =>
      obtain ⟨σ', H', J', q'⟩ := q
      exact ⟨σ', H', J'.ofTry ok, q'⟩
    | ret r =>
      obtain ⟨v, σ', H', J', r', q'⟩ := q
      exact ⟨v, σ', H', J'.ofTry ok, r', q'⟩
end
end L2

set_option Elab.async false
set_option linter.all false
set_option maxRecDepth 100000
set_option maxHeartbeats 4000000
namespace L2
open PySem PySem.Spec PyProof.Rows
/-- C(..), what __init__ raises is wished for at the caller's slots -/
def tMakeS (C : Addr) (sp : Sp) (dvs : List V) (E : St → XK) (t : TA) : TE := fun σ H Q => t σ H fun vs H1 => ∀ x dx, H1 x = none → H1 dx = none → dx ≠ x →
  sp (.ref x :: (vs ++ dvs)) (upd (upd H1 dx (.own x)) x (.ins C dx [])) (fun v H2 => v = .non ∧ Q (.ref x) H2) (E σ)
section
variable {X : Cx} {CX : CXT} {k : Nat} {f C : Addr} {fd : FuncData} {ps : List Str} {sp : Sp} {dvs : List V} {ds : List Value} {E : St → XK} {x : Str} {p pos : Pos} {e : Expr} {es : List Expr} {t : TA}
theorem pe_makeS (M : Mk X.K C f) (F : FnOk X.prog X.w X.K X.mg X.base CX k f fd ps sp) (hr : Room (k + 1) X.A) (hg : Gl X x) (hm : X.mg x = some (.ref C)) (hb : Binds X.K fd ps ds) (hd : Vals dvs ds) (hx : ∀ σ, PassesAt CX X σ (E σ))
    (ha : PA X (e :: es) t) (hdb : (x == ("__debug__" : Str)) = false := by decide) (he : starEach (e :: es) X.env = (false, eval e X.env) :: starEach es X.env := by rfl) (hpl : (backTo pos (starEach es X.env)).any (·.1) = false := by rfl) :
    PE X (.Call (.Name x p) (e :: es) [] pos) (tMakeS C sp dvs E t) := by
  refine ⟨fun pins s σ H Q I h => wpAny_Call_Name_kw (ld_glob I hg hm (PySem.W.callWith_K (h₀ := X.base) I.ok.mod.kin M.kp (thn (ha.run pos pins s σ H _ I h) fun us s1 ⟨vs, H1, J, r, go⟩ => ⟨J.kIn, ?_⟩) he hpl) hdb)⟩
  -- the new instance, and its __init__
  let A1 : Addr := s1.heap.objs.size
  have wish := go (A1 + 1) A1 (J.hok.fresh (Nat.le_succ _)) (J.hok.fresh (Nat.le_refl _)) (Nat.ne_of_lt (Nat.lt_succ_self _))
  have J2 := J.made (C := C)
  have vals : Vals (V.ref (A1 + 1) :: (vs ++ dvs)) (Value.ref (A1 + 1) :: (us ++ ds)) := .cons rfl (r.append hd)
  have len : (Value.ref (A1 + 1) :: us ++ ds).length = ps.length := (F.len _ _ _ _ wish).symm.trans vals.length |>.symm
  show wpAny _ _ (call (.ref C) us) _ _ _
  refine wpAny_call (make_map (f := f) J.kIn M.makes M.init (beq_iff_eq.mp M.fn) (codeAny_mono
    (F.run _ X.stack _ _ ⟨Value.ref (A1 + 1) :: us, []⟩ (Value.ref (A1 + 1) :: (us ++ ds)) _ _ (E σ) (hr.make C us []) (J2.env0.make C us []) (hb _ (Value.ref (A1 + 1) :: us) J2.kIn len) vals wish) fun res s2 q => ?_))
  rcases res with err | fl
  · exact hx σ pins _ _ err s2 J2 q
  · cases fl with
    | ret u =>
      obtain ⟨v, H2, J3, rv, rfl, q3⟩ := J2.after q
      exact ⟨rv, .ref (A1 + 1), H2, J3, rfl, q3⟩
    | next => exact q.elim
    | brk => exact q.elim
    | cont => exact q.elim
end
end L2

set_option Elab.async false
set_option linter.all false
set_option maxRecDepth 100000
set_option maxHeartbeats 4000000
/-! raise C(), C an own exception whose __init__ takes nothing and keeps nothing -/
namespace L2
open PySem PySem.Spec PyProof.Rows
section
variable {X : Cx}
theorem mk_bare {pins : List (Addr × Obj)} {σ : St} {H1 H2 : Hp} {Q : XK} {hp hp2 h2 : Heap} {g1 g2 : Array GenState} {d1 d2 : Drawn} {t1 t2 : Nat} {os1 os2 : OsState} {a C : Addr} (T : Raises X (.ref C)) (I1 : Inv X pins σ H1 ⟨hp, g1, d1, t1, os1⟩)
    (fresh : hp.objs.size ≤ a) (old : ∀ b o, hp.get? b = some o → hp2.get? b = some o) (un : Un (frs X.stack) [] (upd H1 a (exo a C none)) H2 hp2 h2) (okay : HOk X.prog X.w H2 h2) (eos : os2 = os1) (bare : AllBare g2)
    (ea : H2 a = some (exo a C none)) (q : Q (.ref C) none (del H2 a)) : MkP X pins σ Q (.ref a) ⟨h2, g2, d2, t2, os2⟩ := by
  obtain ⟨t0, obj⟩ := exo_at okay ea
  have n1 : H1 a = none := I1.hok.fresh fresh
  -- the heap without the exception
  obtain ⟨G, same, gone⟩ := restrict h2 fun b => decide (b ≠ a)
  have at_b : ∀ b, b ≠ a → G.get? b = h2.get? b := fun b hb => same b (decide_eq_true hb)
  have at_a : G.get? a = none := gone a (by simp)
  have low : ∀ {b : Addr} {o : Obj}, hp.get? b = some o → b ≠ a := fun z => Nat.ne_of_lt (Nat.lt_of_lt_of_le (Heap.lt_size z) fresh)
  have none_up : ∀ {b : Addr}, b ≠ a → H1 b = none → upd H1 a (exo a C none) b = none := fun hb n => by rw [upd_ne hb]; exact n
  have U : Un (frs X.stack) [] H1 (del H2 a) hp G := {
    keep := fun b o z n hf hx => (at_b b (low z)).trans (un.keep b o (old b o z) (none_up (low z) n) hf hx)
    slot := fun b o z n hf hx => by
      rw [at_b b (low z)]
      exact un.slot b o (old b o z) (none_up (low z) n) hf hx
    free := fun b o z n hx => by
      rw [del_ne (low z)]
      exact un.free b o (old b o z) (none_up (low z) n) hx
    there := fun b o z hx => by
      rw [at_b b (low z)]
      exact un.there b o (old b o z) hx
    tups := fun b xs z => by
      have nb := ne_of_none z n1
      rw [del_ne nb]
      exact un.tups b xs (by rw [upd_ne nb]; exact z)
    frzs := fun b o v z => by
      have nb := ne_of_none z n1
      rw [del_ne nb]
      exact un.frzs b o v (by rw [upd_ne nb]; exact z)
    tbls := fun b ps z => by
      have nb := ne_of_none z n1
      rw [del_ne nb]
      exact un.tbls b ps (by rw [upd_ne nb]; exact z) }
  have okG : HOk X.prog X.w (del H2 a) G := fun b o z => by
    have nb : b ≠ a := fun e => by
      rw [e, del_same] at z
      cases z
    rw [del_ne nb] at z
    have owner : ∀ {c : Addr}, H2 c = some (.own b) → c ≠ a := fun hc => at_ne ea hc exo_own
    refine (okay b o z).stay (fun c v hc y => ?_) (fun c hc => by rw [del_ne (owner hc)]; exact hc) (fun c xs hc => by rw [del_ne (at_ne ea hc exo_tup)]; exact hc)
    have nc : c ≠ a := hc.elim (fun e => e ▸ nb) owner
    rw [at_b c nc]
    exact y
  have J : Inv X pins σ (del H2 a) ⟨G, g2, d2, t2, os2⟩ := I1.call' (ch := []) eos U okG bare (fun b z => absurd z (by simp))
  refine ⟨a, _, _, ⟨G, g2, d2, t2, os2⟩, _, .ref C, none, rfl, J, fun b o z => ?_, at_a, obj, ⟨rfl, rfl⟩, rfl, rfl, del_same, rfl, bare, T, q⟩
  by_cases e : b = a
  · rw [e, at_a] at z
    cases z
  · exact (at_b b e).symm.trans z
/-- C(): what its __init__ asks, then the exception without fields -/
def tMk0 (C : Addr) (sp : Sp) : St → Hp → XK → Prop := fun _ H Q => ∀ a, H a = none → sp [.ref a] (upd H a (exo a C none)) (fun v H2 => v = .non ∧ H2 a = some (exo a C none) ∧ Q (.ref C) none (del H2 a)) (fun _ _ _ => False)
theorem pmk_bare {CX : CXT} {x : Str} {p pos : Pos} {C fI : Addr} {k : Nat} {fd : FuncData} {ps : List Str} {sp : Sp} (T : OexC X.K C) (iC : PySem.W.findIn X.K (.ref C) "__init__" = some (some (.ref fI))) (tI : PySem.W.typeIn X.K (.ref fI) = some (.type "function"))
    (F1 : FnOk X.prog X.w X.K X.mg X.base CX k fI fd ps sp) (hr : Room (k + 1) X.A) (hb : Binds X.K fd ps []) (hx : Passes CX X (fun _ _ _ => False)) (hg : Gl X x) (hm : X.mg x = some (.ref C)) (hdb : (x == ("__debug__" : Str)) = false := by decide) :
    PMk X (.Call (.Name x p) [] [] pos) (tMk0 C sp) := by
  intro pins s σ H Q I h
  obtain ⟨nm, qn, N, bs, bm, sn, sub, ab, col, dd, k0, k1, k2, k3, k5, hC, hbm⟩ := T.cls
  refine wpAny_Call_Name_kw (ld_glob I hg hm ?_ hdb)
  refine PySem.W.callWith_K0 I.kIn T.kC ?_
  show wpAny _ _ (call (.ref C) []) _ _ _
  obtain ⟨hp, g, dr, tk, os⟩ := s
  have I0 := I
  have grown : hp.objs.size ≤ hp.objs.size + 1 := Nat.le_succ _
  have want := h (hp.objs.size + 1) (I0.hok.fresh grown)
  have keeps : ∀ b o, hp.get? b = some o → ((hp.push (PySem.W.kdv_tup [])).push (PySem.HandSPX.excO C hp.objs.size)).get? b = some o := fun b o e => Heap.get?_push_of_some _ (Heap.get?_push_of_some _ e)
  have there : ((hp.push (PySem.W.kdv_tup [])).push (PySem.HandSPX.excO C hp.objs.size)).get? (hp.objs.size + 1) = some (PySem.HandSPX.excO C hp.objs.size) := by heap_get
  have I2 : Inv X pins σ (upd H (hp.objs.size + 1) (exo (hp.objs.size + 1) C none)) ⟨(hp.push (PySem.W.kdv_tup [])).push (PySem.HandSPX.excO C hp.objs.size), g, dr, tk, os⟩ := I0.laid (t' := tk) keeps grown (exo_ok there)
  have self : Vals [V.ref (hp.objs.size + 1)] [Value.ref (hp.objs.size + 1)] := .cons rfl .nil
  have one : [Value.ref (hp.objs.size + 1)].length = ps.length := by
    have e := self.length
    rw [F1.len _ _ _ _ want] at e
    exact e.symm
  refine wpAny_call (PySem.HandSPX.call_own F.excBase_ValueError (fun Y => PySem.HandSPX.refsVE_contains Y bm hbm) (I0.kIn _ _ hC) (PySem.W.looks_findIn I0.kIn iC) (fun u => PySem.W.bind_fn I0.kIn u tI) (by show 0 ≤ sizeLine; exact Nat.zero_le _)
    (codeAny_mono (F1.run _ X.stack _ _ ⟨[Value.ref (hp.objs.size + 1)], []⟩ [Value.ref (hp.objs.size + 1)] _ _ (fun _ _ _ => False) (hr.make C [] []) (I2.env0.make C [] []) (by simpa using hb _ [Value.ref (hp.objs.size + 1)] I2.kIn (by simpa using one)) self want) fun r s' done => ?_))
  cases r with
  | error er => exact hx pins σ _ _ er s' I2 done
  | ok fl =>
    cases fl with
    | ret u =>
      obtain ⟨v, H2, os2, bare2, un2, ok2, rv, ev, ea, q2⟩ := done
      subst ev
      obtain ⟨h2, g2, d2, t2, os'⟩ := s'
      exact ⟨rv, mk_bare (raises_own T.exC T.tyC) I0 grown keeps un2 ok2 os2 bare2 ea q2⟩
    | next => exact done.elim
    | brk => exact done.elim
    | cont => exact done.elim
end
end L2

set_option Elab.async false
set_option linter.all false
set_option maxRecDepth 100000
set_option maxHeartbeats 4000000
/-! a sequence that may be a list or a tuple, gone through -/
namespace L2
open PySem PySem.Spec PyProof.Rows
def Sq (H : Hp) (a : Addr) (xs : List V) : Prop := H a = some (.lst xs) ∨ H a = some (.tup xs)
theorem Sq.same {H H' : Hp} {a : Addr} {xs : List V} (h : Sq H a xs) (s : ∀ o, H a = some o → H' a = some o) : Sq H' a xs := h.elim (fun e => .inl (s _ e)) fun e => .inr (s _ e)
/-- its iterator -/
def JS (K : PySem.W.Frag) (H : Hp) (a : Addr) (xs : List V) (J : It) : Prop := (J = Itl K a ∧ H a = some (.lst xs)) ∨ (J = Itt K a ∧ H a = some (.tup xs))
abbrev iSq (K : PySem.W.Frag) (tl : TE) : TI := fun σ H R => iList K tl σ H R ∨ iTup K tl σ H R
section
variable {X : Cx} {tg e : Expr} {t : TE}
theorem pi_sq (h : PE X e t) : PI X tg e (iSq X.K t) :=
  ⟨fun ps s σ H R I h2 => h2.elim ((pi_list (tg := tg) h).run ps s σ H R I) ((pi_tup (tg := tg) h).run ps s σ H R I)⟩
end
theorem it_sq {K : PySem.W.Frag} {i : Nat} {σ : St} {H : Hp} {a : Addr} {xs : List V} {R : It → Hp → Prop} (e : σ[i]? = some (some (V.ref a))) (h : Sq H a xs) (k : ∀ J, JS K H a xs J → R J H) : iSq K (tVar i) σ H R := by
  rcases h with h | h
  · exact .inl ⟨_, e, a, rfl, ⟨_, SqL.of h⟩, k _ (.inl ⟨rfl, h⟩)⟩
  · exact .inr ⟨_, e, a, rfl, ⟨_, SqT.of h⟩, k _ (.inr ⟨rfl, h⟩)⟩
theorem lc_sq {K : PySem.W.Frag} {a : Addr} {xs : List V} {J : It} {g : TG} {tt : TT} {te : TE} {vs : List Nat} {σ : St} {H0 H1 : Hp} {D : Addr} {Qd : Hp → Prop} (j : JS K H0 a xs J) (Pv : Nat → Hp → Prop) (h0 : Pv 0 (upd H1 D (.lst []))) (hl : ∀ i H, i ≤ xs.length → Pv i H → ∀ o, H0 a = some o → H a = some o)
    (hs : ∀ i x H, xs[i]? = some x → Pv i H → g x (wipe σ vs) H fun σ2 H2 => wipe σ2 vs = wipe σ vs ∧ tt σ2 H2 fun b H3 =>
      if b = true then te σ2 H3 fun y H4 => ∃ acc, H4 D = some (.lst acc) ∧ acc.length < sizeLine ∧ Pv (i + 1) (upd H4 D (.lst (acc ++ [y]))) else Pv (i + 1) H3) (hd : ∀ H, Pv xs.length H → Qd H) :
    ∃ W : Nat → Nat → Hp → Prop, (∃ m, W 0 m (upd H1 D (.lst []))) ∧ ∀ i m H, W i m H →
      (J.stop i H ∧ Qd H) ∨ (J.go i H ∧ ∃ Nx : Hp → Prop, (∀ H', Nx H' → ∃ m', m' < m ∧ W (i + 1) m' H') ∧ ∀ x H', J.yld i H x H' → g x (wipe σ vs) H' fun σ2 H2 => wipe σ2 vs = wipe σ vs ∧ tt σ2 H2 fun b H3 =>
        if b = true then te σ2 H3 fun y H4 => ∃ acc, H4 D = some (.lst acc) ∧ acc.length < sizeLine ∧ Nx (upd H4 D (.lst (acc ++ [y]))) else Nx H3) := by
  rcases j with ⟨rfl, e⟩ | ⟨rfl, e⟩
  · exact lc_list (K := K) Pv h0 (fun i H hi p => SqL.of (hl i H hi p _ e)) hs hd
  · exact lc_tup (K := K) Pv h0 (fun i H hi p => SqT.of (hl i H hi p _ e)) hs hd
theorem for_sq {K : PySem.W.Frag} {a : Addr} {xs : List V} {J : It} {g : TG} {tb : TS} {D : Ends} {σ : St} {H0 H : Hp} (j : JS K H0 a xs J) (Pv : Nat → St → Hp → Prop) (h0 : Pv 0 σ H) (hl : ∀ i σ H, i ≤ xs.length → Pv i σ H → ∀ o, H0 a = some o → H a = some o)
    (hs : ∀ i x σ H, xs[i]? = some x → Pv i σ H → g x σ H fun σ2 H2 => tb { D with nx := Pv (i + 1), ct := Pv (i + 1), bk := D.nx } σ2 H2) (hd : ∀ σ H, Pv xs.length σ H → D.nx σ H) :
    ∃ W : Nat → Nat → St → Hp → Prop, (∃ m, W 0 m σ H) ∧ ∀ i m σ H, W i m σ H →
      (J.stop i H ∧ D.nx σ H) ∨ (J.go i H ∧ ∃ N : St → Hp → Prop, (∀ σ' H', N σ' H' → ∃ m', m' < m ∧ W (i + 1) m' σ' H') ∧ ∀ x H', J.yld i H x H' → g x σ H' fun σ2 H2 => tb { D with nx := N, ct := N, bk := D.nx } σ2 H2) := by
  rcases j with ⟨rfl, e⟩ | ⟨rfl, e⟩
  · exact for_list (K := K) Pv h0 (fun i σ H hi p => SqL.of (hl i σ H hi p _ e)) hs hd
  · exact for_tup (K := K) Pv h0 (fun i σ H hi p => SqT.of (hl i σ H hi p _ e)) hs hd
theorem dcT_tup {K : PySem.W.Frag} {a : Addr} {xs : List V} {g : TG} {tt : TT} {tk tv : TE} {vs : List Nat} {σ : St} {H1 : Hp} {D : Addr} {Qd : Hp → Prop} (Pv : Nat → Hp → Prop) (h0 : Pv 0 (upd H1 D (.dT []))) (stays : ∀ i H, i ≤ xs.length → Pv i H → SqT K H a xs)
    (hs : ∀ i x H, xs[i]? = some x → Pv i H → g x (wipe σ vs) H fun σ2 H2 => wipe σ2 vs = wipe σ vs ∧ tt σ2 H2 fun b H3 => if b = true then tk σ2 H3 fun y H4 => tv σ2 H4 fun z H5 =>
      ∃ kvs k c, y = .ref c ∧ H5 c = some (.tup (k.map kV)) ∧ H5 D = some (.dT kvs) ∧ kvs.length < sizeLine ∧ Pv (i + 1) (upd H5 D (.dT (putK kvs k z))) else Pv (i + 1) H3) (hd : ∀ H, Pv xs.length H → Qd H) :
    ∃ W : Nat → Nat → Hp → Prop, (∃ m, W 0 m (upd H1 D (.dT []))) ∧ ∀ i m H, W i m H → ((Itt K a).stop i H ∧ Qd H) ∨ ((Itt K a).go i H ∧ ∃ Nx : Hp → Prop, (∀ H', Nx H' → ∃ m', m' < m ∧ W (i + 1) m' H') ∧
      ∀ x H', (Itt K a).yld i H x H' → g x (wipe σ vs) H' fun σ2 H2 => wipe σ2 vs = wipe σ vs ∧ tt σ2 H2 fun b H3 => if b = true then tk σ2 H3 fun y H4 => tv σ2 H4 fun z H5 =>
        ∃ kvs k c, y = .ref c ∧ H5 c = some (.tup (k.map kV)) ∧ H5 D = some (.dT kvs) ∧ kvs.length < sizeLine ∧ Nx (upd H5 D (.dT (putK kvs k z))) else Nx H3) := by
  refine ⟨fun i m H => m = xs.length - i ∧ i ≤ xs.length ∧ Pv i H, ⟨xs.length, by simp, Nat.zero_le _, h0⟩, ?_⟩
  rintro i m H ⟨rfl, hi, p⟩
  have q := stays i H hi p
  by_cases hlt : i < xs.length
  · refine .inr ⟨⟨xs, xs[i], q, by simp [hlt]⟩, Pv (i + 1), fun H' p' => ⟨xs.length - (i + 1), by omega, rfl, hlt, p'⟩, fun x H' y => ?_⟩
    obtain ⟨e, y⟩ := y
    subst e
    exact hs i x _ (y xs q) p
  · have e : i = xs.length := by omega
    subst e
    exact .inl ⟨⟨xs, q, by simp⟩, hd H p⟩
theorem dcT_sq {K : PySem.W.Frag} {a : Addr} {xs : List V} {J : It} {g : TG} {tt : TT} {tk tv : TE} {vs : List Nat} {σ : St} {H0 H1 : Hp} {D : Addr} {Qd : Hp → Prop} (j : JS K H0 a xs J) (Pv : Nat → Hp → Prop) (h0 : Pv 0 (upd H1 D (.dT []))) (hl : ∀ i H, i ≤ xs.length → Pv i H → ∀ o, H0 a = some o → H a = some o)
    (hs : ∀ i x H, xs[i]? = some x → Pv i H → g x (wipe σ vs) H fun σ2 H2 => wipe σ2 vs = wipe σ vs ∧ tt σ2 H2 fun b H3 => if b = true then tk σ2 H3 fun y H4 => tv σ2 H4 fun z H5 =>
      ∃ kvs k c, y = .ref c ∧ H5 c = some (.tup (k.map kV)) ∧ H5 D = some (.dT kvs) ∧ kvs.length < sizeLine ∧ Pv (i + 1) (upd H5 D (.dT (putK kvs k z))) else Pv (i + 1) H3) (hd : ∀ H, Pv xs.length H → Qd H) :
    ∃ W : Nat → Nat → Hp → Prop, (∃ m, W 0 m (upd H1 D (.dT []))) ∧ ∀ i m H, W i m H → (J.stop i H ∧ Qd H) ∨ (J.go i H ∧ ∃ Nx : Hp → Prop, (∀ H', Nx H' → ∃ m', m' < m ∧ W (i + 1) m' H') ∧
      ∀ x H', J.yld i H x H' → g x (wipe σ vs) H' fun σ2 H2 => wipe σ2 vs = wipe σ vs ∧ tt σ2 H2 fun b H3 => if b = true then tk σ2 H3 fun y H4 => tv σ2 H4 fun z H5 =>
        ∃ kvs k c, y = .ref c ∧ H5 c = some (.tup (k.map kV)) ∧ H5 D = some (.dT kvs) ∧ kvs.length < sizeLine ∧ Nx (upd H5 D (.dT (putK kvs k z))) else Nx H3) := by
  rcases j with ⟨rfl, e⟩ | ⟨rfl, e⟩
  · exact dcT_list (K := K) Pv h0 (fun i H hi p => SqL.of (hl i H hi p _ e)) hs hd
  · exact dcT_tup (K := K) Pv h0 (fun i H hi p => SqT.of (hl i H hi p _ e)) hs hd
end L2

set_option Elab.async false
set_option linter.all false
set_option maxRecDepth 100000
set_option maxHeartbeats 4000000
/-! two lists of the very same things are not unlike, whatever the things are -/
namespace L2
open PySem PySem.Spec PyProof.Rows PySem.SeqAt PySem.MeetsSeq
def PlV : V → Prop
  | .non => True
  | .bl _ => True
  | .int _ => True
  | .str _ => True
  | .ref _ => True
  | _ => False
theorem eqAt_sameV {A : Around} {s : Shared} {v : V} {x y : Value} (h : PlV v) (rx : RelV v x) (ry : RelV v y) : EqAt A s x y true := by
  cases v with
  | non => cases rx; cases ry; exact EqAt.same _
  | bl b => cases rx; cases ry; exact EqAt.same _
  | ref a => cases rx; cases ry; exact EqAt.same _
  | int i =>
    obtain ⟨t, rfl⟩ := rx
    obtain ⟨u, rfl⟩ := ry
    have := EqAt.int_int (A := A) (s := s) i t i u
    rwa [beq_self_eq_true] at this
  | str i =>
    obtain ⟨t, rfl⟩ := rx
    obtain ⟨u, rfl⟩ := ry
    have := EqAt.str_str (A := A) (s := s) i t i u
    rwa [beq_self_eq_true] at this
  | _ => cases h
def rNeSame (K : PySem.W.Frag) : R2 := fun x y H Q => ∃ a b xs, x = .ref a ∧ y = .ref b ∧ SqL K H a xs ∧ SqL K H b xs ∧ (∀ v ∈ xs, PlV v) ∧ Q (.bl false) H
theorem op_neSame {X : Cx} (hu : X.A.units < cLine) : OpR X (compareOp .NotEq) (rNeSame X.K) := by
  intro pins s σ H x y v u Q I rx ry h
  obtain ⟨a, b, xs, rfl, rfl, h1, h2, hp, q⟩ := h
  cases rx
  cases ry
  obtain ⟨i1, r1, p1, _⟩ := I.list h1
  obtain ⟨i2, r2, p2, _⟩ := I.list h2
  have l1 := r1.length
  have l2 := r2.length
  have rc := RcNeAt.lists (A := X.A) (s := s) (e := fun _ => true) p1.isList p2.isList (by simp only [List.size_toArray]; omega) hu fun j j1 j2 => by
    have hj : j < xs.length := by
      simp only [List.size_toArray] at j1
      omega
    have hx : xs[j]? = some xs[j] := List.getElem?_eq_getElem hj
    obtain ⟨u1, e1, q1⟩ := r1.get hx
    obtain ⟨u2, e2, q2⟩ := r2.get hx
    have g1 : i1.toArray[j] = u1 := by
      simp only [List.getElem_toArray]
      exact (List.getElem?_eq_some_iff.mp e1).2
    have g2 : i2.toArray[j] = u2 := by
      simp only [List.getElem_toArray]
      exact (List.getElem?_eq_some_iff.mp e2).2
    rw [g1, g2]
    exact eqAt_sameV (hp _ (List.mem_of_getElem? hx)) q1 q2
  have all : (List.range i1.toArray.size).all (fun _ => true) = true := List.all_eq_true.mpr fun _ _ => rfl
  rw [all] at rc
  exact rc X.prog X.w _ _ ⟨.bl false, H, I, rfl, q⟩
end L2

set_option Elab.async false
set_option linter.all false
set_option maxRecDepth 100000
set_option maxHeartbeats 4000000
/-! {k: v}, one pair, the key a tuple of ints and texts -/
namespace L2
open PySem PySem.Spec PyProof.Rows
def tDispT1 (tk tv : TE) : TE := fun σ H Q => ∀ D, H D = none → tk σ (upd H D (.dT [])) fun x H1 => tv σ H1 fun y H2 => ∃ k c, x = .ref c ∧ H2 c = some (.tup (k.map kV)) ∧ H2 D = some (.dT []) ∧ Q (.ref D) (upd H2 D (.dT (putK [] k y)))
theorem pe_dispT1 {X : Cx} {pos : Pos} {k v : Expr} {tk tv : TE} (hu : X.A.units + 1 < cLine) (hk : PE X k tk) (hv : PE X v tv) : PE X (.Dict [some k] [v] pos) (tDispT1 tk tv) := by
  refine ⟨fun pins s σ H Q I q => ?_⟩
  have hn := I.hok.fresh (Nat.le_refl s.heap.objs.size)
  have I1 := I.laid (a := s.heap.objs.size) (o := .dT []) (h' := s.heap.push { cls := .type "dict", data := .dict #[] }) (t' := s.toks) (fun _ _ q => Heap.get?_push_of_some _ q) (Nat.le_refl _) (dt_empty s.heap I.big)
  have q1 := q _ hn
  have hsh : (evalEachOpt [some k] X.env).zip ((evalEach [v] X.env).map fun v => do let x ← v; standAt pos; pure x) = (pairTrees [some k] [v] X.env pos).map fun p => (some p.1, p.2) := zip_pairTrees [some k] [v] X.env pos rfl rfl
  rw [arm_eval_Dict, hsh, dictDisplay_pairs (pairTrees [some k] [v] X.env pos) (by intro e; cases e) (by show 1 < 17; decide)]
  refine wpAny_bind (wpAny_standAt (wpAny_bind ?_))
  unfold subDict
  refine wpAny_bind (wpAny_alloc ?_)
  refine wpAny_bind (wpAny_holding ?_)
  rw [if_pos (show (pairTrees [some k] [v] X.env pos).length ≤ 15 from by show 1 ≤ 15; decide)]
  refine wpAny_bind (pairTrees_cons_walk (thn (hk.run pins _ σ _ _ I1 q1) fun u s1 ⟨x, H1, I2, rx, q2⟩ => thn (hv.run pins s1 σ H1 _ I2 q2) fun w2 s2 ⟨y, H2, I3, ry, q3⟩ => pairTrees_nil_walk ?_))
  obtain ⟨ks, c, rfl, ec, eD, q4⟩ := q3
  refine wpAny_holding ?_
  refine wpAny_bind ?_
  rw [List.forIn_cons]
  refine wpAny_bind (wpAny_bind (putT_set hu I3 eD (by decide) ec rx ry fun z' I4 => wpAny_pure ?_))
  dsimp only
  rw [List.forIn_nil]
  exact wpAny_pure (wpAny_pure (wpAny_pure (wpAny_pure ⟨.ref s.heap.objs.size, _, I4, rfl, q4⟩)))
end L2

set_option Elab.async false
set_option linter.all false
set_option maxRecDepth 100000
set_option maxHeartbeats 4000000
namespace L2
open PySem PySem.Spec PyProof.Rows
section
variable {X : Cx}
/-- one reading of an iterable or another -/
theorem pi_or {tg e : Expr} {t u : TI} (h1 : PI X tg e t) (h2 : PI X tg e u) : PI X tg e (fun σ H R => t σ H R ∨ u σ H R) :=
  ⟨fun ps s σ H R I h => h.elim (h1.run ps s σ H R I) (h2.run ps s σ H R I)⟩
/-- one reading of an operation or another -/
theorem op_orR {f : Value → Value → Sem Value} {r1 r2 : R2} (h1 : OpR X f r1) (h2 : OpR X f r2) : OpR X f (fun x y H Q => r1 x y H Q ∨ r2 x y H Q) :=
  fun ps s σ H x y v u Q I rx ry h => h.elim (h1 ps s σ H x y v u Q I rx ry) (h2 ps s σ H x y v u Q I rx ry)
theorem call_or {f : Value} {r1 r2 : List V → Hp → VK → Prop} (h1 : CallR X f r1) (h2 : CallR X f r2) : CallR X f (fun xs H Q => r1 xs H Q ∨ r2 xs H Q) :=
  fun ps s σ H xs us Q I rx h => h.elim (h1 ps s σ H xs us Q I rx) (h2 ps s σ H xs us Q I rx)
end
end L2
namespace K6
open PySem L2
def top (i : Nat) : Stmt := PySem.Challenge.pw_bothwalks_k54_an_order_is_the_closure_of.main.body.getD i (.Pass ⟨0, 0, 0, 0⟩)
/-- a def of the text that stands, is kept and keeps its promise; nothing leaves it -/
structure Cal (P : Program) (w : World) (K : PySem.W.Frag) (mg : Str → Option Value) (base : Heap) (k : Nat) (x : Str) (ps : List Str) (sp : Sp) : Prop where
  ex : ∃ (f : Addr) (fd : FuncData), mg x = some (.ref f) ∧ PySem.W.keepIn K (.ref f) = true ∧ FnOk P w K mg base CX0 k f fd ps sp ∧ Binds K fd ps []
section
variable {X : Cx} {k : Nat} {ps : List Str} {sp : Sp} {x : Str} {p pos : Pos} {e : Expr} {es : List Expr} {t : TA}
theorem pe_cal (c : Cal X.prog X.w X.K X.mg X.base k x ps sp) (hr : Room k X.A) (hg : Gl X x) (ha : PA X (e :: es) t) (hdb : (x == ("__debug__" : Str)) = false := by decide)
    (he : starEach (e :: es) X.env = (false, eval e X.env) :: starEach es X.env := by rfl) (hpl : (backTo pos (starEach es X.env)).any (·.1) = false := by rfl) :
    PE X (.Call (.Name x p) (e :: es) [] pos) (tCall sp [] E0 t) := by
  obtain ⟨f, fd, hm, hk, F, hb⟩ := c.ex
  exact pe_call F hr hg hm hk hb .nil pass0 ha hdb he hpl
end
theorem iteB {c : Bool} {A B : Prop} (h1 : c = true → A) (h2 : c = false → B) : if c = true then A else B := by
  cases c
  · rw [if_neg (by decide)]
    exact h2 rfl
  · rw [if_pos rfl]
    exact h1 rfl
/-- the built-in names that stand as they are -/
structure Bn (mg : Str → Option Value) : Prop where
  n_isinstance : mg "isinstance" = none
  n_int : mg "int" = none
  n_bool : mg "bool" = none
  n_abs : mg "abs" = none
  n_len : mg "len" = none
  n_list : mg "list" = none
  n_tuple : mg "tuple" = none
  n_range : mg "range" = none
  n_all : mg "all" = none
  n_any : mg "any" = none
  n_ValueError : mg "ValueError" = none
/-! ### things of any kind -/
inductive Kd
  | int | bl | non | str | lst | tup | dct | shr
def Kd.ty : Kd → Option String
  | .int => some "int" | .bl => some "bool" | .non => some "NoneType" | .str => some "str" | .lst => some "list" | .tup => some "tuple" | .dct => some "dict" | .shr => none
/-- a thing: C is the class Share -/
inductive Th (C : Addr) (H : Hp) : V → Kd → Prop
  | int (i : Int) : Th C H (.int i) .int
  | bl (b : Bool) : Th C H (.bl b) .bl
  | non : Th C H .non .non
  | str (x : Str) : Th C H (.str x) .str
  | lst {a : Addr} {xs : List V} (e : H a = some (.lst xs)) : Th C H (.ref a) .lst
  | tup {a : Addr} {xs : List V} (e : H a = some (.tup xs)) : Th C H (.ref a) .tup
  | dK {a : Addr} {kvs : List (Key × V)} (e : H a = some (.dK kvs)) : Th C H (.ref a) .dct
  | dT {a : Addr} {kvs : List (List Key × V)} (e : H a = some (.dT kvs)) : Th C H (.ref a) .dct
  | shr {a dx : Addr} {fs : List (Str × V)} (e : H a = some (.ins C dx fs)) : Th C H (.ref a) .shr
theorem Th.same {C : Addr} {H H' : Hp} {x : V} {k : Kd} (h : Th C H x k) (s : Same H H') : Th C H' x k := by
  cases h with
  | int i => exact .int i
  | bl b => exact .bl b
  | non => exact .non
  | str x => exact .str x
  | lst e => exact .lst (s _ _ e)
  | tup e => exact .tup (s _ _ e)
  | dK e => exact .dK (s _ _ e)
  | dT e => exact .dT (s _ _ e)
  | shr e => exact .shr (s _ _ e)
/-- the class Share, as far as isinstance asks -/
structure ShI (K : PySem.W.Frag) (C : Addr) : Prop where
  cl : Cls K C
  ha : PySem.W.findIn K (.ref C) "__class__" = some (some (.builtin "object.__class__"))
  hn : PySem.W.specialIn K (.builtin "object.__class__") "__get__" = some (some (.builtin "getset_descriptor.__get__"))
  htk : PySem.W.takesIn K (.builtin "object.__class__") = some true
  hm : PySem.W.mroIn K C (.type "object") = some true
  cint : PySem.W.kitOne K (.ref C) (.type "int") = some false
  cbool : PySem.W.kitOne K (.ref C) (.type "bool") = some false
  clist : PySem.W.kitOne K (.ref C) (.type "list") = some false
  ctup : PySem.W.kitOne K (.ref C) (.type "tuple") = some false
  self : PySem.W.kitOne K (.ref C) (.ref C) = some true
  other : ∀ T : Str, T = "int" ∨ T = "bool" ∨ T = "NoneType" ∨ T = "str" ∨ T = "list" ∨ T = "tuple" ∨ T = "dict" → True
  oint : PySem.W.kitOne K (.type "int") (.ref C) = some false
  obool : PySem.W.kitOne K (.type "bool") (.ref C) = some false
  onon : PySem.W.kitOne K (.type "NoneType") (.ref C) = some false
  ostr : PySem.W.kitOne K (.type "str") (.ref C) = some false
  olst : PySem.W.kitOne K (.type "list") (.ref C) = some false
  otup : PySem.W.kitOne K (.type "tuple") (.ref C) = some false
  odct : PySem.W.kitOne K (.type "dict") (.ref C) = some false
def Kd.isInt : Kd → Bool | .int => true | .bl => true | _ => false
def Kd.isBool : Kd → Bool | .bl => true | _ => false
def Kd.isList : Kd → Bool | .lst => true | _ => false
def Kd.isTup : Kd → Bool | .tup => true | _ => false
def Kd.isShr : Kd → Bool | .shr => true | _ => false
theorem Th.is {K : PySem.W.Frag} {C : Addr} {H : Hp} {x : V} {k : Kd} (I : ShI K C) (h : Th C H x k) : ∃ t, TyX K H x t ∧ PySem.W.kitOne K t (.type "int") = some k.isInt ∧ PySem.W.kitOne K t (.type "bool") = some k.isBool ∧ PySem.W.kitOne K t (.type "list") = some k.isList ∧ PySem.W.kitOne K t (.type "tuple") = some k.isTup ∧ PySem.W.kitOne K t (.ref C) = some k.isShr := by
  cases h with
  | int i => exact ⟨_, .base (.int i), kit_ty (r := true) (by decide +kernel), kit_ty (r := false) (by decide +kernel), kit_ty (r := false) (by decide +kernel), kit_ty (r := false) (by decide +kernel), I.oint⟩
  | bl b => exact ⟨_, .base (.bl b), kit_ty (r := true) (by decide +kernel), kit_ty (r := true) (by decide +kernel), kit_ty (r := false) (by decide +kernel), kit_ty (r := false) (by decide +kernel), I.obool⟩
  | non => exact ⟨_, .base .non, kit_ty (r := false) (by decide +kernel), kit_ty (r := false) (by decide +kernel), kit_ty (r := false) (by decide +kernel), kit_ty (r := false) (by decide +kernel), I.onon⟩
  | str s => exact ⟨_, .base (.str s), kit_ty (r := false) (by decide +kernel), kit_ty (r := false) (by decide +kernel), kit_ty (r := false) (by decide +kernel), kit_ty (r := false) (by decide +kernel), I.ostr⟩
  | lst e => exact ⟨_, .base (.lst e), kit_ty (r := false) (by decide +kernel), kit_ty (r := false) (by decide +kernel), kit_ty (r := true) (by decide +kernel), kit_ty (r := false) (by decide +kernel), I.olst⟩
  | tup e => exact ⟨_, .base (.tup e), kit_ty (r := false) (by decide +kernel), kit_ty (r := false) (by decide +kernel), kit_ty (r := false) (by decide +kernel), kit_ty (r := true) (by decide +kernel), I.otup⟩
  | dK e => exact ⟨_, .base (.dK e), kit_ty (r := false) (by decide +kernel), kit_ty (r := false) (by decide +kernel), kit_ty (r := false) (by decide +kernel), kit_ty (r := false) (by decide +kernel), I.odct⟩
  | dT e => exact ⟨_, .base (.dT e), kit_ty (r := false) (by decide +kernel), kit_ty (r := false) (by decide +kernel), kit_ty (r := false) (by decide +kernel), kit_ty (r := false) (by decide +kernel), I.odct⟩
  | shr e => exact ⟨_, .base (.ins e I.cl I.ha I.hn I.htk I.hm), I.cint, I.cbool, I.clist, I.ctup, I.self⟩
/-- an int that is no flag, between -/
def isI : V → Bool
  | .int _ => true
  | _ => false
theorem Th.isI {C : Addr} {H : Hp} {x : V} {k : Kd} (h : Th C H x k) : (k.isInt && !k.isBool) = K6.isI x := by
  cases h <;> rfl
def btw (a b : Int) : V → Bool
  | .int i => decide (a ≤ i) && decide (i ≤ b)
  | _ => false
section
variable {P : Program} {w : World} {K : PySem.W.Frag} {mg : Str → Option Value} {base : Heap} {C : Addr}
/-- is_whole(x) -/
def spWhole (C : Addr) : Sp := fun vs H Q _ => ∃ x k, vs = [x] ∧ Th C H x k ∧ Q (.bl (isI x)) H
abbrev s_is_whole : Stmt := top 8
theorem sc_is_whole : FnScope ["thing"] ["thing"] (defScope s_is_whole) := ⟨rfl, rfl, rfl, by decide +kernel, rfl, by decide +kernel, by decide +kernel⟩
theorem ok_is_whole {f : Addr} {fd : FuncData} (F : Fun K "is_whole" "is_whole" s_is_whole f fd) (T : Bn mg) (I : ShI K C) : FnOk P w K mg base CX0 1 f fd ["thing"] (spWhole C) := by
  refine F.ok sc_is_whole (fun vs H Q E h => ?_) (fun cdv A outer s H vs Q E hr h => ?_)
  · obtain ⟨x, kd, rfl, _⟩ := h
    rfl
  · obtain ⟨x, kd, rfl, h, k⟩ := h
    refine ⟨_, (pss_one (ps_ret (pe_and (pe_callB call_isi (by rfl) T.n_isinstance (by decide +kernel) (pa_cons (pv 0) (pa_cons (pe_bltn (v := .ty "int") rfl T.n_int (by decide +kernel) rfl) pa_nil))) (pe_one (pe_not (pe_callB call_isi (by rfl) T.n_isinstance (by decide +kernel) (pa_cons (pv 0) (pa_cons (pe_bltn (v := .ty "bool") rfl T.n_bool (by decide +kernel) rfl) pa_nil)))))))), ?_⟩
    obtain ⟨t, ty, k1, k2, _⟩ := h.is I
    have e := h.isI
    refine ⟨_, rfl, x, .ty "int", t, _, _, rfl, .ty _, ty, k1, _, rfl, iteB (fun z => ?_) (fun z => ?_)⟩
    · refine ⟨_, rfl, x, .ty "bool", t, _, _, rfl, .ty _, ty, k2, _, rfl, ?_⟩
      rw [z, Bool.true_and] at e
      rw [e]
      exact k
    · rw [z, Bool.false_and] at e
      rw [← e] at k
      exact k
/-- the same in the law -/
abbrev s_lint : Stmt := top 37
theorem sc_lint : FnScope ["_law_thing"] ["_law_thing"] (defScope s_lint) := ⟨rfl, rfl, rfl, by decide +kernel, rfl, by decide +kernel, by decide +kernel⟩
theorem ok_lint {f : Addr} {fd : FuncData} (F : Fun K "_law_is_integer" "_law_is_integer" s_lint f fd) (T : Bn mg) (I : ShI K C) : FnOk P w K mg base CX0 1 f fd ["_law_thing"] (spWhole C) := by
  refine F.ok sc_lint (fun vs H Q E h => ?_) (fun cdv A outer s H vs Q E hr h => ?_)
  · obtain ⟨x, kd, rfl, _⟩ := h
    rfl
  · obtain ⟨x, kd, rfl, h, k⟩ := h
    refine ⟨_, (pss_one (ps_ret (pe_and (pe_callB call_isi (by rfl) T.n_isinstance (by decide +kernel) (pa_cons (pv 0) (pa_cons (pe_bltn (v := .ty "int") rfl T.n_int (by decide +kernel) rfl) pa_nil))) (pe_one (pe_not (pe_callB call_isi (by rfl) T.n_isinstance (by decide +kernel) (pa_cons (pv 0) (pa_cons (pe_bltn (v := .ty "bool") rfl T.n_bool (by decide +kernel) rfl) pa_nil)))))))), ?_⟩
    obtain ⟨t, ty, k1, k2, _⟩ := h.is I
    have e := h.isI
    refine ⟨_, rfl, x, .ty "int", t, _, _, rfl, .ty _, ty, k1, _, rfl, iteB (fun z => ?_) (fun z => ?_)⟩
    · refine ⟨_, rfl, x, .ty "bool", t, _, _, rfl, .ty _, ty, k2, _, rfl, ?_⟩
      rw [z, Bool.true_and] at e
      rw [e]
      exact k
    · rw [z, Bool.false_and] at e
      rw [← e] at k
      exact k
/-- is_between(a, b, x) -/
def spBetween (C : Addr) : Sp := fun vs H Q _ => ∃ (a b : Int) (x : V) (k : Kd), vs = [.int a, .int b, x] ∧ Th C H x k ∧ Q (.bl (btw a b x)) H
abbrev s_is_between : Stmt := top 9
theorem sc_is_between : FnScope ["least", "most", "thing"] ["least", "most", "thing"] (defScope s_is_between) := ⟨rfl, rfl, rfl, by decide +kernel, rfl, by decide +kernel, by decide +kernel⟩
theorem isI_int {x : V} (h : isI x = true) : ∃ i, x = .int i := by
  cases x <;> first | exact ⟨_, rfl⟩ | cases h
theorem btw_no {a b : Int} {x : V} (h : isI x = false) : btw a b x = false := by
  cases x <;> first | rfl | cases h
theorem ok_is_between {f : Addr} {fd : FuncData} (F : Fun K "is_between" "is_between" s_is_between f fd) (c_is_whole : Cal P w K mg base 1 "is_whole" ["thing"] (spWhole C)) : FnOk P w K mg base CX0 2 f fd ["least", "most", "thing"] (spBetween C) := by
  refine F.ok sc_is_between (fun vs H Q E h => ?_) (fun cdv A outer s H vs Q E hr h => ?_)
  · obtain ⟨a, b, x, kd, rfl, _⟩ := h
    rfl
  · obtain ⟨a, b, x, kd, rfl, h, k⟩ := h
    refine ⟨_, (pss_one (ps_ret (pe_and (pe_cal c_is_whole (hr.mono (by decide)) rfl (pa_cons (pv 2) pa_nil)) (pe_one (pe_chain op_le op_le (pv 0) (pv 2) (pv 1)))))), ?_⟩
    refine ⟨_, rfl, x, kd, rfl, h, _, rfl, iteB (fun z => ?_) (fun z => ?_)⟩
    · obtain ⟨i, rfl⟩ := isI_int z
      refine ⟨_, rfl, _, rfl, a, i, rfl, rfl, _, rfl, iteB (fun z2 => ?_) (fun z2 => ?_)⟩
      · refine ⟨_, rfl, i, b, rfl, rfl, ?_⟩
        show Q (.bl (decide (i ≤ b))) H
        have k : Q (.bl (decide (a ≤ i) && decide (i ≤ b))) H := k
        rw [z2, Bool.true_and] at k
        exact k
      · have k : Q (.bl (decide (a ≤ i) && decide (i ≤ b))) H := k
        rw [z2, Bool.false_and] at k
        exact k
    · rw [btw_no z] at k
      exact k
/-- is_index(n, x) -/
def spIndex (C : Addr) : Sp := fun vs H Q _ => ∃ (n : Int) (x : V) (k : Kd), vs = [.int n, x] ∧ Th C H x k ∧ Q (.bl (btw 0 (n - 1) x)) H
abbrev s_is_index : Stmt := top 10
theorem sc_is_index : FnScope ["many", "thing"] ["many", "thing"] (defScope s_is_index) := ⟨rfl, rfl, rfl, by decide +kernel, rfl, by decide +kernel, by decide +kernel⟩
theorem ok_is_index {f : Addr} {fd : FuncData} (F : Fun K "is_index" "is_index" s_is_index f fd) (c_is_between : Cal P w K mg base 2 "is_between" ["least", "most", "thing"] (spBetween C)) : FnOk P w K mg base CX0 3 f fd ["many", "thing"] (spIndex C) := by
  refine F.ok sc_is_index (fun vs H Q E h => ?_) (fun cdv A outer s H vs Q E hr h => ?_)
  · obtain ⟨n, x, kd, rfl, _⟩ := h
    rfl
  · obtain ⟨n, x, kd, rfl, h, k⟩ := h
    refine ⟨_, (pss_one (ps_ret (pe_cal c_is_between (hr.mono (by decide)) rfl (pa_cons pe_int (pa_cons (pe_op op_sub (pv 0) pe_int) (pa_cons (pv 1) pa_nil)))))), ?_⟩
    exact ⟨_, rfl, _, _, rfl, rfl, _, rfl, 0, n - 1, x, kd, rfl, h, k⟩
/-- is_tuple_of(n, x) -/
def tupOf (H : Hp) (n : Int) : V → Bool
  | .ref a => match H a with
    | some (.tup xs) => decide (V.int (xs.length : Int) = V.int n)
    | _ => false
  | _ => false
def spTupOf (C : Addr) : Sp := fun vs H Q _ => ∃ (n : Int) (x : V) (k : Kd), vs = [.int n, x] ∧ Th C H x k ∧ Q (.bl (tupOf H n x)) H
abbrev s_is_tuple_of : Stmt := top 13
theorem sc_is_tuple_of : FnScope ["many", "thing"] ["many", "thing"] (defScope s_is_tuple_of) := ⟨rfl, rfl, rfl, by decide +kernel, rfl, by decide +kernel, by decide +kernel⟩
theorem tupOf_no {C : Addr} {H : Hp} {x : V} {k : Kd} {n : Int} (h : Th C H x k) (z : k.isTup = false) : tupOf H n x = false := by
  cases h with
  | tup e => cases z
  | lst e => simp only [tupOf, e]
  | dK e => simp only [tupOf, e]
  | dT e => simp only [tupOf, e]
  | shr e => simp only [tupOf, e]
  | _ => rfl
theorem ok_is_tuple_of {f : Addr} {fd : FuncData} (F : Fun K "is_tuple_of" "is_tuple_of" s_is_tuple_of f fd) (T : Bn mg) (I : ShI K C) : FnOk P w K mg base CX0 1 f fd ["many", "thing"] (spTupOf C) := by
  refine F.ok sc_is_tuple_of (fun vs H Q E h => ?_) (fun cdv A outer s H vs Q E hr h => ?_)
  · obtain ⟨n, x, kd, rfl, _⟩ := h
    rfl
  · obtain ⟨n, x, kd, rfl, h, k⟩ := h
    refine ⟨_, (pss_one (ps_ret (pe_and (pe_callB call_isi (by rfl) T.n_isinstance (by decide +kernel) (pa_cons (pv 1) (pa_cons (pe_bltn (v := .ty "tuple") rfl T.n_tuple (by decide +kernel) rfl) pa_nil))) (pe_one (pe_cmpR op_eq (pe_callB call_len_seq (by rfl) T.n_len PySem.boot_len (pa_cons (pv 1) pa_nil)) (pv 0) (nomark _)))))), ?_⟩
    obtain ⟨t, ty, _, _, _, k4, _⟩ := h.is I
    refine ⟨_, rfl, x, .ty "tuple", t, _, _, rfl, .ty _, ty, k4, _, rfl, iteB (fun z => ?_) (fun z => ?_)⟩
    · cases h with
      | tup e =>
        refine ⟨_, rfl, _, _, rfl, .inr (.inl (.inl e)), _, rfl, rfl, ?_⟩
        simp only [tupOf, e] at k
        exact k
      | _ => cases z
    · rw [tupOf_no h z] at k
      exact k
end
end K6

set_option Elab.async false
set_option linter.all false
set_option maxRecDepth 100000
set_option maxHeartbeats 4000000
namespace L2
open PySem PySem.Spec PyProof.Rows
/-- C.m(e, ..), C a class of the text by its global name, m a plain def of it, read off the class -/
structure ClsFn (K : PySem.W.Frag) (C : Addr) (mc : Value) (m : Str) (g : Addr) : Prop where
  rd : PySem.W.readsIn K C mc = true
  ga : PySem.W.specialIn K (.ref C) "__getattribute__" = some (some (.builtin "type.__getattribute__"))
  at_ : PySem.W.findCls K (.ref C) mc m = some (.val (.ref g))
  kp : PySem.W.keepIn K (.ref g) = true
theorem pe_clsfn {X : Cx} {CX : CXT} {k : Nat} {C g : Addr} {mc : Value} {fd : FuncData} {ps : List Str} {sp : Sp} {E : XK} {x m : Str} {p1 p2 pos : Pos} {e : Expr} {es : List Expr} {t : TA} {pl : Sem Bool}
    (c : ClsFn X.K C mc m g) (F : FnOk X.prog X.w X.K X.mg X.base CX k g fd ps sp) (hr : Room k X.A) (hg : Gl X x) (hm : X.mg x = some (.ref C)) (hb : Binds X.K fd ps []) (hx : Passes CX X E) (ha : PA X (e :: es) t) (hdb : (x == ("__debug__" : Str)) = false := by decide)
    (hc : eval (.Call (.Attribute (.Name x p1) m p2) (e :: es) [] pos) X.env = (do
      let ov ← eval (.Name x p1) X.env
      standAt p2.atName
      let (f, first) ← holding [ov] (getMethod ov m pl)
      callWith pos f first (backTo pos (starEach (e :: es) X.env)) (backToKw pos (keywordEach [] X.env))) := by rfl)
    (he : starEach (e :: es) X.env = (false, eval e X.env) :: starEach es X.env := by rfl) (hpl : (backTo pos (starEach es X.env)).any (·.1) = false := by rfl) :
    PE X (.Call (.Attribute (.Name x p1) m p2) (e :: es) [] pos) (tCall sp [] E t) := by
  refine ⟨fun pins s σ H Q I h => ?_⟩
  refine PySem.W.methodCall_KW (ld_glob I hg hm ?_ hdb) hc
  refine PySem.W.method_cls I.kIn c.ga (PySem.W.cls_value I.kIn c.rd c.at_ rfl ?_)
  have J := I.tok (s.toks + 1)
  show wpAny _ _ (callWith pos (Value.ref g) [] (backTo pos (starEach (e :: es) X.env)) []) _ _ _
  refine PySem.W.callWith_K (h₀ := X.base) J.ok.mod.kin c.kp (thn (ha.run pos pins _ σ H _ J h) fun us s1 ⟨vs, H1, I1, r, q⟩ => ⟨I1.kIn, ?_⟩) he hpl
  exact run_fn F hr hb .nil hx I1 r q
end L2
namespace K6
open PySem L2
/-! ### the errors -/
/-- WalkError.__init__, of an exception that is being made -/
def spWE (K : PySem.W.Frag) : Sp := fun vs H Q _ => ∃ (a C : Addr) (y : V), vs = [.ref a, y] ∧ OexC K C ∧ H a = some (exo a C none) ∧ Q .non H
/-- NoState.__init__ -/
def spNS (K : PySem.W.Frag) (B : Addr) : Sp := fun vs H Q _ => ∃ (a : Addr) (y : V), vs = [.ref a, y] ∧ OexC K B ∧ PySem.W.findIn K (.ref B) "state" = some none ∧ H a = some (exo a B none) ∧
  ∀ dx, H dx = none → dx ≠ a → Q .non (upd (upd H dx (exd dx [("state", y)])) a (exo a B (some dx)))
/-- BadOrder.__init__ -/
def spBO (K : PySem.W.Frag) (B : Addr) : Sp := fun vs H Q _ => ∃ a : Addr, vs = [.ref a] ∧ OexC K B ∧ H a = some (exo a B none) ∧ Q .non H
structure NsT (P : Program) (w : World) (K : PySem.W.Frag) (mg : Str → Option Value) (base : Heap) (B : Addr) : Prop where
  O : OexC K B
  nf : PySem.W.findIn K (.ref B) "state" = some none
  gB : mg "NoState" = some (.ref B)
  made : ∃ (fI : Addr) (fd : FuncData), PySem.W.findIn K (.ref B) "__init__" = some (some (.ref fI)) ∧ PySem.W.typeIn K (.ref fI) = some (.type "function") ∧ FnOk P w K mg base CX0 2 fI fd ["self", "state"] (spNS K B) ∧ Binds K fd ["self", "state"] []
structure BoT (P : Program) (w : World) (K : PySem.W.Frag) (mg : Str → Option Value) (base : Heap) (B : Addr) : Prop where
  O : OexC K B
  gB : mg "BadOrder" = some (.ref B)
  made : ∃ (fI : Addr) (fd : FuncData), PySem.W.findIn K (.ref B) "__init__" = some (some (.ref fI)) ∧ PySem.W.typeIn K (.ref fI) = some (.type "function") ∧ FnOk P w K mg base CX0 2 fI fd ["self"] (spBO K B) ∧ Binds K fd ["self"] []
theorem ns_end {H : Hp} {a dx : Addr} {p : V} {B : Addr} (ha : H a = none) (hd : (upd H a (exo a B none)) dx = none) (ne : dx ≠ a) :
    Same H (upd (L2.del (upd (upd (upd H a (exo a B none)) dx (exd dx [("state", p)])) a (exo a B (some dx))) a) dx (.xd [("state", p)])) := fun b o h => by
  have nb : b ≠ a := ne_of_none h ha
  have nd : b ≠ dx := fun z => by rw [upd_ne ne] at hd; rw [z, hd] at h; cases h
  rw [upd_ne nd, del_ne nb, upd_ne nb, upd_ne nd, upd_ne nb]
  exact h
theorem bo_end {H : Hp} {a B : Addr} (ha : H a = none) : Same H (L2.del (upd H a (exo a B none)) a) := fun b o h => by
  have nb : b ≠ a := ne_of_none h ha
  rw [del_ne nb, upd_ne nb]
  exact h
section
variable {P : Program} {w : World} {K : PySem.W.Frag} {mg : Str → Option Value} {base : Heap} {C B : Addr}
abbrev s_WE : Stmt := inClass (top 3) 0
theorem sc_WE : FnScope ["self", "words"] ["self", "words"] (defScope s_WE) := ⟨rfl, rfl, rfl, by decide +kernel, rfl, by decide +kernel, by decide +kernel⟩
theorem ok_WE {f : Addr} {fd : FuncData} {dvs : List V} (F : FunD K "__init__" "WalkError.__init__" (defArgs s_WE) (defBody s_WE) (defScope s_WE) dvs [] f fd) (T : Bn mg) (vV : PySem.W.findCls K (.type "ValueError") (.type "type") "__init__" = some (.val (.builtin "ValueError.__init__"))) :
    FnOk P w K mg base CX0 1 f fd ["self", "words"] (spWE K) := by
  refine F.ok sc_WE (fun vs H Q E h => ?_) (fun cdv A outer s H vs Q E hr h => ?_)
  · obtain ⟨a, C, y, rfl, _⟩ := h
    rfl
  · obtain ⟨a, C, y, rfl, O, ha, k⟩ := h
    refine ⟨_, pss_one (ps_expr (pe_veinit rfl T.n_ValueError vV (pa_cons (pv 0) (pa_cons (pv 1) pa_nil)))), ?_⟩
    exact ⟨_, rfl, _, rfl, a, C, [y], rfl, by show 1 ≤ 1000; decide, O, ha, k⟩
abbrev s_NS : Stmt := inClass (top 5) 0
theorem sc_NS : FnScope ["self", "state"] ["self", "state"] (defScope s_NS) := ⟨rfl, rfl, rfl, by decide +kernel, rfl, by decide +kernel, by decide +kernel⟩
theorem ok_NS {f g W B : Addr} {mc : Value} {fd fdW : FuncData} (F : Fun K "__init__" "NoState.__init__" s_NS f fd) (gW : mg "WalkError" = some (.ref W)) (c : ClsFn K W mc "__init__" g) (FW : FnOk P w K mg base CX0 1 g fdW ["self", "words"] (spWE K)) (bW : Binds K fdW ["self", "words"] []) :
    FnOk P w K mg base CX0 2 f fd ["self", "state"] (spNS K B) := by
  refine F.ok sc_NS (fun vs H Q E h => ?_) (fun cdv A outer s H vs Q E hr h => ?_)
  · obtain ⟨a, y, rfl, _⟩ := h
    rfl
  · obtain ⟨a, y, rfl, O, nt, ha, k⟩ := h
    refine ⟨_, pss_cons (ps_expr (pe_clsfn c FW hr rfl gW bW pass0 (pa_cons (pv 0) (pa_cons pe_str pa_nil)))) (pss_one (ps_ost (pv 0) (pv 1))), ?_⟩
    exact ⟨_, rfl, a, B, _, rfl, O, ha, _, rfl, _, rfl, a, B, rfl, O, nt, .inl ⟨ha, fun dx hd ne => k dx hd ne⟩⟩
abbrev s_BO : Stmt := inClass (top 6) 0
theorem sc_BO : FnScope ["self"] ["self"] (defScope s_BO) := ⟨rfl, rfl, rfl, by decide +kernel, rfl, by decide +kernel, by decide +kernel⟩
theorem ok_BO {f g W B : Addr} {mc : Value} {fd fdW : FuncData} (F : Fun K "__init__" "BadOrder.__init__" s_BO f fd) (gW : mg "WalkError" = some (.ref W)) (c : ClsFn K W mc "__init__" g) (FW : FnOk P w K mg base CX0 1 g fdW ["self", "words"] (spWE K)) (bW : Binds K fdW ["self", "words"] []) :
    FnOk P w K mg base CX0 2 f fd ["self"] (spBO K B) := by
  refine F.ok sc_BO (fun vs H Q E h => ?_) (fun cdv A outer s H vs Q E hr h => ?_)
  · obtain ⟨a, rfl, _⟩ := h
    rfl
  · obtain ⟨a, rfl, O, ha, k⟩ := h
    refine ⟨_, pss_one (ps_expr (pe_clsfn c FW hr rfl gW bW pass0 (pa_cons (pv 0) (pa_cons pe_str pa_nil)))), ?_⟩
    exact ⟨_, rfl, a, B, _, rfl, O, ha, k⟩
/-- the reading of raise NoState(x) -/
theorem ns_raise {p : V} {H : Hp} {E : XK} (T : NsT P w K mg base B) (k : ∀ (d : Addr) (H' : Hp), Same H H' → H' d = some (.xd [("state", p)]) → E (.ref B) (some d) H') {t : TA} {σ : St} (ht : ∀ Q : List V → Hp → Prop, Q [p] H → t σ H Q) :
    tMkO B (spNS K B) [] t σ H (fun cls d H' => E cls d H') := by
  refine ht _ ⟨by show 1 ≤ 1000; decide, fun a ha => ⟨a, p, rfl, T.O, T.nf, upd_same, fun d hd ne => ⟨rfl, d, [("state", p)], upd_same, ?_, ?_, ?_⟩⟩⟩
  · rw [upd_ne ne, upd_same]
  · rw [upd_ne ne] at hd
    exact hd
  · exact k d _ (ns_end ha hd ne) upd_same
/-- .. of raise BadOrder() -/
theorem bo_raise {H : Hp} {E : XK} {σ : St} (T : BoT P w K mg base B) (k : ∀ H' : Hp, Same H H' → E (.ref B) none H') : tMk0 B (spBO K B) σ H (fun cls d H' => E cls d H') :=
  fun a ha => ⟨a, rfl, T.O, upd_same, rfl, upd_same, k _ (bo_end ha)⟩
/-- check_state(size, x) -/
def spCheck (C B : Addr) : Sp := fun vs H Q E => ∃ (n : Int) (x : V) (k : Kd), vs = [.int n, x] ∧ Th C H x k ∧ ((btw 0 (n - 1) x = true ∧ Q .non H) ∨ (btw 0 (n - 1) x = false ∧ ∀ (d : Addr) (H' : Hp), Same H H' → H' d = some (.xd [("state", x)]) → E (.ref B) (some d) H'))
abbrev s_check : Stmt := top 11
theorem sc_check : FnScope ["size", "state"] ["size", "state"] (defScope s_check) := ⟨rfl, rfl, rfl, by decide +kernel, rfl, by decide +kernel, by decide +kernel⟩
theorem ok_check {f : Addr} {fd : FuncData} (F : Fun K "check_state" "check_state" s_check f fd) (c_ix : Cal P w K mg base 3 "is_index" ["many", "thing"] (spIndex C)) (N : NsT P w K mg base B) : FnOk P w K mg base (L2.CX P w) 4 f fd ["size", "state"] (spCheck C B) := by
  obtain ⟨fS, fdS, iS, tS, FS, bS⟩ := id N.made
  refine F.okX sc_check (fun vs H Q E h => ?_) (fun cdv A outer s H vs Q E hr h => ?_)
  · obtain ⟨n, x, k, rfl, _⟩ := h
    rfl
  · obtain ⟨n, x, kd, rfl, h, k⟩ := h
    refine ⟨_, (pss_one (ps_if (pt_not (pt_val (pe_cal c_ix hr rfl (pa_cons (pv 0) (pa_cons (pv 1) pa_nil)))))
        (pss_one (ps_raise (W := fun cls d _ H => E cls d H) rfl (takes_of rfl rfl rfl rfl) (pmk_oex N.O iS tS FS (hr.mono (by decide)) bS .nil pass0 rfl N.gB (pa_cons (pv 1) pa_nil))))
        pss_nil)), ?_⟩
    refine ⟨_, rfl, _, rfl, n, x, kd, rfl, h, _, rfl, ?_⟩
    rcases k with ⟨e, k⟩ | ⟨e, k⟩
    · rw [e]
      exact iteF k
    · rw [e]
      exact iteT (ns_raise N k fun Q q => ⟨x, rfl, q⟩)
/-- check_two_states(size, s, t) -/
def spCheck2 (C B : Addr) : Sp := fun vs H Q E => ∃ (n : Int) (x y : V) (k l : Kd), vs = [.int n, x, y] ∧ Th C H x k ∧ Th C H y l ∧
  ((btw 0 (n - 1) x = true ∧ btw 0 (n - 1) y = true ∧ Q .non H) ∨ (btw 0 (n - 1) x = false ∧ ∀ (d : Addr) (H' : Hp), Same H H' → H' d = some (.xd [("state", x)]) → E (.ref B) (some d) H') ∨
    (btw 0 (n - 1) x = true ∧ btw 0 (n - 1) y = false ∧ ∀ (d : Addr) (H' : Hp), Same H H' → H' d = some (.xd [("state", y)]) → E (.ref B) (some d) H'))
/-- a def that may raise -/
structure CalX (P : Program) (w : World) (K : PySem.W.Frag) (mg : Str → Option Value) (base : Heap) (k : Nat) (x : Str) (ps : List Str) (sp : Sp) : Prop where
  ex : ∃ (f : Addr) (fd : FuncData), mg x = some (.ref f) ∧ PySem.W.keepIn K (.ref f) = true ∧ FnOk P w K mg base (L2.CX P w) k f fd ps sp ∧ Binds K fd ps []
abbrev s_check2 : Stmt := top 12
theorem sc_check2 : FnScope ["size", "s", "t"] ["size", "s", "t"] (defScope s_check2) := ⟨rfl, rfl, rfl, by decide +kernel, rfl, by decide +kernel, by decide +kernel⟩
theorem ok_check2 {f : Addr} {fd : FuncData} (F : Fun K "check_two_states" "check_two_states" s_check2 f fd) (c : CalX P w K mg base 4 "check_state" ["size", "state"] (spCheck C B)) : FnOk P w K mg base (L2.CX P w) 5 f fd ["size", "s", "t"] (spCheck2 C B) := by
  obtain ⟨g, gd, mg1, kp, G, bG⟩ := c.ex
  refine F.okX sc_check2 (fun vs H Q E h => ?_) (fun cdv A outer s H vs Q E hr h => ?_)
  · obtain ⟨n, x, y, k, l, rfl, _⟩ := h
    rfl
  · obtain ⟨n, x, y, k, l, rfl, hx, hy, h⟩ := h
    refine ⟨_, (pss_cons (ps_expr (pe_callS G hr rfl mg1 kp bG (fun σ => passAt (W := fun cls d _ H => E cls d H) (takes_of rfl rfl rfl rfl) σ) (pa_cons (pv 0) (pa_cons (pv 1) pa_nil))))
      (pss_one (ps_expr (pe_callS G hr rfl mg1 kp bG (fun σ => passAt (W := fun cls d _ H => E cls d H) (takes_of rfl rfl rfl rfl) σ) (pa_cons (pv 0) (pa_cons (pv 2) pa_nil)))))), ?_⟩
    rcases h with ⟨e1, e2, k⟩ | ⟨e1, k⟩ | ⟨e1, e2, k⟩
    · exact ⟨_, rfl, _, rfl, n, x, _, rfl, hx, .inl ⟨e1, _, rfl, _, rfl, n, y, _, rfl, hy, .inl ⟨e2, k⟩⟩⟩
    · exact ⟨_, rfl, _, rfl, n, x, _, rfl, hx, .inr ⟨e1, k⟩⟩
    · exact ⟨_, rfl, _, rfl, n, x, _, rfl, hx, .inl ⟨e1, _, rfl, _, rfl, n, y, _, rfl, hy, .inr ⟨e2, k⟩⟩⟩
/-- is_index_pair(n, x) -/
def ixPair (H : Hp) (n : Int) : V → Bool
  | .ref a => match H a with
    | some (.tup [y, z]) => btw 0 (n - 1) y && btw 0 (n - 1) z
    | _ => false
  | _ => false
/-- what stands in it are things, too, where it is a pair -/
def PairTh (C : Addr) (H : Hp) (x : V) : Prop := ∀ (a : Addr) (y z : V), x = .ref a → H a = some (.tup [y, z]) → (∃ k, Th C H y k) ∧ ∃ l, Th C H z l
def spIxPair (C : Addr) : Sp := fun vs H Q _ => ∃ (n : Int) (x : V) (k : Kd), vs = [.int n, x] ∧ Th C H x k ∧ PairTh C H x ∧ Q (.bl (ixPair H n x)) H
theorem at0 {x y : V} : atI [x, y] 0 = some x := atI_nat (j := 0) rfl
theorem at1 {x y : V} : atI [x, y] 1 = some y := atI_nat (j := 1) rfl
theorem two_of {H : Hp} {x : V} (h : tupOf H 2 x = true) : ∃ a y z, x = .ref a ∧ H a = some (.tup [y, z]) := by
  cases x with
  | ref a =>
    cases e : H a with
    | none => simp only [tupOf, e] at h; cases h
    | some o =>
      cases o with
      | tup xs =>
        simp only [tupOf, e] at h
        have h := of_decide_eq_true h
        rw [V.int.injEq] at h
        match xs, h, e with
        | [y, z], _, e => exact ⟨a, y, z, rfl, e⟩
        | [], h, _ => simp at h
        | [_], h, _ => simp at h
        | _ :: _ :: _ :: r, h, _ => simp at h; omega
      | _ => simp only [tupOf, e] at h; cases h
  | _ => cases h
theorem ixPair_no {H : Hp} {n : Int} {x : V} (h : tupOf H 2 x = false) : ixPair H n x = false := by
  cases x with
  | ref a =>
    cases e : H a with
    | none => simp only [ixPair, e]
    | some o =>
      cases o with
      | tup xs =>
        simp only [tupOf, e] at h
        have h := of_decide_eq_false h
        match xs, h, e with
        | [y, z], h, _ => exact absurd rfl h
        | [], _, e => simp only [ixPair, e]
        | [_], _, e => simp only [ixPair, e]
        | _ :: _ :: _ :: r, _, e => simp only [ixPair, e]
      | _ => simp only [ixPair, e]
  | _ => rfl
abbrev s_ixp : Stmt := top 14
theorem sc_ixp : FnScope ["many", "thing"] ["many", "thing"] (defScope s_ixp) := ⟨rfl, rfl, rfl, by decide +kernel, rfl, by decide +kernel, by decide +kernel⟩
theorem ok_ixp {f : Addr} {fd : FuncData} (F : Fun K "is_index_pair" "is_index_pair" s_ixp f fd) (c_t : Cal P w K mg base 1 "is_tuple_of" ["many", "thing"] (spTupOf C)) (c_i : Cal P w K mg base 3 "is_index" ["many", "thing"] (spIndex C)) : FnOk P w K mg base CX0 4 f fd ["many", "thing"] (spIxPair C) := by
  refine F.ok sc_ixp (fun vs H Q E h => ?_) (fun cdv A outer s H vs Q E hr h => ?_)
  · obtain ⟨n, x, kd, rfl, _⟩ := h
    rfl
  · obtain ⟨n, x, kd, rfl, h, pt, k⟩ := h
    refine ⟨_, (pss_one (ps_ret (pe_and (pe_cal c_t (hr.mono (by decide)) rfl (pa_cons pe_int (pa_cons (pv 1) pa_nil))) (pe_and (pe_cal c_i (hr.mono (by decide)) rfl (pa_cons (pv 0) (pa_cons (pe_ix ix_tup (pv 1) pe_int (fun _ _ => rfl)) pa_nil))) (pe_one (pe_cal c_i (hr.mono (by decide)) rfl (pa_cons (pv 0) (pa_cons (pe_ix ix_tup (pv 1) pe_int (fun _ _ => rfl)) pa_nil)))))))), ?_⟩
    refine ⟨_, rfl, 2, x, kd, rfl, h, _, rfl, iteB (fun tt => ?_) (fun z => ?_)⟩
    · obtain ⟨a, y, z, rfl, e⟩ := two_of tt
      obtain ⟨⟨ky, hy⟩, kz, hz⟩ := pt a y z rfl e
      simp only [ixPair, e] at k
      refine ⟨_, rfl, _, rfl, a, _, _, _, rfl, rfl, SqT.of e, at0, n, y, ky, rfl, hy, _, rfl, iteB (fun q => ?_) (fun q => ?_)⟩
      · rw [q, Bool.true_and] at k
        exact ⟨_, rfl, _, rfl, a, _, _, _, rfl, rfl, SqT.of e, at1, n, z, kz, rfl, hz, k⟩
      · rw [q, Bool.false_and] at k
        exact k
    · rw [ixPair_no z] at k
      exact k
end
end K6

set_option Elab.async false
set_option linter.all false
set_option maxRecDepth 100000
set_option maxHeartbeats 4000000
namespace K6
open PySem L2
/-! ### the pool of the draws -/
/-- its list: a number below 2 ^ 64, and what is left of the greatest cell -/
def PoolL (o : HO) : Prop := ∃ n g : Int, o = .lst [.int n, .int g] ∧ 0 ≤ n ∧ n < 2 ^ 64 ∧ 0 ≤ g
def PoolAt (H : Hp) (a : Addr) : Prop := ∃ o, H a = some o ∧ PoolL o
theorem PoolAt.put {H : Hp} {a : Addr} {o : HO} (h : PoolL o) : PoolAt (upd H a o) a := ⟨o, upd_same, h⟩
/-- all that was tracked, but the pool, stands -/
def Keep (a : Addr) (H H' : Hp) : Prop := ∀ b o, H b = some o → b ≠ a → H' b = some o
theorem Keep.refl (a : Addr) (H : Hp) : Keep a H H := fun _ _ h _ => h
theorem Keep.trans {a : Addr} {H H1 H2 : Hp} (x : Keep a H H1) (y : Keep a H1 H2) : Keep a H H2 := fun b o h n => y b o (x b o h n) n
theorem Keep.put {a : Addr} {H : Hp} (o : HO) : Keep a H (upd H a o) := fun b u h n => by rw [upd_ne n]; exact h
theorem Keep.of {a : Addr} {H H' : Hp} (s : Same H H') : Keep a H H' := fun b o h _ => s b o h
theorem Same.put {H : Hp} {p : Addr} {o : HO} (h : H p = none) : Same H (upd H p o) := fun b u e => by rw [upd_ne (ne_of_none e h)]; exact e
theorem PoolAt.new {H : Hp} {a p : Addr} {o : HO} (h : PoolAt H a) (hp : H p = none) : PoolAt (upd H p o) a := by
  obtain ⟨u, e, q⟩ := h
  exact ⟨u, by rw [upd_ne (ne_of_none e hp)]; exact e, q⟩
theorem PoolAt.same {H H' : Hp} {a : Addr} (h : PoolAt H a) (s : Same H H') : PoolAt H' a := by
  obtain ⟨u, e, q⟩ := h
  exact ⟨u, s _ _ e, q⟩
theorem PoolAt.ne {H : Hp} {a b : Addr} {xs : List V} (h : PoolAt H a) (e : H b = some (.tup xs)) : b ≠ a := fun z => by
  obtain ⟨u, e2, n, g, q, _⟩ := h
  rw [z, e2, q] at e
  cases e
theorem PoolAt.nei {H : Hp} {a b C dx : Addr} {fs : List (Str × V)} (h : PoolAt H a) (e : H b = some (.ins C dx fs)) : b ≠ a := fun z => by
  obtain ⟨u, e2, n, g, q, _⟩ := h
  rw [z, e2, q] at e
  cases e
theorem SqT.put {K : PySem.W.Frag} {H : Hp} {a t : Addr} {xs : List V} {o : HO} (h : PoolAt H a) (s : SqT K H t xs) : SqT K (upd H a o) t xs := by
  obtain ⟨u, e2, n, g, q, _⟩ := h
  rcases s with (s | ⟨ob, s⟩) | s
  · refine .inl (.inl ?_)
    rw [upd_ne (fun z => by rw [z, e2, q] at s; cases s)]
    exact s
  · refine .inl (.inr ⟨ob, ?_⟩)
    rw [upd_ne (fun z => by rw [z, e2, q] at s; cases s)]
    exact s
  · exact .inr s
/-- the next number of the pool -/
def nextN (n : Int) : Int := ((n + 7919) * 6364136223846793005 + 1442695040888963407).fmod ((2 : Int) ^ (64 : Int).toNat)
theorem nextN_ok (n : Int) : 0 ≤ nextN n ∧ nextN n < 2 ^ 64 := by
  have e2 : ((2 : Int) ^ (64 : Int).toNat) = 18446744073709551616 := by decide +kernel
  unfold nextN
  rw [e2, Int.fmod_eq_emod_of_nonneg _ (by decide)]
  exact ⟨Int.emod_nonneg _ (by decide), Int.emod_lt_of_pos _ (by decide)⟩
def spDraw : Sp := fun vs H Q _ => ∃ (a : Addr) (m : Int), vs = [.ref a, .int m] ∧ PoolAt H a ∧ 0 < m ∧ m.natAbs.log2 < 9000 ∧ ∀ (r : Int) (o : HO), 0 ≤ r → r < m → PoolL o → Q (.int r) (upd H a o)
theorem log_small {m : Int} {b : Nat} (h : m.natAbs < 2 ^ b) (h0 : 0 < b) (hb : b ≤ 9000) : m.natAbs.log2 < 9000 := Nat.lt_of_lt_of_le (PySem.Flt.log2_lt_of h0 h) hb
section
variable {P : Program} {w : World} {K : PySem.W.Frag} {mg : Str → Option Value} {base : Heap} {C B : Addr}
abbrev s_draw : Stmt := top 29
theorem sc_draw : FnScope ["_law_pool_here", "_law_many", "_law_digit"] ["_law_pool_here", "_law_many"] (defScope s_draw) := ⟨rfl, rfl, rfl, by decide +kernel, rfl, by decide +kernel, by decide +kernel⟩
theorem ok_draw {f : Addr} {fd : FuncData} (F : Fun K "_law_draw" "_law_draw" s_draw f fd) (T : Bn mg) : FnOk P w K mg base CX0 1 f fd ["_law_pool_here", "_law_many"] spDraw := by
  refine F.ok sc_draw (fun vs H Q E h => ?_) (fun cdv A outer s H vs Q E hr h => ?_)
  · obtain ⟨a, m, rfl, _⟩ := h
    rfl
  · obtain ⟨a, m, rfl, ⟨_, ha, n, g, rfl, n0, n1, g0⟩, m0, ml, k⟩ := h
    have ia : ∀ {H' : Hp} {n g : Int}, H' a = some (.lst [.int n, .int g]) → SqL K H' a [.int n, .int g] := fun h => SqL.of h
    refine ⟨_, (pss_cons (ps_if (pt_cmpR op_ge (pe_ix ix_list (pv 0) pe_int (fun _ _ => rfl)) (pe_op op_pow pe_int pe_int) (nomark _))
        (pss_cons (ps_set (i := 2) sc_draw.nd rfl (Or.inl rfl) (pe_op op_modN (pe_callTy call_int1 (by rfl) T.n_int (by decide +kernel) (pa_cons (pe_ix ix_list (pv 0) pe_int (fun _ _ => rfl)) pa_nil)) (pv 1)))
          (pss_cons (ps_asg (pe_op op_fdivW (pe_ix ix_list (pv 0) pe_int (fun _ _ => rfl)) (pv 1)) (pg_sub (pv 0) pe_int set_list))
          (pss_one (ps_ret (pv 2)))))
        pss_nil)
      (pss_cons (ps_asg (pe_op op_modN (pe_callTy call_int1 (by rfl) T.n_int (by decide +kernel) (pa_cons (pe_op op_add (pe_op op_mul (pe_callTy call_int1 (by rfl) T.n_int (by decide +kernel) (pa_cons (pe_op op_add (pe_ix ix_list (pv 0) pe_int (fun _ _ => rfl)) pe_int) pa_nil)) pe_int) pe_int) pa_nil)) (pe_op op_pow pe_int pe_int)) (pg_sub (pv 0) pe_int set_list))
      (pss_one (ps_ret (pe_op op_modN (pe_callTy call_int1 (by rfl) T.n_int (by decide +kernel) (pa_cons (pe_op op_fdivW (pe_ix ix_list (pv 0) pe_int (fun _ _ => rfl)) pe_int) pa_nil)) (pv 1)))))), ?_⟩
    refine ⟨_, rfl, a, _, 1, _, rfl, rfl, ia ha, at1, 10, 9, rfl, rfl, ⟨by decide, by decide, by decide⟩, g, _, rfl, rfl, _, rfl, ite2 (fun e => ?_) (fun e => ?_)⟩
    · refine ⟨_, rfl, a, _, 1, _, rfl, rfl, ia ha, at1, .inl ⟨g, rfl, _, rfl, g, m, rfl, rfl, by omega, ?_⟩⟩
      refine ⟨_, rfl, a, _, 1, _, rfl, rfl, ia ha, at1, _, rfl, g, m, rfl, rfl, ⟨m0, ml⟩, ?_⟩
      refine ⟨_, rfl, a, _, 1, 1, rfl, rfl, ha, rfl, _, rfl, ?_⟩
      have e1 : g.fmod m = g % m := Int.fmod_eq_emod_of_nonneg g (by omega)
      show Q (.int (g.fmod m)) (upd H a (.lst [.int n, .int (g / m)]))
      rw [e1]
      exact k _ _ (Int.emod_nonneg g (by omega)) (Int.emod_lt_of_pos g m0) ⟨n, g / m, rfl, n0, n1, Int.ediv_nonneg g0 (by omega)⟩
    · refine ⟨_, rfl, a, _, 0, _, rfl, rfl, ia ha, at0, n, 7919, rfl, rfl, .inl ⟨n + 7919, rfl, _, _, rfl, rfl, .inr ⟨by decide, by decide⟩, _, _, rfl, rfl, .inl ⟨_, rfl, ?_⟩⟩⟩
      refine ⟨2, 64, rfl, rfl, ⟨by decide, by decide, by decide⟩, _, _, rfl, rfl, (by show ((2 : Int) ^ (64 : Int).toNat) ≠ 0; decide +kernel), ?_⟩
      refine ⟨_, rfl, a, _, 0, 0, rfl, rfl, ha, rfl, ?_⟩
      obtain ⟨z0, z1⟩ := nextN_ok n
      refine ⟨_, rfl, a, _, 0, _, rfl, rfl, ia (n := nextN n) (g := g) upd_same, at0, nextN n, 65536, rfl, rfl, ⟨by decide, by decide⟩, .inl ⟨_, rfl, _, rfl, _, m, rfl, rfl, by omega, ?_⟩⟩
      have e1 : (nextN n / 65536).fmod m = (nextN n / 65536) % m := Int.fmod_eq_emod_of_nonneg _ (by omega)
      show Q (.int ((nextN n / 65536).fmod m)) (upd H a (.lst [.int (nextN n), .int g]))
      rw [e1]
      exact k _ _ (Int.emod_nonneg _ (by omega)) (Int.emod_lt_of_pos _ m0) ⟨nextN n, g, rfl, z0, z1, g0⟩
end
end K6

set_option Elab.async false
set_option linter.all false
set_option maxRecDepth 100000
set_option maxHeartbeats 4000000
namespace K6
open PySem L2
theorem take_more {α : Type} : ∀ {l : List α} {i : Nat} {x : α}, l[i]? = some x → l.take (i + 1) = l.take i ++ [x]
  | [], i, x, h => by simp at h
  | a :: l, 0, x, h => by
    have e : a = x := Option.some.inj h
    subst e
    rfl
  | a :: l, i + 1, x, h => by
    have ih := take_more (l := l) (i := i) (x := x) h
    show a :: l.take (i + 1) = a :: l.take i ++ [x]
    rw [ih]
    rfl
theorem at_map {ms : List Int} {i : Nat} {x : V} (h : (ms.map V.int)[i]? = some x) : ∃ z, ms[i]? = some z ∧ x = .int z := by
  rw [List.getElem?_map] at h
  cases e : ms[i]? with
  | none => rw [e] at h; cases h
  | some z => rw [e] at h; exact ⟨z, rfl, (Option.some.inj h).symm⟩
theorem cut_map (ns : List Int) (lo hi : Option Int) : ∃ ms : List Int, cutV (ns.map V.int) lo hi = ms.map V.int ∧ ms.length ≤ ns.length := by
  refine ⟨(ns.drop (HT.sIx (ns.map V.int).length 0 lo)).take (HT.sIx (ns.map V.int).length (ns.map V.int).length hi - HT.sIx (ns.map V.int).length 0 lo), ?_, ?_⟩
  · unfold cutV
    rw [List.map_take, List.map_drop]
  · rw [List.length_take, List.length_drop]
    omega
theorem yes_of {σ : St} {H : Hp} {A B : Hp → Prop} (h : A H) : tYes σ H (fun b H3 => if b = true then A H3 else B H3) := by
  show (if true = true then A H else B H)
  rw [if_pos rfl]
  exact h
def spPool (K : PySem.W.Frag) : Sp := fun vs H Q _ => ∃ (a : Addr) (ns : List Int), vs = [.ref a] ∧ SqL K H a (ns.map V.int) ∧ ns.length ≤ 63 ∧ ∀ (p : Addr) (H' : Hp), Same H H' → H p = none → PoolAt H' p → Q (.ref p) H'
theorem sml {n : Nat} (h : n ≤ 1000) : n < sizeLine := small1000 h
theorem same_free {H H' : Hp} {p : Addr} (s : Same H H') (h : H' p = none) : H p = none := s.free h
section
variable {P : Program} {w : World} {K : PySem.W.Frag} {mg : Str → Option Value} {base : Heap} {C B : Addr}
abbrev s_pool : Stmt := top 28
theorem sc_pool : FnScope ["_law_script", "_law_cells", "_law_number", "_law_cell", "_law_great"] ["_law_script"] (defScope s_pool) := ⟨rfl, rfl, rfl, by decide +kernel, rfl, by decide +kernel, by decide +kernel⟩
theorem ok_pool {f : Addr} {fd : FuncData} (F : Fun K "_law_pool" "_law_pool" s_pool f fd) (T : Bn mg) : FnOk P w K mg base CX0 1 f fd ["_law_script"] (spPool K) := by
  refine F.ok sc_pool (fun vs H Q E h => ?_) (fun cdv A outer s H vs Q E hr h => ?_)
  · obtain ⟨a, ns, rfl, _⟩ := h
    rfl
  · obtain ⟨a, ns, rfl, ha, hl, k⟩ := h
    refine ⟨_, (pss_cons (ps_set (i := 1) sc_pool.nd rfl (Or.inl rfl) (pe_op op_cat (pe_lc (own := [("_law_cell", 3)]) rfl sc_pool.nd (pi_list (pe_slice sl_list (pv 0) po_none (po_some pe_int))) (blkOk_by (N := ["_law_script", "_law_cells", "_law_number", "_law_cell", "_law_great"]) (sc := defScope s_pool) (by decide +kernel)) (fun _ _ _ _ _ => (pg_name (i := 3) sc_pool.nd rfl (Or.inl rfl))) (fun _ _ _ _ _ => pts_nil) (fun _ _ _ _ _ => (pe_callTy call_int1 (by rfl) T.n_int (by decide +kernel) (pa_cons (pv 3) pa_nil)))) (pe_lst (pa_cons (pe_callB call_len_seq (by rfl) T.n_len PySem.boot_len (pa_cons (pe_slice sl_list (pv 0) po_none (po_some pe_int)) pa_nil)) pa_nil))))
      (pss_cons (ps_set (i := 2) sc_pool.nd rfl (Or.inl rfl) pe_int)
      (pss_cons (ps_for PassesOwn.never rfl (pi_list (pv 1)) (pg_name (i := 3) sc_pool.nd rfl (Or.inl rfl))
        (pss_one (ps_set (i := 2) sc_pool.nd rfl (Or.inl rfl) (pe_op op_modN (pe_callTy call_int1 (by rfl) T.n_int (by decide +kernel) (pa_cons (pe_op op_add (pe_op op_add (pe_op op_mul (pv 2) pe_int) (pv 3)) pe_int) pa_nil)) (pe_op op_sub (pe_op op_pow pe_int pe_int) pe_int)))))
      (pss_cons (ps_setLc (i := 4) (own := [("_law_cell", 3)]) rfl sc_pool.nd rfl rfl (sw_true rfl rfl rfl (by decide +kernel)) (pi_list (pv 1)) (blkOk_by (N := ["_law_script", "_law_cells", "_law_number", "_law_cell", "_law_great"]) (sc := defScope s_pool) (by decide +kernel)) (fun _ _ _ _ _ => (pg_name (i := 3) sc_pool.nd rfl (Or.inl rfl))) (fun _ _ _ _ _ => (pts_one (pt_cmpR op_ge (pe_callB call_abs (by rfl) T.n_abs (by decide +kernel) (pa_cons (pv 3) pa_nil)) (pe_op op_pow pe_int pe_int) (nomark _)))) (fun _ _ _ _ _ => (pe_callB call_abs (by rfl) T.n_abs (by decide +kernel) (pa_cons (pv 3) pa_nil))))
      (pss_one (ps_ret (pe_lst (pa_cons (pv 2) (pa_cons (pe_ix ix_list (pe_op op_cat (pv 4) (pe_lst (pa_cons pe_int pa_nil))) pe_int (fun _ _ => rfl)) pa_nil))))))))), ?_⟩
    obtain ⟨ms, hms, hml⟩ := cut_map ns none (some 60)
    -- the cells
    refine ⟨_, rfl, _, rfl, a, _, rfl, ha, fun p1 np1 => ?_⟩
    rw [hms]
    refine ⟨p1, rfl, ⟨_, SqL.of upd_same⟩, fun D nD => ?_⟩
    refine lc_list (K := K) (a := p1) (xs := ms.map V.int) (fun i H' => H' = upd (upd H p1 (.lst (ms.map V.int))) D (.lst ((ms.take i).map V.int))) rfl (fun i H' hi e => ?_) ?_ ?_
    · rw [e]
      have ne : p1 ≠ D := fun z => by rw [← z, upd_same] at nD; cases nD
      exact SqL.of (by rw [upd_ne ne, upd_same])
    · rintro i x H' hi rfl
      obtain ⟨z, hz, rfl⟩ := at_map hi
      refine ⟨rfl, yes_of ?_⟩
      refine ⟨_, rfl, .inl ⟨z, rfl, _, upd_same, ?_, ?_⟩⟩
      · rw [List.length_map, List.length_take]
        exact sml (by omega)
      · rw [upd_upd, take_more hz, List.map_append]
        rfl
    · rintro H' rfl
      rw [List.length_map, List.take_length]
      have s1 : Same H (upd (upd H p1 (.lst (ms.map V.int))) D (.lst (ms.map V.int))) := (Same.put np1).trans (Same.put nD)
      have eD : (upd (upd H p1 (.lst (ms.map V.int))) D (.lst (ms.map V.int))) D = some (.lst (ms.map V.int)) := upd_same
      generalize (upd (upd H p1 (.lst (ms.map V.int))) D (.lst (ms.map V.int))) = H1 at s1 eD ⊢
      refine ⟨_, rfl, _, rfl, a, _, rfl, s1.seq ha, fun p2 np2 => ?_⟩
      rw [hms]
      refine ⟨p2, _, rfl, .inl (SqL.of upd_same), by show 1 ≤ sizeLine; decide, fun p3 np3 => ?_⟩
      rw [List.length_map]
      have s2 : Same H1 (upd (upd H1 p2 (.lst (ms.map V.int))) p3 (.lst [V.int (ms.length : Int)])) := (Same.put np2).trans (Same.put np3)
      refine ⟨D, p3, ms.map V.int, [V.int (ms.length : Int)], rfl, rfl, s2 _ _ eD, upd_same, ?_, fun p4 np4 => ?_⟩
      · rw [List.length_map]
        exact Nat.le_of_lt (sml (by show ms.length + 1 ≤ 1000; omega))
      have s3 : Same H (upd (upd (upd H1 p2 (.lst (ms.map V.int))) p3 (.lst [V.int (ms.length : Int)])) p4 (.lst ((ms ++ [(ms.length : Int)]).map V.int))) := (s1.trans s2).trans (Same.put np4)
      have e4 : (ms.map V.int ++ [V.int (ms.length : Int)]) = (ms ++ [(ms.length : Int)]).map V.int := by rw [List.map_append]; rfl
      rw [e4]
      have eC : (upd (upd (upd H1 p2 (.lst (ms.map V.int))) p3 (.lst [V.int (ms.length : Int)])) p4 (.lst ((ms ++ [(ms.length : Int)]).map V.int))) p4 = some (.lst ((ms ++ [(ms.length : Int)]).map V.int)) := upd_same
      have hcl : (ms ++ [(ms.length : Int)]).length ≤ 64 := by
        rw [List.length_append]
        show ms.length + 1 ≤ 64
        omega
      generalize (upd (upd (upd H1 p2 (.lst (ms.map V.int))) p3 (.lst [V.int (ms.length : Int)])) p4 (.lst ((ms ++ [(ms.length : Int)]).map V.int))) = H4 at s3 eC ⊢
      generalize ms ++ [(ms.length : Int)] = cs at eC hcl ⊢
      -- the number
      refine ⟨_, rfl, p4, rfl, ⟨_, SqL.of eC⟩, for_list (K := K) (a := p4) (xs := cs.map V.int) (fun i σ H' => H' = H4 ∧ ∃ (n : Int) (v : Option V), 0 ≤ n ∧ n < 2 ^ 64 ∧ σ = [some (.ref a), some (.ref p4), some (.int n), v, none]) ⟨rfl, 7, none, by decide, by decide, rfl⟩ (fun i σ H' _ h => by rw [h.1]; exact SqL.of eC) ?_ ?_⟩
      · rintro i x σ H' hi ⟨rfl, n, v, n0, n1, rfl⟩
        obtain ⟨z, hz, rfl⟩ := at_map hi
        refine ⟨_, rfl, _, _, rfl, rfl, .inr ⟨by decide, by decide⟩, _, rfl, _, _, rfl, rfl, _, _, rfl, rfl, .inl ⟨_, rfl, 2, 61, rfl, rfl, ⟨by decide, by decide, by decide⟩, _, _, rfl, rfl, _, _, rfl, rfl, ?_, rfl, ?_⟩⟩
        · show ((2 : Int) ^ (61 : Int).toNat - 1) ≠ 0
          decide +kernel
        · have e : ((2 : Int) ^ (61 : Int).toNat - 1) = 2305843009213693951 := by decide +kernel
          refine ⟨(n * 48271 + z + 11).fmod ((2 : Int) ^ (61 : Int).toNat - 1), some (.int z), ?_, ?_, rfl⟩
          · rw [e, Int.fmod_eq_emod_of_nonneg _ (by decide)]
            exact Int.emod_nonneg _ (by decide)
          · rw [e, Int.fmod_eq_emod_of_nonneg _ (by decide)]
            exact Int.lt_trans (Int.emod_lt_of_pos _ (by decide)) (by decide)
      · rintro σ H4 ⟨rfl, n, v, n0, n1, rfl⟩
        -- the great cells
        refine ⟨_, rfl, p4, rfl, ⟨_, SqL.of eC⟩, fun G nG => ?_⟩
        refine lc_list (K := K) (a := p4) (xs := cs.map V.int) (fun i H' => ∃ gs : List Int, H' = upd H4 G (.lst (gs.map V.int)) ∧ gs.length ≤ i ∧ ∀ g ∈ gs, 0 ≤ g) ⟨[], rfl, Nat.le_refl _, fun _ h => by cases h⟩ (fun i H' hi h => ?_) ?_ ?_
        · obtain ⟨gs, e, _⟩ := h
          rw [e]
          exact SqL.of (by rw [upd_ne (ne_of_none eC nG)]; exact eC)
        · rintro i x H' hi ⟨gs, rfl, gl, g0⟩
          obtain ⟨z, hz, rfl⟩ := at_map hi
          have hi2 : i < cs.length := (List.getElem?_eq_some_iff.mp hz).1
          refine ⟨rfl, _, rfl, z, rfl, 10, 18, rfl, rfl, ⟨by decide, by decide, by decide⟩, _, _, rfl, rfl, _, rfl, iteB (fun _ => ?_) (fun _ => ?_)⟩
          · refine ⟨_, rfl, z, rfl, _, upd_same, ?_, gs ++ [if z < 0 then -z else z], ?_, ?_, ?_⟩
            · rw [List.length_map]
              exact sml (by omega)
            · rw [upd_upd, List.map_append]
              rfl
            · rw [List.length_append]
              show gs.length + 1 ≤ i + 1
              omega
            · intro g hg
              rcases List.mem_append.mp hg with h | h
              · exact g0 g h
              · have e := List.mem_singleton.mp h
                rw [e]
                split <;> omega
          · exact ⟨gs, rfl, Nat.le_succ_of_le gl, g0⟩
        · rintro H' ⟨gs, rfl, gl, g0⟩
          rw [List.length_map] at gl
          have s4 : Same H (upd H4 G (.lst (gs.map V.int))) := s3.trans (Same.put nG)
          have eG : (upd H4 G (.lst (gs.map V.int))) G = some (.lst (gs.map V.int)) := upd_same
          generalize (upd H4 G (.lst (gs.map V.int))) = H5 at s4 eG ⊢
          refine ⟨_, rfl, _, rfl, by show 1 ≤ sizeLine; decide, fun p5 np5 => ?_⟩
          refine ⟨G, p5, gs.map V.int, [.int 0], rfl, rfl, Same.put np5 _ _ eG, upd_same, ?_, fun p6 np6 => ?_⟩
          · rw [List.length_map]
            exact Nat.le_of_lt (sml (by show gs.length + 1 ≤ 1000; omega))
          have hd : ∃ g : Int, (gs.map V.int ++ [V.int 0])[0]? = some (V.int g) ∧ 0 ≤ g := by
            cases gs with
            | nil => exact ⟨0, rfl, Int.le_refl _⟩
            | cons g r => exact ⟨g, rfl, g0 g (List.mem_cons_self ..)⟩
          obtain ⟨g, hg, gg⟩ := hd
          refine ⟨p6, _, 0, .int g, rfl, rfl, SqL.of upd_same, atI_nat hg, by show 2 ≤ sizeLine; decide, fun p7 np7 => ?_⟩
          have s5 := ((s4.trans (Same.put np5)).trans (Same.put np6)).trans (Same.put (o := .lst [.int n, .int g]) np7)
          exact k p7 _ s5 (((s4.trans (Same.put np5)).trans (Same.put np6)).free np7) ⟨_, upd_same, n, g, rfl, n0, n1, gg⟩
end
end K6

set_option Elab.async false
set_option linter.all false
set_option maxRecDepth 100000
set_option maxHeartbeats 4000000
/-! closures (as for k56) -/
namespace K6
/-! ### closures -/
abbrev Rl := Nat → Nat → Bool
def wstep (R : Rl) (m : Nat) : Rl := fun s t => R s t || (R s m && R m t)
def wars (R : Rl) : Nat → Rl
  | 0 => R
  | m + 1 => wstep (wars R m) m
theorem wstep_iff {R : Rl} {m s t : Nat} : wstep R m s t = true ↔ R s t = true ∨ (R s m = true ∧ R m t = true) := by
  unfold wstep
  rw [Bool.or_eq_true, Bool.and_eq_true]
theorem wars_old {R : Rl} {s t : Nat} (h : R s t = true) : ∀ n, wars R n s t = true
  | 0 => h
  | n + 1 => wstep_iff.mpr (.inl (wars_old h n))
/-- what is asked of all of R's pairs stays so, if it goes through -/
theorem wars_keep {R : Rl} (C : Nat → Nat → Prop) (tr : ∀ s m t, C s m → C m t → C s t) (h : ∀ s t, R s t = true → C s t) : ∀ n s t, wars R n s t = true → C s t
  | 0, s, t, q => h s t q
  | n + 1, s, t, q => by
    rcases wstep_iff.mp q with q | ⟨q1, q2⟩
    · exact wars_keep C tr h n s t q
    · exact tr s n t (wars_keep C tr h n s n q1) (wars_keep C tr h n n t q2)
theorem wars_trans {R : Rl} : ∀ (n k s t : Nat), k < n → wars R n s k = true → wars R n k t = true → wars R n s t = true
  | 0, k, s, t, h, _, _ => absurd h (Nat.not_lt_zero _)
  | n + 1, k, s, t, h, h1, h2 => by
    have ih := wars_trans (R := R) n
    rcases wstep_iff.mp h1 with a | ⟨a1, a2⟩
    · rcases wstep_iff.mp h2 with b | ⟨b1, b2⟩
      · by_cases e : k = n
        · subst e
          exact wstep_iff.mpr (.inr ⟨a, b⟩)
        · exact wstep_iff.mpr (.inl (ih k s t (by omega) a b))
      · by_cases e : k = n
        · subst e
          exact wstep_iff.mpr (.inr ⟨a, b2⟩)
        · exact wstep_iff.mpr (.inr ⟨ih k s n (by omega) a b1, b2⟩)
    · rcases wstep_iff.mp h2 with b | ⟨b1, b2⟩
      · by_cases e : k = n
        · subst e
          exact wstep_iff.mpr (.inr ⟨a1, b⟩)
        · exact wstep_iff.mpr (.inr ⟨a1, ih k n t (by omega) a2 b⟩)
      · exact wstep_iff.mpr (.inr ⟨a1, b2⟩)
/-- a relation of places below n that goes through is its own closure -/
theorem wars_self {R : Rl} (tr : ∀ k s t, R s k = true → R k t = true → R s t = true) : ∀ n, wars R n = R
  | 0 => rfl
  | n + 1 => by
    show wstep (wars R n) n = R
    rw [wars_self tr n]
    funext s t
    rw [Bool.eq_iff_iff, wstep_iff]
    exact ⟨fun h => h.elim id fun h => tr n s t h.1 h.2, .inl⟩
/-! ### pairs, up sets -/
def prs (n : Nat) : List (Nat × Nat) := (List.range n).flatMap fun s => (List.range n).map fun t => (s, t)
theorem mem_prs {n : Nat} {p : Nat × Nat} : p ∈ prs n ↔ p.1 < n ∧ p.2 < n := by
  unfold prs
  rw [List.mem_flatMap]
  constructor
  · rintro ⟨s, hs, h⟩
    obtain ⟨t, ht, rfl⟩ := List.mem_map.mp h
    exact ⟨List.mem_range.mp hs, List.mem_range.mp ht⟩
  · rintro ⟨h1, h2⟩
    exact ⟨p.1, List.mem_range.mpr h1, List.mem_map.mpr ⟨p.2, List.mem_range.mpr h2, rfl⟩⟩
def keepB (R : Rl) (p : Nat × Nat) : Bool := decide (p.1 ≠ p.2) && R p.1 p.2
def lowL (n : Nat) (R : Rl) : List (Nat × Nat) := (prs n).filter (keepB R)
theorem mem_low {n : Nat} {R : Rl} {p : Nat × Nat} : p ∈ lowL n R ↔ p.1 < n ∧ p.2 < n ∧ p.1 ≠ p.2 ∧ R p.1 p.2 = true := by
  unfold lowL keepB
  rw [List.mem_filter, mem_prs, Bool.and_eq_true, decide_eq_true_eq, and_assoc]
theorem low_congr {n : Nat} {R S : Rl} (h : ∀ s t, s < n → t < n → R s t = S s t) : lowL n R = lowL n S := by
  unfold lowL
  refine List.filter_congr fun p hp => ?_
  obtain ⟨h1, h2⟩ := mem_prs.mp hp
  unfold keepB
  rw [h _ _ h1 h2]
def orEq (R : Rl) : Rl := fun s t => decide (s = t) || R s t
theorem orEq_iff {R : Rl} {s t : Nat} : orEq R s t = true ↔ s = t ∨ R s t = true := by
  unfold orEq
  rw [Bool.or_eq_true, decide_eq_true_eq]
theorem wars_orEq {R : Rl} : ∀ n, wars (orEq R) n = orEq (wars R n)
  | 0 => rfl
  | n + 1 => by
    show wstep (wars (orEq R) n) n = orEq (wstep (wars R n) n)
    rw [wars_orEq n]
    funext s t
    rw [Bool.eq_iff_iff, wstep_iff, orEq_iff, orEq_iff, orEq_iff, orEq_iff, wstep_iff]
    constructor
    · rintro ((h | h) | ⟨h1 | h1, h2 | h2⟩)
      · exact .inl h
      · exact .inr (.inl h)
      · exact .inl (h1.trans h2)
      · rw [h1]; exact .inr (.inl h2)
      · rw [← h2]; exact .inr (.inl h1)
      · exact .inr (.inr ⟨h1, h2⟩)
    · rintro (h | h | ⟨h1, h2⟩)
      · exact .inl (.inl h)
      · exact .inl (.inr h)
      · exact .inr ⟨.inr h1, .inr h2⟩
def sw (R : Rl) : Rl := fun s t => R t s
/-! ### the line -/
def lineR : Rl := fun s t => decide (t = s + 1)
theorem line_lt : ∀ n s t, s < t → t < n → wars lineR n s t = true := by
  intro n s t h ht
  induction t with
  | zero => omega
  | succ t ih =>
    have h1 : wars lineR n t (t + 1) = true := wars_old (by unfold lineR; exact decide_eq_true rfl) n
    by_cases e : s = t
    · rw [e]; exact h1
    · exact wars_trans n t s (t + 1) (by omega) (ih (by omega) (by omega)) h1
theorem line_wars {n s t : Nat} (ht : t < n) : wars lineR n s t = decide (s < t) := by
  rw [Bool.eq_iff_iff, decide_eq_true_eq]
  constructor
  · exact wars_keep (fun s t => s < t) (fun _ _ _ => Nat.lt_trans) (fun s t h => by have := of_decide_eq_true h; omega) n s t
  · exact fun h => line_lt n s t h ht
end K6

set_option Elab.async false
set_option linter.all false
set_option maxRecDepth 100000
set_option maxHeartbeats 4000000
namespace K6
open PySem L2
/-! ### lists of pairs, each in a tuple of its own -/
abbrev Pt := Addr × Nat × Nat
abbrev rfs {α : Type} (ts : List (Addr × α)) : List V := ts.map fun t => V.ref t.1
abbrev prV (p : Nat × Nat) : List V := [.int (p.1 : Int), .int (p.2 : Int)]
def Pts (H : Hp) (ts : List Pt) : Prop := ∀ t ∈ ts, H t.1 = some (.tup (prV t.2))
theorem Pts.same {H H' : Hp} {ts : List Pt} (h : Pts H ts) (s : Same H H') : Pts H' ts := fun t m => s _ _ (h t m)
theorem Pts.snoc {H : Hp} {ts : List Pt} {t : Pt} (h : Pts H ts) (e : H t.1 = some (.tup (prV t.2))) : Pts H (ts ++ [t]) := fun u m => by
  rcases List.mem_append.mp m with m | m
  · exact h u m
  · rw [List.mem_singleton.mp m]; exact e
theorem rfs_snoc {α : Type} {ts : List (Addr × α)} {t : Addr × α} : rfs (ts ++ [t]) = rfs ts ++ [V.ref t.1] := by rw [rfs, List.map_append]; rfl
theorem rfs_len {α : Type} {ts : List (Addr × α)} : (rfs ts).length = ts.length := List.length_map _
theorem rfs_at {α : Type} {ts : List (Addr × α)} {i : Nat} {x : V} (h : (rfs ts)[i]? = some x) : ∃ t, ts[i]? = some t ∧ t ∈ ts ∧ x = .ref t.1 := by
  rw [rfs, List.getElem?_map] at h
  cases e : ts[i]? with
  | none => rw [e] at h; cases h
  | some t => rw [e] at h; exact ⟨t, rfl, List.mem_of_getElem? e, (Option.some.inj h).symm⟩
theorem Same.but {H H' : Hp} {D : Addr} {o : HO} (h : ∀ b u, H b = some u → H' b = some u) (n : H D = none) : ∀ b u, H b = some u → (upd H' D o) b = some u := fun b u e => by
  rw [upd_ne (ne_of_none e n)]
  exact h b u e
theorem small_len {n : Nat} (h : n ≤ 1000) : n < sizeLine := small1000 h
/-- index_pairs(n) -/
def spIxPrs : Sp := fun vs H Q _ => ∃ n : Nat, vs = [.int (n : Int)] ∧ n ≤ 8 ∧ ∀ (l : Addr) (ts : List Pt) (H' : Hp), Same H H' → H' l = some (.lst (rfs ts)) → Pts H' ts → ts.map (·.2) = prs n → Q (.ref l) H'
theorem prs_len : ∀ n : Nat, n ≤ 8 → (prs n).length ≤ 64 := by
  have h : ∀ n : Fin 9, (prs n).length ≤ 64 := by decide +kernel
  intro n hn
  exact h ⟨n, by omega⟩
def rowsTo (n i : Nat) : List (Nat × Nat) := (List.range i).flatMap fun s => (List.range n).map fun t => (s, t)
theorem rowsTo_succ (n i : Nat) : rowsTo n (i + 1) = rowsTo n i ++ (List.range n).map fun t => (i, t) := by
  unfold rowsTo
  rw [List.range_succ, List.flatMap_append]
  congr 1
  simp
theorem rowsTo_len (n : Nat) : ∀ i, (rowsTo n i).length = i * n
  | 0 => by simp [rowsTo]
  | i + 1 => by rw [rowsTo_succ, List.length_append, rowsTo_len n i, List.length_map, List.length_range, Nat.succ_mul]
section
variable {P : Program} {w : World} {K : PySem.W.Frag} {mg : Str → Option Value} {base : Heap}
abbrev s_index_pairs : Stmt := top 15
theorem sc_index_pairs : FnScope ["many", "one", "other"] ["many"] (defScope s_index_pairs) := ⟨rfl, rfl, rfl, by decide +kernel, rfl, by decide +kernel, by decide +kernel⟩
theorem ok_index_pairs {f : Addr} {fd : FuncData} (F : Fun K "index_pairs" "index_pairs" s_index_pairs f fd) (T : Bn mg) : FnOk P w K mg base CX0 1 f fd ["many"] spIxPrs := by
  refine F.ok sc_index_pairs (fun vs H Q E h => ?_) (fun cdv A outer s H vs Q E hr h => ?_)
  · obtain ⟨n, rfl, _⟩ := h
    rfl
  · obtain ⟨n, rfl, hn, k⟩ := h
    refine ⟨_, (pss_one (ps_ret (pe_lc2 (own := [("one", 1), ("other", 2)]) (vs1 := [2]) rfl sc_index_pairs.nd (pi_range1 (by rfl) T.n_range (pa_cons (pv 0) pa_nil)) (blkOk_by (N := ["many", "one", "other"]) (sc := defScope s_index_pairs) (by decide +kernel)) (by decide)
      (fun _ _ _ _ _ => (pg_name (i := 1) sc_index_pairs.nd rfl (Or.inl rfl))) (fun _ _ _ _ _ => pts_nil) (fun _ _ _ _ _ => (pi_range1 (by rfl) T.n_range (pa_cons (pv 0) pa_nil))) (fun _ _ _ _ _ => (pg_name (i := 2) sc_index_pairs.nd rfl (Or.inl rfl))) (fun _ _ _ _ _ => pts_nil)
      (fun _ _ _ _ _ => (pe_tup (pa_cons (pv 1) (pa_cons (pv 2) pa_nil))))))), ?_⟩
    refine ⟨_, rfl, _, rfl, by omega, by omega, fun D nD => ?_⟩
    rw [Int.toNat_natCast]
    let Pv : Nat → Nat → Hp → Prop := fun i j H' => ∃ ts : List Pt, Same H H' ∧ H' D = some (.lst (rfs ts)) ∧ Pts H' ts ∧ ts.map (·.2) = rowsTo n i ++ (List.range j).map fun t => (i, t)
    refine ⟨fun i m H' => m + i = n ∧ Pv i 0 H', ⟨n, rfl, [], Same.put nD, upd_same, fun _ m => (by cases m), rfl⟩, fun i m H1 ⟨em, p⟩ => ?_⟩
    cases m with
    | zero =>
      obtain rfl : i = n := by omega
      obtain ⟨ts, s1, e1, p1, q1⟩ := p
      refine .inl ⟨Nat.le_refl _, k D ts H1 s1 e1 p1 ?_⟩
      rw [q1]
      simp [rowsTo, prs]
    | succ m =>
      refine .inr ⟨show i < n by omega, Pv (i + 1) 0, fun H' p' => ⟨m, Nat.lt_succ_self m, by omega, p'⟩, fun x H' y => ?_⟩
      obtain ⟨e, y⟩ := y
      subst e y
      refine ⟨rfl, yes_of ?_⟩
      refine ⟨_, rfl, _, rfl, by omega, by omega, ?_⟩
      rw [Int.toNat_natCast]
      refine ⟨fun j m' H' => m' + j = n ∧ Pv i j H', ⟨n, rfl, p⟩, fun j m' H2 ⟨em', p'⟩ => ?_⟩
      cases m' with
      | zero =>
        obtain rfl : j = n := by omega
        obtain ⟨ts, s1, e1, p1, q1⟩ := p'
        refine .inl ⟨Nat.le_refl _, ts, s1, e1, p1, ?_⟩
        rw [q1, rowsTo_succ]
        simp
      | succ m' =>
        refine .inr ⟨show j < n by omega, Pv i (j + 1), fun H' p' => ⟨m', Nat.lt_succ_self m', by omega, p'⟩, fun x H' y => ?_⟩
        obtain ⟨e, y⟩ := y
        subst e y
        refine ⟨rfl, yes_of ?_⟩
        obtain ⟨ts, s1, e1, p1, q1⟩ := p'
        refine ⟨_, rfl, _, rfl, by show 2 ≤ sizeLine; decide, fun t nt => ?_⟩
        have len : ts.length ≤ 64 := by
          have := congrArg List.length q1
          rw [List.length_map, List.length_append, rowsTo_len, List.length_map, List.length_range] at this
          have h1 : (i + 1) * n ≤ n * n := Nat.mul_le_mul_right n (by omega)
          have h2 : n * n ≤ 8 * 8 := Nat.mul_le_mul hn hn
          rw [Nat.succ_mul] at h1
          omega
        refine ⟨rfs ts, Same.put nt _ _ e1, by rw [rfs_len]; exact small_len (by omega), ts ++ [(t, i, j)], ?_, ?_, ?_, ?_⟩
        · exact Same.but (fun b u e => Same.put nt _ _ (s1 b u e)) nD
        · rw [upd_same, rfs_snoc]
        · have ne : ∀ b u, H' b = some u → u ≠ HO.lst (rfs ts) → b ≠ D := fun b u e z q => z (by rw [q, e1] at e; exact (Option.some.inj e).symm)
          refine Pts.snoc (fun u m => ?_) ?_
          · rw [upd_ne (ne _ _ (p1 u m) (by intro z; cases z))]
            exact Same.put nt _ _ (p1 u m)
          · have nDt : t ≠ D := fun z => by rw [z, e1] at nt; cases nt
            rw [upd_ne nDt, upd_same]
            simp
        · rw [List.map_append, q1, List.range_succ, List.map_append, List.append_assoc]
          rfl
end
end K6

set_option Elab.async false
set_option linter.all false
set_option maxRecDepth 100000
set_option maxHeartbeats 4000000
namespace K6
open PySem L2
/-! ### the closure, in a dict -/
abbrev kyP (p : Nat × Nat) : List Key := [Sum.inl (p.1 : Int), Sum.inl (p.2 : Int)]
theorem ky_tup (p : Nat × Nat) : (kyP p).map kV = prV p := rfl
theorem kyP_inj {p q : Nat × Nat} (h : kyP p = kyP q) : p = q := by
  obtain ⟨a, b⟩ := p
  obtain ⟨c, d⟩ := q
  simp only [kyP, List.cons.injEq, Sum.inl.injEq, and_true] at h
  rw [Int.ofNat.inj h.1, Int.ofNat.inj h.2]
/-- which pairs the dict has -/
def Has (kvs : List (List Key × V)) (p : Nat × Nat) : Bool := (valV kvs (kyP p)).isSome
theorem has_put {kvs : List (List Key × V)} {p q : Nat × Nat} {v : V} : Has (putK kvs (kyP p) v) q = (decide (q = p) || Has kvs q) := by
  unfold Has
  rw [valV_put]
  by_cases e : q = p
  · rw [if_pos (by rw [e]), decide_eq_true e]
    rfl
  · rw [if_neg (fun z => e (kyP_inj z)), decide_eq_false e]
    rfl
def memR (ps : List (Nat × Nat)) : Rl := fun s t => decide ((s, t) ∈ ps)
/-- R, and what comes of it by way of m for the first j pairs -/
def part (n : Nat) (R : Rl) (m j : Nat) : Rl := fun s t => R s t || (R s m && R m t && decide ((s, t) ∈ (prs n).take j))
theorem part_all {n : Nat} {R : Rl} {m s t : Nat} (hs : s < n) (ht : t < n) : part n R m (prs n).length s t = wstep R m s t := by
  unfold part wstep
  rw [List.take_length, decide_eq_true (mem_prs.mpr ⟨hs, ht⟩), Bool.and_true]
theorem part_zero {n : Nat} {R : Rl} {m s t : Nat} : part n R m 0 s t = R s t := by
  unfold part
  rw [List.take_zero, decide_eq_false (by intro h; cases h), Bool.and_false, Bool.or_false]
theorem part_in {n : Nat} {R : Rl} {m j s : Nat} : part n R m j s m = R s m := by
  unfold part
  cases h : R s m <;> simp
theorem part_out {n : Nat} {R : Rl} {m j t : Nat} : part n R m j m t = R m t := by
  unfold part
  cases h : R m t <;> simp
theorem part_next {n : Nat} {R : Rl} {m j s t : Nat} {p : Nat × Nat} (hp : (prs n)[j]? = some p) : part n R m (j + 1) s t = ((decide ((s, t) = p) && (R p.1 m && R m p.2)) || part n R m j s t) := by
  unfold part
  rw [take_more hp]
  by_cases e : (s, t) = p
  · subst e
    rw [decide_eq_true rfl, decide_eq_true (List.mem_append_right _ (List.mem_singleton.mpr rfl))]
    cases R s t <;> cases R s m <;> cases R m t <;> rfl
  · have : ((s, t) ∈ (prs n).take j ++ [p]) ↔ (s, t) ∈ (prs n).take j := by
      rw [List.mem_append, List.mem_singleton]
      exact ⟨fun h => h.elim id fun h => absurd h e, .inl⟩
    rw [decide_eq_false e, decide_eq_decide.mpr this]
    rfl
def spLinked (K : PySem.W.Frag) : Sp := fun vs H Q _ => ∃ (n : Nat) (l : Addr) (ts : List Pt), vs = [.int (n : Int), .ref l] ∧ n ≤ 8 ∧ Sq H l (rfs ts) ∧ Pts H ts ∧ ts.length ≤ 200 ∧
  ∀ (T : Addr) (us : List Pt) (H' : Hp), Same H H' → H' T = some (.tup (rfs us)) → Pts H' us → us.map (·.2) = lowL n (wars (memR (ts.map (·.2))) n) → Q (.ref T) H'
/-- all but the object at D stays -/
def Mv (D : Addr) (H H' : Hp) : Prop := ∀ b u, b ≠ D → H b = some u → H' b = some u
section
variable {P : Program} {w : World} {K : PySem.W.Frag} {mg : Str → Option Value} {base : Heap}
abbrev s_linked : Stmt := top 25
theorem sc_linked : FnScope ["size", "pairs", "lower", "middle", "s", "t"] ["size", "pairs"] (defScope s_linked) := ⟨rfl, rfl, rfl, by decide +kernel, rfl, by decide +kernel, by decide +kernel⟩
theorem ok_linked {f : Addr} {fd : FuncData} (F : Fun K "linked" "linked" s_linked f fd) (T : Bn mg) (c_index_pairs : Cal P w K mg base 1 "index_pairs" ["many"] spIxPrs) : FnOk P w K mg base CX0 2 f fd ["size", "pairs"] (spLinked K) := by
  refine F.ok sc_linked (fun vs H Q E h => ?_) (fun cdv A outer s H vs Q E hr h => ?_)
  · obtain ⟨n, l, ts, rfl, _⟩ := h
    rfl
  · obtain ⟨n, l, ts, rfl, hn, el, pt, hlen, k⟩ := h
    have hu := hu_of hr
    refine ⟨_, (pss_cons (ps_set (i := 2) sc_linked.nd rfl (Or.inr rfl) (pe_dcT (own := [("s", 4), ("t", 5)]) (g := gTup K 2 (gCons (gName 4) (gCons (gName 5) gNil))) rfl (by exact hu) sc_linked.nd (pi_sq (pv 1)) (blkOk_by (N := ["size", "pairs", "lower", "middle", "s", "t"]) (sc := defScope s_linked) (by decide +kernel))
        (fun _ _ _ _ _ => (pg_tup (by rfl) (pgs_cons (pg_name (i := 4) sc_linked.nd rfl (Or.inl rfl)) (pgs_cons (pg_name (i := 5) sc_linked.nd rfl (Or.inl rfl)) pgs_nil)))) (fun _ _ _ _ _ => pts_nil) (fun _ _ _ _ _ => (pe_tup (pa_cons (pv 4) (pa_cons (pv 5) pa_nil)))) (fun _ _ _ _ _ => pe_bl)))
      (pss_cons (ps_for PassesOwn.never rfl (pi_range1 (by rfl) T.n_range (pa_cons (pv 0) pa_nil)) (pg_name (i := 3) sc_linked.nd rfl (Or.inl rfl))
        (pss_one (ps_for PassesOwn.never rfl (pi_list (pe_cal c_index_pairs (hr.mono (by decide)) rfl (pa_cons (pv 0) pa_nil))) (pg_tup (by rfl) (pgs_cons (pg_name (i := 4) sc_linked.nd rfl (Or.inl rfl)) (pgs_cons (pg_name (i := 5) sc_linked.nd rfl (Or.inl rfl)) pgs_nil)))
            (pss_one (ps_if (PW.pt (pw_and (pt_cmp (pc_din (by exact hu) (pe_tup (pa_cons (pv 4) (pa_cons (pv 3) pa_nil))) (pv 2))) (pw_and1 (pt_cmp (pc_din (by exact hu) (pe_tup (pa_cons (pv 3) (pa_cons (pv 5) pa_nil))) (pv 2))))))
                (pss_one (ps_dput (by exact hu) (pv 2) (pe_tup (pa_cons (pv 4) (pa_cons (pv 5) pa_nil))) pe_bl rfl))
                pss_nil)))))
      (pss_one (ps_ret (pe_callTy call_tuple_of (by rfl) T.n_tuple (by decide +kernel) (pa_cons (pe_lc (own := [("s", 4), ("t", 5)]) (g := gTup K 2 (gCons (gName 4) (gCons (gName 5) gNil))) rfl sc_linked.nd (pi_list (pe_cal c_index_pairs (hr.mono (by decide)) rfl (pa_cons (pv 0) pa_nil))) (blkOk_by (N := ["size", "pairs", "lower", "middle", "s", "t"]) (sc := defScope s_linked) (by decide +kernel))
        (fun _ _ _ _ _ => (pg_tup (by rfl) (pgs_cons (pg_name (i := 4) sc_linked.nd rfl (Or.inl rfl)) (pgs_cons (pg_name (i := 5) sc_linked.nd rfl (Or.inl rfl)) pgs_nil)))) (fun _ _ _ _ _ => (pts_one (PW.pt (pw_and (pt_cmpR op_ne (pv 4) (pv 5) (nomark _)) (pw_and1 (pt_cmp (pc_din (by exact hu) (pe_tup (pa_cons (pv 4) (pa_cons (pv 5) pa_nil))) (pv 2))))))))
        (fun _ _ _ _ _ => (pe_tup (pa_cons (pv 4) (pa_cons (pv 5) pa_nil))))) pa_nil)))))), ?_⟩
    refine it_sq (i := 1) rfl el fun J j D nD => ?_
    refine dcT_sq j (fun i H' => Same H H' ∧ ∃ kvs, H' D = some (.dT kvs) ∧ kvs.length ≤ i ∧ ∀ p, Has kvs p = decide (p ∈ (ts.map (·.2)).take i)) ⟨Same.put nD, [], upd_same, Nat.le_refl _, fun p => rfl⟩ (fun i H' _ h o e => h.1 _ _ e) ?_ ?_
    · rintro i x H' hx ⟨s1, kvs, ek, kl, kp⟩
      obtain ⟨t, ht, hm, rfl⟩ := rfs_at hx
      have i0 : (ts.map (·.2))[i]? = some t.2 := by rw [List.getElem?_map, ht]; rfl
      refine ⟨t.1, prV t.2, rfl, SqT.of (s1 _ _ (pt t hm)), rfl, _, _, rfl, _, _, rfl, rfl, rfl, yes_of ?_⟩
      refine ⟨_, rfl, _, rfl, by show 2 ≤ sizeLine; decide, fun c nc => ?_⟩
      refine ⟨kvs, kyP t.2, c, rfl, upd_same, Same.put nc _ _ ek, small_len (by have := (List.getElem?_eq_some_iff.mp ht).1; omega), ?_, _, upd_same, ?_, fun p => ?_⟩
      · exact Same.but (fun b u e => Same.put nc _ _ (s1 b u e)) nD
      · have := length_putK kvs (kyP t.2) (V.bl true)
        omega
      · rw [has_put, kp, take_more i0]
        rw [Bool.eq_iff_iff, Bool.or_eq_true, decide_eq_true_eq, decide_eq_true_eq, decide_eq_true_eq, List.mem_append, List.mem_singleton]
        exact or_comm
    · rintro H1 ⟨s1, kvs, ek, kl, kp⟩
      have kp0 : ∀ p : Nat × Nat, Has kvs p = memR (ts.map (·.2)) p.1 p.2 := fun p => by
        rw [kp, rfs_len, List.take_of_length_le (by rw [List.length_map]; omega)]
        rfl
      rw [rfs_len] at kl
      clear kp
      generalize memR (ts.map (·.2)) = R at k kp0
      refine ⟨_, rfl, _, rfl, by omega, by omega, ?_⟩
      rw [Int.toNat_natCast]
      refine for_range (fun i σ H' => ∃ v3 v4 v5 kvs, σ = [some (.int n), some (.ref l), some (.ref D), v3, v4, v5] ∧ Same H H' ∧ H' D = some (.dT kvs) ∧ kvs.length ≤ 200 + i * 64 ∧ ∀ s t, s < n → t < n → Has kvs (s, t) = wars R i s t) ⟨none, none, none, kvs, rfl, s1, ek, by omega, fun s t _ _ => kp0 (s, t)⟩ ?_ ?_
      · rintro m σ H2 hm ⟨v3, v4, v5, kv2, rfl, s2, e2, l2, h2⟩
        rw [Int.zero_add]
        refine ⟨_, rfl, n, rfl, hn, fun G us H3 s3 eG pG uG => ?_⟩
        have lenu : us.length = (prs n).length := by rw [← uG, List.length_map]
        have len64 := prs_len n hn
        have nGD : G ≠ D := fun z => by
          have := s3 _ _ e2
          rw [← z, eG] at this
          cases this
        refine ⟨G, rfl, ⟨_, SqL.of eG⟩, for_list (K := K) (a := G) (xs := rfs us) (fun j σ H' => ∃ v4 v5 kvs, σ = [some (.int n), some (.ref l), some (.ref D), some (.int (m : Int)), v4, v5] ∧ Mv D H3 H' ∧ H' D = some (.dT kvs) ∧ kvs.length ≤ 200 + m * 64 + j ∧ ∀ s t, s < n → t < n → Has kvs (s, t) = part n (wars R m) m j s t) ?_ ?_ ?_ ?_⟩
        · exact ⟨v4, v5, kv2, rfl, fun _ _ _ h => h, s3 _ _ e2, l2, fun s t hs ht => by rw [h2 s t hs ht, part_zero]⟩
        · rintro j σ H' _ ⟨_, _, _, _, mv, _⟩
          exact SqL.of (mv _ _ nGD eG)
        · rintro j x σ H' hx ⟨w4, w5, kvs3, rfl, mv, e3, l3, h3⟩
          obtain ⟨t, ht, hm2, rfl⟩ := rfs_at hx
          have i0 : (prs n)[j]? = some t.2 := by rw [← uG, List.getElem?_map, ht]; rfl
          obtain ⟨t1, t2⟩ := mem_prs.mp (List.mem_of_getElem? i0)
          have jl : j < 64 := by
            have := (List.getElem?_eq_some_iff.mp i0).1
            omega
          have ntD : t.1 ≠ D := fun z => by
            have := pG t hm2
            rw [z, s3 _ _ e2] at this
            cases this
          refine ⟨t.1, prV t.2, rfl, SqT.of (mv _ _ ntD (pG t hm2)), rfl, _, _, rfl, _, _, rfl, rfl, ?_⟩
          have grow : ∀ b, (wars R m t.2.1 m && wars R m m t.2.2) = b → ∀ s u, part n (wars R m) m (j + 1) s u = ((decide ((s, u) = t.2) && b) || part n (wars R m) m j s u) := fun b hb s u => by
            rw [part_next i0, hb]
          have same_next : (wars R m t.2.1 m && wars R m m t.2.2) = false → ∀ s u, part n (wars R m) m (j + 1) s u = part n (wars R m) m j s u := fun hb s u => by
            rw [grow false hb, Bool.and_false, Bool.false_or]
          have hasA : Has kvs3 (t.2.1, m) = wars R m t.2.1 m := by rw [h3 _ _ t1 hm, part_in]
          have hasB : Has kvs3 (m, t.2.2) = wars R m m t.2.2 := by rw [h3 _ _ hm t2, part_out]
          refine ⟨_, rfl, _, rfl, by show 2 ≤ sizeLine; decide, fun c1 n1 => ⟨_, rfl, D, _, rfl, DGet.t (k := kyP (t.2.1, m)) (Same.put n1 _ _ e3) upd_same, ?_⟩⟩
          have sA := Same.put (o := .tup [.int (t.2.1 : Int), .int (m : Int)]) n1
          generalize (upd H' c1 (.tup [.int (t.2.1 : Int), .int (m : Int)])) = H4 at sA ⊢
          refine ⟨_, rfl, iteB (fun z => ?_) (fun z => ?_)⟩
          · refine ⟨_, rfl, _, rfl, by show 2 ≤ sizeLine; decide, fun c2 n2 => ⟨_, rfl, D, _, rfl, DGet.t (k := kyP (m, t.2.2)) (Same.put n2 _ _ (sA _ _ e3)) upd_same, ?_⟩⟩
            have sB := sA.trans (Same.put (o := .tup [.int (m : Int), .int (t.2.2 : Int)]) n2)
            generalize (upd H4 c2 (.tup [.int (m : Int), .int (t.2.2 : Int)])) = H5 at sB ⊢
            refine ⟨_, rfl, iteB (fun z2 => ?_) (fun z2 => ?_)⟩
            · refine ⟨_, rfl, _, rfl, _, rfl, by show 2 ≤ sizeLine; decide, fun c3 n3 => ⟨D, _, rfl, DPut.t (k := kyP t.2) (Same.put n3 _ _ (sB _ _ e3)) upd_same (small_len (by omega)), ?_⟩⟩
              have sC := sB.trans (Same.put (o := .tup [.int (t.2.1 : Int), .int (t.2.2 : Int)]) n3)
              refine ⟨_, _, _, rfl, fun b u nb e => ?_, upd_same, ?_, fun s u hs hu' => ?_⟩
              · rw [upd_ne nb]
                exact sC _ _ (mv b u nb e)
              · have := length_putK kvs3 (kyP t.2) (V.bl true)
                omega
              · rw [has_put, h3 s u hs hu', grow true ?_, Bool.and_true]
                have z' : Has kvs3 (t.2.1, m) = true := z
                have z2' : Has kvs3 (m, t.2.2) = true := z2
                rw [← hasA, ← hasB, z', z2']
                rfl
            · have z2' : Has kvs3 (m, t.2.2) = false := z2
              refine ⟨_, _, kvs3, rfl, fun b u nb e => sB _ _ (mv b u nb e), sB _ _ e3, by omega, fun s u hs hu' => ?_⟩
              rw [same_next (by rw [← hasB, z2', Bool.and_false]), h3 s u hs hu']
          · have z' : Has kvs3 (t.2.1, m) = false := z
            refine ⟨_, _, kvs3, rfl, fun b u nb e => sA _ _ (mv b u nb e), sA _ _ e3, by omega, fun s u hs hu' => ?_⟩
            rw [same_next (by rw [← hasA, z', Bool.false_and]), h3 s u hs hu']
        · rintro σ H' ⟨w4, w5, kvs3, rfl, mv, e3, l3, h3⟩
          refine ⟨_, w4, w5, kvs3, rfl, fun b u e => ?_, e3, ?_, fun s t hs ht => ?_⟩
          · exact mv b u (ne_of_none e nD) (s3 _ _ (s2 _ _ e))
          · rw [rfs_len] at l3
            omega
          · rw [h3 s t hs ht, rfs_len, lenu, part_all hs ht]
            rfl
      · rintro σ H2 ⟨v3, v4, v5, kv2, rfl, s2, e2, l2, h2⟩
        refine ⟨_, rfl, n, rfl, hn, fun G us H3 s3 eG pG uG => ?_⟩
        have lenu : us.length = (prs n).length := by rw [← uG, List.length_map]
        have len64 := prs_len n hn
        refine ⟨G, rfl, ⟨_, SqL.of eG⟩, fun L nL => ?_⟩
        refine lc_list (K := K) (a := G) (xs := rfs us) (fun i H' => Same H3 H' ∧ ∃ ls : List Pt, H' L = some (.lst (rfs ls)) ∧ Pts H' ls ∧ ls.map (·.2) = ((prs n).take i).filter (keepB (wars R n)) ∧ ls.length ≤ i) ⟨Same.put nL, [], upd_same, fun _ m => (by cases m), rfl, Nat.le_refl _⟩ (fun i H' _ h => SqL.of (h.1 _ _ eG)) ?_ ?_
        · rintro i x H' hx ⟨s4, ls, eL, pL, qL, lL⟩
          obtain ⟨t, ht, hm2, rfl⟩ := rfs_at hx
          have i0 : (prs n)[i]? = some t.2 := by rw [← uG, List.getElem?_map, ht]; rfl
          obtain ⟨t1, t2⟩ := mem_prs.mp (List.mem_of_getElem? i0)
          have il : i < 64 := by
            have := (List.getElem?_eq_some_iff.mp i0).1
            omega
          have no : keepB (wars R n) t.2 = false → ls.map (·.2) = ((prs n).take (i + 1)).filter (keepB (wars R n)) := fun hb => by
            rw [take_more i0, List.filter_append, qL, List.filter_cons, hb]
            simp
          refine ⟨t.1, prV t.2, rfl, SqT.of (s4 _ _ (pG t hm2)), rfl, _, _, rfl, _, _, rfl, rfl, rfl, ?_⟩
          refine ⟨_, rfl, _, rfl, rfl, _, rfl, iteB (fun z => ?_) (fun z => ?_)⟩
          · refine ⟨_, rfl, _, rfl, by show 2 ≤ sizeLine; decide, fun c1 n1 => ⟨_, rfl, D, _, rfl, DGet.t (k := kyP t.2) (Same.put n1 _ _ (s4 _ _ (s3 _ _ e2))) upd_same, ?_⟩⟩
            have sA := s4.trans (Same.put (o := .tup [.int (t.2.1 : Int), .int (t.2.2 : Int)]) n1)
            have eA := Same.put (o := .tup [.int (t.2.1 : Int), .int (t.2.2 : Int)]) n1 _ _ eL
            have pA := pL.same (Same.put (o := .tup [.int (t.2.1 : Int), .int (t.2.2 : Int)]) n1)
            generalize (upd H' c1 (.tup [.int (t.2.1 : Int), .int (t.2.2 : Int)])) = H4 at sA eA pA ⊢
            have hz : (valV kv2 (kyP t.2)).isSome = wars R n t.2.1 t.2.2 := h2 _ _ t1 t2
            have ne : t.2.1 ≠ t.2.2 := fun q => by
              rw [q] at z
              simp at z
            refine ⟨_, rfl, iteB (fun z2 => ?_) (fun z2 => ?_)⟩
            · rw [hz] at z2
              refine ⟨_, rfl, _, rfl, by show 2 ≤ sizeLine; decide, fun c2 n2 => ?_⟩
              have yes : keepB (wars R n) t.2 = true := by
                unfold keepB
                rw [z2, decide_eq_true ne]
                rfl
              refine ⟨rfs ls, Same.put n2 _ _ eA, by rw [rfs_len]; exact small_len (by omega), Same.but (fun b u e => Same.put n2 _ _ (sA b u e)) nL, ls ++ [(c2, t.2)], ?_, ?_, ?_, ?_⟩
              · rw [upd_same, rfs_snoc]
              · refine Pts.snoc (fun u m => ?_) ?_
                · have nu : u.1 ≠ L := fun q => by
                    have := pA u m
                    rw [q, eA] at this
                    cases this
                  rw [upd_ne nu]
                  exact Same.put n2 _ _ (pA u m)
                · have nc : c2 ≠ L := fun q => by
                    rw [q, eA] at n2
                    cases n2
                  show upd _ L _ c2 = _
                  rw [upd_ne nc, upd_same]
              · rw [List.map_append, take_more i0, List.filter_append, qL, List.filter_cons, yes]
                simp
              · rw [List.length_append]
                show ls.length + 1 ≤ i + 1
                omega
            · rw [hz] at z2
              exact ⟨sA, ls, eA, pA, no (by unfold keepB; rw [z2, Bool.and_false]), by omega⟩
          · have eq : t.2.1 = t.2.2 := by
              have := of_decide_eq_true (by simpa using z : decide ((t.2.1 : Int) = (t.2.2 : Int)) = true)
              omega
            exact ⟨s4, ls, eL, pL, no (by unfold keepB; rw [decide_eq_false (by simpa using eq)]; rfl), by omega⟩
        · rintro H4 ⟨s4, ls, eL, pL, qL, lL⟩
          refine ⟨L, _, rfl, .inl ⟨SqL.of eL, fun T nT => ?_⟩⟩
          refine k T ls _ ((s2.trans s3).trans (s4.trans (Same.put nT))) upd_same (pL.same (Same.put nT)) ?_
          rw [qL, rfs_len, lenu, List.take_length]
          rfl
end
end K6

set_option Elab.async false
set_option linter.all false
set_option maxRecDepth 100000
set_option maxHeartbeats 4000000
namespace L2
open PySem PySem.Spec PyProof.Rows
/-- o.m(e, ..), what it raises is wished for at the caller's slots -/
def tMethT (C : Addr) (m : Str) (sp : Sp) (E : St → XK) (ta : TE) (t : TA) : TE := fun σ H Q => ta σ H fun x H1 => ∃ a dx fs, x = .ref a ∧ H1 a = some (.ins C dx fs) ∧ fs.lookup m = none ∧ t σ H1 fun vs H2 => sp (x :: vs) H2 Q (E σ)
theorem pe_methT {X : Cx} {CX : CXT} {k : Nat} {f C : Addr} {fd : FuncData} {ps : List Str} {sp : Sp} {E : St → XK} {m : Str} {pos apos : Pos} {e o : Expr} {es : List Expr} {ta : TE} {t : TA} {pl : Sem Bool} (he : PE X o ta) (c : Cls X.K C) (hm : Meth X.K C m f) (F : FnOk X.prog X.w X.K X.mg X.base CX k f fd ps sp) (hr : Room k X.A) (hb : Binds X.K fd ps []) (hx : ∀ σ, PassesAt CX X σ (E σ)) (ha : PA X (e :: es) t)
    (hst : starEach (e :: es) X.env = (false, eval e X.env) :: starEach es X.env := by rfl) (hpl : (backTo pos (starEach es X.env)).any (·.1) = false := by rfl)
    (ht : eval (.Call (.Attribute o m apos) (e :: es) [] pos) X.env = (do
      let ov ← eval o X.env
      standAt apos.atName
      let (f, first) ← holding [ov] (getMethod ov m pl)
      callWith pos f first (backTo pos (starEach (e :: es) X.env)) (backToKw pos (keywordEach [] X.env))) := by rfl) :
    PE X (.Call (.Attribute o m apos) (e :: es) [] pos) (tMethT C m sp E ta t) := by
  refine ⟨fun pins s σ H Q I h => ?_⟩
  refine PySem.W.methodCall_KW (pl := pl) (thn (he.run pins s σ H _ I h) fun u s1 ⟨x, H1, I1, rx, a, dx, fs, ex, ea, l, q⟩ => ?_) ht
  subst ex
  obtain rfl : u = Value.ref a := rx
  refine getmeth_ok I1 ea c hm l ?_
  refine PySem.W.callWith_K (first := [.ref a]) (h₀ := X.base) I.ok.mod.kin hm.kp (thn (ha.run pos pins s1 σ H1 _ I1 q) fun us s2 ⟨vs, H2, I2, r, q2⟩ => ⟨I2.kIn, ?_⟩) hst hpl
  exact run_fnS (us := .ref a :: us) (vs := .ref a :: vs) F hr hb (hx σ) I2 (.cons rfl r) q2
end L2
namespace K6
open PySem L2
theorem un64x {k : Nat} {A : Around} (r : Room k A) : A.units + 64 < cLine := by
  have := r.un
  omega
theorem un65 {k : Nat} {A : Around} (r : Room k A) : A.units + 65 < cLine := by
  have := r.un
  omega
/-! ### tuples of ints as data -/
def dI (ns : List Int) : PyData := .tuple (ns.map PyData.int)
theorem eqvAll_ints : ∀ ns ms : List Int, PyData.eqvAll (ns.map PyData.int) (ms.map PyData.int) = decide (ns = ms)
  | [], [] => rfl
  | [], _ :: _ => rfl
  | _ :: _, [] => rfl
  | a :: ns, b :: ms => by
    show (PyData.eqv (.int a) (.int b) && PyData.eqvAll (ns.map PyData.int) (ms.map PyData.int)) = _
    rw [eqvAll_ints ns ms, Bool.eq_iff_iff, Bool.and_eq_true, decide_eq_true_eq, decide_eq_true_eq, List.cons.injEq]
    have e : PyData.eqv (.int a) (.int b) = (a == b) := by simp [PyData.eqv]
    rw [e, beq_iff_eq]
theorem eqv_dI (ns ms : List Int) : PyData.eqv (dI ns) (dI ms) = decide (ns = ms) := by
  unfold dI
  rw [PyData.eqv]
  exact eqvAll_ints ns ms
theorem lay_ints : ∀ ns : List Int, PyData.canLayAll0 (ns.map PyData.int) = true ∧ PyData.depthAll (ns.map PyData.int) = 0
  | [] => ⟨rfl, rfl⟩
  | a :: ns => by
    obtain ⟨h1, h2⟩ := lay_ints ns
    refine ⟨?_, ?_⟩
    · show ((PyData.int a).canLay0 && PyData.canLayAll0 (ns.map PyData.int)) = true
      rw [h1]
      rfl
    · show max (PyData.depth (.int a)) (PyData.depthAll (ns.map PyData.int)) = 0
      rw [h2]
      rfl
theorem lay_dI (ns : List Int) : (dI ns).canLay0 = true ∧ (dI ns).depth = 1 := by
  obtain ⟨h1, h2⟩ := lay_ints ns
  exact ⟨h1, by show PyData.depthAll (ns.map PyData.int) + 1 = 1; rw [h2]⟩
theorem lay_dIs : ∀ L : List (List Int), PyData.canLayAll0 (L.map dI) = true ∧ PyData.depthAll (L.map dI) ≤ 1
  | [] => ⟨rfl, Nat.zero_le _⟩
  | a :: L => by
    obtain ⟨h1, h2⟩ := lay_dIs L
    obtain ⟨h3, h4⟩ := lay_dI a
    refine ⟨?_, ?_⟩
    · show ((dI a).canLay0 && PyData.canLayAll0 (L.map dI)) = true
      rw [h1, h3]
      rfl
    · show max (dI a).depth (PyData.depthAll (L.map dI)) ≤ 1
      omega
theorem sh_dI (ns : List Int) : SeqAt.shaped (dI ns) = true := by
  obtain ⟨h1, h2⟩ := lay_dI ns
  unfold SeqAt.shaped
  rw [h1, h2]
  rfl
theorem sh_list (L : List (List Int)) : SeqAt.shaped (.list (L.map dI)) = true := by
  obtain ⟨h1, h2⟩ := lay_dIs L
  unfold SeqAt.shaped
  rw [Bool.and_eq_true, decide_eq_true_eq]
  refine ⟨h1, ?_⟩
  show PyData.depthAll (L.map dI) + 1 ≤ 64
  omega
theorem sh_tup (L : List (List Int)) : SeqAt.shaped (.tuple (L.map dI)) = true := by
  obtain ⟨h1, h2⟩ := lay_dIs L
  unfold SeqAt.shaped
  rw [Bool.and_eq_true, decide_eq_true_eq]
  refine ⟨h1, ?_⟩
  show PyData.depthAll (L.map dI) + 1 ≤ 64
  omega
theorem dp_ints {K : PySem.W.Frag} {H : Hp} : ∀ ns : List Int, DpAll K H (ns.map V.int) (ns.map PyData.int)
  | [] => .nil
  | a :: ns => .cons (.int a) (dp_ints ns)
theorem dp_tup {K : PySem.W.Frag} {H : Hp} {a : Addr} {ns : List Int} (h : SqT K H a (ns.map V.int)) : Dp K H (.ref a) (dI ns) := .tup h (dp_ints ns)
abbrev pI (p : Nat × Nat) : List Int := [(p.1 : Int), (p.2 : Int)]
theorem pI_inj {p q : Nat × Nat} (h : pI p = pI q) : p = q := by
  obtain ⟨a, b⟩ := p
  obtain ⟨c, d⟩ := q
  simp only [pI, List.cons.injEq, and_true] at h
  rw [Int.ofNat.inj h.1, Int.ofNat.inj h.2]
theorem Pts.dp {K : PySem.W.Frag} {H : Hp} : ∀ {ts : List Pt}, Pts H ts → DpAll K H (rfs ts) (((ts.map (·.2)).map pI).map dI)
  | [], _ => .nil
  | t :: ts, h => .cons (dp_tup (ns := pI t.2) (SqT.of (h t List.mem_cons_self))) (Pts.dp fun u m => h u (List.mem_cons_of_mem _ m))
theorem any_pI (p : Nat × Nat) : ∀ ps : List (Nat × Nat), ((ps.map pI).map dI).any (fun z => PyData.eqv z (dI (pI p))) = decide (p ∈ ps)
  | [] => rfl
  | q :: ps => by
    rw [List.map_cons, List.map_cons, List.any_cons, any_pI p ps, eqv_dI, Bool.eq_iff_iff, Bool.or_eq_true, decide_eq_true_eq, decide_eq_true_eq, decide_eq_true_eq, List.mem_cons]
    exact or_congr ⟨fun h => (pI_inj h).symm, fun h => by rw [h]⟩ Iff.rfl
theorem kit_lt {K : PySem.W.Frag} : PySem.W.kitAny K (.type "list") [.type "list", .type "tuple"] = some true := by
  have e : PySem.W.kitOne K (.type "list") (.type "list") = some true := kit_ty (r := true) (by decide +kernel)
  simp only [PySem.W.kitAny, e]
theorem eqvAll_pI : ∀ ps qs : List (Nat × Nat), PyData.eqvAll ((ps.map pI).map dI) ((qs.map pI).map dI) = decide (ps = qs)
  | [], [] => rfl
  | [], _ :: _ => rfl
  | _ :: _, [] => rfl
  | p :: ps, q :: qs => by
    show (PyData.eqv (dI (pI p)) (dI (pI q)) && PyData.eqvAll ((ps.map pI).map dI) ((qs.map pI).map dI)) = _
    rw [eqvAll_pI ps qs, eqv_dI, Bool.eq_iff_iff, Bool.and_eq_true, decide_eq_true_eq, decide_eq_true_eq, decide_eq_true_eq]
    constructor
    · rintro ⟨h1, h2⟩
      rw [pI_inj h1, h2]
    · intro h
      have h := List.cons.inj h
      exact ⟨by rw [h.1], h.2⟩
theorem eqv_tups (ps qs : List (Nat × Nat)) : PyData.eqv (.tuple ((ps.map pI).map dI)) (.tuple ((qs.map pI).map dI)) = decide (ps = qs) := by
  rw [PyData.eqv]
  exact eqvAll_pI ps qs
theorem eqv_lsts (ps qs : List (Nat × Nat)) : PyData.eqv (.list ((ps.map pI).map dI)) (.list ((qs.map pI).map dI)) = decide (ps = qs) := by
  rw [PyData.eqv]
  exact eqvAll_pI ps qs
def ordF (n : Nat) (T : Addr) : List (Str × V) := putF "_lower" (.ref T) (putF "size" (.int (n : Int)) [])
theorem kSL : ¬ (("size" : Str) = "_lower") := by decide +kernel
theorem ordF_size (n : Nat) (T : Addr) : (ordF n T).lookup ("size" : Str) = some (.int (n : Int)) := by
  unfold ordF
  rw [lookup_putF, if_neg kSL, lookup_putF, if_pos rfl]
theorem ordF_lower (n : Nat) (T : Addr) : (ordF n T).lookup ("_lower" : Str) = some (.ref T) := by
  unfold ordF
  rw [lookup_putF, if_pos rfl]
theorem ordF_none (n : Nat) (T : Addr) {m : Str} (h1 : ¬ m = "_lower") (h2 : ¬ m = "size") : (ordF n T).lookup m = none := by
  unfold ordF
  rw [lookup_putF, if_neg h1, lookup_putF, if_neg h2]
  rfl
structure OrT (K : PySem.W.Frag) (mg : Str → Option Value) (C : Addr) : Prop where
  bn : Bn mg
  cl : Cls K C
  nS : NoAttr K C "size"
  nL : NoAttr K C "_lower"
  ha : PySem.W.findIn K (.ref C) "__class__" = some (some (.builtin "object.__class__"))
  hn : PySem.W.specialIn K (.builtin "object.__class__") "__get__" = some (some (.builtin "getset_descriptor.__get__"))
  htk : PySem.W.takesIn K (.builtin "object.__class__") = some true
  hm : PySem.W.mroIn K C (.type "object") = some true
  self : PySem.W.kitOne K (.ref C) (.ref C) = some true
  gO : mg "Order" = some (.ref C)
  gM : ∃ t, mg "MOST_ORDERED" = some (.int 8 t)
/-- an order of n places with these pairs -/
def IsOrd (C : Addr) (H : Hp) (o : Addr) (n : Nat) (low : List (Nat × Nat)) : Prop := ∃ (dx T : Addr) (ts : List Pt), H o = some (.ins C dx (ordF n T)) ∧ H T = some (.tup (rfs ts)) ∧ Pts H ts ∧ ts.map (·.2) = low
theorem IsOrd.same {C : Addr} {H H' : Hp} {o : Addr} {n : Nat} {low : List (Nat × Nat)} (h : IsOrd C H o n low) (s : Same H H') : IsOrd C H' o n low := by
  obtain ⟨dx, T, ts, h1, h2, h3, h4⟩ := h
  exact ⟨dx, T, ts, s _ _ h1, s _ _ h2, h3.same s, h4⟩
/-- order.pairs() -/
def spPairs (C : Addr) : Sp := fun vs H Q _ => ∃ (o : Addr) (n : Nat) (low : List (Nat × Nat)), vs = [.ref o] ∧ IsOrd C H o n low ∧ ∀ (l : Addr) (ts : List Pt) (H' : Hp), Same H H' → H l = none → H' l = some (.lst (rfs ts)) → Pts H' ts → ts.map (·.2) = low → Q (.ref l) H'
structure PairsT (P : Program) (w : World) (K : PySem.W.Frag) (mg : Str → Option Value) (base : Heap) (C : Addr) : Prop where
  ex : ∃ (f : Addr) (fd : FuncData), Meth K C "pairs" f ∧ FnOk P w K mg base CX0 1 f fd ["self"] (spPairs C) ∧ Binds K fd ["self"] []
theorem IsOrd.ty {K : PySem.W.Frag} {mg : Str → Option Value} {C : Addr} {H : Hp} {o : Addr} {n : Nat} {low : List (Nat × Nat)} (T : OrT K mg C) (h : IsOrd C H o n low) : TyX K H (.ref o) (.ref C) := by
  obtain ⟨dx, L, ts, h1, _⟩ := h
  exact .base (.ins h1 T.cl T.ha T.hn T.htk T.hm)
/-- order == other -/
def EqO (C : Addr) (a : Addr) (y : V) (b : Bool) (H : Hp) : Prop := ∃ (c : Addr) (n m : Nat) (low low' : List (Nat × Nat)), y = .ref c ∧ IsOrd C H a n low ∧ IsOrd C H c m low' ∧ b = (decide (n = m) && decide (low = low'))
/-- order.below(s, t) -/
def spBelow (S C B : Addr) : Sp := fun vs H Q E => ∃ (o : Addr) (n : Nat) (low : List (Nat × Nat)) (x y : V) (k l : Kd), vs = [.ref o, x, y] ∧ IsOrd C H o n low ∧ Th S H x k ∧ Th S H y l ∧
  ((∃ s t : Nat, x = .int (s : Int) ∧ y = .int (t : Int) ∧ s < n ∧ t < n ∧ ∀ H', Same H H' → Q (.bl (decide (s = t) || decide ((s, t) ∈ low))) H') ∨
    (btw 0 ((n : Int) - 1) x = false ∧ ∀ (d : Addr) (H' : Hp), Same H H' → H' d = some (.xd [("state", x)]) → E (.ref B) (some d) H') ∨
    (btw 0 ((n : Int) - 1) x = true ∧ btw 0 ((n : Int) - 1) y = false ∧ ∀ (d : Addr) (H' : Hp), Same H H' → H' d = some (.xd [("state", y)]) → E (.ref B) (some d) H'))
section
variable {P : Program} {w : World} {K : PySem.W.Frag} {mg : Str → Option Value} {base : Heap} {C S B : Addr}
abbrev s_Order_pairs : Stmt := inClass (top 24) 2
theorem sc_Order_pairs : FnScope ["self"] ["self"] (defScope s_Order_pairs) := ⟨rfl, rfl, rfl, by decide +kernel, rfl, by decide +kernel, by decide +kernel⟩
theorem ok_Order_pairs {f : Addr} {fd : FuncData} (F : Fun K "pairs" "Order.pairs" s_Order_pairs f fd) (T : OrT K mg C) : FnOk P w K mg base CX0 1 f fd ["self"] (spPairs C) := by
  refine F.ok sc_Order_pairs (fun vs H Q E h => ?_) (fun cdv A outer s H vs Q E hr h => ?_)
  · obtain ⟨o, n, low, rfl, _⟩ := h
    rfl
  · obtain ⟨o, n, low, rfl, ⟨dx, L, ts, h1, h2, h3, h4⟩, k⟩ := h
    refine ⟨_, (pss_one (ps_ret (pe_callTy call_list_of (by rfl) T.bn.n_list (by decide +kernel) (pa_cons (pe_fld (pv 0) rfl) pa_nil)))), ?_⟩
    refine ⟨_, rfl, o, C, dx, _, _, rfl, h1, T.cl, T.nL, ordF_lower _ _, L, rfs ts, rfl, .inr (SqT.of h2), fun l nl => ?_⟩
    exact k l ts _ (Same.put nl) nl upd_same (h3.same (Same.put nl)) h4
abbrev s_Order_eq : Stmt := inClass (top 24) 4
theorem sc_Order_eq : FnScope ["self", "other"] ["self", "other"] (defScope s_Order_eq) := ⟨rfl, rfl, rfl, by decide +kernel, rfl, by decide +kernel, by decide +kernel⟩
theorem ok_Order_eq {f : Addr} {fd : FuncData} (F : Fun K "__eq__" "Order.__eq__" s_Order_eq f fd) (T : OrT K mg C) : FnOk P w K mg base CX0 1 f fd ["self", "other"] (spOwn (EqO C)) := by
  refine F.ok sc_Order_eq (fun vs H Q E h => ?_) (fun cdv A outer s H vs Q E hr h => ?_)
  · obtain ⟨a, y, b, rfl, _⟩ := h
    rfl
  · obtain ⟨a, y, b, rfl, ⟨c, n, m, low, low', rfl, ha, hc, rfl⟩, k⟩ := h
    have hu := un65 hr
    refine ⟨_, (pss_one (ps_ret (pe_and (pe_callB call_isi (by rfl) T.bn.n_isinstance (by decide +kernel) (pa_cons (pv 1) (pa_cons (pe_glob (v := .ref C) rfl T.gO rfl) pa_nil))) (pe_and (pe_cmpR op_eq (pe_fld (pv 0) rfl) (pe_fld (pv 1) rfl) (nomark _)) (pe_one (pe_cmpR (op_eqD (by exact un64x hr)) (pe_fld (pv 0) rfl) (pe_fld (pv 1) rfl) (nomark _))))))), ?_⟩
    obtain ⟨dx, L, ts, h1, h2, h3, h4⟩ := id ha
    obtain ⟨dy, L', ts', g1, g2, g3, g4⟩ := id hc
    refine ⟨_, rfl, .ref c, .ref C, _, _, true, rfl, .own C, hc.ty T, T.self, _, rfl, iteT ?_⟩
    refine ⟨_, rfl, a, C, dx, _, _, rfl, h1, T.cl, T.nS, ordF_size _ _, _, rfl, c, C, dy, _, _, rfl, g1, T.cl, T.nS, ordF_size _ _, rfl, _, rfl, iteB (fun z => ?_) (fun z => ?_)⟩
    · have z : n = m := by
        have := of_decide_eq_true z
        rw [V.int.injEq] at this
        omega
      refine ⟨_, rfl, a, C, dx, _, _, rfl, h1, T.cl, T.nL, ordF_lower _ _, _, rfl, c, C, dy, _, _, rfl, g1, T.cl, T.nL, ordF_lower _ _, _, _, .tup (SqT.of h2) (Pts.dp h3), .tup (SqT.of g2) (Pts.dp g3), sh_tup _, sh_tup _, ?_⟩
      rw [eqv_tups, h4, g4]
      rw [decide_eq_true z, Bool.true_and] at k
      exact k
    · have z : n ≠ m := fun e => by
        rw [e] at z
        simp at z
      rw [decide_eq_false z, Bool.false_and] at k
      exact k
end
end K6

set_option Elab.async false
set_option linter.all false
set_option maxRecDepth 100000
set_option maxHeartbeats 4000000
namespace K6
open PySem L2
section
variable {P : Program} {w : World} {K : PySem.W.Frag} {mg : Str → Option Value} {base : Heap} {C S B : Addr}
abbrev s_below : Stmt := inClass (top 24) 1
theorem sc_below : FnScope ["self", "s", "t"] ["self", "s", "t"] (defScope s_below) := ⟨rfl, rfl, rfl, by decide +kernel, rfl, by decide +kernel, by decide +kernel⟩
theorem btw_int {n : Nat} {x : V} (h : btw 0 ((n : Int) - 1) x = true) : ∃ s : Nat, x = .int (s : Int) ∧ s < n := by
  cases x with
  | int i =>
    have h : (decide (0 ≤ i) && decide (i ≤ (n : Int) - 1)) = true := h
    rw [Bool.and_eq_true, decide_eq_true_eq, decide_eq_true_eq] at h
    exact ⟨i.toNat, by rw [Int.toNat_of_nonneg h.1], by omega⟩
  | _ => cases h
theorem int_btw {n s : Nat} (h : s < n) : btw 0 ((n : Int) - 1) (.int (s : Int)) = true := by
  show (decide (0 ≤ (s : Int)) && decide ((s : Int) ≤ (n : Int) - 1)) = true
  rw [Bool.and_eq_true, decide_eq_true_eq, decide_eq_true_eq]
  omega
theorem ok_below {f : Addr} {fd : FuncData} (F : Fun K "below" "Order.below" s_below f fd) (T : OrT K mg C) (c : CalX P w K mg base 5 "check_two_states" ["size", "s", "t"] (spCheck2 S B)) : FnOk P w K mg base (L2.CX P w) 6 f fd ["self", "s", "t"] (spBelow S C B) := by
  obtain ⟨g, gd, mg1, kp, G, bG⟩ := c.ex
  refine F.okX sc_below (fun vs H Q E h => ?_) (fun cdv A outer s H vs Q E hr h => ?_)
  · obtain ⟨o, n, low, x, y, k, l, rfl, _⟩ := h
    rfl
  · obtain ⟨o, n, low, x, y, kx, ky, rfl, ho, hx, hy, h⟩ := h
    have hu := un65 hr
    refine ⟨_, (pss_cons (ps_expr (pe_callS G (hr.mono (by decide)) rfl mg1 kp bG (fun σ => passAt (W := fun cls d _ H => E cls d H) (takes_of rfl rfl rfl rfl) σ) (pa_cons (pe_fld (pv 0) rfl) (pa_cons (pv 1) (pa_cons (pv 2) pa_nil)))))
      (pss_one (ps_ret (pe_or (pe_cmpR op_eq (pv 1) (pv 2) (nomark _)) (pe_one (pe_cmpR (show OpR _ _ (rInDT K) from op_inDT (by exact hu)) (pe_tup (pa_cons (pv 1) (pa_cons (pv 2) pa_nil))) (pe_fld (pv 0) rfl) (by rfl))))))), ?_⟩
    obtain ⟨dx, L, ts, h1, h2, h3, h4⟩ := id ho
    refine ⟨_, rfl, o, C, dx, _, _, rfl, h1, T.cl, T.nS, ordF_size _ _, _, rfl, _, rfl, (n : Int), x, y, kx, ky, rfl, hx, hy, ?_⟩
    rcases h with ⟨u, v, rfl, rfl, hu1, hv1, k⟩ | ⟨e1, k⟩ | ⟨e1, e2, k⟩
    · refine .inl ⟨int_btw hu1, int_btw hv1, _, rfl, _, rfl, rfl, _, rfl, iteB (fun z => ?_) (fun z => ?_)⟩
      · have e : u = v := by
          have := of_decide_eq_true z
          rw [V.int.injEq] at this
          omega
        have k := k H (Same.refl H)
        rw [decide_eq_true e, Bool.true_or] at k
        exact k
      · refine ⟨_, rfl, _, rfl, by show 2 ≤ sizeLine; decide, fun c nc => ?_⟩
        have sC := Same.put (o := .tup [.int (u : Int), .int (v : Int)]) nc
        have eC : (upd H c (.tup [.int (u : Int), .int (v : Int)])) c = some (.tup ((pI (u, v)).map V.int)) := upd_same
        generalize (upd H c (.tup [.int (u : Int), .int (v : Int)])) = H4 at sC eC ⊢
        refine ⟨_, rfl, o, C, dx, _, _, rfl, sC _ _ h1, T.cl, T.nL, ordF_lower _ _, dI (pI (u, v)), _, dp_tup (SqT.of eC), .tup (SqT.of (sC _ _ h2)) (Pts.dp (h3.same sC)), sh_dI _, sh_tup _, ?_⟩
        rw [any_pI, h4]
        have ne : u ≠ v := fun e => by
          rw [e] at z
          simp at z
        have k := k H4 sC
        rw [decide_eq_false ne, Bool.false_or] at k
        exact k
    · exact .inr (.inl ⟨e1, k⟩)
    · exact .inr (.inr ⟨e1, e2, k⟩)
end
/-! ### Order(size, pairs) -/
def Anti (n : Nat) (R : Rl) : Prop := ∀ s t, R s t = true → R t s = true → s = t
def GoodP (H : Hp) (sz ps : V) (n : Nat) (l : Addr) (ts : List Pt) : Prop := sz = .int (n : Int) ∧ ps = .ref l ∧ 1 ≤ n ∧ n ≤ 8 ∧ Sq H l (rfs ts) ∧ Pts H ts ∧ (∀ t ∈ ts, t.2.1 < n ∧ t.2.2 < n) ∧ Anti n (wars (memR (ts.map (·.2))) n)
def Bad (H : Hp) (sz ps : V) : Prop := ∀ n l ts, ¬ GoodP H sz ps n l ts
/-- what stands in it are things, and in these, where they are pairs -/
def ItTh (S : Addr) (H : Hp) (ps : V) : Prop := ∀ a xs, ps = .ref a → Sq H a xs → xs.length ≤ 200 ∧ ∀ y ∈ xs, (∃ k, Th S H y k) ∧ PairTh S H y
def spOI (S C B : Addr) : Sp := fun vs H Q E => ∃ (x dx : Addr) (sz ps : V) (k l : Kd), vs = [.ref x, sz, ps] ∧ H x = some (.ins C dx []) ∧ Th S H sz k ∧ Th S H ps l ∧ ItTh S H ps ∧
  (Bad H sz ps → ∀ H', Same H H' → E (.ref B) none H') ∧
  ∀ n l ts, GoodP H sz ps n l ts → ∀ (T : Addr) (us : List Pt) (H2 : Hp), Same H H2 → H2 T = some (.tup (rfs us)) → Pts H2 us → us.map (·.2) = lowL n (wars (memR (ts.map (·.2))) n) → Q .non (upd H2 x (.ins C dx (ordF n T)))
theorem Sq.uniq {H : Hp} {a : Addr} {xs ys : List V} (h : Sq H a xs) (g : Sq H a ys) : xs = ys := by
  rcases h with h | h <;> rcases g with g | g <;> rw [h] at g <;> simp at g <;> exact g
theorem Th.seq {S : Addr} {H : Hp} {a : Addr} {k : Kd} (h : Th S H (.ref a) k) (he : (k.isList || k.isTup) = true) : ∃ xs, Sq H a xs := by
  cases h with
  | lst e => exact ⟨_, .inl e⟩
  | tup e => exact ⟨_, .inr e⟩
  | _ => cases he
theorem Th.noseq {S : Addr} {H : Hp} {a : Addr} {xs : List V} {k : Kd} (h : Th S H (.ref a) k) (he : (k.isList || k.isTup) = false) (g : Sq H a xs) : False := by
  cases h with
  | lst e => cases he
  | tup e => cases he
  | dK e => rcases g with g | g <;> rw [e] at g <;> cases g
  | dT e => rcases g with g | g <;> rw [e] at g <;> cases g
  | shr e => rcases g with g | g <;> rw [e] at g <;> cases g
theorem Th.isref {S : Addr} {H : Hp} {x : V} {k : Kd} (h : Th S H x k) (e : (k.isList || k.isTup) = true) : ∃ a, x = .ref a := by
  cases h <;> first | exact ⟨_, rfl⟩ | cases e
theorem ixPair_same {S : Addr} {H H' : Hp} {n : Int} {x : V} {k : Kd} (h : Th S H x k) (s : Same H H') : ixPair H' n x = ixPair H n x := by
  cases h with
  | lst e => simp only [ixPair, e, s _ _ e]
  | tup e => simp only [ixPair, e, s _ _ e]
  | dK e => simp only [ixPair, e, s _ _ e]
  | dT e => simp only [ixPair, e, s _ _ e]
  | shr e => simp only [ixPair, e, s _ _ e]
  | _ => rfl
theorem PairTh.same {S : Addr} {H H' : Hp} {x : V} {k : Kd} (p : PairTh S H x) (h : Th S H x k) (s : Same H H') : PairTh S H' x := by
  intro a y z ex e
  subst ex
  have up : ∀ {o : HO}, H a = some o → o = .tup [y, z] := fun {o} q => by
    have := s _ _ q
    rw [this] at e
    exact Option.some.inj e
  have fin : H a = some (.tup [y, z]) → (∃ k, Th S H' y k) ∧ ∃ l, Th S H' z l := fun q => by
    obtain ⟨⟨k, h1⟩, l, h2⟩ := p a y z rfl q
    exact ⟨⟨k, h1.same s⟩, l, h2.same s⟩
  cases h with
  | tup q => exact fin (by rw [q, up q])
  | lst q => exact absurd (up q) (by intro z; cases z)
  | dK q => exact absurd (up q) (by intro z; cases z)
  | dT q => exact absurd (up q) (by intro z; cases z)
  | shr q => exact absurd (up q) (by intro z; cases z)
theorem ix_pairs {H : Hp} {n : Nat} : ∀ {xs : List V}, (∀ y ∈ xs, ixPair H (n : Int) y = true) → ∃ ts : List Pt, xs = rfs ts ∧ Pts H ts ∧ ∀ t ∈ ts, t.2.1 < n ∧ t.2.2 < n
  | [], _ => ⟨[], rfl, fun _ m => (by cases m), fun _ m => (by cases m)⟩
  | y :: xs, h => by
    obtain ⟨ts, rfl, h1, h2⟩ := ix_pairs (xs := xs) fun z m => h z (List.mem_cons_of_mem _ m)
    have hy := h y List.mem_cons_self
    cases y with
    | ref a =>
      cases e : H a with
      | none => simp only [ixPair, e] at hy; cases hy
      | some o =>
        cases o with
        | tup zs =>
          match zs, e with
          | [p, q], e =>
            simp only [ixPair, e] at hy
            rw [Bool.and_eq_true] at hy
            obtain ⟨s, rfl, hs⟩ := btw_int hy.1
            obtain ⟨t, rfl, ht⟩ := btw_int hy.2
            refine ⟨(a, s, t) :: ts, rfl, fun u m => ?_, fun u m => ?_⟩
            · rcases List.mem_cons.mp m with rfl | m
              · exact e
              · exact h1 u m
            · rcases List.mem_cons.mp m with rfl | m
              · exact ⟨hs, ht⟩
              · exact h2 u m
          | [], e => simp only [ixPair, e] at hy; cases hy
          | [_], e => simp only [ixPair, e] at hy; cases hy
          | _ :: _ :: _ :: _, e => simp only [ixPair, e] at hy; cases hy
        | _ => simp only [ixPair, e] at hy; cases hy
    | _ => cases hy
theorem pairs_ix {H : Hp} {n : Nat} {ts : List Pt} (p : Pts H ts) (h : ∀ t ∈ ts, t.2.1 < n ∧ t.2.2 < n) : ∀ y ∈ rfs ts, ixPair H (n : Int) y = true := by
  intro y hy
  obtain ⟨t, m, rfl⟩ := List.mem_map.mp hy
  simp only [ixPair, p t m]
  rw [Bool.and_eq_true]
  exact ⟨int_btw (h t m).1, int_btw (h t m).2⟩
def swp (p : Nat × Nat) : Nat × Nat := (p.2, p.1)
theorem wars_bound {n : Nat} {ps : List (Nat × Nat)} (h : ∀ p ∈ ps, p.1 < n ∧ p.2 < n) (k : Nat) : ∀ s t, wars (memR ps) k s t = true → s < n ∧ t < n :=
  wars_keep (fun s t => s < n ∧ t < n) (fun _ _ _ a b => ⟨a.1, b.2⟩) (fun s t q => h _ (of_decide_eq_true q)) k
theorem anti_iff {n : Nat} {ps : List (Nat × Nat)} (h : ∀ p ∈ ps, p.1 < n ∧ p.2 < n) : Anti n (wars (memR ps) n) ↔ (lowL n (wars (memR ps) n)).any (fun p => decide (swp p ∈ lowL n (wars (memR ps) n))) = false := by
  rw [List.any_eq_false]
  constructor
  · intro an p hp z
    obtain ⟨_, _, h3, h4⟩ := mem_low.mp hp
    obtain ⟨_, _, _, h5⟩ := mem_low.mp (of_decide_eq_true z)
    exact h3 (an _ _ h4 h5)
  · intro q s t h1 h2
    obtain ⟨hs, ht⟩ := wars_bound h n s t h1
    by_cases e : s = t
    · exact e
    · exact absurd (decide_eq_true (mem_low.mpr ⟨ht, hs, fun z => e z.symm, h2⟩)) (q (s, t) (mem_low.mpr ⟨hs, ht, e, h1⟩))
theorem prV_inj {p q : Nat × Nat} (h : prV p = prV q) : p = q := by
  obtain ⟨a, b⟩ := p
  obtain ⟨c, d⟩ := q
  simp only [prV, List.cons.injEq, V.int.injEq, and_true] at h
  rw [Int.ofNat.inj h.1, Int.ofNat.inj h.2]
theorem pts_eq {H : Hp} : ∀ {ts us : List Pt}, Pts H ts → Pts H us → rfs ts = rfs us → ts.map (·.2) = us.map (·.2)
  | [], [], _, _, _ => rfl
  | [], _ :: _, _, _, h => by cases h
  | _ :: _, [], _, _, h => by cases h
  | t :: ts, u :: us, h1, h2, h => by
    have h := List.cons.inj h
    have e1 := h1 t List.mem_cons_self
    have e2 := h2 u List.mem_cons_self
    rw [V.ref.inj h.1, e2] at e1
    have e3 := prV_inj (HO.tup.inj (Option.some.inj e1))
    rw [List.map_cons, List.map_cons, e3, pts_eq (fun v m => h1 v (List.mem_cons_of_mem _ m)) (fun v m => h2 v (List.mem_cons_of_mem _ m)) h.2]
theorem kit_any {K : PySem.W.Frag} {t : Value} {a b : Bool} (h1 : PySem.W.kitOne K t (.type "list") = some a) (h2 : PySem.W.kitOne K t (.type "tuple") = some b) : PySem.W.kitAny K t [.type "list", .type "tuple"] = some (a || b) := by
  cases a <;> cases b <;> simp [PySem.W.kitAny, h1, h2]
end K6

set_option Elab.async false
set_option linter.all false
set_option maxRecDepth 100000
set_option maxHeartbeats 4000000
namespace K6
open PySem L2
section
variable {P : Program} {w : World} {K : PySem.W.Frag} {mg : Str → Option Value} {base : Heap} {C S B : Addr}
abbrev s_OI : Stmt := inClass (top 24) 0
theorem sc_OI : FnScope ["self", "size", "pairs", "lower", "s", "t", "pair"] ["self", "size", "pairs"] (defScope s_OI) := ⟨rfl, rfl, rfl, by decide +kernel, rfl, by decide +kernel, by decide +kernel⟩
theorem ok_OI {f : Addr} {fd : FuncData} (F : Fun K "__init__" "Order.__init__" s_OI f fd) (T : OrT K mg C) (I : ShI K S) (N : BoT P w K mg base B) (c_is_between : Cal P w K mg base 2 "is_between" ["least", "most", "thing"] (spBetween S)) (c_is_index_pair : Cal P w K mg base 4 "is_index_pair" ["many", "thing"] (spIxPair S))
    (c_linked : Cal P w K mg base 2 "linked" ["size", "pairs"] (spLinked K)) : FnOk P w K mg base (L2.CX P w) 5 f fd ["self", "size", "pairs"] (spOI S C B) := by
  obtain ⟨tM, gM⟩ := T.gM
  obtain ⟨fS, fdS, iS, tS, FS, bS⟩ := id N.made
  refine F.okX sc_OI (fun vs H Q E h => ?_) (fun cdv A outer s H vs Q E hr h => ?_)
  · obtain ⟨x, dx, sz, ps, k, l, rfl, _⟩ := h
    rfl
  · obtain ⟨x, dx, sz, ps, kz, kp, rfl, hx, hz, hp, it, kb, kg⟩ := h
    have hu := un65 hr
    refine ⟨_, (pss_cons (ps_if (PW.pt (pw_or (pt_not (pt_val (pe_cal c_is_between (hr.mono (by decide)) rfl (pa_cons pe_int (pa_cons (pe_glob (v := .int 8) rfl gM ⟨_, rfl⟩) (pa_cons (pv 1) pa_nil)))))) (pw_or1 (pt_not (pt_val (pe_callB call_isiT (by rfl) T.bn.n_isinstance (by decide +kernel) (pa_cons (pv 2) (pa_cons (pe_tup (pa_cons (pe_bltn (v := .ty "list") rfl T.bn.n_list (by decide +kernel) rfl) (pa_cons (pe_bltn (v := .ty "tuple") rfl T.bn.n_tuple (by decide +kernel) rfl) pa_nil))) pa_nil))))))))
        (pss_one (ps_raise (W := fun cls d _ H => E cls d H) rfl (takes_of rfl rfl rfl rfl) (pmk_bare N.O iS tS FS (hr.mono (by decide)) bS pass0 rfl N.gB)))
        pss_nil)
      (pss_cons (ps_if (pt_not (pt_val (pe_callB (cr_all rfl) (by rfl) T.bn.n_all PyProof.Rows.boot_all (pa_cons (pe_lc (own := [("pair", 6)]) rfl sc_OI.nd (pi_sq (pv 2)) (blkOk_by (N := ["self", "size", "pairs", "lower", "s", "t", "pair"]) (sc := defScope s_OI) (by decide +kernel)) (fun _ _ _ _ _ => (pg_name (i := 6) sc_OI.nd rfl (Or.inl rfl))) (fun _ _ _ _ _ => pts_nil) (fun _ _ _ _ _ => (pe_cal c_is_index_pair (hr.mono (by decide)) rfl (pa_cons (pv 1) (pa_cons (pv 6) pa_nil))))) pa_nil))))
        (pss_one (ps_raise (W := fun cls d _ H => E cls d H) rfl (takes_of rfl rfl rfl rfl) (pmk_bare N.O iS tS FS (hr.mono (by decide)) bS pass0 rfl N.gB)))
        pss_nil)
      (pss_cons (ps_set (i := 3) sc_OI.nd rfl (Or.inr rfl) (pe_cal c_linked (hr.mono (by decide)) rfl (pa_cons (pv 1) (pa_cons (pv 2) pa_nil))))
      (pss_cons (ps_if (pt_val (pe_callB (cr_any rfl) (by rfl) T.bn.n_any PyProof.Rows.boot_any (pa_cons (pe_lc (own := [("s", 4), ("t", 5)]) (g := gTup K 2 (gCons (gName 4) (gCons (gName 5) gNil))) rfl sc_OI.nd (pi_tup (pv 3)) (blkOk_by (N := ["self", "size", "pairs", "lower", "s", "t", "pair"]) (sc := defScope s_OI) (by decide +kernel)) (fun _ _ _ _ _ => (pg_tup (by rfl) (pgs_cons (pg_name (i := 4) sc_OI.nd rfl (Or.inl rfl)) (pgs_cons (pg_name (i := 5) sc_OI.nd rfl (Or.inl rfl)) pgs_nil)))) (fun _ _ _ _ _ => pts_nil) (fun _ _ _ _ _ => (pe_cmpR (show OpR _ _ (rInDT K) from op_inDT (by exact hu)) (pe_tup (pa_cons (pv 5) (pa_cons (pv 4) pa_nil))) (pv 3) (by rfl)))) pa_nil)))
        (pss_one (ps_raise (W := fun cls d _ H => E cls d H) rfl (takes_of rfl rfl rfl rfl) (pmk_bare N.O iS tS FS (hr.mono (by decide)) bS pass0 rfl N.gB)))
        pss_nil)
      (pss_cons (ps_fld (pv 0) (pv 1) rfl)
      (pss_one (ps_fld (pv 0) (pv 3) rfl))))))), ?_⟩
    refine ⟨_, rfl, 1, 8, sz, kz, rfl, hz, _, rfl, ?_⟩
    cases hb : btw 1 8 sz with
    | false =>
      refine iteT (bo_raise (σ := []) N fun H' s1 => kb (fun n l ts g => ?_) H' s1)
      obtain ⟨rfl, _, g1, g8, _⟩ := g
      have : (decide (1 ≤ (n : Int)) && decide ((n : Int) ≤ 8)) = false := hb
      rw [decide_eq_true (by omega : (1 : Int) ≤ n), decide_eq_true (by omega : (n : Int) ≤ 8)] at this
      cases this
    | true =>
      obtain ⟨n, rfl, n1, n8⟩ : ∃ n : Nat, sz = .int (n : Int) ∧ 1 ≤ n ∧ n ≤ 8 := by
        cases sz with
        | int i =>
          have hb : (decide (1 ≤ i) && decide (i ≤ 8)) = true := hb
          rw [Bool.and_eq_true, decide_eq_true_eq, decide_eq_true_eq] at hb
          exact ⟨i.toNat, by rw [Int.toNat_of_nonneg (by omega)], by omega, by omega⟩
        | _ => cases hb
      refine ⟨_, rfl, by show 2 ≤ sizeLine; decide, fun tp ntp => ?_⟩
      have sP := Same.put (o := .tup [.ty "list", .ty "tuple"]) ntp
      obtain ⟨ty, hty, _, _, k3, k4, _⟩ := (hp.same sP).is I
      refine ⟨ps, tp, _, _, _, _, rfl, upd_same, .cons (.ty _) (.cons (.ty _) .nil), hty, kit_any k3 k4, _, rfl, ?_⟩
      generalize (upd H tp (.tup [.ty "list", .ty "tuple"])) = H0 at sP hty ⊢
      cases hs : (kp.isList || kp.isTup) with
      | false =>
        refine iteT (bo_raise (σ := []) N fun H' s1 => kb (fun n l ts g => ?_) H' (sP.trans s1))
        obtain ⟨_, rfl, _, _, g5, _⟩ := g
        exact hp.noseq hs g5
      | true =>
        refine iteF ?_
        obtain ⟨l, rfl⟩ := hp.isref hs
        obtain ⟨xs, hl⟩ := hp.seq hs
        obtain ⟨lx, items⟩ := it l xs rfl hl
        -- all are pairs of places
        refine it_sq (i := 2) rfl (hl.same (sP l)) fun J j G nG => ?_
        refine lc_sq j (fun i H' => Same H0 H' ∧ H' G = some (.lst (((xs.take i).map (ixPair H (n : Int))).map V.bl))) ⟨Same.put nG, upd_same⟩ (fun i H' _ h o e => h.1 _ _ e) ?_ ?_
        · rintro i y H' hy ⟨s1, eG⟩
          have hm := List.mem_of_getElem? hy
          have il : i < 200 := by
            have := (List.getElem?_eq_some_iff.mp hy).1
            omega
          obtain ⟨⟨ky, hky⟩, hpt⟩ := items y hm
          refine ⟨rfl, yes_of ?_⟩
          refine ⟨_, rfl, _, rfl, n, y, ky, rfl, hky.same (sP.trans s1), hpt.same hky (sP.trans s1), _, eG, ?_, Same.but (fun b u e => s1 _ _ e) nG, ?_⟩
          · rw [List.length_map, List.length_map, List.length_take]
            exact small_len (by omega)
          · rw [upd_same, take_more hy, List.map_append, List.map_append, ixPair_same hky (sP.trans s1)]
            rfl
        rintro H1 ⟨s1, eG⟩
        rw [List.take_length] at eG
        refine ⟨G, _, rfl, SqL.of eG, _, rfl, ?_⟩
        have s01 := sP.trans s1
        cases ha : ((xs.map (ixPair H (n : Int))).all id) with
        | false =>
          refine iteT (bo_raise (σ := []) N fun H' s2 => kb (fun m l' ts g => ?_) H' (s01.trans s2))
          obtain ⟨e1, e2, _, _, g5, g6, g7, _⟩ := g
          obtain rfl : n = m := by
            rw [V.int.injEq] at e1
            omega
          cases e2
          obtain rfl := Sq.uniq hl g5
          have : ((rfs ts).map (ixPair H (n : Int))).all id = true := by
            rw [List.all_eq_true]
            intro b hb
            obtain ⟨y, hy, rfl⟩ := List.mem_map.mp hb
            exact pairs_ix g6 g7 y hy
          rw [this] at ha
          cases ha
        | true =>
          refine iteF ?_
          have hall : ∀ y ∈ xs, ixPair H (n : Int) y = true := fun y hy => List.all_eq_true.mp ha _ (List.mem_map_of_mem hy)
          obtain ⟨ts, rfl, pt, hlt⟩ := ix_pairs hall
          rw [rfs_len] at lx
          have hltp : ∀ p ∈ ts.map (·.2), p.1 < n ∧ p.2 < n := fun p hp => by
            obtain ⟨t, m, rfl⟩ := List.mem_map.mp hp
            exact hlt t m
          refine ⟨_, rfl, _, rfl, n, l, ts, rfl, n8, hl.same (s01 l), pt.same s01, lx, fun L us H2 s2 eL pL qL => ?_⟩
          have s02 := s01.trans s2
          have lus : us.length ≤ 64 := by
            have := congrArg List.length qL
            rw [List.length_map] at this
            have h1 := List.length_filter_le (keepB (wars (memR (ts.map (·.2))) n)) (prs n)
            have h2 := prs_len n n8
            unfold lowL at this
            omega
          -- none the other way about
          refine ⟨_, rfl, L, rfl, ⟨_, SqT.of eL⟩, fun D nD => ?_⟩
          refine lc_tup (K := K) (a := L) (xs := rfs us) (fun i H' => Same H2 H' ∧ H' D = some (.lst ((((us.map (·.2)).take i).map (fun p => decide (swp p ∈ us.map (·.2)))).map V.bl))) ⟨Same.put nD, upd_same⟩ (fun i H' _ h => SqT.of (h.1 _ _ eL)) ?_ ?_
          · rintro i y H' hy ⟨s3, eD⟩
            obtain ⟨t, ht, hm, rfl⟩ := rfs_at hy
            have i0 : (us.map (·.2))[i]? = some t.2 := by rw [List.getElem?_map, ht]; rfl
            have il : i < 64 := by
              have := (List.getElem?_eq_some_iff.mp ht).1
              omega
            refine ⟨t.1, prV t.2, rfl, SqT.of (s3 _ _ (pL t hm)), rfl, _, _, rfl, _, _, rfl, rfl, rfl, yes_of ?_⟩
            refine ⟨_, rfl, _, rfl, by show 2 ≤ sizeLine; decide, fun c nc => ?_⟩
            have sC := s3.trans (Same.put (o := .tup [.int (t.2.2 : Int), .int (t.2.1 : Int)]) nc)
            have eC : (upd H' c (.tup [.int (t.2.2 : Int), .int (t.2.1 : Int)])) c = some (.tup ((pI (t.2.2, t.2.1)).map V.int)) := upd_same
            have eD2 := Same.put (o := .tup [.int (t.2.2 : Int), .int (t.2.1 : Int)]) nc _ _ eD
            generalize (upd H' c (.tup [.int (t.2.2 : Int), .int (t.2.1 : Int)])) = H4 at sC eC eD2 ⊢
            refine ⟨_, rfl, dI (pI (t.2.2, t.2.1)), _, dp_tup (SqT.of eC), .tup (SqT.of (sC _ _ eL)) (Pts.dp (pL.same sC)), sh_dI _, sh_tup _, ?_⟩
            show ∃ acc, _ ∧ _ ∧ _
            rw [any_pI]
            refine ⟨_, eD2, ?_, Same.but (fun b u e => sC _ _ e) nD, ?_⟩
            · rw [List.length_map, List.length_map, List.length_take, List.length_map]
              exact small_len (by omega)
            · rw [upd_same, take_more i0, List.map_append, List.map_append]
              rfl
          rintro H3 ⟨s3, eD⟩
          rw [show (rfs us).length = (us.map (·.2)).length by rw [rfs_len, List.length_map], List.take_length, qL] at eD
          refine ⟨D, _, rfl, SqL.of eD, _, rfl, ?_⟩
          have s03 := s02.trans s3
          cases hany : (((lowL n (wars (memR (ts.map (·.2))) n)).map (fun p => decide (swp p ∈ lowL n (wars (memR (ts.map (·.2))) n)))).any id) with
          | true =>
            refine iteT (bo_raise (σ := []) N fun H' s4 => kb (fun m l' ts' g => ?_) H' (s03.trans s4))
            obtain ⟨e1, e2, _, _, g5, g6, g7, g8⟩ := g
            obtain rfl : n = m := by
              rw [V.int.injEq] at e1
              omega
            cases e2
            have e3 := Sq.uniq hl g5
            have e4 : ts.map (·.2) = ts'.map (·.2) := pts_eq pt g6 e3
            rw [← e4] at g8
            have := (anti_iff hltp).mp g8
            rw [List.any_map] at hany
            have h2 : (lowL n (wars (memR (ts.map (·.2))) n)).any (fun p => decide (swp p ∈ lowL n (wars (memR (ts.map (·.2))) n))) = true := hany
            rw [this] at h2
            cases h2
          | false =>
            have anti : Anti n (wars (memR (ts.map (·.2))) n) := (anti_iff hltp).mpr (by
              rw [List.any_map] at hany
              exact hany)
            refine iteF ?_
            refine ⟨_, rfl, _, rfl, x, C, dx, [], rfl, s03 _ _ hx, T.cl, T.nS, by show 0 < 1000; decide, ?_⟩
            refine ⟨_, rfl, _, rfl, x, C, dx, _, rfl, upd_same, T.cl, T.nL, by show 1 < 1000; decide, ?_⟩
            rw [upd_upd]
            exact kg n l ts ⟨rfl, rfl, n1, n8, hl, pt, hlt, anti⟩ L us H3 s03 (s3 _ _ eL) (pL.same s3) qL
end
end K6

set_option Elab.async false
set_option linter.all false
set_option maxRecDepth 100000
set_option maxHeartbeats 4000000
namespace K6
open PySem L2
theorem passX {X : Cx} : Passes (L2.CX X.prog X.w) X E0 := fun _ _ _ _ _ _ _ ⟨_, _, _, _, _, _, _, _, _, _, _, _, h⟩ => h.elim
/-! ### Order(size, pairs), made -/
structure MkO (P : Program) (w : World) (K : PySem.W.Frag) (mg : Str → Option Value) (base : Heap) (S C B : Addr) : Prop where
  ex : ∃ (f : Addr) (fd : FuncData), Mk K C f ∧ FnOk P w K mg base (L2.CX P w) 5 f fd ["self", "size", "pairs"] (spOI S C B) ∧ Binds K fd ["self", "size", "pairs"] []
  gO : mg "Order" = some (.ref C)
section
variable {X : Cx} {S C B : Addr} {p pos : Pos} {e : Expr} {es : List Expr} {t : TA}
theorem pe_ord (m : MkO X.prog X.w X.K X.mg X.base S C B) (hr : Room 6 X.A) (hg : Gl X "Order") (ha : PA X (e :: es) t)
    (he : starEach (e :: es) X.env = (false, eval e X.env) :: starEach es X.env := by rfl) (hpl : (backTo pos (starEach es X.env)).any (·.1) = false := by rfl) :
    PE X (.Call (.Name "Order" p) (e :: es) [] pos) (tMake C (spOI S C B) [] E0 t) := by
  obtain ⟨f, fd, M, F, b0⟩ := m.ex
  exact pe_make M F hr hg m.gO b0 .nil passX ha (by decide) he hpl
theorem pe_ordS {W : WX} (tk : Takes X W) (m : MkO X.prog X.w X.K X.mg X.base S C B) (hr : Room 6 X.A) (hg : Gl X "Order") (ha : PA X (e :: es) t)
    (he : starEach (e :: es) X.env = (false, eval e X.env) :: starEach es X.env := by rfl) (hpl : (backTo pos (starEach es X.env)).any (·.1) = false := by rfl) :
    PE X (.Call (.Name "Order" p) (e :: es) [] pos) (tMakeS C (spOI S C B) [] (WE W) t) := by
  obtain ⟨f, fd, M, F, b0⟩ := m.ex
  exact pe_makeS M F hr hg m.gO b0 .nil (fun σ => passAt tk σ) ha (by decide) he hpl
end
theorem GoodP.up {H H' : Hp} {sz ps : V} {n : Nat} {l : Addr} {ts : List Pt} (g : GoodP H sz ps n l ts) (s : Same H H') : GoodP H' sz ps n l ts := by
  obtain ⟨h1, h2, h3, h4, h5, h6, h7⟩ := g
  exact ⟨h1, h2, h3, h4, h5.same (s l), h6.same s, h7⟩
theorem Th.back {S : Addr} {H H' : Hp} {a : Addr} {k : Kd} {o : HO} (h : Th S H (.ref a) k) (s : Same H H') (e : H' a = some o) : H a = some o := by
  cases h with
  | lst q => rw [s _ _ q] at e; rw [q, e]
  | tup q => rw [s _ _ q] at e; rw [q, e]
  | dK q => rw [s _ _ q] at e; rw [q, e]
  | dT q => rw [s _ _ q] at e; rw [q, e]
  | shr q => rw [s _ _ q] at e; rw [q, e]
theorem GoodP.back {S : Addr} {H H' : Hp} {sz ps : V} {k : Kd} {n : Nat} {l : Addr} {ts : List Pt} (hp : Th S H ps k) (it : ItTh S H ps) (s : Same H H') (g : GoodP H' sz ps n l ts) : GoodP H sz ps n l ts := by
  obtain ⟨h1, rfl, h3, h4, h5, h6, h7⟩ := g
  have h5' : Sq H l (rfs ts) := h5.elim (fun e => .inl (hp.back s e)) fun e => .inr (hp.back s e)
  refine ⟨h1, rfl, h3, h4, h5', fun t m => ?_, h7⟩
  obtain ⟨⟨k, hk⟩, _⟩ := (it l _ rfl h5').2 (.ref t.1) (List.mem_map_of_mem (f := fun t : Pt => V.ref t.1) m)
  exact hk.back s (h6 t m)
theorem ItTh.up {S : Addr} {H H' : Hp} {ps : V} {k : Kd} (it : ItTh S H ps) (hp : Th S H ps k) (s : Same H H') : ItTh S H' ps := by
  intro a xs e h
  subst e
  have h' : Sq H a xs := h.elim (fun e => .inl (hp.back s e)) fun e => .inr (hp.back s e)
  obtain ⟨h1, h2⟩ := it a xs rfl h'
  refine ⟨h1, fun y m => ?_⟩
  obtain ⟨⟨k, hk⟩, pt⟩ := h2 y m
  exact ⟨⟨k, hk.same s⟩, pt.same hk s⟩
/-- Order(sz, ps), whatever they are -/
theorem mk_any {S C B : Addr} {sz ps : V} {H : Hp} {W : Addr → Hp → Prop} {E : XK} {kz kp : Kd} (hz : Th S H sz kz) (hp : Th S H ps kp) (it : ItTh S H ps) (kb : Bad H sz ps → ∀ H', Same H H' → E (.ref B) none H')
    (kg : ∀ n l ts, GoodP H sz ps n l ts → ∀ (x : Addr) (H' : Hp), Same H H' → IsOrd C H' x n (lowL n (wars (memR (ts.map (·.2))) n)) → W x H') :
    ∀ x dx, H x = none → H dx = none → dx ≠ x → spOI S C B [.ref x, sz, ps] (upd (upd H dx (.own x)) x (.ins C dx [])) (fun v H2 => v = .non ∧ W x H2) E := by
  intro x dx hx hd ne
  have s1 : Same H (upd (upd H dx (.own x)) x (.ins C dx [])) := (Same.put hd).trans (Same.put (by rw [upd_ne ne.symm]; exact hx))
  refine ⟨x, dx, sz, ps, kz, kp, rfl, upd_same, hz.same s1, hp.same s1, it.up hp s1, fun b H' s2 => kb (fun n l ts g => b n l ts (g.up s1)) H' (s1.trans s2), fun n l ts g T us H2 s2 eT pT qT => ⟨rfl, kg n l ts (g.back hp it s1) x _ ?_ ⟨dx, T, us, upd_same, ?_, ?_, qT⟩⟩⟩
  · exact fun b u e => by
      rw [upd_ne (ne_of_none e hx)]
      exact s2 _ _ (s1 _ _ e)
  · have ex := s2 _ _ (show (upd (upd H dx (.own x)) x (.ins C dx [])) x = some (.ins C dx []) from upd_same)
    rw [upd_ne (fun z => by rw [z, ex] at eT; cases eT)]
    exact eT
  · have ex := s2 _ _ (show (upd (upd H dx (.own x)) x (.ins C dx [])) x = some (.ins C dx []) from upd_same)
    intro u hu
    have := pT u hu
    rw [upd_ne (fun z => by rw [z, ex] at this; cases this)]
    exact this
/-- a list of pairs is a list of things -/
theorem pts_it {S : Addr} {H : Hp} {l : Addr} {ts : List Pt} (h : Sq H l (rfs ts)) (p : Pts H ts) (len : ts.length ≤ 200) : ItTh S H (.ref l) := by
  intro a xs e h2
  cases e
  obtain rfl := Sq.uniq h h2
  refine ⟨by rw [rfs_len]; exact len, fun y m => ?_⟩
  obtain ⟨t, mt, rfl⟩ := List.mem_map.mp m
  refine ⟨⟨_, .tup (p t mt)⟩, fun b y z e1 e2 => ?_⟩
  cases e1
  rw [p t mt] at e2
  obtain ⟨e3, e4⟩ := List.cons.inj (HO.tup.inj (Option.some.inj e2))
  obtain ⟨e5, _⟩ := List.cons.inj e4
  rw [← e3, ← e5]
  exact ⟨⟨_, .int _⟩, _, .int _⟩
theorem sq_th {S : Addr} {H : Hp} {l : Addr} {xs : List V} (h : Sq H l xs) : ∃ k, Th S H (.ref l) k := h.elim (fun e => ⟨_, .lst e⟩) fun e => ⟨_, .tup e⟩
theorem ord_ok {S C B : Addr} {n : Nat} {l : Addr} {ts : List Pt} {H : Hp} {W : Addr → Hp → Prop} {E : XK} (g : GoodP H (.int (n : Int)) (.ref l) n l ts) (len : ts.length ≤ 200)
    (k : ∀ (x : Addr) (H' : Hp), Same H H' → IsOrd C H' x n (lowL n (wars (memR (ts.map (·.2))) n)) → W x H') :
    ∀ x dx, H x = none → H dx = none → dx ≠ x → spOI S C B [.ref x, .int (n : Int), .ref l] (upd (upd H dx (.own x)) x (.ins C dx [])) (fun v H2 => v = .non ∧ W x H2) E := by
  obtain ⟨_, _, _, _, h5, h6, _⟩ := id g
  obtain ⟨kp, hp⟩ := sq_th (S := S) h5
  refine mk_any (.int _) hp (pts_it h5 h6 len) (fun b => absurd g (b _ _ _)) fun m l' ts' g' x H' s io => ?_
  obtain ⟨e1, e2, _, _, g5, g6, _⟩ := g'
  obtain rfl : n = m := by
    rw [V.int.injEq] at e1
    omega
  cases e2
  rw [← pts_eq h6 g6 (Sq.uniq h5 g5)] at io
  exact k x H' s io
/-- order.turned() -/
def spTurned (C : Addr) : Sp := fun vs H Q _ => ∃ (o : Addr) (n : Nat) (low : List (Nat × Nat)), vs = [.ref o] ∧ IsOrd C H o n low ∧ 1 ≤ n ∧ n ≤ 8 ∧ low.length ≤ 64 ∧ (∀ p ∈ low, p.1 < n ∧ p.2 < n) ∧ Anti n (wars (memR (low.map swp)) n) ∧
  ∀ (x : Addr) (H' : Hp), Same H H' → IsOrd C H' x n (lowL n (wars (memR (low.map swp)) n)) → Q (.ref x) H'
structure TurnedT (P : Program) (w : World) (K : PySem.W.Frag) (mg : Str → Option Value) (base : Heap) (C : Addr) : Prop where
  ex : ∃ (f : Addr) (fd : FuncData), Meth K C "turned" f ∧ FnOk P w K mg base CX0 7 f fd ["self"] (spTurned C) ∧ Binds K fd ["self"] []
def linePs (n : Nat) : List (Nat × Nat) := (List.range (n - 1)).map fun s => (s, s + 1)
/-- line(size) -/
def spLine (S C B : Addr) : Sp := fun vs H Q E => ∃ (x : V) (k : Kd), vs = [x] ∧ Th S H x k ∧ (btw 1 8 x = false → ∀ H', Same H H' → E (.ref B) none H') ∧
  ∀ n : Nat, x = .int (n : Int) → 1 ≤ n → n ≤ 8 → ∀ (o : Addr) (H' : Hp), Same H H' → IsOrd C H' o n (lowL n (wars (memR (linePs n)) n)) → Q (.ref o) H'
theorem line_anti (n k : Nat) : Anti n (wars (memR (linePs n)) k) := by
  have up : ∀ s t, wars (memR (linePs n)) k s t = true → s < t := wars_keep (fun s t => s < t) (fun _ _ _ => Nat.lt_trans) (fun s t h => by
    obtain ⟨i, _, e⟩ := List.mem_map.mp (of_decide_eq_true h)
    have e1 := (Prod.mk.inj e).1
    have e2 := (Prod.mk.inj e).2
    omega) k
  intro s t h1 h2
  have := up s t h1
  have := up t s h2
  omega
theorem btw8 {x : V} (hb : btw 1 8 x = true) : ∃ n : Nat, x = .int (n : Int) ∧ 1 ≤ n ∧ n ≤ 8 := by
  cases x with
  | int i =>
    have hb : (decide (1 ≤ i) && decide (i ≤ 8)) = true := hb
    rw [Bool.and_eq_true, decide_eq_true_eq, decide_eq_true_eq] at hb
    exact ⟨i.toNat, by rw [Int.toNat_of_nonneg (by omega)], by omega, by omega⟩
  | _ => cases hb
section
variable {P : Program} {w : World} {K : PySem.W.Frag} {mg : Str → Option Value} {base : Heap} {C S B : Addr}
abbrev s_turned : Stmt := inClass (top 24) 3
theorem sc_turned : FnScope ["self", "s", "t"] ["self"] (defScope s_turned) := ⟨rfl, rfl, rfl, by decide +kernel, rfl, by decide +kernel, by decide +kernel⟩
theorem ok_turned {f : Addr} {fd : FuncData} (F : Fun K "turned" "Order.turned" s_turned f fd) (T : OrT K mg C) (m : MkO P w K mg base S C B) : FnOk P w K mg base CX0 7 f fd ["self"] (spTurned C) := by
  refine F.ok sc_turned (fun vs H Q E h => ?_) (fun cdv A outer s H vs Q E hr h => ?_)
  · obtain ⟨o, n, low, rfl, _⟩ := h
    rfl
  · obtain ⟨o, n, low, rfl, ⟨dx, L, ts, h1, h2, h3, h4⟩, n1, n8, hlen, hlt, anti, k⟩ := h
    refine ⟨_, (pss_one (ps_ret (pe_ord m hr rfl (pa_cons (pe_fld (pv 0) rfl) (pa_cons (pe_lc (own := [("s", 1), ("t", 2)]) (g := gTup K 2 (gCons (gName 1) (gCons (gName 2) gNil))) rfl sc_turned.nd (pi_tup (pe_fld (pv 0) rfl)) (blkOk_by (N := ["self", "s", "t"]) (sc := defScope s_turned) (by decide +kernel))
      (fun _ _ _ _ _ => (pg_tup (by rfl) (pgs_cons (pg_name (i := 1) sc_turned.nd rfl (Or.inl rfl)) (pgs_cons (pg_name (i := 2) sc_turned.nd rfl (Or.inl rfl)) pgs_nil)))) (fun _ _ _ _ _ => pts_nil) (fun _ _ _ _ _ => (pe_tup (pa_cons (pv 2) (pa_cons (pv 1) pa_nil))))) pa_nil))))), ?_⟩
    have lts : ts.length = low.length := by rw [← h4, List.length_map]
    refine ⟨_, rfl, o, C, dx, _, _, rfl, h1, T.cl, T.nS, ordF_size _ _, ?_⟩
    refine ⟨_, rfl, o, C, dx, _, _, rfl, h1, T.cl, T.nL, ordF_lower _ _, L, rfl, ⟨_, SqT.of h2⟩, fun D nD => ?_⟩
    refine lc_tup (K := K) (a := L) (xs := rfs ts) (fun i H' => Same H H' ∧ ∃ us : List Pt, H' D = some (.lst (rfs us)) ∧ Pts H' us ∧ us.map (·.2) = (low.take i).map swp) ⟨Same.put nD, [], upd_same, fun _ m => (by cases m), rfl⟩ (fun i H' _ h => SqT.of (h.1 _ _ h2)) ?_ ?_
    · rintro i x H' hx ⟨s1, us, eD, pD, qD⟩
      obtain ⟨t, ht, hm, rfl⟩ := rfs_at hx
      have i0 : low[i]? = some t.2 := by rw [← h4, List.getElem?_map, ht]; rfl
      have lus : us.length ≤ 64 := by
        have := congrArg List.length qD
        rw [List.length_map, List.length_map, List.length_take] at this
        omega
      refine ⟨t.1, prV t.2, rfl, SqT.of (s1 _ _ (h3 t hm)), rfl, _, _, rfl, _, _, rfl, rfl, rfl, yes_of ?_⟩
      refine ⟨_, rfl, _, rfl, by show 2 ≤ sizeLine; decide, fun c nc => ?_⟩
      refine ⟨rfs us, Same.put nc _ _ eD, by rw [rfs_len]; exact small_len (by omega), Same.but (fun b u e => Same.put nc _ _ (s1 _ _ e)) nD, us ++ [(c, swp t.2)], ?_, ?_, ?_⟩
      · rw [upd_same, rfs_snoc]
      · refine Pts.snoc (fun u m => ?_) ?_
        · have nu : u.1 ≠ D := fun q => by
            have := pD u m
            rw [q, eD] at this
            cases this
          rw [upd_ne nu]
          exact Same.put nc _ _ (pD u m)
        · have ncD : c ≠ D := fun q => by
            rw [q, eD] at nc
            cases nc
          show upd _ D _ c = _
          rw [upd_ne ncD, upd_same]
          rfl
      · rw [List.map_append, qD, take_more i0, List.map_append]
        rfl
    · rintro H1 ⟨s1, us, eD, pD, qD⟩
      rw [rfs_len, lts, List.take_length] at qD
      have lus : us.length = low.length := by
        have := congrArg List.length qD
        rw [List.length_map, List.length_map] at this
        exact this
      refine ord_ok (ts := us) ⟨rfl, rfl, n1, n8, .inl eD, pD, fun t hm => ?_, by rw [qD]; exact anti⟩ (by omega) fun x H' s2 io => k x H' (s1.trans s2) (by rw [← qD]; exact io)
      have : t.2 ∈ low.map swp := by rw [← qD]; exact List.mem_map_of_mem hm
      obtain ⟨p, hp, e⟩ := List.mem_map.mp this
      rw [← e]
      exact ⟨(hlt p hp).2, (hlt p hp).1⟩
abbrev s_line : Stmt := top 26
theorem sc_line : FnScope ["size", "state"] ["size"] (defScope s_line) := ⟨rfl, rfl, rfl, by decide +kernel, rfl, by decide +kernel, by decide +kernel⟩
theorem ok_line {f : Addr} {fd : FuncData} (F : Fun K "line" "line" s_line f fd) (T : OrT K mg C) (m : MkO P w K mg base S C B) (N : BoT P w K mg base B) (c_is_between : Cal P w K mg base 2 "is_between" ["least", "most", "thing"] (spBetween S)) : FnOk P w K mg base (L2.CX P w) 7 f fd ["size"] (spLine S C B) := by
  obtain ⟨tM, gM⟩ := T.gM
  obtain ⟨fS, fdS, iS, tS, FS, bS⟩ := id N.made
  refine F.okX sc_line (fun vs H Q E h => ?_) (fun cdv A outer s H vs Q E hr h => ?_)
  · obtain ⟨x, kd, rfl, _⟩ := h
    rfl
  · obtain ⟨x, kd, rfl, hx, kb, k⟩ := h
    refine ⟨_, (pss_cons (ps_if (pt_not (pt_val (pe_cal c_is_between (hr.mono (by decide)) rfl (pa_cons pe_int (pa_cons (pe_glob (v := .int 8) rfl gM ⟨_, rfl⟩) (pa_cons (pv 0) pa_nil))))))
        (pss_one (ps_raise (W := fun cls d _ H => E cls d H) rfl (takes_of rfl rfl rfl rfl) (pmk_bare N.O iS tS FS (hr.mono (by decide)) bS pass0 rfl N.gB)))
        pss_nil)
      (pss_one (ps_ret (pe_ordS (W := fun cls d _ H => E cls d H) (takes_of rfl rfl rfl rfl) m hr rfl (pa_cons (pv 0) (pa_cons (pe_lc (own := [("state", 1)]) rfl sc_line.nd (pi_range1 (by rfl) T.bn.n_range (pa_cons (pe_op op_sub (pv 0) pe_int) pa_nil)) (blkOk_by (N := ["size", "state"]) (sc := defScope s_line) (by decide +kernel))
        (fun _ _ _ _ _ => (pg_name (i := 1) sc_line.nd rfl (Or.inl rfl))) (fun _ _ _ _ _ => pts_nil) (fun _ _ _ _ _ => (pe_tup (pa_cons (pv 1) (pa_cons (pe_op op_add (pv 1) pe_int) pa_nil))))) pa_nil)))))), ?_⟩
    refine ⟨_, rfl, 1, 8, x, kd, rfl, hx, _, rfl, ?_⟩
    cases hb : btw 1 8 x with
    | false => exact iteT (bo_raise (σ := []) N fun H' s1 => kb hb H' s1)
    | true =>
    obtain ⟨n, rfl, n1, n8⟩ := btw8 hb
    refine iteF ?_
    have k := k n rfl n1 n8
    refine ⟨_, rfl, _, rfl, _, _, rfl, rfl, _, rfl, by omega, by omega, fun D nD => ?_⟩
    rw [show ((n : Int) - 1).toNat = n - 1 by omega]
    refine lc_range (fun i H' => Same H H' ∧ ∃ us : List Pt, H' D = some (.lst (rfs us)) ∧ Pts H' us ∧ us.map (·.2) = (List.range i).map (fun s => (s, s + 1)) ∧ us.length = i) ⟨Same.put nD, [], upd_same, fun _ m => (by cases m), rfl, rfl⟩ ?_ ?_
    · rintro i H' hi ⟨s1, us, eD, pD, qD, lD⟩
      rw [Int.zero_add]
      refine ⟨rfl, yes_of ?_⟩
      refine ⟨_, rfl, _, rfl, _, _, rfl, rfl, by show 2 ≤ sizeLine; decide, fun c nc => ?_⟩
      refine ⟨rfs us, Same.put nc _ _ eD, by rw [rfs_len]; exact small_len (by omega), Same.but (fun b u e => Same.put nc _ _ (s1 _ _ e)) nD, us ++ [(c, i, i + 1)], ?_, ?_, ?_, ?_⟩
      · rw [upd_same, rfs_snoc]
      · refine Pts.snoc (fun u m => ?_) ?_
        · have nu : u.1 ≠ D := fun q => by
            have := pD u m
            rw [q, eD] at this
            cases this
          rw [upd_ne nu]
          exact Same.put nc _ _ (pD u m)
        · have ncD : c ≠ D := fun q => by
            rw [q, eD] at nc
            cases nc
          show upd _ D _ c = _
          rw [upd_ne ncD, upd_same]
          rfl
      · rw [List.map_append, qD, List.range_succ, List.map_append]
        rfl
      · rw [List.length_append, lD]
        rfl
    · rintro H1 ⟨s1, us, eD, pD, qD, lD⟩
      refine ord_ok (ts := us) ⟨rfl, rfl, n1, n8, .inl eD, pD, fun t hm => ?_, by rw [qD]; exact line_anti n n⟩ (by omega) fun x H' s2 io => k x H' (s1.trans s2) (by rw [qD] at io; exact io)
      have : t.2 ∈ (List.range (n - 1)).map (fun s => (s, s + 1)) := by rw [← qD]; exact List.mem_map_of_mem hm
      obtain ⟨s, hs, e⟩ := List.mem_map.mp this
      have := List.mem_range.mp hs
      rw [← e]
      exact ⟨by show s < n; omega, by show s + 1 < n; omega⟩
end
end K6

set_option Elab.async false
set_option linter.all false
set_option maxRecDepth 100000
set_option maxHeartbeats 4000000
namespace L2
open PySem PySem.Spec PyProof.Rows
/-- // by any divisor but 0 below 2 ^ 9000 -/
def CDivG (_ j : Int) : Prop := j ≠ 0 ∧ j.natAbs.log2 < 9000
theorem op_fdivG {X : Cx} : OpR X (binaryOp .FloorDiv) (rI CDivG fun i j => .int (i.fdiv j)) := opI fun _ _ _ _ _ _ _ hc q => floordiv_int hc.1 q (.inl (PyProof.noPylong_of_log2 hc.2))
end L2
namespace K6
open PySem L2
abbrev cV (l : List Nat) : List V := l.map fun k : Nat => V.int (k : Int)
theorem cV_at {l : List Nat} {i : Nat} {x : Nat} (h : l[i]? = some x) : (cV l)[i]? = some (V.int (x : Int)) := by rw [List.getElem?_map, h]; rfl
theorem cV_set (l : List Nat) (i x : Nat) : (cV l).set i (V.int (x : Int)) = cV (l.set i x) := by
  rw [cV, cV, List.map_set]
/-- two places exchanged -/
theorem swap_perm {α : Type} [DecidableEq α] {l : List α} {i j : Nat} {a b : α} (hi : l[i]? = some a) (hj : l[j]? = some b) : ((l.set i b).set j a).Perm l := by
  have li := (List.getElem?_eq_some_iff.mp hi).1
  have lj := (List.getElem?_eq_some_iff.mp hj).1
  rw [List.perm_iff_count]
  intro x
  have e1 : (l.set i b)[j]? = some (if i = j then b else b) := by
    rw [List.getElem?_set]
    by_cases e : i = j
    · rw [if_pos e, if_pos (by omega), if_pos e]
    · rw [if_neg e, hj, if_neg e]
  have e2 : j < (l.set i b).length := by rw [List.length_set]; exact lj
  have g1 : (l.set i b)[j] = b := by
    have := (List.getElem?_eq_some_iff.mp e1).2
    rw [this]
    split <;> rfl
  have g2 : l[i] = a := (List.getElem?_eq_some_iff.mp hi).2
  have g3 : l[j] = b := (List.getElem?_eq_some_iff.mp hj).2
  rw [List.count_set e2, List.count_set li, g1, g2]
  have m1 : l.count a ≥ 1 := List.one_le_count_iff.mpr (List.mem_of_getElem? hi)
  by_cases xa : a = x
  · subst xa
    by_cases xb : b = a
    · simp [xb]
      omega
    · simp [xb]
      omega
  · by_cases xb : b = x
    · subst xb
      simp [xa]
    · simp [xa, xb]
theorem perm_map {α β : Type} {f : α → β} : ∀ {l : List α} {ys : List β}, ys.Perm (l.map f) → ∃ us : List α, ys = us.map f ∧ us.Perm l
  | [], ys, h => ⟨[], by rw [List.Perm.eq_nil h]; rfl, List.Perm.refl _⟩
  | x :: l, ys, h => by
    have hm : f x ∈ ys := h.mem_iff.mpr List.mem_cons_self
    obtain ⟨s, t, rfl⟩ := List.append_of_mem hm
    have h2 : (s ++ t).Perm (l.map f) := by
      have := List.perm_middle.symm.trans h
      exact (List.perm_cons _).mp this
    obtain ⟨us, e, p⟩ := perm_map h2
    obtain ⟨u1, u2, rfl, e1, e2⟩ := List.map_eq_append_iff.mp e.symm
    refine ⟨u1 ++ x :: u2, by rw [List.map_append, List.map_cons, e1, e2], ?_⟩
    exact List.perm_middle.trans ((List.perm_cons x).mpr p)
/-- the items in another order -/
def spTurnAbout : Sp := fun vs H Q _ => ∃ (a l : Addr) (xs : List V), vs = [.ref a, .ref l] ∧ PoolAt H a ∧ xs.length ≤ 200 ∧ H l = some (.lst xs) ∧
  ∀ (r : Addr) (ys : List V) (H' : Hp), Keep a H H' → PoolAt H' a → r ≠ a → H r = none → H' r = some (.lst ys) → ys.Perm xs → Q (.ref r) H'
/-- one of the things -/
def spPick : Sp := fun vs H Q _ => ∃ (a l : Addr) (xs : List V), vs = [.ref a, .ref l] ∧ PoolAt H a ∧ Sq H l xs ∧ l ≠ a ∧ 0 < xs.length ∧ xs.length ≤ 200 ∧ ∀ (x : V) (o : HO), x ∈ xs → PoolL o → Q x (upd H a o)
def allPs (n : Nat) : List (Nat × Nat) := (List.range (n * n)).map fun k => (k / n, k % n)
def spLawPairs : Sp := fun vs H Q _ => ∃ n : Nat, vs = [.int (n : Int)] ∧ 1 ≤ n ∧ n ≤ 8 ∧ ∀ (l : Addr) (ts : List Pt) (H' : Hp), Same H H' → H' l = some (.lst (rfs ts)) → Pts H' ts → ts.map (·.2) = allPs n → Q (.ref l) H'
section
variable {P : Program} {w : World} {K : PySem.W.Frag} {mg : Str → Option Value} {base : Heap} {C : Addr}
abbrev s_turn : Stmt := top 31
theorem sc_turn : FnScope ["_law_pool_here", "_law_things_here", "_law_found", "_law_k", "_law_at", "_law_kept"] ["_law_pool_here", "_law_things_here"] (defScope s_turn) := ⟨rfl, rfl, rfl, by decide +kernel, rfl, by decide +kernel, by decide +kernel⟩
theorem ok_turn {f : Addr} {fd : FuncData} (F : Fun K "_law_turned_about" "_law_turned_about" s_turn f fd) (T : Bn mg) (c_draw : Cal P w K mg base 1 "_law_draw" ["_law_pool_here", "_law_many"] spDraw) : FnOk P w K mg base CX0 2 f fd ["_law_pool_here", "_law_things_here"] spTurnAbout := by
  refine F.ok sc_turn (fun vs H Q E h => ?_) (fun cdv A outer s H vs Q E hr h => ?_)
  · obtain ⟨a, l, xs, rfl, _⟩ := h
    rfl
  · obtain ⟨a, l, xs, rfl, hp, hn, el, k⟩ := h
    generalize hxl : xs.length = n at hn
    refine ⟨_, (pss_cons (ps_set (i := 2) sc_turn.nd rfl (Or.inl rfl) (pe_callTy call_list_of (by rfl) T.n_list (by decide +kernel) (pa_cons (pv 1) pa_nil)))
      (pss_cons (ps_for PassesOwn.never rfl (pi_range1 (by rfl) T.n_range (pa_cons (pe_callB call_len_seq (by rfl) T.n_len PySem.boot_len (pa_cons (pv 2) pa_nil)) pa_nil)) (pg_name (i := 3) sc_turn.nd rfl (Or.inl rfl))
        (pss_cons (ps_set (i := 4) sc_turn.nd rfl (Or.inl rfl) (pe_cal c_draw (hr.mono (by decide)) rfl (pa_cons (pv 0) (pa_cons (pe_callB call_len_seq (by rfl) T.n_len PySem.boot_len (pa_cons (pv 2) pa_nil)) pa_nil))))
          (pss_cons (ps_set (i := 5) sc_turn.nd rfl (Or.inl rfl) (pe_ix ix_list (pv 2) (pv 3) (fun _ _ => rfl)))
          (pss_cons (ps_asg (pe_ix ix_list (pv 2) (pv 4) (fun _ _ => rfl)) (pg_sub (pv 2) (pv 3) set_list))
          (pss_one (ps_asg (pv 5) (pg_sub (pv 2) (pv 4) set_list)))))))
      (pss_one (ps_ret (pv 2))))), ?_⟩
    refine ⟨_, rfl, l, _, rfl, .inl (SqL.of el), fun r nr => ?_⟩
    have s1 := Same.put (o := .lst xs) nr
    have e1 : (upd H r (.lst xs)) r = some (.lst xs) := upd_same
    have p1 := hp.new (o := .lst xs) nr
    have nra : r ≠ a := fun z => by
      obtain ⟨o, e, _⟩ := hp
      rw [z, e] at nr
      cases nr
    generalize (upd H r (.lst xs)) = H1 at s1 e1 p1 ⊢
    have len0 : xs.length = n := hxl
    refine ⟨_, rfl, r, _, rfl, .inl (SqL.of e1), _, rfl, by rw [len0]; omega, by rw [len0]; omega, ?_⟩
    rw [len0, Int.toNat_natCast]
    refine for_range (fun i σ H' => ∃ v3 v4 v5 ns, σ = [some (.ref a), some (.ref l), some (.ref r), v3, v4, v5] ∧ Keep a H H' ∧ PoolAt H' a ∧ H' r = some (.lst ns) ∧ ns.Perm xs) ⟨none, none, none, xs, rfl, Keep.of s1, p1, e1, List.Perm.refl _⟩ ?_ ?_
    · rintro i σ H2 hi ⟨v3, v4, v5, ns, rfl, k2, p2, e2, pm⟩
      rw [Int.zero_add]
      have len : ns.length = n := by rw [pm.length_eq, hxl]
      have lenV : ns.length = n := len
      refine ⟨_, rfl, _, rfl, r, _, rfl, .inl (SqL.of e2), a, _, rfl, p2, by rw [lenV]; omega, ?_, fun x o x0 x1 ho => ?_⟩
      · exact log_small (b := 10) (by rw [lenV]; show ((n : Int)).natAbs < 2 ^ 10; omega) (by decide) (by decide)
      rw [lenV] at x1
      have e3 : (upd H2 a o) r = some (.lst ns) := by rw [upd_ne nra]; exact e2
      have k3 := k2.trans (Keep.put (H := H2) o)
      have p3 : PoolAt (upd H2 a o) a := .put ho
      generalize (upd H2 a o) = H3 at e3 k3 p3 ⊢
      obtain ⟨j, rfl⟩ : ∃ j : Nat, x = (j : Int) := ⟨x.toNat, by omega⟩
      have hj : j < n := by omega
      have gi : ns[i]? = some ns[i] := List.getElem?_eq_getElem (by omega)
      have gj : ns[j]? = some ns[j] := List.getElem?_eq_getElem (by omega)
      have ix : ∀ {q : Nat}, q < n → ixN n (q : Int) = some q := fun {q} hq => by
        unfold ixN
        rw [if_pos (by omega), if_pos (by omega)]
        rfl
      refine ⟨_, rfl, _, rfl, r, _, _, _, rfl, rfl, SqL.of e3, atI_nat gi, ?_⟩
      refine ⟨_, rfl, _, rfl, r, _, _, _, rfl, rfl, SqL.of e3, atI_nat gj, ?_⟩
      refine ⟨_, rfl, _, rfl, r, _, _, i, rfl, rfl, e3, by rw [lenV]; exact ix hi, ?_⟩
      have e4 : (upd H3 r (.lst (ns.set i ns[j]))) r = some (.lst (ns.set i ns[j])) := upd_same
      have len4 : (ns.set i ns[j]).length = n := by rw [List.length_set, len]
      refine ⟨_, rfl, _, rfl, _, rfl, r, _, _, j, rfl, rfl, e4, by rw [len4]; exact ix hj, ?_⟩
      rw [upd_upd]
      refine ⟨_, _, _, _, rfl, fun b u e ne => ?_, ?_, upd_same, (swap_perm gi gj).trans pm⟩
      · have nb : b ≠ r := ne_of_none e nr
        rw [upd_ne nb]
        exact k3 b u e ne
      · obtain ⟨u, e, q⟩ := p3
        exact ⟨u, by rw [upd_ne (Ne.symm nra)]; exact e, q⟩
    · rintro σ H2 ⟨v3, v4, v5, ns, rfl, k2, p2, e2, pm⟩
      exact ⟨_, rfl, k r ns H2 k2 p2 nra nr e2 pm⟩
abbrev s_pick : Stmt := top 30
theorem sc_pick : FnScope ["_law_pool_here", "_law_things_here"] ["_law_pool_here", "_law_things_here"] (defScope s_pick) := ⟨rfl, rfl, rfl, by decide +kernel, rfl, by decide +kernel, by decide +kernel⟩
theorem ok_pick {f : Addr} {fd : FuncData} (F : Fun K "_law_pick" "_law_pick" s_pick f fd) (T : Bn mg) (c_draw : Cal P w K mg base 1 "_law_draw" ["_law_pool_here", "_law_many"] spDraw) : FnOk P w K mg base CX0 2 f fd ["_law_pool_here", "_law_things_here"] spPick := by
  refine F.ok sc_pick (fun vs H Q E h => ?_) (fun cdv A outer s H vs Q E hr h => ?_)
  · obtain ⟨a, l, xs, rfl, _⟩ := h
    rfl
  · obtain ⟨a, l, xs, rfl, hp, hl, ne, h0, h1, k⟩ := h
    refine ⟨_, (pss_one (ps_ret (pe_ix (show IxR _ (rIx K) from ix_seq) (pv 1) (pe_cal c_draw (hr.mono (by decide)) rfl (pa_cons (pv 0) (pa_cons (pe_callB call_len_seq (by rfl) T.n_len PySem.boot_len (pa_cons (pv 1) pa_nil)) pa_nil))) (fun _ _ => rfl)))), ?_⟩
    refine ⟨_, rfl, _, rfl, _, rfl, l, xs, rfl, hl.elim (fun e => .inl (SqL.of e)) (fun e => .inr (SqT.of e)), a, _, rfl, hp, by omega, log_small (b := 10) (by show ((xs.length : Int)).natAbs < 2 ^ 10; omega) (by decide) (by decide), fun r o r0 r1 ho => ?_⟩
    obtain ⟨j, rfl⟩ : ∃ j : Nat, r = (j : Int) := ⟨r.toNat, by omega⟩
    have hj : j < xs.length := by omega
    have gj : xs[j]? = some xs[j] := List.getElem?_eq_getElem hj
    have hl2 : Sq (upd H a o) l xs := hl.elim (fun e => .inl (by rw [upd_ne ne]; exact e)) fun e => .inr (by rw [upd_ne ne]; exact e)
    rcases hl2 with e | e
    · exact .inl ⟨l, _, _, _, rfl, rfl, SqL.of e, atI_nat gj, k _ o (List.mem_of_getElem? gj) ho⟩
    · exact .inr (.inl ⟨l, _, _, _, rfl, rfl, SqT.of e, atI_nat gj, k _ o (List.mem_of_getElem? gj) ho⟩)
abbrev s_lpairs : Stmt := top 32
theorem sc_lpairs : FnScope ["_law_size", "_law_k"] ["_law_size"] (defScope s_lpairs) := ⟨rfl, rfl, rfl, by decide +kernel, rfl, by decide +kernel, by decide +kernel⟩
theorem ok_lpairs {f : Addr} {fd : FuncData} (F : Fun K "_law_pairs" "_law_pairs" s_lpairs f fd) (T : Bn mg) : FnOk P w K mg base CX0 1 f fd ["_law_size"] spLawPairs := by
  refine F.ok sc_lpairs (fun vs H Q E h => ?_) (fun cdv A outer s H vs Q E hr h => ?_)
  · obtain ⟨n, rfl, _⟩ := h
    rfl
  · obtain ⟨n, rfl, n1, n8, k⟩ := h
    refine ⟨_, (pss_one (ps_ret (pe_lc (own := [("_law_k", 1)]) rfl sc_lpairs.nd (pi_range1 (by rfl) T.n_range (pa_cons (pe_op op_mul (pv 0) (pv 0)) pa_nil)) (blkOk_by (N := ["_law_size", "_law_k"]) (sc := defScope s_lpairs) (by decide +kernel)) (fun _ _ _ _ _ => (pg_name (i := 1) sc_lpairs.nd rfl (Or.inl rfl))) (fun _ _ _ _ _ => pts_nil)
      (fun _ _ _ _ _ => (pe_tup (pa_cons (pe_op op_fdivG (pv 1) (pv 0)) (pa_cons (pe_op op_modN (pe_callTy call_int1 (by rfl) T.n_int (by decide +kernel) (pa_cons (pv 1) pa_nil)) (pv 0)) pa_nil))))))), ?_⟩
    have nn : n * n ≤ 64 := Nat.mul_le_mul n8 n8
    have ez : ((n : Int) * (n : Int)) = ((n * n : Nat) : Int) := by rw [Int.natCast_mul]
    refine ⟨_, rfl, _, rfl, _, _, rfl, rfl, .inl ⟨by omega, by omega⟩, _, rfl, by rw [ez]; omega, by rw [ez]; omega, fun D nD => ?_⟩
    rw [ez, Int.toNat_natCast]
    refine lc_range (fun i H' => Same H H' ∧ ∃ us : List Pt, H' D = some (.lst (rfs us)) ∧ Pts H' us ∧ us.map (·.2) = (List.range i).map (fun k => (k / n, k % n)) ∧ us.length = i) ⟨Same.put nD, [], upd_same, fun _ m => (by cases m), rfl, rfl⟩ ?_ ?_
    · rintro i H' hi ⟨s1, us, eD, pD, qD, lD⟩
      rw [Int.zero_add]
      refine ⟨rfl, yes_of ?_⟩
      have lg : ((n : Int)).natAbs.log2 < 9000 := log_small (b := 10) (by show ((n : Int)).natAbs < 2 ^ 10; omega) (by decide) (by decide)
      refine ⟨_, rfl, _, rfl, (i : Int), (n : Int), rfl, rfl, ⟨by omega, lg⟩, _, rfl, .inl ⟨(i : Int), rfl, _, rfl, (i : Int), (n : Int), rfl, rfl, by omega, by show 2 ≤ sizeLine; decide, fun c nc => ?_⟩⟩
      have d1 : (i : Int).fdiv (n : Int) = ((i / n : Nat) : Int) := by rw [Int.fdiv_eq_ediv_of_nonneg _ (by omega)]; rfl
      have d2 : (i : Int).fmod (n : Int) = ((i % n : Nat) : Int) := by rw [Int.fmod_eq_emod_of_nonneg _ (by omega)]; rfl
      dsimp only
      rw [d1, d2]
      refine ⟨rfs us, Same.put nc _ _ eD, by rw [rfs_len]; exact small_len (by omega), Same.but (fun b u e => Same.put nc _ _ (s1 _ _ e)) nD, us ++ [(c, i / n, i % n)], ?_, ?_, ?_, ?_⟩
      · rw [upd_same, rfs_snoc]
      · refine Pts.snoc (fun u m => ?_) ?_
        · have nu : u.1 ≠ D := fun q => by
            have := pD u m
            rw [q, eD] at this
            cases this
          rw [upd_ne nu]
          exact Same.put nc _ _ (pD u m)
        · have ncD : c ≠ D := fun q => by
            rw [q, eD] at nc
            cases nc
          show upd _ D _ c = _
          rw [upd_ne ncD, upd_same]
      · rw [List.map_append, qD, List.range_succ, List.map_append]
        rfl
      · rw [List.length_append, lD]
        rfl
    · rintro H1 ⟨s1, us, eD, pD, qD, lD⟩
      exact k D us H1 s1 eD pD qD
end
end K6

set_option Elab.async false
set_option linter.all false
set_option maxRecDepth 100000
set_option maxHeartbeats 4000000
namespace K6
open PySem L2
theorem Pts.pool {H : Hp} {a : Addr} {ts : List Pt} {o : HO} (h : Pts H ts) (p : PoolAt H a) : Pts (upd H a o) ts := fun t m => by
  rw [upd_ne (p.ne (h t m))]
  exact h t m
theorem Pts.lstU {H : Hp} {D : Addr} {ys : List V} {ts : List Pt} {o : HO} (h : Pts H ts) (e : H D = some (.lst ys)) : Pts (upd H D o) ts := fun t m => by
  have q := h t m
  rw [upd_ne (fun z => by rw [z, e] at q; cases q)]
  exact q
theorem PoolAt.neR {α : Type} {H : Hp} {a b : Addr} {ts : List (Addr × α)} (h : PoolAt H a) (e : H b = some (.lst (rfs ts))) : b ≠ a := fun z => by
  obtain ⟨u, e2, n, g, q, _⟩ := h
  rw [z, e2, q] at e
  cases ts with
  | nil => cases e
  | cons t ts => cases e
/-- where a name stands -/
theorem pos_of {ns : List Nat} (nd : ns.Nodup) : ∃ pos : Nat → Nat, ∀ i x, ns[i]? = some x → pos x = i := by
  refine ⟨fun x => ns.idxOf x, fun i x h => ?_⟩
  obtain ⟨hi, e⟩ := List.getElem?_eq_some_iff.mp h
  rw [← e]
  exact nd.idxOf_getElem i hi
def Up (us : List Pt) : Prop := ∀ t ∈ us, t.2.1 < t.2.2
theorem Up.snoc {us : List Pt} {t : Pt} (h : Up us) (e : t.2.1 < t.2.2) : Up (us ++ [t]) := fun u m => by
  rcases List.mem_append.mp m with m | m
  · exact h u m
  · rw [List.mem_singleton.mp m]; exact e
/-- a rank of the places that no pair falls in -/
def Rk (n : Nat) (ps : List (Nat × Nat)) : Prop := ∃ pos : Nat → Nat, (∀ i j, i < n → j < n → pos i = pos j → i = j) ∧ ∀ p ∈ ps, pos p.1 ≤ pos p.2
theorem pos_inj {n : Nat} {ns : List Nat} {pos : Nat → Nat} (pm : ns.Perm (List.range n)) (h : ∀ i x, ns[i]? = some x → pos x = i) : ∀ i j, i < n → j < n → pos i = pos j → i = j := by
  intro i j hi hj e
  obtain ⟨a, ha⟩ := List.mem_iff_getElem?.mp (pm.mem_iff.mpr (List.mem_range.mpr hi))
  obtain ⟨b, hb⟩ := List.mem_iff_getElem?.mp (pm.mem_iff.mpr (List.mem_range.mpr hj))
  have e1 := h a i ha
  have e2 := h b j hb
  have e3 : a = b := by omega
  rw [e3, hb] at ha
  exact (Option.some.inj ha).symm
def spOrdPs : Sp := fun vs H Q _ => ∃ (a : Addr) (n : Nat), vs = [.ref a, .int (n : Int)] ∧ PoolAt H a ∧ 1 ≤ n ∧ n ≤ 8 ∧
  ∀ (l : Addr) (ts : List Pt) (H' : Hp), Keep a H H' → PoolAt H' a → H' l = some (.lst (rfs ts)) → Pts H' ts → ts.length ≤ 64 → (∀ t ∈ ts, t.2.1 < n ∧ t.2.2 < n) → Rk n (ts.map (·.2)) → Q (.ref l) H'
section
variable {P : Program} {w : World} {K : PySem.W.Frag} {mg : Str → Option Value} {base : Heap} {C : Addr}
abbrev s_ordps : Stmt := top 33
abbrev nOP : List Str := ["_law_pool_here", "_law_size", "_law_names", "_law_way", "_law_pairs_here", "_law_j", "_law_k"]
theorem sc_ordps : FnScope nOP ["_law_pool_here", "_law_size"] (defScope s_ordps) := ⟨rfl, rfl, rfl, by decide +kernel, rfl, by decide +kernel, by decide +kernel⟩
theorem ok_ordps {f : Addr} {fd : FuncData} (F : Fun K "_law_order_pairs" "_law_order_pairs" s_ordps f fd) (T : Bn mg) (c_draw : Cal P w K mg base 1 "_law_draw" ["_law_pool_here", "_law_many"] spDraw) (c_turn : Cal P w K mg base 2 "_law_turned_about" ["_law_pool_here", "_law_things_here"] spTurnAbout)
    (c_lp : Cal P w K mg base 1 "_law_pairs" ["_law_size"] spLawPairs) : FnOk P w K mg base CX0 3 f fd ["_law_pool_here", "_law_size"] spOrdPs := by
  refine F.ok sc_ordps (fun vs H Q E h => ?_) (fun cdv A outer s H vs Q E hr h => ?_)
  · obtain ⟨a, n, rfl, _⟩ := h
    rfl
  · obtain ⟨a, n, rfl, hp, n1, n8, k⟩ := h
    refine ⟨_, (pss_cons (ps_set (i := 2) sc_ordps.nd rfl (Or.inr rfl) (pe_cal c_turn (hr.mono (by decide)) rfl (pa_cons (pv 0) (pa_cons (pe_listRg rfl rfl T.n_list (prg_1 rfl T.n_range (pv 1))) pa_nil))))
      (pss_cons (ps_set (i := 3) sc_ordps.nd rfl (Or.inl rfl) (pe_cal c_draw (hr.mono (by decide)) rfl (pa_cons (pv 0) (pa_cons pe_int pa_nil))))
      (pss_cons (ps_set (i := 4) sc_ordps.nd rfl (Or.inl rfl) (pe_lst (pa_cons (pe_tup (pa_cons pe_int (pa_cons pe_int pa_nil))) (pa_cons (pe_tup (pa_cons pe_int (pa_cons pe_int pa_nil))) (pa_cons (pe_tup (pa_cons pe_int (pa_cons pe_int pa_nil))) (pa_cons (pe_tup (pa_cons pe_int (pa_cons pe_int pa_nil))) pa_nil))))))
      (pss_cons (ps_if (pt_cmpR op_eq (pv 3) pe_int (nomark _))
        (pss_one (ps_set (i := 4) sc_ordps.nd rfl (Or.inl rfl) (pe_lst pa_nil)))
        (pss_one (ps_if (pt_cmpR op_eq (pv 3) pe_int (nomark _))
            (pss_one (ps_setLc (i := 4) (own := [("_law_k", 6)]) rfl sc_ordps.nd rfl rfl (sw_true rfl rfl rfl (by decide +kernel)) (pi_range1 (by rfl) T.n_range (pa_cons (pe_op op_sub (pv 1) pe_int) pa_nil)) (blkOk_by (N := nOP) (sc := defScope s_ordps) (by decide +kernel)) (fun _ _ _ _ _ => (pg_name (i := 6) sc_ordps.nd rfl (Or.inl rfl))) (fun _ _ _ _ _ => pts_nil) (fun _ _ _ _ _ => (pe_tup (pa_cons (pv 6) (pa_cons (pe_op op_add (pv 6) pe_int) pa_nil))))))
            (pss_one (ps_if (pt_cmpR op_eq (pv 3) pe_int (nomark _))
                (pss_one (ps_setLc (i := 4) (own := [("_law_k", 6)]) rfl sc_ordps.nd rfl rfl (sw_true rfl rfl rfl (by decide +kernel)) (pi_range2 (by rfl) T.n_range (pa_cons pe_int (pa_cons (pv 1) pa_nil))) (blkOk_by (N := nOP) (sc := defScope s_ordps) (by decide +kernel)) (fun _ _ _ _ _ => (pg_name (i := 6) sc_ordps.nd rfl (Or.inl rfl))) (fun _ _ _ _ _ => pts_nil) (fun _ _ _ _ _ => (pe_tup (pa_cons pe_int (pa_cons (pv 6) pa_nil))))))
                (pss_one (ps_if (pt_cmpR op_gt (pv 3) pe_int (nomark _))
                    (pss_cons (ps_set (i := 4) sc_ordps.nd rfl (Or.inl rfl) (pe_lst pa_nil))
                      (pss_one (ps_for PassesOwn.never rfl (pi_list (pe_cal c_lp (hr.mono (by decide)) rfl (pa_cons (pv 1) pa_nil))) (pg_tup (by rfl) (pgs_cons (pg_name (i := 5) sc_ordps.nd rfl (Or.inl rfl)) (pgs_cons (pg_name (i := 6) sc_ordps.nd rfl (Or.inl rfl)) pgs_nil)))
                        (pss_one (ps_if (PW.pt (pw_and (pt_cmpR op_lt (pv 5) (pv 6) (nomark _)) (pw_and1 (pt_cmpR op_eq (pe_cal c_draw (hr.mono (by decide)) rfl (pa_cons (pv 0) (pa_cons pe_int pa_nil))) pe_int (nomark _)))))
                            (pss_one (ps_expr (pe_bm PySem.F.plainAttrs_list PySem.F.slot_list_append PySem.F.type_list_append mt_append (pv 4) (pa_cons (pe_tup (pa_cons (pv 5) (pa_cons (pv 6) pa_nil))) pa_nil))))
                            pss_nil)))))
                    pss_nil)))))))
      (pss_one (ps_ret (pe_lc (own := [("_law_j", 5), ("_law_k", 6)]) (g := gTup K 2 (gCons (gName 5) (gCons (gName 6) gNil))) rfl sc_ordps.nd (pi_list (pv 4)) (blkOk_by (N := nOP) (sc := defScope s_ordps) (by decide +kernel)) (fun _ _ _ _ _ => (pg_tup (by rfl) (pgs_cons (pg_name (i := 5) sc_ordps.nd rfl (Or.inl rfl)) (pgs_cons (pg_name (i := 6) sc_ordps.nd rfl (Or.inl rfl)) pgs_nil)))) (fun _ _ _ _ _ => (pts_one (pt_cmpR op_lt (pv 6) (pv 1) (nomark _))))
        (fun _ _ _ _ _ => (pe_tup (pa_cons (pe_ix (show IxR _ (rIxL K) from ix_list) (pv 2) (pv 5) (fun _ _ => rfl)) (pa_cons (pe_ix (show IxR _ (rIxL K) from ix_list) (pv 2) (pv 6) (fun _ _ => rfl)) pa_nil))))))))))), ?_⟩
    refine ⟨_, rfl, _, rfl, (n : Int), rfl, .of_le (by omega) (by omega) (by omega) (by omega), fun l0 n0 => ?_⟩
    have erg : rgV 0 (n : Int) = cV (List.range n) := by
      unfold rgV
      rw [show ((n : Int) - 0).toNat = n by omega, cV]
      exact List.map_congr_left fun i _ => by rw [Int.zero_add]
    rw [erg]
    refine ⟨a, l0, _, rfl, hp.new n0, by rw [List.length_map, List.length_range]; omega, upd_same, fun nl ys H1 k1 p1 nla _ e1 pm0 => ?_⟩
    obtain ⟨ns, rfl, pm⟩ := perm_map pm0
    have k1 : Keep a H H1 := (Keep.of (Same.put n0)).trans k1
    have nd : ns.Nodup := pm.nodup_iff.mpr List.nodup_range
    have lns : ns.length = n := by rw [pm.length_eq, List.length_range]
    obtain ⟨pos, hpos⟩ := pos_of nd
    -- the end
    have last : ∀ (G : Addr) (us : List Pt) (v3 v5 v6 : Option V) (H2 : Hp), Keep a H H2 → PoolAt H2 a → H2 nl = some (.lst (cV ns)) → H2 G = some (.lst (rfs us)) → Pts H2 us → Up us → us.length ≤ 64 →
        (tRet (tLc (iList K (tVar 4)) (gTup K 2 (gCons (gName 5) (gCons (gName 6) gNil))) (tTest (tOp (rI0 fun i j => V.bl (decide (i < j))) (tVar 6) (tVar 1))) (tTup (tCons (tOp (rIxL K) (tVar 2) (tVar 5)) (tCons (tOp (rIxL K) (tVar 2) (tVar 6)) tNil))) [5, 6])) { nx := fun _ H' => Q .non H', rt := Q } [some (.ref a), some (.int (n : Int)), some (.ref nl), v3, some (.ref G), v5, v6] H2 := by
      intro G us v3 v5 v6 H2 k2 p2 e2 eG pG uG lG
      refine ⟨_, rfl, G, rfl, ⟨_, SqL.of eG⟩, fun D nD => ?_⟩
      refine lc_list (K := K) (a := G) (xs := rfs us) (fun i H' => Same H2 H' ∧ ∃ ts : List Pt, H' D = some (.lst (rfs ts)) ∧ Pts H' ts ∧ ts.length ≤ i ∧ ∀ t ∈ ts, ∃ j k : Nat, j < k ∧ ns[j]? = some t.2.1 ∧ ns[k]? = some t.2.2) ⟨Same.put nD, [], upd_same, fun _ m => (by cases m), Nat.le_refl _, fun _ m => (by cases m)⟩ (fun i H' _ h => SqL.of (h.1 _ _ eG)) ?_ ?_
      · rintro i x H' hx ⟨s3, ts, eD, pD, lD, aD⟩
        obtain ⟨t, ht, hm, rfl⟩ := rfs_at hx
        have il : i < 64 := by
          have := (List.getElem?_eq_some_iff.mp ht).1
          omega
        have up := uG t hm
        refine ⟨t.1, prV t.2, rfl, SqT.of (s3 _ _ (pG t hm)), rfl, _, _, rfl, _, _, rfl, rfl, rfl, ?_⟩
        refine ⟨_, rfl, _, rfl, _, _, rfl, rfl, _, rfl, iteB (fun z => ?_) (fun z => ?_)⟩
        · have zl : t.2.2 < n := by
            have := of_decide_eq_true z
            omega
          have gj : ns[t.2.1]? = some ns[t.2.1] := List.getElem?_eq_getElem (by omega)
          have gk : ns[t.2.2]? = some ns[t.2.2] := List.getElem?_eq_getElem (by omega)
          have e3 := s3 _ _ e2
          refine ⟨_, rfl, _, rfl, nl, _, _, _, rfl, rfl, SqL.of e3, atI_nat (cV_at gj), ?_⟩
          refine ⟨_, rfl, _, rfl, nl, _, _, _, rfl, rfl, SqL.of e3, atI_nat (cV_at gk), by show 2 ≤ sizeLine; decide, fun c nc => ?_⟩
          refine ⟨rfs ts, Same.put nc _ _ eD, by rw [rfs_len]; exact small_len (by omega), Same.but (fun b u e => Same.put nc _ _ (s3 _ _ e)) nD, ts ++ [(c, ns[t.2.1], ns[t.2.2])], ?_, ?_, ?_, ?_⟩
          · rw [upd_same, rfs_snoc]
          · refine Pts.snoc (fun u m => ?_) ?_
            · have nu : u.1 ≠ D := fun q => by
                have := pD u m
                rw [q, eD] at this
                cases this
              rw [upd_ne nu]
              exact Same.put nc _ _ (pD u m)
            · have ncD : c ≠ D := fun q => by
                rw [q, eD] at nc
                cases nc
              show upd _ D _ c = _
              rw [upd_ne ncD, upd_same]
          · rw [List.length_append]
            show ts.length + 1 ≤ i + 1
            omega
          · intro u m
            rcases List.mem_append.mp m with m | m
            · exact aD u m
            · rw [List.mem_singleton.mp m]
              exact ⟨t.2.1, t.2.2, up, gj, gk⟩
        · exact ⟨s3, ts, eD, pD, by omega, aD⟩
      · rintro H3 ⟨s3, ts, eD, pD, lD, aD⟩
        rw [rfs_len] at lD
        refine k D ts H3 (k2.trans (Keep.of s3)) (p2.same s3) eD pD (by omega) (fun t m => ?_) ⟨pos, pos_inj pm hpos, fun p mp => ?_⟩
        · obtain ⟨j, q, _, h1, h2⟩ := aD t m
          exact ⟨List.mem_range.mp (pm.mem_iff.mp (List.mem_of_getElem? h1)), List.mem_range.mp (pm.mem_iff.mp (List.mem_of_getElem? h2))⟩
        · obtain ⟨t, m, rfl⟩ := List.mem_map.mp mp
          obtain ⟨j, q, lt, h1, h2⟩ := aD t m
          rw [hpos j _ h1, hpos q _ h2]
          exact Nat.le_of_lt lt
    refine ⟨_, rfl, a, 8, rfl, p1, by decide, by decide, fun x o x0 x1 ho => ?_⟩
    have k2 := k1.trans (Keep.put (H := H1) o)
    have p2 : PoolAt (upd H1 a o) a := .put ho
    have e2 : (upd H1 a o) nl = some (.lst (cV ns)) := by rw [upd_ne nla]; exact e1
    generalize (upd H1 a o) = H2 at k2 p2 e2 ⊢
    refine ⟨by show 2 ≤ sizeLine; decide, fun c1 m1 => ⟨by show 2 ≤ sizeLine; decide, fun c2 m2 => ⟨by show 2 ≤ sizeLine; decide, fun c3 m3 => ⟨by show 2 ≤ sizeLine; decide, fun c4 m4 => ⟨by show 4 ≤ sizeLine; decide, fun G m5 => ?_⟩⟩⟩⟩⟩
    have s1 := Same.put (o := .tup [.int 0, .int 1]) m1
    have g1 : (upd H2 c1 (.tup [.int 0, .int 1])) c1 = some (.tup (prV (0, 1))) := upd_same
    generalize (upd H2 c1 (.tup [.int 0, .int 1])) = A1 at s1 g1 m2 m3 m4 m5 ⊢
    have s2 := Same.put (o := .tup [.int 0, .int 2]) m2
    have g2 : (upd A1 c2 (.tup [.int 0, .int 2])) c2 = some (.tup (prV (0, 2))) := upd_same
    generalize (upd A1 c2 (.tup [.int 0, .int 2])) = A2 at s2 g2 m3 m4 m5 ⊢
    have s3 := Same.put (o := .tup [.int 1, .int 3]) m3
    have g3 : (upd A2 c3 (.tup [.int 1, .int 3])) c3 = some (.tup (prV (1, 3))) := upd_same
    generalize (upd A2 c3 (.tup [.int 1, .int 3])) = A3 at s3 g3 m4 m5 ⊢
    have s4 := Same.put (o := .tup [.int 2, .int 3]) m4
    have g4 : (upd A3 c4 (.tup [.int 2, .int 3])) c4 = some (.tup (prV (2, 3))) := upd_same
    generalize (upd A3 c4 (.tup [.int 2, .int 3])) = A4 at s4 g4 m5 ⊢
    have s5 := Same.put (o := .lst [.ref c1, .ref c2, .ref c3, .ref c4]) m5
    have g5 : (upd A4 G (.lst [.ref c1, .ref c2, .ref c3, .ref c4])) G = some (.lst (rfs [((c1, 0, 1) : Pt), (c2, 0, 2), (c3, 1, 3), (c4, 2, 3)])) := upd_same
    generalize (upd A4 G (.lst [.ref c1, .ref c2, .ref c3, .ref c4])) = A5 at s5 g5 ⊢
    have sA : Same H2 A5 := (((s1.trans s2).trans s3).trans s4).trans s5
    have pA : Pts A5 [((c1, 0, 1) : Pt), (c2, 0, 2), (c3, 1, 3), (c4, 2, 3)] := fun t m => by
      simp only [List.mem_cons, List.not_mem_nil, or_false] at m
      rcases m with rfl | rfl | rfl | rfl
      · exact (((s2.trans s3).trans s4).trans s5) _ _ g1
      · exact ((s3.trans s4).trans s5) _ _ g2
      · exact (s4.trans s5) _ _ g3
      · exact s5 _ _ g4
    have uA : Up [((c1, 0, 1) : Pt), (c2, 0, 2), (c3, 1, 3), (c4, 2, 3)] := fun t m => by
      simp only [List.mem_cons, List.not_mem_nil, or_false] at m
      rcases m with rfl | rfl | rfl | rfl
      · show 0 < 1; decide
      · show 0 < 2; decide
      · show 1 < 3; decide
      · show 2 < 3; decide
    have k5 := k2.trans (Keep.of sA)
    have p5 := p2.same sA
    have e5 := sA _ _ e2
    clear s1 s2 s3 s4 s5 g1 g2 g3 g4 m1 m2 m3 m4 m5 sA k1 k2 p1 p2 e1 e2
    refine ⟨_, rfl, rfl, _, rfl, ite2 (fun _ => ?_) (fun _ => ?_)⟩
    · refine ⟨Nat.zero_le _, fun G2 m6 => ?_⟩
      exact last G2 [] _ _ _ _ (k5.trans (Keep.of (Same.put m6))) (p5.new m6) (Same.put m6 _ _ e5) upd_same (fun _ m => by cases m) (fun _ m => by cases m) (Nat.zero_le _)
    refine ⟨_, rfl, rfl, _, rfl, ite2 (fun _ => ?_) (fun _ => ?_)⟩
    · refine ⟨_, rfl, _, _, rfl, rfl, _, rfl, by omega, by omega, fun D nD => ?_⟩
      rw [show ((n : Int) - 1).toNat = n - 1 by omega]
      refine lc_range (fun i H' => Same A5 H' ∧ ∃ us : List Pt, H' D = some (.lst (rfs us)) ∧ Pts H' us ∧ Up us ∧ us.length = i) ⟨Same.put nD, [], upd_same, fun _ m => (by cases m), fun _ m => (by cases m), rfl⟩ ?_ ?_
      · rintro i H' hi ⟨s1, us, eD, pD, uD, lD⟩
        rw [Int.zero_add]
        refine ⟨rfl, yes_of ?_⟩
        refine ⟨_, rfl, _, rfl, _, _, rfl, rfl, by show 2 ≤ sizeLine; decide, fun c nc => ?_⟩
        refine ⟨rfs us, Same.put nc _ _ eD, by rw [rfs_len]; exact small_len (by omega), Same.but (fun b u e => Same.put nc _ _ (s1 _ _ e)) nD, us ++ [(c, i, i + 1)], ?_, ?_, uD.snoc (Nat.lt_succ_self i), ?_⟩
        · rw [upd_same, rfs_snoc]
        · refine Pts.snoc (Pts.lstU (pD.same (Same.put nc)) (Same.put nc _ _ eD)) ?_
          have ncD : c ≠ D := fun q => by
            rw [q, eD] at nc
            cases nc
          show upd _ D _ c = _
          rw [upd_ne ncD, upd_same]
          rfl
        · rw [List.length_append, lD]
          rfl
      · rintro H3 ⟨s1, us, eD, pD, uD, lD⟩
        exact last D us _ _ _ _ (k5.trans (Keep.of s1)) (p5.same s1) (s1 _ _ e5) eD pD uD (by omega)
    refine ⟨_, rfl, rfl, _, rfl, ite2 (fun _ => ?_) (fun _ => ?_)⟩
    · refine ⟨_, rfl, _, _, rfl, ⟨by omega, by omega, by omega, by omega⟩, fun D nD => ?_⟩
      rw [show ((n : Int) - 1).toNat = n - 1 by omega]
      refine lc_range (fun i H' => Same A5 H' ∧ ∃ us : List Pt, H' D = some (.lst (rfs us)) ∧ Pts H' us ∧ Up us ∧ us.length = i) ⟨Same.put nD, [], upd_same, fun _ m => (by cases m), fun _ m => (by cases m), rfl⟩ ?_ ?_
      · rintro i H' hi ⟨s1, us, eD, pD, uD, lD⟩
        refine ⟨rfl, yes_of ?_⟩
        refine ⟨_, rfl, by show 2 ≤ sizeLine; decide, fun c nc => ?_⟩
        refine ⟨rfs us, Same.put nc _ _ eD, by rw [rfs_len]; exact small_len (by omega), Same.but (fun b u e => Same.put nc _ _ (s1 _ _ e)) nD, us ++ [(c, 0, i + 1)], ?_, ?_, uD.snoc (Nat.succ_pos i), ?_⟩
        · rw [upd_same, rfs_snoc]
        · refine Pts.snoc (Pts.lstU (pD.same (Same.put nc)) (Same.put nc _ _ eD)) ?_
          have ncD : c ≠ D := fun q => by
            rw [q, eD] at nc
            cases nc
          show upd _ D _ c = _
          rw [upd_ne ncD, upd_same, show (1 : Int) + (i : Int) = ((i + 1 : Nat) : Int) by omega]
          rfl
        · rw [List.length_append, lD]
          rfl
      · rintro H3 ⟨s1, us, eD, pD, uD, lD⟩
        exact last D us _ _ _ _ (k5.trans (Keep.of s1)) (p5.same s1) (s1 _ _ e5) eD pD uD (by omega)
    refine ⟨_, rfl, _, _, rfl, rfl, _, rfl, iteB (fun _ => ?_) (fun _ => ?_)⟩
    · refine ⟨Nat.zero_le _, fun G2 m6 => ?_⟩
      have kB := k5.trans (Keep.of (Same.put (o := .lst []) m6))
      have pB := p5.new (o := .lst []) m6
      have eB := Same.put (o := .lst []) m6 _ _ e5
      have gB : (upd A5 G2 (.lst [])) G2 = some (.lst (rfs ([] : List Pt))) := upd_same
      have nlG : nl ≠ G2 := ne_of_none e5 m6
      have nG2 : ∀ b u, H b = some u → b ≠ a → b ≠ G2 := fun b u e ne => ne_of_none (k5 b u e ne) m6
      have aG : G2 ≠ a := fun z => by
        obtain ⟨u, e, _⟩ := p5
        rw [z, e] at m6
        cases m6
      generalize (upd A5 G2 (.lst [])) = B0 at kB pB eB gB ⊢
      refine ⟨_, rfl, n, rfl, n1, n8, fun L ls B1 s1 eL pL qL => ?_⟩
      have lls : ls.length = n * n := by
        have := congrArg List.length qL
        rw [List.length_map, allPs, List.length_map, List.length_range] at this
        exact this
      have nn : n * n ≤ 64 := Nat.mul_le_mul n8 n8
      have LG : L ≠ G2 := fun z => by
        have := s1 _ _ gB
        rw [← z, eL] at this
        have e := HO.lst.inj (Option.some.inj this)
        have e2 := congrArg List.length e
        rw [rfs_len, rfs_len, lls] at e2
        have : 1 * 1 ≤ n * n := Nat.mul_le_mul n1 n1
        simp at e2
        omega
      have La : L ≠ a := (pB.same s1).neR eL
      refine ⟨L, rfl, ⟨_, SqL.of eL⟩, for_list (K := K) (a := L) (xs := rfs ls) (fun i σ H' => ∃ v5 v6 us, σ = [some (.ref a), some (.int (n : Int)), some (.ref nl), some (.int x), some (.ref G2), v5, v6] ∧ Keep a H H' ∧ PoolAt H' a ∧ H' nl = some (.lst (cV ns)) ∧ H' L = some (.lst (rfs ls)) ∧ Pts H' ls ∧ H' G2 = some (.lst (rfs us)) ∧ Pts H' us ∧ Up us ∧ us.length ≤ i)
        ⟨_, _, [], rfl, kB.trans (Keep.of s1), pB.same s1, s1 _ _ eB, eL, pL, s1 _ _ gB, fun _ m => (by cases m), fun _ m => (by cases m), Nat.le_refl _⟩ (fun i σ H' _ h => ?_) ?_ ?_⟩
      · obtain ⟨_, _, _, _, _, _, _, e, _⟩ := h
        exact SqL.of e
      · rintro i y σ B2 hy ⟨v5, v6, us, rfl, kC, pC, eC, eL2, pL2, gC, pU, uU, lU⟩
        obtain ⟨t, ht, hm, rfl⟩ := rfs_at hy
        have il : i < 64 := by
          have := (List.getElem?_eq_some_iff.mp ht).1
          omega
        refine ⟨t.1, prV t.2, rfl, SqT.of (pL2 t hm), rfl, _, _, rfl, _, _, rfl, rfl, ?_⟩
        refine ⟨_, rfl, _, rfl, _, _, rfl, rfl, _, rfl, iteB (fun z => ?_) (fun z => ?_)⟩
        · have up : t.2.1 < t.2.2 := by
            have := of_decide_eq_true z
            omega
          refine ⟨_, rfl, a, 2, rfl, pC, by decide, by decide, fun q o q0 q1 ho => ?_⟩
          have kD := kC.trans (Keep.put (H := B2) o)
          have pD : PoolAt (upd B2 a o) a := .put ho
          have eD : (upd B2 a o) nl = some (.lst (cV ns)) := by rw [upd_ne nla]; exact eC
          have eL3 : (upd B2 a o) L = some (.lst (rfs ls)) := by rw [upd_ne La]; exact eL2
          have pL3 := pL2.pool (o := o) pC
          have gD : (upd B2 a o) G2 = some (.lst (rfs us)) := by rw [upd_ne aG]; exact gC
          have pU3 := pU.pool (o := o) pC
          generalize (upd B2 a o) = B3 at kD pD eD eL3 pL3 gD pU3 ⊢
          refine ⟨rfl, _, rfl, ite2 (fun _ => ?_) (fun _ => ?_)⟩
          · refine ⟨_, rfl, .inl ⟨rfl, _, SqL.of gD⟩, _, rfl, _, rfl, by show 2 ≤ sizeLine; decide, fun c nc => ?_⟩
            have sC := Same.put (o := .tup [.int (t.2.1 : Int), .int (t.2.2 : Int)]) nc
            have cC : (upd B3 c (.tup [.int (t.2.1 : Int), .int (t.2.2 : Int)])) c = some (.tup (prV t.2)) := upd_same
            have pE := pD.new (o := .tup [.int (t.2.1 : Int), .int (t.2.2 : Int)]) nc
            generalize (upd B3 c (.tup [.int (t.2.1 : Int), .int (t.2.2 : Int)])) = B4 at sC cC pE ⊢
            refine ⟨G2, rfs us, _, rfl, rfl, sC _ _ gD, by rw [rfs_len]; exact small_len (by omega), ?_⟩
            have g4 := sC _ _ gD
            refine ⟨_, _, us ++ [(c, t.2)], rfl, ?_, ?_, ?_, ?_, (pL3.same sC).lstU g4, ?_, ?_, uU.snoc up, ?_⟩
            · intro b u e ne
              rw [upd_ne (nG2 b u e ne)]
              exact sC _ _ (kD b u e ne)
            · obtain ⟨u, e, q⟩ := pE
              exact ⟨u, by rw [upd_ne (Ne.symm aG)]; exact e, q⟩
            · rw [upd_ne nlG]; exact sC _ _ eD
            · rw [upd_ne LG]; exact sC _ _ eL3
            · rw [upd_same, rfs_snoc]
            · refine Pts.snoc ((pU3.same sC).lstU g4) ?_
              show upd _ G2 _ c = _
              rw [upd_ne (fun z => by rw [z, g4] at cC; cases cC)]
              exact cC
            · rw [List.length_append]
              show us.length + 1 ≤ i + 1
              omega
          · exact ⟨_, _, us, rfl, kD, pD, eD, eL3, pL3, gD, pU3, uU, by omega⟩
        · exact ⟨_, _, us, rfl, kC, pC, eC, eL2, pL2, gC, pU, uU, by omega⟩
      · rintro σ B2 ⟨v5, v6, us, rfl, kC, pC, eC, eL2, pL2, gC, pU, uU, lU⟩
        rw [rfs_len, lls] at lU
        exact last G2 us _ _ _ B2 kC pC eC gC pU uU (by omega)
    · exact last G _ _ _ _ _ k5 p5 e5 g5 pA uA (by show 4 ≤ 64; decide)
end
end K6

set_option Elab.async false
set_option linter.all false
set_option maxRecDepth 100000
set_option maxHeartbeats 4000000
namespace K6
open PySem L2
/-! ### rows of flags -/
def rowV (n : Nat) (f : Nat → Bool) : List V := (List.range n).map fun t => V.bl (f t)
theorem rowV_len (n : Nat) (f : Nat → Bool) : (rowV n f).length = n := by unfold rowV; rw [List.length_map, List.length_range]
theorem rowV_at {n : Nat} {f : Nat → Bool} {t : Nat} (h : t < n) : (rowV n f)[t]? = some (V.bl (f t)) := by
  unfold rowV
  rw [List.getElem?_map, List.getElem?_range h]
  rfl
theorem rowV_succ (n : Nat) (f : Nat → Bool) : rowV (n + 1) f = rowV n f ++ [V.bl (f n)] := by
  unfold rowV
  rw [List.range_succ, List.map_append]
  rfl
def Tab (H : Hp) (l : Addr) (n : Nat) (T : Rl) : Prop := ∃ rows : List Addr, H l = some (.lst (rows.map V.ref)) ∧ rows.length = n ∧ ∀ s a, rows[s]? = some a → H a = some (.lst (rowV n (T s)))
theorem Tab.same {H H' : Hp} {l : Addr} {n : Nat} {T : Rl} (h : Tab H l n T) (s : Same H H') : Tab H' l n T := by
  obtain ⟨rows, h1, h2, h3⟩ := h
  exact ⟨rows, s _ _ h1, h2, fun i a e => s _ _ (h3 i a e)⟩
theorem ref_at {rows : List Addr} {i : Nat} {x : V} (h : (rows.map V.ref)[i]? = some x) : ∃ a, rows[i]? = some a ∧ x = .ref a := by
  rw [List.getElem?_map] at h
  cases e : rows[i]? with
  | none => rw [e] at h; cases h
  | some a => rw [e] at h; exact ⟨a, rfl, (Option.some.inj h).symm⟩
def spFlags : Sp := fun vs H Q _ => ∃ (n : Nat) (l : Addr) (ts : List Pt) (s : Nat), vs = [.int (n : Int), .ref l, .int (s : Int)] ∧ n ≤ 8 ∧ Sq H l (rfs ts) ∧ Pts H ts ∧
  ∀ (r : Addr) (H' : Hp), Same H H' → H' r = some (.lst (rowV n (orEq (memR (ts.map (·.2))) s))) → Q (.ref r) H'
def spJoined : Sp := fun vs H Q _ => ∃ (tb r : Addr) (n via : Nat) (T : Rl) (f : Nat → Bool), vs = [.ref tb, .ref r, .int (via : Int)] ∧ n ≤ 8 ∧ via < n ∧ Tab H tb n T ∧ H r = some (.lst (rowV n f)) ∧
  ∀ (r' : Addr) (H' : Hp), Same H H' → H' r' = some (.lst (rowV n fun t => f t || (f via && T via t))) → Q (.ref r') H'
def spTable : Sp := fun vs H Q _ => ∃ (n : Nat) (l : Addr) (ts : List Pt), vs = [.int (n : Int), .ref l] ∧ n ≤ 8 ∧ Sq H l (rfs ts) ∧ Pts H ts ∧
  ∀ (tb : Addr) (H' : Hp), Same H H' → H tb = none → Tab H' tb n (wars (orEq (memR (ts.map (·.2)))) n) → Q (.ref tb) H'
section
variable {P : Program} {w : World} {K : PySem.W.Frag} {mg : Str → Option Value} {base : Heap} {C : Addr}
abbrev s_flags : Stmt := top 34
theorem sc_flags : FnScope ["_law_size", "_law_pairs_here", "_law_s", "_law_t"] ["_law_size", "_law_pairs_here", "_law_s"] (defScope s_flags) := ⟨rfl, rfl, rfl, by decide +kernel, rfl, by decide +kernel, by decide +kernel⟩
theorem ok_flags {f : Addr} {fd : FuncData} (F : Fun K "_law_flags" "_law_flags" s_flags f fd) (T : Bn mg) : FnOk P w K mg base CX0 1 f fd ["_law_size", "_law_pairs_here", "_law_s"] spFlags := by
  refine F.ok sc_flags (fun vs H Q E h => ?_) (fun cdv A outer s H vs Q E hr h => ?_)
  · obtain ⟨n, l, ts, u, rfl, _⟩ := h
    rfl
  · obtain ⟨n, l, ts, u, rfl, n8, el, pt, k⟩ := h
    have hu := un65 hr
    refine ⟨_, (pss_one (ps_ret (pe_lc (own := [("_law_t", 3)]) rfl sc_flags.nd (pi_range1 (by rfl) T.n_range (pa_cons (pv 0) pa_nil)) (blkOk_by (N := ["_law_size", "_law_pairs_here", "_law_s", "_law_t"]) (sc := defScope s_flags) (by decide +kernel)) (fun _ _ _ _ _ => (pg_name (i := 3) sc_flags.nd rfl (Or.inl rfl))) (fun _ _ _ _ _ => pts_nil)
      (fun _ _ _ _ _ => (pe_or (pe_cmpR op_eq (pv 2) (pv 3) (nomark _)) (pe_one (pe_cmpR (show OpR _ _ (fun x y H Q => rInD K x y H Q ∨ rInDT K x y H Q) from op_orR (op_inD (by exact hu)) (op_inDT (by exact hu))) (pe_tup (pa_cons (pv 2) (pa_cons (pv 3) pa_nil))) (pv 1) (by rfl)))))))), ?_⟩
    refine ⟨_, rfl, _, rfl, by omega, by omega, fun D nD => ?_⟩
    rw [Int.toNat_natCast]
    refine lc_range (fun i H' => Same H H' ∧ H' D = some (.lst (rowV i (orEq (memR (ts.map (·.2))) u)))) ⟨Same.put nD, upd_same⟩ ?_ ?_
    · rintro i H' hi ⟨s1, eD⟩
      rw [Int.zero_add]
      refine ⟨rfl, yes_of ?_⟩
      have fin : ∀ (b : Bool) (H4 : Hp), b = orEq (memR (ts.map (·.2))) u i → Same H' H4 → ∃ acc, H4 D = some (.lst acc) ∧ acc.length < sizeLine ∧ Same H (upd H4 D (.lst (acc ++ [V.bl b]))) ∧ upd H4 D (.lst (acc ++ [V.bl b])) D = some (.lst (rowV (i + 1) (orEq (memR (ts.map (·.2))) u))) := fun b H4 hb s4 =>
        ⟨_, s4 _ _ eD, by rw [rowV_len]; exact small_len (by omega), Same.but (fun b u e => s4 _ _ (s1 _ _ e)) nD, by rw [upd_same, rowV_succ, hb]⟩
      refine ⟨_, rfl, _, rfl, rfl, _, rfl, iteB (fun z => ?_) (fun z => ?_)⟩
      · refine fin true H' ?_ (Same.refl H')
        have : u = i := by
          have := of_decide_eq_true z
          rw [V.int.injEq] at this
          omega
        exact (orEq_iff.mpr (.inl this)).symm
      · refine ⟨_, rfl, _, rfl, by show 2 ≤ sizeLine; decide, fun c nc => ?_⟩
        have sC := Same.put (o := .tup [.int (u : Int), .int (i : Int)]) nc
        have eC : (upd H' c (.tup [.int (u : Int), .int (i : Int)])) c = some (.tup ((pI (u, i)).map V.int)) := upd_same
        generalize (upd H' c (.tup [.int (u : Int), .int (i : Int)])) = H4 at sC eC ⊢
        have ne : u ≠ i := fun e => by
          rw [e] at z
          simp at z
        have eb : decide ((u, i) ∈ ts.map (·.2)) = orEq (memR (ts.map (·.2))) u i := by
          unfold orEq memR
          rw [decide_eq_false ne, Bool.false_or]
        rcases el with el | el
        · refine ⟨_, rfl, .inl ⟨dI (pI (u, i)), _, dp_tup (SqT.of eC), .lst (SqL.of (sC _ _ (s1 _ _ el))) (Pts.dp ((pt.same s1).same sC)), sh_dI _, sh_list _, ?_⟩⟩
          rw [any_pI]
          exact fin _ H4 eb sC
        · refine ⟨_, rfl, .inr ⟨dI (pI (u, i)), _, dp_tup (SqT.of eC), .tup (SqT.of (sC _ _ (s1 _ _ el))) (Pts.dp ((pt.same s1).same sC)), sh_dI _, sh_tup _, ?_⟩⟩
          rw [any_pI]
          exact fin _ H4 eb sC
    · rintro H1 ⟨s1, eD⟩
      exact k D H1 s1 eD
abbrev s_joined : Stmt := top 35
theorem sc_joined : FnScope ["_law_table_here", "_law_row", "_law_via", "_law_t"] ["_law_table_here", "_law_row", "_law_via"] (defScope s_joined) := ⟨rfl, rfl, rfl, by decide +kernel, rfl, by decide +kernel, by decide +kernel⟩
theorem ok_joined {f : Addr} {fd : FuncData} (F : Fun K "_law_joined" "_law_joined" s_joined f fd) (T : Bn mg) : FnOk P w K mg base CX0 1 f fd ["_law_table_here", "_law_row", "_law_via"] spJoined := by
  refine F.ok sc_joined (fun vs H Q E h => ?_) (fun cdv A outer s H vs Q E hr h => ?_)
  · obtain ⟨tb, r, n, via, R, g, rfl, _⟩ := h
    rfl
  · obtain ⟨tb, r, n, via, R, g, rfl, n8, hv, ht, er, k⟩ := h
    refine ⟨_, (pss_cons (ps_if (pt_not (pt_val (pe_ix ix_list (pv 1) (pv 2) (fun _ _ => rfl))))
        (pss_one (ps_ret (pv 1)))
        pss_nil)
      (pss_one (ps_ret (pe_lc (own := [("_law_t", 3)]) rfl sc_joined.nd (pi_range1 (by rfl) T.n_range (pa_cons (pe_callB call_len_seq (by rfl) T.n_len PySem.boot_len (pa_cons (pv 1) pa_nil)) pa_nil)) (blkOk_by (N := ["_law_table_here", "_law_row", "_law_via", "_law_t"]) (sc := defScope s_joined) (by decide +kernel)) (fun _ _ _ _ _ => (pg_name (i := 3) sc_joined.nd rfl (Or.inl rfl))) (fun _ _ _ _ _ => pts_nil)
        (fun _ _ _ _ _ => (pe_or (pe_ix (show IxR _ (rIxL K) from ix_list) (pv 1) (pv 3) (fun _ _ => rfl)) (pe_one (pe_ix (show IxR _ (rIxL K) from ix_list) (pe_ix (show IxR _ (rIxL K) from ix_list) (pv 0) (pv 2) (fun _ _ => rfl)) (pv 3) (fun _ _ => rfl))))))))), ?_⟩
    refine ⟨_, rfl, _, rfl, r, _, _, _, rfl, rfl, SqL.of er, atI_nat (rowV_at hv), _, rfl, ?_⟩
    cases hg : g via with
    | false =>
      refine iteT ⟨_, rfl, k r H (Same.refl H) ?_⟩
      rw [er]
      congr 2
      unfold rowV
      refine List.map_congr_left fun t _ => ?_
      simp [hg]
    | true =>
      refine iteF ⟨_, rfl, r, _, rfl, .inl (SqL.of er), _, rfl, by rw [rowV_len]; omega, by rw [rowV_len]; omega, fun D nD => ?_⟩
      rw [rowV_len, Int.toNat_natCast]
      obtain ⟨rows, h1, h2, h3⟩ := ht
      have hrow : rows[via]? = some rows[via] := List.getElem?_eq_getElem (by omega)
      refine lc_range (fun i H' => Same H H' ∧ H' D = some (.lst (rowV i fun t => g t || (g via && R via t)))) ⟨Same.put nD, upd_same⟩ ?_ ?_
      · rintro i H' hi ⟨s1, eD⟩
        rw [Int.zero_add]
        refine ⟨rfl, yes_of ?_⟩
        have fin : ∀ (b : Bool), b = (g i || (g via && R via i)) → ∃ acc, H' D = some (.lst acc) ∧ acc.length < sizeLine ∧ Same H (upd H' D (.lst (acc ++ [V.bl b]))) ∧ upd H' D (.lst (acc ++ [V.bl b])) D = some (.lst (rowV (i + 1) fun t => g t || (g via && R via t))) := fun b hb =>
          ⟨_, eD, by rw [rowV_len]; exact small_len (by omega), Same.but (fun b u e => s1 _ _ e) nD, by rw [upd_same, rowV_succ, hb]⟩
        refine ⟨_, rfl, _, rfl, r, _, _, _, rfl, rfl, SqL.of (s1 _ _ er), atI_nat (rowV_at hi), _, rfl, iteB (fun z => ?_) (fun z => ?_)⟩
        · exact fin true (by rw [z]; rfl)
        · refine ⟨_, rfl, _, rfl, tb, _, _, _, rfl, rfl, SqL.of (s1 _ _ h1), atI_nat (by rw [List.getElem?_map, hrow]; rfl), ?_⟩
          refine ⟨_, rfl, rows[via], _, _, _, rfl, rfl, SqL.of (s1 _ _ (h3 _ _ hrow)), atI_nat (rowV_at hi), ?_⟩
          exact fin _ (by rw [z, hg]; rfl)
      · rintro H1 ⟨s1, eD⟩
        exact k D H1 s1 eD
end
end K6

set_option Elab.async false
set_option linter.all false
set_option maxRecDepth 100000
set_option maxHeartbeats 4000000
namespace K6
open PySem L2
section
variable {P : Program} {w : World} {K : PySem.W.Frag} {mg : Str → Option Value} {base : Heap} {C : Addr}
abbrev s_table : Stmt := top 36
abbrev nTb : List Str := ["_law_size", "_law_pairs_here", "_law_table_here", "_law_via", "_law_s", "_law_row"]
theorem sc_table : FnScope nTb ["_law_size", "_law_pairs_here"] (defScope s_table) := ⟨rfl, rfl, rfl, by decide +kernel, rfl, by decide +kernel, by decide +kernel⟩
theorem ok_table {f : Addr} {fd : FuncData} (F : Fun K "_law_table" "_law_table" s_table f fd) (T : Bn mg) (c_flags : Cal P w K mg base 1 "_law_flags" ["_law_size", "_law_pairs_here", "_law_s"] spFlags) (c_joined : Cal P w K mg base 1 "_law_joined" ["_law_table_here", "_law_row", "_law_via"] spJoined) :
    FnOk P w K mg base CX0 2 f fd ["_law_size", "_law_pairs_here"] spTable := by
  refine F.ok sc_table (fun vs H Q E h => ?_) (fun cdv A outer s H vs Q E hr h => ?_)
  · obtain ⟨n, l, ts, rfl, _⟩ := h
    rfl
  · obtain ⟨n, l, ts, rfl, n8, el, pt, k⟩ := h
    refine ⟨_, (pss_cons (ps_set (i := 2) sc_table.nd rfl (Or.inr rfl) (pe_lc (own := [("_law_s", 4)]) rfl sc_table.nd (pi_range1 (by rfl) T.n_range (pa_cons (pv 0) pa_nil)) (blkOk_by (N := nTb) (sc := defScope s_table) (by decide +kernel)) (fun _ _ _ _ _ => (pg_name (i := 4) sc_table.nd rfl (Or.inl rfl))) (fun _ _ _ _ _ => pts_nil)
        (fun _ _ _ _ _ => (pe_cal c_flags (hr.mono (by decide)) rfl (pa_cons (pv 0) (pa_cons (pv 1) (pa_cons (pv 4) pa_nil)))))))
      (pss_cons (ps_for PassesOwn.never rfl (pi_range1 (by rfl) T.n_range (pa_cons (pv 0) pa_nil)) (pg_name (i := 3) sc_table.nd rfl (Or.inr rfl))
        (pss_one (ps_set (i := 2) sc_table.nd rfl (Or.inr rfl) (pe_lc (own := [("_law_row", 5)]) rfl sc_table.nd (pi_list (pv 2)) (blkOk_by (N := nTb) (sc := defScope s_table) (by decide +kernel)) (fun _ _ _ _ _ => (pg_name (i := 5) sc_table.nd rfl (Or.inl rfl))) (fun _ _ _ _ _ => pts_nil)
          (fun _ _ _ _ _ => (pe_cal c_joined (hr.mono (by decide)) rfl (pa_cons (pv 2) (pa_cons (pv 5) (pa_cons (pv 3) pa_nil)))))))))
      (pss_one (ps_ret (pv 2))))), ?_⟩
    refine ⟨_, rfl, _, rfl, by omega, by omega, fun D nD => ?_⟩
    rw [Int.toNat_natCast]
    let rows0 : Nat → Rl → (Nat → Hp → Hp → Addr → Prop) := fun n R i H0 H' D => Same H0 H' ∧ ∃ rows : List Addr, H' D = some (.lst (rows.map V.ref)) ∧ rows.length = i ∧ ∀ s a, rows[s]? = some a → H' a = some (.lst (rowV n (R s)))
    have grow : ∀ {H0 H' H4 : Hp} {D r : Addr} {R : Rl} {i : Nat}, H0 D = none → i < 64 → (Same H0 H' ∧ ∃ rows : List Addr, H' D = some (.lst (rows.map V.ref)) ∧ rows.length = i ∧ (∀ a ∈ rows, a ≠ D) ∧ ∀ s a, rows[s]? = some a → H' a = some (.lst (rowV n (R s)))) → Same H' H4 → H4 r = some (.lst (rowV n (R i))) → r ≠ D →
        ∃ acc, H4 D = some (.lst acc) ∧ acc.length < sizeLine ∧ Same H0 (upd H4 D (.lst (acc ++ [V.ref r]))) ∧ ∃ rows : List Addr, upd H4 D (.lst (acc ++ [V.ref r])) D = some (.lst (rows.map V.ref)) ∧ rows.length = i + 1 ∧ (∀ a ∈ rows, a ≠ D) ∧ ∀ s a, rows[s]? = some a → upd H4 D (.lst (acc ++ [V.ref r])) a = some (.lst (rowV n (R s))) := by
      rintro H0 H' H4 D r R i nD il ⟨s1, rows, eD, lD, dD, aD⟩ s4 er rD
      refine ⟨_, s4 _ _ eD, by rw [List.length_map]; exact small_len (by omega), Same.but (fun b u e => s4 _ _ (s1 _ _ e)) nD, rows ++ [r], ?_, ?_, fun a m => ?_, fun s a e => ?_⟩
      · rw [upd_same, List.map_append]
        rfl
      · rw [List.length_append, lD]
        rfl
      · rcases List.mem_append.mp m with m | m
        · exact dD a m
        · rw [List.mem_singleton.mp m]; exact rD
      · rcases Nat.lt_or_ge s rows.length with h | h
        · rw [List.getElem?_append_left h] at e
          rw [upd_ne (dD a (List.mem_of_getElem? e))]
          exact s4 _ _ (aD s a e)
        · rw [List.getElem?_append_right h] at e
          have hz : s - rows.length = 0 := by
            have := (List.getElem?_eq_some_iff.mp e).1
            simpa using this
          rw [hz] at e
          have e' : r = a := by simpa using e
          have es : s = i := by omega
          rw [← e', es, upd_ne rD]
          exact er
    -- a row is no list of rows
    have rowNe : ∀ {H' : Hp} {D r : Addr} {rows : List Addr} {g : Nat → Bool}, H' D = some (.lst (rows.map V.ref)) → H' r = some (.lst (rowV n g)) → n ≠ 0 → r ≠ D := by
      intro H' D r rows g eD er hn z
      rw [z, eD] at er
      have e := HO.lst.inj (Option.some.inj er)
      have h0 : (rowV n g)[0]? = some (V.bl (g 0)) := rowV_at (by omega)
      rw [← e, List.getElem?_map] at h0
      cases hh : rows[0]? with
      | none => rw [hh] at h0; cases h0
      | some q => rw [hh] at h0; cases h0
    refine lc_range (fun i H' => Same H H' ∧ ∃ rows : List Addr, H' D = some (.lst (rows.map V.ref)) ∧ rows.length = i ∧ (∀ a ∈ rows, a ≠ D) ∧ ∀ s a, rows[s]? = some a → H' a = some (.lst (rowV n (orEq (memR (ts.map (·.2))) s)))) ⟨Same.put nD, [], upd_same, rfl, fun _ m => (by cases m), fun s a e => by simp at e⟩ ?_ ?_
    · rintro i H' hi p
      rw [Int.zero_add]
      refine ⟨rfl, yes_of ?_⟩
      obtain ⟨s1, rows, eD, lD, dD, aD⟩ := id p
      refine ⟨_, rfl, _, rfl, _, rfl, n, l, ts, i, rfl, n8, el.same (s1 l), pt.same s1, fun r H4 s4 er => ?_⟩
      exact grow nD (by omega) p s4 er (rowNe (s4 _ _ eD) er (by omega))
    rintro H1 ⟨s1, rows, eD, lD, dD, aD⟩
    refine ⟨_, rfl, _, rfl, by omega, by omega, ?_⟩
    rw [Int.toNat_natCast]
    refine for_range (fun i σ H' => ∃ v3 tb, σ = [some (.int (n : Int)), some (.ref l), some (.ref tb), v3, none, none] ∧ Same H H' ∧ H tb = none ∧ Tab H' tb n (wars (orEq (memR (ts.map (fun t : Pt => t.2)))) i)) ⟨none, D, rfl, s1, nD, rows, eD, lD, aD⟩ ?_ ?_
    · rintro i σ H2 hi ⟨v3, tb, rfl, s2, ntb, tab⟩
      rw [Int.zero_add]
      obtain ⟨rws, e2, l2, a2⟩ := id tab
      refine ⟨_, rfl, tb, rfl, ⟨_, SqL.of e2⟩, fun G nG => ?_⟩
      refine lc_list (K := K) (a := tb) (xs := rws.map V.ref) (fun j H' => Same H2 H' ∧ ∃ rows : List Addr, H' G = some (.lst (rows.map V.ref)) ∧ rows.length = j ∧ (∀ a ∈ rows, a ≠ G) ∧ ∀ s a, rows[s]? = some a → H' a = some (.lst (rowV n (wars (orEq (memR (ts.map (·.2)))) (i + 1) s)))) ⟨Same.put nG, [], upd_same, rfl, fun _ m => (by cases m), fun s a e => by simp at e⟩ (fun j H' _ h => SqL.of (h.1 _ _ e2)) ?_ ?_
      · rintro j x H' hx p
        obtain ⟨a, ha, rfl⟩ := ref_at hx
        obtain ⟨s3, rows3, e3, l3, d3, a3⟩ := id p
        have jl : j < n := by
          have := (List.getElem?_eq_some_iff.mp ha).1
          omega
        refine ⟨rfl, yes_of ?_⟩
        refine ⟨_, rfl, _, rfl, _, rfl, tb, a, n, i, _, _, rfl, n8, hi, tab.same s3, s3 _ _ (a2 j a ha), fun r H4 s4 er => ?_⟩
        exact grow nG (by omega) p s4 er (rowNe (s4 _ _ e3) er (by omega))
      · rintro H3 ⟨s3, rows3, e3, l3, d3, a3⟩
        exact ⟨_, G, rfl, s2.trans s3, s2.free nG, rows3, e3, by rw [l3, List.length_map, l2], a3⟩
    · rintro σ H2 ⟨v3, tb, rfl, s2, ntb, tab⟩
      exact ⟨_, rfl, k tb H2 s2 ntb tab⟩
end
end K6

set_option Elab.async false
set_option linter.all false
set_option maxRecDepth 100000
set_option maxHeartbeats 4000000
namespace K6
open PySem L2
/-! ### what is due -/
theorem wars_congr {R S : Rl} {n : Nat} (h : ∀ s t, s < n → t < n → R s t = S s t) : ∀ k, k ≤ n → ∀ s t, s < n → t < n → wars R k s t = wars S k s t
  | 0, _, s, t, hs, ht => h s t hs ht
  | k + 1, hk, s, t, hs, ht => by
    have ih := wars_congr h k (by omega)
    show wstep (wars R k) k s t = wstep (wars S k) k s t
    unfold wstep
    rw [ih s t hs ht, ih s k hs (by omega), ih k t (by omega) ht]
theorem line_low (n : Nat) : lowL n (wars (memR (linePs n)) n) = lowL n fun s t => decide (s < t) := by
  refine low_congr fun s t hs ht => ?_
  rw [wars_congr (R := memR (linePs n)) (S := lineR) (fun s t hs ht => ?_) n (Nat.le_refl _) s t hs ht, line_wars ht]
  unfold memR lineR linePs
  refine decide_eq_decide.mpr ?_
  rw [List.mem_map]
  constructor
  · rintro ⟨i, _, e⟩
    have e1 := (Prod.mk.inj e).1
    have e2 := (Prod.mk.inj e).2
    omega
  · intro e
    exact ⟨s, List.mem_range.mpr (by omega), by rw [e]⟩
section
variable {n : Nat} {R : Rl} (tr : ∀ k s t, k < n → R s k = true → R k t = true → R s t = true) (an : Anti n R)
theorem turn_mem {s t : Nat} : memR ((lowL n R).map swp) s t = true ↔ s < n ∧ t < n ∧ t ≠ s ∧ R t s = true := by
  unfold memR
  rw [decide_eq_true_eq, List.mem_map]
  constructor
  · rintro ⟨p, hp, e⟩
    obtain ⟨h1, h2, h3, h4⟩ := mem_low.mp hp
    have e1 : p.2 = s := (Prod.mk.inj e).1
    have e2 : p.1 = t := (Prod.mk.inj e).2
    rw [e1] at h2 h3 h4
    rw [e2] at h1 h3 h4
    exact ⟨h2, h1, h3, h4⟩
  · rintro ⟨h1, h2, h3, h4⟩
    exact ⟨(t, s), mem_low.mpr ⟨h2, h1, h3, h4⟩, rfl⟩
include tr an
theorem turn_self : wars (memR ((lowL n R).map swp)) n = memR ((lowL n R).map swp) := by
  refine wars_self (fun k s t h1 h2 => ?_) n
  obtain ⟨a1, a2, a3, a4⟩ := turn_mem.mp h1
  obtain ⟨b1, b2, b3, b4⟩ := turn_mem.mp h2
  refine turn_mem.mpr ⟨a1, b2, fun e => ?_, tr k t s a2 b4 a4⟩
  rw [e] at b4
  exact a3 (an _ _ a4 b4)
theorem turn_anti : Anti n (wars (memR ((lowL n R).map swp)) n) := by
  rw [turn_self tr an]
  intro s t h1 h2
  exact an _ _ (turn_mem.mp h2).2.2.2 (turn_mem.mp h1).2.2.2
theorem turn_low : lowL n (wars (memR ((lowL n R).map swp)) n) = lowL n (sw R) := by
  rw [turn_self tr an]
  unfold lowL
  refine List.filter_congr fun p hp => ?_
  obtain ⟨h1, h2⟩ := mem_prs.mp hp
  unfold keepB
  by_cases e : p.1 = p.2
  · rw [decide_eq_false (fun z => z e), Bool.false_and, Bool.false_and]
  · rw [decide_eq_true e, Bool.true_and, Bool.true_and, Bool.eq_iff_iff]
    constructor
    · exact fun h => (turn_mem.mp h).2.2.2
    · exact fun h => turn_mem.mpr ⟨h1, h2, fun z => e z.symm, h⟩
end
theorem allPs_eq : ∀ n : Nat, n ≤ 8 → allPs n = prs n := by
  have h : ∀ n : Fin 9, allPs n = prs n := by decide +kernel
  intro n hn
  exact h ⟨n, by omega⟩
structure BelowT (P : Program) (w : World) (K : PySem.W.Frag) (mg : Str → Option Value) (base : Heap) (S C B : Addr) : Prop where
  ex : ∃ (f : Addr) (fd : FuncData), Meth K C "below" f ∧ FnOk P w K mg base (L2.CX P w) 6 f fd ["self", "s", "t"] (spBelow S C B) ∧ Binds K fd ["self", "s", "t"] []
/-- _law_is_told(order, size, table) -/
def spTold (C : Addr) : Sp := fun vs H Q _ => ∃ (o tb : Addr) (n : Nat) (R : Rl), vs = [.ref o, .int (n : Int), .ref tb] ∧ 1 ≤ n ∧ n ≤ 8 ∧ IsOrd C H o n (lowL n R) ∧ Tab H tb n (orEq R) ∧ ∀ H', Same H H' → Q (.bl true) H'
theorem low_len {n : Nat} (R : Rl) (n8 : n ≤ 8) : (lowL n R).length ≤ 64 := Nat.le_trans (List.length_filter_le _ _) (prs_len n n8)
theorem same_new {H H' : Hp} {l : Addr} {o : HO} (s : Same H H') (n : H l = none) : Same H (upd H' l o) := fun b u e => by
  rw [upd_ne (ne_of_none e n)]
  exact s b u e
theorem orEq_low {n s t : Nat} (R : Rl) (hs : s < n) (ht : t < n) : (decide (s = t) || decide ((s, t) ∈ lowL n R)) = orEq R s t := by
  unfold orEq
  by_cases e : s = t
  · rw [decide_eq_true e, Bool.true_or, Bool.true_or]
  · rw [decide_eq_false e, Bool.false_or, Bool.false_or, Bool.eq_iff_iff, decide_eq_true_eq, mem_low]
    exact ⟨fun h => h.2.2.2, fun h => ⟨hs, ht, e, h⟩⟩
theorem iteN {α : Type} [DecidableEq α] {x : α} {A B : Prop} (h : B) : if (!decide (x = x)) = true then A else B := by
  rw [decide_eq_true rfl]
  exact h
section
variable {P : Program} {w : World} {K : PySem.W.Frag} {mg : Str → Option Value} {base : Heap} {C S B : Addr}
abbrev s_told : Stmt := top 40
abbrev nTo : List Str := ["_law_order", "_law_size", "_law_table_here", "_law_s", "_law_t", "_law_told", "_law_listed", "_law_due", "_law_pair"]
theorem sc_told : FnScope nTo ["_law_order", "_law_size", "_law_table_here"] (defScope s_told) := ⟨rfl, rfl, rfl, by decide +kernel, rfl, by decide +kernel, by decide +kernel⟩
theorem ok_told {f : Addr} {fd : FuncData} (F : Fun K "_law_is_told" "_law_is_told" s_told f fd) (T : OrT K mg C) (bt : BelowT P w K mg base S C B) (pt : PairsT P w K mg base C) (c_int : Cal P w K mg base 1 "_law_is_integer" ["_law_thing"] (spWhole S)) (c_lp : Cal P w K mg base 1 "_law_pairs" ["_law_size"] spLawPairs) :
    FnOk P w K mg base CX0 7 f fd ["_law_order", "_law_size", "_law_table_here"] (spTold C) := by
  obtain ⟨gb, gbd, Mb, Gb, bGb⟩ := bt.ex
  obtain ⟨gp, gpd, Mp, Gp, bGp⟩ := pt.ex
  refine F.ok sc_told (fun vs H Q E h => ?_) (fun cdv A outer s H vs Q E hr h => ?_)
  · obtain ⟨o, tb, n, R, rfl, _⟩ := h
    rfl
  · obtain ⟨o, tb, n, R, rfl, n1, n8, ho, tab, k⟩ := h
    have h64 := un64x hr
    refine ⟨_, (pss_cons (ps_if (PW.pt (pw_or (pt_not (pt_val (pe_cal c_int (hr.mono (by decide)) rfl (pa_cons (pe_fld (pv 0) rfl) pa_nil)))) (pw_or1 (pt_cmpR op_ne (pe_fld (pv 0) rfl) (pv 1) (nomark _)))))
        (pss_one (ps_ret pe_bl))
        pss_nil)
      (pss_cons (ps_for PassesOwn.never rfl (pi_list (pe_cal c_lp (hr.mono (by decide)) rfl (pa_cons (pv 1) pa_nil))) (pg_tup (by rfl) (pgs_cons (pg_name (i := 3) sc_told.nd rfl (Or.inl rfl)) (pgs_cons (pg_name (i := 4) sc_told.nd rfl (Or.inl rfl)) pgs_nil)))
        (pss_cons (ps_set (i := 5) sc_told.nd rfl (Or.inl rfl) (pe_meth (pl := _) (pv 0) T.cl Mb Gb (hr.mono (by decide)) bGb .nil passX (pa_cons (pv 3) (pa_cons (pv 4) pa_nil))))
          (pss_one (ps_if (PW.pt (pw_or (pt_not (pt_val (pe_callB call_isi (by rfl) T.bn.n_isinstance (by decide +kernel) (pa_cons (pv 5) (pa_cons (pe_bltn (v := .ty "bool") rfl T.bn.n_bool (by decide +kernel) rfl) pa_nil))))) (pw_or1 (pt_cmpR op_ne (pv 5) (pe_ix ix_list (pe_ix ix_list (pv 2) (pv 3) (fun _ _ => rfl)) (pv 4) (fun _ _ => rfl)) (nomark _)))))
            (pss_one (ps_ret pe_bl))
            pss_nil))))
      (pss_cons (ps_set (i := 6) sc_told.nd rfl (Or.inl rfl) (pe_meth0 (pl := _) (pv 0) T.cl Mp Gp (hr.mono (by decide)) bGp .nil pass0))
      (pss_cons (ps_setLc (i := 7) (own := [("_law_pair", 8)]) rfl sc_told.nd rfl rfl (sw_true rfl rfl rfl (by decide +kernel)) (pi_list (pe_cal c_lp (hr.mono (by decide)) rfl (pa_cons (pv 1) pa_nil))) (blkOk_by (N := nTo) (sc := defScope s_told) (by decide +kernel)) (fun _ _ _ _ _ => (pg_name (i := 8) sc_told.nd rfl (Or.inl rfl))) (fun _ _ _ _ _ => (pts_one (PW.pt (pw_and (pt_cmpR op_ne (pe_ix (show IxR _ (rIxT K) from ix_tup) (pv 8) pe_int (fun _ _ => rfl)) (pe_ix (show IxR _ (rIxT K) from ix_tup) (pv 8) pe_int (fun _ _ => rfl)) (nomark _)) (pw_and1 (pt_val (pe_ix (show IxR _ (rIxL K) from ix_list) (pe_ix (show IxR _ (rIxL K) from ix_list) (pv 2) (pe_ix (show IxR _ (rIxT K) from ix_tup) (pv 8) pe_int (fun _ _ => rfl)) (fun _ _ => rfl)) (pe_ix (show IxR _ (rIxT K) from ix_tup) (pv 8) pe_int (fun _ _ => rfl)) (fun _ _ => rfl)))))))) (fun _ _ _ _ _ => (pv 8)))
      (pss_cons (ps_if (PW.pt (pw_or (pt_not (pt_val (pe_callB call_isi (by rfl) T.bn.n_isinstance (by decide +kernel) (pa_cons (pv 6) (pa_cons (pe_bltn (v := .ty "list") rfl T.bn.n_list (by decide +kernel) rfl) pa_nil))))) (pw_or1 (pt_cmpR (op_neD (by exact h64)) (pv 6) (pv 7) (nomark _)))))
        (pss_one (ps_ret pe_bl))
        pss_nil)
      (pss_cons (ps_expr (pe_bm PySem.F.plainAttrs_list PySem.F.slot_list_append PySem.F.type_list_append mt_append (pv 6) (pa_cons (pe_tup (pa_cons pe_int (pa_cons pe_int pa_nil))) pa_nil)))
      (pss_one (ps_ret (pe_cmpR (op_eqD (by exact h64)) (pe_meth0 (pl := _) (pv 0) T.cl Mp Gp (hr.mono (by decide)) bGp .nil pass0) (pv 7) (nomark _)))))))))), ?_⟩
    obtain ⟨dx, L, ts, h1, h2, h3, h4⟩ := id ho
    have ea := allPs_eq n n8
    refine ⟨_, rfl, o, C, dx, _, _, rfl, h1, T.cl, T.nS, ordF_size _ _, _, _, rfl, .int _, _, rfl, ?_⟩
    refine iteF ?_
    refine ⟨_, rfl, o, C, dx, _, _, rfl, h1, T.cl, T.nS, ordF_size _ _, _, rfl, rfl, _, rfl, ?_⟩
    refine iteN ?_
    -- below
    refine ⟨_, rfl, n, rfl, n1, n8, fun G us H1 s1 eG pG uG => ?_⟩
    rw [ea] at uG
    refine ⟨G, rfl, ⟨_, SqL.of eG⟩, for_list (K := K) (a := G) (xs := rfs us) (fun j σ H' => ∃ v3 v4 v5, σ = [some (.ref o), some (.int n), some (.ref tb), v3, v4, v5, none, none, none] ∧ Same H1 H') ⟨_, _, _, rfl, Same.refl H1⟩ ?_ ?_ ?_⟩
    · rintro j σ H' _ ⟨_, _, _, _, s2⟩
      exact SqL.of (s2 _ _ eG)
    · rintro j x σ H' hx ⟨v3, v4, v5, rfl, s2⟩
      obtain ⟨t, ht, hm, rfl⟩ := rfs_at hx
      have i0 : (prs n)[j]? = some t.2 := by rw [← uG, List.getElem?_map, ht]; rfl
      obtain ⟨t1, t2⟩ := mem_prs.mp (List.mem_of_getElem? i0)
      refine ⟨t.1, prV t.2, rfl, SqT.of (s2 _ _ (pG t hm)), rfl, _, _, rfl, _, _, rfl, rfl, ?_⟩
      refine ⟨_, rfl, o, dx, _, rfl, (s1.trans s2) _ _ h1, ordF_none _ _ (by decide +kernel) (by decide +kernel), _, rfl, _, rfl, o, n, lowL n R, _, _, _, _, rfl, ho.same (s1.trans s2), .int _, .int _, .inl ⟨t.2.1, t.2.2, rfl, rfl, t1, t2, fun H4 s4 => ?_⟩⟩
      obtain ⟨rows, r1, r2, r3⟩ := tab.same ((s1.trans s2).trans s4)
      have hrow : rows[t.2.1]? = some rows[t.2.1] := List.getElem?_eq_getElem (by omega)
      refine ⟨_, rfl, .bl _, .ty "bool", _, _, true, rfl, .ty _, .base (.bl _), kit_ty (r := true) (by decide +kernel), _, rfl, iteF ?_⟩
      refine ⟨_, rfl, _, rfl, _, rfl, tb, _, _, _, rfl, rfl, SqL.of r1, atI_nat (by rw [List.getElem?_map, hrow]; rfl), ?_⟩
      refine ⟨_, rfl, rows[t.2.1], _, _, _, rfl, rfl, SqL.of (r3 _ _ hrow), atI_nat (rowV_at t2), rfl, _, rfl, ?_⟩
      rw [orEq_low R t1 t2]
      exact iteN ⟨_, _, _, rfl, s2.trans s4⟩
    rintro σ H2 ⟨v3, v4, v5, rfl, s2⟩
    have s02 := s1.trans s2
    clear pG eG uG s1
    refine ⟨_, rfl, o, dx, _, rfl, s02 _ _ h1, ordF_none _ _ (by decide +kernel) (by decide +kernel), o, n, lowL n R, rfl, ho.same s02, fun l ls H3 s3 nl el pl ql => ?_⟩
    refine ⟨_, rfl, n, rfl, n1, n8, fun G us H4 s4 eG pG uG => ?_⟩
    rw [ea] at uG
    refine ⟨G, rfl, ⟨_, SqL.of eG⟩, fun D nD => ?_⟩
    have s04 := (s02.trans s3).trans s4
    refine lc_list (K := K) (a := G) (xs := rfs us) (fun i H' => Same H4 H' ∧ ∃ ds : List Pt, H' D = some (.lst (rfs ds)) ∧ Pts H' ds ∧ ds.map (·.2) = ((prs n).take i).filter (keepB R) ∧ ds.length ≤ i) ⟨Same.put nD, [], upd_same, fun _ m => (by cases m), rfl, Nat.zero_le _⟩ (fun i H' _ h => SqL.of (h.1 _ _ eG)) ?_ ?_
    · rintro i x H' hx ⟨s5, ds, eD, pD, qD, lD⟩
      obtain ⟨t, ht, hm, rfl⟩ := rfs_at hx
      have i0 : (prs n)[i]? = some t.2 := by rw [← uG, List.getElem?_map, ht]; rfl
      obtain ⟨t1, t2⟩ := mem_prs.mp (List.mem_of_getElem? i0)
      have il : i < 64 := by
        have := (List.getElem?_eq_some_iff.mp i0).1
        have := prs_len n n8
        omega
      have et := s5 _ _ (pG t hm)
      have no : keepB R t.2 = false → ds.map (·.2) = ((prs n).take (i + 1)).filter (keepB R) := fun hb => by
        rw [take_more i0, List.filter_append, qD, List.filter_cons, hb]
        simp
      obtain ⟨rows, r1, r2, r3⟩ := tab.same (s04.trans s5)
      have hrow : rows[t.2.1]? = some rows[t.2.1] := List.getElem?_eq_getElem (by omega)
      refine ⟨rfl, ?_⟩
      refine ⟨_, rfl, t.1, _, _, _, rfl, rfl, SqT.of et, at0, ?_⟩
      refine ⟨_, rfl, t.1, _, _, _, rfl, rfl, SqT.of et, at1, rfl, _, rfl, iteB (fun z => ?_) (fun z => ?_)⟩
      · have ne : t.2.1 ≠ t.2.2 := fun q => by
          rw [q] at z
          simp at z
        refine ⟨_, rfl, _, rfl, t.1, _, _, _, rfl, rfl, SqT.of et, at0, tb, _, _, _, rfl, rfl, SqL.of r1, atI_nat (by rw [List.getElem?_map, hrow]; rfl), ?_⟩
        refine ⟨_, rfl, t.1, _, _, _, rfl, rfl, SqT.of et, at1, rows[t.2.1], _, _, _, rfl, rfl, SqL.of (r3 _ _ hrow), atI_nat (rowV_at t2), _, rfl, iteB (fun z2 => ?_) (fun z2 => ?_)⟩
        · have yes : keepB R t.2 = true := by
            unfold keepB
            unfold orEq at z2
            rw [decide_eq_false ne, Bool.false_or] at z2
            rw [z2, decide_eq_true ne]
            rfl
          refine ⟨_, rfl, rfs ds, eD, by rw [rfs_len]; exact small_len (by omega), Same.but (fun b u e => s5 _ _ e) nD, ds ++ [t], ?_, ?_, ?_, ?_⟩
          · rw [upd_same, rfs_snoc]
          · exact (pD.snoc et).lstU eD
          · rw [List.map_append, qD, take_more i0, List.filter_append, List.filter_cons, yes]
            rfl
          · rw [List.length_append]
            show ds.length + 1 ≤ i + 1
            omega
        · refine ⟨s5, ds, eD, pD, no ?_, by omega⟩
          unfold keepB
          unfold orEq at z2
          rw [decide_eq_false ne, Bool.false_or] at z2
          rw [z2, Bool.and_false]
      · have eq : t.2.1 = t.2.2 := by
          rcases Nat.decEq t.2.1 t.2.2 with h | h
          · exact absurd z (by simp; omega)
          · exact h
        refine ⟨s5, ds, eD, pD, no ?_, by omega⟩
        unfold keepB
        rw [decide_eq_false (fun h => h eq), Bool.false_and]
    rintro H5 ⟨s5, ds, eD, pD, qD, lD⟩
    rw [show (rfs us).length = (prs n).length by rw [rfs_len, ← uG, List.length_map], List.take_length] at qD
    have qD : ds.map (·.2) = lowL n R := qD
    have s45 := s4.trans s5
    refine ⟨_, rfl, .ref l, .ty "list", _, _, true, rfl, .ty _, .base (.lst (s45 _ _ el)), kit_ty (r := true) (by decide +kernel), _, rfl, iteF ?_⟩
    refine ⟨_, rfl, _, rfl, _, _, .lst (SqL.of (s45 _ _ el)) (Pts.dp (pl.same s45)), .lst (SqL.of eD) (Pts.dp pD), sh_list _, sh_list _, _, rfl, ?_⟩
    rw [eqv_lsts, ql, qD]
    refine iteN ?_
    refine ⟨_, rfl, .inl ⟨rfl, _, SqL.of (s45 _ _ el)⟩, by show 2 ≤ sizeLine; decide, fun c nc => ?_⟩
    have s05 := s02.trans (s3.trans s45)
    have sC := Same.put (o := .tup [.int 0, .int 0]) nc
    generalize (upd H5 c (.tup [.int 0, .int 0])) = H6 at sC ⊢
    have elC := sC _ _ (s45 _ _ el)
    have lls : ls.length ≤ 64 := by
      have := congrArg List.length ql
      rw [List.length_map] at this
      have := low_len R n8
      omega
    refine ⟨l, _, _, rfl, rfl, elC, small_len (by rw [rfs_len]; omega), ?_⟩
    have nl0 : H l = none := s02.free nl
    have s7 : Same H (upd H6 l (.lst (rfs ls ++ [.ref c]))) := same_new (s05.trans sC) nl0
    have lD : l ≠ D := fun z => by
      have := s45 _ _ el
      have nD' := s4 _ _ el
      rw [z, nD] at nD'
      cases nD'
    have eD7 : (upd H6 l (.lst (rfs ls ++ [.ref c]))) D = some (.lst (rfs ds)) := by rw [upd_ne lD.symm]; exact sC _ _ eD
    have pD7 := (pD.same sC).lstU (o := .lst (rfs ls ++ [.ref c])) elC
    generalize (upd H6 l (.lst (rfs ls ++ [.ref c]))) = H7 at s7 eD7 pD7 ⊢
    refine ⟨_, rfl, o, dx, _, rfl, s7 _ _ h1, ordF_none _ _ (by decide +kernel) (by decide +kernel), o, n, lowL n R, rfl, ho.same s7, fun l2 ls2 H8 s8 _ el2 pl2 ql2 => ?_⟩
    refine ⟨_, rfl, _, _, .lst (SqL.of el2) (Pts.dp pl2), .lst (SqL.of (s8 _ _ eD7)) (Pts.dp (pD7.same s8)), sh_list _, sh_list _, ?_⟩
    rw [eqv_lsts, ql2, qD, decide_eq_true rfl]
    exact k H8 (s7.trans s8)
end
end K6

set_option Elab.async false
set_option linter.all false
set_option maxRecDepth 100000
set_option maxHeartbeats 4000000
namespace K6
open PySem L2
/-! ### shares, as far as they are asked for -/
theorem kTB : ¬ (("top" : Str) = "bottom") := by decide +kernel
def shF (t n : Int) : List (Str × V) := putF "bottom" (.int n) (putF "top" (.int t) [])
theorem shF_top (t n : Int) : (shF t n).lookup ("top" : Str) = some (.int t) := by
  unfold shF
  rw [lookup_putF, if_neg kTB, lookup_putF, if_pos rfl]
theorem shF_bottom (t n : Int) : (shF t n).lookup ("bottom" : Str) = some (.int n) := by
  unfold shF
  rw [lookup_putF, if_pos rfl]
structure ShU (K : PySem.W.Frag) (mg : Str → Option Value) (S : Addr) : Prop where
  I : ShI K S
  nT : NoAttr K S "top"
  nB : NoAttr K S "bottom"
  g_gcd : mg "gcd" = some (.builtin "math.gcd")
  gS : mg "Share" = some (.ref S)
/-- Share.__init__(i, 1) -/
def spSI (S : Addr) : Sp := fun vs H Q _ => ∃ (x dx : Addr) (i : Int), vs = [.ref x, .int i, .int 1] ∧ H x = some (.ins S dx []) ∧ (i = 0 ∨ i = 3) ∧ Q .non (upd H x (.ins S dx (shF i 1)))
/-- share == itself -/
def EqS (S : Addr) (a : Addr) (y : V) (b : Bool) (H : Hp) : Prop := ∃ (dx : Addr) (t n : Int), H a = some (.ins S dx (shF t n)) ∧ y = .ref a ∧ b = true
section
variable {P : Program} {w : World} {K : PySem.W.Frag} {mg : Str → Option Value} {base : Heap} {C S B : Addr}
abbrev s_SI : Stmt := inClass (top 19) 0
theorem sc_SI : FnScope ["self", "top", "bottom", "common"] ["self", "top", "bottom"] (defScope s_SI) := ⟨rfl, rfl, rfl, by decide +kernel, rfl, by decide +kernel, by decide +kernel⟩
theorem ok_SI {f : Addr} {fd : FuncData} {dvs : List V} (F : FunD K "__init__" "Share.__init__" (defArgs s_SI) (defBody s_SI) (defScope s_SI) dvs [] f fd) (T : ShU K mg S) (c_is_whole : Cal P w K mg base 1 "is_whole" ["thing"] (spWhole S)) :
    FnOk P w K mg base CX0 4 f fd ["self", "top", "bottom"] (spSI S) := by
  refine F.ok sc_SI (fun vs H Q E h => ?_) (fun cdv A outer s H vs Q E hr h => ?_)
  · obtain ⟨x, dx, i, rfl, _⟩ := h
    rfl
  · obtain ⟨x, dx, i, rfl, hx, hi, k⟩ := h
    refine ⟨_, (pss_cons (ps_if (PW.pt (pw_or (pt_not (pt_val (pe_cal c_is_whole (hr.mono (by decide)) rfl (pa_cons (pv 1) pa_nil)))) (pw_or (pt_not (pt_val (pe_cal c_is_whole (hr.mono (by decide)) rfl (pa_cons (pv 2) pa_nil)))) (pw_or1 (pt_cmpR op_eq (pv 2) pe_int (nomark _))))))
        pss_never
        pss_nil)
      (pss_cons (ps_set (i := 3) sc_SI.nd rfl (Or.inl rfl) (pe_ifExp (pt_cmpR op_gt (pv 2) pe_int (nomark _)) (pe_callBfun cr_gcd rfl T.g_gcd (pa_cons (pv 1) (pa_cons (pv 2) pa_nil))) (pe_un un_neg (pe_callBfun cr_gcd rfl T.g_gcd (pa_cons (pv 1) (pa_cons (pv 2) pa_nil))))))
      (pss_cons (ps_fld (pv 0) (pe_op op_fdivG (pv 1) (pv 3)) rfl)
      (pss_one (ps_fld (pv 0) (pe_op op_fdivG (pv 2) (pv 3)) rfl))))), ?_⟩
    refine ⟨_, rfl, _, _, rfl, .int _, _, rfl, iteF ?_⟩
    refine ⟨_, rfl, _, _, rfl, .int _, _, rfl, iteF ?_⟩
    refine ⟨_, rfl, rfl, _, rfl, iteF ?_⟩
    refine ⟨_, rfl, _, _, rfl, rfl, _, rfl, iteT ?_⟩
    refine ⟨_, rfl, _, rfl, _, _, rfl, ?_⟩
    have g1 : ((Nat.gcd i.natAbs (1 : Int).natAbs : Nat) : Int) = 1 := by rw [show (1 : Int).natAbs = 1 from rfl, Nat.gcd_one_right]; rfl
    show _
    rw [g1]
    have l1 : (1 : Int).natAbs.log2 < 9000 := by decide
    refine ⟨_, rfl, _, rfl, i, 1, rfl, rfl, ⟨by decide, l1⟩, ?_⟩
    refine ⟨_, rfl, x, S, dx, [], rfl, hx, T.I.cl, T.nT, by show 0 < 1000; decide, ?_⟩
    refine ⟨_, rfl, _, rfl, 1, 1, rfl, rfl, ⟨by decide, l1⟩, ?_⟩
    refine ⟨_, rfl, x, S, dx, _, rfl, upd_same, T.I.cl, T.nB, by show 1 < 1000; decide, ?_⟩
    rw [upd_upd]
    rcases hi with rfl | rfl <;> exact k
end
end K6

set_option Elab.async false
set_option linter.all false
set_option maxRecDepth 100000
set_option maxHeartbeats 4000000
namespace K6
open PySem L2
theorem is_eq : OC.Is2 .Eq := .inl rfl
structure ShEq (P : Program) (w : World) (K : PySem.W.Frag) (mg : Str → Option Value) (base : Heap) (S : Addr) : Prop where
  ex : ∃ (f : Addr) (fd : FuncData), OwnT K S f ∧ FnOk P w K mg base CX0 1 f fd ["self", "other"] (spOwn (EqS S)) ∧ Binds K fd ["self", "other"] []
/-- what is equal to itself, by the built-in == or Share's own -/
def SameOk (K : PySem.W.Frag) (S : Addr) (H : Hp) (x : V) : Prop := (∃ d, Dp K H x d ∧ SeqAt.shaped d = true) ∨ ∃ (a dx : Addr) (t n : Int), x = .ref a ∧ H a = some (.ins S dx (shF t n))
theorem SqT.up {K : PySem.W.Frag} {H H' : Hp} {a : Addr} {xs : List V} (h : SqT K H a xs) (e : Same H H') : SqT K H' a xs := by
  rcases h with (h | ⟨o, h⟩) | h
  · exact .inl (.inl (e _ _ h))
  · exact .inl (.inr ⟨o, e _ _ h⟩)
  · exact .inr h
mutual
theorem Dp.up {K : PySem.W.Frag} {H H' : Hp} (s : Same H H') : ∀ (d : PyData) (x : V), Dp K H x d → Dp K H' x d
  | .none, _, h => by cases h; exact .non
  | .bool b, _, h => by cases h; exact .bl b
  | .int i, _, h => by cases h; exact .int i
  | .str x, _, h => by cases h; exact .str x
  | .list ds, _, h => by
    cases h with
    | lst hs ha => exact .lst (s.seq hs) (DpAll.up s ds _ ha)
  | .tuple ds, _, h => by
    cases h with
    | tup hs ha => exact .tup (SqT.up hs s) (DpAll.up s ds _ ha)
  | .dict _, _, h => by cases h
theorem DpAll.up {K : PySem.W.Frag} {H H' : Hp} (s : Same H H') : ∀ (ds : List PyData) (xs : List V), DpAll K H xs ds → DpAll K H' xs ds
  | [], _, h => by cases h; exact .nil
  | d :: ds, _, h => by
    cases h with
    | cons h1 h2 => exact .cons (Dp.up s d _ h1) (DpAll.up s ds _ h2)
end
theorem SameOk.up {K : PySem.W.Frag} {S : Addr} {H H' : Hp} {x : V} (h : SameOk K S H x) (s : Same H H') : SameOk K S H' x := by
  rcases h with ⟨d, h1, h2⟩ | ⟨a, dx, t, n, h1, h2⟩
  · exact .inl ⟨d, Dp.up s d x h1, h2⟩
  · exact .inr ⟨a, dx, t, n, h1, s _ _ h2⟩
/-- _law_same_thing(x, x) -/
def spSame (K : PySem.W.Frag) (S : Addr) : Sp := fun vs H Q _ => ∃ (x : V) (k : Kd), vs = [x, x] ∧ Th S H x k ∧ SameOk K S H x ∧ Q (.bl true) H
/-- what stands at the clause except NoState as e -/
structure NsC (K : PySem.W.Frag) (mg : Str → Option Value) (B : Addr) : Prop where
  xm : PySem.W.exmOne K (.ref B) (.ref B) = some true
  xf : XfC K B
  ns : PySem.W.findIn K (.ref B) "state" = some none
  gB : mg "NoState" = some (.ref B)
/-- _law_asked(order, x, y) -/
def spAsked (S C : Addr) : Sp := fun vs H Q _ => ∃ (o : Addr) (n : Nat) (low : List (Nat × Nat)) (x y : V) (k l : Kd), vs = [.ref o, x, y] ∧ IsOrd C H o n low ∧ Th S H x k ∧ Th S H y l ∧
  ((∃ s t : Nat, x = .int (s : Int) ∧ y = .int (t : Int) ∧ s < n ∧ t < n ∧ ∀ (r : Addr) (H' : Hp), Same H H' → H' r = some (.tup [.str "told", .non]) → Q (.ref r) H') ∨
    (btw 0 ((n : Int) - 1) x = false ∧ ∀ (r : Addr) (H' : Hp), Same H H' → H' r = some (.tup [.str "refused", x]) → Q (.ref r) H') ∨
    (btw 0 ((n : Int) - 1) x = true ∧ btw 0 ((n : Int) - 1) y = false ∧ ∀ (r : Addr) (H' : Hp), Same H H' → H' r = some (.tup [.str "refused", y]) → Q (.ref r) H'))
section
variable {P : Program} {w : World} {K : PySem.W.Frag} {mg : Str → Option Value} {base : Heap} {C S B : Addr}
abbrev s_seq : Stmt := inClass (top 19) 8
theorem sc_seq : FnScope ["self", "other"] ["self", "other"] (defScope s_seq) := ⟨rfl, rfl, rfl, by decide +kernel, rfl, by decide +kernel, by decide +kernel⟩
theorem ok_seq {f : Addr} {fd : FuncData} (F : Fun K "__eq__" "Share.__eq__" s_seq f fd) (T : ShU K mg S) (bn : Bn mg) : FnOk P w K mg base CX0 1 f fd ["self", "other"] (spOwn (EqS S)) := by
  refine F.ok sc_seq (fun vs H Q E h => ?_) (fun cdv A outer s H vs Q E hr h => ?_)
  · obtain ⟨a, y, b, rfl, _⟩ := h
    rfl
  · obtain ⟨a, y, b, rfl, ⟨dx, t, n, ha, rfl, rfl⟩, k⟩ := h
    refine ⟨_, (pss_cons (ps_if (pt_val (pe_callB call_isi (by rfl) bn.n_isinstance (by decide +kernel) (pa_cons (pv 1) (pa_cons (pe_glob (v := .ref S) rfl T.gS rfl) pa_nil))))
        (pss_one (ps_ret (pe_and (pe_cmpR op_eq (pe_fld (pv 0) rfl) (pe_fld (pv 1) rfl) (nomark _)) (pe_one (pe_cmpR op_eq (pe_fld (pv 0) rfl) (pe_fld (pv 1) rfl) (nomark _))))))
        pss_nil)
      (pss_one ps_never)), ?_⟩
    have I := T.I
    refine ⟨_, rfl, .ref a, .ref S, _, _, true, rfl, .own S, .base (.ins ha I.cl I.ha I.hn I.htk I.hm), I.self, _, rfl, iteT ?_⟩
    refine ⟨_, rfl, a, S, dx, _, _, rfl, ha, I.cl, T.nT, shF_top _ _, _, rfl, a, S, dx, _, _, rfl, ha, I.cl, T.nT, shF_top _ _, rfl, _, rfl, ?_⟩
    rw [decide_eq_true rfl]
    refine iteT ?_
    refine ⟨_, rfl, a, S, dx, _, _, rfl, ha, I.cl, T.nB, shF_bottom _ _, _, rfl, a, S, dx, _, _, rfl, ha, I.cl, T.nB, shF_bottom _ _, rfl, ?_⟩
    rw [decide_eq_true rfl]
    exact k
abbrev s_same : Stmt := top 38
theorem sc_same : FnScope ["_law_one", "_law_other"] ["_law_one", "_law_other"] (defScope s_same) := ⟨rfl, rfl, rfl, by decide +kernel, rfl, by decide +kernel, by decide +kernel⟩
theorem ok_same {f : Addr} {fd : FuncData} (F : Fun K "_law_same_thing" "_law_same_thing" s_same f fd) (T : ShU K mg S) (bn : Bn mg) (eq : ShEq P w K mg base S) : FnOk P w K mg base CX0 3 f fd ["_law_one", "_law_other"] (spSame K S) := by
  obtain ⟨g, gd, O, G, bG⟩ := eq.ex
  refine F.ok sc_same (fun vs H Q E h => ?_) (fun cdv A outer s H vs Q E hr h => ?_)
  · obtain ⟨x, kd, rfl, _⟩ := h
    rfl
  · obtain ⟨x, kd, rfl, hx, so, k⟩ := h
    have h64 := un64x hr
    refine ⟨_, (pss_cons (ps_if (PW.pt (pw_or (pt_cmpR op_ne (pe_callB call_isi (by rfl) bn.n_isinstance (by decide +kernel) (pa_cons (pv 0) (pa_cons (pe_bltn (v := .ty "bool") rfl bn.n_bool (by decide +kernel) rfl) pa_nil))) (pe_callB call_isi (by rfl) bn.n_isinstance (by decide +kernel) (pa_cons (pv 1) (pa_cons (pe_bltn (v := .ty "bool") rfl bn.n_bool (by decide +kernel) rfl) pa_nil))) (nomark _)) (pw_or1 (pt_cmpR op_ne (pe_callB call_isi (by rfl) bn.n_isinstance (by decide +kernel) (pa_cons (pv 0) (pa_cons (pe_glob (v := .ref S) rfl T.gS rfl) pa_nil))) (pe_callB call_isi (by rfl) bn.n_isinstance (by decide +kernel) (pa_cons (pv 1) (pa_cons (pe_glob (v := .ref S) rfl T.gS rfl) pa_nil))) (nomark _)))))
        (pss_one (ps_ret pe_bl))
        pss_nil)
      (pss_one (ps_ret (pe_cmpR (op_orR (op_eqD (by exact h64)) (op_ownB (R := EqS S) is_eq G O bG pass0 (by exact hr))) (pv 0) (pv 1) (nomark _))))), ?_⟩
    obtain ⟨t, ty, _, k2, _, _, k5⟩ := hx.is T.I
    refine ⟨_, rfl, x, .ty "bool", t, _, _, rfl, .ty _, ty, k2, _, rfl, x, .ty "bool", t, _, _, rfl, .ty _, ty, k2, rfl, _, rfl, iteN ?_⟩
    refine ⟨_, rfl, x, .ref S, t, _, _, rfl, .own S, ty, k5, _, rfl, x, .ref S, t, _, _, rfl, .own S, ty, k5, rfl, _, rfl, iteN ?_⟩
    refine ⟨_, rfl, _, rfl, ?_⟩
    rcases so with ⟨d, h1, h2⟩ | ⟨a, dx, p, q, rfl, e⟩
    · refine .inl ⟨d, d, h1, h1, h2, h2, ?_⟩
      rw [SeqAt.eqv_refl _ (SeqAt.canLay_of_shaped h2)]
      exact k
    · exact .inr ⟨true, .inl ⟨a, dx, _, rfl, e, ⟨dx, p, q, e, rfl, rfl⟩, .inr ⟨a, dx, _, rfl, e⟩⟩, k⟩
abbrev s_asked : Stmt := top 41
theorem sc_asked : FnScope ["_law_order", "_law_s", "_law_t", "_law_told", "e"] ["_law_order", "_law_s", "_law_t"] (defScope s_asked) := ⟨rfl, rfl, rfl, by decide +kernel, rfl, by decide +kernel, by decide +kernel⟩
theorem ok_asked {f : Addr} {fd : FuncData} (F : Fun K "_law_asked" "_law_asked" s_asked f fd) (T : OrT K mg C) (bt : BelowT P w K mg base S C B) (x : NsC K mg B) : FnOk P w K mg base CX0 7 f fd ["_law_order", "_law_s", "_law_t"] (spAsked S C) := by
  obtain ⟨gb, gbd, Mb, Gb, bGb⟩ := bt.ex
  refine F.ok sc_asked (fun vs H Q E h => ?_) (fun cdv A outer s H vs Q E hr h => ?_)
  · obtain ⟨o, n, low, y, z, k, l, rfl, _⟩ := h
    rfl
  · obtain ⟨o, n, low, y, z, ky, kz, rfl, ho, hy, hz, h⟩ := h
    refine ⟨_, (pss_cons (ps_set (i := 3) sc_asked.nd rfl (Or.inl rfl) (pe_tup (pa_cons pe_str (pa_cons pe_non pa_nil))))
      (pss_cons (ps_try_asE (i := 4) (c := .ref B) pss_nil rfl rfl sc_asked.nd rfl (by rfl) ⟨rfl, by decide, .inl x.gB⟩
          (fun W pn xe tk => pss_one (ps_expr (pe_methT (pl := _) (pv 0) T.cl Mb Gb (hr.mono (by decide)) bGb (fun σ => passAt tk σ) (pa_cons (pv 1) (pa_cons (pv 2) pa_nil)))))
          (fun a oe cls d pn hz hf => pss_one (ps_set (i := 3) sc_asked.nd rfl (Or.inl rfl) (pe_tup (pa_cons pe_str (pa_cons (pe_xf x.xf x.ns hz hf (pv 4)) pa_nil))))))
      (pss_one (ps_ret (pv 3))))), ?_⟩
    refine ⟨by show 2 ≤ sizeLine; decide, fun c nc => ?_⟩
    have s1 := Same.put (o := .tup [.str "told", .non]) nc
    have ec : (upd H c (.tup [.str "told", .non])) c = some (.tup [.str "told", .non]) := upd_same
    generalize (upd H c (.tup [.str "told", .non])) = H1 at s1 ec ⊢
    obtain ⟨dx, L, ts, h1, h2, h3, h4⟩ := id ho
    refine ⟨_, rfl, o, dx, _, rfl, s1 _ _ h1, ordF_none _ _ (by decide +kernel) (by decide +kernel), _, rfl, _, rfl, o, n, low, y, z, ky, kz, rfl, ho.same s1, hy.same s1, hz.same s1, ?_⟩
    have caught : ∀ (v : V) (d : Addr) (H2 : Hp), Same H1 H2 → H2 d = some (.xd [("state", v)]) → (∀ (r : Addr) (H' : Hp), Same H H' → H' r = some (.tup [.str "refused", v]) → Q (.ref r) H') → True := fun _ _ _ _ _ _ => trivial
    rcases h with ⟨u, v, rfl, rfl, u1, v1, k⟩ | ⟨e1, k⟩ | ⟨e1, e2, k⟩
    · exact .inl ⟨u, v, rfl, rfl, u1, v1, fun H2 s2 => ⟨_, rfl, k c H2 (s1.trans s2) (s2 _ _ ec)⟩⟩
    · refine .inr (.inl ⟨e1, fun d H2 s2 e => ⟨x.xm, fun a ha => ⟨.ref a, rfl, rfl, rfl, d, [("state", y)], y, rfl, e, rfl, by show 2 ≤ sizeLine; decide, fun r nr => ⟨_, rfl, k r _ ((s1.trans s2).trans (Same.put nr)) upd_same⟩⟩⟩⟩)
    · refine .inr (.inr ⟨e1, e2, fun d H2 s2 e => ⟨x.xm, fun a ha => ⟨.ref a, rfl, rfl, rfl, d, [("state", z)], z, rfl, e, rfl, by show 2 ≤ sizeLine; decide, fun r nr => ⟨_, rfl, k r _ ((s1.trans s2).trans (Same.put nr)) upd_same⟩⟩⟩⟩)
end
end K6

set_option Elab.async false
set_option linter.all false
set_option maxRecDepth 100000
set_option maxHeartbeats 4000000
namespace K6
open PySem L2
/-- a thing that is no state of n -/
inductive Wr (S : Addr) (H : Hp) (n : Nat) : V → Prop
  | int (i : Int) (h : i < 0 ∨ (n : Int) ≤ i) : Wr S H n (.int i)
  | bl (b : Bool) : Wr S H n (.bl b)
  | non : Wr S H n .non
  | str : Wr S H n (.str "0")
  | tup {a : Addr} (e : H a = some (.tup [.int 0])) : Wr S H n (.ref a)
  | lst {a : Addr} (e : H a = some (.lst [.int 0])) : Wr S H n (.ref a)
  | shr {a dx : Addr} {t m : Int} (e : H a = some (.ins S dx (shF t m))) : Wr S H n (.ref a)
theorem Wr.same {S : Addr} {H H' : Hp} {n : Nat} {x : V} (h : Wr S H n x) (s : Same H H') : Wr S H' n x := by
  cases h with
  | int i h => exact .int i h
  | bl b => exact .bl b
  | non => exact .non
  | str => exact .str
  | tup e => exact .tup (s _ _ e)
  | lst e => exact .lst (s _ _ e)
  | shr e => exact .shr (s _ _ e)
theorem Wr.keep {S : Addr} {H H' : Hp} {n : Nat} {x : V} {p : Addr} (h : Wr S H n x) (k : Keep p H H') (hp : PoolAt H p) : Wr S H' n x := by
  cases h with
  | int i h => exact .int i h
  | bl b => exact .bl b
  | non => exact .non
  | str => exact .str
  | tup e => exact .tup (k _ _ e (hp.ne e))
  | lst e => exact .lst (k _ _ e fun z => by
      obtain ⟨u, e2, m, g, q, _⟩ := hp
      rw [z, e2, q] at e
      simp at e)
  | shr e => exact .shr (k _ _ e (hp.nei e))
theorem Wr.th {S : Addr} {H : Hp} {n : Nat} {x : V} (h : Wr S H n x) : ∃ k, Th S H x k := by
  cases h with
  | int i h => exact ⟨_, .int i⟩
  | bl b => exact ⟨_, .bl b⟩
  | non => exact ⟨_, .non⟩
  | str => exact ⟨_, .str _⟩
  | tup e => exact ⟨_, .tup e⟩
  | lst e => exact ⟨_, .lst e⟩
  | shr e => exact ⟨_, .shr e⟩
theorem Wr.ok {K : PySem.W.Frag} {S : Addr} {H : Hp} {n : Nat} {x : V} (h : Wr S H n x) : SameOk K S H x := by
  cases h with
  | int i h => exact .inl ⟨_, .int i, rfl⟩
  | bl b => exact .inl ⟨_, .bl b, rfl⟩
  | non => exact .inl ⟨_, .non, rfl⟩
  | str => exact .inl ⟨_, .str _, by decide +kernel⟩
  | tup e => exact .inl ⟨_, .tup (SqT.of e) (.cons (.int 0) .nil), rfl⟩
  | lst e => exact .inl ⟨_, .lst (SqL.of e) (.cons (.int 0) .nil), rfl⟩
  | shr e => exact .inr ⟨_, _, _, _, rfl, e⟩
theorem Wr.no {S : Addr} {H : Hp} {n : Nat} {x : V} (h : Wr S H n x) : btw 0 ((n : Int) - 1) x = false := by
  cases h with
  | int i h =>
    show (decide (0 ≤ i) && decide (i ≤ (n : Int) - 1)) = false
    rcases h with h | h
    · rw [decide_eq_false (by omega : ¬ 0 ≤ i)]
      rfl
    · rw [decide_eq_false (by omega : ¬ i ≤ (n : Int) - 1), Bool.and_false]
  | _ => rfl
theorem IsOrd.keep {C : Addr} {H H' : Hp} {o : Addr} {n : Nat} {low : List (Nat × Nat)} {p : Addr} (h : IsOrd C H o n low) (k : Keep p H H') (hp : PoolAt H p) : IsOrd C H' o n low := by
  obtain ⟨dx, T, ts, h1, h2, h3, h4⟩ := h
  exact ⟨dx, T, ts, k _ _ h1 (hp.nei h1), k _ _ h2 (hp.ne h2), fun t m => k _ _ (h3 t m) (hp.ne (h3 t m)), h4⟩
structure MkS (P : Program) (w : World) (K : PySem.W.Frag) (mg : Str → Option Value) (base : Heap) (S : Addr) : Prop where
  ex : ∃ (f : Addr) (fd : FuncData) (ds : List Value), Mk K S f ∧ FnOk P w K mg base CX0 4 f fd ["self", "top", "bottom"] (spSI S) ∧ Vals [.int 1] ds ∧ Binds K fd ["self", "top", "bottom"] ds
  gS : mg "Share" = some (.ref S)
section
variable {X : Cx} {S : Addr} {p pos : Pos} {e : Expr} {es : List Expr} {t : TA}
theorem pe_share1 (m : MkS X.prog X.w X.K X.mg X.base S) (hr : Room 5 X.A) (hg : Gl X "Share") (ha : PA X (e :: es) t)
    (he : starEach (e :: es) X.env = (false, eval e X.env) :: starEach es X.env := by rfl) (hpl : (backTo pos (starEach es X.env)).any (·.1) = false := by rfl) :
    PE X (.Call (.Name "Share" p) (e :: es) [] pos) (tMake S (spSI S) [.int 1] E0 t) := by
  obtain ⟨f, fd, ds, M, F, v1, b1⟩ := m.ex
  exact pe_make M F hr hg m.gS b1 v1 pass0 ha (by decide) he hpl
end
/-- a share is made -/
theorem sh_ok {S : Addr} {i : Int} {H : Hp} {Q : VK} {E : XK} (hi : i = 0 ∨ i = 3) (k : ∀ (x dx : Addr) (H' : Hp), Same H H' → H x = none → H' x = some (.ins S dx (shF i 1)) → Q (.ref x) H') :
    ∀ x dx, H x = none → H dx = none → dx ≠ x → spSI S [.ref x, .int i, .int 1] (upd (upd H dx (.own x)) x (.ins S dx [])) (fun v H2 => v = .non ∧ Q (.ref x) H2) E :=
  fun x dx hx hd ne => ⟨x, dx, i, rfl, upd_same, hi, rfl, k x dx _ (by
    rw [upd_upd]
    exact (Same.put hd).trans (Same.put (by rw [upd_ne ne.symm]; exact hx))) hx upd_same⟩
def spRefuses (C : Addr) : Sp := fun vs H Q _ => ∃ (a o : Addr) (n : Nat) (low : List (Nat × Nat)), vs = [.ref a, .ref o, .int (n : Int)] ∧ PoolAt H a ∧ 1 ≤ n ∧ n ≤ 8 ∧ IsOrd C H o n low ∧ ∀ H', Keep a H H' → PoolAt H' a → Q (.bl true) H'
section
variable {P : Program} {w : World} {K : PySem.W.Frag} {mg : Str → Option Value} {base : Heap} {C S B : Addr}
abbrev s_refuses : Stmt := top 42
theorem sc_refuses : FnScope ["_law_pool_here", "_law_order", "_law_size", "_law_strange", "_law_wrong", "_law_good", "_law_s", "_law_t", "_law_told"] ["_law_pool_here", "_law_order", "_law_size"] (defScope s_refuses) := ⟨rfl, rfl, rfl, by decide +kernel, rfl, by decide +kernel, by decide +kernel⟩
theorem ok_refuses {f : Addr} {fd : FuncData} (F : Fun K "_law_refuses" "_law_refuses" s_refuses f fd) (ms : MkS P w K mg base S) (c_draw : Cal P w K mg base 1 "_law_draw" ["_law_pool_here", "_law_many"] spDraw) (c_pick : Cal P w K mg base 2 "_law_pick" ["_law_pool_here", "_law_things_here"] spPick)
    (c_asked : Cal P w K mg base 7 "_law_asked" ["_law_order", "_law_s", "_law_t"] (spAsked S C)) (c_same : Cal P w K mg base 3 "_law_same_thing" ["_law_one", "_law_other"] (spSame K S)) :
    FnOk P w K mg base CX0 8 f fd ["_law_pool_here", "_law_order", "_law_size"] (spRefuses C) := by
  refine F.ok sc_refuses (fun vs H Q E h => ?_) (fun cdv A outer s H vs Q E hr h => ?_)
  · obtain ⟨a, o, n, low, rfl, _⟩ := h
    rfl
  · obtain ⟨a, o, n, low, rfl, hp, n1, n8, ho, k⟩ := h
    have h64 := un64x hr
    refine ⟨_, (pss_cons (ps_set (i := 3) sc_refuses.nd rfl (Or.inl rfl) (pe_tup (pa_cons (pv 2) (pa_cons (pe_un un_neg pe_int) (pa_cons (pe_op op_add (pv 2) (pe_cal c_draw (hr.mono (by decide)) rfl (pa_cons (pv 0) (pa_cons (pe_op op_pow pe_int pe_int) pa_nil)))) (pa_cons pe_bl (pa_cons pe_bl (pa_cons pe_non (pa_cons pe_str (pa_cons (pe_tup (pa_cons pe_int pa_nil)) (pa_cons (pe_lst (pa_cons pe_int pa_nil)) (pa_cons (pe_share1 ms (hr.mono (by decide)) rfl (pa_cons pe_int pa_nil)) pa_nil))))))))))))
      (pss_cons (ps_set (i := 4) sc_refuses.nd rfl (Or.inl rfl) (pe_cal c_pick (hr.mono (by decide)) rfl (pa_cons (pv 0) (pa_cons (pv 3) pa_nil))))
      (pss_cons (ps_set (i := 5) sc_refuses.nd rfl (Or.inl rfl) (pe_cal c_draw (hr.mono (by decide)) rfl (pa_cons (pv 0) (pa_cons (pv 2) pa_nil))))
      (pss_cons (ps_for PassesOwn.never rfl (pi_tup (pe_tup (pa_cons (pe_tup (pa_cons (pv 4) (pa_cons (pv 5) pa_nil))) (pa_cons (pe_tup (pa_cons (pv 5) (pa_cons (pv 4) pa_nil))) (pa_cons (pe_tup (pa_cons (pv 4) (pa_cons (pe_cal c_pick (hr.mono (by decide)) rfl (pa_cons (pv 0) (pa_cons (pv 3) pa_nil))) pa_nil))) pa_nil))))) (pg_tup (by rfl) (pgs_cons (pg_name (i := 6) sc_refuses.nd rfl (Or.inl rfl)) (pgs_cons (pg_name (i := 7) sc_refuses.nd rfl (Or.inl rfl)) pgs_nil)))
        (pss_cons (ps_set (i := 8) sc_refuses.nd rfl (Or.inl rfl) (pe_cal c_asked (hr.mono (by decide)) rfl (pa_cons (pv 1) (pa_cons (pv 6) (pa_cons (pv 7) pa_nil)))))
          (pss_one (ps_if (PW.pt (pw_or (pt_cmpR op_ne (pe_ix ix_tup (pv 8) pe_int (fun _ _ => rfl)) pe_str (nomark _)) (pw_or1 (pt_not (pt_val (pe_cal c_same (hr.mono (by decide)) rfl (pa_cons (pe_ix ix_tup (pv 8) pe_int (fun _ _ => rfl)) (pa_cons (pv 4) pa_nil))))))))
            (pss_one (ps_ret pe_bl))
            pss_nil))))
      (pss_one (ps_ret (pe_cmpR (op_eqD (by exact h64)) (pe_cal c_asked (hr.mono (by decide)) rfl (pa_cons (pv 1) (pa_cons (pv 5) (pa_cons (pv 5) pa_nil)))) (pe_tup (pa_cons pe_str (pa_cons pe_non pa_nil))) (nomark _)))))))), ?_⟩
    refine ⟨_, rfl, 1, rfl, _, rfl, _, rfl, 10, 30, rfl, rfl, ⟨by decide, by decide, by decide⟩, a, _, rfl, hp, by decide +kernel, by decide +kernel, fun r o1 r0 r1 ho1 => ?_⟩
    have k1 := Keep.put (a := a) (H := H) o1
    have p1 : PoolAt (upd H a o1) a := .put ho1
    have io1 := ho.keep k1 hp
    generalize (upd H a o1) = H1 at k1 p1 io1 ⊢
    refine ⟨(n : Int), r, rfl, rfl, by show 1 ≤ sizeLine; decide, fun t0 nt0 => ⟨by show 1 ≤ sizeLine; decide, fun l0 nl0 => ?_⟩⟩
    intro x dx hx hd ne
    refine ⟨x, dx, 0, rfl, upd_same, .inl rfl, rfl, by show 10 ≤ sizeLine; decide, fun c nc => ?_⟩
    rw [upd_upd] at nc ⊢
    have sA := Same.put (o := .tup [.int 0]) nt0
    have gA : (upd H1 t0 (.tup [.int 0])) t0 = some (.tup [.int 0]) := upd_same
    generalize (upd H1 t0 (.tup [.int 0])) = A1 at sA gA nl0 hx hd nc ⊢
    have sB := Same.put (o := .lst [.int 0]) nl0
    have gB : (upd A1 l0 (.lst [.int 0])) l0 = some (.lst [.int 0]) := upd_same
    generalize (upd A1 l0 (.lst [.int 0])) = A2 at sB gB hx hd nc ⊢
    have sC : Same A2 (upd (upd A2 dx (.own x)) x (.ins S dx (shF 0 1))) := (Same.put hd).trans (Same.put (by rw [upd_ne ne.symm]; exact hx))
    have gC : (upd (upd A2 dx (.own x)) x (.ins S dx (shF 0 1))) x = some (.ins S dx (shF 0 1)) := upd_same
    generalize (upd (upd A2 dx (.own x)) x (.ins S dx (shF 0 1))) = A3 at sC gC nc ⊢
    have sD := Same.put (o := .tup [.int (n : Int), .int (-1), .int ((n : Int) + r), .bl true, .bl false, .non, .str "0", .ref t0, .ref l0, .ref x]) nc
    have gD : (upd A3 c (.tup [.int (n : Int), .int (-1), .int ((n : Int) + r), .bl true, .bl false, .non, .str "0", .ref t0, .ref l0, .ref x])) c = some (.tup [.int (n : Int), .int (-1), .int ((n : Int) + r), .bl true, .bl false, .non, .str "0", .ref t0, .ref l0, .ref x]) := upd_same
    have wr : ∀ y ∈ [V.int (n : Int), .int (-1), .int ((n : Int) + r), .bl true, .bl false, .non, .str "0", .ref t0, .ref l0, .ref x], Wr S A3 n y := by
      intro y hy
      simp only [List.mem_cons, List.not_mem_nil, or_false] at hy
      rcases hy with rfl | rfl | rfl | rfl | rfl | rfl | rfl | rfl | rfl | rfl
      · exact .int _ (.inr (by omega))
      · exact .int _ (.inl (by omega))
      · exact .int _ (.inr (by omega))
      · exact .bl _
      · exact .bl _
      · exact .non
      · exact .str
      · exact .tup (sC _ _ (sB _ _ gA))
      · exact .lst (sC _ _ gB)
      · exact .shr gC
    have len : ([V.int (n : Int), .int (-1), .int ((n : Int) + r), .bl true, .bl false, .non, .str "0", .ref t0, .ref l0, .ref x] : List V).length = 10 := rfl
    generalize [V.int (n : Int), .int (-1), .int ((n : Int) + r), .bl true, .bl false, .non, .str "0", .ref t0, .ref l0, .ref x] = strange at sD gD wr len ⊢
    have wr : ∀ y ∈ strange, Wr S (upd A3 c (.tup strange)) n y := fun y hy => (wr y hy).same sD
    have s4 : Same H1 (upd A3 c (.tup strange)) := ((sA.trans sB).trans sC).trans sD
    have k4 := k1.trans (Keep.of s4)
    have p4 := p1.same s4
    have io4 := io1.same s4
    generalize (upd A3 c (.tup strange)) = H4 at gD wr k4 p4 io4 ⊢
    clear sA sB sC sD s4 gA gB gC nt0 nl0 hx hd nc ne
    -- the wrong one, the good one
    refine ⟨_, rfl, _, rfl, a, c, strange, rfl, p4, .inr gD, p4.ne gD, by omega, by omega, fun wrong o2 hw ho2 => ?_⟩
    have k5 := k4.trans (Keep.put (a := a) (H := H4) o2)
    have p5 : PoolAt (upd H4 a o2) a := .put ho2
    have io5 := io4.keep (Keep.put (a := a) (H := H4) o2) p4
    have wr5 : ∀ y ∈ strange, Wr S (upd H4 a o2) n y := fun y hy => (wr y hy).keep (Keep.put (a := a) (H := H4) o2) p4
    have gD5 : (upd H4 a o2) c = some (.tup strange) := by rw [upd_ne (p4.ne gD)]; exact gD
    generalize (upd H4 a o2) = H5 at k5 p5 io5 wr5 gD5 ⊢
    refine ⟨_, rfl, _, rfl, a, (n : Int), rfl, p5, by omega, log_small (b := 10) (by show ((n : Int)).natAbs < 2 ^ 10; omega) (by decide) (by decide), fun q o3 q0 q1 ho3 => ?_⟩
    obtain ⟨g, rfl⟩ : ∃ g : Nat, q = (g : Int) := ⟨q.toNat, by omega⟩
    have hg : g < n := by omega
    have k6 := k5.trans (Keep.put (a := a) (H := H5) o3)
    have p6 : PoolAt (upd H5 a o3) a := .put ho3
    have io6 := io5.keep (Keep.put (a := a) (H := H5) o3) p5
    have wr6 : ∀ y ∈ strange, Wr S (upd H5 a o3) n y := fun y hy => (wr5 y hy).keep (Keep.put (a := a) (H := H5) o3) p5
    have gD6 : (upd H5 a o3) c = some (.tup strange) := by rw [upd_ne (p5.ne gD5)]; exact gD5
    generalize (upd H5 a o3) = H6 at k6 p6 io6 wr6 gD6 ⊢
    clear k1 p1 io1 k4 p4 io4 wr gD k5 p5 io5 wr5 gD5
    -- the three pairs
    refine ⟨_, rfl, _, rfl, by show 2 ≤ sizeLine; decide, fun t1 nt1 => ?_⟩
    refine ⟨_, rfl, _, rfl, by show 2 ≤ sizeLine; decide, fun t2 nt2 => ?_⟩
    have sA := Same.put (o := .tup [wrong, .int (g : Int)]) nt1
    have gA : (upd H6 t1 (.tup [wrong, .int (g : Int)])) t1 = some (.tup [wrong, .int (g : Int)]) := upd_same
    generalize (upd H6 t1 (.tup [wrong, .int (g : Int)])) = A1 at sA gA nt2 ⊢
    have sB := Same.put (o := .tup [.int (g : Int), wrong]) nt2
    have gB : (upd A1 t2 (.tup [.int (g : Int), wrong])) t2 = some (.tup [.int (g : Int), wrong]) := upd_same
    have gA2 := sB _ _ gA
    have s7 := sA.trans sB
    generalize (upd A1 t2 (.tup [.int (g : Int), wrong])) = A2 at s7 gA2 gB ⊢
    clear sA sB gA nt2
    have p7 := p6.same s7
    refine ⟨_, rfl, _, rfl, _, rfl, a, c, strange, rfl, p7, .inr (s7 _ _ gD6), p7.ne (s7 _ _ gD6), by omega, by omega, fun wrong2 o4 hw2 ho4 => ?_⟩
    have kP := Keep.put (a := a) (H := A2) o4
    have k8 := (k6.trans (Keep.of s7)).trans kP
    have p8 : PoolAt (upd A2 a o4) a := .put ho4
    have io8 := (io6.same s7).keep kP p7
    have wr8 : ∀ y ∈ strange, Wr S (upd A2 a o4) n y := fun y hy => ((wr6 y hy).same s7).keep kP p7
    have gA3 := kP _ _ gA2 (p7.ne gA2)
    have gB3 := kP _ _ gB (p7.ne gB)
    generalize (upd A2 a o4) = A3 at k8 p8 io8 wr8 gA3 gB3 ⊢
    clear k6 p6 io6 wr6 gD6 s7 p7 kP gA2 gB
    refine ⟨by show 2 ≤ sizeLine; decide, fun t3 nt3 => ⟨by show 3 ≤ sizeLine; decide, fun T3 nT3 => ?_⟩⟩
    have sC := Same.put (o := .tup [wrong, wrong2]) nt3
    have gC : (upd A3 t3 (.tup [wrong, wrong2])) t3 = some (.tup [wrong, wrong2]) := upd_same
    generalize (upd A3 t3 (.tup [wrong, wrong2])) = A4 at sC gC nT3 ⊢
    have sD := Same.put (o := .tup [.ref t1, .ref t2, .ref t3]) nT3
    have gT : (upd A4 T3 (.tup [.ref t1, .ref t2, .ref t3])) T3 = some (.tup [.ref t1, .ref t2, .ref t3]) := upd_same
    have gC4 := sD _ _ gC
    have s9 := sC.trans sD
    have gA4 := s9 _ _ gA3
    have gB4 := s9 _ _ gB3
    have k9 := k8.trans (Keep.of s9)
    have p9 := p8.same s9
    have io9 := io8.same s9
    have wr9 : ∀ y ∈ strange, Wr S (upd A4 T3 (.tup [.ref t1, .ref t2, .ref t3])) n y := fun y hy => (wr8 y hy).same s9
    generalize (upd A4 T3 (.tup [.ref t1, .ref t2, .ref t3])) = H9 at gT gC4 gA4 gB4 k9 p9 io9 wr9 ⊢
    clear sC sD gC s9 gA3 gB3 k8 p8 io8 wr8 nt3 nT3 nt1
    have w1 := wr9 _ hw
    have w2 := wr9 _ hw2
    obtain ⟨kw, tw⟩ := w1.th
    obtain ⟨kw2, tw2⟩ := w2.th
    have ig : btw 0 ((n : Int) - 1) (.int (g : Int)) = true := int_btw hg
    refine ⟨T3, rfl, ⟨_, SqT.of gT⟩, for_tup (K := K) (a := T3) (xs := [.ref t1, .ref t2, .ref t3]) (fun j σ H' => ∃ v6 v7 v8, σ = [some (.ref a), some (.ref o), some (.int (n : Int)), some (.ref c), some wrong, some (.int (g : Int)), v6, v7, v8] ∧ Same H9 H') ⟨_, _, _, rfl, Same.refl H9⟩ (fun i σ H' _ h => ?_) ?_ ?_⟩
    · obtain ⟨_, _, _, _, s1⟩ := h
      exact SqT.of (s1 _ _ gT)
    · rintro j y σ H' hy ⟨v6, v7, v8, rfl, s1⟩
      obtain ⟨t, u, v, rfl, et, ⟨ku, hu⟩, ⟨kv, hv⟩, hw3⟩ : ∃ (t : Addr) (u v : V), y = .ref t ∧ H9 t = some (.tup [u, v]) ∧ (∃ k, Th S H9 u k) ∧ (∃ k, Th S H9 v k) ∧
          ((btw 0 ((n : Int) - 1) u = false ∧ u = wrong) ∨ (btw 0 ((n : Int) - 1) u = true ∧ btw 0 ((n : Int) - 1) v = false ∧ v = wrong)) := by
        match j, hy with
        | 0, hy => exact ⟨t1, wrong, .int (g : Int), (Option.some.inj hy).symm, gA4, ⟨_, tw⟩, ⟨_, .int _⟩, .inl ⟨w1.no, rfl⟩⟩
        | 1, hy => exact ⟨t2, .int (g : Int), wrong, (Option.some.inj hy).symm, gB4, ⟨_, .int _⟩, ⟨_, tw⟩, .inr ⟨ig, w1.no, rfl⟩⟩
        | 2, hy => exact ⟨t3, wrong, wrong2, (Option.some.inj hy).symm, gC4, ⟨_, tw⟩, ⟨_, tw2⟩, .inl ⟨w1.no, rfl⟩⟩
        | j + 3, hy => simp at hy
      refine ⟨t, [u, v], rfl, SqT.of (s1 _ _ et), rfl, _, _, rfl, _, _, rfl, rfl, ?_⟩
      have fin : ∀ (r : Addr) (H' : Hp), Same H9 H' → H' r = some (.tup [.str "refused", wrong]) → True := fun _ _ _ _ => trivial
      refine ⟨_, rfl, _, rfl, _, rfl, o, n, low, u, v, ku, kv, rfl, io9.same s1, hu.same s1, hv.same s1, ?_⟩
      rcases hw3 with ⟨e1, rfl⟩ | ⟨e1, e2, rfl⟩
      · refine .inr (.inl ⟨e1, fun r H2 s2 er => ?_⟩)
        refine ⟨_, rfl, r, _, 0, _, rfl, rfl, SqT.of er, at0, rfl, _, rfl, iteN ?_⟩
        refine ⟨_, rfl, r, _, 1, _, rfl, rfl, SqT.of er, at1, _, rfl, u, ku, rfl, (hu.same s1).same s2, (w1.same (s1.trans s2)).ok, _, rfl, iteF ?_⟩
        exact ⟨_, _, _, rfl, s1.trans s2⟩
      · refine .inr (.inr ⟨e1, e2, fun r H2 s2 er => ?_⟩)
        refine ⟨_, rfl, r, _, 0, _, rfl, rfl, SqT.of er, at0, rfl, _, rfl, iteN ?_⟩
        refine ⟨_, rfl, r, _, 1, _, rfl, rfl, SqT.of er, at1, _, rfl, v, kv, rfl, (hv.same s1).same s2, (w1.same (s1.trans s2)).ok, _, rfl, iteF ?_⟩
        exact ⟨_, _, _, rfl, s1.trans s2⟩
    rintro σ H10 ⟨v6, v7, v8, rfl, s1⟩
    refine ⟨_, rfl, _, rfl, _, rfl, o, n, low, .int (g : Int), .int (g : Int), .int, .int, rfl, io9.same s1, .int _, .int _, .inl ⟨g, g, rfl, rfl, hg, hg, fun r H2 s2 er => ?_⟩⟩
    refine ⟨by show 2 ≤ sizeLine; decide, fun t nt => ?_⟩
    have s3 := Same.put (o := .tup [.str "told", .non]) nt
    refine ⟨.tuple [.str "told", .none], .tuple [.str "told", .none], .tup (SqT.of (s3 _ _ er)) (.cons (.str _) (.cons .non .nil)), .tup (SqT.of upd_same) (.cons (.str _) (.cons .non .nil)), by decide +kernel, by decide +kernel, ?_⟩
    rw [SeqAt.eqv_refl _ (SeqAt.canLay_of_shaped (by decide +kernel))]
    exact k _ (k9.trans (Keep.of ((s1.trans s2).trans s3))) (p9.same ((s1.trans s2).trans s3))
end
end K6

set_option Elab.async false
set_option linter.all false
set_option maxRecDepth 100000
set_option maxHeartbeats 4000000
namespace K6
open PySem L2
theorem Tab.keep {H H' : Hp} {l p : Addr} {n : Nat} {T : Rl} (h : Tab H l n T) (n1 : 1 ≤ n) (k : Keep p H H') (hp : PoolAt H p) : Tab H' l n T := by
  obtain ⟨rows, h1, h2, h3⟩ := h
  obtain ⟨o, e, m, g, rfl, _⟩ := hp
  refine ⟨rows, k _ _ h1 fun z => ?_, h2, fun s a q => k _ _ (h3 s a q) fun z => ?_⟩
  · rw [z, e] at h1
    have h1 := HO.lst.inj (Option.some.inj h1)
    cases rows with
    | nil => cases h1
    | cons r rs => cases (List.cons.inj h1).1
  · have := h3 s a q
    rw [z, e] at this
    have this := HO.lst.inj (Option.some.inj this)
    have h0 : (rowV n (T s))[0]? = some (V.bl (T s 0)) := rowV_at (by omega)
    rw [← this] at h0
    cases h0
/-- a list other than the table's own is changed -/
theorem Tab.lstU {H : Hp} {l D : Addr} {n : Nat} {T : Rl} {ts : List Pt} {o : HO} (h : Tab H l n T) (n1 : 1 ≤ n) (ne : l ≠ D) (e : H D = some (.lst (rfs ts))) : Tab (upd H D o) l n T := by
  obtain ⟨rows, h1, h2, h3⟩ := h
  refine ⟨rows, by rw [upd_ne ne]; exact h1, h2, fun s a q => ?_⟩
  rw [upd_ne fun z => ?_]
  · exact h3 s a q
  · have := h3 s a q
    rw [z, e] at this
    have this := HO.lst.inj (Option.some.inj this)
    have h0 : (rowV n (T s))[0]? = some (V.bl (T s 0)) := rowV_at (by omega)
    rw [← this, rfs, List.getElem?_map] at h0
    cases hh : ts[0]? with
    | none => rw [hh] at h0; cases h0
    | some t => rw [hh] at h0; cases h0
theorem Pts.keep {H H' : Hp} {p : Addr} {ts : List Pt} (h : Pts H ts) (k : Keep p H H') (hp : PoolAt H p) : Pts H' ts := fun t m => k _ _ (h t m) (hp.ne (h t m))
theorem rk_closed {ps : List (Nat × Nat)} {pos : Nat → Nat} (h : ∀ p ∈ ps, pos p.1 ≤ pos p.2) (k : Nat) : ∀ s t, wars (orEq (memR ps)) k s t = true → pos s ≤ pos t :=
  wars_keep (fun s t => pos s ≤ pos t) (fun _ _ _ => Nat.le_trans) (fun s t q => by
    rcases orEq_iff.mp q with rfl | q
    · exact Nat.le_refl _
    · exact h _ (of_decide_eq_true q)) k
/-- _law_more_pairs(pool, size, pairs) -/
def spMore : Sp := fun vs H Q _ => ∃ (a l : Addr) (n : Nat) (ts : List Pt), vs = [.ref a, .int (n : Int), .ref l] ∧ PoolAt H a ∧ 1 ≤ n ∧ n ≤ 8 ∧ H l = some (.lst (rfs ts)) ∧ Pts H ts ∧ ts.length ≤ 100 ∧ (∀ t ∈ ts, t.2.1 < n ∧ t.2.2 < n) ∧
  ∀ (r : Addr) (us : List Pt) (H' : Hp), Keep a H H' → PoolAt H' a → H' r = some (.lst (rfs us)) → Pts H' us → us.length ≤ ts.length + 3 → (∀ t ∈ us, t.2.1 < n ∧ t.2.2 < n) → (Rk n (ts.map (·.2)) → Rk n (us.map (·.2))) → Q (.ref r) H'
section
variable {P : Program} {w : World} {K : PySem.W.Frag} {mg : Str → Option Value} {base : Heap} {C S B : Addr}
abbrev s_more : Stmt := top 39
abbrev nMo : List Str := ["_law_pool_here", "_law_size", "_law_pairs_here", "_law_found", "_law_table_here", "_law_turn", "_law_s", "_law_t"]
theorem sc_more : FnScope nMo ["_law_pool_here", "_law_size", "_law_pairs_here"] (defScope s_more) := ⟨rfl, rfl, rfl, by decide +kernel, rfl, by decide +kernel, by decide +kernel⟩
theorem ok_more {f : Addr} {fd : FuncData} (F : Fun K "_law_more_pairs" "_law_more_pairs" s_more f fd) (T : Bn mg) (c_draw : Cal P w K mg base 1 "_law_draw" ["_law_pool_here", "_law_many"] spDraw) (c_pick : Cal P w K mg base 2 "_law_pick" ["_law_pool_here", "_law_things_here"] spPick)
    (c_table : Cal P w K mg base 2 "_law_table" ["_law_size", "_law_pairs_here"] spTable) (c_turn : Cal P w K mg base 2 "_law_turned_about" ["_law_pool_here", "_law_things_here"] spTurnAbout) : FnOk P w K mg base CX0 3 f fd ["_law_pool_here", "_law_size", "_law_pairs_here"] spMore := by
  refine F.ok sc_more (fun vs H Q E h => ?_) (fun cdv A outer s H vs Q E hr h => ?_)
  · obtain ⟨a, l, n, ts, rfl, _⟩ := h
    rfl
  · obtain ⟨a, l, n, ts, rfl, hp, n1, n8, el, pt, hlen, hlt, k⟩ := h
    refine ⟨_, (pss_cons (ps_set (i := 3) sc_more.nd rfl (Or.inl rfl) (pe_callTy call_list_of (by rfl) T.n_list (by decide +kernel) (pa_cons (pv 2) pa_nil)))
      (pss_cons (ps_set (i := 4) sc_more.nd rfl (Or.inr rfl) (pe_cal c_table (hr.mono (by decide)) rfl (pa_cons (pv 1) (pa_cons (pv 2) pa_nil))))
      (pss_cons (ps_for PassesOwn.never rfl (pi_range1 (by rfl) T.n_range (pa_cons (pe_cal c_draw (hr.mono (by decide)) rfl (pa_cons (pv 0) (pa_cons pe_int pa_nil))) pa_nil)) (pg_name (i := 5) sc_more.nd rfl (Or.inl rfl))
        (pss_cons (ps_set (i := 6) sc_more.nd rfl (Or.inr rfl) (pe_cal c_draw (hr.mono (by decide)) rfl (pa_cons (pv 0) (pa_cons (pv 1) pa_nil))))
          (pss_one (ps_expr (pe_bm PySem.F.plainAttrs_list PySem.F.slot_list_append PySem.F.type_list_append mt_append (pv 3) (pa_cons (pe_tup (pa_cons (pv 6) (pa_cons (pe_cal c_pick (hr.mono (by decide)) rfl (pa_cons (pv 0) (pa_cons (pe_lc (own := [("_law_t", 7)]) rfl sc_more.nd (pi_range1 (by rfl) T.n_range (pa_cons (pv 1) pa_nil)) (blkOk_by (N := nMo) (sc := defScope s_more) (by decide +kernel)) (fun _ _ _ _ _ => (pg_name (i := 7) sc_more.nd rfl (Or.inl rfl))) (fun _ _ _ _ _ => (pts_one (pt_val (pe_ix (show IxR _ (rIxL K) from ix_list) (pe_ix (show IxR _ (rIxL K) from ix_list) (pv 4) (pv 6) (fun _ _ => rfl)) (pv 7) (fun _ _ => rfl))))) (fun _ _ _ _ _ => (pv 7))) pa_nil))) pa_nil))) pa_nil))))))
      (pss_one (ps_ret (pe_cal c_turn (hr.mono (by decide)) rfl (pa_cons (pv 0) (pa_cons (pv 3) pa_nil)))))))), ?_⟩
    refine ⟨_, rfl, l, _, rfl, .inl (SqL.of el), fun r nr => ?_⟩
    have s1 := Same.put (o := .lst (rfs ts)) nr
    have er : (upd H r (.lst (rfs ts))) r = some (.lst (rfs ts)) := upd_same
    generalize (upd H r (.lst (rfs ts))) = H1 at s1 er ⊢
    refine ⟨_, rfl, _, rfl, n, l, ts, rfl, n8, .inl (s1 _ _ el), pt.same s1, fun tb H2 s2 ntb tab => ?_⟩
    have tr : tb ≠ r := fun z => by rw [z, er] at ntb; cases ntb
    have s02 := s1.trans s2
    have p2 := hp.same s02
    have er2 := s2 _ _ er
    have pt2 := pt.same s02
    have k2 : Keep a H H2 := Keep.of s02
    clear s1 s2 er ntb s02
    refine ⟨_, rfl, a, 4, rfl, p2, by decide, by decide, fun q o q0 q1 ho => ?_⟩
    have kP := Keep.put (a := a) (H := H2) o
    have k3 := k2.trans kP
    have p3 : PoolAt (upd H2 a o) a := .put ho
    have tab3 := tab.keep n1 kP p2
    have er3 := kP _ _ er2 (p2.neR er2)
    have pt3 := pt2.keep kP p2
    generalize (upd H2 a o) = H3 at k3 p3 tab3 er3 pt3 ⊢
    clear kP p2 tab er2 pt2 k2
    refine ⟨_, rfl, by omega, by omega, ?_⟩
    obtain ⟨m, rfl⟩ : ∃ m : Nat, q = (m : Int) := ⟨q.toNat, by omega⟩
    rw [Int.toNat_natCast]
    refine for_range (fun i σ H' => ∃ v5 v6 us, σ = [some (.ref a), some (.int (n : Int)), some (.ref l), some (.ref r), some (.ref tb), v5, v6, none] ∧ Keep a H H' ∧ PoolAt H' a ∧ Tab H' tb n (wars (orEq (memR (ts.map (·.2)))) n) ∧ H' r = some (.lst (rfs us)) ∧ Pts H' us ∧ us.length ≤ ts.length + i ∧ (∀ t ∈ us, t.2.1 < n ∧ t.2.2 < n) ∧
      ∀ pos : Nat → Nat, (∀ p ∈ ts.map (·.2), pos p.1 ≤ pos p.2) → ∀ u ∈ us, pos u.2.1 ≤ pos u.2.2) ⟨none, none, ts, rfl, k3, p3, tab3, er3, pt3, Nat.le_refl _, hlt, fun pos h u hu => h _ (List.mem_map_of_mem hu)⟩ ?_ ?_
    · rintro i σ H4 hi ⟨v5, v6, us, rfl, k4, p4, tab4, er4, pt4, l4, lt4, rk4⟩
      rw [Int.zero_add]
      refine ⟨_, rfl, _, rfl, a, (n : Int), rfl, p4, by omega, log_small (b := 10) (by show ((n : Int)).natAbs < 2 ^ 10; omega) (by decide) (by decide), fun g o2 g0 g1 ho2 => ?_⟩
      have kP := Keep.put (a := a) (H := H4) o2
      have k5 := k4.trans kP
      have p5 : PoolAt (upd H4 a o2) a := .put ho2
      have tab5 := tab4.keep n1 kP p4
      have er5 := kP _ _ er4 (p4.neR er4)
      have pt5 := pt4.keep kP p4
      generalize (upd H4 a o2) = H5 at k5 p5 tab5 er5 pt5 ⊢
      clear kP p4 tab4 er4 pt4 k4
      obtain ⟨u, rfl⟩ : ∃ u : Nat, g = (u : Int) := ⟨g.toNat, by omega⟩
      have hu : u < n := by omega
      refine ⟨_, rfl, .inl ⟨rfl, _, SqL.of er5⟩, _, rfl, _, rfl, _, rfl, _, rfl, by omega, by omega, fun D nD => ?_⟩
      rw [Int.toNat_natCast]
      generalize hR : wars (orEq (memR (ts.map (·.2)))) n = R at tab5
      refine lc_range (fun j H' => Same H5 H' ∧ H' D = some (.lst (cV ((List.range j).filter (R u))))) ⟨Same.put nD, upd_same⟩ ?_ ?_
      · rintro j H' hj ⟨s6, eD⟩
        rw [Int.zero_add]
        obtain ⟨rows, r1, r2, r3⟩ := tab5.same s6
        have hrow : rows[u]? = some rows[u] := List.getElem?_eq_getElem (by omega)
        refine ⟨rfl, ?_⟩
        refine ⟨_, rfl, _, rfl, tb, _, _, _, rfl, rfl, SqL.of r1, atI_nat (by rw [List.getElem?_map, hrow]; rfl), ?_⟩
        refine ⟨_, rfl, rows[u], _, _, _, rfl, rfl, SqL.of (r3 _ _ hrow), atI_nat (rowV_at hj), _, rfl, iteB (fun z => ?_) (fun z => ?_)⟩
        · refine ⟨_, rfl, _, eD, ?_, Same.but (fun b u e => s6 _ _ e) nD, ?_⟩
          · rw [List.length_map]
            have := List.length_filter_le (R u) (List.range j)
            rw [List.length_range] at this
            exact small_len (by omega)
          · rw [upd_same, List.range_succ, List.filter_append, List.filter_cons, z]
            simp
        · refine ⟨s6, ?_⟩
          rw [List.range_succ, List.filter_append, List.filter_cons, z]
          simpa using eD
      rintro H6 ⟨s6, eD⟩
      have k6 := k5.trans (Keep.of s6)
      have p6 := p5.same s6
      have tab6 := tab5.same s6
      have er6 := s6 _ _ er5
      have pt6 := pt5.same s6
      have Da : D ≠ a := fun z => by
        obtain ⟨o, e, _⟩ := p5
        rw [z, e] at nD
        cases nD
      clear k5 p5 tab5 er5 pt5 s6 nD
      have self : R u u = true := by
        rw [← hR]
        exact wars_old (orEq_iff.mpr (.inl rfl)) n
      have pos0 : 0 < (cV ((List.range n).filter (R u))).length := by
        rw [List.length_map]
        exact List.length_pos_of_mem (List.mem_filter.mpr ⟨List.mem_range.mpr hu, self⟩)
      have le0 : (cV ((List.range n).filter (R u))).length ≤ 200 := by
        rw [List.length_map]
        have := List.length_filter_le (R u) (List.range n)
        rw [List.length_range] at this
        omega
      refine ⟨a, D, _, rfl, p6, .inl eD, Da, pos0, le0, fun x o3 hx ho3 => ?_⟩
      obtain ⟨v, hv, rfl⟩ := List.mem_map.mp hx
      obtain ⟨v1, v2⟩ := List.mem_filter.mp hv
      have v1 := List.mem_range.mp v1
      have kP := Keep.put (a := a) (H := H6) o3
      have k7 := k6.trans kP
      have p7 : PoolAt (upd H6 a o3) a := .put ho3
      have tab7 := tab6.keep n1 kP p6
      have er7 := kP _ _ er6 (p6.neR er6)
      have pt7 := pt6.keep kP p6
      generalize (upd H6 a o3) = H7 at k7 p7 tab7 er7 pt7 ⊢
      clear kP p6 tab6 er6 pt6 k6 eD
      refine ⟨by show 2 ≤ sizeLine; decide, fun c nc => ?_⟩
      have sC := Same.put (o := .tup [.int (u : Int), .int (v : Int)]) nc
      have eC : (upd H7 c (.tup [.int (u : Int), .int (v : Int)])) c = some (.tup (prV (u, v))) := upd_same
      generalize (upd H7 c (.tup [.int (u : Int), .int (v : Int)])) = H8 at sC eC ⊢
      have er8 := sC _ _ er7
      have p8 := p7.same sC
      refine ⟨r, _, _, rfl, rfl, er8, by rw [rfs_len]; exact small_len (by omega), ?_⟩
      refine ⟨_, _, us ++ [(c, u, v)], rfl, fun b o e ne => ?_, ?_, (tab7.same sC).lstU n1 tr er8, by rw [upd_same, rfs_snoc], ((pt7.same sC).snoc eC).lstU er8, ?_, fun t ht => ?_, fun pos hpos t ht => ?_⟩
      · rw [upd_ne (ne_of_none e nr)]
        exact sC _ _ (k7 b o e ne)
      · have ne := p8.neR er8
        obtain ⟨o, e, q⟩ := p8
        exact ⟨o, by rw [upd_ne ne.symm]; exact e, q⟩
      · rw [List.length_append]
        show us.length + 1 ≤ ts.length + (i + 1)
        omega
      · rcases List.mem_append.mp ht with h | h
        · exact lt4 t h
        · rw [List.mem_singleton.mp h]
          exact ⟨hu, v1⟩
      · rcases List.mem_append.mp ht with h | h
        · exact rk4 pos hpos t h
        · rw [List.mem_singleton.mp h]
          rw [← hR] at v2
          exact rk_closed hpos n u v v2
    · rintro σ H4 ⟨v5, v6, us, rfl, k4, p4, tab4, er4, pt4, l4, lt4, rk4⟩
      refine ⟨_, rfl, _, rfl, a, r, _, rfl, p4, by rw [rfs_len]; omega, er4, fun r2 ys H5 k5 p5 _ _ e5 pm => ?_⟩
      obtain ⟨vs, rfl, pq⟩ := perm_map (f := fun t : Pt => V.ref t.1) pm
      refine k r2 vs H5 (k4.trans k5) p5 e5 (fun t m => k5 _ _ (pt4 t (pq.mem_iff.mp m)) (p4.ne (pt4 t (pq.mem_iff.mp m)))) (by rw [pq.length_eq]; omega) (fun t m => lt4 t (pq.mem_iff.mp m)) fun ⟨pos, h1, h2⟩ => ⟨pos, h1, fun p hp => ?_⟩
      obtain ⟨t, m, rfl⟩ := List.mem_map.mp hp
      exact rk4 pos h2 t (pq.mem_iff.mp m)
end
end K6

set_option Elab.async false
set_option linter.all false
set_option maxRecDepth 100000
set_option maxHeartbeats 4000000
namespace K6
open PySem L2
theorem Rk.sub {n : Nat} {ps qs : List (Nat × Nat)} (h : Rk n ps) (s : ∀ p ∈ qs, p ∈ ps) : Rk n qs := by
  obtain ⟨pos, h1, h2⟩ := h
  exact ⟨pos, h1, fun p m => h2 p (s p m)⟩
theorem Rk.up {n : Nat} {ps : List (Nat × Nat)} (h : Rk n ps) (hlt : ∀ p ∈ ps, p.1 < n ∧ p.2 < n) : Rk (n + 1) ps := by
  obtain ⟨pos, h1, h2⟩ := h
  refine ⟨fun i => if i < n then 2 * pos i else 2 * i + 1, fun i j hi hj e => ?_, fun p m => ?_⟩
  · dsimp only at e
    by_cases a : i < n
    · by_cases b : j < n
      · rw [if_pos a, if_pos b] at e
        exact h1 i j a b (by omega)
      · rw [if_pos a, if_neg b] at e
        omega
    · by_cases b : j < n
      · rw [if_neg a, if_pos b] at e
        omega
      · omega
  · obtain ⟨a, b⟩ := hlt p m
    have := h2 p m
    dsimp only
    rw [if_pos a, if_pos b]
    omega
theorem Rk.anti {n : Nat} {ps : List (Nat × Nat)} (h : Rk n ps) (hlt : ∀ p ∈ ps, p.1 < n ∧ p.2 < n) : Anti n (wars (memR ps) n) := by
  obtain ⟨pos, h1, h2⟩ := h
  intro s t a b
  obtain ⟨hs, ht⟩ := wars_bound hlt n s t a
  have le : ∀ s t, wars (memR ps) n s t = true → pos s ≤ pos t := wars_keep (fun s t => pos s ≤ pos t) (fun _ _ _ => Nat.le_trans) (fun s t q => h2 _ (of_decide_eq_true q)) n
  have := le s t a
  have := le t s b
  exact h1 s t hs ht (by omega)
/-- _law_second(pool, size, pairs) -/
def spSecond : Sp := fun vs H Q _ => ∃ (a l : Addr) (n : Nat) (ts : List Pt), vs = [.ref a, .int (n : Int), .ref l] ∧ PoolAt H a ∧ 1 ≤ n ∧ n ≤ 8 ∧ H l = some (.lst (rfs ts)) ∧ Pts H ts ∧ ts.length ≤ 100 ∧ (∀ t ∈ ts, t.2.1 < n ∧ t.2.2 < n) ∧ Rk n (ts.map (·.2)) ∧
  ∀ (r l2 : Addr) (m : Nat) (us : List Pt) (H' : Hp), Keep a H H' → PoolAt H' a → H' r = some (.tup [.int (m : Int), .ref l2]) → H' l2 = some (.lst (rfs us)) → Pts H' us → us.length ≤ 200 → 1 ≤ m → m ≤ 8 → (∀ t ∈ us, t.2.1 < m ∧ t.2.2 < m) → Rk m (us.map (·.2)) → Q (.ref r) H'
theorem cut_rfs (ts : List Pt) (lo hi : Option Int) : ∃ us : List Pt, cutV (rfs ts) lo hi = rfs us ∧ us.length ≤ ts.length ∧ ∀ u ∈ us, u ∈ ts := by
  refine ⟨(ts.drop (HT.sIx (rfs ts).length 0 lo)).take (HT.sIx (rfs ts).length (rfs ts).length hi - HT.sIx (rfs ts).length 0 lo), ?_, ?_, fun u m => List.mem_of_mem_drop (List.mem_of_mem_take m)⟩
  · unfold cutV
    rw [rfs, rfs, List.map_take, List.map_drop]
  · rw [List.length_take, List.length_drop]
    omega
section
variable {P : Program} {w : World} {K : PySem.W.Frag} {mg : Str → Option Value} {base : Heap} {C S B : Addr}
abbrev s_second : Stmt := top 43
theorem sc_second : FnScope ["_law_pool_here", "_law_size", "_law_pairs_here", "_law_way", "_law_gone"] ["_law_pool_here", "_law_size", "_law_pairs_here"] (defScope s_second) := ⟨rfl, rfl, rfl, by decide +kernel, rfl, by decide +kernel, by decide +kernel⟩
theorem ok_second {f : Addr} {fd : FuncData} (F : Fun K "_law_second" "_law_second" s_second f fd) (T : Bn mg) (c_draw : Cal P w K mg base 1 "_law_draw" ["_law_pool_here", "_law_many"] spDraw) (c_op : Cal P w K mg base 3 "_law_order_pairs" ["_law_pool_here", "_law_size"] spOrdPs)
    (c_more : Cal P w K mg base 3 "_law_more_pairs" ["_law_pool_here", "_law_size", "_law_pairs_here"] spMore) : FnOk P w K mg base CX0 4 f fd ["_law_pool_here", "_law_size", "_law_pairs_here"] spSecond := by
  refine F.ok sc_second (fun vs H Q E h => ?_) (fun cdv A outer s H vs Q E hr h => ?_)
  · obtain ⟨a, l, n, ts, rfl, _⟩ := h
    rfl
  · obtain ⟨a, l, n, ts, rfl, hp, n1, n8, el, pt, hlen, hlt, rk, k⟩ := h
    refine ⟨_, (pss_cons (ps_set (i := 3) sc_second.nd rfl (Or.inl rfl) (pe_cal c_draw (hr.mono (by decide)) rfl (pa_cons (pv 0) (pa_cons pe_int pa_nil))))
      (pss_cons (ps_if (pt_cmpR op_eq (pv 3) pe_int (nomark _))
        (pss_one (ps_ret (pe_tup (pa_cons (pv 1) (pa_cons (pe_cal c_op (hr.mono (by decide)) rfl (pa_cons (pv 0) (pa_cons (pv 1) pa_nil))) pa_nil)))))
        pss_nil)
      (pss_cons (ps_if (PW.pt (pw_and (pt_cmpR op_eq (pv 3) pe_int (nomark _)) (pw_and1 (pt_cmpR op_lt (pv 1) pe_int (nomark _)))))
        (pss_one (ps_ret (pe_tup (pa_cons (pe_op op_add (pv 1) pe_int) (pa_cons (pe_callTy call_list_of (by rfl) T.n_list (by decide +kernel) (pa_cons (pv 2) pa_nil)) pa_nil)))))
        pss_nil)
      (pss_cons (ps_if (PW.pt (pw_and (pt_cmpR op_eq (pv 3) pe_int (nomark _)) (pw_and1 (pt_cmpR op_gt (pe_callB call_len_seq (by rfl) T.n_len PySem.boot_len (pa_cons (pv 2) pa_nil)) pe_int (nomark _)))))
        (pss_cons (ps_set (i := 4) sc_second.nd rfl (Or.inl rfl) (pe_cal c_draw (hr.mono (by decide)) rfl (pa_cons (pv 0) (pa_cons (pe_callB call_len_seq (by rfl) T.n_len PySem.boot_len (pa_cons (pv 2) pa_nil)) pa_nil))))
          (pss_one (ps_ret (pe_tup (pa_cons (pv 1) (pa_cons (pe_op op_cat (pe_slice sl_list (pv 2) po_none (po_some (pv 4))) (pe_slice sl_list (pv 2) (po_some (pe_op op_add (pv 4) pe_int)) po_none)) pa_nil))))))
        pss_nil)
      (pss_one (ps_ret (pe_tup (pa_cons (pv 1) (pa_cons (pe_cal c_more (hr.mono (by decide)) rfl (pa_cons (pv 0) (pa_cons (pv 1) (pa_cons (pv 2) pa_nil)))) pa_nil))))))))), ?_⟩
    refine ⟨_, rfl, a, 4, rfl, hp, by decide, by decide, fun q o q0 q1 ho => ?_⟩
    have kP := Keep.put (a := a) (H := H) o
    have p1 : PoolAt (upd H a o) a := .put ho
    have el1 := kP _ _ el (hp.neR el)
    have pt1 := pt.keep kP hp
    generalize (upd H a o) = H1 at kP p1 el1 pt1 ⊢
    have last : ∀ (m : Nat) (l2 c : Addr) (us : List Pt) (H2 : Hp), Keep a H1 H2 → PoolAt H2 a → H2 l2 = some (.lst (rfs us)) → Pts H2 us → us.length ≤ 200 → 1 ≤ m → m ≤ 8 → (∀ t ∈ us, t.2.1 < m ∧ t.2.2 < m) → Rk m (us.map (·.2)) → H2 c = none → Q (.ref c) (upd H2 c (.tup [.int (m : Int), .ref l2])) := by
      intro m l2 c us H2 k2 p2 e2 pt2 len2 m1 m8 lt2 rk2 nc
      have sC := Same.put (o := .tup [.int (m : Int), .ref l2]) nc
      exact k c l2 m us _ (kP.trans (k2.trans (Keep.of sC))) (p2.same sC) upd_same (sC _ _ e2) (pt2.same sC) len2 m1 m8 lt2 rk2
    have hltp : ∀ p ∈ ts.map (·.2), p.1 < n ∧ p.2 < n := fun p hp => by
      obtain ⟨t, m, rfl⟩ := List.mem_map.mp hp
      exact hlt t m
    have hq : q = 0 ∨ q = 1 ∨ q = 2 ∨ q = 3 := by omega
    rcases hq with rfl | rfl | rfl | rfl
    · refine ⟨_, rfl, rfl, _, rfl, iteT ?_⟩
      exact ⟨_, rfl, _, rfl, _, rfl, a, n, rfl, p1, n1, n8, fun l2 us H2 k2 p2 e2 pt2 l2' lt2 rk2 => ⟨by show 2 ≤ sizeLine; decide, fun c nc => last n l2 c us H2 k2 p2 e2 pt2 (by omega) n1 n8 lt2 rk2 nc⟩⟩
    · refine ⟨_, rfl, rfl, _, rfl, iteF ?_⟩
      refine ⟨_, rfl, rfl, _, rfl, iteT ?_⟩
      refine ⟨_, rfl, _, _, rfl, rfl, _, rfl, iteB (fun z => ?_) (fun z => ?_)⟩
      · have z : n < 8 := by
          have := of_decide_eq_true z
          omega
        refine ⟨_, rfl, _, _, rfl, rfl, _, rfl, l, _, rfl, .inl (SqL.of el1), fun l2 nl2 => ⟨by show 2 ≤ sizeLine; decide, fun c nc => ?_⟩⟩
        have sL := Same.put (o := .lst (rfs ts)) nl2
        exact last (n + 1) l2 c ts _ (Keep.of sL) (p1.same sL) upd_same (pt1.same sL) (by omega) (by omega) (by omega) (fun t m => by have := hlt t m; omega) (rk.up hltp) nc
      · refine ⟨_, rfl, rfl, _, rfl, iteF ?_⟩
        exact ⟨_, rfl, _, rfl, _, rfl, _, rfl, a, l, n, ts, rfl, p1, n1, n8, el1, pt1, hlen, hlt, fun l2 us H2 k2 p2 e2 pt2 l2' lt2 rk2 => ⟨by show 2 ≤ sizeLine; decide, fun c nc => last n l2 c us H2 k2 p2 e2 pt2 (by omega) n1 n8 lt2 (rk2 rk) nc⟩⟩
    · refine ⟨_, rfl, rfl, _, rfl, iteF ?_⟩
      refine ⟨_, rfl, rfl, _, rfl, iteF ?_⟩
      refine ⟨_, rfl, rfl, _, rfl, iteT ?_⟩
      refine ⟨_, rfl, l, _, rfl, .inl (SqL.of el1), _, _, rfl, rfl, _, rfl, iteB (fun z => ?_) (fun z => ?_)⟩
      · have z : 0 < ts.length := by
          have := of_decide_eq_true z
          rw [rfs_len] at this
          omega
        refine ⟨_, rfl, _, rfl, l, _, rfl, .inl (SqL.of el1), a, _, rfl, p1, by rw [rfs_len]; omega, log_small (b := 10) (by rw [rfs_len]; show ((ts.length : Int)).natAbs < 2 ^ 10; omega) (by decide) (by decide), fun g o2 g0 g1 ho2 => ?_⟩
        have kQ := Keep.put (a := a) (H := H1) o2
        have p3 : PoolAt (upd H1 a o2) a := .put ho2
        have el3 := kQ _ _ el1 (p1.neR el1)
        have pt3 := pt1.keep kQ p1
        generalize (upd H1 a o2) = H3 at kQ p3 el3 pt3 ⊢
        refine ⟨_, rfl, _, rfl, _, rfl, _, rfl, l, _, rfl, SqL.of el3, fun b1 nb1 => ?_⟩
        obtain ⟨us1, eu1, lu1, mu1⟩ := cut_rfs ts none (some g)
        rw [eu1]
        have sA := Same.put (o := .lst (rfs us1)) nb1
        have eA : (upd H3 b1 (.lst (rfs us1))) b1 = some (.lst (rfs us1)) := upd_same
        generalize (upd H3 b1 (.lst (rfs us1))) = H4 at sA eA ⊢
        refine ⟨_, rfl, _, rfl, _, _, rfl, rfl, _, rfl, l, _, rfl, SqL.of (sA _ _ el3), fun b2 nb2 => ?_⟩
        obtain ⟨us2, eu2, lu2, mu2⟩ := cut_rfs ts (some (g + 1)) none
        rw [eu2]
        have sB := Same.put (o := .lst (rfs us2)) nb2
        have eB : (upd H4 b2 (.lst (rfs us2))) b2 = some (.lst (rfs us2)) := upd_same
        have eA := sB _ _ eA
        generalize (upd H4 b2 (.lst (rfs us2))) = H5 at sB eB eA ⊢
        refine ⟨b1, b2, rfs us1, rfs us2, rfl, rfl, eA, eB, ?_, fun b3 nb3 => ?_⟩
        · rw [rfs_len, rfs_len]
          exact Nat.le_of_lt (small_len (by omega))
        rw [show rfs us1 ++ rfs us2 = rfs (us1 ++ us2) by rw [rfs, rfs, rfs, List.map_append]]
        have sC := Same.put (o := .lst (rfs (us1 ++ us2))) nb3
        have sX := (sA.trans sB).trans sC
        have mem : ∀ u ∈ us1 ++ us2, u ∈ ts := fun u m => (List.mem_append.mp m).elim (mu1 u) (mu2 u)
        refine ⟨by show 2 ≤ sizeLine; decide, fun c nc => ?_⟩
        refine last n b3 c (us1 ++ us2) _ (kQ.trans (Keep.of sX)) (p3.same sX) upd_same (fun t m => sX _ _ (pt3 t (mem t m))) ?_ n1 n8 (fun t m => hlt t (mem t m)) (rk.sub fun p hp => ?_) nc
        · rw [List.length_append]
          omega
        · obtain ⟨t, m, rfl⟩ := List.mem_map.mp hp
          exact List.mem_map_of_mem (mem t m)
      · refine ⟨_, rfl, _, rfl, _, rfl, _, rfl, a, l, n, ts, rfl, p1, n1, n8, el1, pt1, hlen, hlt, fun l2 us H2 k2 p2 e2 pt2 l2' lt2 rk2 => ⟨by show 2 ≤ sizeLine; decide, fun c nc => last n l2 c us H2 k2 p2 e2 pt2 (by omega) n1 n8 lt2 (rk2 rk) nc⟩⟩
    · refine ⟨_, rfl, rfl, _, rfl, iteF ?_⟩
      refine ⟨_, rfl, rfl, _, rfl, iteF ?_⟩
      refine ⟨_, rfl, rfl, _, rfl, iteF ?_⟩
      exact ⟨_, rfl, _, rfl, _, rfl, _, rfl, a, l, n, ts, rfl, p1, n1, n8, el1, pt1, hlen, hlt, fun l2 us H2 k2 p2 e2 pt2 l2' lt2 rk2 => ⟨by show 2 ≤ sizeLine; decide, fun c nc => last n l2 c us H2 k2 p2 e2 pt2 (by omega) n1 n8 lt2 (rk2 rk) nc⟩⟩
end
end K6

set_option Elab.async false
set_option linter.all false
set_option maxRecDepth 100000
set_option maxHeartbeats 4000000
namespace K6
open PySem L2
/-- Order(sz, ps) at what follows -/
theorem mk_go {S C B : Addr} {sz ps : V} {H : Hp} {Qv : VK} {E : XK} {kz kp : Kd} {x dx : Addr} (hx : H x = none) (hd : H dx = none) (ne : dx ≠ x) (hz : Th S H sz kz) (hp : Th S H ps kp) (it : ItTh S H ps) (kb : Bad H sz ps → ∀ H', Same H H' → E (.ref B) none H')
    (kg : ∀ n l ts, GoodP H sz ps n l ts → ∀ (H' : Hp), Same H H' → IsOrd C H' x n (lowL n (wars (memR (ts.map (·.2))) n)) → Qv .non H') :
    spOI S C B [.ref x, sz, ps] (upd (upd H dx (.own x)) x (.ins C dx [])) Qv E := by
  have s1 : Same H (upd (upd H dx (.own x)) x (.ins C dx [])) := (Same.put hd).trans (Same.put (by rw [upd_ne ne.symm]; exact hx))
  refine ⟨x, dx, sz, ps, kz, kp, rfl, upd_same, hz.same s1, hp.same s1, it.up hp s1, fun b H' s2 => kb (fun n l ts g => b n l ts (g.up s1)) H' (s1.trans s2), fun n l ts g T us H2 s2 eT pT qT => kg n l ts (g.back hp it s1) _ ?_ ⟨dx, T, us, upd_same, ?_, ?_, qT⟩⟩
  · exact fun b u e => by
      rw [upd_ne (ne_of_none e hx)]
      exact s2 _ _ (s1 _ _ e)
  · have ex := s2 _ _ (show (upd (upd H dx (.own x)) x (.ins C dx [])) x = some (.ins C dx []) from upd_same)
    rw [upd_ne (fun z => by rw [z, ex] at eT; cases eT)]
    exact eT
  · have ex := s2 _ _ (show (upd (upd H dx (.own x)) x (.ins C dx [])) x = some (.ins C dx []) from upd_same)
    intro u hu
    have := pT u hu
    rw [upd_ne (fun z => by rw [z, ex] at this; cases this)]
    exact this
theorem ord_go {S C B : Addr} {n : Nat} {l : Addr} {ts : List Pt} {H : Hp} {Qv : VK} {E : XK} {x dx : Addr} (hx : H x = none) (hd : H dx = none) (ne : dx ≠ x) (n1 : 1 ≤ n) (n8 : n ≤ 8) (h5 : Sq H l (rfs ts)) (h6 : Pts H ts) (hlt : ∀ t ∈ ts, t.2.1 < n ∧ t.2.2 < n) (an : Anti n (wars (memR (ts.map (·.2))) n)) (len : ts.length ≤ 200)
    (k : ∀ (H' : Hp), Same H H' → IsOrd C H' x n (lowL n (wars (memR (ts.map (·.2))) n)) → Qv .non H') : spOI S C B [.ref x, .int (n : Int), .ref l] (upd (upd H dx (.own x)) x (.ins C dx [])) Qv E := by
  obtain ⟨kp, hp⟩ := sq_th (S := S) h5
  refine mk_go hx hd ne (.int _) hp (pts_it h5 h6 len) (fun b => absurd ⟨rfl, rfl, n1, n8, h5, h6, hlt, an⟩ (b _ _ _)) fun m l' ts' g' H' s io => ?_
  obtain ⟨e1, e2, _, _, g5, g6, _⟩ := g'
  obtain rfl : n = m := by
    rw [V.int.injEq] at e1
    omega
  cases e2
  rw [← pts_eq h6 g6 (Sq.uniq h5 g5)] at io
  exact k H' s io
theorem ords_eq {n : Nat} {R S : Rl} : lowL n R = lowL n S ↔ ∀ s t, s < n → t < n → orEq R s t = orEq S s t := by
  constructor
  · intro h s t hs ht
    have e := orEq_low R hs ht
    rw [h, orEq_low S hs ht] at e
    exact e.symm
  · intro h
    unfold lowL
    refine List.filter_congr fun p hp => ?_
    obtain ⟨h1, h2⟩ := mem_prs.mp hp
    have e := h p.1 p.2 h1 h2
    unfold keepB
    unfold orEq at e
    by_cases q : p.1 = p.2
    · rw [decide_eq_false (fun z => z q), Bool.false_and, Bool.false_and]
    · rw [decide_eq_false q, Bool.false_or, Bool.false_or] at e
      rw [e]
/-! ### tables as data -/
def rowD (n : Nat) (f : Nat → Bool) : PyData := .list ((List.range n).map fun t => PyData.bool (f t))
def tabD (n : Nat) (T : Rl) : PyData := .list ((List.range n).map fun s => rowD n (T s))
theorem dp_bls {K : PySem.W.Frag} {H : Hp} (f : Nat → Bool) : ∀ l : List Nat, DpAll K H (l.map fun t => V.bl (f t)) (l.map fun t => PyData.bool (f t))
  | [] => .nil
  | a :: l => .cons (.bl _) (dp_bls f l)
theorem dp_rows {K : PySem.W.Frag} {H : Hp} {n : Nat} {T : Rl} : ∀ (rows : List Addr) (i : Nat), (∀ s a, rows[s]? = some a → H a = some (.lst (rowV n (T (i + s))))) → DpAll K H (rows.map V.ref) ((List.range' i rows.length).map fun s => rowD n (T s))
  | [], i, _ => .nil
  | a :: rows, i, h => by
    rw [List.length_cons, List.range'_succ]
    refine .cons (.lst (SqL.of (h 0 a rfl)) (dp_bls _ _)) (dp_rows rows (i + 1) fun s b e => ?_)
    have := h (s + 1) b e
    rw [show i + (s + 1) = i + 1 + s by omega] at this
    exact this
theorem Tab.dp {K : PySem.W.Frag} {H : Hp} {l : Addr} {n : Nat} {T : Rl} (h : Tab H l n T) : Dp K H (.ref l) (tabD n T) := by
  obtain ⟨rows, h1, h2, h3⟩ := h
  have := dp_rows (K := K) (H := H) (n := n) (T := T) rows 0 fun s a e => by rw [Nat.zero_add]; exact h3 s a e
  rw [h2, ← List.range_eq_range'] at this
  exact .lst (SqL.of h1) this
theorem eqv_bls (f g : Nat → Bool) : ∀ l : List Nat, PyData.eqvAll (l.map fun t => PyData.bool (f t)) (l.map fun t => PyData.bool (g t)) = l.all fun t => f t == g t
  | [] => rfl
  | a :: l => by
    show (PyData.eqv (.bool (f a)) (.bool (g a)) && PyData.eqvAll (l.map fun t => PyData.bool (f t)) (l.map fun t => PyData.bool (g t))) = _
    rw [eqv_bls f g l, List.all_cons]
    cases f a <;> cases g a <;> rfl
theorem eqv_rows {n : Nat} (T U : Rl) : ∀ l : List Nat, PyData.eqvAll (l.map fun s => rowD n (T s)) (l.map fun s => rowD n (U s)) = l.all fun s => (List.range n).all fun t => T s t == U s t
  | [] => rfl
  | a :: l => by
    show (PyData.eqv (rowD n (T a)) (rowD n (U a)) && PyData.eqvAll (l.map fun s => rowD n (T s)) (l.map fun s => rowD n (U s))) = _
    rw [eqv_rows T U l, List.all_cons]
    congr 1
    unfold rowD
    rw [PyData.eqv]
    exact eqv_bls _ _ _
def tabEq (n : Nat) (T U : Rl) : Bool := (List.range n).all fun s => (List.range n).all fun t => T s t == U s t
theorem tabEq_iff {n : Nat} {T U : Rl} : tabEq n T U = true ↔ ∀ s t, s < n → t < n → T s t = U s t := by
  unfold tabEq
  rw [List.all_eq_true]
  constructor
  · intro h s t hs ht
    have := List.all_eq_true.mp (h s (List.mem_range.mpr hs)) t (List.mem_range.mpr ht)
    exact beq_iff_eq.mp this
  · intro h s hs
    exact List.all_eq_true.mpr fun t ht => beq_iff_eq.mpr (h s t (List.mem_range.mp hs) (List.mem_range.mp ht))
theorem eqv_tabs {n : Nat} (T U : Rl) : PyData.eqv (tabD n T) (tabD n U) = tabEq n T U := by
  unfold tabD
  rw [PyData.eqv]
  exact eqv_rows T U _
theorem tab_low {n : Nat} {R S : Rl} : tabEq n (orEq R) (orEq S) = decide (lowL n R = lowL n S) := by
  rw [Bool.eq_iff_iff, tabEq_iff, decide_eq_true_eq, ords_eq]
theorem lay_bls (f : Nat → Bool) : ∀ l : List Nat, PyData.canLayAll0 (l.map fun t => PyData.bool (f t)) = true ∧ PyData.depthAll (l.map fun t => PyData.bool (f t)) = 0
  | [] => ⟨rfl, rfl⟩
  | a :: l => by
    obtain ⟨h1, h2⟩ := lay_bls f l
    refine ⟨?_, ?_⟩
    · show ((PyData.bool (f a)).canLay0 && PyData.canLayAll0 (l.map fun t => PyData.bool (f t))) = true
      rw [h1]
      rfl
    · show max (PyData.depth (.bool (f a))) (PyData.depthAll (l.map fun t => PyData.bool (f t))) = 0
      rw [h2]
      rfl
theorem lay_rows {n : Nat} (T : Rl) : ∀ l : List Nat, PyData.canLayAll0 (l.map fun s => rowD n (T s)) = true ∧ PyData.depthAll (l.map fun s => rowD n (T s)) ≤ 1
  | [] => ⟨rfl, Nat.zero_le _⟩
  | a :: l => by
    obtain ⟨h1, h2⟩ := lay_rows T l
    obtain ⟨h3, h4⟩ := lay_bls (T a) (List.range n)
    refine ⟨?_, ?_⟩
    · show (PyData.canLayAll0 ((List.range n).map fun t => PyData.bool (T a t)) && PyData.canLayAll0 (l.map fun s => rowD n (T s))) = true
      rw [h1, h3]
      rfl
    · show max (PyData.depthAll ((List.range n).map fun t => PyData.bool (T a t)) + 1) (PyData.depthAll (l.map fun s => rowD n (T s))) ≤ 1
      rw [h4]
      omega
theorem sh_tab (n : Nat) (T : Rl) : SeqAt.shaped (tabD n T) = true := by
  obtain ⟨h1, h2⟩ := lay_rows (n := n) T (List.range n)
  unfold SeqAt.shaped
  rw [Bool.and_eq_true, decide_eq_true_eq]
  refine ⟨h1, ?_⟩
  show PyData.depthAll ((List.range n).map fun s => rowD n (T s)) + 1 ≤ 64
  omega
/-! ### orders compared -/
structure OrEq (P : Program) (w : World) (K : PySem.W.Frag) (mg : Str → Option Value) (base : Heap) (C : Addr) : Prop where
  ex : ∃ (f : Addr) (fd : FuncData), OwnT K C f ∧ FnOk P w K mg base CX0 1 f fd ["self", "other"] (spOwn (EqO C)) ∧ Binds K fd ["self", "other"] []
theorem OrEq.op {X : Cx} {C : Addr} (c : OrEq X.prog X.w X.K X.mg X.base C) (hr : Room 2 X.A) : ∃ r : R2, OpR X (compareOp .Eq) r ∧ ∀ (a b : Addr) (n m : Nat) (low low' : List (Nat × Nat)) (H : Hp) (Q : VK), IsOrd C H a n low → IsOrd C H b m low' → Q (.bl (decide (n = m) && decide (low = low'))) H → r (.ref a) (.ref b) H Q := by
  obtain ⟨f, fd, O, F, hb⟩ := c.ex
  refine ⟨_, op_ownB is_eq F O hb pass0 hr, fun a b n m low low' H Q ha hb q => ⟨_, .inl ?_, q⟩⟩
  obtain ⟨dx, L, ts, h1, _⟩ := id ha
  obtain ⟨dy, L', ts', g1, _⟩ := id hb
  exact ⟨a, dx, _, rfl, h1, ⟨b, n, m, low, low', rfl, ha, hb, rfl⟩, .inr ⟨b, dy, _, rfl, g1⟩⟩
/-- the closure is closed -/
theorem wars_tr (R : Rl) (n : Nat) : ∀ k s t, k < n → wars R n s k = true → wars R n k t = true → wars R n s t = true := fun k s t hk => wars_trans n k s t hk
theorem low_self {n : Nat} {R : Rl} (tr : ∀ k s t, k < n → R s k = true → R k t = true → R s t = true) (an : Anti n R) : wars (memR (lowL n R)) n = memR (lowL n R) := by
  refine wars_self (fun k s t h1 h2 => ?_) n
  obtain ⟨a1, a2, a3, a4⟩ := mem_low.mp (of_decide_eq_true h1)
  obtain ⟨b1, b2, b3, b4⟩ := mem_low.mp (of_decide_eq_true h2)
  refine decide_eq_true (mem_low.mpr ⟨a1, b2, fun e => ?_, tr k s t a2 a4 b4⟩)
  dsimp only at a3 a4 b4 e
  rw [← e] at b4
  exact a3 (an _ _ a4 b4)
theorem low_again {n : Nat} {R : Rl} (tr : ∀ k s t, k < n → R s k = true → R k t = true → R s t = true) (an : Anti n R) : lowL n (wars (memR (lowL n R)) n) = lowL n R := by
  rw [low_self tr an]
  unfold lowL
  refine List.filter_congr fun p hp => ?_
  obtain ⟨h1, h2⟩ := mem_prs.mp hp
  unfold keepB
  by_cases e : p.1 = p.2
  · rw [decide_eq_false (fun z => z e), Bool.false_and, Bool.false_and]
  · rw [decide_eq_true e, Bool.true_and, Bool.true_and, Bool.eq_iff_iff]
    constructor
    · exact fun h => (mem_low.mp (of_decide_eq_true h)).2.2.2
    · exact fun h => decide_eq_true (mem_low.mpr ⟨h1, h2, e, h⟩)
theorem low_anti {n : Nat} {R : Rl} (tr : ∀ k s t, k < n → R s k = true → R k t = true → R s t = true) (an : Anti n R) : Anti n (wars (memR (lowL n R)) n) := by
  rw [low_self tr an]
  intro s t h1 h2
  exact an _ _ (mem_low.mp (of_decide_eq_true h1)).2.2.2 (mem_low.mp (of_decide_eq_true h2)).2.2.2
theorem le_orEq (s t : Nat) : decide (s ≤ t) = orEq (fun s t => decide (s < t)) s t := by
  unfold orEq
  rw [Bool.eq_iff_iff, Bool.or_eq_true, decide_eq_true_eq, decide_eq_true_eq, decide_eq_true_eq]
  omega
theorem sw_orEq {R : Rl} (s t : Nat) : orEq R t s = orEq (sw R) s t := by
  unfold orEq sw
  rw [decide_eq_decide.mpr (eq_comm : t = s ↔ s = t)]
theorem Tab.congr {H : Hp} {l : Addr} {n : Nat} {T U : Rl} (h : Tab H l n T) (e : ∀ s t, s < n → t < n → T s t = U s t) : Tab H l n U := by
  obtain ⟨rows, h1, h2, h3⟩ := h
  refine ⟨rows, h1, h2, fun s a q => ?_⟩
  rw [h3 s a q]
  have hs : s < n := by
    have := (List.getElem?_eq_some_iff.mp q).1
    omega
  congr 2
  unfold rowV
  exact List.map_congr_left fun t ht => by rw [e s t hs (List.mem_range.mp ht)]
theorem swap_tr {n : Nat} {R : Rl} (tr : ∀ k s t, k < n → R s k = true → R k t = true → R s t = true) : ∀ k s t, k < n → sw R s k = true → sw R k t = true → sw R s t = true := fun k s t hk a b => tr k t s hk b a
theorem swap_anti {n : Nat} {R : Rl} (an : Anti n R) : Anti n (sw R) := fun s t a b => an s t b a
end K6

set_option Elab.async false
set_option linter.all false
set_option maxRecDepth 100000
set_option maxHeartbeats 4000000
namespace K6
open PySem L2
section
variable {X : Cx} {k : Nat} {ps : List Str} {sp : Sp} {x : Str} {p pos : Pos} {e : Expr} {es : List Expr} {t : TA}
theorem pe_calx (c : CalX X.prog X.w X.K X.mg X.base k x ps sp) (hr : Room k X.A) (hg : Gl X x) (ha : PA X (e :: es) t) (hdb : (x == ("__debug__" : Str)) = false := by decide)
    (he : starEach (e :: es) X.env = (false, eval e X.env) :: starEach es X.env := by rfl) (hpl : (backTo pos (starEach es X.env)).any (·.1) = false := by rfl) :
    PE X (.Call (.Name x p) (e :: es) [] pos) (tCall sp [] E0 t) := by
  obtain ⟨f, fd, hm, hk, F, hb⟩ := c.ex
  exact pe_call F hr hg hm hk hb .nil passX ha hdb he hpl
end
/-! ### the law's first half -/
structure LawA (P : Program) (w : World) (K : PySem.W.Frag) (mg : Str → Option Value) (base : Heap) (S C B : Addr) : Prop where
  T : OrT K mg C
  m : MkO P w K mg base S C B
  eq : OrEq P w K mg base C
  turned : TurnedT P w K mg base C
  pairs : PairsT P w K mg base C
  pool : Cal P w K mg base 1 "_law_pool" ["_law_script"] (spPool K)
  draw : Cal P w K mg base 1 "_law_draw" ["_law_pool_here", "_law_many"] spDraw
  more : Cal P w K mg base 3 "_law_more_pairs" ["_law_pool_here", "_law_size", "_law_pairs_here"] spMore
  ordps : Cal P w K mg base 3 "_law_order_pairs" ["_law_pool_here", "_law_size"] spOrdPs
  table : Cal P w K mg base 2 "_law_table" ["_law_size", "_law_pairs_here"] spTable
  told : Cal P w K mg base 7 "_law_is_told" ["_law_order", "_law_size", "_law_table_here"] (spTold C)
  refuses : Cal P w K mg base 8 "_law_refuses" ["_law_pool_here", "_law_order", "_law_size"] (spRefuses C)
  second : Cal P w K mg base 4 "_law_second" ["_law_pool_here", "_law_size", "_law_pairs_here"] spSecond
  line : CalX P w K mg base 7 "line" ["size"] (spLine S C B)
abbrev NA : List Str := ["_law_script", "_law_pool_here", "_law_size", "_law_pairs_here", "_law_table_here", "_law_passed", "_law_order", "_law_turned", "_law_other_way", "_law_many", "_law_others", "_law_same", "_law_level", "_law_steps", "_law_s", "_law_row", "_law_t"]
abbrev s_of : Stmt := top 53
theorem sc_of : FnScope NA ["_law_script"] (defScope s_of) := ⟨rfl, rfl, rfl, by decide +kernel, rfl, by decide +kernel, by decide +kernel⟩
/-- the block of the steps -/
def scSteps : Scope := { kind := .function, names := [(".0", .local), ("_law_s", .cell), ("range", .globalImplicit), ("_law_size", .cell)], isGenerator := false, isCoroutine := false }
section
variable {P : Program} {w : World} {K : PySem.W.Frag} {mg : Str → Option Value} {base : Heap} {S C B : Addr} {f : Addr} {cdv : Value} {A : Around} {outer : List Env} {s : Shared} {H : Hp} {E : XK}
abbrev XA (P : Program) (w : World) (K : PySem.W.Frag) (mg : Str → Option Value) (base : Heap) (f : Addr) (cdv : Value) (A : Around) (outer : List Env) (s : Shared) (H : Hp) (E : XK) : Cx :=
  (cxOf CX0 P w K mg base NA "_law_of_orders" (defScope s_of) f cdv A outer s H E).nox
theorem segA17 (L : LawA P w K mg base S C B) (hr : Room 8 (XA P w K mg base f cdv A outer s H E).A) {Q : VK} (k : ∀ H', Same H H' → Q (.bl true) H') :
    ∃ u, PSs (XA P w K mg base f cdv A outer s H E) ((defBody s_of).drop 17) u ∧ ∀ (n : Nat) (o tb : Addr) (R : Rl) (v0 v1 v3 v5 v7 v8 v9 v10 v11 v12 v13 : Option V) (H1 : Hp), 1 ≤ n → n ≤ 8 → IsOrd C H1 o n (lowL n R) → Tab H1 tb n (orEq R) →
      Same H H1 → u { nx := fun _ H' => Q .non H', rt := Q } [v0, v1, some (.int (n : Int)), v3, some (.ref tb), v5, some (.ref o), v7, v8, v9, v10, v11, v12, v13, none, none, none] H1 := by
  obtain ⟨req, Req, keq⟩ := L.eq.op (X := XA P w K mg base f cdv A outer s H E) (hr.mono (by decide))
  have h64 := un64x hr
  refine ⟨_, (pss_cons (ps_set (i := 12) sc_of.nd rfl (Or.inl rfl) (pe_calx L.line (hr.mono (by decide)) rfl (pa_cons (pv 2) pa_nil)))
    (pss_cons (ps_setLc (i := 13) (own := [("_law_s", 14)]) rfl sc_of.nd rfl rfl (sw_true rfl rfl rfl (by decide +kernel)) (pi_range1 (by rfl) L.T.bn.n_range (pa_cons (pv 2) pa_nil)) (blkOk_by (N := NA) (sc := defScope s_of) (by decide +kernel)) (fun _ _ _ _ _ => (pg_name (i := 14) sc_of.nd rfl (Or.inr rfl))) (fun _ _ _ _ _ => pts_nil)
      (fun _ _ _ _ _ => (pe_lc (own := [("_law_t", 16)]) rfl sc_of.nd (pi_range1 (by rfl) L.T.bn.n_range (pa_cons (pv 2) pa_nil)) (blkOk_by (N := NA) (sc := scSteps) (by decide +kernel)) (fun _ _ _ _ _ => (pg_name (i := 16) sc_of.nd rfl (Or.inl rfl))) (fun _ _ _ _ _ => pts_nil) (fun _ _ _ _ _ => (pe_cmpR op_le (pv 14) (pv 16) (nomark _))))))
    (pss_cons (ps_if (PW.pt (pw_or (pt_not (pt_val (pe_callB call_isi (by rfl) L.T.bn.n_isinstance (by decide +kernel) (pa_cons (pv 12) (pa_cons (pe_glob (v := .ref C) rfl L.T.gO rfl) pa_nil))))) (pw_or1 (pt_not (pt_val (pe_cal L.told (hr.mono (by decide)) rfl (pa_cons (pv 12) (pa_cons (pv 2) (pa_cons (pv 13) pa_nil)))))))))
      (pss_one (ps_ret pe_bl))
      pss_nil)
    (pss_one (ps_ret (pe_cmpR op_eq (pe_cmpR Req (pv 12) (pv 6) (nomark _)) (pe_cmpR (op_eqD (by exact h64)) (pv 4) (pv 13) (nomark _)) (nomark _))))))), ?_⟩
  intro n o tb R v0 v1 v3 v5 v7 v8 v9 v10 v11 v12 v13 H1 n1 n8 io tab sF
  refine ⟨_, rfl, .int (n : Int), .int, rfl, .int _, fun z => ?_, fun m em m1 m8 x H2 s2 io2 => ?_⟩
  · have : (decide ((1 : Int) ≤ n) && decide ((n : Int) ≤ 8)) = false := z
    rw [decide_eq_true (by omega : (1 : Int) ≤ n), decide_eq_true (by omega : (n : Int) ≤ 8)] at this
    cases this
  obtain rfl : n = m := by
    rw [V.int.injEq] at em
    omega
  rw [line_low n] at io2
  -- the steps
  refine ⟨_, rfl, _, rfl, by omega, by omega, fun D nD => ?_⟩
  rw [Int.toNat_natCast]
  have tab2 := tab.same s2
  refine lc_range (fun i H' => Same H2 H' ∧ ∃ rows : List Addr, H' D = some (.lst (rows.map V.ref)) ∧ rows.length = i ∧ (∀ a ∈ rows, a ≠ D) ∧ ∀ s a, rows[s]? = some a → H' a = some (.lst (rowV n fun t => decide (s ≤ t)))) ⟨Same.put nD, [], upd_same, rfl, fun _ m => (by cases m), fun s a e => by simp at e⟩ ?_ ?_
  · rintro i H' hi ⟨s3, rows, eD, lD, dD, aD⟩
    rw [Int.zero_add]
    refine ⟨rfl, yes_of ?_⟩
    refine ⟨_, rfl, _, rfl, by omega, by omega, fun G nG => ?_⟩
    rw [Int.toNat_natCast]
    refine lc_range (fun j H'' => Same H' H'' ∧ H'' G = some (.lst (rowV j fun t => decide (i ≤ t)))) ⟨Same.put nG, upd_same⟩ ?_ ?_
    · rintro j H'' hj ⟨s4, eG⟩
      rw [Int.zero_add]
      refine ⟨rfl, yes_of ?_⟩
      refine ⟨_, rfl, _, rfl, _, _, rfl, rfl, _, eG, by rw [rowV_len]; exact small_len (by omega), Same.but (fun b u e => s4 _ _ e) nG, ?_⟩
      rw [upd_same, rowV_succ]
      show some (HO.lst (_ ++ [V.bl (decide ((i : Int) ≤ (j : Int)))])) = _
      rw [decide_eq_decide.mpr (Int.ofNat_le : ((i : Int) ≤ (j : Int)) ↔ i ≤ j)]
    · rintro H'' ⟨s4, eG⟩
      have GD : G ≠ D := fun z => by
        rw [z, eD] at nG
        cases nG
      refine ⟨_, s4 _ _ eD, by rw [List.length_map]; exact small_len (by omega), Same.but (fun b u e => s4 _ _ (s3 _ _ e)) nD, rows ++ [G], ?_, ?_, fun a m => ?_, fun s a e => ?_⟩
      · rw [upd_same, List.map_append]
        rfl
      · rw [List.length_append, lD]
        rfl
      · rcases List.mem_append.mp m with m | m
        · exact dD a m
        · rw [List.mem_singleton.mp m]; exact GD
      · rcases Nat.lt_or_ge s rows.length with h | h
        · rw [List.getElem?_append_left h] at e
          rw [upd_ne (dD a (List.mem_of_getElem? e))]
          exact s4 _ _ (aD s a e)
        · rw [List.getElem?_append_right h] at e
          have hz : s - rows.length = 0 := by
            have := (List.getElem?_eq_some_iff.mp e).1
            simpa using this
          rw [hz] at e
          have e' : G = a := by simpa using e
          have es : s = i := by omega
          rw [← e', es, upd_ne GD]
          exact eG
  rintro H3 ⟨s3, rows, eD, lD, dD, aD⟩
  have tabS : Tab H3 D n (orEq fun s t => decide (s < t)) := Tab.congr (T := fun s t => decide (s ≤ t)) ⟨rows, eD, lD, aD⟩ fun s t _ _ => le_orEq s t
  have io3 := io2.same s3
  refine ⟨_, rfl, .ref x, .ref C, _, _, true, rfl, .own C, io3.ty L.T, L.T.self, _, rfl, iteF ?_⟩
  refine ⟨_, rfl, _, rfl, _, rfl, x, D, n, _, rfl, n1, n8, io3, tabS, fun H4 s4 => ⟨_, rfl, iteF ?_⟩⟩
  have s24 := s3.trans s4
  refine ⟨_, rfl, _, rfl, keq x o n n _ _ H4 _ (io3.same s4) ((io.same s2).same s24) ?_⟩
  refine ⟨_, rfl, _, rfl, _, _, (tab2.same s24).dp, (tabS.same s4).dp, sh_tab _ _, sh_tab _ _, rfl, ?_⟩
  rw [eqv_tabs, tab_low, decide_eq_true (rfl : n = n), Bool.true_and]
  have e : decide ((lowL n fun s t => decide (s < t)) = lowL n R) = decide (lowL n R = lowL n fun s t => decide (s < t)) := decide_eq_decide.mpr eq_comm
  rw [e, decide_eq_true rfl]
  exact k H4 (sF.trans (s2.trans s24))
end
end K6

set_option Elab.async false
set_option linter.all false
set_option maxRecDepth 100000
set_option maxHeartbeats 4000000
namespace K6
open PySem L2
theorem pts_lt {n : Nat} {ts : List Pt} (h : ∀ t ∈ ts, t.2.1 < n ∧ t.2.2 < n) : ∀ p ∈ ts.map (·.2), p.1 < n ∧ p.2 < n := fun p hp => by
  obtain ⟨t, m, rfl⟩ := List.mem_map.mp hp
  exact h t m
section
variable {P : Program} {w : World} {K : PySem.W.Frag} {mg : Str → Option Value} {base : Heap} {S C B : Addr} {f : Addr} {cdv : Value} {A : Around} {outer : List Env} {s : Shared} {H : Hp} {E : XK}
theorem segA16 (L : LawA P w K mg base S C B) (hr : Room 8 (XA P w K mg base f cdv A outer s H E).A) {Q : VK} (k : ∀ H', Same H H' → Q (.bl true) H') :
    ∃ u, PSs (XA P w K mg base f cdv A outer s H E) ((defBody s_of).drop 16) u ∧ ∀ (n m : Nat) (o tb l2 : Addr) (us : List Pt) (R : Rl) (v0 v1 v3 v5 v7 v8 v12 v13 : Option V) (H1 : Hp), 1 ≤ n → n ≤ 8 → IsOrd C H1 o n (lowL n R) → Tab H1 tb n (orEq R) →
      H1 l2 = some (.lst (rfs us)) → Pts H1 us → us.length ≤ 200 → 1 ≤ m → m ≤ 8 → (∀ t ∈ us, t.2.1 < m ∧ t.2.2 < m) → Rk m (us.map (·.2)) →
      Same H H1 → u { nx := fun _ H' => Q .non H', rt := Q } [v0, v1, some (.int (n : Int)), v3, some (.ref tb), v5, some (.ref o), v7, v8, some (.int (m : Int)), some (.ref l2), some (.bl (decide (m = n) && decide (lowL m (wars (memR (us.map (·.2))) m) = lowL n R))), v12, v13, none, none, none] H1 := by
  obtain ⟨req, Req, keq⟩ := L.eq.op (X := XA P w K mg base f cdv A outer s H E) (hr.mono (by decide))
  obtain ⟨u, hu, qu⟩ := segA17 (f := f) (cdv := cdv) (A := A) (outer := outer) (s := s) (H := H) (E := E) L hr k
  refine ⟨_, (pss_cons (ps_if (PW.pt (pw_or (pt_cmpR op_ne (pe_cmpR Req (pe_ord L.m (hr.mono (by decide)) rfl (pa_cons (pv 9) (pa_cons (pv 10) pa_nil))) (pv 6) (nomark _)) (pv 11) (nomark _)) (pw_or1 (pt_cmpR op_ne (pe_cmpR Req (pv 6) (pe_ord L.m (hr.mono (by decide)) rfl (pa_cons (pv 9) (pa_cons (pv 10) pa_nil))) (nomark _)) (pv 11) (nomark _)))))
      (pss_one (ps_ret pe_bl))
      pss_nil) hu), ?_⟩
  intro n m o tb l2 us R v0 v1 v3 v5 v7 v8 v12 v13 H1 n1 n8 io tab el pt len m1 m8 lt rk sF
  refine ⟨_, rfl, _, rfl, fun z dz h1 h2 h3 => ord_go h1 h2 h3 m1 m8 (.inl el) pt lt (rk.anti (pts_lt lt)) len fun H2 s2 io2 => ⟨rfl, _, rfl, keq z o m n _ _ H2 _ io2 (io.same s2) ?_⟩⟩
  refine ⟨_, rfl, rfl, _, rfl, iteN ?_⟩
  refine ⟨_, rfl, _, rfl, _, rfl, fun z dz h1 h2 h3 => ord_go h1 h2 h3 m1 m8 (.inl (s2 _ _ el)) (pt.same s2) lt (rk.anti (pts_lt lt)) len fun H3 s3 io3 => ⟨rfl, keq o z n m _ _ H3 _ ((io.same s2).same s3) io3 ?_⟩⟩
  refine ⟨_, rfl, rfl, _, rfl, ?_⟩
  rw [show (decide (n = m) && decide (lowL n R = lowL m (wars (memR (us.map (·.2))) m))) = (decide (m = n) && decide (lowL m (wars (memR (us.map (·.2))) m) = lowL n R)) by
    rw [decide_eq_decide.mpr (eq_comm : n = m ↔ m = n), decide_eq_decide.mpr (eq_comm : lowL n R = lowL m (wars (memR (us.map (·.2))) m) ↔ _)]]
  refine iteN ?_
  exact qu n o tb R v0 v1 v3 v5 v7 v8 _ _ _ v12 v13 H3 n1 n8 ((io.same s2).same s3) (tab.same (s2.trans s3)) (sF.trans (s2.trans s3))
theorem segA14 (L : LawA P w K mg base S C B) (hr : Room 8 (XA P w K mg base f cdv A outer s H E).A) {Q : VK} (k : ∀ H', Same H H' → Q (.bl true) H') :
    ∃ u, PSs (XA P w K mg base f cdv A outer s H E) ((defBody s_of).drop 14) u ∧ ∀ (n : Nat) (a l o tb : Addr) (ts : List Pt) (R : Rl) (v0 v5 v7 v8 v9 v10 v11 v12 v13 : Option V) (H1 : Hp), 1 ≤ n → n ≤ 8 → IsOrd C H1 o n (lowL n R) → Tab H1 tb n (orEq R) →
      PoolAt H1 a → H1 l = some (.lst (rfs ts)) → Pts H1 ts → ts.length ≤ 100 → (∀ t ∈ ts, t.2.1 < n ∧ t.2.2 < n) → Rk n (ts.map (·.2)) →
      Same H H1 → H a = none → u { nx := fun _ H' => Q .non H', rt := Q } [v0, some (.ref a), some (.int (n : Int)), some (.ref l), some (.ref tb), v5, some (.ref o), v7, v8, v9, v10, v11, v12, v13, none, none, none] H1 := by
  obtain ⟨u, hu, qu⟩ := segA16 (f := f) (cdv := cdv) (A := A) (outer := outer) (s := s) (H := H) (E := E) L hr k
  have h64 := un64x hr
  refine ⟨_, (pss_cons (ps_asg (pe_cal L.second (hr.mono (by decide)) rfl (pa_cons (pv 1) (pa_cons (pv 2) (pa_cons (pv 3) pa_nil)))) (pg_tup (by rfl) (pgs_cons (pg_name (i := 9) sc_of.nd rfl (Or.inl rfl)) (pgs_cons (pg_name (i := 10) sc_of.nd rfl (Or.inl rfl)) pgs_nil))))
    (pss_cons (ps_set (i := 11) sc_of.nd rfl (Or.inl rfl) (pe_and (pe_cmpR op_eq (pv 9) (pv 2) (nomark _)) (pe_one (pe_cmpR (op_eqD (by exact h64)) (pe_cal L.table (hr.mono (by decide)) rfl (pa_cons (pv 9) (pa_cons (pv 10) pa_nil))) (pv 4) (nomark _))))) hu)), ?_⟩
  intro n a l o tb ts R v0 v5 v7 v8 v9 v10 v11 v12 v13 H1 n1 n8 io tab hp el pt len lt rk sF na
  refine ⟨_, rfl, _, rfl, _, rfl, a, l, n, ts, rfl, hp, n1, n8, el, pt, len, lt, rk, fun r l2 m us H2 k2 p2 er e2 pt2 len2 m1 m8 lt2 rk2 => ?_⟩
  refine ⟨r, _, rfl, SqT.of er, rfl, _, _, rfl, _, _, rfl, rfl, ?_⟩
  have io2 := io.keep k2 hp
  have sF2 : Same H H2 := fun b o e => k2 b o (sF b o e) (ne_of_none e na)
  have tab2 := tab.keep n1 k2 hp
  refine ⟨_, rfl, _, rfl, rfl, _, rfl, iteB (fun z => ?_) (fun z => ?_)⟩
  · obtain rfl : m = n := by
      have := of_decide_eq_true z
      rw [V.int.injEq] at this
      omega
    refine ⟨_, rfl, _, rfl, m, l2, us, rfl, m8, .inl e2, pt2, fun tb2 H3 s3 _ tab3 => ?_⟩
    rw [wars_orEq] at tab3
    refine ⟨_, rfl, _, _, tab3.dp, (tab2.same s3).dp, sh_tab _ _, sh_tab _ _, ?_⟩
    rw [eqv_tabs, tab_low]
    have := qu m m o tb l2 us R v0 (some (.ref a)) (some (.ref l)) v5 v7 v8 v12 v13 H3 n1 n8 (io2.same s3) (tab2.same s3) (s3 _ _ e2) (pt2.same s3) len2 m1 m8 lt2 rk2 (sF2.trans s3)
    rw [decide_eq_true (rfl : m = m), Bool.true_and] at this
    exact this
  · have ne : m ≠ n := fun e => by
      rw [e] at z
      simp at z
    have := qu n m o tb l2 us R v0 (some (.ref a)) (some (.ref l)) v5 v7 v8 v12 v13 H2 n1 n8 io2 tab2 e2 pt2 len2 m1 m8 lt2 rk2 sF2
    rw [decide_eq_false ne, Bool.false_and] at this
    exact this
end
end K6

set_option Elab.async false
set_option linter.all false
set_option maxRecDepth 100000
set_option maxHeartbeats 4000000
namespace K6
open PySem L2
def scOther : Scope := { kind := .function, names := [(".0", .local), ("_law_s", .cell), ("_law_table_here", .cell)], isGenerator := false, isCoroutine := false }
section
variable {P : Program} {w : World} {K : PySem.W.Frag} {mg : Str → Option Value} {base : Heap} {S C B : Addr} {f : Addr} {cdv : Value} {A : Around} {outer : List Env} {s : Shared} {H : Hp} {E : XK}
theorem segA10 (L : LawA P w K mg base S C B) (hr : Room 8 (XA P w K mg base f cdv A outer s H E).A) {Q : VK} (k : ∀ H', Same H H' → Q (.bl true) H') :
    ∃ u, PSs (XA P w K mg base f cdv A outer s H E) ((defBody s_of).drop 10) u ∧ ∀ (n : Nat) (a l o tb : Addr) (ts : List Pt) (R : Rl) (v0 v5 v7 v8 v9 v10 v11 v12 v13 : Option V) (H1 : Hp), 1 ≤ n → n ≤ 8 → (∀ k s t, k < n → R s k = true → R k t = true → R s t = true) → Anti n R → IsOrd C H1 o n (lowL n R) → Tab H1 tb n (orEq R) →
      PoolAt H1 a → H1 l = some (.lst (rfs ts)) → Pts H1 ts → ts.length ≤ 100 → (∀ t ∈ ts, t.2.1 < n ∧ t.2.2 < n) → Rk n (ts.map (·.2)) →
      Same H H1 → H a = none → u { nx := fun _ H' => Q .non H', rt := Q } [v0, some (.ref a), some (.int (n : Int)), some (.ref l), some (.ref tb), v5, some (.ref o), v7, v8, v9, v10, v11, v12, v13, none, none, none] H1 := by
  obtain ⟨req, Req, keq⟩ := L.eq.op (X := XA P w K mg base f cdv A outer s H E) (hr.mono (by decide))
  obtain ⟨u, hu, qu⟩ := segA14 (f := f) (cdv := cdv) (A := A) (outer := outer) (s := s) (H := H) (E := E) L hr k
  obtain ⟨gt, gtd, Mt, Gt, bGt⟩ := L.turned.ex
  obtain ⟨gp, gpd, Mp, Gp, bGp⟩ := L.pairs.ex
  refine ⟨_, (pss_cons (ps_set (i := 7) sc_of.nd rfl (Or.inl rfl) (pe_meth0 (pl := _) (pv 6) L.T.cl Mt Gt (hr.mono (by decide)) bGt .nil pass0))
    (pss_cons (ps_setLc (i := 8) (own := [("_law_s", 14)]) rfl sc_of.nd rfl rfl (sw_true rfl rfl rfl (by decide +kernel)) (pi_range1 (by rfl) L.T.bn.n_range (pa_cons (pv 2) pa_nil)) (blkOk_by (N := NA) (sc := defScope s_of) (by decide +kernel)) (fun _ _ _ _ _ => (pg_name (i := 14) sc_of.nd rfl (Or.inr rfl))) (fun _ _ _ _ _ => pts_nil)
      (fun _ _ _ _ _ => (pe_lc (own := [("_law_row", 15)]) rfl sc_of.nd (show PI _ _ _ (iList K (tVar 4)) from pi_list (pv 4)) (blkOk_by (N := NA) (sc := scOther) (by decide +kernel)) (fun _ _ _ _ _ => (pg_name (i := 15) sc_of.nd rfl (Or.inl rfl))) (fun _ _ _ _ _ => pts_nil) (fun _ _ _ _ _ => (pe_ix (show IxR _ (rIxL K) from ix_list) (pv 15) (pv 14) (fun _ _ => rfl))))))
    (pss_cons (ps_if (PW.pt (pw_or (pt_not (pt_val (pe_callB call_isi (by rfl) L.T.bn.n_isinstance (by decide +kernel) (pa_cons (pv 7) (pa_cons (pe_glob (v := .ref C) rfl L.T.gO rfl) pa_nil))))) (pw_or1 (pt_not (pt_val (pe_cal L.told (hr.mono (by decide)) rfl (pa_cons (pv 7) (pa_cons (pv 2) (pa_cons (pv 8) pa_nil)))))))))
      (pss_one (ps_ret pe_bl))
      pss_nil)
    (pss_cons (ps_if (PW.pt (pw_or (pt_not (pt_cmpR Req (pe_meth0 (pl := _) (pv 7) L.T.cl Mt Gt (hr.mono (by decide)) bGt .nil pass0) (pv 6) (nomark _))) (pw_or1 (pt_not (pt_cmpR Req (pe_ord L.m (hr.mono (by decide)) rfl (pa_cons (pv 2) (pa_cons (pe_meth0 (pl := _) (pv 6) L.T.cl Mp Gp (hr.mono (by decide)) bGp .nil pass0) pa_nil))) (pv 6) (nomark _))))))
      (pss_one (ps_ret pe_bl))
      pss_nil) hu)))), ?_⟩
  intro n a l o tb ts R v0 v5 v7 v8 v9 v10 v11 v12 v13 H1 n1 n8 tr an io tab hp el pt len lt rk sF na
  have bnd : ∀ U : Rl, ∀ p ∈ lowL n U, p.1 < n ∧ p.2 < n := fun U p hp => by
    obtain ⟨h1, h2, _⟩ := mem_low.mp hp
    exact ⟨h1, h2⟩
  obtain ⟨dx, L0, ts0, h1, _⟩ := id io
  refine ⟨_, rfl, o, dx, _, rfl, h1, ordF_none _ _ (by decide +kernel) (by decide +kernel), o, n, lowL n R, rfl, io, n1, n8, low_len R n8, bnd R, turn_anti tr an, fun x H2 s2 iox => ?_⟩
  rw [turn_low tr an] at iox
  have tab2 := tab.same s2
  obtain ⟨rows0, r1, r2, r3⟩ := id tab2
  refine ⟨_, rfl, _, rfl, by omega, by omega, fun D nD => ?_⟩
  rw [Int.toNat_natCast]
  refine lc_range (fun i H' => Same H2 H' ∧ ∃ rows : List Addr, H' D = some (.lst (rows.map V.ref)) ∧ rows.length = i ∧ (∀ a ∈ rows, a ≠ D) ∧ ∀ s a, rows[s]? = some a → H' a = some (.lst (rowV n fun t => orEq R t s))) ⟨Same.put nD, [], upd_same, rfl, fun _ m => (by cases m), fun s a e => by simp at e⟩ ?_ ?_
  · rintro i H' hi ⟨s3, rows, eD, lD, dD, aD⟩
    rw [Int.zero_add]
    refine ⟨rfl, yes_of ?_⟩
    refine ⟨_, rfl, tb, rfl, ⟨_, SqL.of (s3 _ _ r1)⟩, fun G nG => ?_⟩
    refine lc_list (K := K) (a := tb) (xs := rows0.map V.ref) (fun j H'' => Same H' H'' ∧ H'' G = some (.lst (rowV j fun t => orEq R t i))) ⟨Same.put nG, upd_same⟩ (fun j H'' _ h => SqL.of (h.1 _ _ (s3 _ _ r1))) ?_ ?_
    · rintro j y H'' hy ⟨s4, eG⟩
      obtain ⟨b, hb, rfl⟩ := ref_at hy
      have jl : j < n := by
        have := (List.getElem?_eq_some_iff.mp hb).1
        omega
      refine ⟨rfl, yes_of ?_⟩
      refine ⟨_, rfl, _, rfl, b, _, _, _, rfl, rfl, SqL.of (s4 _ _ (s3 _ _ (r3 j b hb))), atI_nat (rowV_at hi), _, eG, by rw [rowV_len]; exact small_len (by omega), Same.but (fun b u e => s4 _ _ e) nG, ?_⟩
      rw [upd_same, rowV_succ]
    · rintro H'' ⟨s4, eG⟩
      rw [List.length_map, r2] at eG
      have GD : G ≠ D := fun z => by
        rw [z, eD] at nG
        cases nG
      refine ⟨_, s4 _ _ eD, by rw [List.length_map]; exact small_len (by omega), Same.but (fun b u e => s4 _ _ (s3 _ _ e)) nD, rows ++ [G], ?_, ?_, fun a m => ?_, fun s a e => ?_⟩
      · rw [upd_same, List.map_append]
        rfl
      · rw [List.length_append, lD]
        rfl
      · rcases List.mem_append.mp m with m | m
        · exact dD a m
        · rw [List.mem_singleton.mp m]; exact GD
      · rcases Nat.lt_or_ge s rows.length with h | h
        · rw [List.getElem?_append_left h] at e
          rw [upd_ne (dD a (List.mem_of_getElem? e))]
          exact s4 _ _ (aD s a e)
        · rw [List.getElem?_append_right h] at e
          have hz : s - rows.length = 0 := by
            have := (List.getElem?_eq_some_iff.mp e).1
            simpa using this
          rw [hz] at e
          have e' : G = a := by simpa using e
          have es : s = i := by omega
          rw [← e', es, upd_ne GD]
          exact eG
  rintro H3 ⟨s3, rows, eD, lD, dD, aD⟩
  have tabS : Tab H3 D n (orEq (sw R)) := Tab.congr (T := fun s t => orEq R t s) ⟨rows, eD, lD, aD⟩ fun s t _ _ => sw_orEq s t
  have io3 := iox.same s3
  refine ⟨_, rfl, .ref x, .ref C, _, _, true, rfl, .own C, io3.ty L.T, L.T.self, _, rfl, iteF ?_⟩
  refine ⟨_, rfl, _, rfl, _, rfl, x, D, n, _, rfl, n1, n8, io3, tabS, fun H4 s4 => ⟨_, rfl, iteF ?_⟩⟩
  have io4 := io3.same s4
  have s14 := s2.trans (s3.trans s4)
  have oo4 := io.same s14
  obtain ⟨dy, L1, ts1, g1, _⟩ := id io4
  refine ⟨_, rfl, x, dy, _, rfl, g1, ordF_none _ _ (by decide +kernel) (by decide +kernel), x, n, lowL n (sw R), rfl, io4, n1, n8, low_len _ n8, bnd _, turn_anti (swap_tr tr) (swap_anti an), fun y H5 s5 ioy => ?_⟩
  rw [turn_low (swap_tr tr) (swap_anti an)] at ioy
  have ioy : IsOrd C H5 y n (lowL n R) := ioy
  refine ⟨_, rfl, keq y o n n _ _ H5 _ ioy (oo4.same s5) ?_⟩
  rw [decide_eq_true (rfl : n = n), decide_eq_true (rfl : lowL n R = lowL n R)]
  refine ⟨_, rfl, iteF ?_⟩
  have oo5 := oo4.same s5
  obtain ⟨dz, L2, ts2, q1, _⟩ := id oo5
  refine ⟨_, rfl, _, rfl, o, dz, _, rfl, q1, ordF_none _ _ (by decide +kernel) (by decide +kernel), o, n, lowL n R, rfl, oo5, fun l2 us H6 s6 _ e6 p6 q6 => ?_⟩
  have lus : us.length ≤ 200 := by
    have := congrArg List.length q6
    rw [List.length_map] at this
    have := low_len R n8
    omega
  refine fun z dz h1 h2 h3 => ord_go h1 h2 h3 n1 n8 (.inl e6) p6 (fun t m => bnd R t.2 (by rw [← q6]; exact List.mem_map_of_mem m)) (by rw [q6]; exact low_anti tr an) lus fun H7 s7 io7 => ⟨rfl, _, rfl, keq z o n n _ _ H7 _ io7 ((oo5.same s6).same s7) ?_⟩
  rw [q6, low_again tr an, decide_eq_true (rfl : n = n), decide_eq_true (rfl : lowL n R = lowL n R)]
  refine ⟨_, rfl, iteF ?_⟩
  have s17 := (s14.trans s5).trans (s6.trans s7)
  exact qu n a l o tb ts R v0 v5 _ _ v9 v10 v11 v12 v13 H7 n1 n8 (io.same s17) (tab.same s17) (hp.same s17) (s17 _ _ el) (pt.same s17) len lt rk (sF.trans s17) na
end
end K6

set_option Elab.async false
set_option linter.all false
set_option maxRecDepth 100000
set_option maxHeartbeats 4000000
namespace K6
open PySem L2
section
variable {P : Program} {w : World} {K : PySem.W.Frag} {mg : Str → Option Value} {base : Heap} {S C B : Addr} {f : Addr} {cdv : Value} {A : Around} {outer : List Env} {s : Shared} {H : Hp} {E : XK}
theorem IsOrd.lstU {C : Addr} {H : Hp} {o : Addr} {n : Nat} {low : List (Nat × Nat)} {D : Addr} {ys : List V} {u : HO} (h : IsOrd C H o n low) (e : H D = some (.lst ys)) : IsOrd C (upd H D u) o n low := by
  obtain ⟨dx, T, ts, h1, h2, h3, h4⟩ := h
  refine ⟨dx, T, ts, ?_, ?_, h3.lstU e, h4⟩
  · rw [upd_ne (fun z => by rw [z, e] at h1; cases h1)]
    exact h1
  · rw [upd_ne (fun z => by rw [z, e] at h2; cases h2)]
    exact h2
theorem PoolAt.other {H : Hp} {a D : Addr} {u : HO} (h : PoolAt H a) (ne : a ≠ D) : PoolAt (upd H D u) a := by
  obtain ⟨o, e, q⟩ := h
  exact ⟨o, by rw [upd_ne ne]; exact e, q⟩
theorem segA6 (L : LawA P w K mg base S C B) (hr : Room 8 (XA P w K mg base f cdv A outer s H E).A) {Q : VK} (k : ∀ H', Same H H' → Q (.bl true) H') :
    ∃ u, PSs (XA P w K mg base f cdv A outer s H E) ((defBody s_of).drop 6) u ∧ ∀ (n : Nat) (a l p o tb : Addr) (ts : List Pt) (R : Rl) (v0 v7 v8 v9 v10 v11 v12 v13 : Option V) (H1 : Hp), 1 ≤ n → n ≤ 8 → (∀ k s t, k < n → R s k = true → R k t = true → R s t = true) → Anti n R → IsOrd C H1 o n (lowL n R) → Tab H1 tb n (orEq R) →
      PoolAt H1 a → H1 l = some (.lst (rfs ts)) → H1 p = some (.lst (rfs ts)) → l ≠ p → tb ≠ p → H p = none → Pts H1 ts → ts.length ≤ 100 → (∀ t ∈ ts, t.2.1 < n ∧ t.2.2 < n) → Rk n (ts.map (·.2)) → Same H H1 → H a = none →
      u { nx := fun _ H' => Q .non H', rt := Q } [v0, some (.ref a), some (.int (n : Int)), some (.ref l), some (.ref tb), some (.ref p), some (.ref o), v7, v8, v9, v10, v11, v12, v13, none, none, none] H1 := by
  obtain ⟨u, hu, qu⟩ := segA10 (f := f) (cdv := cdv) (A := A) (outer := outer) (s := s) (H := H) (E := E) L hr k
  have h64 := un64x hr
  refine ⟨_, (pss_cons (ps_if (pt_cmpR (op_neD (by exact h64)) (pv 5) (pv 3) (nomark _))
      (pss_one (ps_ret pe_bl))
      pss_nil)
    (pss_cons (ps_expr (pe_bm PySem.F.plainAttrs_list PySem.F.slot_list_append PySem.F.type_list_append mt_append (pv 5) (pa_cons (pe_tup (pa_cons pe_int (pa_cons (pe_op op_sub (pv 2) pe_int) pa_nil))) pa_nil)))
    (pss_cons (ps_expr (pe_bm PySem.F.plainAttrs_list PySem.F.slot_list_append PySem.F.type_list_append mt_append (pv 5) (pa_cons (pe_tup (pa_cons (pe_op op_sub (pv 2) pe_int) (pa_cons pe_int pa_nil))) pa_nil)))
    (pss_cons (ps_if (PW.pt (pw_or (pt_not (pt_val (pe_cal L.told (hr.mono (by decide)) rfl (pa_cons (pv 6) (pa_cons (pv 2) (pa_cons (pv 4) pa_nil)))))) (pw_or1 (pt_not (pt_val (pe_cal L.refuses (hr.mono (by decide)) rfl (pa_cons (pv 1) (pa_cons (pv 6) (pa_cons (pv 2) pa_nil)))))))))
      (pss_one (ps_ret pe_bl))
      pss_nil) hu)))), ?_⟩
  intro n a l p o tb ts R v0 v7 v8 v9 v10 v11 v12 v13 H1 n1 n8 tr an io tab hp el ep lp tp np pt len lt rk sF na
  have ap : a ≠ p := (hp.neR ep).symm
  refine ⟨_, rfl, _, rfl, _, _, .lst (SqL.of ep) (Pts.dp pt), .lst (SqL.of el) (Pts.dp pt), sh_list _, sh_list _, _, rfl, ?_⟩
  rw [eqv_lsts]
  refine iteN ?_
  -- one more, and one more
  have add : ∀ (H2 : Hp) (us : List Pt) (c : Addr) (o2 : HO) (q : Nat × Nat), Same H H2 → IsOrd C H2 o n (lowL n R) → Tab H2 tb n (orEq R) → PoolAt H2 a → H2 l = some (.lst (rfs ts)) → H2 p = some (.lst (rfs us)) → Pts H2 ts → H2 c = none →
      Same H (upd (upd H2 c o2) p (.lst (rfs (us ++ [(c, q)])))) ∧ IsOrd C (upd (upd H2 c o2) p (.lst (rfs (us ++ [(c, q)])))) o n (lowL n R) ∧ Tab (upd (upd H2 c o2) p (.lst (rfs (us ++ [(c, q)])))) tb n (orEq R) ∧ PoolAt (upd (upd H2 c o2) p (.lst (rfs (us ++ [(c, q)])))) a ∧ (upd (upd H2 c o2) p (.lst (rfs (us ++ [(c, q)])))) l = some (.lst (rfs ts)) ∧ (upd (upd H2 c o2) p (.lst (rfs (us ++ [(c, q)])))) p = some (.lst (rfs (us ++ [(c, q)]))) ∧ Pts (upd (upd H2 c o2) p (.lst (rfs (us ++ [(c, q)])))) ts := by
    intro H2 us c o2 q h1 h2 h3 h4 h5 h6 h7 nc
    have sC := Same.put (o := o2) nc
    have e6 := sC _ _ h6
    exact ⟨same_new (h1.trans sC) np, (h2.same sC).lstU e6, (h3.same sC).lstU n1 tp e6, (h4.same sC).other ap, by rw [upd_ne lp]; exact sC _ _ h5, upd_same, (h7.same sC).lstU e6⟩
  refine ⟨_, rfl, .inl ⟨rfl, _, SqL.of ep⟩, _, rfl, _, _, rfl, rfl, by show 2 ≤ sizeLine; decide, fun c1 nc1 => ?_⟩
  refine ⟨p, _, _, rfl, rfl, Same.put nc1 _ _ ep, small_len (by rw [rfs_len]; omega), ?_⟩
  obtain ⟨b1, b2, b3, b4, b5, b6, b7⟩ := add H1 ts c1 (.tup [.int 0, .int ((n : Int) - 1)]) (0, 0) sF io tab hp el ep pt nc1
  rw [rfs_snoc] at b1 b2 b3 b4 b5 b6 b7
  dsimp only at b1 b2 b3 b4 b5 b6 b7
  generalize (upd (upd H1 c1 (.tup [.int 0, .int ((n : Int) - 1)])) p (.lst (rfs ts ++ [V.ref c1]))) = H2 at b1 b2 b3 b4 b5 b6 b7 ⊢
  have e6 : H2 p = some (.lst (rfs (ts ++ [(c1, 0, 0)]))) := by rw [rfs_snoc]; exact b6
  refine ⟨_, rfl, .inl ⟨rfl, _, SqL.of e6⟩, _, rfl, _, _, rfl, rfl, by show 2 ≤ sizeLine; decide, fun c2 nc2 => ?_⟩
  refine ⟨p, _, _, rfl, rfl, Same.put nc2 _ _ e6, small_len (by rw [rfs_len, List.length_append]; show ts.length + 1 ≤ 1000; omega), ?_⟩
  obtain ⟨d1, d2, d3, d4, d5, d6, d7⟩ := add H2 (ts ++ [(c1, 0, 0)]) c2 (.tup [.int ((n : Int) - 1), .int 0]) (0, 0) b1 b2 b3 b4 b5 e6 b7 nc2
  rw [rfs_snoc] at d1 d2 d3 d4 d5 d6 d7
  dsimp only at d1 d2 d3 d4 d5 d6 d7
  generalize (upd (upd H2 c2 (.tup [.int ((n : Int) - 1), .int 0])) p (.lst (rfs (ts ++ [(c1, 0, 0)]) ++ [V.ref c2]))) = H3 at d1 d2 d3 d4 d5 d6 d7 ⊢
  refine ⟨_, rfl, _, rfl, _, rfl, o, tb, n, R, rfl, n1, n8, d2, d3, fun H4 s4 => ⟨_, rfl, iteF ?_⟩⟩
  refine ⟨_, rfl, _, rfl, _, rfl, a, o, n, _, rfl, d4.same s4, n1, n8, d2.same s4, fun H5 k5 p5 => ⟨_, rfl, iteF ?_⟩⟩
  have q4 := d4.same s4
  refine qu n a l o tb ts R v0 _ v7 v8 v9 v10 v11 v12 v13 H5 n1 n8 tr an ((d2.same s4).keep k5 q4) ((d3.same s4).keep n1 k5 q4) p5 (k5 _ _ (s4 _ _ d5) (q4.neR (s4 _ _ d5))) ((d7.same s4).keep k5 q4) len lt rk ?_ na
  exact fun b o2 e => k5 b o2 ((d1.trans s4) b o2 e) (ne_of_none e na)
end
end K6

set_option Elab.async false
set_option linter.all false
set_option maxRecDepth 100000
set_option maxHeartbeats 4000000
namespace K6
open PySem L2
def spOf (K : PySem.W.Frag) : Sp := fun vs H Q _ => ∃ (a : Addr) (ns : List Int), vs = [.ref a] ∧ SqL K H a (ns.map V.int) ∧ ns.length ≤ 63 ∧ ∀ H', Same H H' → Q (.bl true) H'
section
variable {P : Program} {w : World} {K : PySem.W.Frag} {mg : Str → Option Value} {base : Heap} {S C B : Addr}
theorem ok_of {f : Addr} {fd : FuncData} (F : Fun K "_law_of_orders" "_law_of_orders" s_of f fd) (L : LawA P w K mg base S C B) : FnOk P w K mg base CX0 9 f fd ["_law_script"] (spOf K) := by
  refine F.ok sc_of (fun vs H Q E h => ?_) (fun cdv A outer s H vs Q E hr h => ?_)
  · obtain ⟨a, ns, rfl, _⟩ := h
    rfl
  · obtain ⟨a0, ns, rfl, ha, hl, k⟩ := h
    obtain ⟨u, hu, qu⟩ := segA6 (f := f) (cdv := cdv) (A := A) (outer := outer) (s := s) (H := H) (E := E) L hr k
    refine ⟨_, (pss_cons (ps_set (i := 1) sc_of.nd rfl (Or.inl rfl) (pe_cal L.pool (hr.mono (by decide)) rfl (pa_cons (pv 0) pa_nil)))
      (pss_cons (ps_set (i := 2) sc_of.nd rfl (Or.inr rfl) (pe_op op_add pe_int (pe_cal L.draw (hr.mono (by decide)) rfl (pa_cons (pv 1) (pa_cons pe_int pa_nil)))))
      (pss_cons (ps_set (i := 3) sc_of.nd rfl (Or.inl rfl) (pe_cal L.more (hr.mono (by decide)) rfl (pa_cons (pv 1) (pa_cons (pv 2) (pa_cons (pe_cal L.ordps (hr.mono (by decide)) rfl (pa_cons (pv 1) (pa_cons (pv 2) pa_nil))) pa_nil)))))
      (pss_cons (ps_set (i := 4) sc_of.nd rfl (Or.inr rfl) (pe_cal L.table (hr.mono (by decide)) rfl (pa_cons (pv 2) (pa_cons (pv 3) pa_nil))))
      (pss_cons (ps_set (i := 5) sc_of.nd rfl (Or.inl rfl) (pe_callTy call_list_of (by rfl) L.T.bn.n_list (by decide +kernel) (pa_cons (pv 3) pa_nil)))
      (pss_cons (ps_if (pt_cmpR op_eq (pe_cal L.draw (hr.mono (by decide)) rfl (pa_cons (pv 1) (pa_cons pe_int pa_nil))) pe_int (nomark _))
        (pss_one (ps_set (i := 6) sc_of.nd rfl (Or.inl rfl) (pe_ord L.m (hr.mono (by decide)) rfl (pa_cons (pv 2) (pa_cons (pe_callTy call_tuple_of (by rfl) L.T.bn.n_tuple (by decide +kernel) (pa_cons (pv 3) pa_nil)) pa_nil)))))
        (pss_one (ps_set (i := 6) sc_of.nd rfl (Or.inl rfl) (pe_ord L.m (hr.mono (by decide)) rfl (pa_cons (pv 2) (pa_cons (pv 5) pa_nil)))))) hu)))))), ?_⟩
    refine ⟨_, rfl, a0, ns, rfl, ha, hl, fun a H1 s1 na hp1 => ?_⟩
    refine ⟨_, rfl, a, 8, rfl, hp1, by decide, by decide, fun x o x0 x1 ho => ⟨_, _, rfl, rfl, ?_⟩⟩
    have sF : ∀ {H2 H3 : Hp}, Same H H2 → Keep a H2 H3 → Same H H3 := fun q k2 b o e => k2 b o (q b o e) (ne_of_none e na)
    have q2 := sF s1 (Keep.put (a := a) (H := H1) o)
    have p2 : PoolAt (upd H1 a o) a := .put ho
    generalize (upd H1 a o) = H2 at q2 p2 ⊢
    obtain ⟨n0, rfl⟩ : ∃ n0 : Nat, x = (n0 : Int) := ⟨x.toNat, by omega⟩
    obtain ⟨n, en, n1, n8⟩ : ∃ n : Nat, (1 : Int) + (n0 : Int) = (n : Int) ∧ 1 ≤ n ∧ n ≤ 8 := ⟨1 + n0, by omega, by omega, by omega⟩
    dsimp only
    rw [en]
    refine ⟨_, rfl, _, rfl, _, rfl, _, rfl, a, n, rfl, p2, n1, n8, fun l0 ts0 H3 k3 p3 e3 pt3 len3 lt3 rk3 => ?_⟩
    have q3 := sF q2 k3
    refine ⟨a, l0, n, ts0, rfl, p3, n1, n8, e3, pt3, by omega, lt3, fun l ts H4 k4 p4 e4 pt4 len4 lt4 rk4 => ?_⟩
    have q4 := sF q3 k4
    have rk := rk4 rk3
    have ltp := pts_lt lt4
    refine ⟨_, rfl, _, rfl, n, l, ts, rfl, n8, .inl e4, pt4, fun tb H5 s5 ntb tab => ?_⟩
    rw [wars_orEq] at tab
    have e5 := s5 _ _ e4
    have q5 := q4.trans s5
    have p5 := p4.same s5
    have pt5 := pt4.same s5
    refine ⟨_, rfl, l, _, rfl, .inl (SqL.of e5), fun p np => ?_⟩
    have sP := Same.put (o := .lst (rfs ts)) np
    have ep : (upd H5 p (.lst (rfs ts))) p = some (.lst (rfs ts)) := upd_same
    have lp : l ≠ p := ne_of_none e5 np
    have tp : tb ≠ p := fun z => by
      obtain ⟨rows, r1, _⟩ := tab
      rw [z, np] at r1
      cases r1
    have pa : p ≠ a := fun z => by
      obtain ⟨o, e, _⟩ := p5
      rw [z, e] at np
      cases np
    have npH := q5.free np
    have q6 := q5.trans sP
    have p6 := p5.same sP
    have pt6 := pt5.same sP
    have e6 := sP _ _ e5
    have tab6 := tab.same sP
    generalize (upd H5 p (.lst (rfs ts))) = H6 at sP ep q6 p6 pt6 e6 tab6 ⊢
    clear sP np tab pt5 p5 q5 e5
    refine ⟨_, rfl, a, 3, rfl, p6, by decide, by decide, fun y o2 y0 y1 ho2 => ?_⟩
    have kP := Keep.put (a := a) (H := H6) o2
    have q7 := sF q6 kP
    have p7 : PoolAt (upd H6 a o2) a := .put ho2
    have pt7 := pt6.keep kP p6
    have e7 := kP _ _ e6 (p6.neR e6)
    have ep7 := kP _ _ ep pa
    have tab7 := tab6.keep n1 kP p6
    generalize (upd H6 a o2) = H7 at q7 p7 pt7 e7 ep7 tab7 ⊢
    clear kP q6 p6 pt6 e6 ep tab6
    have fin : ∀ (z : Addr) (H8 : Hp), Same H7 H8 → IsOrd C H8 z n (lowL n (wars (memR (ts.map (·.2))) n)) →
        u { nx := fun _ H' => Q .non H', rt := Q } [some (.ref a0), some (.ref a), some (.int (n : Int)), some (.ref l), some (.ref tb), some (.ref p), some (.ref z), none, none, none, none, none, none, none, none, none, none] H8 := fun z H8 s8 io =>
      qu n a l p z tb ts _ _ none none none none none none none H8 n1 n8 (wars_tr _ n) (rk.anti ltp) io (tab7.same s8) (p7.same s8) (s8 _ _ e7) (s8 _ _ ep7) lp tp npH (pt7.same s8) (by omega) lt4 rk (q7.trans s8) na
    refine ⟨rfl, _, rfl, ite2 (fun _ => ?_) (fun _ => ?_)⟩
    · refine ⟨_, rfl, _, rfl, l, _, rfl, .inl ⟨SqL.of e7, fun t nt => ?_⟩⟩
      have sT := Same.put (o := .tup (rfs ts)) nt
      exact fun z dz h1 h2 h3 => ord_go h1 h2 h3 n1 n8 (.inr upd_same) (pt7.same sT) lt4 (rk.anti ltp) (by omega) fun H8 s8 io => ⟨rfl, fin z H8 (sT.trans s8) io⟩
    · exact ⟨_, rfl, _, rfl, fun z dz h1 h2 h3 => ord_go h1 h2 h3 n1 n8 (.inl ep7) pt7 lt4 (rk.anti ltp) (by omega) fun H8 s8 io => ⟨rfl, fin z H8 s8 io⟩⟩
end
end K6

set_option Elab.async false
set_option linter.all false
set_option maxRecDepth 100000
set_option maxHeartbeats 4000000
namespace K6
open PySem L2
/-! ### the law's second half -/
def spIsPair (S : Addr) : Sp := fun vs H Q _ => ∃ (n : Int) (x : V) (k : Kd), vs = [.int n, x] ∧ Th S H x k ∧ PairTh S H x ∧ Q (.bl (ixPair H n x)) H
def spIsSize (S : Addr) : Sp := fun vs H Q _ => ∃ (x : V) (k : Kd), vs = [x] ∧ Th S H x k ∧ Q (.bl (btw 1 8 x)) H
/-- _law_made(size, pairs) -/
def spMade (S C : Addr) : Sp := fun vs H Q _ => ∃ (sz ps : V) (k l : Kd), vs = [sz, ps] ∧ Th S H sz k ∧ Th S H ps l ∧ ItTh S H ps ∧
  (Bad H sz ps → ∀ (r : Addr) (H' : Hp), Same H H' → H' r = some (.tup [.str "refused", .non]) → Q (.ref r) H') ∧
  ∀ n l ts, GoodP H sz ps n l ts → ∀ (r x : Addr) (H' : Hp), Same H H' → IsOrd C H' x n (lowL n (wars (memR (ts.map (·.2))) n)) → H' r = some (.tup [.str "made", .ref x]) → Q (.ref r) H'
/-- _law_line(size) -/
def spLLine (S C : Addr) : Sp := fun vs H Q _ => ∃ (x : V) (k : Kd), vs = [x] ∧ Th S H x k ∧
  (btw 1 8 x = false → ∀ (r : Addr) (H' : Hp), Same H H' → H' r = some (.tup [.str "refused", .non]) → Q (.ref r) H') ∧
  ∀ n : Nat, x = .int (n : Int) → 1 ≤ n → n ≤ 8 → ∀ (r o : Addr) (low : List (Nat × Nat)) (H' : Hp), Same H H' → IsOrd C H' o n low → H' r = some (.tup [.str "made", .ref o]) → Q (.ref r) H'
theorem tyX_tup {K : PySem.W.Frag} {H : Hp} {a : Addr} {xs : List V} (h : H a = some (.tup xs)) : TyX K H (.ref a) (.type "tuple") := .base (.tup h)
theorem iteTe {c : Bool} {A D : Prop} (e : c = true) (h : A) : if c = true then A else D := by
  rw [if_pos e]
  exact h
theorem btw_cmp {n i : Int} : btw 0 (n - 1) (.int i) = (decide (0 ≤ i) && decide (i < n)) := by
  show (decide (0 ≤ i) && decide (i ≤ n - 1)) = _
  rw [decide_eq_decide.mpr (by omega : i ≤ n - 1 ↔ i < n)]
section
variable {P : Program} {w : World} {K : PySem.W.Frag} {mg : Str → Option Value} {base : Heap} {S C B : Addr}
abbrev s_isp : Stmt := top 44
theorem sc_isp : FnScope ["_law_size", "_law_thing", "_law_state"] ["_law_size", "_law_thing"] (defScope s_isp) := ⟨rfl, rfl, rfl, by decide +kernel, rfl, by decide +kernel, by decide +kernel⟩
theorem ok_isp {f : Addr} {fd : FuncData} (F : Fun K "_law_is_pair" "_law_is_pair" s_isp f fd) (T : Bn mg) (I : ShI K S) (c_int : Cal P w K mg base 1 "_law_is_integer" ["_law_thing"] (spWhole S)) : FnOk P w K mg base CX0 2 f fd ["_law_size", "_law_thing"] (spIsPair S) := by
  refine F.ok sc_isp (fun vs H Q E h => ?_) (fun cdv A outer s H vs Q E hr h => ?_)
  · obtain ⟨n, x, k, rfl, _⟩ := h
    rfl
  · obtain ⟨n, x, kd, rfl, h, pt, k⟩ := h
    refine ⟨_, (pss_cons (ps_if (PW.pt (pw_or (pt_not (pt_val (pe_callB call_isi (by rfl) T.n_isinstance (by decide +kernel) (pa_cons (pv 1) (pa_cons (pe_bltn (v := .ty "tuple") rfl T.n_tuple (by decide +kernel) rfl) pa_nil))))) (pw_or1 (pt_cmpR op_ne (pe_callB call_len_seq (by rfl) T.n_len PySem.boot_len (pa_cons (pv 1) pa_nil)) pe_int (nomark _)))))
        (pss_one (ps_ret pe_bl))
        pss_nil)
      (pss_cons (ps_for PassesOwn.never rfl (pi_tup (pv 1)) (pg_name (i := 2) sc_isp.nd rfl (Or.inl rfl))
        (pss_one (ps_if (PW.pt (pw_or (pt_not (pt_val (pe_cal c_int (hr.mono (by decide)) rfl (pa_cons (pv 2) pa_nil)))) (pw_or1 (pt_not (pt_chain op_le op_lt pe_int (pv 2) (pv 0))))))
            (pss_one (ps_ret pe_bl))
            pss_nil)))
      (pss_one (ps_ret pe_bl)))), ?_⟩
    obtain ⟨t, ty, _, _, _, k4, _⟩ := h.is I
    refine ⟨_, rfl, x, .ty "tuple", t, _, _, rfl, .ty _, ty, k4, _, rfl, ?_⟩
    cases hk : kd.isTup with
    | false =>
      refine iteT ?_
      rw [ixPair_no (tupOf_no h hk)] at k
      exact k
    | true =>
      refine iteF ?_
      cases h with
      | @tup a xs e =>
        refine ⟨_, rfl, _, _, rfl, .inr (SqT.of e), rfl, _, rfl, ?_⟩
        by_cases hl : xs.length = 2
        · obtain ⟨y, z, rfl⟩ : ∃ y z, xs = [y, z] := by
            match xs, hl with
            | [y, z], _ => exact ⟨y, z, rfl⟩
          obtain ⟨⟨ky, hy⟩, kz, hz⟩ := pt a y z rfl e
          simp only [ixPair, e] at k
          refine iteN ?_
          refine ⟨_, rfl, a, rfl, ⟨_, SqT.of e⟩, for_tup (K := K) (a := a) (xs := [y, z]) (fun i σ H' => H = H' ∧ ∃ v2, σ = [some (.int n), some (.ref a), v2] ∧ (1 ≤ i → btw 0 (n - 1) y = true) ∧ (2 ≤ i → btw 0 (n - 1) z = true)) ⟨rfl, none, rfl, fun h => absurd h (by decide), fun h => absurd h (by decide)⟩ (fun i σ H' _ h => by rw [← h.1]; exact SqT.of e) ?_ ?_⟩
          · rintro i v σ H' hv ⟨rfl, v2, rfl, b1, b2⟩
            obtain ⟨kv, hv2, no, yes⟩ : ∃ kv, Th S H v kv ∧ (btw 0 (n - 1) v = false → (btw 0 (n - 1) y && btw 0 (n - 1) z) = false) ∧ (btw 0 (n - 1) v = true → (1 ≤ i + 1 → btw 0 (n - 1) y = true) ∧ (2 ≤ i + 1 → btw 0 (n - 1) z = true)) := by
              match i, hv with
              | 0, hv =>
                cases hv
                exact ⟨ky, hy, fun e => by rw [e]; rfl, fun e => ⟨fun _ => e, fun h => absurd h (by decide)⟩⟩
              | 1, hv =>
                cases hv
                exact ⟨kz, hz, fun e => by rw [e, Bool.and_false], fun e => ⟨fun _ => b1 (Nat.le_refl _), fun _ => e⟩⟩
              | i + 2, hv => simp at hv
            have bad : btw 0 (n - 1) v = false → Q (.bl false) H := fun e => by
              rw [no e] at k
              exact k
            refine ⟨_, rfl, v, kv, rfl, hv2, _, rfl, ?_⟩
            cases hi : isI v with
            | false => exact iteT (bad (btw_no hi))
            | true =>
              obtain ⟨i2, rfl⟩ := isI_int hi
              refine iteF ?_
              refine ⟨_, rfl, 0, i2, rfl, rfl, _, rfl, iteB (fun q => ?_) (fun q => ?_)⟩
              · refine ⟨_, rfl, i2, n, rfl, rfl, _, rfl, ?_⟩
                have bt : btw 0 (n - 1) (.int i2) = decide (i2 < n) := by rw [btw_cmp, q, Bool.true_and]
                cases hlt : decide (i2 < n) with
                | false => exact iteT (bad (by rw [bt]; exact hlt))
                | true =>
                  refine iteF ⟨rfl, _, rfl, yes (by rw [bt]; exact hlt)⟩
              · refine ⟨_, rfl, iteT (bad ?_)⟩
                rw [btw_cmp, q, Bool.false_and]
          · rintro σ H' ⟨rfl, v2, rfl, b1, b2⟩
            rw [b1 (show 1 ≤ 2 by decide), b2 (show 2 ≤ 2 by decide)] at k
            exact k
        · have no : ixPair H n (.ref a) = false := ixPair_no (by
            simp only [tupOf, e]
            exact decide_eq_false (fun z => hl (by rw [V.int.injEq] at z; omega)))
          have ne : (!decide (V.int (xs.length : Int) = V.int 2)) = true := by
            rw [decide_eq_false (fun z => hl (by rw [V.int.injEq] at z; omega))]
            rfl
          rw [no] at k
          refine iteTe ne ?_
          exact k
      | _ => cases hk
abbrev s_isz : Stmt := top 48
theorem sc_isz : FnScope ["_law_thing"] ["_law_thing"] (defScope s_isz) := ⟨rfl, rfl, rfl, by decide +kernel, rfl, by decide +kernel, by decide +kernel⟩
theorem ok_isz {f : Addr} {fd : FuncData} (F : Fun K "_law_is_size" "_law_is_size" s_isz f fd) (c_int : Cal P w K mg base 1 "_law_is_integer" ["_law_thing"] (spWhole S)) : FnOk P w K mg base CX0 2 f fd ["_law_thing"] (spIsSize S) := by
  refine F.ok sc_isz (fun vs H Q E h => ?_) (fun cdv A outer s H vs Q E hr h => ?_)
  · obtain ⟨x, kd, rfl, _⟩ := h
    rfl
  · obtain ⟨x, kd, rfl, h, k⟩ := h
    refine ⟨_, (pss_one (ps_ret (pe_and (pe_cal c_int (hr.mono (by decide)) rfl (pa_cons (pv 0) pa_nil)) (pe_one (pe_chain op_le op_le pe_int (pv 0) pe_int))))), ?_⟩
    refine ⟨_, rfl, x, kd, rfl, h, _, rfl, iteB (fun z => ?_) (fun z => ?_)⟩
    · obtain ⟨i, rfl⟩ := isI_int z
      refine ⟨_, rfl, 1, i, rfl, rfl, _, rfl, iteB (fun z2 => ?_) (fun z2 => ?_)⟩
      · refine ⟨i, 8, rfl, rfl, ?_⟩
        have k : Q (.bl (decide (1 ≤ i) && decide (i ≤ 8))) H := k
        rw [z2, Bool.true_and] at k
        exact k
      · have k : Q (.bl (decide (1 ≤ i) && decide (i ≤ 8))) H := k
        rw [z2, Bool.false_and] at k
        exact k
    · rw [btw_no z] at k
      exact k
abbrev s_made : Stmt := top 50
theorem sc_made : FnScope ["_law_size", "_law_pairs_here", "_law_told"] ["_law_size", "_law_pairs_here"] (defScope s_made) := ⟨rfl, rfl, rfl, by decide +kernel, rfl, by decide +kernel, by decide +kernel⟩
theorem ok_made {f : Addr} {fd : FuncData} (F : Fun K "_law_made" "_law_made" s_made f fd) (m : MkO P w K mg base S C B) (bm : PySem.W.exmOne K (.ref B) (.ref B) = some true) (gB : mg "BadOrder" = some (.ref B)) : FnOk P w K mg base (L2.CX P w) 7 f fd ["_law_size", "_law_pairs_here"] (spMade S C) := by
  refine F.okX sc_made (fun vs H Q E h => ?_) (fun cdv A outer s H vs Q E hr h => ?_)
  · obtain ⟨sz, ps, k, l, rfl, _⟩ := h
    rfl
  · obtain ⟨sz, ps, kz, kp, rfl, hz, hp, it, kb, kg⟩ := h
    refine ⟨_, (pss_cons (ps_set (i := 2) sc_made.nd rfl (Or.inl rfl) (pe_tup (pa_cons pe_str (pa_cons pe_non pa_nil))))
      (pss_cons (ps_try_only (c := .ref B) (Wout := fun cls d _ H => E cls d H) rfl rfl ⟨rfl, by decide, .inl gB⟩ (takes_of rfl rfl rfl rfl)
          (fun W pn xe tk _ => pss_one (ps_set (i := 2) sc_made.nd rfl (Or.inl rfl) (pe_tup (pa_cons pe_str (pa_cons (pe_ordS tk m hr rfl (pa_cons (pv 0) (pa_cons (pv 1) pa_nil))) pa_nil)))))
          (fun a oe cls d pn hz hf => pss_one (ps_set (i := 2) sc_made.nd rfl (Or.inl rfl) (pe_tup (pa_cons pe_str (pa_cons pe_non pa_nil))))))
      (pss_one (ps_ret (pv 2))))), ?_⟩
    refine ⟨by show 2 ≤ sizeLine; decide, fun c nc => ?_⟩
    have s1 := Same.put (o := .tup [.str "refused", .non]) nc
    generalize (upd H c (.tup [.str "refused", .non])) = H1 at s1 ⊢
    refine ⟨_, rfl, _, rfl, fun z dz h1 h2 h3 => mk_go h1 h2 h3 (hz.same s1) (hp.same s1) (it.up hp s1) (fun b H' s2 => ?_) fun n l ts g H' s2 io => ⟨rfl, by show 2 ≤ sizeLine; decide, fun r nr => ?_⟩⟩
    · refine ⟨true, bm, fun _ a ha => ⟨by show 2 ≤ sizeLine; decide, fun r nr => ⟨_, rfl, ?_⟩⟩, fun z => nomatch z⟩
      exact kb (fun n l ts g => b n l ts (g.up s1)) r _ ((s1.trans s2).trans (Same.put nr)) upd_same
    · refine ⟨_, rfl, ?_⟩
      exact kg n l ts (g.back hp it s1) r z _ ((s1.trans s2).trans (Same.put nr)) (io.same (Same.put nr)) upd_same
abbrev s_lline : Stmt := top 52
theorem sc_lline : FnScope ["_law_size", "_law_told"] ["_law_size"] (defScope s_lline) := ⟨rfl, rfl, rfl, by decide +kernel, rfl, by decide +kernel, by decide +kernel⟩
theorem ok_lline {f : Addr} {fd : FuncData} (F : Fun K "_law_line" "_law_line" s_lline f fd) (c_line : CalX P w K mg base 7 "line" ["size"] (spLine S C B)) (bm : PySem.W.exmOne K (.ref B) (.ref B) = some true) (gB : mg "BadOrder" = some (.ref B)) : FnOk P w K mg base (L2.CX P w) 8 f fd ["_law_size"] (spLLine S C) := by
  obtain ⟨g, gd, mg1, kp, G, bG⟩ := c_line.ex
  refine F.okX sc_lline (fun vs H Q E h => ?_) (fun cdv A outer s H vs Q E hr h => ?_)
  · obtain ⟨x, kd, rfl, _⟩ := h
    rfl
  · obtain ⟨x, kd, rfl, hx, kb, kg⟩ := h
    refine ⟨_, (pss_cons (ps_set (i := 1) sc_lline.nd rfl (Or.inl rfl) (pe_tup (pa_cons pe_str (pa_cons pe_non pa_nil))))
      (pss_cons (ps_try_only (c := .ref B) (Wout := fun cls d _ H => E cls d H) rfl rfl ⟨rfl, by decide, .inl gB⟩ (takes_of rfl rfl rfl rfl)
          (fun W pn xe tk _ => pss_one (ps_set (i := 1) sc_lline.nd rfl (Or.inl rfl) (pe_tup (pa_cons pe_str (pa_cons (pe_callS G hr rfl mg1 kp bG (fun σ => passAt tk σ) (pa_cons (pv 0) pa_nil)) pa_nil)))))
          (fun a oe cls d pn hz hf => pss_one (ps_set (i := 1) sc_lline.nd rfl (Or.inl rfl) (pe_tup (pa_cons pe_str (pa_cons pe_non pa_nil))))))
      (pss_one (ps_ret (pv 1))))), ?_⟩
    refine ⟨by show 2 ≤ sizeLine; decide, fun c nc => ?_⟩
    have s1 := Same.put (o := .tup [.str "refused", .non]) nc
    generalize (upd H c (.tup [.str "refused", .non])) = H1 at s1 ⊢
    refine ⟨_, rfl, x, kd, rfl, hx.same s1, fun b H' s2 => ?_, fun n en n1 n8 o H' s2 io => ⟨by show 2 ≤ sizeLine; decide, fun r nr => ⟨_, rfl, ?_⟩⟩⟩
    · refine ⟨true, bm, fun _ a ha => ⟨by show 2 ≤ sizeLine; decide, fun r nr => ⟨_, rfl, ?_⟩⟩, fun z => nomatch z⟩
      exact kb b r _ ((s1.trans s2).trans (Same.put nr)) upd_same
    · exact kg n en n1 n8 r o _ _ ((s1.trans s2).trans (Same.put nr)) (io.same (Same.put nr)) upd_same
end
end K6

set_option Elab.async false
set_option linter.all false
set_option maxRecDepth 100000
set_option maxHeartbeats 4000000
namespace K6
open PySem L2
/-- _law_is_order(size, pairs) -/
def spIsOrder (S : Addr) : Sp := fun vs H Q _ => ∃ (sz ps : V) (k l : Kd), vs = [sz, ps] ∧ Th S H sz k ∧ Th S H ps l ∧ ItTh S H ps ∧ (Bad H sz ps → ∀ H', Same H H' → Q (.bl false) H') ∧ ∀ n l ts, GoodP H sz ps n l ts → ∀ H', Same H H' → Q (.bl true) H'
def neq (p : Nat × Nat) : Bool := decide (p.1 ≠ p.2)
def both (R : Rl) (p : Nat × Nat) : Bool := orEq R p.1 p.2 && orEq R p.2 p.1
theorem anti_tab {n : Nat} {ps : List (Nat × Nat)} (h : ∀ p ∈ ps, p.1 < n ∧ p.2 < n) : Anti n (wars (memR ps) n) ↔ (((prs n).filter neq).map (both (wars (memR ps) n))).any id = false := by
  rw [List.any_eq_false]
  constructor
  · intro an b hb z
    obtain ⟨p, hp, rfl⟩ := List.mem_map.mp hb
    obtain ⟨h1, h2⟩ := List.mem_filter.mp hp
    have ne : p.1 ≠ p.2 := of_decide_eq_true h2
    have z : (orEq (wars (memR ps) n) p.1 p.2 && orEq (wars (memR ps) n) p.2 p.1) = true := z
    rw [Bool.and_eq_true, orEq_iff, orEq_iff] at z
    rcases z with ⟨a | a, b | b⟩
    · exact ne a
    · exact ne a
    · exact ne b.symm
    · exact ne (an _ _ a b)
  · intro q s t h1 h2
    obtain ⟨hs, ht⟩ := wars_bound h n s t h1
    by_cases e : s = t
    · exact e
    · refine absurd ?_ (q (both (wars (memR ps) n) (s, t)) (List.mem_map_of_mem (List.mem_filter.mpr ⟨mem_prs.mpr ⟨hs, ht⟩, decide_eq_true e⟩)))
      show (orEq _ s t && orEq _ t s) = true
      rw [Bool.and_eq_true, orEq_iff, orEq_iff]
      exact ⟨.inr h1, .inr h2⟩
section
variable {P : Program} {w : World} {K : PySem.W.Frag} {mg : Str → Option Value} {base : Heap} {S C B : Addr}
abbrev s_iso : Stmt := top 49
abbrev nIO : List Str := ["_law_size", "_law_pairs_here", "_law_pair", "_law_table_here", "_law_s", "_law_t"]
theorem sc_iso : FnScope nIO ["_law_size", "_law_pairs_here"] (defScope s_iso) := ⟨rfl, rfl, rfl, by decide +kernel, rfl, by decide +kernel, by decide +kernel⟩
theorem ok_iso {f : Addr} {fd : FuncData} (F : Fun K "_law_is_order" "_law_is_order" s_iso f fd) (T : Bn mg) (I : ShI K S) (c_isz : Cal P w K mg base 2 "_law_is_size" ["_law_thing"] (spIsSize S)) (c_isp : Cal P w K mg base 2 "_law_is_pair" ["_law_size", "_law_thing"] (spIsPair S))
    (c_table : Cal P w K mg base 2 "_law_table" ["_law_size", "_law_pairs_here"] spTable) (c_lp : Cal P w K mg base 1 "_law_pairs" ["_law_size"] spLawPairs) : FnOk P w K mg base CX0 3 f fd ["_law_size", "_law_pairs_here"] (spIsOrder S) := by
  refine F.ok sc_iso (fun vs H Q E h => ?_) (fun cdv A outer s H vs Q E hr h => ?_)
  · obtain ⟨sz, ps, k, l, rfl, _⟩ := h
    rfl
  · obtain ⟨sz, ps, kz, kp, rfl, hz, hp, it, kb, kg⟩ := h
    refine ⟨_, (pss_cons (ps_if (PW.pt (pw_or (pt_not (pt_val (pe_cal c_isz (hr.mono (by decide)) rfl (pa_cons (pv 0) pa_nil)))) (pw_or1 (pt_not (pt_val (pe_callB call_isiT (by rfl) T.n_isinstance (by decide +kernel) (pa_cons (pv 1) (pa_cons (pe_tup (pa_cons (pe_bltn (v := .ty "list") rfl T.n_list (by decide +kernel) rfl) (pa_cons (pe_bltn (v := .ty "tuple") rfl T.n_tuple (by decide +kernel) rfl) pa_nil))) pa_nil))))))))
        (pss_one (ps_ret pe_bl))
        pss_nil)
      (pss_cons (ps_for PassesOwn.never rfl (pi_sq (pv 1)) (pg_name (i := 2) sc_iso.nd rfl (Or.inl rfl))
        (pss_one (ps_if (pt_not (pt_val (pe_cal c_isp (hr.mono (by decide)) rfl (pa_cons (pv 0) (pa_cons (pv 2) pa_nil)))))
            (pss_one (ps_ret pe_bl))
            pss_nil)))
      (pss_cons (ps_set (i := 3) sc_iso.nd rfl (Or.inr rfl) (pe_cal c_table (hr.mono (by decide)) rfl (pa_cons (pv 0) (pa_cons (pv 1) pa_nil))))
      (pss_one (ps_ret (pe_not (pe_callB (cr_any rfl) (by rfl) T.n_any PyProof.Rows.boot_any (pa_cons (pe_lc (own := [("_law_s", 4), ("_law_t", 5)]) (g := gTup K 2 (gCons (gName 4) (gCons (gName 5) gNil))) rfl sc_iso.nd (pi_list (pe_cal c_lp (hr.mono (by decide)) rfl (pa_cons (pv 0) pa_nil))) (blkOk_by (N := nIO) (sc := defScope s_iso) (by decide +kernel)) (fun _ _ _ _ _ => (pg_tup (by rfl) (pgs_cons (pg_name (i := 4) sc_iso.nd rfl (Or.inl rfl)) (pgs_cons (pg_name (i := 5) sc_iso.nd rfl (Or.inl rfl)) pgs_nil)))) (fun _ _ _ _ _ => (pts_one (pt_cmpR op_ne (pv 4) (pv 5) (nomark _))))
        (fun _ _ _ _ _ => (pe_and (pe_ix (show IxR _ (rIxL K) from ix_list) (pe_ix (show IxR _ (rIxL K) from ix_list) (pv 3) (pv 4) (fun _ _ => rfl)) (pv 5) (fun _ _ => rfl)) (pe_one (pe_ix (show IxR _ (rIxL K) from ix_list) (pe_ix (show IxR _ (rIxL K) from ix_list) (pv 3) (pv 5) (fun _ _ => rfl)) (pv 4) (fun _ _ => rfl)))))) pa_nil)))))))), ?_⟩
    refine ⟨_, rfl, sz, kz, rfl, hz, _, rfl, ?_⟩
    cases hb : btw 1 8 sz with
    | false =>
      refine iteT (kb (fun n l ts g => ?_) H (Same.refl H))
      obtain ⟨rfl, _, g1, g8, _⟩ := g
      have : (decide (1 ≤ (n : Int)) && decide ((n : Int) ≤ 8)) = false := hb
      rw [decide_eq_true (by omega : (1 : Int) ≤ n), decide_eq_true (by omega : (n : Int) ≤ 8)] at this
      cases this
    | true =>
      obtain ⟨n, rfl, n1, n8⟩ := btw8 hb
      refine iteF ?_
      refine ⟨_, rfl, by show 2 ≤ sizeLine; decide, fun tp ntp => ?_⟩
      have sP := Same.put (o := .tup [.ty "list", .ty "tuple"]) ntp
      obtain ⟨ty, hty, _, _, k3, k4, _⟩ := (hp.same sP).is I
      refine ⟨ps, tp, _, _, _, _, rfl, upd_same, .cons (.ty _) (.cons (.ty _) .nil), hty, kit_any k3 k4, _, rfl, ?_⟩
      generalize (upd H tp (.tup [.ty "list", .ty "tuple"])) = H0 at sP hty ⊢
      cases hs : (kp.isList || kp.isTup) with
      | false =>
        refine iteT (kb (fun n l ts g => ?_) H0 sP)
        obtain ⟨_, rfl, _, _, g5, _⟩ := g
        exact hp.noseq hs g5
      | true =>
        refine iteF ?_
        obtain ⟨l, rfl⟩ := hp.isref hs
        obtain ⟨xs, hl⟩ := hp.seq hs
        obtain ⟨lx, items⟩ := it l xs rfl hl
        refine it_sq (i := 1) rfl (hl.same (sP l)) fun J j => ?_
        refine for_sq j (fun i σ H' => H0 = H' ∧ ∃ v2, σ = [some (.int (n : Int)), some (.ref l), v2, none, none, none] ∧ ∀ y ∈ xs.take i, ixPair H (n : Int) y = true) ⟨rfl, none, rfl, fun _ m => (by cases m)⟩ (fun i σ H' _ h o e => by rw [← h.1]; exact e) ?_ ?_
        · rintro i y σ H' hy ⟨rfl, v2, rfl, all⟩
          have hm := List.mem_of_getElem? hy
          obtain ⟨⟨ky, hky⟩, hpt⟩ := items y hm
          refine ⟨_, rfl, _, rfl, (n : Int), y, ky, rfl, hky.same sP, hpt.same hky sP, _, rfl, ?_⟩
          rw [ixPair_same hky sP]
          cases hi : ixPair H (n : Int) y with
          | false =>
            refine iteT (kb (fun m l' ts g => ?_) H0 sP)
            obtain ⟨e1, e2, _, _, g5, g6, g7, _⟩ := g
            obtain rfl : n = m := by
              rw [V.int.injEq] at e1
              omega
            cases e2
            obtain rfl := Sq.uniq hl g5
            rw [pairs_ix g6 g7 y hm] at hi
            cases hi
          | true =>
            refine iteF ⟨rfl, _, rfl, fun z m => ?_⟩
            rw [take_more hy] at m
            rcases List.mem_append.mp m with m | m
            · exact all z m
            · rw [List.mem_singleton.mp m]
              exact hi
        rintro σ H' ⟨rfl, v2, rfl, all⟩
        rw [List.take_length] at all
        obtain ⟨ts, rfl, pt, hlt⟩ := ix_pairs all
        have hltp := pts_lt hlt
        refine ⟨_, rfl, _, rfl, n, l, ts, rfl, n8, hl.same (sP l), pt.same sP, fun tb H1 s1 _ tab => ?_⟩
        rw [wars_orEq] at tab
        have s01 := sP.trans s1
        refine ⟨_, rfl, n, rfl, n1, n8, fun G us H2 s2 eG pG uG => ?_⟩
        rw [allPs_eq n n8] at uG
        refine ⟨G, rfl, ⟨_, SqL.of eG⟩, fun D nD => ?_⟩
        have tab2 := tab.same s2
        generalize hR : wars (memR (ts.map (·.2))) n = R at tab2
        refine lc_list (K := K) (a := G) (xs := rfs us) (fun i H' => Same H2 H' ∧ H' D = some (.lst (((((prs n).take i).filter neq).map (both R)).map V.bl))) ⟨Same.put nD, upd_same⟩ (fun i H' _ h => SqL.of (h.1 _ _ eG)) ?_ ?_
        · rintro i y H' hy ⟨s3, eD⟩
          obtain ⟨t, ht, hm, rfl⟩ := rfs_at hy
          have i0 : (prs n)[i]? = some t.2 := by rw [← uG, List.getElem?_map, ht]; rfl
          obtain ⟨t1, t2⟩ := mem_prs.mp (List.mem_of_getElem? i0)
          have il : i < 64 := by
            have := (List.getElem?_eq_some_iff.mp i0).1
            have := prs_len n n8
            omega
          obtain ⟨rows, r1, r2, r3⟩ := tab2.same s3
          have hr1 : rows[t.2.1]? = some rows[t.2.1] := List.getElem?_eq_getElem (by omega)
          have hr2 : rows[t.2.2]? = some rows[t.2.2] := List.getElem?_eq_getElem (by omega)
          refine ⟨t.1, prV t.2, rfl, SqT.of (s3 _ _ (pG t hm)), rfl, _, _, rfl, _, _, rfl, rfl, rfl, ?_⟩
          refine ⟨_, rfl, _, rfl, rfl, _, rfl, iteB (fun z => ?_) (fun z => ?_)⟩
          · have ne : neq t.2 = true := decide_eq_true fun e => by
              rw [e] at z
              simp at z
            have fin : ∀ b, b = both R t.2 → ∃ acc, H' D = some (.lst acc) ∧ acc.length < sizeLine ∧ Same H2 (upd H' D (.lst (acc ++ [V.bl b]))) ∧ upd H' D (.lst (acc ++ [V.bl b])) D = some (.lst (((((prs n).take (i + 1)).filter neq).map (both R)).map V.bl)) := by
              rintro b rfl
              refine ⟨_, eD, ?_, Same.but (fun b u e => s3 _ _ e) nD, ?_⟩
              · rw [List.length_map, List.length_map]
                have := List.length_filter_le neq ((prs n).take i)
                rw [List.length_take] at this
                exact small_len (by omega)
              · rw [upd_same, take_more i0, List.filter_append, List.filter_cons, ne]
                simp
            refine ⟨_, rfl, _, rfl, tb, _, _, _, rfl, rfl, SqL.of r1, atI_nat (by rw [List.getElem?_map, hr1]; rfl), ?_⟩
            refine ⟨_, rfl, rows[t.2.1], _, _, _, rfl, rfl, SqL.of (r3 _ _ hr1), atI_nat (rowV_at t2), _, rfl, iteB (fun q => ?_) (fun q => ?_)⟩
            · refine ⟨_, rfl, _, rfl, tb, _, _, _, rfl, rfl, SqL.of r1, atI_nat (by rw [List.getElem?_map, hr2]; rfl), ?_⟩
              refine ⟨_, rfl, rows[t.2.2], _, _, _, rfl, rfl, SqL.of (r3 _ _ hr2), atI_nat (rowV_at t1), ?_⟩
              exact fin _ (by unfold both; rw [q, Bool.true_and])
            · exact fin _ (by unfold both; rw [q, Bool.false_and])
          · have eq : neq t.2 = false := decide_eq_false fun h => by
              rw [Bool.not_eq_false'] at z
              have := of_decide_eq_true z
              rw [V.int.injEq] at this
              exact h (by omega)
            refine ⟨s3, ?_⟩
            rw [take_more i0, List.filter_append, List.filter_cons, eq]
            simpa using eD
        rintro H3 ⟨s3, eD⟩
        rw [show (rfs us).length = (prs n).length by rw [rfs_len, ← uG, List.length_map], List.take_length] at eD
        have s03 := s01.trans (s2.trans s3)
        refine ⟨D, _, rfl, SqL.of eD, _, rfl, ?_⟩
        cases hany : ((((prs n).filter neq).map (both R)).any id) with
        | true =>
          refine kb (fun m l' ts' g => ?_) H3 s03
          obtain ⟨e1, e2, _, _, g5, g6, g7, g8⟩ := g
          obtain rfl : n = m := by
            rw [V.int.injEq] at e1
            omega
          cases e2
          have e4 : ts.map (·.2) = ts'.map (·.2) := pts_eq pt g6 (Sq.uniq hl g5)
          rw [← e4] at g8
          have := (anti_tab hltp).mp g8
          rw [hR, hany] at this
          cases this
        | false =>
          refine kg n l ts ⟨rfl, rfl, n1, n8, hl, pt, hlt, (anti_tab hltp).mpr ?_⟩ H3 s03
          rw [hR]
          exact hany
end
end K6

set_option Elab.async false
set_option linter.all false
set_option maxRecDepth 100000
set_option maxHeartbeats 4000000
namespace K6
open PySem L2
/-- _law_is_right(size, pairs) -/
def spRight (S : Addr) : Sp := fun vs H Q _ => ∃ (sz ps : V) (k l : Kd), vs = [sz, ps] ∧ Th S H sz k ∧ Th S H ps l ∧ ItTh S H ps ∧ ∀ H', Same H H' → Q (.bl true) H'
theorem no_good {H : Hp} {sz ps : V} (h : ¬ ∃ n l ts, GoodP H sz ps n l ts) : Bad H sz ps := fun n l ts g => h ⟨n, l, ts, g⟩
section
variable {P : Program} {w : World} {K : PySem.W.Frag} {mg : Str → Option Value} {base : Heap} {S C B : Addr}
abbrev s_right : Stmt := top 51
abbrev nRi : List Str := ["_law_size", "_law_pairs_here", "_law_told", "_law_table_here", "_law_pair"]
theorem sc_right : FnScope nRi ["_law_size", "_law_pairs_here"] (defScope s_right) := ⟨rfl, rfl, rfl, by decide +kernel, rfl, by decide +kernel, by decide +kernel⟩
theorem ok_right {f : Addr} {fd : FuncData} (F : Fun K "_law_is_right" "_law_is_right" s_right f fd) (T : OrT K mg C) (pt : PairsT P w K mg base C) (c_made : CalX P w K mg base 7 "_law_made" ["_law_size", "_law_pairs_here"] (spMade S C)) (c_iso : Cal P w K mg base 3 "_law_is_order" ["_law_size", "_law_pairs_here"] (spIsOrder S))
    (c_table : Cal P w K mg base 2 "_law_table" ["_law_size", "_law_pairs_here"] spTable) (c_lp : Cal P w K mg base 1 "_law_pairs" ["_law_size"] spLawPairs) : FnOk P w K mg base CX0 8 f fd ["_law_size", "_law_pairs_here"] (spRight S) := by
  obtain ⟨gp, gpd, Mp, Gp, bGp⟩ := pt.ex
  refine F.ok sc_right (fun vs H Q E h => ?_) (fun cdv A outer s H vs Q E hr h => ?_)
  · obtain ⟨sz, ps, k, l, rfl, _⟩ := h
    rfl
  · obtain ⟨sz, ps, kz, kp, rfl, hz, hp, it, k⟩ := h
    have h64 := un64x hr
    refine ⟨_, (pss_cons (ps_set (i := 2) sc_right.nd rfl (Or.inl rfl) (pe_calx c_made (hr.mono (by decide)) rfl (pa_cons (pv 0) (pa_cons (pv 1) pa_nil))))
      (pss_cons (ps_if (pt_not (pt_val (pe_cal c_iso (hr.mono (by decide)) rfl (pa_cons (pv 0) (pa_cons (pv 1) pa_nil)))))
        (pss_one (ps_ret (pe_cmpR op_eq (pe_ix ix_tup (pv 2) pe_int (fun _ _ => rfl)) pe_str (nomark _))))
        pss_nil)
      (pss_cons (ps_if (PW.pt (pw_or (pt_cmpR op_ne (pe_ix ix_tup (pv 2) pe_int (fun _ _ => rfl)) pe_str (nomark _)) (pw_or (pt_not (pt_val (pe_callB call_isi (by rfl) T.bn.n_isinstance (by decide +kernel) (pa_cons (pe_ix ix_tup (pv 2) pe_int (fun _ _ => rfl)) (pa_cons (pe_glob (v := .ref C) rfl T.gO rfl) pa_nil))))) (pw_or1 (pt_cmpR op_ne (pe_fld (pe_ix ix_tup (pv 2) pe_int (fun _ _ => rfl)) rfl) (pv 0) (nomark _))))))
        (pss_one (ps_ret pe_bl))
        pss_nil)
      (pss_cons (ps_set (i := 3) sc_right.nd rfl (Or.inr rfl) (pe_cal c_table (hr.mono (by decide)) rfl (pa_cons (pv 0) (pa_cons (pv 1) pa_nil))))
      (pss_one (ps_ret (pe_cmpR (op_eqD (by exact h64)) (pe_meth0 (pl := _) (pe_ix ix_tup (pv 2) pe_int (fun _ _ => rfl)) T.cl Mp Gp (hr.mono (by decide)) bGp .nil pass0) (pe_lc (own := [("_law_pair", 4)]) rfl sc_right.nd (pi_list (pe_cal c_lp (hr.mono (by decide)) rfl (pa_cons (pv 0) pa_nil))) (blkOk_by (N := nRi) (sc := defScope s_right) (by decide +kernel)) (fun _ _ _ _ _ => (pg_name (i := 4) sc_right.nd rfl (Or.inl rfl))) (fun _ _ _ _ _ => (pts_one (PW.pt (pw_and (pt_cmpR op_ne (pe_ix (show IxR _ (rIxT K) from ix_tup) (pv 4) pe_int (fun _ _ => rfl)) (pe_ix (show IxR _ (rIxT K) from ix_tup) (pv 4) pe_int (fun _ _ => rfl)) (nomark _)) (pw_and1 (pt_val (pe_ix (show IxR _ (rIxL K) from ix_list) (pe_ix (show IxR _ (rIxL K) from ix_list) (pv 3) (pe_ix (show IxR _ (rIxT K) from ix_tup) (pv 4) pe_int (fun _ _ => rfl)) (fun _ _ => rfl)) (pe_ix (show IxR _ (rIxT K) from ix_tup) (pv 4) pe_int (fun _ _ => rfl)) (fun _ _ => rfl)))))))) (fun _ _ _ _ _ => (pv 4))) (nomark _)))))))), ?_⟩
    by_cases hg : ∃ n l ts, GoodP H sz ps n l ts
    · obtain ⟨n, l, ts, g⟩ := hg
      have uniq : ∀ {H1 : Hp} {m : Nat} {l' : Addr} {ts' : List Pt}, Same H H1 → GoodP H1 sz ps m l' ts' → m = n ∧ ts'.map (·.2) = ts.map (·.2) := fun {H1 m l' ts'} s1 g' => by
        obtain ⟨e1, e2, _, _, g5, g6, _⟩ := g'.back hp it s1
        obtain ⟨f1, f2, _, _, h5, h6, _⟩ := id g
        rw [e1, V.int.injEq] at f1
        rw [e2] at f2
        cases f2
        exact ⟨by omega, pts_eq g6 h6 (Sq.uniq g5 h5)⟩
      refine ⟨_, rfl, _, rfl, sz, ps, kz, kp, rfl, hz, hp, it, fun b => absurd g (b _ _ _), fun m l' ts' g' r x H1 s1 io er => ?_⟩
      obtain ⟨rfl, e0⟩ := uniq (Same.refl H) g'
      rw [e0] at io
      clear g' e0 ts' l'
      refine ⟨_, rfl, _, rfl, sz, ps, kz, kp, rfl, hz.same s1, hp.same s1, it.up hp s1, fun b => absurd (g.up s1) (b _ _ _), fun m' l' ts' g' H2 s2 => ⟨_, rfl, iteF ?_⟩⟩
      clear g' ts' l' m'
      have s12 := s1.trans s2
      have er2 := s2 _ _ er
      have io2 := io.same s2
      obtain ⟨dx, L0, ts0, h1, _⟩ := id io2
      obtain ⟨rfl, rfl, n1, n8, h5, h6, h7, h8⟩ := id g
      refine ⟨_, rfl, r, _, 0, _, rfl, rfl, SqT.of er2, at0, rfl, _, rfl, iteN ?_⟩
      refine ⟨_, rfl, r, _, 1, _, rfl, rfl, SqT.of er2, at1, .ref x, .ref C, _, _, true, rfl, .own C, io2.ty T, T.self, _, rfl, iteF ?_⟩
      refine ⟨_, rfl, r, _, 1, _, rfl, rfl, SqT.of er2, at1, x, C, dx, _, _, rfl, h1, T.cl, T.nS, ordF_size _ _, _, rfl, rfl, _, rfl, iteN ?_⟩
      refine ⟨_, rfl, _, rfl, m, l, ts, rfl, n8, h5.same (s12 l), h6.same s12, fun tb H3 s3 _ tab => ?_⟩
      rw [wars_orEq] at tab
      generalize wars (memR (ts.map (·.2))) m = R at tab io io2
      have io3 := io2.same s3
      have er3 := s3 _ _ er2
      have s13 := s12.trans s3
      refine ⟨_, rfl, r, _, 1, _, rfl, rfl, SqT.of er3, at1, x, dx, _, rfl, s3 _ _ h1, ordF_none _ _ (by decide +kernel) (by decide +kernel), x, m, lowL m R, rfl, io3, fun l1 ls H4 s4 nl el pl ql => ?_⟩
      refine ⟨_, rfl, m, rfl, n1, n8, fun G us H5 s5 eG pG uG => ?_⟩
      rw [allPs_eq m n8] at uG
      refine ⟨G, rfl, ⟨_, SqL.of eG⟩, fun D nD => ?_⟩
      have s35 := s4.trans s5
      refine lc_list (K := K) (a := G) (xs := rfs us) (fun i H' => Same H5 H' ∧ ∃ ds : List Pt, H' D = some (.lst (rfs ds)) ∧ Pts H' ds ∧ ds.map (·.2) = ((prs m).take i).filter (keepB R) ∧ ds.length ≤ i) ⟨Same.put nD, [], upd_same, fun _ m => (by cases m), rfl, Nat.zero_le _⟩ (fun i H' _ h => SqL.of (h.1 _ _ eG)) ?_ ?_
      · rintro i y H' hy ⟨s6, ds, eD, pD, qD, lD⟩
        obtain ⟨t, ht, hm, rfl⟩ := rfs_at hy
        have i0 : (prs m)[i]? = some t.2 := by rw [← uG, List.getElem?_map, ht]; rfl
        obtain ⟨t1, t2⟩ := mem_prs.mp (List.mem_of_getElem? i0)
        have il : i < 64 := by
          have := (List.getElem?_eq_some_iff.mp i0).1
          have := prs_len m n8
          omega
        have et := s6 _ _ (pG t hm)
        have no : keepB R t.2 = false → ds.map (·.2) = ((prs m).take (i + 1)).filter (keepB R) := fun hb => by
          rw [take_more i0, List.filter_append, qD, List.filter_cons, hb]
          simp
        obtain ⟨rows, r1, r2, r3⟩ := tab.same (s35.trans s6)
        have hrow : rows[t.2.1]? = some rows[t.2.1] := List.getElem?_eq_getElem (by omega)
        refine ⟨rfl, ?_⟩
        refine ⟨_, rfl, t.1, _, _, _, rfl, rfl, SqT.of et, at0, ?_⟩
        refine ⟨_, rfl, t.1, _, _, _, rfl, rfl, SqT.of et, at1, rfl, _, rfl, iteB (fun z => ?_) (fun z => ?_)⟩
        · have ne : t.2.1 ≠ t.2.2 := fun q => by
            rw [q] at z
            simp at z
          refine ⟨_, rfl, _, rfl, t.1, _, _, _, rfl, rfl, SqT.of et, at0, tb, _, _, _, rfl, rfl, SqL.of r1, atI_nat (by rw [List.getElem?_map, hrow]; rfl), ?_⟩
          refine ⟨_, rfl, t.1, _, _, _, rfl, rfl, SqT.of et, at1, rows[t.2.1], _, _, _, rfl, rfl, SqL.of (r3 _ _ hrow), atI_nat (rowV_at t2), _, rfl, iteB (fun z2 => ?_) (fun z2 => ?_)⟩
          · have yes : keepB R t.2 = true := by
              unfold keepB
              unfold orEq at z2
              rw [decide_eq_false ne, Bool.false_or] at z2
              rw [z2, decide_eq_true ne]
              rfl
            refine ⟨_, rfl, rfs ds, eD, by rw [rfs_len]; exact small_len (by omega), Same.but (fun b u e => s6 _ _ e) nD, ds ++ [t], ?_, ?_, ?_, ?_⟩
            · rw [upd_same, rfs_snoc]
            · exact (pD.snoc et).lstU eD
            · rw [List.map_append, qD, take_more i0, List.filter_append, List.filter_cons, yes]
              rfl
            · rw [List.length_append]
              show ds.length + 1 ≤ i + 1
              omega
          · refine ⟨s6, ds, eD, pD, no ?_, by omega⟩
            unfold keepB
            unfold orEq at z2
            rw [decide_eq_false ne, Bool.false_or] at z2
            rw [z2, Bool.and_false]
        · have eq : t.2.1 = t.2.2 := by
            rcases Nat.decEq t.2.1 t.2.2 with h | h
            · exact absurd z (by simp; omega)
            · exact h
          refine ⟨s6, ds, eD, pD, no ?_, by omega⟩
          unfold keepB
          rw [decide_eq_false (fun h => h eq), Bool.false_and]
      rintro H6 ⟨s6, ds, eD, pD, qD, lD⟩
      rw [show (rfs us).length = (prs m).length by rw [rfs_len, ← uG, List.length_map], List.take_length] at qD
      have qD : ds.map (·.2) = lowL m R := qD
      have s46 := s5.trans s6
      refine ⟨_, _, .lst (SqL.of (s46 _ _ el)) (Pts.dp (pl.same s46)), .lst (SqL.of eD) (Pts.dp pD), sh_list _, sh_list _, ?_⟩
      rw [eqv_lsts, ql, qD, decide_eq_true rfl]
      exact k H6 (s13.trans (s4.trans s46))
    · have bd := no_good hg
      refine ⟨_, rfl, _, rfl, sz, ps, kz, kp, rfl, hz, hp, it, fun _ r H1 s1 er => ?_, fun n l ts g => absurd g (bd n l ts)⟩
      have bd1 : Bad H1 sz ps := fun n l ts g => bd n l ts (g.back hp it s1)
      refine ⟨_, rfl, _, rfl, sz, ps, kz, kp, rfl, hz.same s1, hp.same s1, it.up hp s1, fun _ H2 s2 => ⟨_, rfl, iteT ?_⟩, fun n l ts g => absurd g (bd1 n l ts)⟩
      refine ⟨_, rfl, r, _, 0, _, rfl, rfl, SqT.of (s2 _ _ er), at0, rfl, ?_⟩
      rw [decide_eq_true rfl]
      exact k H2 (s1.trans s2)
end
end K6

set_option Elab.async false
set_option linter.all false
set_option maxRecDepth 100000
set_option maxHeartbeats 4000000
namespace K6
open PySem L2
/-! ### things of the second half -/
/-- a thing in no object -/
inductive Sc : V → Prop
  | int (i : Int) : Sc (.int i)
  | bl (b : Bool) : Sc (.bl b)
  | non : Sc .non
  | str (x : Str) : Sc (.str x)
theorem Sc.th {S : Addr} {H : Hp} {x : V} (h : Sc x) : ∃ k, Th S H x k := by
  cases h with
  | int i => exact ⟨_, .int i⟩
  | bl b => exact ⟨_, .bl b⟩
  | non => exact ⟨_, .non⟩
  | str x => exact ⟨_, .str x⟩
/-- a thing of a list, the pool is none -/
inductive Itm (S a : Addr) (H : Hp) : V → Prop
  | sc {x : V} (h : Sc x) : Itm S a H x
  | tup {b : Addr} {xs : List V} (e : H b = some (.tup xs)) (f : ∀ x ∈ xs, Sc x) : Itm S a H (.ref b)
  | lst {b : Addr} {xs : List V} (e : H b = some (.lst xs)) (ne : b ≠ a) : Itm S a H (.ref b)
  | dK {b : Addr} {kvs : List (Key × V)} (e : H b = some (.dK kvs)) : Itm S a H (.ref b)
  | dT {b : Addr} {kvs : List (List Key × V)} (e : H b = some (.dT kvs)) : Itm S a H (.ref b)
  | shr {b dx : Addr} {fs : List (Str × V)} (e : H b = some (.ins S dx fs)) : Itm S a H (.ref b)
theorem Itm.same {S a : Addr} {H H' : Hp} {x : V} (h : Itm S a H x) (s : Same H H') : Itm S a H' x := by
  cases h with
  | sc h => exact .sc h
  | tup e f => exact .tup (s _ _ e) f
  | lst e ne => exact .lst (s _ _ e) ne
  | dK e => exact .dK (s _ _ e)
  | dT e => exact .dT (s _ _ e)
  | shr e => exact .shr (s _ _ e)
theorem pool_ne {H : Hp} {a b : Addr} {o : HO} (h : PoolAt H a) (e : H b = some o) (no : ∀ xs, o ≠ .lst xs) : b ≠ a := fun z => by
  obtain ⟨u, e2, n, g, q, _⟩ := h
  rw [z, e2, q] at e
  exact no _ (Option.some.inj e).symm
theorem Itm.keep {S a : Addr} {H H' : Hp} {x : V} (h : Itm S a H x) (k : Keep a H H') (hp : PoolAt H a) : Itm S a H' x := by
  cases h with
  | sc h => exact .sc h
  | tup e f => exact .tup (k _ _ e (pool_ne hp e fun _ z => by cases z)) f
  | lst e ne => exact .lst (k _ _ e ne) ne
  | dK e => exact .dK (k _ _ e (pool_ne hp e fun _ z => by cases z))
  | dT e => exact .dT (k _ _ e (pool_ne hp e fun _ z => by cases z))
  | shr e => exact .shr (k _ _ e (pool_ne hp e fun _ z => by cases z))
theorem Itm.th {S a : Addr} {H : Hp} {x : V} (h : Itm S a H x) : ∃ k, Th S H x k := by
  cases h with
  | sc h => exact h.th
  | tup e f => exact ⟨_, .tup e⟩
  | lst e ne => exact ⟨_, .lst e⟩
  | dK e => exact ⟨_, .dK e⟩
  | dT e => exact ⟨_, .dT e⟩
  | shr e => exact ⟨_, .shr e⟩
theorem Itm.pl {S a : Addr} {H : Hp} {x : V} (h : Itm S a H x) : PlV x := by
  cases h with
  | sc h => cases h <;> trivial
  | _ => trivial
theorem Itm.pt {S a : Addr} {H : Hp} {x : V} (h : Itm S a H x) : PairTh S H x := by
  intro b y z e1 e2
  cases h with
  | sc h => subst e1; cases h
  | tup e f =>
    cases e1
    rw [e] at e2
    have e3 := HO.tup.inj (Option.some.inj e2)
    subst e3
    exact ⟨(f y (by simp)).th, (f z (by simp)).th⟩
  | lst e ne => cases e1; rw [e] at e2; cases e2
  | dK e => cases e1; rw [e] at e2; cases e2
  | dT e => cases e1; rw [e] at e2; cases e2
  | shr e => cases e1; rw [e] at e2; cases e2
/-- an object or none, whatever stands in it -/
inductive Itx (S a : Addr) (H : Hp) : V → Prop
  | sc {x : V} (h : Sc x) : Itx S a H x
  | tup {b : Addr} {xs : List V} (e : H b = some (.tup xs)) : Itx S a H (.ref b)
  | lst {b : Addr} {xs : List V} (e : H b = some (.lst xs)) (ne : b ≠ a) : Itx S a H (.ref b)
  | dK {b : Addr} {kvs : List (Key × V)} (e : H b = some (.dK kvs)) : Itx S a H (.ref b)
  | dT {b : Addr} {kvs : List (List Key × V)} (e : H b = some (.dT kvs)) : Itx S a H (.ref b)
  | shr {b dx : Addr} {fs : List (Str × V)} (e : H b = some (.ins S dx fs)) : Itx S a H (.ref b)
theorem Itx.same {S a : Addr} {H H' : Hp} {x : V} (h : Itx S a H x) (s : Same H H') : Itx S a H' x := by
  cases h with
  | sc h => exact .sc h
  | tup e => exact .tup (s _ _ e)
  | lst e ne => exact .lst (s _ _ e) ne
  | dK e => exact .dK (s _ _ e)
  | dT e => exact .dT (s _ _ e)
  | shr e => exact .shr (s _ _ e)
theorem Itx.keep {S a : Addr} {H H' : Hp} {x : V} (h : Itx S a H x) (k : Keep a H H') (hp : PoolAt H a) : Itx S a H' x := by
  cases h with
  | sc h => exact .sc h
  | tup e => exact .tup (k _ _ e (pool_ne hp e fun _ z => by cases z))
  | lst e ne => exact .lst (k _ _ e ne) ne
  | dK e => exact .dK (k _ _ e (pool_ne hp e fun _ z => by cases z))
  | dT e => exact .dT (k _ _ e (pool_ne hp e fun _ z => by cases z))
  | shr e => exact .shr (k _ _ e (pool_ne hp e fun _ z => by cases z))
theorem Itx.th {S a : Addr} {H : Hp} {x : V} (h : Itx S a H x) : ∃ k, Th S H x k := by
  cases h with
  | sc h => exact h.th
  | tup e => exact ⟨_, .tup e⟩
  | lst e ne => exact ⟨_, .lst e⟩
  | dK e => exact ⟨_, .dK e⟩
  | dT e => exact ⟨_, .dT e⟩
  | shr e => exact ⟨_, .shr e⟩
/-- an argument: a thing whose items are things -/
structure Ars (S a : Addr) (H : Hp) (x : V) : Prop where
  it : Itx S a H x
  is : ∀ b xs, x = .ref b → Sq H b xs → xs.length ≤ 200 ∧ ∀ y ∈ xs, Itm S a H y
theorem Itx.sqb {S a : Addr} {H H' : Hp} {b : Addr} {xs : List V} (h : Itx S a H (.ref b)) (k : ∀ o, H b = some o → H' b = some o) (g : Sq H' b xs) : Sq H b xs := by
  have : ∃ o, H b = some o := by
    cases h with
    | sc h => cases h
    | tup e => exact ⟨_, e⟩
    | lst e ne => exact ⟨_, e⟩
    | dK e => exact ⟨_, e⟩
    | dT e => exact ⟨_, e⟩
    | shr e => exact ⟨_, e⟩
  obtain ⟨o, e⟩ := this
  rcases g with g | g
  · rw [k _ e] at g
    exact .inl (by rw [e, g])
  · rw [k _ e] at g
    exact .inr (by rw [e, g])
theorem Itx.ne {S a : Addr} {H : Hp} {b : Addr} (h : Itx S a H (.ref b)) (hp : PoolAt H a) : b ≠ a := by
  cases h with
  | sc h => cases h
  | tup e => exact pool_ne hp e fun _ z => by cases z
  | lst e ne => exact ne
  | dK e => exact pool_ne hp e fun _ z => by cases z
  | dT e => exact pool_ne hp e fun _ z => by cases z
  | shr e => exact pool_ne hp e fun _ z => by cases z
theorem Ars.keep {S a : Addr} {H H' : Hp} {x : V} (h : Ars S a H x) (k : Keep a H H') (hp : PoolAt H a) : Ars S a H' x :=
  ⟨h.it.keep k hp, fun b xs e g => by
    subst e
    obtain ⟨h1, h2⟩ := h.is b xs rfl (h.it.sqb (fun o e => k _ _ e (h.it.ne hp)) g)
    exact ⟨h1, fun y m => (h2 y m).keep k hp⟩⟩
theorem Ars.same {S a : Addr} {H H' : Hp} {x : V} (h : Ars S a H x) (s : Same H H') : Ars S a H' x :=
  ⟨h.it.same s, fun b xs e g => by
    subst e
    obtain ⟨h1, h2⟩ := h.is b xs rfl (h.it.sqb (fun o e => s _ _ e) g)
    exact ⟨h1, fun y m => (h2 y m).same s⟩⟩
theorem Ars.items {S a : Addr} {H : Hp} {x : V} (h : Ars S a H x) : ItTh S H x := fun b xs e g => by
  obtain ⟨h1, h2⟩ := h.is b xs e g
  exact ⟨h1, fun y m => ⟨(h2 y m).th, (h2 y m).pt⟩⟩
theorem pts_itm {S a : Addr} {H : Hp} {ts : List Pt} (p : Pts H ts) : ∀ y ∈ rfs ts, Itm S a H y := fun y m => by
  obtain ⟨t, mt, rfl⟩ := List.mem_map.mp m
  refine .tup (p t mt) fun x hx => ?_
  simp only [prV, List.mem_cons, List.not_mem_nil, or_false] at hx
  rcases hx with rfl | rfl <;> exact .int _
/-- a list or a tuple of things -/
theorem ars_sq {S a : Addr} {H : Hp} {b : Addr} {xs : List V} (h : H b = some (.lst xs)) (ne : b ≠ a) (len : xs.length ≤ 200) (it : ∀ y ∈ xs, Itm S a H y) : Ars S a H (.ref b) :=
  ⟨.lst h ne, fun c ys e g => by
    cases e
    obtain rfl := Sq.uniq (.inl h) g
    exact ⟨len, it⟩⟩
theorem scs_nil : ∀ x ∈ ([] : List V), Sc x := fun _ m => by cases m
theorem scs_cons {x : V} {xs : List V} (h : Sc x) (t : ∀ y ∈ xs, Sc y) : ∀ y ∈ x :: xs, Sc y := fun y m => by
  rcases List.mem_cons.mp m with rfl | m
  · exact h
  · exact t y m
theorem new_ne {H : Hp} {a t : Addr} (h : PoolAt H a) (n : H t = none) : t ≠ a := fun z => by
  obtain ⟨o, e, _⟩ := h
  rw [z, e] at n
  cases n
theorem ars_tup {S a : Addr} {H : Hp} {b : Addr} {xs : List V} (h : H b = some (.tup xs)) (len : xs.length ≤ 200) (it : ∀ y ∈ xs, Itm S a H y) : Ars S a H (.ref b) :=
  ⟨.tup h, fun c ys e g => by
    cases e
    obtain rfl := Sq.uniq (.inr h) g
    exact ⟨len, it⟩⟩
/-- _law_sizes(pool) -/
def spSizes (S : Addr) : Sp := fun vs H Q _ => ∃ a : Addr, vs = [.ref a] ∧ PoolAt H a ∧ ∀ (c : Addr) (xs : List V) (H' : Hp), Keep a H H' → PoolAt H' a → H' c = some (.tup xs) → 0 < xs.length → xs.length ≤ 200 → (∀ y ∈ xs, Itm S a H' y) → Q (.ref c) H'
/-- _law_things(size) -/
def spThings (S : Addr) : Sp := fun vs H Q _ => ∃ (i : Int) (a : Addr), vs = [.int i] ∧ PoolAt H a ∧ ∀ (c : Addr) (xs : List V) (H' : Hp), Same H H' → H' c = some (.tup xs) → 0 < xs.length → xs.length ≤ 200 → (∀ y ∈ xs, Itm S a H' y) → Q (.ref c) H'
section
variable {P : Program} {w : World} {K : PySem.W.Frag} {mg : Str → Option Value} {base : Heap} {C S B : Addr}
abbrev s_sizes : Stmt := top 45
theorem sc_sizes : FnScope ["_law_pool_here"] ["_law_pool_here"] (defScope s_sizes) := ⟨rfl, rfl, rfl, by decide +kernel, rfl, by decide +kernel, by decide +kernel⟩
theorem ok_sizes {f : Addr} {fd : FuncData} (F : Fun K "_law_sizes" "_law_sizes" s_sizes f fd) (ms : MkS P w K mg base S) (c_draw : Cal P w K mg base 1 "_law_draw" ["_law_pool_here", "_law_many"] spDraw) : FnOk P w K mg base CX0 6 f fd ["_law_pool_here"] (spSizes S) := by
  refine F.ok sc_sizes (fun vs H Q E h => ?_) (fun cdv A outer s H vs Q E hr h => ?_)
  · obtain ⟨a, rfl, _⟩ := h
    rfl
  · obtain ⟨a, rfl, hp, k⟩ := h
    refine ⟨_, (pss_one (ps_ret (pe_tup (pa_cons (pe_cal c_draw (hr.mono (by decide)) rfl (pa_cons (pv 0) (pa_cons pe_int pa_nil))) (pa_cons pe_int (pa_cons pe_int (pa_cons (pe_un un_neg pe_int) (pa_cons (pe_op op_pow pe_int pe_int) (pa_cons pe_bl (pa_cons pe_non (pa_cons pe_str (pa_cons (pe_tup (pa_cons pe_int pa_nil)) (pa_cons (pe_share1 ms (hr.mono (by decide)) rfl (pa_cons pe_int pa_nil)) (pa_cons (pe_lst (pa_cons pe_int pa_nil)) pa_nil)))))))))))))), ?_⟩
    refine ⟨_, rfl, a, 10, rfl, hp, by decide, by decide, fun r o1 r0 r1 ho1 => ?_⟩
    have k1 := Keep.put (a := a) (H := H) o1
    have p1 : PoolAt (upd H a o1) a := .put ho1
    generalize (upd H a o1) = H1 at k1 p1 ⊢
    refine ⟨1, rfl, 10, 20, rfl, rfl, ⟨by decide, by decide, by decide⟩, by show 1 ≤ sizeLine; decide, fun t0 nt0 => ?_⟩
    have sA := Same.put (o := .tup [.int 3]) nt0
    have gA : (upd H1 t0 (.tup [.int 3])) t0 = some (.tup [.int 3]) := upd_same
    generalize (upd H1 t0 (.tup [.int 3])) = A1 at sA gA ⊢
    intro x dx hx hd ne
    refine ⟨x, dx, 3, rfl, upd_same, .inr rfl, rfl, by show 1 ≤ sizeLine; decide, fun l0 nl0 => ?_⟩
    rw [upd_upd] at nl0 ⊢
    have sB : Same A1 (upd (upd A1 dx (.own x)) x (.ins S dx (shF 3 1))) := (Same.put hd).trans (Same.put (by rw [upd_ne ne.symm]; exact hx))
    have gB : (upd (upd A1 dx (.own x)) x (.ins S dx (shF 3 1))) x = some (.ins S dx (shF 3 1)) := upd_same
    generalize (upd (upd A1 dx (.own x)) x (.ins S dx (shF 3 1))) = A2 at sB gB nl0 ⊢
    have sC := Same.put (o := .lst [.int 1]) nl0
    have gC : (upd A2 l0 (.lst [.int 1])) l0 = some (.lst [.int 1]) := upd_same
    generalize hA3 : (upd A2 l0 (.lst [.int 1])) = A3 at sC gC ⊢
    refine ⟨by show 11 ≤ sizeLine; decide, fun c nc => ?_⟩
    have p2 := (p1.same sA).same sB
    have la : l0 ≠ a := fun z => by
      obtain ⟨o, e, _⟩ := p2
      rw [z, e] at nl0
      cases nl0
    have sD : ∀ o, Same A3 (upd A3 c o) := fun o => Same.put nc
    have s4 : ∀ o, Same H1 (upd A3 c o) := fun o => ((sA.trans sB).trans sC).trans (sD o)
    refine k c _ _ (k1.trans (Keep.of (s4 _))) (p1.same (s4 _)) upd_same (by show 0 < 11; decide) (by show 11 ≤ 200; decide) fun y hy => ?_
    simp only [List.mem_cons, List.not_mem_nil, or_false] at hy
    rcases hy with rfl | rfl | rfl | rfl | rfl | rfl | rfl | rfl | rfl | rfl | rfl
    · exact .sc (.int _)
    · exact .sc (.int _)
    · exact .sc (.int _)
    · exact .sc (.int _)
    · exact .sc (.int _)
    · exact .sc (.bl _)
    · exact .sc .non
    · exact .sc (.str _)
    · exact .tup (sD _ _ _ (sC _ _ (sB _ _ gA))) fun x hx => by rw [List.mem_singleton.mp hx]; exact .int _
    · exact .shr (sD _ _ _ (sC _ _ gB))
    · exact .lst (sD _ _ _ gC) la
abbrev s_things : Stmt := top 46
theorem sc_things : FnScope ["_law_size"] ["_law_size"] (defScope s_things) := ⟨rfl, rfl, rfl, by decide +kernel, rfl, by decide +kernel, by decide +kernel⟩
theorem ok_things {f : Addr} {fd : FuncData} (F : Fun K "_law_things" "_law_things" s_things f fd) : FnOk P w K mg base CX0 1 f fd ["_law_size"] (spThings S) := by
  refine F.ok sc_things (fun vs H Q E h => ?_) (fun cdv A outer s H vs Q E hr h => ?_)
  · obtain ⟨i, a, rfl, _⟩ := h
    rfl
  · obtain ⟨i, a, rfl, hp, k⟩ := h
    refine ⟨_, (pss_one (ps_ret (pe_tup (pa_cons (pe_tup (pa_cons pe_int pa_nil)) (pa_cons (pe_tup (pa_cons pe_int (pa_cons pe_int (pa_cons pe_int pa_nil)))) (pa_cons (pe_lst (pa_cons pe_int (pa_cons pe_int pa_nil))) (pa_cons pe_str (pa_cons pe_non (pa_cons pe_int (pa_cons (pe_tup pa_nil) (pa_cons (pe_tup (pa_cons pe_int (pa_cons pe_non pa_nil))) (pa_cons (pe_tup (pa_cons pe_bl (pa_cons pe_int pa_nil))) (pa_cons (pe_tup (pa_cons pe_int (pa_cons pe_bl pa_nil))) (pa_cons (pe_tup (pa_cons pe_int (pa_cons (pv 0) pa_nil))) (pa_cons (pe_tup (pa_cons (pe_un un_neg pe_int) (pa_cons pe_int pa_nil))) (pa_cons (pe_disp (pps_cons pe_int pe_int pps_nil) (by rfl) (by rfl) (fun z => by cases z) (by decide)) pa_nil)))))))))))))))), ?_⟩
    refine ⟨by show 1 ≤ sizeLine; decide, fun t1 nt1 => ?_⟩
    have s1 := Same.put (o := .tup [.int 0]) nt1
    have i1 : Itm S a (upd H t1 (.tup [.int 0])) (.ref t1) := .tup upd_same (scs_cons (.int _) scs_nil)
    have q1 := hp.same s1
    have S1 := s1
    generalize (upd H t1 (.tup [.int 0])) = H1 at s1 q1 S1 i1 ⊢
    refine ⟨by show 3 ≤ sizeLine; decide, fun t2 nt2 => ?_⟩
    have s2 := Same.put (o := .tup [.int 0, .int 0, .int 0]) nt2
    have i1 := i1.same s2
    have i2 : Itm S a (upd H1 t2 (.tup [.int 0, .int 0, .int 0])) (.ref t2) := .tup upd_same (scs_cons (.int _) (scs_cons (.int _) (scs_cons (.int _) scs_nil)))
    have q2 := q1.same s2
    have S2 := S1.trans s2
    generalize (upd H1 t2 (.tup [.int 0, .int 0, .int 0])) = H2 at s2 q2 S2 i1 i2 ⊢
    refine ⟨by show 2 ≤ sizeLine; decide, fun t3 nt3 => ?_⟩
    have s3 := Same.put (o := .lst [.int 0, .int 0]) nt3
    have i1 := i1.same s3
    have i2 := i2.same s3
    have i3 : Itm S a (upd H2 t3 (.lst [.int 0, .int 0])) (.ref t3) := .lst upd_same (new_ne q2 nt3)
    have q3 := q2.same s3
    have S3 := S2.trans s3
    generalize (upd H2 t3 (.lst [.int 0, .int 0])) = H3 at s3 q3 S3 i1 i2 i3 ⊢
    refine ⟨by show 0 ≤ sizeLine; decide, fun t4 nt4 => ?_⟩
    have s4 := Same.put (o := .tup []) nt4
    have i1 := i1.same s4
    have i2 := i2.same s4
    have i3 := i3.same s4
    have i4 : Itm S a (upd H3 t4 (.tup [])) (.ref t4) := .tup upd_same scs_nil
    have q4 := q3.same s4
    have S4 := S3.trans s4
    generalize (upd H3 t4 (.tup [])) = H4 at s4 q4 S4 i1 i2 i3 i4 ⊢
    refine ⟨by show 2 ≤ sizeLine; decide, fun t5 nt5 => ?_⟩
    have s5 := Same.put (o := .tup [.int 0, .non]) nt5
    have i1 := i1.same s5
    have i2 := i2.same s5
    have i3 := i3.same s5
    have i4 := i4.same s5
    have i5 : Itm S a (upd H4 t5 (.tup [.int 0, .non])) (.ref t5) := .tup upd_same (scs_cons (.int _) (scs_cons (.non) scs_nil))
    have q5 := q4.same s5
    have S5 := S4.trans s5
    generalize (upd H4 t5 (.tup [.int 0, .non])) = H5 at s5 q5 S5 i1 i2 i3 i4 i5 ⊢
    refine ⟨by show 2 ≤ sizeLine; decide, fun t6 nt6 => ?_⟩
    have s6 := Same.put (o := .tup [.bl true, .int 0]) nt6
    have i1 := i1.same s6
    have i2 := i2.same s6
    have i3 := i3.same s6
    have i4 := i4.same s6
    have i5 := i5.same s6
    have i6 : Itm S a (upd H5 t6 (.tup [.bl true, .int 0])) (.ref t6) := .tup upd_same (scs_cons (.bl _) (scs_cons (.int _) scs_nil))
    have q6 := q5.same s6
    have S6 := S5.trans s6
    generalize (upd H5 t6 (.tup [.bl true, .int 0])) = H6 at s6 q6 S6 i1 i2 i3 i4 i5 i6 ⊢
    refine ⟨by show 2 ≤ sizeLine; decide, fun t7 nt7 => ?_⟩
    have s7 := Same.put (o := .tup [.int 0, .bl false]) nt7
    have i1 := i1.same s7
    have i2 := i2.same s7
    have i3 := i3.same s7
    have i4 := i4.same s7
    have i5 := i5.same s7
    have i6 := i6.same s7
    have i7 : Itm S a (upd H6 t7 (.tup [.int 0, .bl false])) (.ref t7) := .tup upd_same (scs_cons (.int _) (scs_cons (.bl _) scs_nil))
    have q7 := q6.same s7
    have S7 := S6.trans s7
    generalize (upd H6 t7 (.tup [.int 0, .bl false])) = H7 at s7 q7 S7 i1 i2 i3 i4 i5 i6 i7 ⊢
    refine ⟨_, rfl, by show 2 ≤ sizeLine; decide, fun t8 nt8 => ?_⟩
    have s8 := Same.put (o := .tup [.int 0, .int i]) nt8
    have i1 := i1.same s8
    have i2 := i2.same s8
    have i3 := i3.same s8
    have i4 := i4.same s8
    have i5 := i5.same s8
    have i6 := i6.same s8
    have i7 := i7.same s8
    have i8 : Itm S a (upd H7 t8 (.tup [.int 0, .int i])) (.ref t8) := .tup upd_same (scs_cons (.int _) (scs_cons (.int _) scs_nil))
    have q8 := q7.same s8
    have S8 := S7.trans s8
    generalize (upd H7 t8 (.tup [.int 0, .int i])) = H8 at s8 q8 S8 i1 i2 i3 i4 i5 i6 i7 i8 ⊢
    refine ⟨1, rfl, by show 2 ≤ sizeLine; decide, fun t9 nt9 => ?_⟩
    have s9 := Same.put (o := .tup [.int (-1), .int 0]) nt9
    have i1 := i1.same s9
    have i2 := i2.same s9
    have i3 := i3.same s9
    have i4 := i4.same s9
    have i5 := i5.same s9
    have i6 := i6.same s9
    have i7 := i7.same s9
    have i8 := i8.same s9
    have i9 : Itm S a (upd H8 t9 (.tup [.int (-1), .int 0])) (.ref t9) := .tup upd_same (scs_cons (.int _) (scs_cons (.int _) scs_nil))
    have q9 := q8.same s9
    have S9 := S8.trans s9
    generalize (upd H8 t9 (.tup [.int (-1), .int 0])) = H9 at s9 q9 S9 i1 i2 i3 i4 i5 i6 i7 i8 i9 ⊢
    refine fun d nd => ⟨upd_same, [(Sum.inl 0, V.int 0)], rfl, by decide, ?_⟩
    rw [upd_upd]
    have sd := Same.put (o := .dK (mergeK [] [(Sum.inl 0, V.int 0)])) nd
    have idd : Itm S a (upd H9 d (.dK (mergeK [] [(Sum.inl 0, V.int 0)]))) (.ref d) := .dK upd_same
    have i1 := i1.same sd
    have i2 := i2.same sd
    have i3 := i3.same sd
    have i4 := i4.same sd
    have i5 := i5.same sd
    have i6 := i6.same sd
    have i7 := i7.same sd
    have i8 := i8.same sd
    have i9 := i9.same sd
    have Sd := S9.trans sd
    generalize (upd H9 d (.dK (mergeK [] [(Sum.inl 0, V.int 0)]))) = Hd at sd Sd idd i1 i2 i3 i4 i5 i6 i7 i8 i9 ⊢
    refine ⟨by show 13 ≤ sizeLine; decide, fun c nc => ?_⟩
    have sc := fun o => Same.put (o := o) nc
    refine k c _ _ (Sd.trans (sc _)) upd_same (by show 0 < 13; decide) (by show 13 ≤ 200; decide) fun y hy => ?_
    simp only [List.mem_cons, List.not_mem_nil, or_false] at hy
    rcases hy with rfl | rfl | rfl | rfl | rfl | rfl | rfl | rfl | rfl | rfl | rfl | rfl | rfl
    · exact i1.same (sc _)
    · exact i2.same (sc _)
    · exact i3.same (sc _)
    · exact .sc (.str _)
    · exact .sc (.non)
    · exact .sc (.int _)
    · exact i4.same (sc _)
    · exact i5.same (sc _)
    · exact i6.same (sc _)
    · exact i7.same (sc _)
    · exact i8.same (sc _)
    · exact i9.same (sc _)
    · exact idd.same (sc _)
end
end K6

set_option Elab.async false
set_option linter.all false
set_option maxRecDepth 100000
set_option maxHeartbeats 4000000
namespace K6
open PySem L2
/-- _law_spoiled(pool, size, pairs) -/
def spSpoiled (S : Addr) : Sp := fun vs H Q _ => ∃ (a l : Addr) (n : Nat) (ts : List Pt), vs = [.ref a, .int (n : Int), .ref l] ∧ PoolAt H a ∧ 1 ≤ n ∧ n ≤ 8 ∧ H l = some (.lst (rfs ts)) ∧ Pts H ts ∧ ts.length ≤ 140 ∧ (∀ t ∈ ts, t.2.1 < n ∧ t.2.2 < n) ∧
  ∀ (r : Addr) (xs : List V) (H' : Hp), Keep a H H' → PoolAt H' a → r ≠ a → H' r = some (.lst xs) → xs.length ≤ ts.length + 1 → (∀ y ∈ xs, Itm S a H' y) → Q (.ref r) H'
theorem cut_len (xs : List V) (lo hi : Option Int) : (cutV xs lo hi).length ≤ xs.length ∧ ∀ y ∈ cutV xs lo hi, y ∈ xs := by
  unfold cutV
  refine ⟨?_, fun u m => List.mem_of_mem_drop (List.mem_of_mem_take m)⟩
  rw [List.length_take, List.length_drop]
  omega
theorem cut_lo (xs : List V) (j : Nat) : (cutV xs none (some (j : Int))).length = min j xs.length := by
  unfold cutV
  rw [HT.sIx_nat, HT.sIx_none, List.length_take, List.length_drop]
  omega
theorem cut_hi (xs : List V) (j : Nat) : (cutV xs (some (j : Int)) none).length = xs.length - min j xs.length := by
  unfold cutV
  rw [HT.sIx_nat, HT.sIx_none, List.length_take, List.length_drop]
  omega
section
variable {P : Program} {w : World} {K : PySem.W.Frag} {mg : Str → Option Value} {base : Heap} {C S B : Addr}
abbrev s_spoiled : Stmt := top 47
abbrev nSp : List Str := ["_law_pool_here", "_law_size", "_law_pairs_here", "_law_found", "_law_way", "_law_at", "_law_thing", "_law_first", "_law_table_here", "_law_t"]
theorem sc_spoiled : FnScope nSp ["_law_pool_here", "_law_size", "_law_pairs_here"] (defScope s_spoiled) := ⟨rfl, rfl, rfl, by decide +kernel, rfl, by decide +kernel, by decide +kernel⟩
abbrev XS (P : Program) (w : World) (K : PySem.W.Frag) (mg : Str → Option Value) (base : Heap) (f : Addr) (cdv : Value) (A : Around) (outer : List Env) (s : Shared) (H : Hp) (E : XK) : Cx :=
  (cxOf CX0 P w K mg base nSp "_law_spoiled" (defScope s_spoiled) f cdv A outer s H E).nox
theorem segSp {f : Addr} {cdv : Value} {A : Around} {outer : List Env} {s : Shared} {H : Hp} {E : XK} {Q : VK} :
    ∃ u, PSs (XS P w K mg base f cdv A outer s H E) ((defBody s_spoiled).drop 5) u ∧ ∀ (a l r : Addr) (n : Int) (wy at' : Int) (ts : List Pt) (x : V) (G : Hp) (v7 v8 : Option V), 0 ≤ at' → Itm S a G x → PoolAt G a → G r = some (.lst (rfs ts)) → Pts G ts → ts.length ≤ 180 →
      (∀ (c : Addr) (xs : List V) (H' : Hp), Same G H' → c ≠ a → H' c = some (.lst xs) → xs.length ≤ ts.length + 1 → (∀ y ∈ xs, Itm S a H' y) → Q (.ref c) H') →
      u { nx := fun _ H' => Q .non H', rt := Q } [some (.ref a), some (.int n), some (.ref l), some (.ref r), some (.int wy), some (.int at'), some x, v7, v8, none] G := by
  refine ⟨_, (pss_one (ps_ret (pe_op op_cat (pe_op op_cat (pe_slice sl_list (pv 3) po_none (po_some (pv 5))) (pe_lst (pa_cons (pv 6) pa_nil))) (pe_slice sl_list (pv 3) (po_some (pv 5)) po_none)))), ?_⟩
  intro a l r n wy at' ts x G v7 v8 a0 ix hp er pt len k
  obtain ⟨j, rfl⟩ : ∃ j : Nat, at' = (j : Int) := ⟨at'.toNat, by omega⟩
  refine ⟨_, rfl, _, rfl, _, rfl, r, _, rfl, SqL.of er, fun b1 nb1 => ?_⟩
  have l1 := cut_lo (rfs ts) j
  have l2 := cut_hi (rfs ts) j
  have m1 := (cut_len (rfs ts) none (some (j : Int))).2
  have m2 := (cut_len (rfs ts) (some (j : Int)) none).2
  rw [rfs_len] at l1 l2
  generalize (cutV (rfs ts) none (some (j : Int))) = c1 at l1 m1 ⊢
  have sA := Same.put (o := .lst c1) nb1
  have eA : (upd G b1 (.lst c1)) b1 = some (.lst c1) := upd_same
  generalize (upd G b1 (.lst c1)) = G1 at sA eA ⊢
  refine ⟨_, rfl, by show 1 ≤ sizeLine; decide, fun b2 nb2 => ?_⟩
  have sB := Same.put (o := .lst [x]) nb2
  have eB : (upd G1 b2 (.lst [x])) b2 = some (.lst [x]) := upd_same
  have eA := sB _ _ eA
  generalize (upd G1 b2 (.lst [x])) = G2 at sB eB eA ⊢
  refine ⟨b1, b2, _, _, rfl, rfl, eA, eB, ?_, fun b3 nb3 => ?_⟩
  · show c1.length + 1 ≤ sizeLine
    exact Nat.le_of_lt (small_len (by omega))
  have sC := Same.put (o := .lst (c1 ++ [x])) nb3
  have eC : (upd G2 b3 (.lst (c1 ++ [x]))) b3 = some (.lst (c1 ++ [x])) := upd_same
  generalize (upd G2 b3 (.lst (c1 ++ [x]))) = G3 at sC eC ⊢
  have s3 := (sA.trans sB).trans sC
  refine ⟨_, rfl, _, rfl, _, rfl, r, _, rfl, SqL.of (s3 _ _ er), fun b4 nb4 => ?_⟩
  generalize (cutV (rfs ts) (some (j : Int)) none) = c2 at l2 m2 ⊢
  have sD := Same.put (o := .lst c2) nb4
  have eD : (upd G3 b4 (.lst c2)) b4 = some (.lst c2) := upd_same
  have eC := sD _ _ eC
  generalize (upd G3 b4 (.lst c2)) = G4 at sD eD eC ⊢
  refine ⟨b3, b4, _, _, rfl, rfl, eC, eD, ?_, fun b5 nb5 => ?_⟩
  · rw [List.length_append]
    show c1.length + 1 + c2.length ≤ sizeLine
    exact Nat.le_of_lt (small_len (by omega))
  have sE := Same.put (o := .lst (c1 ++ [x] ++ c2)) nb5
  have s5 := (s3.trans sD).trans sE
  have pi := pts_itm (S := S) (a := a) (pt.same s5)
  refine k b5 _ _ s5 (new_ne (hp.same (s3.trans sD)) nb5) upd_same ?_ fun y hy => ?_
  · rw [List.length_append, List.length_append]
    show c1.length + 1 + c2.length ≤ ts.length + 1
    omega
  · rcases List.mem_append.mp hy with hy | hy
    · rcases List.mem_append.mp hy with hy | hy
      · exact pi y (m1 y hy)
      · rw [List.mem_singleton.mp hy]
        exact ix.same s5
    · exact pi y (m2 y hy)
theorem ok_spoiled {f : Addr} {fd : FuncData} (F : Fun K "_law_spoiled" "_law_spoiled" s_spoiled f fd) (T : Bn mg) (c_draw : Cal P w K mg base 1 "_law_draw" ["_law_pool_here", "_law_many"] spDraw) (c_pick : Cal P w K mg base 2 "_law_pick" ["_law_pool_here", "_law_things_here"] spPick)
    (c_table : Cal P w K mg base 2 "_law_table" ["_law_size", "_law_pairs_here"] spTable) (c_things : Cal P w K mg base 1 "_law_things" ["_law_size"] (spThings S)) : FnOk P w K mg base CX0 3 f fd ["_law_pool_here", "_law_size", "_law_pairs_here"] (spSpoiled S) := by
  refine F.ok sc_spoiled (fun vs H Q E h => ?_) (fun cdv A outer s H vs Q E hr h => ?_)
  · obtain ⟨a, l, n, ts, rfl, _⟩ := h
    rfl
  · obtain ⟨a, l, n, ts, rfl, hp, n1, n8, el, pt, hlen, hlt, k⟩ := h
    obtain ⟨uE, hu, qu⟩ := segSp (S := S) (P := P) (w := w) (K := K) (mg := mg) (base := base) (f := f) (cdv := cdv) (A := A) (outer := outer) (s := s) (H := H) (E := E) (Q := Q)
    refine ⟨_, (pss_cons (ps_set (i := 3) sc_spoiled.nd rfl (Or.inl rfl) (pe_callTy call_list_of (by rfl) T.n_list (by decide +kernel) (pa_cons (pv 2) pa_nil)))
      (pss_cons (ps_set (i := 4) sc_spoiled.nd rfl (Or.inl rfl) (pe_cal c_draw (hr.mono (by decide)) rfl (pa_cons (pv 0) (pa_cons pe_int pa_nil))))
      (pss_cons (ps_set (i := 5) sc_spoiled.nd rfl (Or.inl rfl) (pe_cal c_draw (hr.mono (by decide)) rfl (pa_cons (pv 0) (pa_cons (pe_op op_add (pe_callB call_len_seq (by rfl) T.n_len PySem.boot_len (pa_cons (pv 3) pa_nil)) pe_int) pa_nil))))
      (pss_cons (ps_set (i := 6) sc_spoiled.nd rfl (Or.inl rfl) (pe_tup (pa_cons (pe_cal c_draw (hr.mono (by decide)) rfl (pa_cons (pv 0) (pa_cons (pv 1) pa_nil))) (pa_cons (pe_cal c_draw (hr.mono (by decide)) rfl (pa_cons (pv 0) (pa_cons (pv 1) pa_nil))) pa_nil))))
      (pss_cons (ps_if (pt_cmpR op_eq (pv 4) pe_int (nomark _))
        (pss_one (ps_set (i := 6) sc_spoiled.nd rfl (Or.inl rfl) (pe_cal c_pick (hr.mono (by decide)) rfl (pa_cons (pv 0) (pa_cons (pe_cal c_things (hr.mono (by decide)) rfl (pa_cons (pv 1) pa_nil)) pa_nil)))))
        (pss_one (ps_if (PW.pt (pw_and (pt_cmpR op_eq (pv 4) pe_int (nomark _)) (pw_and1 (pt_cmpR op_gt (pe_callB call_len_seq (by rfl) T.n_len PySem.boot_len (pa_cons (pv 2) pa_nil)) pe_int (nomark _)))))
          (pss_cons (ps_set (i := 7) sc_spoiled.nd rfl (Or.inr rfl) (pe_cal c_pick (hr.mono (by decide)) rfl (pa_cons (pv 0) (pa_cons (pv 2) pa_nil))))
            (pss_cons (ps_set (i := 8) sc_spoiled.nd rfl (Or.inr rfl) (pe_cal c_table (hr.mono (by decide)) rfl (pa_cons (pv 1) (pa_cons (pv 2) pa_nil))))
            (pss_one (ps_set (i := 6) sc_spoiled.nd rfl (Or.inl rfl) (pe_tup (pa_cons (pe_cal c_pick (hr.mono (by decide)) rfl (pa_cons (pv 0) (pa_cons (pe_lc (own := [("_law_t", 9)]) rfl sc_spoiled.nd (pi_range1 (by rfl) T.n_range (pa_cons (pv 1) pa_nil)) (blkOk_by (N := nSp) (sc := defScope s_spoiled) (by decide +kernel)) (fun _ _ _ _ _ => (pg_name (i := 9) sc_spoiled.nd rfl (Or.inl rfl))) (fun _ _ _ _ _ => (pts_one (pt_val (pe_ix (show IxR _ (rIxL K) from ix_list) (pe_ix (show IxR _ (rIxL K) from ix_list) (pv 8) (pe_ix (show IxR _ (rIxT K) from ix_tup) (pv 7) pe_int (fun _ _ => rfl)) (fun _ _ => rfl)) (pv 9) (fun _ _ => rfl))))) (fun _ _ _ _ _ => (pv 9))) pa_nil))) (pa_cons (pe_ix ix_tup (pv 7) pe_int (fun _ _ => rfl)) pa_nil)))))))
          (pss_one (ps_if (pt_cmpR op_eq (pv 4) pe_int (nomark _))
            (pss_one (ps_set (i := 6) sc_spoiled.nd rfl (Or.inl rfl) (pe_tup (pa_cons (pe_ix ix_tup (pv 6) pe_int (fun _ _ => rfl)) (pa_cons (pe_ix ix_tup (pv 6) pe_int (fun _ _ => rfl)) pa_nil)))))
            (pss_one (ps_if (pt_cmpR op_eq (pv 4) pe_int (nomark _))
              (pss_one (ps_set (i := 6) sc_spoiled.nd rfl (Or.inl rfl) (pe_tup (pa_cons (pe_ix ix_tup (pv 6) pe_int (fun _ _ => rfl)) (pa_cons (pe_op op_add (pe_ix ix_tup (pv 6) pe_int (fun _ _ => rfl)) (pe_op op_mul (pv 1) (pe_cal c_draw (hr.mono (by decide)) rfl (pa_cons (pv 0) (pa_cons pe_int pa_nil))))) pa_nil)))))
              pss_nil)))))))
      hu))))), ?_⟩
    refine ⟨_, rfl, l, _, rfl, .inl (SqL.of el), fun r nr => ?_⟩
    have s1 := Same.put (o := .lst (rfs ts)) nr
    have er : (upd H r (.lst (rfs ts))) r = some (.lst (rfs ts)) := upd_same
    have p1 := hp.same s1
    have pt1 := pt.same s1
    have el1 := s1 _ _ el
    have kA : Keep a H (upd H r (.lst (rfs ts))) := Keep.of s1
    generalize (upd H r (.lst (rfs ts))) = H1 at er p1 pt1 el1 kA ⊢
    clear s1
    -- the way, the place, two numbers
    have drw : ∀ {G : Hp} (_ : PoolAt G a) (_ : Keep a H G) (_ : G r = some (.lst (rfs ts))) (_ : Pts G ts) (_ : G l = some (.lst (rfs ts))) {o : HO}, PoolL o →
        PoolAt (upd G a o) a ∧ Keep a H (upd G a o) ∧ (upd G a o) r = some (.lst (rfs ts)) ∧ Pts (upd G a o) ts ∧ (upd G a o) l = some (.lst (rfs ts)) := by
      intro G hp hk hr hpt hl o ho
      have kP := Keep.put (a := a) (H := G) o
      exact ⟨.put ho, hk.trans kP, kP _ _ hr (hp.neR hr), hpt.keep kP hp, kP _ _ hl (hp.neR hl)⟩
    refine ⟨_, rfl, a, 5, rfl, p1, by decide, by decide, fun wy o1 w0 w1 ho1 => ?_⟩
    obtain ⟨p2, k2, er2, pt2, el2⟩ := drw p1 kA er pt1 el1 ho1
    generalize (upd H1 a o1) = H2 at p2 k2 er2 pt2 el2 ⊢
    clear p1 kA er pt1 el1
    refine ⟨_, rfl, _, rfl, r, _, rfl, .inl (SqL.of er2), _, _, rfl, rfl, a, _, rfl, p2, by rw [rfs_len]; omega, log_small (b := 10) (by rw [rfs_len]; show ((ts.length : Int) + 1).natAbs < 2 ^ 10; omega) (by decide) (by decide), fun at' o2 a0 a1 ho2 => ?_⟩
    obtain ⟨p3, k3, er3, pt3, el3⟩ := drw p2 k2 er2 pt2 el2 ho2
    generalize (upd H2 a o2) = H3 at p3 k3 er3 pt3 el3 ⊢
    clear p2 k2 er2 pt2 el2
    rw [rfs_len] at a1
    have nsm : ((n : Int)).natAbs.log2 < 9000 := log_small (b := 10) (by show ((n : Int)).natAbs < 2 ^ 10; omega) (by decide) (by decide)
    refine ⟨_, rfl, _, rfl, a, (n : Int), rfl, p3, by omega, nsm, fun u o3 u0 u1 ho3 => ?_⟩
    obtain ⟨p4, k4, er4, pt4, el4⟩ := drw p3 k3 er3 pt3 el3 ho3
    generalize (upd H3 a o3) = H4 at p4 k4 er4 pt4 el4 ⊢
    clear p3 k3 er3 pt3 el3
    refine ⟨_, rfl, _, rfl, a, (n : Int), rfl, p4, by omega, nsm, fun v o4 v0 v1 ho4 => ?_⟩
    obtain ⟨p5, k5, er5, pt5, el5⟩ := drw p4 k4 er4 pt4 el4 ho4
    generalize (upd H4 a o4) = H5 at p5 k5 er5 pt5 el5 ⊢
    clear p4 k4 er4 pt4 el4
    refine ⟨by show 2 ≤ sizeLine; decide, fun th nth => ?_⟩
    have s6 := Same.put (o := .tup [.int u, .int v]) nth
    have eth : (upd H5 th (.tup [.int u, .int v])) th = some (.tup [.int u, .int v]) := upd_same
    have p6 := p5.same s6
    have k6 := k5.trans (Keep.of s6)
    have er6 := s6 _ _ er5
    have el6 := s6 _ _ el5
    have pt6 := pt5.same s6
    generalize (upd H5 th (.tup [.int u, .int v])) = H6 at eth p6 k6 er6 el6 pt6 ⊢
    clear s6 p5 k5 er5 el5 pt5 nth
    -- the end
    have fin : ∀ (x : V) (G : Hp) (v7 v8 : Option V), Itm S a G x → PoolAt G a → Keep a H G → G r = some (.lst (rfs ts)) → Pts G ts →
        uE { nx := fun _ H' => Q .non H', rt := Q } [some (.ref a), some (.int (n : Int)), some (.ref l), some (.ref r), some (.int wy), some (.int at'), some x, v7, v8, none] G :=
      fun x G v7 v8 ix hpG kG eG ptG => qu a l r (n : Int) wy at' ts x G v7 v8 a0 ix hpG eG ptG (by omega) fun c xs H' s ne e len it => k c xs H' (kG.trans (Keep.of s)) (hpG.same s) ne e len it
    have two : ∀ (x y : Int) (G : Hp) (v7 v8 : Option V) (c : Addr), G c = none → PoolAt G a → Keep a H G → G r = some (.lst (rfs ts)) → Pts G ts →
        uE { nx := fun _ H' => Q .non H', rt := Q } [some (.ref a), some (.int (n : Int)), some (.ref l), some (.ref r), some (.int wy), some (.int at'), some (.ref c), v7, v8, none] (upd G c (.tup [.int x, .int y])) := by
      intro x y G v7 v8 c nc hpG kG eG ptG
      have sC := Same.put (o := .tup [.int x, .int y]) nc
      exact fin _ _ v7 v8 (.tup upd_same (scs_cons (.int _) (scs_cons (.int _) scs_nil))) (hpG.same sC) (kG.trans (Keep.of sC)) (sC _ _ eG) (ptG.same sC)
    have hw : wy = 0 ∨ wy = 1 ∨ wy = 2 ∨ wy = 3 ∨ wy = 4 := by omega
    rcases hw with rfl | rfl | rfl | rfl | rfl
    · -- a strange thing
      refine ⟨_, rfl, rfl, _, rfl, iteT ?_⟩
      refine ⟨_, rfl, _, rfl, (n : Int), a, rfl, p6, fun c xs G sG ec c0 c1 it => ?_⟩
      have pG := p6.same sG
      refine ⟨a, c, xs, rfl, pG, .inr ec, pG.ne ec, c0, c1, fun x o hx ho => ?_⟩
      obtain ⟨p7, k7, er7, pt7, el7⟩ := drw pG (k6.trans (Keep.of sG)) (sG _ _ er6) (pt6.same sG) (sG _ _ el6) ho
      exact fin x _ none none ((it x hx).keep (Keep.put o) pG) p7 k7 er7 pt7
    · -- a pair that turns a chain of pairs about
      refine ⟨_, rfl, rfl, _, rfl, iteF ?_⟩
      refine ⟨_, rfl, rfl, _, rfl, iteT ?_⟩
      refine ⟨_, rfl, l, _, rfl, .inl (SqL.of el6), _, _, rfl, rfl, _, rfl, iteB (fun z => ?_) (fun z => ?_)⟩
      · have z : 0 < ts.length := by
          have := of_decide_eq_true z
          rw [rfs_len] at this
          omega
        refine ⟨_, rfl, _, rfl, a, l, rfs ts, rfl, p6, .inl el6, p6.neR el6, by rw [rfs_len]; omega, by rw [rfs_len]; omega, fun x o hx ho => ?_⟩
        obtain ⟨t, mt, rfl⟩ := List.mem_map.mp hx
        obtain ⟨t1, t2⟩ := hlt t mt
        obtain ⟨p7, k7, er7, pt7, el7⟩ := drw p6 k6 er6 pt6 el6 ho
        generalize (upd H6 a o) = H7 at p7 k7 er7 pt7 el7 ⊢
        clear p6 k6 er6 pt6 el6 eth
        refine ⟨_, rfl, _, rfl, n, l, ts, rfl, n8, .inl el7, pt7, fun tb H8 s8 _ tab => ?_⟩
        have p8 := p7.same s8
        have k8 := k7.trans (Keep.of s8)
        have er8 := s8 _ _ er7
        have pt8 := pt7.same s8
        generalize hR : wars (orEq (memR (ts.map (·.2)))) n = R at tab
        have self : R t.2.2 t.2.2 = true := by
          rw [← hR]
          exact wars_old (orEq_iff.mpr (.inl rfl)) n
        clear p7 k7 er7 pt7 el7 s8
        refine ⟨_, rfl, _, rfl, _, rfl, by omega, by omega, fun D nD => ?_⟩
        rw [Int.toNat_natCast]
        refine lc_range (fun j H' => Same H8 H' ∧ H' D = some (.lst (cV ((List.range j).filter (R t.2.2))))) ⟨Same.put nD, upd_same⟩ ?_ ?_
        · rintro j H' hj ⟨s9, eD⟩
          rw [Int.zero_add]
          obtain ⟨rows, r1, r2, r3⟩ := tab.same s9
          have hrow : rows[t.2.2]? = some rows[t.2.2] := List.getElem?_eq_getElem (by omega)
          refine ⟨rfl, ?_⟩
          refine ⟨_, rfl, _, rfl, t.1, _, _, _, rfl, rfl, SqT.of (s9 _ _ (pt8 t mt)), at1, tb, _, _, _, rfl, rfl, SqL.of r1, atI_nat (by rw [List.getElem?_map, hrow]; rfl), ?_⟩
          refine ⟨_, rfl, rows[t.2.2], _, _, _, rfl, rfl, SqL.of (r3 _ _ hrow), atI_nat (rowV_at hj), _, rfl, iteB (fun z => ?_) (fun z => ?_)⟩
          · refine ⟨_, rfl, _, eD, ?_, Same.but (fun b u e => s9 _ _ e) nD, ?_⟩
            · rw [List.length_map]
              have := List.length_filter_le (R t.2.2) (List.range j)
              rw [List.length_range] at this
              exact small_len (by omega)
            · rw [upd_same, List.range_succ, List.filter_append, List.filter_cons, z]
              simp
          · refine ⟨s9, ?_⟩
            rw [List.range_succ, List.filter_append, List.filter_cons, z]
            simpa using eD
        rintro H9 ⟨s9, eD⟩
        have p9 := p8.same s9
        have k9 := k8.trans (Keep.of s9)
        have er9 := s9 _ _ er8
        have pt9 := pt8.same s9
        have Da := new_ne p8 nD
        have pos0 : 0 < (cV ((List.range n).filter (R t.2.2))).length := by
          rw [List.length_map]
          exact List.length_pos_of_mem (List.mem_filter.mpr ⟨List.mem_range.mpr t2, self⟩)
        have le0 : (cV ((List.range n).filter (R t.2.2))).length ≤ 200 := by
          rw [List.length_map]
          have := List.length_filter_le (R t.2.2) (List.range n)
          rw [List.length_range] at this
          omega
        clear p8 k8 er8 pt8 s9 nD
        refine ⟨a, D, _, rfl, p9, .inl eD, Da, pos0, le0, fun x o3 hx ho3 => ?_⟩
        obtain ⟨v2, hv, rfl⟩ := List.mem_map.mp hx
        have kP := Keep.put (a := a) (H := H9) o3
        have p10 : PoolAt (upd H9 a o3) a := .put ho3
        have k10 := k9.trans kP
        have er10 := kP _ _ er9 (p9.neR er9)
        have pt10 := pt9.keep kP p9
        generalize (upd H9 a o3) = H10 at p10 k10 er10 pt10 ⊢
        refine ⟨_, rfl, t.1, _, _, _, rfl, rfl, SqT.of (pt10 t mt), at0, by show 2 ≤ sizeLine; decide, fun c nc => ?_⟩
        exact two _ _ _ _ _ c nc p10 k10 er10 pt10
      · refine ⟨_, rfl, rfl, _, rfl, iteF ?_⟩
        refine ⟨_, rfl, rfl, _, rfl, iteF ?_⟩
        exact fin _ _ none none (.tup eth (scs_cons (.int _) (scs_cons (.int _) scs_nil))) p6 k6 er6 pt6
    · -- a state with itself
      refine ⟨_, rfl, rfl, _, rfl, iteF ?_⟩
      refine ⟨_, rfl, rfl, _, rfl, iteF ?_⟩
      refine ⟨_, rfl, rfl, _, rfl, iteT ?_⟩
      refine ⟨_, rfl, th, _, _, _, rfl, rfl, SqT.of eth, at0, ?_⟩
      refine ⟨_, rfl, th, _, _, _, rfl, rfl, SqT.of eth, at0, by show 2 ≤ sizeLine; decide, fun c nc => ?_⟩
      exact two _ _ _ _ _ c nc p6 k6 er6 pt6
    · -- a wrong index
      refine ⟨_, rfl, rfl, _, rfl, iteF ?_⟩
      refine ⟨_, rfl, rfl, _, rfl, iteF ?_⟩
      refine ⟨_, rfl, rfl, _, rfl, iteF ?_⟩
      refine ⟨_, rfl, rfl, _, rfl, iteT ?_⟩
      refine ⟨_, rfl, th, _, _, _, rfl, rfl, SqT.of eth, at0, ?_⟩
      refine ⟨_, rfl, th, _, _, _, rfl, rfl, SqT.of eth, at1, _, rfl, _, rfl, a, 2, rfl, p6, by decide, by decide, fun g o g0 g1 ho => ?_⟩
      obtain ⟨p7, k7, er7, pt7, el7⟩ := drw p6 k6 er6 pt6 el6 ho
      generalize (upd H6 a o) = H7 at p7 k7 er7 pt7 el7 ⊢
      refine ⟨_, _, rfl, rfl, .inl ⟨by omega, by omega⟩, _, _, rfl, rfl, by show 2 ≤ sizeLine; decide, fun c nc => ?_⟩
      exact two _ _ _ _ _ c nc p7 k7 er7 pt7
    · -- none of these
      refine ⟨_, rfl, rfl, _, rfl, iteF ?_⟩
      refine ⟨_, rfl, rfl, _, rfl, iteF ?_⟩
      refine ⟨_, rfl, rfl, _, rfl, iteF ?_⟩
      refine ⟨_, rfl, rfl, _, rfl, iteF ?_⟩
      exact fin _ _ none none (.tup eth (scs_cons (.int _) (scs_cons (.int _) scs_nil))) p6 k6 er6 pt6
end
end K6

set_option Elab.async false
set_option linter.all false
set_option maxRecDepth 100000
set_option maxHeartbeats 4000000
namespace K6
open PySem L2
/-! ### the law's second half, put together -/
structure LawB (P : Program) (w : World) (K : PySem.W.Frag) (mg : Str → Option Value) (base : Heap) (S C B : Addr) : Prop where
  T : OrT K mg C
  ms : MkS P w K mg base S
  pool : Cal P w K mg base 1 "_law_pool" ["_law_script"] (spPool K)
  draw : Cal P w K mg base 1 "_law_draw" ["_law_pool_here", "_law_many"] spDraw
  pick : Cal P w K mg base 2 "_law_pick" ["_law_pool_here", "_law_things_here"] spPick
  ordps : Cal P w K mg base 3 "_law_order_pairs" ["_law_pool_here", "_law_size"] spOrdPs
  right : Cal P w K mg base 8 "_law_is_right" ["_law_size", "_law_pairs_here"] (spRight S)
  spoiled : Cal P w K mg base 3 "_law_spoiled" ["_law_pool_here", "_law_size", "_law_pairs_here"] (spSpoiled S)
  isp : Cal P w K mg base 2 "_law_is_pair" ["_law_size", "_law_thing"] (spIsPair S)
  isz : Cal P w K mg base 2 "_law_is_size" ["_law_thing"] (spIsSize S)
  sizes : Cal P w K mg base 6 "_law_sizes" ["_law_pool_here"] (spSizes S)
  lline : CalX P w K mg base 8 "_law_line" ["_law_size"] (spLLine S C)
abbrev NR : List Str := ["_law_script", "_law_pool_here", "_law_size", "_law_pairs_here", "_law_turn", "_law_spoiled_here", "_law_kept", "_law_strange", "_law_told", "_law_pair"]
abbrev s_ofr : Stmt := top 54
theorem sc_ofr : FnScope NR ["_law_script"] (defScope s_ofr) := ⟨rfl, rfl, rfl, by decide +kernel, rfl, by decide +kernel, by decide +kernel⟩
section
variable {P : Program} {w : World} {K : PySem.W.Frag} {mg : Str → Option Value} {base : Heap} {S C B : Addr} {f : Addr} {cdv : Value} {A : Around} {outer : List Env} {s : Shared} {H : Hp} {E : XK}
abbrev XR (P : Program) (w : World) (K : PySem.W.Frag) (mg : Str → Option Value) (base : Heap) (f : Addr) (cdv : Value) (A : Around) (outer : List Env) (s : Shared) (H : Hp) (E : XK) : Cx :=
  (cxOf CX0 P w K mg base NR "_law_of_refused_pairs" (defScope s_ofr) f cdv A outer s H E).nox
theorem segR8 (L : LawB P w K mg base S C B) (hr : Room 8 (XR P w K mg base f cdv A outer s H E).A) {Q : VK} (k : ∀ H', Same H H' → Q (.bl true) H') :
    ∃ u, PSs (XR P w K mg base f cdv A outer s H E) ((defBody s_ofr).drop 8) u ∧ ∀ (x : V) (kx : Kd) (v0 v1 v2 v3 v4 v5 v6 v8 : Option V) (H1 : Hp), Th S H1 x kx →
      Same H H1 → u { nx := fun _ H' => Q .non H', rt := Q } [v0, v1, v2, v3, v4, v5, v6, some x, v8, none] H1 := by
  refine ⟨_, (pss_cons (ps_set (i := 8) sc_ofr.nd rfl (Or.inl rfl) (pe_calx L.lline (hr.mono (by decide)) rfl (pa_cons (pv 7) pa_nil)))
    (pss_one (ps_ret (pe_and (pe_cmpR op_eq (pe_cmpR op_eq (pe_ix ix_tup (pv 8) pe_int (fun _ _ => rfl)) pe_str (nomark _)) (pe_cal L.isz (hr.mono (by decide)) rfl (pa_cons (pv 7) pa_nil)) (nomark _)) (pe_one (pe_or (pe_cmpR op_eq (pe_ix ix_tup (pv 8) pe_int (fun _ _ => rfl)) pe_str (nomark _)) (pe_one (pe_cmpR op_eq (pe_fld (pe_ix ix_tup (pv 8) pe_int (fun _ _ => rfl)) rfl) (pv 7) (nomark _))))))))), ?_⟩
  intro x kx v0 v1 v2 v3 v4 v5 v6 v8 H1 hx sF
  refine ⟨_, rfl, x, kx, rfl, hx, fun b r H2 s2 er => ?_, fun n en n1 n8 r o low H2 s2 io er => ?_⟩
  · refine ⟨_, rfl, r, _, 0, _, rfl, rfl, SqT.of er, at0, rfl, _, rfl, x, kx, rfl, hx.same s2, ?_⟩
    rw [b]
    refine ⟨rfl, _, rfl, iteT ?_⟩
    refine ⟨_, rfl, r, _, 0, _, rfl, rfl, SqT.of er, at0, rfl, _, rfl, iteT ?_⟩
    exact k H2 (sF.trans s2)
  · subst en
    have b : btw 1 8 (.int (n : Int)) = true := by
      show (decide ((1 : Int) ≤ n) && decide ((n : Int) ≤ 8)) = true
      rw [decide_eq_true (by omega : (1 : Int) ≤ n), decide_eq_true (by omega : (n : Int) ≤ 8)]
      rfl
    refine ⟨_, rfl, r, _, 0, _, rfl, rfl, SqT.of er, at0, rfl, _, rfl, .int (n : Int), kx, rfl, hx.same s2, ?_⟩
    rw [b]
    refine ⟨rfl, _, rfl, iteT ?_⟩
    refine ⟨_, rfl, r, _, 0, _, rfl, rfl, SqT.of er, at0, rfl, _, rfl, iteF ?_⟩
    obtain ⟨dx, L0, ts0, h1, _⟩ := id io
    refine ⟨_, rfl, r, _, 1, _, rfl, rfl, SqT.of er, at1, o, C, dx, _, _, rfl, h1, L.T.cl, L.T.nS, ordF_size _ _, _, rfl, rfl, ?_⟩
    rw [decide_eq_true rfl]
    exact k H2 (sF.trans s2)
theorem segR5 (L : LawB P w K mg base S C B) (hr : Room 8 (XR P w K mg base f cdv A outer s H E).A) {Q : VK} (k : ∀ H', Same H H' → Q (.bl true) H') :
    ∃ u, PSs (XR P w K mg base f cdv A outer s H E) ((defBody s_ofr).drop 5) u ∧ ∀ (a l : Addr) (n : Nat) (ts : List Pt) (v0 v4 v5 v6 v7 v8 : Option V) (H1 : Hp), PoolAt H1 a → H1 l = some (.lst (rfs ts)) → Pts H1 ts → ts.length ≤ 64 →
      Same H H1 → H a = none → u { nx := fun _ H' => Q .non H', rt := Q } [v0, some (.ref a), some (.int (n : Int)), some (.ref l), v4, v5, v6, v7, v8, none] H1 := by
  obtain ⟨u, hu, qu⟩ := segR8 (f := f) (cdv := cdv) (A := A) (outer := outer) (s := s) (H := H) (E := E) L hr k
  have hun := un65 hr
  refine ⟨_, (pss_cons (ps_set (i := 7) sc_ofr.nd rfl (Or.inl rfl) (pe_cal L.pick (hr.mono (by decide)) rfl (pa_cons (pv 1) (pa_cons (pe_cal L.sizes (hr.mono (by decide)) rfl (pa_cons (pv 1) pa_nil)) pa_nil))))
    (pss_cons (ps_if (PW.pt (pw_or (pt_not (pt_val (pe_cal L.right (hr.mono (by decide)) rfl (pa_cons (pv 7) (pa_cons (pe_lst pa_nil) pa_nil))))) (pw_or1 (pt_not (pt_val (pe_cal L.right (hr.mono (by decide)) rfl (pa_cons (pv 7) (pa_cons (pe_callTy call_list_of (by rfl) L.T.bn.n_list (by decide +kernel) (pa_cons (pv 3) pa_nil)) pa_nil))))))))
      (pss_one (ps_ret pe_bl))
      pss_nil)
    (pss_cons (ps_if (pt_not (pt_val (pe_cal L.right (hr.mono (by decide)) rfl (pa_cons (pv 2) (pa_cons (pe_cal L.pick (hr.mono (by decide)) rfl (pa_cons (pv 1) (pa_cons (pe_tup (pa_cons pe_non (pa_cons pe_str (pa_cons pe_str (pa_cons pe_dnewK (pa_cons (pe_dispT1 (Nat.lt_of_le_of_lt (Nat.add_le_add_left (by decide) _) hun) (pe_tup (pa_cons pe_int (pa_cons pe_int pa_nil))) pe_int) (pa_cons pe_int (pa_cons (pe_tup (pa_cons pe_int (pa_cons pe_int pa_nil))) (pa_cons (pe_lst (pa_cons (pe_lst pa_nil) pa_nil)) (pa_cons (pe_share1 L.ms (hr.mono (by decide)) rfl (pa_cons pe_int pa_nil)) pa_nil)))))))))) pa_nil))) pa_nil)))))
      (pss_one (ps_ret pe_bl))
      pss_nil) hu))), ?_⟩
  intro a l n ts v0 v4 v5 v6 v7 v8 H1 hp el pt len sF na
  refine ⟨_, rfl, _, rfl, a, rfl, hp, fun c xs H2 k2 p2 ec c0 c1 it => ?_⟩
  refine ⟨a, c, xs, rfl, p2, .inr ec, p2.ne ec, c0, c1, fun x o hx ho => ?_⟩
  have kP := Keep.put (a := a) (H := H2) o
  have ix := (it x hx).keep kP p2
  have k3 := k2.trans kP
  have p3 : PoolAt (upd H2 a o) a := .put ho
  have el3 := k3 _ _ el (hp.neR el)
  have pt3 := pt.keep k3 hp
  have sF3 : Same H (upd H2 a o) := fun b o e => k3 b o (sF b o e) (ne_of_none e na)
  generalize (upd H2 a o) = H3 at ix p3 el3 pt3 sF3 ⊢
  clear it hx kP k2 p2 ec el pt hp k3
  obtain ⟨kx, hkx⟩ := ix.th
  refine ⟨_, rfl, by show 0 ≤ sizeLine; decide, fun e ne => ?_⟩
  have s4 := Same.put (o := .lst []) ne
  have ee : (upd H3 e (.lst [])) e = some (.lst []) := upd_same
  have ea := new_ne p3 ne
  generalize (upd H3 e (.lst [])) = H4 at s4 ee ⊢
  have ar := ars_sq (S := S) ee ea (by show 0 ≤ 200; decide) fun _ m => by cases m
  refine ⟨x, .ref e, kx, .lst, rfl, hkx.same s4, .lst ee, ar.items, fun H5 s5 => ⟨_, rfl, iteF ?_⟩⟩
  have s35 := s4.trans s5
  refine ⟨_, rfl, _, rfl, l, _, rfl, .inl (SqL.of (s35 _ _ el3)), fun e2 ne2 => ?_⟩
  have s6 := Same.put (o := .lst (rfs ts)) ne2
  have ee2 : (upd H5 e2 (.lst (rfs ts))) e2 = some (.lst (rfs ts)) := upd_same
  have ea2 := new_ne (p3.same s35) ne2
  generalize (upd H5 e2 (.lst (rfs ts))) = H6 at s6 ee2 ⊢
  have s36 := s35.trans s6
  have ar2 := ars_sq (S := S) ee2 ea2 (by rw [rfs_len]; omega) (pts_itm (pt3.same s36))
  refine ⟨x, .ref e2, kx, .lst, rfl, hkx.same s36, .lst ee2, ar2.items, fun H7 s7 => ⟨_, rfl, iteF ?_⟩⟩
  have s37 := s36.trans s7
  have p7 := p3.same s37
  have ix7 := ix.same s37
  have sF7 := sF3.trans s37
  clear ee ea ar s4 s5 s35 el3 pt3 s6 ee2 ea2 s36 ar2 s7 s37 sF3 p3 hkx ix ne ne2
  -- other things in the place of the pairs
  refine ⟨_, rfl, _, rfl, fun d nd => ?_⟩
  have s8 := Same.put (o := .dK []) nd
  have id8 : Ars S a (upd H7 d (.dK [])) (.ref d) := ⟨.dK upd_same, fun b xs e g => by cases e; rcases g with g | g <;> rw [upd_same] at g <;> cases g⟩
  have p8 := p7.same s8
  have sF8 := sF7.trans s8
  have ix8 := ix7.same s8
  generalize (upd H7 d (.dK [])) = H8 at id8 p8 sF8 ix8 ⊢
  clear s8 p7 sF7 ix7
  refine fun D nD => ?_
  have sA := Same.put (o := .dT []) nD
  have eA : (upd H8 D (.dT [])) D = some (.dT []) := upd_same
  refine ⟨by show 2 ≤ sizeLine; decide, fun t0 nt0 => ?_⟩
  have sB := Same.put (o := .tup [.int 0, .int 0]) nt0
  have eB : (upd (upd H8 D (.dT [])) t0 (.tup [.int 0, .int 0])) t0 = some (.tup [.int 0, .int 0]) := upd_same
  have eA2 := sB _ _ eA
  have s9 : Same H8 (upd (upd (upd H8 D (.dT [])) t0 (.tup [.int 0, .int 0])) D (.dT (putK [] [Sum.inl 0, Sum.inl 0] (.int 1)))) := Same.but (fun b u e => sB _ _ (sA _ _ e)) nD
  refine ⟨[Sum.inl 0, Sum.inl 0], t0, rfl, eB, eA2, ?_⟩
  have iD : Ars S a (upd (upd (upd H8 D (.dT [])) t0 (.tup [.int 0, .int 0])) D (.dT (putK [] [Sum.inl 0, Sum.inl 0] (.int 1)))) (.ref D) := ⟨.dT upd_same, fun b xs e g => by cases e; rcases g with g | g <;> rw [upd_same] at g <;> cases g⟩
  generalize (upd (upd (upd H8 D (.dT [])) t0 (.tup [.int 0, .int 0])) D (.dT (putK [] [Sum.inl 0, Sum.inl 0] (.int 1)))) = H9 at s9 iD ⊢
  have p9 := p8.same s9
  have sF9 := sF8.trans s9
  have ix9 := ix8.same s9
  have id9 := id8.same s9
  clear sA eA sB eB eA2 s9 p8 sF8 ix8 id8
  refine ⟨by show 2 ≤ sizeLine; decide, fun t1 nt1 => ?_⟩
  have s10 := Same.put (o := .tup [.int 0, .int 0]) nt1
  have it1 : Ars S a (upd H9 t1 (.tup [.int 0, .int 0])) (.ref t1) := ⟨.tup upd_same, fun b xs e g => by
    cases e
    obtain rfl := Sq.uniq (.inr upd_same) g
    exact ⟨by show 2 ≤ 200; decide, fun y m => .sc (scs_cons (.int _) (scs_cons (.int _) scs_nil) y m)⟩⟩
  generalize (upd H9 t1 (.tup [.int 0, .int 0])) = H10 at s10 it1 ⊢
  refine ⟨by show 0 ≤ sizeLine; decide, fun l0 nl0 => ?_⟩
  have s11 := Same.put (o := .lst []) nl0
  have el0 : (upd H10 l0 (.lst [])) l0 = some (.lst []) := upd_same
  have l0a := new_ne (p9.same s10) nl0
  generalize (upd H10 l0 (.lst [])) = H11 at s11 el0 ⊢
  refine ⟨by show 1 ≤ sizeLine; decide, fun l1 nl1 => ?_⟩
  have s12 := Same.put (o := .lst [.ref l0]) nl1
  have el1 : (upd H11 l1 (.lst [.ref l0])) l1 = some (.lst [.ref l0]) := upd_same
  have l1a := new_ne ((p9.same s10).same s11) nl1
  have el0 := s12 _ _ el0
  generalize (upd H11 l1 (.lst [.ref l0])) = H12 at s12 el0 el1 ⊢
  have il1 : Ars S a H12 (.ref l1) := ars_sq el1 l1a (by show 1 ≤ 200; decide) fun y m => by
    rw [List.mem_singleton.mp m]
    exact .lst el0 l0a
  have s913 := (s10.trans s11).trans s12
  have it1 := it1.same (s11.trans s12)
  have p12 := p9.same s913
  have sF12 := sF9.trans s913
  have ix12 := ix9.same s913
  have id12 := id9.same s913
  have iD12 := iD.same s913
  clear s10 s11 s12 el0 el1 s913 p9 sF9 ix9 id9 iD nl1 nl0
  intro xs dx hx hd ne
  refine ⟨xs, dx, 0, rfl, upd_same, .inl rfl, rfl, ?_⟩
  rw [upd_upd]
  have s13 : Same H12 (upd (upd H12 dx (.own xs)) xs (.ins S dx (shF 0 1))) := (Same.put hd).trans (Same.put (by rw [upd_ne ne.symm]; exact hx))
  have exs : (upd (upd H12 dx (.own xs)) xs (.ins S dx (shF 0 1))) xs = some (.ins S dx (shF 0 1)) := upd_same
  generalize (upd (upd H12 dx (.own xs)) xs (.ins S dx (shF 0 1))) = H13 at s13 exs ⊢
  have ixs : Ars S a H13 (.ref xs) := ⟨.shr exs, fun b ys e g => by cases e; rcases g with g | g <;> rw [exs] at g <;> cases g⟩
  refine ⟨by show 9 ≤ sizeLine; decide, fun c2 nc2 => ?_⟩
  have s14 := fun o => Same.put (o := o) nc2
  have ec2 : ∀ o, (upd H13 c2 o) c2 = some o := fun o => upd_same
  have sc0 : ∀ {G : Hp} {y : V}, Sc y → Ars S a G y := fun h => ⟨.sc h, fun b xs e g => by subst e; cases h⟩
  have all : ∀ o, ∀ y ∈ [V.non, .str "", .str "01", .ref d, .ref D, .int 7, .ref t1, .ref l1, .ref xs], Ars S a (upd H13 c2 o) y := by
    intro o y hy
    simp only [List.mem_cons, List.not_mem_nil, or_false] at hy
    rcases hy with rfl | rfl | rfl | rfl | rfl | rfl | rfl | rfl | rfl
    · exact sc0 .non
    · exact sc0 (.str _)
    · exact sc0 (.str _)
    · exact id12.same (s13.trans (s14 o))
    · exact iD12.same (s13.trans (s14 o))
    · exact sc0 (.int _)
    · exact it1.same (s13.trans (s14 o))
    · exact il1.same (s13.trans (s14 o))
    · exact ixs.same (s14 o)
  have p14 := fun o => p12.same (s13.trans (s14 o))
  have ay := all (.tup [V.non, .str "", .str "01", .ref d, .ref D, .int 7, .ref t1, .ref l1, .ref xs])
  have ec2 := ec2 (.tup [V.non, .str "", .str "01", .ref d, .ref D, .int 7, .ref t1, .ref l1, .ref xs])
  have p14 := p14 (.tup [V.non, .str "", .str "01", .ref d, .ref D, .int 7, .ref t1, .ref l1, .ref xs])
  have sF14 := sF12.trans (s13.trans (s14 (.tup [V.non, .str "", .str "01", .ref d, .ref D, .int 7, .ref t1, .ref l1, .ref xs])))
  have ix14 := ix12.same (s13.trans (s14 (.tup [V.non, .str "", .str "01", .ref d, .ref D, .int 7, .ref t1, .ref l1, .ref xs])))
  clear all s14
  generalize (upd H13 c2 (.tup [V.non, .str "", .str "01", .ref d, .ref D, .int 7, .ref t1, .ref l1, .ref xs])) = H14 at ay p14 sF14 ix14 ec2 ⊢
  refine ⟨a, c2, _, rfl, p14, .inr ec2, p14.ne ec2, by show 0 < 9; decide, by show 9 ≤ 200; decide, fun y o2 hy ho2 => ?_⟩
  have ay := ay y hy
  have kQ := Keep.put (a := a) (H := H14) o2
  have ay := ay.keep kQ p14
  have ix15 := ix14.keep kQ p14
  have sF15 : Same H (upd H14 a o2) := fun b o e => kQ b o (sF14 b o e) (ne_of_none e na)
  generalize (upd H14 a o2) = H15 at ay ix15 sF15 ⊢
  obtain ⟨ky, hky⟩ := ay.it.th
  refine ⟨.int (n : Int), y, .int, ky, rfl, .int _, hky, ay.items, fun H16 s16 => ⟨_, rfl, iteF ?_⟩⟩
  obtain ⟨kx, hkx⟩ := (ix15.same s16).th
  exact qu x kx v0 _ _ _ v4 v5 v6 v8 H16 hkx (sF15.trans s16)
end
end K6

set_option Elab.async false
set_option linter.all false
set_option maxRecDepth 100000
set_option maxHeartbeats 4000000
namespace K6
open PySem L2
def forB : Stmt → List Stmt
  | .For _ _ b _ _ => b
  | _ => []
def loopR : List Stmt := forB ((defBody s_ofr).getD 4 (.Pass ⟨0, 0, 0, 0⟩))
section
variable {P : Program} {w : World} {K : PySem.W.Frag} {mg : Str → Option Value} {base : Heap} {S C B : Addr} {f : Addr} {cdv : Value} {A : Around} {outer : List Env} {s : Shared} {H : Hp} {E : XK}
/-- kept and judged -/
theorem segL3 (L : LawB P w K mg base S C B) (hr : Room 8 (XR P w K mg base f cdv A outer s H E).A) :
    ∃ u, PSs (XR P w K mg base f cdv A outer s H E) (loopR.drop 3) u ∧ ∀ (a r : Addr) (n : Nat) (xs : List V) (D : Ends) (v0 v3 v4 v6 v7 v8 : Option V) (H1 : Hp), Sq H1 r xs → Ars S a H1 (.ref r) →
      (∀ (v5 v6 : Option V) H', Same H1 H' → D.nx [v0, some (.ref a), some (.int (n : Int)), v3, v4, v5, v6, v7, v8, none] H') → u D [v0, some (.ref a), some (.int (n : Int)), v3, v4, some (.ref r), v6, v7, v8, none] H1 := by
  have h64 := un65 hr
  refine ⟨_, (pss_cons (ps_set (i := 6) sc_ofr.nd rfl (Or.inl rfl) (pe_callTy call_list_of (by rfl) L.T.bn.n_list (by decide +kernel) (pa_cons (pv 5) pa_nil)))
    (pss_one (ps_if (PW.pt (pw_or (pt_not (pt_val (pe_cal L.right (hr.mono (by decide)) rfl (pa_cons (pv 2) (pa_cons (pv 5) pa_nil))))) (pw_or1 (pt_cmpR (op_neSame (by exact Nat.lt_of_le_of_lt (Nat.le_add_right _ _) h64)) (pe_callTy call_list_of (by rfl) L.T.bn.n_list (by decide +kernel) (pa_cons (pv 5) pa_nil)) (pv 6) (nomark _)))))
      (pss_one (ps_ret pe_bl))
      pss_nil))), ?_⟩
  intro a r n xs D v0 v3 v4 v6 v7 v8 H1 er ar k
  refine ⟨_, rfl, r, xs, rfl, er.elim (fun e => .inl (SqL.of e)) (fun e => .inr (SqT.of e)), fun q nq => ?_⟩
  have s1 := Same.put (o := .lst xs) nq
  have eq : (upd H1 q (.lst xs)) q = some (.lst xs) := upd_same
  generalize (upd H1 q (.lst xs)) = H2 at s1 eq ⊢
  have ar2 := ar.same s1
  have er2 := er.same (s1 r)
  obtain ⟨kr, hkr⟩ := ar2.it.th
  refine ⟨_, rfl, _, rfl, .int (n : Int), .ref r, .int, kr, rfl, .int _, hkr, ar2.items, fun H3 s2 => ⟨_, rfl, iteF ?_⟩⟩
  have er3 := er2.same (s2 r)
  refine ⟨_, rfl, r, xs, rfl, er3.elim (fun e => .inl (SqL.of e)) (fun e => .inr (SqT.of e)), fun q2 nq2 => ?_⟩
  have s3 := Same.put (o := .lst xs) nq2
  refine ⟨_, rfl, q2, q, xs, rfl, rfl, SqL.of upd_same, SqL.of (s3 _ _ (s2 _ _ eq)), fun y m => ((ar.is r xs rfl er).2 y m).pl, _, rfl, iteF ?_⟩
  exact k _ _ _ ((s1.trans s2).trans s3)
/-- list or tuple -/
theorem segL2 (L : LawB P w K mg base S C B) (hr : Room 8 (XR P w K mg base f cdv A outer s H E).A) :
    ∃ u, PSs (XR P w K mg base f cdv A outer s H E) (loopR.drop 2) u ∧ ∀ (a r : Addr) (n : Nat) (xs : List V) (D : Ends) (v0 v3 v4 v6 v7 v8 : Option V) (H1 : Hp), PoolAt H1 a → r ≠ a → H1 r = some (.lst xs) → xs.length ≤ 200 → (∀ y ∈ xs, Itm S a H1 y) →
      (∀ (v5 v6 : Option V) H', Keep a H1 H' → PoolAt H' a → D.nx [v0, some (.ref a), some (.int (n : Int)), v3, v4, v5, v6, v7, v8, none] H') → u D [v0, some (.ref a), some (.int (n : Int)), v3, v4, some (.ref r), v6, v7, v8, none] H1 := by
  obtain ⟨u, hu, qu⟩ := segL3 (f := f) (cdv := cdv) (A := A) (outer := outer) (s := s) (H := H) (E := E) L hr
  refine ⟨_, (pss_cons (ps_if (pt_cmpR op_eq (pe_cal L.draw (hr.mono (by decide)) rfl (pa_cons (pv 1) (pa_cons pe_int pa_nil))) pe_int (nomark _))
      (pss_one (ps_set (i := 5) sc_ofr.nd rfl (Or.inl rfl) (pe_callTy call_tuple_of (by rfl) L.T.bn.n_tuple (by decide +kernel) (pa_cons (pv 5) pa_nil))))
      pss_nil) hu), ?_⟩
  intro a r n xs D v0 v3 v4 v6 v7 v8 H1 hp ra er len it k
  refine ⟨_, rfl, a, 2, rfl, hp, by decide, by decide, fun y o y0 y1 ho => ?_⟩
  have kP := Keep.put (a := a) (H := H1) o
  have p2 : PoolAt (upd H1 a o) a := .put ho
  have er2 := kP _ _ er ra
  have it2 := fun y m => (it y m).keep kP hp
  have k := fun v5 v6 H' (q : Keep a (upd H1 a o) H') => k v5 v6 H' (kP.trans q)
  generalize (upd H1 a o) = H2 at p2 er2 it2 k ⊢
  clear kP hp it er
  refine ⟨rfl, _, rfl, ite2 (fun _ => ?_) (fun _ => ?_)⟩
  · refine ⟨_, rfl, r, xs, rfl, .inl ⟨SqL.of er2, fun t nt => ?_⟩⟩
    have sT := Same.put (o := .tup xs) nt
    have eT : (upd H2 t (.tup xs)) t = some (.tup xs) := upd_same
    have ta := new_ne p2 nt
    generalize (upd H2 t (.tup xs)) = H3 at sT eT ⊢
    have itT := fun y m => (it2 y m).same sT
    -- a tuple of things: as an argument
    exact qu a t n xs D v0 v3 v4 v6 v7 v8 H3 (.inr eT) (ars_tup eT len itT) fun v5 v6 H' s => k v5 v6 H' (Keep.of (sT.trans s)) (p2.same (sT.trans s))
  · exact qu a r n xs D v0 v3 v4 v6 v7 v8 H2 (.inl er2) (ars_sq er2 ra len it2) fun v5 v6 H' s => k v5 v6 H' (Keep.of s) (p2.same s)
/-- the spoiled pairs, a time or twice -/
theorem segL0 (L : LawB P w K mg base S C B) (hr : Room 8 (XR P w K mg base f cdv A outer s H E).A) :
    ∃ u, PSs (XR P w K mg base f cdv A outer s H E) loopR u ∧ ∀ (a l : Addr) (n : Nat) (ts : List Pt) (D : Ends) (v0 v4 v5 v6 v7 v8 : Option V) (H1 : Hp), PoolAt H1 a → 1 ≤ n → n ≤ 8 → H1 l = some (.lst (rfs ts)) → Pts H1 ts → ts.length ≤ 64 → (∀ t ∈ ts, t.2.1 < n ∧ t.2.2 < n) →
      (∀ (v5 v6 : Option V) H', Keep a H1 H' → PoolAt H' a → D.nx [v0, some (.ref a), some (.int (n : Int)), some (.ref l), v4, v5, v6, v7, v8, none] H') → u D [v0, some (.ref a), some (.int (n : Int)), some (.ref l), v4, v5, v6, v7, v8, none] H1 := by
  obtain ⟨u, hu, qu⟩ := segL2 (f := f) (cdv := cdv) (A := A) (outer := outer) (s := s) (H := H) (E := E) L hr
  refine ⟨_, (pss_cons (ps_set (i := 5) sc_ofr.nd rfl (Or.inl rfl) (pe_cal L.spoiled (hr.mono (by decide)) rfl (pa_cons (pv 1) (pa_cons (pv 2) (pa_cons (pv 3) pa_nil)))))
    (pss_cons (ps_if (pt_cmpR op_eq (pe_cal L.draw (hr.mono (by decide)) rfl (pa_cons (pv 1) (pa_cons pe_int pa_nil))) pe_int (nomark _))
      (pss_one (ps_set (i := 5) sc_ofr.nd rfl (Or.inl rfl) (pe_cal L.spoiled (hr.mono (by decide)) rfl (pa_cons (pv 1) (pa_cons (pv 2) (pa_cons (pe_lc (own := [("_law_pair", 9)]) rfl sc_ofr.nd (pi_list (pv 5)) (blkOk_by (N := NR) (sc := defScope s_ofr) (by decide +kernel)) (fun _ _ _ _ _ => (pg_name (i := 9) sc_ofr.nd rfl (Or.inl rfl))) (fun _ _ _ _ _ => (pts_one (pt_val (pe_cal L.isp (hr.mono (by decide)) rfl (pa_cons (pv 2) (pa_cons (pv 9) pa_nil)))))) (fun _ _ _ _ _ => (pv 9))) pa_nil))))))
      pss_nil) hu)), ?_⟩
  intro a l n ts D v0 v4 v5 v6 v7 v8 H1 hp n1 n8 el pt len lt k
  refine ⟨_, rfl, _, rfl, _, rfl, a, l, n, ts, rfl, hp, n1, n8, el, pt, by omega, lt, fun r xs H2 k2 p2 ra er lx it => ?_⟩
  refine ⟨_, rfl, a, 3, rfl, p2, by decide, by decide, fun y o y0 y1 ho => ?_⟩
  have kP := Keep.put (a := a) (H := H2) o
  have p3 : PoolAt (upd H2 a o) a := .put ho
  have er3 := kP _ _ er ra
  have it3 := fun y m => (it y m).keep kP p2
  have k3 := k2.trans kP
  generalize (upd H2 a o) = H3 at p3 er3 it3 k3 ⊢
  clear kP p2 it er k2
  refine ⟨rfl, _, rfl, ite2 (fun _ => ?_) (fun _ => ?_)⟩
  · refine ⟨_, rfl, _, rfl, _, rfl, r, rfl, ⟨_, SqL.of er3⟩, fun G nG => ?_⟩
    refine lc_list (K := K) (a := r) (xs := xs) (fun i H' => Same H3 H' ∧ H' G = some (.lst ((xs.take i).filter (ixPair H3 (n : Int))))) ⟨Same.put nG, upd_same⟩ (fun i H' _ h => SqL.of (h.1 _ _ er3)) ?_ ?_
    · rintro i y H' hy ⟨s4, eG⟩
      have hm := List.mem_of_getElem? hy
      have iy := it3 y hm
      obtain ⟨ky, hky⟩ := iy.th
      have il := (List.getElem?_eq_some_iff.mp hy).1
      refine ⟨rfl, ?_⟩
      refine ⟨_, rfl, _, rfl, (n : Int), y, ky, rfl, hky.same s4, iy.pt.same hky s4, ?_⟩
      rw [ixPair_same hky s4]
      refine ⟨_, rfl, iteB (fun z => ?_) (fun z => ?_)⟩
      · refine ⟨_, rfl, _, eG, ?_, Same.but (fun b u e => s4 _ _ e) nG, ?_⟩
        · have := List.length_filter_le (ixPair H3 (n : Int)) (xs.take i)
          rw [List.length_take] at this
          exact small_len (by omega)
        · rw [upd_same, take_more hy, List.filter_append, List.filter_cons, z]
          simp
      · refine ⟨s4, ?_⟩
        rw [take_more hy, List.filter_append, List.filter_cons, z]
        simpa using eG
    rintro H4 ⟨s4, eG⟩
    rw [List.take_length] at eG
    have fl := List.length_filter_le (ixPair H3 (n : Int)) xs
    obtain ⟨us, eu, pu, lu⟩ := ix_pairs (H := H3) (n := n) (xs := xs.filter (ixPair H3 (n : Int))) fun y m => (List.mem_filter.mp m).2
    rw [eu] at eG fl
    rw [rfs_len] at fl
    have p4 := p3.same s4
    refine ⟨a, G, n, us, rfl, p4, n1, n8, eG, pu.same s4, by omega, lu, fun r2 ys H5 k5 p5 ra2 er5 ly it5 => ?_⟩
    exact qu a r2 n ys D v0 _ _ _ _ _ H5 p5 ra2 er5 (by omega) it5 fun v5 v6 H' q => k v5 v6 H' ((k3.trans (Keep.of s4)).trans (k5.trans q))
  · exact qu a r n xs D v0 _ _ _ _ _ H3 p3 ra er3 (by omega) it3 fun v5 v6 H' q => k v5 v6 H' (k3.trans q)
end
section
variable {P : Program} {w : World} {K : PySem.W.Frag} {mg : Str → Option Value} {base : Heap} {S C B : Addr}
theorem ok_ofr {f : Addr} {fd : FuncData} (F : Fun K "_law_of_refused_pairs" "_law_of_refused_pairs" s_ofr f fd) (L : LawB P w K mg base S C B) : FnOk P w K mg base CX0 9 f fd ["_law_script"] (spOf K) := by
  refine F.ok sc_ofr (fun vs H Q E h => ?_) (fun cdv A outer s H vs Q E hr h => ?_)
  · obtain ⟨a, ns, rfl, _⟩ := h
    rfl
  · obtain ⟨a0, ns, rfl, ha, hl, k⟩ := h
    obtain ⟨u, hu, qu⟩ := segR5 (f := f) (cdv := cdv) (A := A) (outer := outer) (s := s) (H := H) (E := E) L hr k
    obtain ⟨ul, hul, qul⟩ := segL0 (f := f) (cdv := cdv) (A := A) (outer := outer) (s := s) (H := H) (E := E) L hr
    refine ⟨_, (pss_cons (ps_set (i := 1) sc_ofr.nd rfl (Or.inl rfl) (pe_cal L.pool (hr.mono (by decide)) rfl (pa_cons (pv 0) pa_nil)))
      (pss_cons (ps_set (i := 2) sc_ofr.nd rfl (Or.inr rfl) (pe_op op_add pe_int (pe_cal L.draw (hr.mono (by decide)) rfl (pa_cons (pv 1) (pa_cons pe_int pa_nil)))))
      (pss_cons (ps_set (i := 3) sc_ofr.nd rfl (Or.inl rfl) (pe_cal L.ordps (hr.mono (by decide)) rfl (pa_cons (pv 1) (pa_cons (pv 2) pa_nil))))
      (pss_cons (ps_if (pt_not (pt_val (pe_cal L.right (hr.mono (by decide)) rfl (pa_cons (pv 2) (pa_cons (pv 3) pa_nil)))))
        (pss_one (ps_ret pe_bl))
        pss_nil)
      (pss_cons (ps_for PassesOwn.never rfl (pi_range1 (by rfl) L.T.bn.n_range (pa_cons pe_int pa_nil)) (pg_name (i := 4) sc_ofr.nd rfl (Or.inl rfl)) hul) hu))))), ?_⟩
    refine ⟨_, rfl, a0, ns, rfl, ha, hl, fun a H1 s1 na hp1 => ?_⟩
    refine ⟨_, rfl, a, 8, rfl, hp1, by decide, by decide, fun x o x0 x1 ho => ⟨_, _, rfl, rfl, ?_⟩⟩
    have sF : ∀ {H2 H3 : Hp}, Same H H2 → Keep a H2 H3 → Same H H3 := fun q k2 b o e => k2 b o (q b o e) (ne_of_none e na)
    have q2 := sF s1 (Keep.put (a := a) (H := H1) o)
    have p2 : PoolAt (upd H1 a o) a := .put ho
    generalize (upd H1 a o) = H2 at q2 p2 ⊢
    obtain ⟨n0, rfl⟩ : ∃ n0 : Nat, x = (n0 : Int) := ⟨x.toNat, by omega⟩
    obtain ⟨n, en, n1, n8⟩ : ∃ n : Nat, (1 : Int) + (n0 : Int) = (n : Int) ∧ 1 ≤ n ∧ n ≤ 8 := ⟨1 + n0, by omega, by omega, by omega⟩
    dsimp only
    rw [en]
    refine ⟨_, rfl, _, rfl, a, n, rfl, p2, n1, n8, fun l ts H3 k3 p3 e3 pt3 len3 lt3 rk3 => ?_⟩
    have q3 := sF q2 k3
    have la := p3.neR e3
    have ar := ars_sq (S := S) e3 la (by rw [rfs_len]; omega) (pts_itm pt3)
    refine ⟨_, rfl, _, rfl, .int (n : Int), .ref l, .int, .lst, rfl, .int _, .lst e3, ar.items, fun H4 s4 => ⟨_, rfl, iteF ?_⟩⟩
    have q4 := q3.trans s4
    have p4 := p3.same s4
    have e4 := s4 _ _ e3
    have pt4 := pt3.same s4
    clear ar pt3 e3 p3 q3 k3 p2 q2
    refine ⟨3, rfl, by decide, by decide, for_range (fun i σ H' => ∃ v4 v5 v6 : Option V, σ = [some (.ref a0), some (.ref a), some (.int (n : Int)), some (.ref l), v4, v5, v6, none, none, none] ∧ Keep a H4 H' ∧ PoolAt H' a) ⟨none, none, none, rfl, Keep.refl a H4, p4⟩ ?_ ?_⟩
    · rintro i σ H5 hi ⟨v4, v5, v6, rfl, k5, p5⟩
      refine qul a l n ts _ _ _ v5 v6 none none H5 p5 n1 n8 (k5 _ _ e4 la) (pt4.keep k5 p4) len3 lt3 fun v5 v6 H' k6 p6 => ⟨_, v5, v6, rfl, k5.trans k6, p6⟩
    · rintro σ H5 ⟨v4, v5, v6, rfl, k5, p5⟩
      exact qu a l n ts _ v4 v5 v6 none none H5 p5 (k5 _ _ e4 la) (pt4.keep k5 p4) len3 (sF q4 k5) na
abbrev s_law : Stmt := top 55
theorem sc_law : FnScope ["_law_script"] ["_law_script"] (defScope s_law) := ⟨rfl, rfl, rfl, by decide +kernel, rfl, by decide +kernel, by decide +kernel⟩
theorem ok_law {f : Addr} {fd : FuncData} (F : Fun K "law" "law" s_law f fd) (c1 : Cal P w K mg base 9 "_law_of_orders" ["_law_script"] (spOf K)) (c2 : Cal P w K mg base 9 "_law_of_refused_pairs" ["_law_script"] (spOf K)) : FnOk P w K mg base CX0 10 f fd ["_law_script"] (spOf K) := by
  refine F.ok sc_law (fun vs H Q E h => ?_) (fun cdv A outer s H vs Q E hr h => ?_)
  · obtain ⟨a, ns, rfl, _⟩ := h
    rfl
  · obtain ⟨a, ns, rfl, ha, hl, k⟩ := h
    refine ⟨_, (pss_one (ps_ret (pe_and (pe_cal c1 (hr.mono (by decide)) rfl (pa_cons (pv 0) pa_nil)) (pe_one (pe_cal c2 (hr.mono (by decide)) rfl (pa_cons (pv 0) pa_nil)))))), ?_⟩
    refine ⟨_, rfl, a, ns, rfl, ha, hl, fun H1 s1 => ⟨_, rfl, iteT ?_⟩⟩
    exact ⟨_, rfl, a, ns, rfl, s1.seq ha, hl, fun H2 s2 => k H2 (s1.trans s2)⟩
end
end K6

set_option Elab.async false
set_option linter.all false
set_option maxRecDepth 100000
set_option maxHeartbeats 8000000
namespace K6
open PySem L2
theorem kit_sub {K : PySem.W.Frag} {C : Addr} {T : String} {b : Bool} (h : PySem.W.subIn K (.ref C) (.type T) = some b) (m : PySem.W.kitMeta T = true) : PySem.W.kitOne K (.ref C) (.type T) = some b := by
  show (if (Value.ref C == Value.type T) = true then some true else if PySem.W.kitMeta T = true then PySem.W.subIn K (.ref C) (.type T) else none) = some b
  rw [if_neg (show ¬ ((Value.ref C == Value.type T) = true) from fun z => by cases beq_iff_eq.mp z), if_pos m]
  exact h
theorem kit_self (K : PySem.W.Frag) (C : Addr) : PySem.W.kitOne K (.ref C) (.ref C) = some true := by
  show (if (Value.ref C == Value.ref C) = true then some true else _) = some true
  rw [if_pos (beq_iff_eq.mpr rfl)]
theorem is_cls {K : PySem.W.Frag} {C : Addr} (hd : PySem.W.hasDictIn K C = true) (t : PySem.W.typeIn K (.ref C) = some (.type "type")) : ((PySem.W.clsIn K C).isSome && PySem.W.typeIn K (.ref C) == some (.type "type")) = true := by
  obtain ⟨cd, hc, _⟩ := PySem.W.any_some hd
  rw [hc, t] <;> rfl
theorem kit_cref {K : PySem.W.Frag} {C : Addr} {t : Value} {b : Bool} (hd : PySem.W.hasDictIn K C = true) (tC : PySem.W.typeIn K (.ref C) = some (.type "type")) (h : PySem.W.subIn K t (.ref C) = some b) : PySem.W.kitCls K t (.ref C) = some b := by
  show (if ((PySem.W.clsIn K C).isSome && PySem.W.typeIn K (.ref C) == some (.type "type")) = true then PySem.W.subIn K t (.ref C) else none) = some b
  rw [if_pos (is_cls hd tC)]
  exact h
theorem no_ref {C : Addr} : ∀ {l : List Value}, l.all (fun v => match v with | .type _ => true | _ => false) = true → l.contains (.ref C) = false
  | [], _ => rfl
  | a :: r, h => by
    rw [List.all_cons, Bool.and_eq_true] at h
    rw [List.contains_cons, no_ref h.2, Bool.or_false]
    cases a <;> first | rfl | (simp at h)
theorem kit_from {K : PySem.W.Frag} {C : Addr} {T : String} {l : List Value} (hd : PySem.W.hasDictIn K C = true) (tC : PySem.W.typeIn K (.ref C) = some (.type "type")) (e : fastBuiltinMro T = some l) (hl : l.all (fun v => match v with | .type _ => true | _ => false) = true) :
    PySem.W.kitOne K (.type T) (.ref C) = some false := by
  show (if (Value.type T == Value.ref C) = true then some true else PySem.W.kitCls K (.type T) (.ref C)) = some false
  rw [if_neg (show ¬ ((Value.type T == Value.ref C) = true) from fun z => by cases beq_iff_eq.mp z)]
  refine kit_cref hd tC ?_
  show (fastBuiltinMro T).map (·.contains (.ref C)) = some false
  rw [e]
  exact congrArg some (no_ref hl)
section
variable {K : PySem.W.Frag} {mg : Str → Option Value} {h : Heap}
theorem all_mk {l : PySem.W.OpenLaw} {w : World} {fa C S W BN BO T_SI T_WE f_WE f_NS f_BO f_iw f_ib f_ii f_ck f_ck2 f_it f_ip f_xp f_SI f_seq f_OI f_bel f_pr f_tu f_oeq f_lk f_ln f_pool f_draw f_pick f_turn f_lp f_op f_fl f_jo f_ta f_lint f_same f_more f_told f_asked f_refu f_sec f_isp f_szs f_thi f_spo f_isz f_iso f_made f_rig f_lli f_of f_ofr f_law : Addr} (X : K.In h) (G : h.Ns mainGlobals mg) (hfa : mg "law" = some (.ref fa))
    {oc_WE kV_WE dc_WE pm_WE cd_WE ct_WE oc_NS kV_NS dc_NS pm_NS cd_NS ct_NS oc_BO kV_BO dc_BO pm_BO cd_BO ct_BO oc_iw kV_iw dc_iw pm_iw cd_iw ct_iw oc_ib kV_ib dc_ib pm_ib cd_ib ct_ib oc_ii kV_ii dc_ii pm_ii cd_ii ct_ii oc_ck kV_ck dc_ck pm_ck cd_ck ct_ck oc_ck2 kV_ck2 dc_ck2 pm_ck2 cd_ck2 ct_ck2 oc_it kV_it dc_it pm_it cd_it ct_it oc_ip kV_ip dc_ip pm_ip cd_ip ct_ip oc_xp kV_xp dc_xp pm_xp cd_xp ct_xp oc_SI kV_SI dc_SI pm_SI cd_SI ct_SI oc_seq kV_seq dc_seq pm_seq cd_seq ct_seq oc_OI kV_OI dc_OI pm_OI cd_OI ct_OI oc_bel kV_bel dc_bel pm_bel cd_bel ct_bel oc_pr kV_pr dc_pr pm_pr cd_pr ct_pr oc_tu kV_tu dc_tu pm_tu cd_tu ct_tu oc_oeq kV_oeq dc_oeq pm_oeq cd_oeq ct_oeq oc_lk kV_lk dc_lk pm_lk cd_lk ct_lk oc_ln kV_ln dc_ln pm_ln cd_ln ct_ln oc_pool kV_pool dc_pool pm_pool cd_pool ct_pool oc_draw kV_draw dc_draw pm_draw cd_draw ct_draw oc_pick kV_pick dc_pick pm_pick cd_pick ct_pick oc_turn kV_turn dc_turn pm_turn cd_turn ct_turn oc_lp kV_lp dc_lp pm_lp cd_lp ct_lp oc_op kV_op dc_op pm_op cd_op ct_op oc_fl kV_fl dc_fl pm_fl cd_fl ct_fl oc_jo kV_jo dc_jo pm_jo cd_jo ct_jo oc_ta kV_ta dc_ta pm_ta cd_ta ct_ta oc_lint kV_lint dc_lint pm_lint cd_lint ct_lint oc_same kV_same dc_same pm_same cd_same ct_same oc_more kV_more dc_more pm_more cd_more ct_more oc_told kV_told dc_told pm_told cd_told ct_told oc_asked kV_asked dc_asked pm_asked cd_asked ct_asked oc_refu kV_refu dc_refu pm_refu cd_refu ct_refu oc_sec kV_sec dc_sec pm_sec cd_sec ct_sec oc_isp kV_isp dc_isp pm_isp cd_isp ct_isp oc_szs kV_szs dc_szs pm_szs cd_szs ct_szs oc_thi kV_thi dc_thi pm_thi cd_thi ct_thi oc_spo kV_spo dc_spo pm_spo cd_spo ct_spo oc_isz kV_isz dc_isz pm_isz cd_isz ct_isz oc_iso kV_iso dc_iso pm_iso cd_iso ct_iso oc_made kV_made dc_made pm_made cd_made ct_made oc_rig kV_rig dc_rig pm_rig cd_rig ct_rig oc_lli kV_lli dc_lli pm_lli cd_lli ct_lli oc_of kV_of dc_of pm_of cd_of ct_of oc_ofr kV_ofr dc_ofr pm_ofr cd_ofr ct_ofr oc_law kV_law dc_law pm_law cd_law ct_law : Value} {od_WE an_WE od_NS an_NS od_BO an_BO od_iw an_iw od_ib an_ib od_ii an_ii od_ck an_ck od_ck2 an_ck2 od_it an_it od_ip an_ip od_xp an_xp od_SI an_SI od_seq an_seq od_OI an_OI od_bel an_bel od_pr an_pr od_tu an_tu od_oeq an_oeq od_lk an_lk od_ln an_ln od_pool an_pool od_draw an_draw od_pick an_pick od_turn an_turn od_lp an_lp od_op an_op od_fl an_fl od_jo an_jo od_ta an_ta od_lint an_lint od_same an_same od_more an_more od_told an_told od_asked an_asked od_refu an_refu od_sec an_sec od_isp an_isp od_szs an_szs od_thi an_thi od_spo an_spo od_isz an_isz od_iso an_iso od_made an_made od_rig an_rig od_lli an_lli od_of an_of od_ofr an_ofr od_law an_law : Option Addr} {sl_WE sl_NS sl_BO sl_iw sl_ib sl_ii sl_ck sl_ck2 sl_it sl_ip sl_xp sl_SI sl_seq sl_OI sl_bel sl_pr sl_tu sl_oeq sl_lk sl_ln sl_pool sl_draw sl_pick sl_turn sl_lp sl_op sl_fl sl_jo sl_ta sl_lint sl_same sl_more sl_told sl_asked sl_refu sl_sec sl_isp sl_szs sl_thi sl_spo sl_isz sl_iso sl_made sl_rig sl_lli sl_of sl_ofr sl_law : Array (Option Value)}
    {bl : Int} {tk tkS tkW : Tok} {xW : Str} {tcS tcW : Value} {tdS tdW : Option Addr} {tnS tnW : Nat} {tsS tsW : Array (Option Value)}
    {nmN qN : Str} {NN : Addr} {bsN bmN : List Value} {snN : List Str} {subN : List Value} {abN : Bool} {colN : Option Bool} {ddN : Option Addr} {b0N b1N b2N b3N b5N : Option Value}
    {nmB qB : Str} {NB : Addr} {bsB bmB : List Value} {snB : List Str} {subB : List Value} {abB : Bool} {colB : Option Bool} {ddB : Option Addr} {b0B b1B b2B b3B b5B : Option Value}
    (aC : PySem.W.nsIn K mainGlobals "Order" = some (some (.ref C)))
    (aS : PySem.W.nsIn K mainGlobals "Share" = some (some (.ref S)))
    (aW : PySem.W.nsIn K mainGlobals "WalkError" = some (some (.ref W)))
    (aN : PySem.W.nsIn K mainGlobals "NoState" = some (some (.ref BN)))
    (aB : PySem.W.nsIn K mainGlobals "BadOrder" = some (some (.ref BO)))
    (aM : PySem.W.nsIn K mainGlobals "MOST_ORDERED" = some (some (.int bl tk)))
    (eM : bl = 8)
    (aG : PySem.W.nsIn K mainGlobals "gcd" = some (some (.builtin "math.gcd")))
    (n_isinstance : PySem.W.nsIn K mainGlobals "isinstance" = some none)
    (n_int : PySem.W.nsIn K mainGlobals "int" = some none)
    (n_bool : PySem.W.nsIn K mainGlobals "bool" = some none)
    (n_abs : PySem.W.nsIn K mainGlobals "abs" = some none)
    (n_len : PySem.W.nsIn K mainGlobals "len" = some none)
    (n_list : PySem.W.nsIn K mainGlobals "list" = some none)
    (n_tuple : PySem.W.nsIn K mainGlobals "tuple" = some none)
    (n_range : PySem.W.nsIn K mainGlobals "range" = some none)
    (n_all : PySem.W.nsIn K mainGlobals "all" = some none)
    (n_any : PySem.W.nsIn K mainGlobals "any" = some none)
    (n_ValueError : PySem.W.nsIn K mainGlobals "ValueError" = some none)
    (a_WE : PySem.W.findIn K (.ref W) "__init__" = some (some (.ref f_WE)))
    (l_WE : K.lookup f_WE = some ⟨oc_WE, od_WE, .func (PySem.W.fnOf "__init__" "WalkError.__init__" (defArgs s_WE) (defBody s_WE) (defScope s_WE) (.ref T_WE) kV_WE dc_WE pm_WE an_WE cd_WE ct_WE), sl_WE⟩)
    (c_WE : PySem.W.codeIn K cd_WE "WalkError.__init__" = true)
    (k_WE : PySem.W.keepIn K (.ref f_WE) = true)
    (a_NS : PySem.W.findIn K (.ref BN) "__init__" = some (some (.ref f_NS)))
    (l_NS : K.lookup f_NS = some ⟨oc_NS, od_NS, .func (PySem.W.fnOf "__init__" "NoState.__init__" (defArgs s_NS) (defBody s_NS) (defScope s_NS) .none kV_NS dc_NS pm_NS an_NS cd_NS ct_NS), sl_NS⟩)
    (c_NS : PySem.W.codeIn K cd_NS "NoState.__init__" = true)
    (k_NS : PySem.W.keepIn K (.ref f_NS) = true)
    (a_BO : PySem.W.findIn K (.ref BO) "__init__" = some (some (.ref f_BO)))
    (l_BO : K.lookup f_BO = some ⟨oc_BO, od_BO, .func (PySem.W.fnOf "__init__" "BadOrder.__init__" (defArgs s_BO) (defBody s_BO) (defScope s_BO) .none kV_BO dc_BO pm_BO an_BO cd_BO ct_BO), sl_BO⟩)
    (c_BO : PySem.W.codeIn K cd_BO "BadOrder.__init__" = true)
    (k_BO : PySem.W.keepIn K (.ref f_BO) = true)
    (a_iw : PySem.W.nsIn K mainGlobals "is_whole" = some (some (.ref f_iw)))
    (l_iw : K.lookup f_iw = some ⟨oc_iw, od_iw, .func (PySem.W.fnOf "is_whole" "is_whole" (defArgs s_is_whole) (defBody s_is_whole) (defScope s_is_whole) .none kV_iw dc_iw pm_iw an_iw cd_iw ct_iw), sl_iw⟩)
    (c_iw : PySem.W.codeIn K cd_iw "is_whole" = true)
    (k_iw : PySem.W.keepIn K (.ref f_iw) = true)
    (a_ib : PySem.W.nsIn K mainGlobals "is_between" = some (some (.ref f_ib)))
    (l_ib : K.lookup f_ib = some ⟨oc_ib, od_ib, .func (PySem.W.fnOf "is_between" "is_between" (defArgs s_is_between) (defBody s_is_between) (defScope s_is_between) .none kV_ib dc_ib pm_ib an_ib cd_ib ct_ib), sl_ib⟩)
    (c_ib : PySem.W.codeIn K cd_ib "is_between" = true)
    (k_ib : PySem.W.keepIn K (.ref f_ib) = true)
    (a_ii : PySem.W.nsIn K mainGlobals "is_index" = some (some (.ref f_ii)))
    (l_ii : K.lookup f_ii = some ⟨oc_ii, od_ii, .func (PySem.W.fnOf "is_index" "is_index" (defArgs s_is_index) (defBody s_is_index) (defScope s_is_index) .none kV_ii dc_ii pm_ii an_ii cd_ii ct_ii), sl_ii⟩)
    (c_ii : PySem.W.codeIn K cd_ii "is_index" = true)
    (k_ii : PySem.W.keepIn K (.ref f_ii) = true)
    (a_ck : PySem.W.nsIn K mainGlobals "check_state" = some (some (.ref f_ck)))
    (l_ck : K.lookup f_ck = some ⟨oc_ck, od_ck, .func (PySem.W.fnOf "check_state" "check_state" (defArgs s_check) (defBody s_check) (defScope s_check) .none kV_ck dc_ck pm_ck an_ck cd_ck ct_ck), sl_ck⟩)
    (c_ck : PySem.W.codeIn K cd_ck "check_state" = true)
    (k_ck : PySem.W.keepIn K (.ref f_ck) = true)
    (a_ck2 : PySem.W.nsIn K mainGlobals "check_two_states" = some (some (.ref f_ck2)))
    (l_ck2 : K.lookup f_ck2 = some ⟨oc_ck2, od_ck2, .func (PySem.W.fnOf "check_two_states" "check_two_states" (defArgs s_check2) (defBody s_check2) (defScope s_check2) .none kV_ck2 dc_ck2 pm_ck2 an_ck2 cd_ck2 ct_ck2), sl_ck2⟩)
    (c_ck2 : PySem.W.codeIn K cd_ck2 "check_two_states" = true)
    (k_ck2 : PySem.W.keepIn K (.ref f_ck2) = true)
    (a_it : PySem.W.nsIn K mainGlobals "is_tuple_of" = some (some (.ref f_it)))
    (l_it : K.lookup f_it = some ⟨oc_it, od_it, .func (PySem.W.fnOf "is_tuple_of" "is_tuple_of" (defArgs s_is_tuple_of) (defBody s_is_tuple_of) (defScope s_is_tuple_of) .none kV_it dc_it pm_it an_it cd_it ct_it), sl_it⟩)
    (c_it : PySem.W.codeIn K cd_it "is_tuple_of" = true)
    (k_it : PySem.W.keepIn K (.ref f_it) = true)
    (a_ip : PySem.W.nsIn K mainGlobals "is_index_pair" = some (some (.ref f_ip)))
    (l_ip : K.lookup f_ip = some ⟨oc_ip, od_ip, .func (PySem.W.fnOf "is_index_pair" "is_index_pair" (defArgs s_ixp) (defBody s_ixp) (defScope s_ixp) .none kV_ip dc_ip pm_ip an_ip cd_ip ct_ip), sl_ip⟩)
    (c_ip : PySem.W.codeIn K cd_ip "is_index_pair" = true)
    (k_ip : PySem.W.keepIn K (.ref f_ip) = true)
    (a_xp : PySem.W.nsIn K mainGlobals "index_pairs" = some (some (.ref f_xp)))
    (l_xp : K.lookup f_xp = some ⟨oc_xp, od_xp, .func (PySem.W.fnOf "index_pairs" "index_pairs" (defArgs s_index_pairs) (defBody s_index_pairs) (defScope s_index_pairs) .none kV_xp dc_xp pm_xp an_xp cd_xp ct_xp), sl_xp⟩)
    (c_xp : PySem.W.codeIn K cd_xp "index_pairs" = true)
    (k_xp : PySem.W.keepIn K (.ref f_xp) = true)
    (a_SI : PySem.W.findIn K (.ref S) "__init__" = some (some (.ref f_SI)))
    (l_SI : K.lookup f_SI = some ⟨oc_SI, od_SI, .func (PySem.W.fnOf "__init__" "Share.__init__" (defArgs s_SI) (defBody s_SI) (defScope s_SI) (.ref T_SI) kV_SI dc_SI pm_SI an_SI cd_SI ct_SI), sl_SI⟩)
    (c_SI : PySem.W.codeIn K cd_SI "Share.__init__" = true)
    (k_SI : PySem.W.keepIn K (.ref f_SI) = true)
    (a_seq : PySem.W.findIn K (.ref S) "__eq__" = some (some (.ref f_seq)))
    (l_seq : K.lookup f_seq = some ⟨oc_seq, od_seq, .func (PySem.W.fnOf "__eq__" "Share.__eq__" (defArgs s_seq) (defBody s_seq) (defScope s_seq) .none kV_seq dc_seq pm_seq an_seq cd_seq ct_seq), sl_seq⟩)
    (c_seq : PySem.W.codeIn K cd_seq "Share.__eq__" = true)
    (k_seq : PySem.W.keepIn K (.ref f_seq) = true)
    (a_OI : PySem.W.findIn K (.ref C) "__init__" = some (some (.ref f_OI)))
    (l_OI : K.lookup f_OI = some ⟨oc_OI, od_OI, .func (PySem.W.fnOf "__init__" "Order.__init__" (defArgs s_OI) (defBody s_OI) (defScope s_OI) .none kV_OI dc_OI pm_OI an_OI cd_OI ct_OI), sl_OI⟩)
    (c_OI : PySem.W.codeIn K cd_OI "Order.__init__" = true)
    (k_OI : PySem.W.keepIn K (.ref f_OI) = true)
    (a_bel : PySem.W.findIn K (.ref C) "below" = some (some (.ref f_bel)))
    (l_bel : K.lookup f_bel = some ⟨oc_bel, od_bel, .func (PySem.W.fnOf "below" "Order.below" (defArgs s_below) (defBody s_below) (defScope s_below) .none kV_bel dc_bel pm_bel an_bel cd_bel ct_bel), sl_bel⟩)
    (c_bel : PySem.W.codeIn K cd_bel "Order.below" = true)
    (k_bel : PySem.W.keepIn K (.ref f_bel) = true)
    (a_pr : PySem.W.findIn K (.ref C) "pairs" = some (some (.ref f_pr)))
    (l_pr : K.lookup f_pr = some ⟨oc_pr, od_pr, .func (PySem.W.fnOf "pairs" "Order.pairs" (defArgs s_Order_pairs) (defBody s_Order_pairs) (defScope s_Order_pairs) .none kV_pr dc_pr pm_pr an_pr cd_pr ct_pr), sl_pr⟩)
    (c_pr : PySem.W.codeIn K cd_pr "Order.pairs" = true)
    (k_pr : PySem.W.keepIn K (.ref f_pr) = true)
    (a_tu : PySem.W.findIn K (.ref C) "turned" = some (some (.ref f_tu)))
    (l_tu : K.lookup f_tu = some ⟨oc_tu, od_tu, .func (PySem.W.fnOf "turned" "Order.turned" (defArgs s_turned) (defBody s_turned) (defScope s_turned) .none kV_tu dc_tu pm_tu an_tu cd_tu ct_tu), sl_tu⟩)
    (c_tu : PySem.W.codeIn K cd_tu "Order.turned" = true)
    (k_tu : PySem.W.keepIn K (.ref f_tu) = true)
    (a_oeq : PySem.W.findIn K (.ref C) "__eq__" = some (some (.ref f_oeq)))
    (l_oeq : K.lookup f_oeq = some ⟨oc_oeq, od_oeq, .func (PySem.W.fnOf "__eq__" "Order.__eq__" (defArgs s_Order_eq) (defBody s_Order_eq) (defScope s_Order_eq) .none kV_oeq dc_oeq pm_oeq an_oeq cd_oeq ct_oeq), sl_oeq⟩)
    (c_oeq : PySem.W.codeIn K cd_oeq "Order.__eq__" = true)
    (k_oeq : PySem.W.keepIn K (.ref f_oeq) = true)
    (a_lk : PySem.W.nsIn K mainGlobals "linked" = some (some (.ref f_lk)))
    (l_lk : K.lookup f_lk = some ⟨oc_lk, od_lk, .func (PySem.W.fnOf "linked" "linked" (defArgs s_linked) (defBody s_linked) (defScope s_linked) .none kV_lk dc_lk pm_lk an_lk cd_lk ct_lk), sl_lk⟩)
    (c_lk : PySem.W.codeIn K cd_lk "linked" = true)
    (k_lk : PySem.W.keepIn K (.ref f_lk) = true)
    (a_ln : PySem.W.nsIn K mainGlobals "line" = some (some (.ref f_ln)))
    (l_ln : K.lookup f_ln = some ⟨oc_ln, od_ln, .func (PySem.W.fnOf "line" "line" (defArgs s_line) (defBody s_line) (defScope s_line) .none kV_ln dc_ln pm_ln an_ln cd_ln ct_ln), sl_ln⟩)
    (c_ln : PySem.W.codeIn K cd_ln "line" = true)
    (k_ln : PySem.W.keepIn K (.ref f_ln) = true)
    (a_pool : PySem.W.nsIn K mainGlobals "_law_pool" = some (some (.ref f_pool)))
    (l_pool : K.lookup f_pool = some ⟨oc_pool, od_pool, .func (PySem.W.fnOf "_law_pool" "_law_pool" (defArgs s_pool) (defBody s_pool) (defScope s_pool) .none kV_pool dc_pool pm_pool an_pool cd_pool ct_pool), sl_pool⟩)
    (c_pool : PySem.W.codeIn K cd_pool "_law_pool" = true)
    (k_pool : PySem.W.keepIn K (.ref f_pool) = true)
    (a_draw : PySem.W.nsIn K mainGlobals "_law_draw" = some (some (.ref f_draw)))
    (l_draw : K.lookup f_draw = some ⟨oc_draw, od_draw, .func (PySem.W.fnOf "_law_draw" "_law_draw" (defArgs s_draw) (defBody s_draw) (defScope s_draw) .none kV_draw dc_draw pm_draw an_draw cd_draw ct_draw), sl_draw⟩)
    (c_draw : PySem.W.codeIn K cd_draw "_law_draw" = true)
    (k_draw : PySem.W.keepIn K (.ref f_draw) = true)
    (a_pick : PySem.W.nsIn K mainGlobals "_law_pick" = some (some (.ref f_pick)))
    (l_pick : K.lookup f_pick = some ⟨oc_pick, od_pick, .func (PySem.W.fnOf "_law_pick" "_law_pick" (defArgs s_pick) (defBody s_pick) (defScope s_pick) .none kV_pick dc_pick pm_pick an_pick cd_pick ct_pick), sl_pick⟩)
    (c_pick : PySem.W.codeIn K cd_pick "_law_pick" = true)
    (k_pick : PySem.W.keepIn K (.ref f_pick) = true)
    (a_turn : PySem.W.nsIn K mainGlobals "_law_turned_about" = some (some (.ref f_turn)))
    (l_turn : K.lookup f_turn = some ⟨oc_turn, od_turn, .func (PySem.W.fnOf "_law_turned_about" "_law_turned_about" (defArgs s_turn) (defBody s_turn) (defScope s_turn) .none kV_turn dc_turn pm_turn an_turn cd_turn ct_turn), sl_turn⟩)
    (c_turn : PySem.W.codeIn K cd_turn "_law_turned_about" = true)
    (k_turn : PySem.W.keepIn K (.ref f_turn) = true)
    (a_lp : PySem.W.nsIn K mainGlobals "_law_pairs" = some (some (.ref f_lp)))
    (l_lp : K.lookup f_lp = some ⟨oc_lp, od_lp, .func (PySem.W.fnOf "_law_pairs" "_law_pairs" (defArgs s_lpairs) (defBody s_lpairs) (defScope s_lpairs) .none kV_lp dc_lp pm_lp an_lp cd_lp ct_lp), sl_lp⟩)
    (c_lp : PySem.W.codeIn K cd_lp "_law_pairs" = true)
    (k_lp : PySem.W.keepIn K (.ref f_lp) = true)
    (a_op : PySem.W.nsIn K mainGlobals "_law_order_pairs" = some (some (.ref f_op)))
    (l_op : K.lookup f_op = some ⟨oc_op, od_op, .func (PySem.W.fnOf "_law_order_pairs" "_law_order_pairs" (defArgs s_ordps) (defBody s_ordps) (defScope s_ordps) .none kV_op dc_op pm_op an_op cd_op ct_op), sl_op⟩)
    (c_op : PySem.W.codeIn K cd_op "_law_order_pairs" = true)
    (k_op : PySem.W.keepIn K (.ref f_op) = true)
    (a_fl : PySem.W.nsIn K mainGlobals "_law_flags" = some (some (.ref f_fl)))
    (l_fl : K.lookup f_fl = some ⟨oc_fl, od_fl, .func (PySem.W.fnOf "_law_flags" "_law_flags" (defArgs s_flags) (defBody s_flags) (defScope s_flags) .none kV_fl dc_fl pm_fl an_fl cd_fl ct_fl), sl_fl⟩)
    (c_fl : PySem.W.codeIn K cd_fl "_law_flags" = true)
    (k_fl : PySem.W.keepIn K (.ref f_fl) = true)
    (a_jo : PySem.W.nsIn K mainGlobals "_law_joined" = some (some (.ref f_jo)))
    (l_jo : K.lookup f_jo = some ⟨oc_jo, od_jo, .func (PySem.W.fnOf "_law_joined" "_law_joined" (defArgs s_joined) (defBody s_joined) (defScope s_joined) .none kV_jo dc_jo pm_jo an_jo cd_jo ct_jo), sl_jo⟩)
    (c_jo : PySem.W.codeIn K cd_jo "_law_joined" = true)
    (k_jo : PySem.W.keepIn K (.ref f_jo) = true)
    (a_ta : PySem.W.nsIn K mainGlobals "_law_table" = some (some (.ref f_ta)))
    (l_ta : K.lookup f_ta = some ⟨oc_ta, od_ta, .func (PySem.W.fnOf "_law_table" "_law_table" (defArgs s_table) (defBody s_table) (defScope s_table) .none kV_ta dc_ta pm_ta an_ta cd_ta ct_ta), sl_ta⟩)
    (c_ta : PySem.W.codeIn K cd_ta "_law_table" = true)
    (k_ta : PySem.W.keepIn K (.ref f_ta) = true)
    (a_lint : PySem.W.nsIn K mainGlobals "_law_is_integer" = some (some (.ref f_lint)))
    (l_lint : K.lookup f_lint = some ⟨oc_lint, od_lint, .func (PySem.W.fnOf "_law_is_integer" "_law_is_integer" (defArgs s_lint) (defBody s_lint) (defScope s_lint) .none kV_lint dc_lint pm_lint an_lint cd_lint ct_lint), sl_lint⟩)
    (c_lint : PySem.W.codeIn K cd_lint "_law_is_integer" = true)
    (k_lint : PySem.W.keepIn K (.ref f_lint) = true)
    (a_same : PySem.W.nsIn K mainGlobals "_law_same_thing" = some (some (.ref f_same)))
    (l_same : K.lookup f_same = some ⟨oc_same, od_same, .func (PySem.W.fnOf "_law_same_thing" "_law_same_thing" (defArgs s_same) (defBody s_same) (defScope s_same) .none kV_same dc_same pm_same an_same cd_same ct_same), sl_same⟩)
    (c_same : PySem.W.codeIn K cd_same "_law_same_thing" = true)
    (k_same : PySem.W.keepIn K (.ref f_same) = true)
    (a_more : PySem.W.nsIn K mainGlobals "_law_more_pairs" = some (some (.ref f_more)))
    (l_more : K.lookup f_more = some ⟨oc_more, od_more, .func (PySem.W.fnOf "_law_more_pairs" "_law_more_pairs" (defArgs s_more) (defBody s_more) (defScope s_more) .none kV_more dc_more pm_more an_more cd_more ct_more), sl_more⟩)
    (c_more : PySem.W.codeIn K cd_more "_law_more_pairs" = true)
    (k_more : PySem.W.keepIn K (.ref f_more) = true)
    (a_told : PySem.W.nsIn K mainGlobals "_law_is_told" = some (some (.ref f_told)))
    (l_told : K.lookup f_told = some ⟨oc_told, od_told, .func (PySem.W.fnOf "_law_is_told" "_law_is_told" (defArgs s_told) (defBody s_told) (defScope s_told) .none kV_told dc_told pm_told an_told cd_told ct_told), sl_told⟩)
    (c_told : PySem.W.codeIn K cd_told "_law_is_told" = true)
    (k_told : PySem.W.keepIn K (.ref f_told) = true)
    (a_asked : PySem.W.nsIn K mainGlobals "_law_asked" = some (some (.ref f_asked)))
    (l_asked : K.lookup f_asked = some ⟨oc_asked, od_asked, .func (PySem.W.fnOf "_law_asked" "_law_asked" (defArgs s_asked) (defBody s_asked) (defScope s_asked) .none kV_asked dc_asked pm_asked an_asked cd_asked ct_asked), sl_asked⟩)
    (c_asked : PySem.W.codeIn K cd_asked "_law_asked" = true)
    (k_asked : PySem.W.keepIn K (.ref f_asked) = true)
    (a_refu : PySem.W.nsIn K mainGlobals "_law_refuses" = some (some (.ref f_refu)))
    (l_refu : K.lookup f_refu = some ⟨oc_refu, od_refu, .func (PySem.W.fnOf "_law_refuses" "_law_refuses" (defArgs s_refuses) (defBody s_refuses) (defScope s_refuses) .none kV_refu dc_refu pm_refu an_refu cd_refu ct_refu), sl_refu⟩)
    (c_refu : PySem.W.codeIn K cd_refu "_law_refuses" = true)
    (k_refu : PySem.W.keepIn K (.ref f_refu) = true)
    (a_sec : PySem.W.nsIn K mainGlobals "_law_second" = some (some (.ref f_sec)))
    (l_sec : K.lookup f_sec = some ⟨oc_sec, od_sec, .func (PySem.W.fnOf "_law_second" "_law_second" (defArgs s_second) (defBody s_second) (defScope s_second) .none kV_sec dc_sec pm_sec an_sec cd_sec ct_sec), sl_sec⟩)
    (c_sec : PySem.W.codeIn K cd_sec "_law_second" = true)
    (k_sec : PySem.W.keepIn K (.ref f_sec) = true)
    (a_isp : PySem.W.nsIn K mainGlobals "_law_is_pair" = some (some (.ref f_isp)))
    (l_isp : K.lookup f_isp = some ⟨oc_isp, od_isp, .func (PySem.W.fnOf "_law_is_pair" "_law_is_pair" (defArgs s_isp) (defBody s_isp) (defScope s_isp) .none kV_isp dc_isp pm_isp an_isp cd_isp ct_isp), sl_isp⟩)
    (c_isp : PySem.W.codeIn K cd_isp "_law_is_pair" = true)
    (k_isp : PySem.W.keepIn K (.ref f_isp) = true)
    (a_szs : PySem.W.nsIn K mainGlobals "_law_sizes" = some (some (.ref f_szs)))
    (l_szs : K.lookup f_szs = some ⟨oc_szs, od_szs, .func (PySem.W.fnOf "_law_sizes" "_law_sizes" (defArgs s_sizes) (defBody s_sizes) (defScope s_sizes) .none kV_szs dc_szs pm_szs an_szs cd_szs ct_szs), sl_szs⟩)
    (c_szs : PySem.W.codeIn K cd_szs "_law_sizes" = true)
    (k_szs : PySem.W.keepIn K (.ref f_szs) = true)
    (a_thi : PySem.W.nsIn K mainGlobals "_law_things" = some (some (.ref f_thi)))
    (l_thi : K.lookup f_thi = some ⟨oc_thi, od_thi, .func (PySem.W.fnOf "_law_things" "_law_things" (defArgs s_things) (defBody s_things) (defScope s_things) .none kV_thi dc_thi pm_thi an_thi cd_thi ct_thi), sl_thi⟩)
    (c_thi : PySem.W.codeIn K cd_thi "_law_things" = true)
    (k_thi : PySem.W.keepIn K (.ref f_thi) = true)
    (a_spo : PySem.W.nsIn K mainGlobals "_law_spoiled" = some (some (.ref f_spo)))
    (l_spo : K.lookup f_spo = some ⟨oc_spo, od_spo, .func (PySem.W.fnOf "_law_spoiled" "_law_spoiled" (defArgs s_spoiled) (defBody s_spoiled) (defScope s_spoiled) .none kV_spo dc_spo pm_spo an_spo cd_spo ct_spo), sl_spo⟩)
    (c_spo : PySem.W.codeIn K cd_spo "_law_spoiled" = true)
    (k_spo : PySem.W.keepIn K (.ref f_spo) = true)
    (a_isz : PySem.W.nsIn K mainGlobals "_law_is_size" = some (some (.ref f_isz)))
    (l_isz : K.lookup f_isz = some ⟨oc_isz, od_isz, .func (PySem.W.fnOf "_law_is_size" "_law_is_size" (defArgs s_isz) (defBody s_isz) (defScope s_isz) .none kV_isz dc_isz pm_isz an_isz cd_isz ct_isz), sl_isz⟩)
    (c_isz : PySem.W.codeIn K cd_isz "_law_is_size" = true)
    (k_isz : PySem.W.keepIn K (.ref f_isz) = true)
    (a_iso : PySem.W.nsIn K mainGlobals "_law_is_order" = some (some (.ref f_iso)))
    (l_iso : K.lookup f_iso = some ⟨oc_iso, od_iso, .func (PySem.W.fnOf "_law_is_order" "_law_is_order" (defArgs s_iso) (defBody s_iso) (defScope s_iso) .none kV_iso dc_iso pm_iso an_iso cd_iso ct_iso), sl_iso⟩)
    (c_iso : PySem.W.codeIn K cd_iso "_law_is_order" = true)
    (k_iso : PySem.W.keepIn K (.ref f_iso) = true)
    (a_made : PySem.W.nsIn K mainGlobals "_law_made" = some (some (.ref f_made)))
    (l_made : K.lookup f_made = some ⟨oc_made, od_made, .func (PySem.W.fnOf "_law_made" "_law_made" (defArgs s_made) (defBody s_made) (defScope s_made) .none kV_made dc_made pm_made an_made cd_made ct_made), sl_made⟩)
    (c_made : PySem.W.codeIn K cd_made "_law_made" = true)
    (k_made : PySem.W.keepIn K (.ref f_made) = true)
    (a_rig : PySem.W.nsIn K mainGlobals "_law_is_right" = some (some (.ref f_rig)))
    (l_rig : K.lookup f_rig = some ⟨oc_rig, od_rig, .func (PySem.W.fnOf "_law_is_right" "_law_is_right" (defArgs s_right) (defBody s_right) (defScope s_right) .none kV_rig dc_rig pm_rig an_rig cd_rig ct_rig), sl_rig⟩)
    (c_rig : PySem.W.codeIn K cd_rig "_law_is_right" = true)
    (k_rig : PySem.W.keepIn K (.ref f_rig) = true)
    (a_lli : PySem.W.nsIn K mainGlobals "_law_line" = some (some (.ref f_lli)))
    (l_lli : K.lookup f_lli = some ⟨oc_lli, od_lli, .func (PySem.W.fnOf "_law_line" "_law_line" (defArgs s_lline) (defBody s_lline) (defScope s_lline) .none kV_lli dc_lli pm_lli an_lli cd_lli ct_lli), sl_lli⟩)
    (c_lli : PySem.W.codeIn K cd_lli "_law_line" = true)
    (k_lli : PySem.W.keepIn K (.ref f_lli) = true)
    (a_of : PySem.W.nsIn K mainGlobals "_law_of_orders" = some (some (.ref f_of)))
    (l_of : K.lookup f_of = some ⟨oc_of, od_of, .func (PySem.W.fnOf "_law_of_orders" "_law_of_orders" (defArgs s_of) (defBody s_of) (defScope s_of) .none kV_of dc_of pm_of an_of cd_of ct_of), sl_of⟩)
    (c_of : PySem.W.codeIn K cd_of "_law_of_orders" = true)
    (k_of : PySem.W.keepIn K (.ref f_of) = true)
    (a_ofr : PySem.W.nsIn K mainGlobals "_law_of_refused_pairs" = some (some (.ref f_ofr)))
    (l_ofr : K.lookup f_ofr = some ⟨oc_ofr, od_ofr, .func (PySem.W.fnOf "_law_of_refused_pairs" "_law_of_refused_pairs" (defArgs s_ofr) (defBody s_ofr) (defScope s_ofr) .none kV_ofr dc_ofr pm_ofr an_ofr cd_ofr ct_ofr), sl_ofr⟩)
    (c_ofr : PySem.W.codeIn K cd_ofr "_law_of_refused_pairs" = true)
    (k_ofr : PySem.W.keepIn K (.ref f_ofr) = true)
    (a_law : PySem.W.nsIn K mainGlobals "law" = some (some (.ref f_law)))
    (l_law : K.lookup f_law = some ⟨oc_law, od_law, .func (PySem.W.fnOf "law" "law" (defArgs s_law) (defBody s_law) (defScope s_law) .none kV_law dc_law pm_law an_law cd_law ct_law), sl_law⟩)
    (c_law : PySem.W.codeIn K cd_law "law" = true)
    (k_law : PySem.W.keepIn K (.ref f_law) = true)
    (dSI : K.lookup T_SI = some ⟨tcS, tdS, .seq #[.int 1 tkS] tnS, tsS⟩)
    (dWE : K.lookup T_WE = some ⟨tcW, tdW, .seq #[.str xW tkW] tnW, tsW⟩)
    (hn : PySem.W.specialIn K (.builtin "object.__class__") "__get__" = some (some (.builtin "getset_descriptor.__get__")))
    (htk : PySem.W.takesIn K (.builtin "object.__class__") = some true)
    (pgC : PySem.W.plainGet K C Str.empty = true)
    (hdC : PySem.W.hasDictIn K C = true)
    (poC : PySem.W.plainOver K C = true)
    (saC : PySem.W.findIn K (.ref C) "__setattr__" = some (some (.builtin "object.__setattr__")))
    (mkC : PySem.W.makesIn K C = true)
    (kcC : PySem.W.keepIn K (.ref C) = true)
    (tCC : PySem.W.typeIn K (.ref C) = some (.type "type"))
    (haC : PySem.W.findIn K (.ref C) "__class__" = some (some (.builtin "object.__class__")))
    (hmC : PySem.W.mroIn K C (.type "object") = some true)
    (neC : PySem.W.findIn K (.ref C) "__ne__" = some (some (.builtin "object.__ne__")))
    (uC_int : PySem.W.subIn K (.ref C) (.type "int") = some false)
    (uC_bool : PySem.W.subIn K (.ref C) (.type "bool") = some false)
    (uC_NoneType : PySem.W.subIn K (.ref C) (.type "NoneType") = some false)
    (uC_str : PySem.W.subIn K (.ref C) (.type "str") = some false)
    (uC_list : PySem.W.subIn K (.ref C) (.type "list") = some false)
    (uC_tuple : PySem.W.subIn K (.ref C) (.type "tuple") = some false)
    (uC_dict : PySem.W.subIn K (.ref C) (.type "dict") = some false)
    (pgS : PySem.W.plainGet K S Str.empty = true)
    (hdS : PySem.W.hasDictIn K S = true)
    (poS : PySem.W.plainOver K S = true)
    (saS : PySem.W.findIn K (.ref S) "__setattr__" = some (some (.builtin "object.__setattr__")))
    (mkS : PySem.W.makesIn K S = true)
    (kcS : PySem.W.keepIn K (.ref S) = true)
    (tCS : PySem.W.typeIn K (.ref S) = some (.type "type"))
    (haS : PySem.W.findIn K (.ref S) "__class__" = some (some (.builtin "object.__class__")))
    (hmS : PySem.W.mroIn K S (.type "object") = some true)
    (neS : PySem.W.findIn K (.ref S) "__ne__" = some (some (.builtin "object.__ne__")))
    (uS_int : PySem.W.subIn K (.ref S) (.type "int") = some false)
    (uS_bool : PySem.W.subIn K (.ref S) (.type "bool") = some false)
    (uS_NoneType : PySem.W.subIn K (.ref S) (.type "NoneType") = some false)
    (uS_str : PySem.W.subIn K (.ref S) (.type "str") = some false)
    (uS_list : PySem.W.subIn K (.ref S) (.type "list") = some false)
    (uS_tuple : PySem.W.subIn K (.ref S) (.type "tuple") = some false)
    (uS_dict : PySem.W.subIn K (.ref S) (.type "dict") = some false)
    (nSz : PySem.W.findIn K (.ref C) "size" = some none)
    (nLw : PySem.W.findIn K (.ref C) "_lower" = some none)
    (nT : PySem.W.findIn K (.ref S) "top" = some none)
    (nBm : PySem.W.findIn K (.ref S) "bottom" = some none)
    (i_SI : PySem.W.isFn K (.ref f_SI) = true)
    (i_seq : PySem.W.isFn K (.ref f_seq) = true)
    (i_OI : PySem.W.isFn K (.ref f_OI) = true)
    (i_bel : PySem.W.isFn K (.ref f_bel) = true)
    (i_pr : PySem.W.isFn K (.ref f_pr) = true)
    (i_tu : PySem.W.isFn K (.ref f_tu) = true)
    (i_oeq : PySem.W.isFn K (.ref f_oeq) = true)
    (xN : K.lookup BN = some (excClassObj nmN qN BN NN bsN bmN true snN subN abN colN ddN b0N b1N b2N b3N b5N "ValueError.__new__"))
    (rN : PySem.HandSPX.refsVE bmN = true)
    (saN : PySem.W.findIn K (.ref BN) "__setattr__" = some (some (.builtin "object.__setattr__")))
    (exN : PySem.W.subIn K (.ref BN) (.type "BaseException") = some true)
    (tN : PySem.W.typeIn K (.ref BN) = some (.type "type"))
    (kN : PySem.W.keepIn K (.ref BN) = true)
    (hdN : PySem.W.hasDictIn K BN = true)
    (sBN : PySem.W.subIn K (.ref BN) (.ref BN) = some true)
    (xB : K.lookup BO = some (excClassObj nmB qB BO NB bsB bmB true snB subB abB colB ddB b0B b1B b2B b3B b5B "ValueError.__new__"))
    (rB : PySem.HandSPX.refsVE bmB = true)
    (saB : PySem.W.findIn K (.ref BO) "__setattr__" = some (some (.builtin "object.__setattr__")))
    (exB : PySem.W.subIn K (.ref BO) (.type "BaseException") = some true)
    (tB : PySem.W.typeIn K (.ref BO) = some (.type "type"))
    (kB : PySem.W.keepIn K (.ref BO) = true)
    (hdB : PySem.W.hasDictIn K BO = true)
    (sBB : PySem.W.subIn K (.ref BO) (.ref BO) = some true)
    (nst : PySem.W.findIn K (.ref BN) "state" = some none)
    (tfN : PySem.W.typeIn K (.ref f_NS) = some (.type "function"))
    (tfB : PySem.W.typeIn K (.ref f_BO) = some (.type "function"))
    (gaN : PySem.W.findIn K (.ref BN) "__getattribute__" = some (some (.builtin "BaseException.__getattribute__")))
    (ggN : PySem.W.findIn K (.ref BN) "__getattr__" = some none)
    (rdW : PySem.W.readsIn K W (.type "type") = true)
    (gaW : PySem.W.specialIn K (.ref W) "__getattribute__" = some (some (.builtin "type.__getattribute__")))
    (fcW : PySem.W.findCls K (.ref W) (.type "type") "__init__" = some (.val (.ref f_WE)))
    (vV : PySem.W.findCls K (.type "ValueError") (.type "type") "__init__" = some (.val (.builtin "ValueError.__init__"))) :
    ∃ fd : FuncData, (∀ (s : Shared) (v : Value), BindsTo s fd ⟨[v], []⟩ [("_law_script", v)]) ∧ ∀ base : Heap, K.In base → base.Ns mainGlobals mg → FnOk l.prog w K mg base CX0 10 fa fd ["_law_script"] (spOf K) := by
  have e := hfa.symm.trans (PySem.W.mg_of X G a_law)
  cases e
  subst eM
  have F_SI : FunD K "__init__" "Share.__init__" (defArgs s_SI) (defBody s_SI) (defScope s_SI) [.int 1] [] f_SI _ := ⟨⟨_, _, _, _, _, _, _, _, _, _, rfl, l_SI, c_SI, .inr ⟨by simp, _, _, _, _, rfl, dSI, rfl, .cons ⟨_, rfl⟩ .nil⟩, .inl rfl⟩, k_SI⟩
  have F_WE : FunD K "__init__" "WalkError.__init__" (defArgs s_WE) (defBody s_WE) (defScope s_WE) [.str xW] [] f_WE _ := ⟨⟨_, _, _, _, _, _, _, _, _, _, rfl, l_WE, c_WE, .inr ⟨by simp, _, _, _, _, rfl, dWE, rfl, .cons ⟨_, rfl⟩ .nil⟩, .inl rfl⟩, k_WE⟩
  have F_NS := fun_mk (st := s_NS) l_NS c_NS k_NS
  have F_BO := fun_mk (st := s_BO) l_BO c_BO k_BO
  have F_iw := fun_mk (st := s_is_whole) l_iw c_iw k_iw
  have F_ib := fun_mk (st := s_is_between) l_ib c_ib k_ib
  have F_ii := fun_mk (st := s_is_index) l_ii c_ii k_ii
  have F_ck := fun_mk (st := s_check) l_ck c_ck k_ck
  have F_ck2 := fun_mk (st := s_check2) l_ck2 c_ck2 k_ck2
  have F_it := fun_mk (st := s_is_tuple_of) l_it c_it k_it
  have F_ip := fun_mk (st := s_ixp) l_ip c_ip k_ip
  have F_xp := fun_mk (st := s_index_pairs) l_xp c_xp k_xp
  have F_seq := fun_mk (st := s_seq) l_seq c_seq k_seq
  have F_OI := fun_mk (st := s_OI) l_OI c_OI k_OI
  have F_bel := fun_mk (st := s_below) l_bel c_bel k_bel
  have F_pr := fun_mk (st := s_Order_pairs) l_pr c_pr k_pr
  have F_tu := fun_mk (st := s_turned) l_tu c_tu k_tu
  have F_oeq := fun_mk (st := s_Order_eq) l_oeq c_oeq k_oeq
  have F_lk := fun_mk (st := s_linked) l_lk c_lk k_lk
  have F_ln := fun_mk (st := s_line) l_ln c_ln k_ln
  have F_pool := fun_mk (st := s_pool) l_pool c_pool k_pool
  have F_draw := fun_mk (st := s_draw) l_draw c_draw k_draw
  have F_pick := fun_mk (st := s_pick) l_pick c_pick k_pick
  have F_turn := fun_mk (st := s_turn) l_turn c_turn k_turn
  have F_lp := fun_mk (st := s_lpairs) l_lp c_lp k_lp
  have F_op := fun_mk (st := s_ordps) l_op c_op k_op
  have F_fl := fun_mk (st := s_flags) l_fl c_fl k_fl
  have F_jo := fun_mk (st := s_joined) l_jo c_jo k_jo
  have F_ta := fun_mk (st := s_table) l_ta c_ta k_ta
  have F_lint := fun_mk (st := s_lint) l_lint c_lint k_lint
  have F_same := fun_mk (st := s_same) l_same c_same k_same
  have F_more := fun_mk (st := s_more) l_more c_more k_more
  have F_told := fun_mk (st := s_told) l_told c_told k_told
  have F_asked := fun_mk (st := s_asked) l_asked c_asked k_asked
  have F_refu := fun_mk (st := s_refuses) l_refu c_refu k_refu
  have F_sec := fun_mk (st := s_second) l_sec c_sec k_sec
  have F_isp := fun_mk (st := s_isp) l_isp c_isp k_isp
  have F_szs := fun_mk (st := s_sizes) l_szs c_szs k_szs
  have F_thi := fun_mk (st := s_things) l_thi c_thi k_thi
  have F_spo := fun_mk (st := s_spoiled) l_spo c_spo k_spo
  have F_isz := fun_mk (st := s_isz) l_isz c_isz k_isz
  have F_iso := fun_mk (st := s_iso) l_iso c_iso k_iso
  have F_made := fun_mk (st := s_made) l_made c_made k_made
  have F_rig := fun_mk (st := s_right) l_rig c_rig k_rig
  have F_lli := fun_mk (st := s_lline) l_lli c_lli k_lli
  have F_of := fun_mk (st := s_of) l_of c_of k_of
  have F_ofr := fun_mk (st := s_ofr) l_ofr c_ofr k_ofr
  have F_law := fun_mk (st := s_law) l_law c_law k_law
  have b_NS := F_NS.binds (ps := ["self", "state"]) fun _ _ _ _ _ _ us hl => match us, hl with | [_, _], _ => rfl
  have b_BO := F_BO.binds (ps := ["self"]) fun _ _ _ _ _ _ us hl => match us, hl with | [_], _ => rfl
  have b_iw := F_iw.binds (ps := ["thing"]) fun _ _ _ _ _ _ us hl => match us, hl with | [_], _ => rfl
  have b_ib := F_ib.binds (ps := ["least", "most", "thing"]) fun _ _ _ _ _ _ us hl => match us, hl with | [_, _, _], _ => rfl
  have b_ii := F_ii.binds (ps := ["many", "thing"]) fun _ _ _ _ _ _ us hl => match us, hl with | [_, _], _ => rfl
  have b_ck := F_ck.binds (ps := ["size", "state"]) fun _ _ _ _ _ _ us hl => match us, hl with | [_, _], _ => rfl
  have b_ck2 := F_ck2.binds (ps := ["size", "s", "t"]) fun _ _ _ _ _ _ us hl => match us, hl with | [_, _, _], _ => rfl
  have b_it := F_it.binds (ps := ["many", "thing"]) fun _ _ _ _ _ _ us hl => match us, hl with | [_, _], _ => rfl
  have b_ip := F_ip.binds (ps := ["many", "thing"]) fun _ _ _ _ _ _ us hl => match us, hl with | [_, _], _ => rfl
  have b_xp := F_xp.binds (ps := ["many"]) fun _ _ _ _ _ _ us hl => match us, hl with | [_], _ => rfl
  have b_seq := F_seq.binds (ps := ["self", "other"]) fun _ _ _ _ _ _ us hl => match us, hl with | [_, _], _ => rfl
  have b_OI := F_OI.binds (ps := ["self", "size", "pairs"]) fun _ _ _ _ _ _ us hl => match us, hl with | [_, _, _], _ => rfl
  have b_bel := F_bel.binds (ps := ["self", "s", "t"]) fun _ _ _ _ _ _ us hl => match us, hl with | [_, _, _], _ => rfl
  have b_pr := F_pr.binds (ps := ["self"]) fun _ _ _ _ _ _ us hl => match us, hl with | [_], _ => rfl
  have b_tu := F_tu.binds (ps := ["self"]) fun _ _ _ _ _ _ us hl => match us, hl with | [_], _ => rfl
  have b_oeq := F_oeq.binds (ps := ["self", "other"]) fun _ _ _ _ _ _ us hl => match us, hl with | [_, _], _ => rfl
  have b_lk := F_lk.binds (ps := ["size", "pairs"]) fun _ _ _ _ _ _ us hl => match us, hl with | [_, _], _ => rfl
  have b_ln := F_ln.binds (ps := ["size"]) fun _ _ _ _ _ _ us hl => match us, hl with | [_], _ => rfl
  have b_pool := F_pool.binds (ps := ["_law_script"]) fun _ _ _ _ _ _ us hl => match us, hl with | [_], _ => rfl
  have b_draw := F_draw.binds (ps := ["_law_pool_here", "_law_many"]) fun _ _ _ _ _ _ us hl => match us, hl with | [_, _], _ => rfl
  have b_pick := F_pick.binds (ps := ["_law_pool_here", "_law_things_here"]) fun _ _ _ _ _ _ us hl => match us, hl with | [_, _], _ => rfl
  have b_turn := F_turn.binds (ps := ["_law_pool_here", "_law_things_here"]) fun _ _ _ _ _ _ us hl => match us, hl with | [_, _], _ => rfl
  have b_lp := F_lp.binds (ps := ["_law_size"]) fun _ _ _ _ _ _ us hl => match us, hl with | [_], _ => rfl
  have b_op := F_op.binds (ps := ["_law_pool_here", "_law_size"]) fun _ _ _ _ _ _ us hl => match us, hl with | [_, _], _ => rfl
  have b_fl := F_fl.binds (ps := ["_law_size", "_law_pairs_here", "_law_s"]) fun _ _ _ _ _ _ us hl => match us, hl with | [_, _, _], _ => rfl
  have b_jo := F_jo.binds (ps := ["_law_table_here", "_law_row", "_law_via"]) fun _ _ _ _ _ _ us hl => match us, hl with | [_, _, _], _ => rfl
  have b_ta := F_ta.binds (ps := ["_law_size", "_law_pairs_here"]) fun _ _ _ _ _ _ us hl => match us, hl with | [_, _], _ => rfl
  have b_lint := F_lint.binds (ps := ["_law_thing"]) fun _ _ _ _ _ _ us hl => match us, hl with | [_], _ => rfl
  have b_same := F_same.binds (ps := ["_law_one", "_law_other"]) fun _ _ _ _ _ _ us hl => match us, hl with | [_, _], _ => rfl
  have b_more := F_more.binds (ps := ["_law_pool_here", "_law_size", "_law_pairs_here"]) fun _ _ _ _ _ _ us hl => match us, hl with | [_, _, _], _ => rfl
  have b_told := F_told.binds (ps := ["_law_order", "_law_size", "_law_table_here"]) fun _ _ _ _ _ _ us hl => match us, hl with | [_, _, _], _ => rfl
  have b_asked := F_asked.binds (ps := ["_law_order", "_law_s", "_law_t"]) fun _ _ _ _ _ _ us hl => match us, hl with | [_, _, _], _ => rfl
  have b_refu := F_refu.binds (ps := ["_law_pool_here", "_law_order", "_law_size"]) fun _ _ _ _ _ _ us hl => match us, hl with | [_, _, _], _ => rfl
  have b_sec := F_sec.binds (ps := ["_law_pool_here", "_law_size", "_law_pairs_here"]) fun _ _ _ _ _ _ us hl => match us, hl with | [_, _, _], _ => rfl
  have b_isp := F_isp.binds (ps := ["_law_size", "_law_thing"]) fun _ _ _ _ _ _ us hl => match us, hl with | [_, _], _ => rfl
  have b_szs := F_szs.binds (ps := ["_law_pool_here"]) fun _ _ _ _ _ _ us hl => match us, hl with | [_], _ => rfl
  have b_thi := F_thi.binds (ps := ["_law_size"]) fun _ _ _ _ _ _ us hl => match us, hl with | [_], _ => rfl
  have b_spo := F_spo.binds (ps := ["_law_pool_here", "_law_size", "_law_pairs_here"]) fun _ _ _ _ _ _ us hl => match us, hl with | [_, _, _], _ => rfl
  have b_isz := F_isz.binds (ps := ["_law_thing"]) fun _ _ _ _ _ _ us hl => match us, hl with | [_], _ => rfl
  have b_iso := F_iso.binds (ps := ["_law_size", "_law_pairs_here"]) fun _ _ _ _ _ _ us hl => match us, hl with | [_, _], _ => rfl
  have b_made := F_made.binds (ps := ["_law_size", "_law_pairs_here"]) fun _ _ _ _ _ _ us hl => match us, hl with | [_, _], _ => rfl
  have b_rig := F_rig.binds (ps := ["_law_size", "_law_pairs_here"]) fun _ _ _ _ _ _ us hl => match us, hl with | [_, _], _ => rfl
  have b_lli := F_lli.binds (ps := ["_law_size"]) fun _ _ _ _ _ _ us hl => match us, hl with | [_], _ => rfl
  have b_of := F_of.binds (ps := ["_law_script"]) fun _ _ _ _ _ _ us hl => match us, hl with | [_], _ => rfl
  have b_ofr := F_ofr.binds (ps := ["_law_script"]) fun _ _ _ _ _ _ us hl => match us, hl with | [_], _ => rfl
  obtain ⟨dsS, vS, bSI1⟩ := F_SI.binds1 (ps := ["self", "top", "bottom"]) 2 0 (by simp) rfl fun _ _ _ _ _ _ _ us its hu hi => match us, its, hu, hi with | [_, _], [_], _, _ => ⟨_, rfl, rfl⟩
  obtain ⟨d3, v3, bWE⟩ := F_WE.binds1 (ps := ["self", "words"]) 2 1 (by simp) rfl fun _ _ _ _ _ _ _ us its hu hi => match us, its, hu, hi with | [_, _], [_], _, _ => ⟨_, rfl, rfl⟩
  cases v3
  have bn : Bn mg := ⟨PySem.W.mg_none_of X G n_isinstance, PySem.W.mg_none_of X G n_int, PySem.W.mg_none_of X G n_bool, PySem.W.mg_none_of X G n_abs, PySem.W.mg_none_of X G n_len, PySem.W.mg_none_of X G n_list, PySem.W.mg_none_of X G n_tuple, PySem.W.mg_none_of X G n_range, PySem.W.mg_none_of X G n_all, PySem.W.mg_none_of X G n_any, PySem.W.mg_none_of X G n_ValueError⟩
  have sI : ShI K S := { cl := ⟨pgS, hdS, poS, saS⟩, ha := haS, hn := hn, htk := htk, hm := hmS, cint := kit_sub uS_int (by decide +kernel), cbool := kit_sub uS_bool (by decide +kernel), clist := kit_sub uS_list (by decide +kernel), ctup := kit_sub uS_tuple (by decide +kernel), self := kit_self K S, other := fun _ _ => trivial, oint := kit_from hdS tCS (l := [.type "int", .type "object"]) (by decide +kernel) (by decide +kernel), obool := kit_from hdS tCS (l := [.type "bool", .type "int", .type "object"]) (by decide +kernel) (by decide +kernel), onon := kit_from hdS tCS (l := [.type "NoneType", .type "object"]) (by decide +kernel) (by decide +kernel), ostr := kit_from hdS tCS (l := [.type "str", .type "object"]) (by decide +kernel) (by decide +kernel), olst := kit_from hdS tCS (l := [.type "list", .type "object"]) (by decide +kernel) (by decide +kernel), otup := kit_from hdS tCS (l := [.type "tuple", .type "object"]) (by decide +kernel) (by decide +kernel), odct := kit_from hdS tCS (l := [.type "dict", .type "object"]) (by decide +kernel) (by decide +kernel) }
  have T : OrT K mg C := { bn := bn, cl := ⟨pgC, hdC, poC, saC⟩, nS := nSz, nL := nLw, ha := haC, hn := hn, htk := htk, hm := hmC, self := kit_self K C, gO := PySem.W.mg_of X G aC, gM := ⟨tk, PySem.W.mg_of X G aM⟩ }
  have sU : ShU K mg S := { I := sI, nT := nT, nB := nBm, g_gcd := PySem.W.mg_of X G aG, gS := PySem.W.mg_of X G aS }
  have gW : mg "WalkError" = some (.ref W) := PySem.W.mg_of X G aW
  have ON : OexC K BN := { cls := ⟨_, _, _, _, _, _, _, _, _, _, _, _, _, _, _, xN, rN⟩, sa := saN, exC := exN, tyC := tN, kC := kN }
  have OB : OexC K BO := { cls := ⟨_, _, _, _, _, _, _, _, _, _, _, _, _, _, _, xB, rB⟩, sa := saB, exC := exB, tyC := tB, kC := kB }
  have cW : ClsFn K W (.type "type") "__init__" f_WE := ⟨rdW, gaW, fcW, k_WE⟩
  have xmN : PySem.W.exmOne K (.ref BN) (.ref BN) = some true := PySem.W.exm_ref exN hdN tN sBN
  have xmB : PySem.W.exmOne K (.ref BO) (.ref BO) = some true := PySem.W.exm_ref exB hdB tB sBB
  have nsc : NsC K mg BN := ⟨xmN, ⟨gaN, ggN, exN, hdN⟩, nst, PySem.W.mg_of X G aN⟩
  have ownS : OwnT K S f_seq := { q := ⟨a_seq, neS, hmS, i_seq⟩, sint := uS_int, sbool := uS_bool, snon := uS_NoneType, sstr := uS_str, slst := uS_list, stup := uS_tuple, sdct := uS_dict }
  have ownC : OwnT K C f_oeq := { q := ⟨a_oeq, neC, hmC, i_oeq⟩, sint := uC_int, sbool := uC_bool, snon := uC_NoneType, sstr := uC_str, slst := uC_list, stup := uC_tuple, sdct := uC_dict }
  have cs : ∀ base : Heap, Cal l.prog w K mg base 9 "_law_of_orders" ["_law_script"] (spOf K) ∧ Cal l.prog w K mg base 9 "_law_of_refused_pairs" ["_law_script"] (spOf K) := by
    intro base
    have n_ok_WE : FnOk l.prog w K mg base CX0 1 f_WE _ ["self", "words"] (spWE K) := ok_WE F_WE bn vV
    have n_ok_NS : FnOk l.prog w K mg base CX0 2 f_NS _ ["self", "state"] (spNS K BN) := ok_NS F_NS gW cW n_ok_WE bWE
    have n_ok_BO : FnOk l.prog w K mg base CX0 2 f_BO _ ["self"] (spBO K BO) := ok_BO F_BO gW cW n_ok_WE bWE
    have gBO : mg "BadOrder" = some (.ref BO) := PySem.W.mg_of X G aB
    have Ns : NsT l.prog w K mg base BN := { O := ON, nf := nst, gB := PySem.W.mg_of X G aN, made := ⟨_, _, a_NS, tfN, n_ok_NS, b_NS⟩ }
    have Bo : BoT l.prog w K mg base BO := { O := OB, gB := gBO, made := ⟨_, _, a_BO, tfB, n_ok_BO, b_BO⟩ }
    have c_iw : Cal l.prog w K mg base 1 "is_whole" ["thing"] (spWhole S) := ⟨_, _, PySem.W.mg_of X G a_iw, k_iw, ok_is_whole F_iw bn sI, b_iw⟩
    have c_ib : Cal l.prog w K mg base 2 "is_between" ["least", "most", "thing"] (spBetween S) := ⟨_, _, PySem.W.mg_of X G a_ib, k_ib, ok_is_between F_ib c_iw, b_ib⟩
    have c_ii : Cal l.prog w K mg base 3 "is_index" ["many", "thing"] (spIndex S) := ⟨_, _, PySem.W.mg_of X G a_ii, k_ii, ok_is_index F_ii c_ib, b_ii⟩
    have c_ck : CalX l.prog w K mg base 4 "check_state" ["size", "state"] (spCheck S BN) := ⟨_, _, PySem.W.mg_of X G a_ck, k_ck, ok_check F_ck c_ii Ns, b_ck⟩
    have c_ck2 : CalX l.prog w K mg base 5 "check_two_states" ["size", "s", "t"] (spCheck2 S BN) := ⟨_, _, PySem.W.mg_of X G a_ck2, k_ck2, ok_check2 F_ck2 c_ck, b_ck2⟩
    have c_it : Cal l.prog w K mg base 1 "is_tuple_of" ["many", "thing"] (spTupOf S) := ⟨_, _, PySem.W.mg_of X G a_it, k_it, ok_is_tuple_of F_it bn sI, b_it⟩
    have c_ip : Cal l.prog w K mg base 4 "is_index_pair" ["many", "thing"] (spIxPair S) := ⟨_, _, PySem.W.mg_of X G a_ip, k_ip, ok_ixp F_ip c_it c_ii, b_ip⟩
    have c_xp : Cal l.prog w K mg base 1 "index_pairs" ["many"] spIxPrs := ⟨_, _, PySem.W.mg_of X G a_xp, k_xp, ok_index_pairs F_xp bn, b_xp⟩
    have c_lk : Cal l.prog w K mg base 2 "linked" ["size", "pairs"] (spLinked K) := ⟨_, _, PySem.W.mg_of X G a_lk, k_lk, ok_linked F_lk bn c_xp, b_lk⟩
    have n_ok_SI : FnOk l.prog w K mg base CX0 4 f_SI _ ["self", "top", "bottom"] (spSI S) := ok_SI F_SI sU c_iw
    have n_ok_seq : FnOk l.prog w K mg base CX0 1 f_seq _ ["self", "other"] (spOwn (EqS S)) := ok_seq F_seq sU bn
    have ms : MkS l.prog w K mg base S := { ex := ⟨_, _, _, ⟨mkS, a_SI, i_SI, kcS⟩, n_ok_SI, vS, bSI1⟩, gS := sU.gS }
    have seqT : ShEq l.prog w K mg base S := ⟨_, _, ownS, n_ok_seq, b_seq⟩
    have n_ok_OI : FnOk l.prog w K mg base (L2.CX l.prog w) 5 f_OI _ ["self", "size", "pairs"] (spOI S C BO) := ok_OI F_OI T sI Bo c_ib c_ip c_lk
    have m : MkO l.prog w K mg base S C BO := { ex := ⟨_, _, ⟨mkC, a_OI, i_OI, kcC⟩, n_ok_OI, b_OI⟩, gO := T.gO }
    have n_ok_bel : FnOk l.prog w K mg base (L2.CX l.prog w) 6 f_bel _ ["self", "s", "t"] (spBelow S C BN) := ok_below F_bel T c_ck2
    have n_ok_pr : FnOk l.prog w K mg base CX0 1 f_pr _ ["self"] (spPairs C) := ok_Order_pairs F_pr T
    have n_ok_tu : FnOk l.prog w K mg base CX0 7 f_tu _ ["self"] (spTurned C) := ok_turned F_tu T m
    have n_ok_oeq : FnOk l.prog w K mg base CX0 1 f_oeq _ ["self", "other"] (spOwn (EqO C)) := ok_Order_eq F_oeq T
    have bt : BelowT l.prog w K mg base S C BN := ⟨_, _, ⟨a_bel, i_bel, k_bel⟩, n_ok_bel, b_bel⟩
    have pt : PairsT l.prog w K mg base C := ⟨_, _, ⟨a_pr, i_pr, k_pr⟩, n_ok_pr, b_pr⟩
    have tt : TurnedT l.prog w K mg base C := ⟨_, _, ⟨a_tu, i_tu, k_tu⟩, n_ok_tu, b_tu⟩
    have oe : OrEq l.prog w K mg base C := ⟨_, _, ownC, n_ok_oeq, b_oeq⟩
    have c_ln : CalX l.prog w K mg base 7 "line" ["size"] (spLine S C BO) := ⟨_, _, PySem.W.mg_of X G a_ln, k_ln, ok_line F_ln T m Bo c_ib, b_ln⟩
    have c_pool : Cal l.prog w K mg base 1 "_law_pool" ["_law_script"] (spPool K) := ⟨_, _, PySem.W.mg_of X G a_pool, k_pool, ok_pool F_pool bn, b_pool⟩
    have c_draw : Cal l.prog w K mg base 1 "_law_draw" ["_law_pool_here", "_law_many"] spDraw := ⟨_, _, PySem.W.mg_of X G a_draw, k_draw, ok_draw F_draw bn, b_draw⟩
    have c_pick : Cal l.prog w K mg base 2 "_law_pick" ["_law_pool_here", "_law_things_here"] spPick := ⟨_, _, PySem.W.mg_of X G a_pick, k_pick, ok_pick F_pick bn c_draw, b_pick⟩
    have c_turn : Cal l.prog w K mg base 2 "_law_turned_about" ["_law_pool_here", "_law_things_here"] spTurnAbout := ⟨_, _, PySem.W.mg_of X G a_turn, k_turn, ok_turn F_turn bn c_draw, b_turn⟩
    have c_lp : Cal l.prog w K mg base 1 "_law_pairs" ["_law_size"] spLawPairs := ⟨_, _, PySem.W.mg_of X G a_lp, k_lp, ok_lpairs F_lp bn, b_lp⟩
    have c_op : Cal l.prog w K mg base 3 "_law_order_pairs" ["_law_pool_here", "_law_size"] spOrdPs := ⟨_, _, PySem.W.mg_of X G a_op, k_op, ok_ordps F_op bn c_draw c_turn c_lp, b_op⟩
    have c_fl : Cal l.prog w K mg base 1 "_law_flags" ["_law_size", "_law_pairs_here", "_law_s"] spFlags := ⟨_, _, PySem.W.mg_of X G a_fl, k_fl, ok_flags F_fl bn, b_fl⟩
    have c_jo : Cal l.prog w K mg base 1 "_law_joined" ["_law_table_here", "_law_row", "_law_via"] spJoined := ⟨_, _, PySem.W.mg_of X G a_jo, k_jo, ok_joined F_jo bn, b_jo⟩
    have c_ta : Cal l.prog w K mg base 2 "_law_table" ["_law_size", "_law_pairs_here"] spTable := ⟨_, _, PySem.W.mg_of X G a_ta, k_ta, ok_table F_ta bn c_fl c_jo, b_ta⟩
    have c_lint : Cal l.prog w K mg base 1 "_law_is_integer" ["_law_thing"] (spWhole S) := ⟨_, _, PySem.W.mg_of X G a_lint, k_lint, ok_lint F_lint bn sI, b_lint⟩
    have c_same : Cal l.prog w K mg base 3 "_law_same_thing" ["_law_one", "_law_other"] (spSame K S) := ⟨_, _, PySem.W.mg_of X G a_same, k_same, ok_same F_same sU bn seqT, b_same⟩
    have c_more : Cal l.prog w K mg base 3 "_law_more_pairs" ["_law_pool_here", "_law_size", "_law_pairs_here"] spMore := ⟨_, _, PySem.W.mg_of X G a_more, k_more, ok_more F_more bn c_draw c_pick c_ta c_turn, b_more⟩
    have c_told : Cal l.prog w K mg base 7 "_law_is_told" ["_law_order", "_law_size", "_law_table_here"] (spTold C) := ⟨_, _, PySem.W.mg_of X G a_told, k_told, ok_told F_told T bt pt c_lint c_lp, b_told⟩
    have c_asked : Cal l.prog w K mg base 7 "_law_asked" ["_law_order", "_law_s", "_law_t"] (spAsked S C) := ⟨_, _, PySem.W.mg_of X G a_asked, k_asked, ok_asked F_asked T bt nsc, b_asked⟩
    have c_refu : Cal l.prog w K mg base 8 "_law_refuses" ["_law_pool_here", "_law_order", "_law_size"] (spRefuses C) := ⟨_, _, PySem.W.mg_of X G a_refu, k_refu, ok_refuses F_refu ms c_draw c_pick c_asked c_same, b_refu⟩
    have c_sec : Cal l.prog w K mg base 4 "_law_second" ["_law_pool_here", "_law_size", "_law_pairs_here"] spSecond := ⟨_, _, PySem.W.mg_of X G a_sec, k_sec, ok_second F_sec bn c_draw c_op c_more, b_sec⟩
    have c_isp : Cal l.prog w K mg base 2 "_law_is_pair" ["_law_size", "_law_thing"] (spIsPair S) := ⟨_, _, PySem.W.mg_of X G a_isp, k_isp, ok_isp F_isp bn sI c_lint, b_isp⟩
    have c_szs : Cal l.prog w K mg base 6 "_law_sizes" ["_law_pool_here"] (spSizes S) := ⟨_, _, PySem.W.mg_of X G a_szs, k_szs, ok_sizes F_szs ms c_draw, b_szs⟩
    have c_thi : Cal l.prog w K mg base 1 "_law_things" ["_law_size"] (spThings S) := ⟨_, _, PySem.W.mg_of X G a_thi, k_thi, ok_things F_thi , b_thi⟩
    have c_spo : Cal l.prog w K mg base 3 "_law_spoiled" ["_law_pool_here", "_law_size", "_law_pairs_here"] (spSpoiled S) := ⟨_, _, PySem.W.mg_of X G a_spo, k_spo, ok_spoiled F_spo bn c_draw c_pick c_ta c_thi, b_spo⟩
    have c_isz : Cal l.prog w K mg base 2 "_law_is_size" ["_law_thing"] (spIsSize S) := ⟨_, _, PySem.W.mg_of X G a_isz, k_isz, ok_isz F_isz c_lint, b_isz⟩
    have c_iso : Cal l.prog w K mg base 3 "_law_is_order" ["_law_size", "_law_pairs_here"] (spIsOrder S) := ⟨_, _, PySem.W.mg_of X G a_iso, k_iso, ok_iso F_iso bn sI c_isz c_isp c_ta c_lp, b_iso⟩
    have c_made : CalX l.prog w K mg base 7 "_law_made" ["_law_size", "_law_pairs_here"] (spMade S C) := ⟨_, _, PySem.W.mg_of X G a_made, k_made, ok_made F_made m xmB gBO, b_made⟩
    have c_rig : Cal l.prog w K mg base 8 "_law_is_right" ["_law_size", "_law_pairs_here"] (spRight S) := ⟨_, _, PySem.W.mg_of X G a_rig, k_rig, ok_right F_rig T pt c_made c_iso c_ta c_lp, b_rig⟩
    have c_lli : CalX l.prog w K mg base 8 "_law_line" ["_law_size"] (spLLine S C) := ⟨_, _, PySem.W.mg_of X G a_lli, k_lli, ok_lline F_lli c_ln xmB gBO, b_lli⟩
    have LA : LawA l.prog w K mg base S C BO := { T := T, m := m, eq := oe, turned := tt, pairs := pt, pool := c_pool, draw := c_draw, more := c_more, ordps := c_op, table := c_ta, told := c_told, refuses := c_refu, second := c_sec, line := c_ln }
    have LB : LawB l.prog w K mg base S C BO := { T := T, ms := ms, pool := c_pool, draw := c_draw, pick := c_pick, ordps := c_op, right := c_rig, spoiled := c_spo, isp := c_isp, isz := c_isz, sizes := c_szs, lline := c_lli }
    have c_of : Cal l.prog w K mg base 9 "_law_of_orders" ["_law_script"] (spOf K) := ⟨_, _, PySem.W.mg_of X G a_of, k_of, ok_of F_of LA, b_of⟩
    have c_ofr : Cal l.prog w K mg base 9 "_law_of_refused_pairs" ["_law_script"] (spOf K) := ⟨_, _, PySem.W.mg_of X G a_ofr, k_ofr, ok_ofr F_ofr LB, b_ofr⟩
    exact ⟨c_of, c_ofr⟩
  exact ⟨_, fun s v => .of_eq rfl, fun base _ _ => ok_law F_law (cs base).1 (cs base).2⟩
end
theorem walk {l : PySem.W.OpenLaw} {q : Program} {loose : List Str} {XP : (Str → Option Value) → Heap → Prop} {YP : World → Heap → Prop} {d : DefRec} {K : Params → PySem.W.Frag} (hn : l.most = some 63) (hdf : d.params.defaults = [])
    (hY : ∀ (w : World) (h : Heap), YP w h → (K w.params).In h)
    (F : ∀ (w : World) (mg : Str → Option Value) (fa : Addr) (h : Heap), (K w.params).In h → h.Ns mainGlobals mg → mg d.name = some (.ref fa) →
      ∃ fd : FuncData, (∀ (s : Shared) (u : Value), BindsTo s fd ⟨[u], []⟩ [("_law_script", u)]) ∧ ∀ base : Heap, (K w.params).In base → base.Ns mainGlobals mg → FnOk l.prog w (K w.params) mg base CX0 10 fa fd ["_law_script"] (spOf (K w.params))) :
    PySem.W.WalkO q loose XP YP l.row.toRowW d [] (fun f vs => PySem.call f vs) :=
  L2.walk_of (n := 63) (k := 10) (x := "_law_script") (CX := fun _ => CX0) (sp := fun w => spOf (K w.params)) hn (by decide) hdf ⟨rfl, by decide, by decide⟩ hY F (fun _ _ a ns hl _ hS => ⟨a, ns, rfl, hS, hl, fun _ => fun _ => rfl⟩) fun _ _ _ _ _ z => z
end K6

set_option Elab.async false
set_option maxRecDepth 100000
open PySem PySem.W PyProof.Rows
set_option maxRecDepth 100000
set_option maxHeartbeats 0
open_top head for PySem.Challenge.rw_bothwalks_k54_an_order_is_the_closure_of

set_option Elab.async false
set_option maxRecDepth 100000
set_option maxHeartbeats 0
open PySem PySem.W PyProof.Rows
theorem PySem.Challenge.cw_bothwalks_k54_an_order_is_the_closure_of_holds : PySem.Challenge.rw_bothwalks_k54_an_order_is_the_closure_of.Holds := by
  refine head ?_
  k_fill
  refine K6.walk (l := PySem.Challenge.rw_bothwalks_k54_an_order_is_the_closure_of) rfl rfl (fun w h Y => PySem.W.kIn_of Y) ?F
  case F =>
    intro w mg fa h KX G hmg
    refine' K6.all_mk KX G hmg ?aC ?aS ?aW ?aN ?aB ?aM ?eM ?aG ?n_isinstance ?n_int ?n_bool ?n_abs ?n_len ?n_list ?n_tuple ?n_range ?n_all ?n_any ?n_ValueError ?a_WE ?l_WE ?c_WE ?k_WE ?a_NS ?l_NS ?c_NS ?k_NS ?a_BO ?l_BO ?c_BO ?k_BO ?a_iw ?l_iw ?c_iw ?k_iw ?a_ib ?l_ib ?c_ib ?k_ib ?a_ii ?l_ii ?c_ii ?k_ii ?a_ck ?l_ck ?c_ck ?k_ck ?a_ck2 ?l_ck2 ?c_ck2 ?k_ck2 ?a_it ?l_it ?c_it ?k_it ?a_ip ?l_ip ?c_ip ?k_ip ?a_xp ?l_xp ?c_xp ?k_xp ?a_SI ?l_SI ?c_SI ?k_SI ?a_seq ?l_seq ?c_seq ?k_seq ?a_OI ?l_OI ?c_OI ?k_OI ?a_bel ?l_bel ?c_bel ?k_bel ?a_pr ?l_pr ?c_pr ?k_pr ?a_tu ?l_tu ?c_tu ?k_tu ?a_oeq ?l_oeq ?c_oeq ?k_oeq ?a_lk ?l_lk ?c_lk ?k_lk ?a_ln ?l_ln ?c_ln ?k_ln ?a_pool ?l_pool ?c_pool ?k_pool ?a_draw ?l_draw ?c_draw ?k_draw ?a_pick ?l_pick ?c_pick ?k_pick ?a_turn ?l_turn ?c_turn ?k_turn ?a_lp ?l_lp ?c_lp ?k_lp ?a_op ?l_op ?c_op ?k_op ?a_fl ?l_fl ?c_fl ?k_fl ?a_jo ?l_jo ?c_jo ?k_jo ?a_ta ?l_ta ?c_ta ?k_ta ?a_lint ?l_lint ?c_lint ?k_lint ?a_same ?l_same ?c_same ?k_same ?a_more ?l_more ?c_more ?k_more ?a_told ?l_told ?c_told ?k_told ?a_asked ?l_asked ?c_asked ?k_asked ?a_refu ?l_refu ?c_refu ?k_refu ?a_sec ?l_sec ?c_sec ?k_sec ?a_isp ?l_isp ?c_isp ?k_isp ?a_szs ?l_szs ?c_szs ?k_szs ?a_thi ?l_thi ?c_thi ?k_thi ?a_spo ?l_spo ?c_spo ?k_spo ?a_isz ?l_isz ?c_isz ?k_isz ?a_iso ?l_iso ?c_iso ?k_iso ?a_made ?l_made ?c_made ?k_made ?a_rig ?l_rig ?c_rig ?k_rig ?a_lli ?l_lli ?c_lli ?k_lli ?a_of ?l_of ?c_of ?k_of ?a_ofr ?l_ofr ?c_ofr ?k_ofr ?a_law ?l_law ?c_law ?k_law ?dSI ?dWE ?hn ?htk ?pgC ?hdC ?poC ?saC ?mkC ?kcC ?tCC ?haC ?hmC ?neC ?uC_int ?uC_bool ?uC_NoneType ?uC_str ?uC_list ?uC_tuple ?uC_dict ?pgS ?hdS ?poS ?saS ?mkS ?kcS ?tCS ?haS ?hmS ?neS ?uS_int ?uS_bool ?uS_NoneType ?uS_str ?uS_list ?uS_tuple ?uS_dict ?nSz ?nLw ?nT ?nBm ?i_SI ?i_seq ?i_OI ?i_bel ?i_pr ?i_tu ?i_oeq ?xN ?rN ?saN ?exN ?tN ?kN ?hdN ?sBN ?xB ?rB ?saB ?exB ?tB ?kB ?hdB ?sBB ?nst ?tfN ?tfB ?gaN ?ggN ?rdW ?gaW ?fcW ?vV
    (case aC => k_is)
    (case aS => k_is)
    (case aW => k_is)
    (case aN => k_is)
    (case aB => k_is)
    (case aM => k_is)
    (case eM => decide +kernel)
    (case aG => k_is)
    (case n_isinstance => k_is)
    (case n_int => k_is)
    (case n_bool => k_is)
    (case n_abs => k_is)
    (case n_len => k_is)
    (case n_list => k_is)
    (case n_tuple => k_is)
    (case n_range => k_is)
    (case n_all => k_is)
    (case n_any => k_is)
    (case n_ValueError => k_is)
    (case a_WE => k_is)
    (case l_WE => k_is)
    (case c_WE => k_is)
    (case k_WE => k_is)
    (case a_NS => k_is)
    (case l_NS => k_is)
    (case c_NS => k_is)
    (case k_NS => k_is)
    (case a_BO => k_is)
    (case l_BO => k_is)
    (case c_BO => k_is)
    (case k_BO => k_is)
    (case a_iw => k_is)
    (case l_iw => k_is)
    (case c_iw => k_is)
    (case k_iw => k_is)
    (case a_ib => k_is)
    (case l_ib => k_is)
    (case c_ib => k_is)
    (case k_ib => k_is)
    (case a_ii => k_is)
    (case l_ii => k_is)
    (case c_ii => k_is)
    (case k_ii => k_is)
    (case a_ck => k_is)
    (case l_ck => k_is)
    (case c_ck => k_is)
    (case k_ck => k_is)
    (case a_ck2 => k_is)
    (case l_ck2 => k_is)
    (case c_ck2 => k_is)
    (case k_ck2 => k_is)
    (case a_it => k_is)
    (case l_it => k_is)
    (case c_it => k_is)
    (case k_it => k_is)
    (case a_ip => k_is)
    (case l_ip => k_is)
    (case c_ip => k_is)
    (case k_ip => k_is)
    (case a_xp => k_is)
    (case l_xp => k_is)
    (case c_xp => k_is)
    (case k_xp => k_is)
    (case a_SI => k_is)
    (case l_SI => k_is)
    (case c_SI => k_is)
    (case k_SI => k_is)
    (case a_seq => k_is)
    (case l_seq => k_is)
    (case c_seq => k_is)
    (case k_seq => k_is)
    (case a_OI => k_is)
    (case l_OI => k_is)
    (case c_OI => k_is)
    (case k_OI => k_is)
    (case a_bel => k_is)
    (case l_bel => k_is)
    (case c_bel => k_is)
    (case k_bel => k_is)
    (case a_pr => k_is)
    (case l_pr => k_is)
    (case c_pr => k_is)
    (case k_pr => k_is)
    (case a_tu => k_is)
    (case l_tu => k_is)
    (case c_tu => k_is)
    (case k_tu => k_is)
    (case a_oeq => k_is)
    (case l_oeq => k_is)
    (case c_oeq => k_is)
    (case k_oeq => k_is)
    (case a_lk => k_is)
    (case l_lk => k_is)
    (case c_lk => k_is)
    (case k_lk => k_is)
    (case a_ln => k_is)
    (case l_ln => k_is)
    (case c_ln => k_is)
    (case k_ln => k_is)
    (case a_pool => k_is)
    (case l_pool => k_is)
    (case c_pool => k_is)
    (case k_pool => k_is)
    (case a_draw => k_is)
    (case l_draw => k_is)
    (case c_draw => k_is)
    (case k_draw => k_is)
    (case a_pick => k_is)
    (case l_pick => k_is)
    (case c_pick => k_is)
    (case k_pick => k_is)
    (case a_turn => k_is)
    (case l_turn => k_is)
    (case c_turn => k_is)
    (case k_turn => k_is)
    (case a_lp => k_is)
    (case l_lp => k_is)
    (case c_lp => k_is)
    (case k_lp => k_is)
    (case a_op => k_is)
    (case l_op => k_is)
    (case c_op => k_is)
    (case k_op => k_is)
    (case a_fl => k_is)
    (case l_fl => k_is)
    (case c_fl => k_is)
    (case k_fl => k_is)
    (case a_jo => k_is)
    (case l_jo => k_is)
    (case c_jo => k_is)
    (case k_jo => k_is)
    (case a_ta => k_is)
    (case l_ta => k_is)
    (case c_ta => k_is)
    (case k_ta => k_is)
    (case a_lint => k_is)
    (case l_lint => k_is)
    (case c_lint => k_is)
    (case k_lint => k_is)
    (case a_same => k_is)
    (case l_same => k_is)
    (case c_same => k_is)
    (case k_same => k_is)
    (case a_more => k_is)
    (case l_more => k_is)
    (case c_more => k_is)
    (case k_more => k_is)
    (case a_told => k_is)
    (case l_told => k_is)
    (case c_told => k_is)
    (case k_told => k_is)
    (case a_asked => k_is)
    (case l_asked => k_is)
    (case c_asked => k_is)
    (case k_asked => k_is)
    (case a_refu => k_is)
    (case l_refu => k_is)
    (case c_refu => k_is)
    (case k_refu => k_is)
    (case a_sec => k_is)
    (case l_sec => k_is)
    (case c_sec => k_is)
    (case k_sec => k_is)
    (case a_isp => k_is)
    (case l_isp => k_is)
    (case c_isp => k_is)
    (case k_isp => k_is)
    (case a_szs => k_is)
    (case l_szs => k_is)
    (case c_szs => k_is)
    (case k_szs => k_is)
    (case a_thi => k_is)
    (case l_thi => k_is)
    (case c_thi => k_is)
    (case k_thi => k_is)
    (case a_spo => k_is)
    (case l_spo => k_is)
    (case c_spo => k_is)
    (case k_spo => k_is)
    (case a_isz => k_is)
    (case l_isz => k_is)
    (case c_isz => k_is)
    (case k_isz => k_is)
    (case a_iso => k_is)
    (case l_iso => k_is)
    (case c_iso => k_is)
    (case k_iso => k_is)
    (case a_made => k_is)
    (case l_made => k_is)
    (case c_made => k_is)
    (case k_made => k_is)
    (case a_rig => k_is)
    (case l_rig => k_is)
    (case c_rig => k_is)
    (case k_rig => k_is)
    (case a_lli => k_is)
    (case l_lli => k_is)
    (case c_lli => k_is)
    (case k_lli => k_is)
    (case a_of => k_is)
    (case l_of => k_is)
    (case c_of => k_is)
    (case k_of => k_is)
    (case a_ofr => k_is)
    (case l_ofr => k_is)
    (case c_ofr => k_is)
    (case k_ofr => k_is)
    (case a_law => k_is)
    (case l_law => k_is)
    (case c_law => k_is)
    (case k_law => k_is)
    (case dSI => k_is)
    (case dWE => k_is)
    (case hn => k_is)
    (case htk => k_is)
    (case pgC => k_is)
    (case hdC => k_is)
    (case poC => k_is)
    (case saC => k_is)
    (case mkC => k_is)
    (case kcC => k_is)
    (case tCC => k_is)
    (case haC => k_is)
    (case hmC => k_is)
    (case neC => k_is)
    (case uC_int => k_is)
    (case uC_bool => k_is)
    (case uC_NoneType => k_is)
    (case uC_str => k_is)
    (case uC_list => k_is)
    (case uC_tuple => k_is)
    (case uC_dict => k_is)
    (case pgS => k_is)
    (case hdS => k_is)
    (case poS => k_is)
    (case saS => k_is)
    (case mkS => k_is)
    (case kcS => k_is)
    (case tCS => k_is)
    (case haS => k_is)
    (case hmS => k_is)
    (case neS => k_is)
    (case uS_int => k_is)
    (case uS_bool => k_is)
    (case uS_NoneType => k_is)
    (case uS_str => k_is)
    (case uS_list => k_is)
    (case uS_tuple => k_is)
    (case uS_dict => k_is)
    (case nSz => k_is)
    (case nLw => k_is)
    (case nT => k_is)
    (case nBm => k_is)
    (case i_SI => k_is)
    (case i_seq => k_is)
    (case i_OI => k_is)
    (case i_bel => k_is)
    (case i_pr => k_is)
    (case i_tu => k_is)
    (case i_oeq => k_is)
    (case xN => k_is)
    (case rN => first | rfl | decide +kernel | k_is)
    (case saN => k_is)
    (case exN => k_is)
    (case tN => k_is)
    (case kN => k_is)
    (case hdN => k_is)
    (case sBN => first | rfl | k_is)
    (case xB => k_is)
    (case rB => first | rfl | decide +kernel | k_is)
    (case saB => k_is)
    (case exB => k_is)
    (case tB => k_is)
    (case kB => k_is)
    (case hdB => k_is)
    (case sBB => first | rfl | k_is)
    (case nst => k_is)
    (case tfN => k_is)
    (case tfB => k_is)
    (case gaN => k_is)
    (case ggN => k_is)
    (case rdW => k_is)
    (case gaW => k_is)
    (case fcW => k_is)
    (case vV => k_is)


import PyProof.Rows.All
import HandS.ForMost
import HandS.SortInts
import HandS.TupSets
import HandS.TupLe
import HandS.Deep
import KE.LtData
import HandS.DictComp
import KE.KDictDisplayH
import HandS.ForExc
import HandS.ExcInit
import HandS.ExcField
import HandS.ExcIs
import HandS.IsInst
import HandS.Gcd
import HandS.Wide
import HandS.WideBits
import HandS.Star
import HandS.EndBits
import HandS.ClsMeth
import HandS.Comp
import HandS.Conv
import HandS.Flow
import HandS.TupAny
import HandS.SortKw
import PySem.Challenge.RW_bothwalks_k56_up_sets_of_an_order
import KE.OsArith
import Wide.All
import OpenK.AllK
import Wide.FinOn
set_option Elab.async false
set_option linter.all false
set_option maxRecDepth 100000
set_option maxHeartbeats 4000000
/-! sorted(xs), xs a list of tuples of ints, the empty one among them: any length, any lengths -/
namespace UpT
open PySem PyProof.Rows
/-- strictly before, by the first place that differs -/
def ltL : List Int → List Int → Bool
  | _, [] => false
  | [], _ :: _ => true
  | a :: x, b :: y => if a = b then ltL x y else decide (a < b)
theorem ltL_nil (x : List Int) : ltL x [] = false := by cases x <;> rfl
theorem ltL_cons (a b : Int) (x y : List Int) : ltL (a :: x) (b :: y) = if a = b then ltL x y else decide (a < b) := rfl
theorem lex_lt (f g : Nat → Int) (z : Bool) : ∀ (ns ms : List Int) (i : Nat), (∀ k, k < ns.length → f (i + k) = ns.getD k 0) → (∀ k, k < ms.length → g (i + k) = ms.getD k 0) → z = decide (ns.length < ms.length) →
    Ob.lexAt (fun j => decide (f j = g j)) (fun j => decide (f j < g j)) z i (min ns.length ms.length) = ltL ns ms
  | [], [], i, _, _, hz => by rw [hz]; rfl
  | [], b :: y, i, _, _, hz => by rw [hz]; show Ob.lexAt _ _ _ _ (min 0 (y.length + 1)) = true; rw [Nat.zero_min]; exact decide_eq_true (Nat.succ_pos _)
  | a :: x, [], i, _, _, hz => by rw [hz]; show Ob.lexAt _ _ _ _ (min (x.length + 1) 0) = false; rw [Nat.min_zero]; exact decide_eq_false (Nat.not_lt_zero _)
  | a :: x, b :: y, i, hf, hg, hz => by
    have f0 : f i = a := hf 0 (Nat.succ_pos _)
    have g0 : g i = b := hg 0 (Nat.succ_pos _)
    have e : min (a :: x).length (b :: y).length = min x.length y.length + 1 := by
      show min (x.length + 1) (y.length + 1) = _
      omega
    rw [e, Ob.lexAt_succ, f0, g0, ltL_cons]
    by_cases q : a = b
    · rw [if_pos (decide_eq_true q), if_pos q]
      refine lex_lt f g z x y (i + 1) (fun k hk => ?_) (fun k hk => ?_) ?_
      · have h := hf (k + 1) (Nat.succ_lt_succ hk)
        rw [show i + 1 + k = i + (k + 1) by omega, h]
        rfl
      · have h := hg (k + 1) (Nat.succ_lt_succ hk)
        rw [show i + 1 + k = i + (k + 1) by omega, h]
        rfl
      · rw [hz]
        simp only [List.length_cons, Nat.add_lt_add_iff_right]
    · rw [if_neg (by simpa using q), if_neg q]
theorem ltL_asym : ∀ x y : List Int, ltL x y = true → ltL y x = false
  | x, [], h => by rw [ltL_nil] at h; cases h
  | [], b :: y, h => rfl
  | a :: x, b :: y, h => by
    rw [ltL_cons] at h ⊢
    by_cases q : a = b
    · rw [if_pos q] at h
      rw [if_pos q.symm]
      exact ltL_asym x y h
    · rw [if_neg q] at h
      rw [if_neg (fun z => q z.symm)]
      have := of_decide_eq_true h
      exact decide_eq_false (by omega)
theorem ltL_tr : ∀ x y z : List Int, ltL y x = false → ltL z y = false → ltL z x = false
  | [], y, z, _, _ => ltL_nil z
  | a :: x, [], z, h, _ => by cases h
  | a :: x, b :: y, [], _, h => by cases h
  | a :: x, b :: y, c :: z, h1, h2 => by
    rw [ltL_cons] at h1 h2 ⊢
    by_cases q : b = a
    · rw [if_pos q] at h1
      subst q
      by_cases q2 : c = b
      · rw [if_pos q2] at h2 ⊢
        exact ltL_tr x y z h1 h2
      · rw [if_neg q2] at h2 ⊢
        exact h2
    · rw [if_neg q] at h1
      have n1 := of_decide_eq_false h1
      by_cases q2 : c = b
      · rw [if_neg (by omega)]
        exact decide_eq_false (by omega)
      · rw [if_neg q2] at h2
        have n2 := of_decide_eq_false h2
        rw [if_neg (by omega)]
        exact decide_eq_false (by omega)
theorem ltL_anti : ∀ x y : List Int, ltL x y = false → ltL y x = false → x = y
  | [], [], _, _ => rfl
  | [], b :: y, h, _ => by cases h
  | a :: x, [], _, h => by cases h
  | a :: x, b :: y, h1, h2 => by
    rw [ltL_cons] at h1 h2
    by_cases q : a = b
    · rw [if_pos q] at h1
      rw [if_pos q.symm] at h2
      rw [q, ltL_anti x y h1 h2]
    · rw [if_neg q] at h1
      rw [if_neg (fun z => q z.symm)] at h2
      have := of_decide_eq_false h1
      have := of_decide_eq_false h2
      omega
theorem swo_by {α : Type} (k : α → List Int) : SrtO.Swo (fun x y => ltL (k x) (k y)) := ⟨fun x y h => ltL_asym _ _ h, fun x y z h1 h2 => ltL_tr _ _ _ h1 h2⟩
abbrev Srt (l : List (List Int)) : Prop := l.Pairwise fun x y => ltL y x = false
/-- there is one sorted list of the same ones -/
theorem srt_uniq : ∀ {l m : List (List Int)}, Srt l → Srt m → l.Perm m → l = m
  | [], m, _, _, h => (List.Perm.eq_nil h.symm).symm
  | x :: l, [], _, _, h => absurd h.length_eq (by simp)
  | x :: l, y :: m, hl, hm, h => by
    have e : x = y := by
      have h1 : ltL x y = false := by
        rcases List.mem_cons.mp (h.mem_iff.mp List.mem_cons_self) with e | hx
        · rw [e]
          exact (swo_by (id : List Int → List Int)).refl y
        · exact (List.pairwise_cons.mp hm).1 x hx
      have h2 : ltL y x = false := by
        rcases List.mem_cons.mp (h.mem_iff.mpr List.mem_cons_self) with e | hy
        · rw [e]
          exact (swo_by (id : List Int → List Int)).refl x
        · exact (List.pairwise_cons.mp hl).1 y hy
      exact ltL_anti x y h1 h2
    subst e
    rw [srt_uniq (List.pairwise_cons.mp hl).2 (List.pairwise_cons.mp hm).2 h.cons_inv]
section
variable {prog : Program} {w : World} {A : Around} {E : Value → Shared → Prop} {s : Shared}
theorem tup_lt_parts {v u : Value} {ns ms : List Int} (h1 : TS.TupInts s.heap v ns) (h2 : TS.TupInts s.heap u ms) :
    ∃ (a b : Addr) (its its2 : Array Value), v = .ref a ∧ u = .ref b ∧ s.heap.IsTuple a its ∧ s.heap.IsTuple b its2 ∧ (∀ j (h1 : j < its.size) (h2 : j < its2.size), SeqAt.EqAt A s its[j] its2[j] (decide (ns.getD j 0 = ms.getD j 0))) ∧
      (∀ j (h1 : j < its.size) (h2 : j < its2.size), decide (ns.getD j 0 = ms.getD j 0) = false → Ob.RcOp .Lt A s its[j] its2[j] (decide (ns.getD j 0 < ms.getD j 0))) ∧ its.size = ns.length ∧ its2.size = ms.length := by
  obtain ⟨a, its, rfl, p1, i1⟩ := h1
  obtain ⟨b, its2, rfl, p2, i2⟩ := h2
  have e1 : its.size = ns.length := by rw [← Array.length_toList]; exact i1.length
  have e2 : its2.size = ms.length := by rw [← Array.length_toList]; exact i2.length
  have at1 : ∀ j (h1 : j < its.size), ∃ t, its[j] = .int (ns.getD j 0) t := fun j h1 => by
    have h := PyProof.Rows.IntsAre.int_at i1 j its[j] (by simp [h1])
    exact h
  have at2 : ∀ j (h1 : j < its2.size), ∃ t, its2[j] = .int (ms.getD j 0) t := fun j h1 => by
    have h := PyProof.Rows.IntsAre.int_at i2 j its2[j] (by simp [h1])
    exact h
  refine ⟨a, b, its, its2, rfl, rfl, p1, p2, fun j h1 h2 => ?_, fun j h1 h2 _ => ?_, e1, e2⟩
  · obtain ⟨t, et⟩ := at1 j h1
    obtain ⟨t', et'⟩ := at2 j h2
    rw [et, et']
    have z : decide (ns.getD j 0 = ms.getD j 0) = (ns.getD j 0 == ms.getD j 0) := by
      rw [Bool.eq_iff_iff, decide_eq_true_eq, beq_iff_eq]
    rw [z]
    exact SeqAt.EqAt.int_int _ _ _ _
  · obtain ⟨t, et⟩ := at1 j h1
    obtain ⟨t', et'⟩ := at2 j h2
    rw [et, et']
    exact Ob.RcOp.lt_int _ _ _ _
theorem lex_of {ns ms : List Int} : Ob.lexAt (fun j => decide (ns.getD j 0 = ms.getD j 0)) (fun j => decide (ns.getD j 0 < ms.getD j 0)) (decide (ns.length < ms.length)) 0 (min ns.length ms.length) = ltL ns ms :=
  lex_lt (fun j => ns.getD j 0) (fun j => ms.getD j 0) _ ns ms 0 (fun k _ => by rw [Nat.zero_add]) (fun k _ => by rw [Nat.zero_add]) rfl
/-- < of two tuples of ints -/
theorem rc_tups {v u : Value} {ns ms : List Int} (h1 : TS.TupInts s.heap v ns) (h2 : TS.TupInts s.heap u ms) (hu : A.units < cLine) : Ob.RcOp .Lt A s v u (ltL ns ms) := by
  obtain ⟨a, b, its, its2, rfl, rfl, p1, p2, he, hr, e1, e2⟩ := tup_lt_parts (A := A.in1) h1 h2
  have R := Ob.RcOp.tuples_lt (A := A) (s := s) p1 p2 hu he hr
  rw [e1, e2, lex_of] at R
  exact R
/-- as sorting compares them -/
theorem one_tups (f : Bool) {v u : Value} {ns ms : List Int} (h1 : TS.TupInts s.heap v ns) (h2 : TS.TupInts s.heap u ms) (hu : A.units < cLine) {Q : Bool → Shared → Prop} (hq : Q (ltL ns ms) s) : wpAny (model prog w) A (oneLt' f v u) Q E s := by
  cases f with
  | false =>
    rw [oneLt'_eq]
    simp only [Bool.false_eq_true, if_false]
    exact wpAny_bind (rc_tups h1 h2 hu prog w E _ (wpAny_truthy_bool hq))
  | true =>
    obtain ⟨a, b, its, its2, rfl, rfl, p1, p2, he, hr, e1, e2⟩ := tup_lt_parts (A := A.in1) h1 h2
    obtain ⟨⟨cls, dd, data, sl⟩, ho, hc, n, hd⟩ := id p1
    obtain ⟨⟨cls2, dd2, data2, sl2⟩, ho2, hc2, n2, hd2⟩ := id p2
    simp only at hc hd hc2 hd2
    subst hc hd hc2 hd2
    rw [oneLt'_eq]
    simp only [if_true]
    refine wpAny_bind (wpAny_cRoomFor hu ?_)
    refine wpAny_bind (wpAny_callSpecialIfBound?_slot (T := "tuple") ⟨_, ho, rfl⟩ F.slot_tuple_lt (call_meets F.slot_tuple_lt ⟨_, ho, rfl⟩ F.entry_tuple_lt (F.args_tuple_lt_2 _ _) (Ob.tuple_ltAt a b its its2 n n2 dd dd2 sl sl2 _ _) ⟨ho, ho2, he, hr, ?_⟩))
    rw [e1, e2, lex_of]
    exact wpAny_truthy_bool hq
theorem first_tups {M : Model} : ∀ (vs : List Value) (k : Value → List Int) {Q : List (Option Value) → Shared → Prop}, (∀ v ∈ vs, TS.TupInts s.heap v (k v)) → (∀ fs : List (Option Value), fs.map (·.isSome) = vs.map (fun v => decide (k v ≠ [])) → Q fs s) →
    wpAny M A (vs.mapM firstOfTuple') Q E s
  | [], k, Q, _, h => by rw [List.mapM_nil]; exact wpAny_pure (h [] rfl)
  | v :: vs, k, Q, hk, h => by
    rw [List.mapM_cons]
    obtain ⟨a, xs, ev, ⟨o, ho, hc, n, hd⟩, hi⟩ := hk v List.mem_cons_self
    have typed : PySem.W.Looks M s.heap (typeOf (Value.ref a)) (Value.type "tuple") := hc ▸ (PySem.W.Looks.ld ho).andThen .now
    refine wpAny_bind ?_
    rw [PySem.W.kas_first_eq, ev]
    refine wpAny_bind (typed.here ?_)
    rw [if_neg (by first | decide | simp)]
    refine wpAny_bind (listItems_at ho hd (wpAny_pure ?_))
    refine wpAny_bind (first_tups vs k (fun u hu => hk u (List.mem_cons_of_mem _ hu)) fun fs hl => wpAny_pure (h _ ?_))
    rw [List.map_cons, List.map_cons, hl]
    congr 1
    rw [Bool.eq_iff_iff, decide_eq_true_eq]
    have hn := hi.length
    rw [Array.length_toList] at hn
    cases hz : k v with
    | nil =>
      rw [hz] at hn
      have : xs = #[] := Array.eq_empty_of_size_eq_zero hn
      subst this
      simp
    | cons y ys =>
      rw [hz] at hn
      have : 0 < xs.size := by rw [hn]; exact Nat.succ_pos _
      simp [this]
/-- a list of tuples of ints with an empty one: how they are compared -/
theorem kind_tups {vs : List Value} (k : Value → List Int) (hk : ∀ v ∈ vs, TS.TupInts s.heap v (k v)) (he : ∃ v ∈ vs, k v = []) : ∃ f : Bool, ∀ (Q : SortKind → Shared → Prop) (E : Value → Shared → Prop), Q (if f = true then oneType' else general') s → wpAny (model prog w) A (keyKind' vs.toArray) Q E s := by
  obtain ⟨v0, hm, h0⟩ := he
  cases vs with
  | nil => cases hm
  | cons v vs =>
    refine ⟨decide (k v = []), fun Q E hq => ?_⟩
    rw [PyProof.Rows.kat_kind_eq, List.mapM_toArray, map_eq_pure_bind]
    refine wpAny_bind (wpAny_bind (first_tups _ k hk fun fs hf => wpAny_pure ?_))
    have nall : ¬ (fs.toArray.all fun x => x.isSome) = true := by
      intro z
      rw [List.all_toArray] at z
      have z2 : (fs.map (·.isSome)).all id = true := by
        rw [List.all_map]
        exact z
      rw [hf, List.all_map] at z2
      have := List.all_eq_true.mp z2 v0 hm
      simp [h0] at this
    rw [if_neg nall]
    cases fs with
    | nil => simp at hf
    | cons o fs =>
      rw [List.map_cons, List.map_cons] at hf
      have ho := (List.cons.inj hf).1
      by_cases e : k v = []
      · rw [decide_eq_true e] at hq
        simp only [e, ne_eq, not_true_eq_false, decide_false] at ho
        have no : o = none := by cases o with
          | none => rfl
          | some _ => cases ho
        subst no
        rw [if_neg (by simp), oneTypeOnly'_eq, List.mapM_toArray, map_eq_pure_bind]
        refine wpAny_bind (wpAny_bind (wpAny_bind (PySem.W.kas_mapM (r := Value.type "tuple") _ (fun u hu Q' hq' => ?_) (wpAny_pure ?_))))
        · obtain ⟨a, xs, ev, ⟨o, ho, hc, n, hd⟩, hi⟩ := hk u hu
          rw [ev]
          have typed : PySem.W.Looks (model prog w) s.heap (typeOf (Value.ref a)) (Value.type "tuple") := hc ▸ (PySem.W.Looks.ld ho).andThen .now
          exact typed.here hq'
        · have hall : ((List.map (fun _ => Value.type "tuple") (v :: vs)).toArray.all fun x => x == Value.type "tuple") = true := by
            simp only [List.all_toArray, List.all_map, List.all_eq_true]
            intro _ _
            rfl
          have h0 : (List.map (fun _ => Value.type "tuple") (v :: vs)).toArray[0]? = some (Value.type "tuple") := by simp
          rw [h0]
          simp only [hall, if_true]
          exact wpAny_pure (wpAny_pure hq)
      · rw [decide_eq_false e] at hq
        simp only [e, ne_eq, not_false_eq_true, decide_true] at ho
        obtain ⟨u, rfl⟩ : ∃ u, o = some u := by cases o with
          | none => cases ho
          | some u => exact ⟨u, rfl⟩
        rw [if_pos (by simp)]
        exact wpAny_pure hq
theorem tups_sortable {a : Addr} {vs : List Value} (k : Value → List Int) (ha : ∀ o, s.heap.get? a = some o → o.cls ≠ .type "tuple") (hk : ∀ v ∈ vs, TS.TupInts s.heap v (k v)) (he : ∃ v ∈ vs, k v = []) (hu : A.units < cLine) : SrtO.SortableO prog w A s a vs (fun x y => ltL (k x) (k y)) := by
  intro h' hh
  have hk' : ∀ v ∈ vs, TS.TupInts h' v (k v) := fun v hv => (hk v hv).keeps fun b o e hc => hh b o (fun z => by rw [z] at e; exact ha o e hc) e
  obtain ⟨f, hf⟩ := kind_tups (prog := prog) (w := w) (A := A) (s := { s with heap := h' }) k hk' he
  refine ⟨if f = true then oneType' else general', fun Q E hq => hf Q E hq, ?_⟩
  intro p q hp hq
  cases f with
  | true =>
    show wpAny (model prog w) A (keyLt' oneType' p.1 q.1) (fun r s' => s' = _ ∧ r = ltL (k p.1) (k q.1)) (fun _ _ => False) _
    exact one_tups true (hk' _ hp) (hk' _ hq) hu ⟨rfl, rfl⟩
  | false =>
    show wpAny (model prog w) A (keyLt' general' p.1 q.1) (fun r s' => s' = _ ∧ r = ltL (k p.1) (k q.1)) (fun _ _ => False) _
    exact one_tups false (hk' _ hp) (hk' _ hq) hu ⟨rfl, rfl⟩
end
end UpT
namespace L2
open PySem PySem.Spec PyProof.Rows
/-- sorted(xs), xs a list of tuples of ints, the empty one among them -/
def rSortUp (K : PySem.W.Frag) : List V → Hp → VK → Prop := fun vs H Q => ∃ (a : Addr) (ts : List (Addr × List Int)), vs = [V.ref a] ∧ SqL K H a (ts.map fun t => V.ref t.1) ∧ (∀ t ∈ ts, SqT K H t.1 (t.2.map V.int)) ∧ (∃ t ∈ ts, t.2 = []) ∧
  ∀ (ys : List (Addr × List Int)) (p : Addr), ys.Perm ts → UpT.Srt (ys.map (·.2)) → H p = none → Q (.ref p) (upd H p (.lst (ys.map fun t => V.ref t.1)))
theorem upt_refs : ∀ {ts : List (Addr × List Int)} {its : List Value}, Vals (ts.map fun t => V.ref t.1) its → its = ts.map fun t => Value.ref t.1
  | [], its, r => by cases r; rfl
  | t :: ts, its, r => by
    cases r with
    | cons h r =>
      cases h
      rw [upt_refs r]
      rfl
theorem upt_vals : ∀ (ts : List (Addr × List Int)), Vals (ts.map fun t => V.ref t.1) (ts.map fun t => Value.ref t.1)
  | [] => .nil
  | t :: ts => .cons rfl (upt_vals ts)
def uptAdr : Value → Addr
  | .ref a => a
  | _ => 0
theorem cr_sortUp {X : Cx} (hu : X.A.units + 2 < cLine) : CallR X (.builtin "sorted") (rSortUp X.K) := by
  intro pins s σ H vs us Q I r h
  obtain ⟨a, ts, rfl, hs, ht, ⟨t0, hm0, h0⟩, q⟩ := h
  obtain ⟨its, rv, hl, hz⟩ := I.list hs
  rw [Vals.ref1 r]
  obtain rfl := upt_refs rv
  have raw : ∀ t ∈ ts, TS.TupInts s.heap (.ref t.1) t.2 := fun t hm => tupI_raw I (ht t hm)
  have ki : ∀ t ∈ ts, TS.intsOf s.heap (.ref t.1) = t.2 := fun t hm => (raw t hm).ints
  have hk : ∀ v ∈ ts.map (fun t => Value.ref t.1), TS.TupInts s.heap v (TS.intsOf s.heap v) := fun v hv => by
    obtain ⟨t, hm, rfl⟩ := List.mem_map.mp hv
    rw [ki t hm]
    exact raw t hm
  refine SrtO.sorted_ord (UpT.swo_by (TS.intsOf s.heap)) hl.isList (by rw [← rv.length]; exact hz) (fun h2 h₁ a' e kp => ?_) fun out h1 h2 => ?_
  · refine UpT.tups_sortable (A := X.A.in1.in1) (s := { s with heap := h₁ }) (TS.intsOf s.heap) (fun o eo hc => ?_) (fun v hv => (hk v hv).keeps fun b o e hc => (kp b o e).2) ⟨_, List.mem_map.mpr ⟨t0, hm0, rfl⟩, by rw [ki t0 hm0, h0]⟩ hu
    have e3 : some (seqObj "list" (ts.map fun t => Value.ref t.1).toArray 0) = some o := e.symm.trans eo
    rw [← Option.some.inj e3] at hc
    exact absurd (Value.type.inj hc) (by decide)
  · have hp := h2.perm
    let g : Value → Addr × List Int := fun v => (uptAdr v, TS.intsOf s.heap v)
    have back : (ts.map fun t => Value.ref t.1).map g = ts := by
      rw [List.map_map]
      refine (List.map_congr_left fun t hm => ?_).trans (List.map_id ts)
      show (t.1, TS.intsOf s.heap (.ref t.1)) = t
      rw [ki t hm]
    have pm : (out.map g).Perm ts := by
      have := hp.map g
      rw [back] at this
      exact this
    have outr : (out.map g).map (fun t => Value.ref t.1) = out := by
      rw [List.map_map]
      refine (List.map_congr_left fun v hv => ?_).trans (List.map_id out)
      obtain ⟨t, _, rfl⟩ := List.mem_map.mp (hp.mem_iff.mp hv)
      rfl
    obtain ⟨ep, he'⟩ := PyProof.Rows.sortedAll_at s.heap (ts.map fun t => Value.ref t.1) out.toArray
    have hlen : ((out.map g).map fun t => V.ref t.1).length ≤ sizeLine := by
      rw [List.length_map, pm.length_eq]
      rw [List.length_map] at hz
      exact hz
    have vo : Vals ((out.map g).map fun t => V.ref t.1) out := by
      have := upt_vals (out.map g)
      rw [outr] at this
      exact this
    refine ⟨.ref _, upd H (s.heap.objs.size + 1) (.lst ((out.map g).map fun t => V.ref t.1)), I.laid (t' := s.toks) (fun _ _ => PyProof.Rows.sortedAll_old) (Nat.le_succ _) ⟨hlen, out, ep, vo, he'⟩, rfl, q _ _ pm ?_ (I.hok.fresh (Nat.le_succ _))⟩
    show UpT.Srt _
    rw [List.map_map]
    exact List.pairwise_map.mpr h1
end L2

set_option Elab.async false
set_option linter.all false
set_option maxRecDepth 100000
set_option maxHeartbeats 4000000
/-! a dict comprehension whose keys are tuples; x in a tuple of data; a block that is never reached -/
namespace L2
open PySem PySem.Spec PyProof.Rows
/-- the new dict D takes a pair -/
theorem putT_set {Y : Cx} {ps : List (Addr × Obj)} {τ : St} {G : Hp} {z : Shared} {Er : Value → Shared → Prop} {D b : Addr} {kvs : List (List Key × V)} {k : List Key} {v : V} {u r : Value} {Q : Unit → Shared → Prop} (hu : Y.A.units + 1 < cLine)
    (I : Inv Y ps τ G z) (eD : G D = some (.dT kvs)) (room : kvs.length < sizeLine) (eb : G b = some (.tup (k.map kV))) (ry : RelV (.ref b) u) (rv : RelV v r) (go : ∀ z', Inv Y ps τ (upd G D (.dT (putK kvs k v))) z' → Q () z') :
    wpAny (model Y.prog Y.w) Y.A (dictSet D u r) Q Er z := by
  obtain rfl : u = Value.ref b := ry
  obtain ⟨sz, hd, xs, rel, dd⟩ := dt_of I.hok eD
  have sz1 : xs.length ≤ sizeLine := (Paired.length rel) ▸ sz
  have sz2 : (putK kvs k v).length ≤ sizeLine := by
    have := length_putK kvs k v
    omega
  refine wpAny_dictSet_heap (hsz := sz1) (knd := tupleKind (mixKind Y.prog Y.w)) (by first | exact Nat.lt_of_succ_lt hu | exact hu) (key_of I.hok eb) dd fun h1 d1 same => go _ ?_
  obtain ⟨ob, es, ep, g1, g2, g3, g4, _, g6⟩ := d1
  refine d_write I (by rw [eD]; trivial) same ⟨ob, g1⟩ ⟨sz2, hd, _, KT.keeps (rel.put k eb rv) fun c ys ec => ?_, ob, es, ep, g1, g2, g3, g4, g6⟩
  rw [upd_ne (ne_of ec eD (by intro q; cases q))]
  exact ec
/-- {k: v for target in iter if ..}, keys tuples of ints and texts -/
def tDcT (wi : TI) (g : TG) (tt : TT) (tk tv : TE) (vs : List Nat) : TE := fun σ H Q => wi σ H fun J H1 => ∀ D, H1 D = none → ∃ W : Nat → Nat → Hp → Prop, (∃ m, W 0 m (upd H1 D (.dT []))) ∧
  ∀ i m H, W i m H → (J.stop i H ∧ Q (.ref D) H) ∨ (J.go i H ∧ ∃ Nx : Hp → Prop, (∀ H', Nx H' → ∃ m', m' < m ∧ W (i + 1) m' H') ∧
    ∀ x H', J.yld i H x H' → g x (wipe σ vs) H' fun σ2 H2 => wipe σ2 vs = wipe σ vs ∧ tt σ2 H2 fun b H3 => if b = true then tk σ2 H3 fun y H4 => tv σ2 H4 fun z H5 =>
      ∃ kvs k c, y = .ref c ∧ H5 c = some (.tup (k.map kV)) ∧ H5 D = some (.dT kvs) ∧ kvs.length < sizeLine ∧ Nx (upd H5 D (.dT (putK kvs k z))) else Nx H3)
section
variable {X : Cx}
theorem pe_dcT {kx vx tg iter : Expr} {ifs : List Expr} {scope : Scope} {own : List (Str × Nat)} {pos : Pos} {wi : TI} {g : TG} {tt : TT} {tk tv : TE} (hc : X.calm = true) (hu : X.A.units + 1 < cLine) (hN : X.N.Nodup) (hi : PI X tg iter wi) (ok : BlkOk X.N X.env.scope scope own)
    (hg : ∀ (z : Shared) (G : Hp) (C : Addr) (cl : List (Str × Addr)) (fp : List Addr), PG (X.blk z G scope (compEnvC scope cl C X.env) fp) tg g)
    (ht : ∀ (z : Shared) (G : Hp) (C : Addr) (cl : List (Str × Addr)) (fp : List Addr), PTs (X.blk z G scope (compEnvC scope cl C X.env) fp) ifs tt)
    (hk : ∀ (z : Shared) (G : Hp) (C : Addr) (cl : List (Str × Addr)) (fp : List Addr), PE (X.blk z G scope (compEnvC scope cl C X.env) fp) kx tk)
    (hv : ∀ (z : Shared) (G : Hp) (C : Addr) (cl : List (Str × Addr)) (fp : List Addr), PE (X.blk z G scope (compEnvC scope cl C X.env) fp) vx tv) (hf : ∀ x, foldedSetIterable iter X.env x = pure x := by intro _; rfl) :
    PE X (.DictComp kx vx [⟨tg, iter, ifs, 0⟩] scope pos) (tDcT wi g tt tk tv (own.map (·.2))) := by
  refine ⟨fun ps z0 σ G Q I want => ?_⟩
  rw [arm_eval_DictComp]
  have cells : ∀ y ∈ scope.names, y.2 = .free → ∃ c, X.env.cells.lookup y.1 = some c := fun y hy e => by
    rcases ok.free y hy e with q | q
    · exact I.ok.has _ (.inl q)
    · exact I.ok.has _ (.inr q)
  refine wpAny_comprehension_free rfl hf (closure_ok cells) ok.kind (fun y hy e => by rw [ok.uniq y hy, e])
    (thn (hi.run ps z0 σ G _ I want) fun xv z1 hx => thn hx fun itv z2 got => ?_)
  obtain ⟨it, fp, tn, J, G2, e, I2, T, at2, fresh2, plan⟩ := got
  subst e
  refine wpAny_newObj_type (newEnv_comp ?_)
  generalize eD : z2.heap.objs.size = D
  have noD : G2 D = none := I2.hok.fresh (Nat.le_of_eq eD)
  obtain ⟨W, ⟨m0, start⟩, turn⟩ := plan D noD
  generalize e3 : ({ z2 with heap := z2.heap.push { cls := .type "dict", data := .dict #[] } } : Shared) = z3
  have I3 : Inv X ps σ (upd G2 D (.dT [])) z3 := by
    subst e3
    refine I2.laid (t' := z2.toks) (fun b o q => Heap.get?_push_of_some _ q) (Nat.le_of_eq eD) ?_
    subst eD
    exact dt_empty z2.heap I2.big
  have heap3 : z3.heap = z2.heap.push { cls := .type "dict", data := .dict #[] } := by subst e3; rfl
  have low : ∀ b ∈ fp, b < z2.heap.objs.size := fun b hb => let ⟨_, q, _⟩ := T.obj _ _ at2 b hb; Heap.lt_size q
  have fresh3 : ∀ b ∈ fp, FpOk X ps (upd G2 D (.dT [])) b ∧ b < z3.heap.objs.size := fun b hb => by
    have lb := low b hb
    have nb : (upd G2 D (.dT [])) b = none := by
      rw [upd_ne (by subst eD; exact Nat.ne_of_lt lb)]
      exact (fresh2 b hb).1
    exact ⟨⟨nb, (fresh2 b hb).2⟩, by rw [heap3, Heap.size_push]; exact Nat.lt_succ_of_lt lb⟩
  have at3 : tn 0 z3.heap := T.keep _ _ _ at2 fun b _ o q => by rw [heap3]; exact Heap.get?_push_of_some _ q
  have I4 := block_start I3 ok hN fresh3
  generalize eH : upd G2 D (.dT []) = G3 at I3 I4 start fresh3
  show codeAny _ _ (.compStart _ 0 (.ref it) (.ref D) (compEnvC scope (cellsFrom (z3.heap.objs.size + 1) scope.names (cloFrom X.env.cells scope.names [])) z3.heap.objs.size X.env)) (compPost (model X.prog X.w) X.A X.xe none _ (.ref D) z3.heap.objs.size) { z3 with heap := pushCells (z3.heap.push { cls := .type "dict", data := .dict #[] }) scope.names }
  have ppg := hg z3 G3 z3.heap.objs.size (cellsFrom (z3.heap.objs.size + 1) scope.names (cloFrom X.env.cells scope.names [])) fp
  have ppt := ht z3 G3 z3.heap.objs.size (cellsFrom (z3.heap.objs.size + 1) scope.names (cloFrom X.env.cells scope.names [])) fp
  have ppk := hk z3 G3 z3.heap.objs.size (cellsFrom (z3.heap.objs.size + 1) scope.names (cloFrom X.env.cells scope.names [])) fp
  have ppv := hv z3 G3 z3.heap.objs.size (cellsFrom (z3.heap.objs.size + 1) scope.names (cloFrom X.env.cells scope.names [])) fp
  generalize eE : compEnvC scope (cellsFrom (z3.heap.objs.size + 1) scope.names (cloFrom X.env.cells scope.names [])) z3.heap.objs.size X.env = ce at I4 ppg ppt ppk ppv ⊢
  have loc : ce.locals = z3.heap.objs.size := by subst eE; rfl
  generalize e4 : ({ z3 with heap := pushCells (z3.heap.push { cls := .type "dict", data := .dict #[] }) scope.names } : Shared) = z4 at I4 ⊢
  have at4 : tn 0 z4.heap := T.keep _ _ _ at3 fun b _ o q => by subst e4; exact pushCells_keeps _ _ _ _ (Heap.get?_push_of_some _ q)
  let B : Cx := X.blk z3 G3 scope ce fp
  have calmB : B.calm = true := hc
  -- what is the same at each turn's begin
  let At : Nat → Nat → Hp → Shared → Prop := fun i m G' z' => Inv B [] (wipe σ (own.map (·.2))) G' z' ∧ tn i z'.heap ∧ (∀ b ∈ fp, G' b = none) ∧ W i m G'
  have fps : ∀ {τ : St} {G' : Hp} {z' : Shared}, Inv B [] τ G' z' → (∀ b ∈ fp, G' b = none) → ∀ b ∈ fp, FpOk B [] G' b := fun {τ G' z'} I' no b hb =>
    ⟨no b hb, (I'.ok.exf b hb).1, I'.ok.exfs b hb, .inl hb, fun _ c q => (I'.ok.exf b hb).2 _ c q, fun p hp => absurd (show p ∈ (([] : List (Addr × Obj)) ++ ([] : List (Addr × Obj))) from hp) List.not_mem_nil⟩
  have whole : codeAny (model X.prog X.w) X.A (.compLoop (.DictComp kx vx [⟨tg, iter, ifs, 0⟩] scope pos) 0 (.ref it) (.ref D) ce) (compPost (model X.prog X.w) X.A X.xe none (EP X ps σ Q) (.ref D) z3.heap.objs.size) z4 := by
    refine compLoop_anyD (fun m z' => ∃ i G', At i m G' z') (fun m z' ⟨i, G', I', at', no, w'⟩ => ?_) m0 ⟨0, G3, I4, at4, fun b hb => (fresh3 b hb).1.1, start⟩
    rcases turn i m G' w' with ⟨stop, won⟩ | ⟨more, Nx, next, step⟩
    · refine thnF (T.done B rfl rfl rfl calmB i [] z' _ G' (fun _ _ => False) I' (fps I' no) at' stop) fun r z5 ⟨er, I5⟩ => ?_
      subst er
      have outer : Inv X ps σ G' z5 := I3.call' (ch := fp) I5.os I5.base I5.hok I5.bare fun b hb =>
        let q := (fresh3 b hb).1.2
        ⟨q.2.2.1, q.1, q.2.2.2.1, q.2.2.2.2⟩
      have freeC : G' z3.heap.objs.size = none := loc ▸ (show G' ce.locals = none from I5.free)
      obtain ⟨mm, ns, _⟩ := I5.loc
      have ns : z5.heap.Ns z3.heap.objs.size mm := loc ▸ (show z5.heap.Ns ce.locals mm from ns)
      obtain ⟨f0, f1, f2, f3, f4, f5⟩ := I3.fpOk (Nat.le_refl _) freeC
      exact ⟨mm, ns, fun h2 sb => ⟨.ref D, G', outer.turned (t' := z5.toks) (fun b o hb q => (sb.2 b hb).trans q) f0 f1 f3 f4 f5, rfl, won⟩⟩
    · refine thnF (T.item B rfl rfl rfl calmB i [] z' _ G' (fun _ _ => False) I' (fps I' no) at' more) fun r z5 ⟨u, er, then5⟩ => ?_
      subst er
      refine thnF then5 fun _ z6 ⟨x, G6, I6, r6, y6, at6, no6⟩ => ?_
      refine thnF (ppg.run _ z6 _ G6 x u _ (I6.pinned (fps I6 no6) (T.obj _ _ at6)) r6 (step x G6 y6)) fun _ z7 ⟨τ, G7, I7, wiped, q7⟩ => ?_
      refine thnF (ppt.run _ z7 τ G7 _ I7 q7) fun b z8 ⟨G8, I8, q8⟩ => ?_
      have onward : ∀ {z9 : Shared} {G9 : Hp}, Inv B ([] ++ pinsAt fp z6.heap) τ G9 z9 → Nx G9 → ∃ m', m' < m ∧ ∃ i G', At i m' G' z9 := fun {z9 G9} I9 nx => by
        obtain ⟨m', lt, w9⟩ := next G9 nx
        have held : ∀ b ∈ fp, ∀ o, z6.heap.get? b = some o → z9.heap.get? b = some o ∧ G9 b = none := fun b hb o q =>
          have pin := I9.pin (b, o) (List.mem_append_right _ (List.mem_append_right _ (mem_pinsAt hb q)))
          ⟨pin.1, pin.2.1⟩
        have len : (wipe σ (own.map (·.2))).length = τ.length := by rw [← wiped, wipe_length]
        refine ⟨m', lt, i + 1, G9, (I9.unpinned (pins := [])).weak len (fun j v q => (wipe_some (wiped.symm ▸ q : (wipe τ (own.map (·.2)))[j]? = some (some v))).1), T.keep _ _ _ at6 fun b hb o q => (held b hb o q).1, fun b hb => ?_, w9⟩
        obtain ⟨o, q, _⟩ := T.obj _ _ at6 b hb
        exact (held b hb o q).2
      cases b with
      | false =>
        rw [if_neg (by decide)] at q8 ⊢
        exact onward I8 q8
      | true =>
        rw [if_pos rfl] at q8 ⊢
        refine thnF (ppk.run _ z8 τ G8 _ I8 q8) fun ku z9 ⟨y, G9, I9, r9, q9⟩ => ?_
        refine thnF (ppv.run _ z9 τ G9 _ I9 q9) fun vu z10 ⟨v, G10, I10, r10, kvs, k, c, ec, e1, e2, e3', nx⟩ => ?_
        subst ec
        exact putT_set (Y := B) hu I10 e2 e3' e1 r9 r10 fun z11 I11 => onward I11 nx
  exact codeAny_compStart_dict whole (T.self X.A 0 _ _ _ at4 whole)
/-- over a list that stays -/
theorem dcT_list {K : PySem.W.Frag} {a : Addr} {xs : List V} {g : TG} {tt : TT} {tk tv : TE} {vs : List Nat} {σ : St} {H1 : Hp} {D : Addr} {Qd : Hp → Prop} (Pv : Nat → Hp → Prop) (h0 : Pv 0 (upd H1 D (.dT []))) (stays : ∀ i H, i ≤ xs.length → Pv i H → SqL K H a xs)
    (hs : ∀ i x H, xs[i]? = some x → Pv i H → g x (wipe σ vs) H fun σ2 H2 => wipe σ2 vs = wipe σ vs ∧ tt σ2 H2 fun b H3 => if b = true then tk σ2 H3 fun y H4 => tv σ2 H4 fun z H5 =>
      ∃ kvs k c, y = .ref c ∧ H5 c = some (.tup (k.map kV)) ∧ H5 D = some (.dT kvs) ∧ kvs.length < sizeLine ∧ Pv (i + 1) (upd H5 D (.dT (putK kvs k z))) else Pv (i + 1) H3) (hd : ∀ H, Pv xs.length H → Qd H) :
    ∃ W : Nat → Nat → Hp → Prop, (∃ m, W 0 m (upd H1 D (.dT []))) ∧ ∀ i m H, W i m H → ((Itl K a).stop i H ∧ Qd H) ∨ ((Itl K a).go i H ∧ ∃ Nx : Hp → Prop, (∀ H', Nx H' → ∃ m', m' < m ∧ W (i + 1) m' H') ∧
      ∀ x H', (Itl K a).yld i H x H' → g x (wipe σ vs) H' fun σ2 H2 => wipe σ2 vs = wipe σ vs ∧ tt σ2 H2 fun b H3 => if b = true then tk σ2 H3 fun y H4 => tv σ2 H4 fun z H5 =>
        ∃ kvs k c, y = .ref c ∧ H5 c = some (.tup (k.map kV)) ∧ H5 D = some (.dT kvs) ∧ kvs.length < sizeLine ∧ Nx (upd H5 D (.dT (putK kvs k z))) else Nx H3) := by
  refine ⟨fun i m H => m + i = xs.length ∧ Pv i H, ⟨xs.length, by omega, h0⟩, fun i m H ⟨em, p⟩ => ?_⟩
  have q := stays i H (by omega) p
  cases m with
  | zero =>
    obtain rfl : i = xs.length := by omega
    exact .inl ⟨⟨xs, q, Nat.le_refl _⟩, hd H p⟩
  | succ m =>
    have lt : i < xs.length := by omega
    refine .inr ⟨⟨xs, xs[i], q, by simp [lt]⟩, Pv (i + 1), fun H' p' => ⟨m, Nat.lt_succ_self m, by omega, p'⟩, fun x H' y => ?_⟩
    obtain ⟨e, y⟩ := y
    subst e
    exact hs i x _ (y xs q) p
def rInDT (K : PySem.W.Frag) : R2 := fun x y H Q => ∃ d ds, Dp K H x d ∧ Dp K H y (.tuple ds) ∧ SeqAt.shaped d = true ∧ SeqAt.shaped (.tuple ds) = true ∧ Q (.bl (ds.any fun z => PyData.eqv z d)) H
/-- x in t, t a tuple of data -/
theorem op_inDT (hu : X.A.units + 65 < cLine) : OpR X (compareOp .In) (rInDT X.K) := by
  intro ps z σ G x y v u Q I rx ry ⟨d, ds, hd, he, sd, se, q⟩
  obtain ⟨as, r1⟩ := Dp.reads I d x v hd rx
  obtain ⟨bs, r2⟩ := Dp.reads I (.tuple ds) y u he ry
  exact SeqAt.in_tuple_reads r2 r1 (SeqAt.canLay_of_shaped se) (SeqAt.canLay_of_shaped sd) (room_in_shaped sd hu) ⟨.bl _, G, I, rfl, q⟩
end
end L2

set_option Elab.async false
set_option linter.all false
set_option maxRecDepth 100000
set_option maxHeartbeats 4000000
namespace K5
open PySem L2
def top (i : Nat) : Stmt := PySem.Challenge.pw_bothwalks_k56_up_sets_of_an_order.main.body.getD i (.Pass ⟨0, 0, 0, 0⟩)
/-- a def of the text that stands, is kept and keeps its promise; nothing leaves it -/
structure Cal (P : Program) (w : World) (K : PySem.W.Frag) (mg : Str → Option Value) (base : Heap) (k : Nat) (x : Str) (ps : List Str) (sp : Sp) : Prop where
  ex : ∃ (f : Addr) (fd : FuncData), mg x = some (.ref f) ∧ PySem.W.keepIn K (.ref f) = true ∧ FnOk P w K mg base CX0 k f fd ps sp ∧ Binds K fd ps []
section
variable {X : Cx} {k : Nat} {ps : List Str} {sp : Sp} {x : Str} {p pos : Pos} {e : Expr} {es : List Expr} {t : TA}
theorem pe_cal (c : Cal X.prog X.w X.K X.mg X.base k x ps sp) (hr : Room k X.A) (hg : Gl X x) (ha : PA X (e :: es) t) (hdb : (x == ("__debug__" : Str)) = false := by decide)
    (he : starEach (e :: es) X.env = (false, eval e X.env) :: starEach es X.env := by rfl) (hpl : (backTo pos (starEach es X.env)).any (·.1) = false := by rfl) :
    PE X (.Call (.Name x p) (e :: es) [] pos) (tCall sp [] E0 t) := by
  obtain ⟨f, fd, hm, hk, F, hb⟩ := c.ex
  exact pe_call F hr hg hm hk hb .nil pass0 ha hdb he hpl
end
/-- the built-in names that stand as they are -/
structure Bn (mg : Str → Option Value) : Prop where
  n_isinstance : mg "isinstance" = none
  n_int : mg "int" = none
  n_bool : mg "bool" = none
  n_abs : mg "abs" = none
  n_len : mg "len" = none
  n_list : mg "list" = none
  n_tuple : mg "tuple" = none
  n_range : mg "range" = none
  n_all : mg "all" = none
  n_any : mg "any" = none
  n_sum : mg "sum" = none
  n_sorted : mg "sorted" = none
theorem iteB {c : Bool} {A B : Prop} (h1 : c = true → A) (h2 : c = false → B) : if c = true then A else B := by
  cases c
  · rw [if_neg (by decide)]
    exact h2 rfl
  · rw [if_pos rfl]
    exact h1 rfl
section
variable {P : Program} {w : World} {K : PySem.W.Frag} {mg : Str → Option Value} {base : Heap}
/-- is_whole(i) -/
def spWhole : Sp := fun vs H Q _ => ∃ i : Int, vs = [.int i] ∧ Q (.bl true) H
abbrev s_is_whole : Stmt := top 5
theorem sc_is_whole : FnScope ["thing"] ["thing"] (defScope s_is_whole) := ⟨rfl, rfl, rfl, by decide +kernel, rfl, by decide +kernel, by decide +kernel⟩
theorem ok_is_whole {f : Addr} {fd : FuncData} (F : Fun K "is_whole" "is_whole" s_is_whole f fd) (T : Bn mg) : FnOk P w K mg base CX0 1 f fd ["thing"] spWhole := by
  refine F.ok sc_is_whole (fun vs H Q E h => ?_) (fun cdv A outer s H vs Q E hr h => ?_)
  · obtain ⟨i, rfl, _⟩ := h
    rfl
  · obtain ⟨i, rfl, k⟩ := h
    refine ⟨_, (pss_one (ps_ret (pe_and (pe_callB call_isi (by rfl) T.n_isinstance (by decide +kernel) (pa_cons (pv 0) (pa_cons (pe_bltn (v := .ty "int") rfl T.n_int (by decide +kernel) rfl) pa_nil))) (pe_one (pe_not (pe_callB call_isi (by rfl) T.n_isinstance (by decide +kernel) (pa_cons (pv 0) (pa_cons (pe_bltn (v := .ty "bool") rfl T.n_bool (by decide +kernel) rfl) pa_nil)))))))), ?_⟩
    refine ⟨_, rfl, .int i, .ty "int", _, _, true, rfl, .ty _, (.base (.int i)), kit_ty (r := true) (by decide +kernel), _, rfl, iteT ?_⟩
    exact ⟨_, rfl, .int i, .ty "bool", _, _, false, rfl, .ty _, (.base (.int i)), kit_ty (r := false) (by decide +kernel), _, rfl, k⟩
/-- is_between(least, most, i) -/
def spBetween : Sp := fun vs H Q _ => ∃ a b i : Int, vs = [.int a, .int b, .int i] ∧ a ≤ i ∧ i ≤ b ∧ Q (.bl true) H
abbrev s_is_between : Stmt := top 6
theorem sc_is_between : FnScope ["least", "most", "thing"] ["least", "most", "thing"] (defScope s_is_between) := ⟨rfl, rfl, rfl, by decide +kernel, rfl, by decide +kernel, by decide +kernel⟩
theorem ok_is_between {f : Addr} {fd : FuncData} (F : Fun K "is_between" "is_between" s_is_between f fd) (c_is_whole : Cal P w K mg base 1 "is_whole" ["thing"] spWhole) : FnOk P w K mg base CX0 2 f fd ["least", "most", "thing"] spBetween := by
  refine F.ok sc_is_between (fun vs H Q E h => ?_) (fun cdv A outer s H vs Q E hr h => ?_)
  · obtain ⟨a, b, i, rfl, _⟩ := h
    rfl
  · obtain ⟨a, b, i, rfl, h1, h2, k⟩ := h
    refine ⟨_, (pss_one (ps_ret (pe_and (pe_cal c_is_whole (hr.mono (by decide)) rfl (pa_cons (pv 2) pa_nil)) (pe_one (pe_chain op_le op_le (pv 0) (pv 2) (pv 1)))))), ?_⟩
    refine ⟨_, rfl, i, rfl, _, rfl, iteT ?_⟩
    refine ⟨_, rfl, _, rfl, a, i, rfl, rfl, _, rfl, ?_⟩
    rw [decide_eq_true h1]
    refine iteT ⟨_, rfl, i, b, rfl, rfl, ?_⟩
    show Q (.bl (decide (i ≤ b))) H
    rw [decide_eq_true h2]
    exact k
/-- is_index(many, i) -/
def spIndex : Sp := fun vs H Q _ => ∃ n i : Int, vs = [.int n, .int i] ∧ 0 ≤ i ∧ i < n ∧ Q (.bl true) H
abbrev s_is_index : Stmt := top 7
theorem sc_is_index : FnScope ["many", "thing"] ["many", "thing"] (defScope s_is_index) := ⟨rfl, rfl, rfl, by decide +kernel, rfl, by decide +kernel, by decide +kernel⟩
theorem ok_is_index {f : Addr} {fd : FuncData} (F : Fun K "is_index" "is_index" s_is_index f fd) (c_is_between : Cal P w K mg base 2 "is_between" ["least", "most", "thing"] spBetween) : FnOk P w K mg base CX0 3 f fd ["many", "thing"] spIndex := by
  refine F.ok sc_is_index (fun vs H Q E h => ?_) (fun cdv A outer s H vs Q E hr h => ?_)
  · obtain ⟨n, i, rfl, _⟩ := h
    rfl
  · obtain ⟨n, i, rfl, h1, h2, k⟩ := h
    refine ⟨_, (pss_one (ps_ret (pe_cal c_is_between (hr.mono (by decide)) rfl (pa_cons pe_int (pa_cons (pe_op op_sub (pv 0) pe_int) (pa_cons (pv 1) pa_nil)))))), ?_⟩
    exact ⟨_, rfl, _, _, rfl, rfl, _, rfl, 0, n - 1, i, rfl, h1, by omega, k⟩
/-- is_tuple_of(2, t) -/
def spTup2 : Sp := fun vs H Q _ => ∃ (t : Addr) (x y : V), vs = [.int 2, .ref t] ∧ H t = some (.tup [x, y]) ∧ Q (.bl true) H
abbrev s_is_tuple_of : Stmt := top 10
theorem sc_is_tuple_of : FnScope ["many", "thing"] ["many", "thing"] (defScope s_is_tuple_of) := ⟨rfl, rfl, rfl, by decide +kernel, rfl, by decide +kernel, by decide +kernel⟩
theorem ok_is_tuple_of {f : Addr} {fd : FuncData} (F : Fun K "is_tuple_of" "is_tuple_of" s_is_tuple_of f fd) (T : Bn mg) : FnOk P w K mg base CX0 1 f fd ["many", "thing"] spTup2 := by
  refine F.ok sc_is_tuple_of (fun vs H Q E h => ?_) (fun cdv A outer s H vs Q E hr h => ?_)
  · obtain ⟨t, x, y, rfl, _⟩ := h
    rfl
  · obtain ⟨t, x, y, rfl, e, k⟩ := h
    refine ⟨_, (pss_one (ps_ret (pe_and (pe_callB call_isi (by rfl) T.n_isinstance (by decide +kernel) (pa_cons (pv 1) (pa_cons (pe_bltn (v := .ty "tuple") rfl T.n_tuple (by decide +kernel) rfl) pa_nil))) (pe_one (pe_cmpR op_eq (pe_callB call_len_seq (by rfl) T.n_len PySem.boot_len (pa_cons (pv 1) pa_nil)) (pv 0) (nomark _)))))), ?_⟩
    refine ⟨_, rfl, .ref t, .ty "tuple", _, _, true, rfl, .ty _, .base (.tup e), kit_ty (r := true) (by decide +kernel), _, rfl, iteT ?_⟩
    exact ⟨_, rfl, t, _, rfl, .inr (.inl (.inl e)), _, rfl, rfl, k⟩
theorem at0 {x y : V} : atI [x, y] 0 = some x := atI_nat (j := 0) rfl
theorem at1 {x y : V} : atI [x, y] 1 = some y := atI_nat (j := 1) rfl
/-- is_index_pair(n, t) -/
def spIxPair : Sp := fun vs H Q _ => ∃ (n : Int) (t : Addr) (x y : Int), vs = [.int n, .ref t] ∧ H t = some (.tup [.int x, .int y]) ∧ 0 ≤ x ∧ x < n ∧ 0 ≤ y ∧ y < n ∧ Q (.bl true) H
abbrev s_is_index_pair : Stmt := top 11
theorem sc_is_index_pair : FnScope ["many", "thing"] ["many", "thing"] (defScope s_is_index_pair) := ⟨rfl, rfl, rfl, by decide +kernel, rfl, by decide +kernel, by decide +kernel⟩
theorem ok_is_index_pair {f : Addr} {fd : FuncData} (F : Fun K "is_index_pair" "is_index_pair" s_is_index_pair f fd) (c_is_tuple_of : Cal P w K mg base 1 "is_tuple_of" ["many", "thing"] spTup2) (c_is_index : Cal P w K mg base 3 "is_index" ["many", "thing"] spIndex) :
    FnOk P w K mg base CX0 4 f fd ["many", "thing"] spIxPair := by
  refine F.ok sc_is_index_pair (fun vs H Q E h => ?_) (fun cdv A outer s H vs Q E hr h => ?_)
  · obtain ⟨n, t, x, y, rfl, _⟩ := h
    rfl
  · obtain ⟨n, t, x, y, rfl, e, x0, x1, y0, y1, k⟩ := h
    refine ⟨_, (pss_one (ps_ret (pe_and (pe_cal c_is_tuple_of (hr.mono (by decide)) rfl (pa_cons pe_int (pa_cons (pv 1) pa_nil))) (pe_and (pe_cal c_is_index (hr.mono (by decide)) rfl (pa_cons (pv 0) (pa_cons (pe_ix ix_tup (pv 1) pe_int (fun _ _ => rfl)) pa_nil))) (pe_one (pe_cal c_is_index (hr.mono (by decide)) rfl (pa_cons (pv 0) (pa_cons (pe_ix ix_tup (pv 1) pe_int (fun _ _ => rfl)) pa_nil)))))))), ?_⟩
    refine ⟨_, rfl, t, _, _, rfl, e, _, rfl, iteT ?_⟩
    refine ⟨_, rfl, _, rfl, t, _, _, _, rfl, rfl, SqT.of e, at0, n, x, rfl, x0, x1, _, rfl, iteT ?_⟩
    exact ⟨_, rfl, _, rfl, t, _, _, _, rfl, rfl, SqT.of e, at1, n, y, rfl, y0, y1, k⟩
end
end K5

set_option Elab.async false
set_option linter.all false
set_option maxRecDepth 100000
set_option maxHeartbeats 4000000
namespace K5
open PySem L2
/-! ### the pool of the draws -/
/-- its list: a number below 2 ^ 64, and what is left of the greatest cell -/
def PoolL (o : HO) : Prop := ∃ n g : Int, o = .lst [.int n, .int g] ∧ 0 ≤ n ∧ n < 2 ^ 64 ∧ 0 ≤ g
def PoolAt (H : Hp) (a : Addr) : Prop := ∃ o, H a = some o ∧ PoolL o
theorem PoolAt.put {H : Hp} {a : Addr} {o : HO} (h : PoolL o) : PoolAt (upd H a o) a := ⟨o, upd_same, h⟩
/-- all that was tracked, but the pool, stands -/
def Keep (a : Addr) (H H' : Hp) : Prop := ∀ b o, H b = some o → b ≠ a → H' b = some o
theorem Keep.refl (a : Addr) (H : Hp) : Keep a H H := fun _ _ h _ => h
theorem Keep.trans {a : Addr} {H H1 H2 : Hp} (x : Keep a H H1) (y : Keep a H1 H2) : Keep a H H2 := fun b o h n => y b o (x b o h n) n
theorem Keep.put {a : Addr} {H : Hp} (o : HO) : Keep a H (upd H a o) := fun b u h n => by rw [upd_ne n]; exact h
theorem Keep.of {a : Addr} {H H' : Hp} (s : Same H H') : Keep a H H' := fun b o h _ => s b o h
theorem Same.put {H : Hp} {p : Addr} {o : HO} (h : H p = none) : Same H (upd H p o) := fun b u e => by rw [upd_ne (ne_of_none e h)]; exact e
theorem PoolAt.new {H : Hp} {a p : Addr} {o : HO} (h : PoolAt H a) (hp : H p = none) : PoolAt (upd H p o) a := by
  obtain ⟨u, e, q⟩ := h
  exact ⟨u, by rw [upd_ne (ne_of_none e hp)]; exact e, q⟩
theorem PoolAt.same {H H' : Hp} {a : Addr} (h : PoolAt H a) (s : Same H H') : PoolAt H' a := by
  obtain ⟨u, e, q⟩ := h
  exact ⟨u, s _ _ e, q⟩
theorem PoolAt.ne {H : Hp} {a b : Addr} {xs : List V} (h : PoolAt H a) (e : H b = some (.tup xs)) : b ≠ a := fun z => by
  obtain ⟨u, e2, n, g, q, _⟩ := h
  rw [z, e2, q] at e
  cases e
theorem PoolAt.nei {H : Hp} {a b C dx : Addr} {fs : List (Str × V)} (h : PoolAt H a) (e : H b = some (.ins C dx fs)) : b ≠ a := fun z => by
  obtain ⟨u, e2, n, g, q, _⟩ := h
  rw [z, e2, q] at e
  cases e
theorem SqT.put {K : PySem.W.Frag} {H : Hp} {a t : Addr} {xs : List V} {o : HO} (h : PoolAt H a) (s : SqT K H t xs) : SqT K (upd H a o) t xs := by
  obtain ⟨u, e2, n, g, q, _⟩ := h
  rcases s with (s | ⟨ob, s⟩) | s
  · refine .inl (.inl ?_)
    rw [upd_ne (fun z => by rw [z, e2, q] at s; cases s)]
    exact s
  · refine .inl (.inr ⟨ob, ?_⟩)
    rw [upd_ne (fun z => by rw [z, e2, q] at s; cases s)]
    exact s
  · exact .inr s
/-- the next number of the pool -/
def nextN (n : Int) : Int := ((n + 7919) * 6364136223846793005 + 1442695040888963407).fmod ((2 : Int) ^ (64 : Int).toNat)
theorem nextN_ok (n : Int) : 0 ≤ nextN n ∧ nextN n < 2 ^ 64 := by
  have e2 : ((2 : Int) ^ (64 : Int).toNat) = 18446744073709551616 := by decide +kernel
  unfold nextN
  rw [e2, Int.fmod_eq_emod_of_nonneg _ (by decide)]
  exact ⟨Int.emod_nonneg _ (by decide), Int.emod_lt_of_pos _ (by decide)⟩
def spDraw : Sp := fun vs H Q _ => ∃ (a : Addr) (m : Int), vs = [.ref a, .int m] ∧ PoolAt H a ∧ 0 < m ∧ m.natAbs.log2 < 9000 ∧ ∀ (r : Int) (o : HO), 0 ≤ r → r < m → PoolL o → Q (.int r) (upd H a o)
theorem log_small {m : Int} {b : Nat} (h : m.natAbs < 2 ^ b) (h0 : 0 < b) (hb : b ≤ 9000) : m.natAbs.log2 < 9000 := Nat.lt_of_lt_of_le (PySem.Flt.log2_lt_of h0 h) hb
section
variable {P : Program} {w : World} {K : PySem.W.Frag} {mg : Str → Option Value} {base : Heap} {C B : Addr}
abbrev s_draw : Stmt := top 23
theorem sc_draw : FnScope ["_law_pool_here", "_law_many", "_law_digit"] ["_law_pool_here", "_law_many"] (defScope s_draw) := ⟨rfl, rfl, rfl, by decide +kernel, rfl, by decide +kernel, by decide +kernel⟩
theorem ok_draw {f : Addr} {fd : FuncData} (F : Fun K "_law_draw" "_law_draw" s_draw f fd) (T : Bn mg) : FnOk P w K mg base CX0 1 f fd ["_law_pool_here", "_law_many"] spDraw := by
  refine F.ok sc_draw (fun vs H Q E h => ?_) (fun cdv A outer s H vs Q E hr h => ?_)
  · obtain ⟨a, m, rfl, _⟩ := h
    rfl
  · obtain ⟨a, m, rfl, ⟨_, ha, n, g, rfl, n0, n1, g0⟩, m0, ml, k⟩ := h
    have ia : ∀ {H' : Hp} {n g : Int}, H' a = some (.lst [.int n, .int g]) → SqL K H' a [.int n, .int g] := fun h => SqL.of h
    refine ⟨_, (pss_cons (ps_if (pt_cmpR op_ge (pe_ix ix_list (pv 0) pe_int (fun _ _ => rfl)) (pe_op op_pow pe_int pe_int) (nomark _))
        (pss_cons (ps_set (i := 2) sc_draw.nd rfl (Or.inl rfl) (pe_op op_modN (pe_callTy call_int1 (by rfl) T.n_int (by decide +kernel) (pa_cons (pe_ix ix_list (pv 0) pe_int (fun _ _ => rfl)) pa_nil)) (pv 1)))
          (pss_cons (ps_asg (pe_op op_fdivW (pe_ix ix_list (pv 0) pe_int (fun _ _ => rfl)) (pv 1)) (pg_sub (pv 0) pe_int set_list))
          (pss_one (ps_ret (pv 2)))))
        pss_nil)
      (pss_cons (ps_asg (pe_op op_modN (pe_callTy call_int1 (by rfl) T.n_int (by decide +kernel) (pa_cons (pe_op op_add (pe_op op_mul (pe_callTy call_int1 (by rfl) T.n_int (by decide +kernel) (pa_cons (pe_op op_add (pe_ix ix_list (pv 0) pe_int (fun _ _ => rfl)) pe_int) pa_nil)) pe_int) pe_int) pa_nil)) (pe_op op_pow pe_int pe_int)) (pg_sub (pv 0) pe_int set_list))
      (pss_one (ps_ret (pe_op op_modN (pe_callTy call_int1 (by rfl) T.n_int (by decide +kernel) (pa_cons (pe_op op_fdivW (pe_ix ix_list (pv 0) pe_int (fun _ _ => rfl)) pe_int) pa_nil)) (pv 1)))))), ?_⟩
    refine ⟨_, rfl, a, _, 1, _, rfl, rfl, ia ha, at1, 10, 9, rfl, rfl, ⟨by decide, by decide, by decide⟩, g, _, rfl, rfl, _, rfl, ite2 (fun e => ?_) (fun e => ?_)⟩
    · refine ⟨_, rfl, a, _, 1, _, rfl, rfl, ia ha, at1, .inl ⟨g, rfl, _, rfl, g, m, rfl, rfl, by omega, ?_⟩⟩
      refine ⟨_, rfl, a, _, 1, _, rfl, rfl, ia ha, at1, _, rfl, g, m, rfl, rfl, ⟨m0, ml⟩, ?_⟩
      refine ⟨_, rfl, a, _, 1, 1, rfl, rfl, ha, rfl, _, rfl, ?_⟩
      have e1 : g.fmod m = g % m := Int.fmod_eq_emod_of_nonneg g (by omega)
      show Q (.int (g.fmod m)) (upd H a (.lst [.int n, .int (g / m)]))
      rw [e1]
      exact k _ _ (Int.emod_nonneg g (by omega)) (Int.emod_lt_of_pos g m0) ⟨n, g / m, rfl, n0, n1, Int.ediv_nonneg g0 (by omega)⟩
    · refine ⟨_, rfl, a, _, 0, _, rfl, rfl, ia ha, at0, n, 7919, rfl, rfl, .inl ⟨n + 7919, rfl, _, _, rfl, rfl, .inr ⟨by decide, by decide⟩, _, _, rfl, rfl, .inl ⟨_, rfl, ?_⟩⟩⟩
      refine ⟨2, 64, rfl, rfl, ⟨by decide, by decide, by decide⟩, _, _, rfl, rfl, (by show ((2 : Int) ^ (64 : Int).toNat) ≠ 0; decide +kernel), ?_⟩
      refine ⟨_, rfl, a, _, 0, 0, rfl, rfl, ha, rfl, ?_⟩
      obtain ⟨z0, z1⟩ := nextN_ok n
      refine ⟨_, rfl, a, _, 0, _, rfl, rfl, ia (n := nextN n) (g := g) upd_same, at0, nextN n, 65536, rfl, rfl, ⟨by decide, by decide⟩, .inl ⟨_, rfl, _, rfl, _, m, rfl, rfl, by omega, ?_⟩⟩
      have e1 : (nextN n / 65536).fmod m = (nextN n / 65536) % m := Int.fmod_eq_emod_of_nonneg _ (by omega)
      show Q (.int ((nextN n / 65536).fmod m)) (upd H a (.lst [.int (nextN n), .int g]))
      rw [e1]
      exact k _ _ (Int.emod_nonneg _ (by omega)) (Int.emod_lt_of_pos _ m0) ⟨nextN n, g, rfl, z0, z1, g0⟩
end
end K5

set_option Elab.async false
set_option linter.all false
set_option maxRecDepth 100000
set_option maxHeartbeats 4000000
namespace K5
open PySem L2
theorem take_more {α : Type} : ∀ {l : List α} {i : Nat} {x : α}, l[i]? = some x → l.take (i + 1) = l.take i ++ [x]
  | [], i, x, h => by simp at h
  | a :: l, 0, x, h => by
    have e : a = x := Option.some.inj h
    subst e
    rfl
  | a :: l, i + 1, x, h => by
    have ih := take_more (l := l) (i := i) (x := x) h
    show a :: l.take (i + 1) = a :: l.take i ++ [x]
    rw [ih]
    rfl
theorem at_map {ms : List Int} {i : Nat} {x : V} (h : (ms.map V.int)[i]? = some x) : ∃ z, ms[i]? = some z ∧ x = .int z := by
  rw [List.getElem?_map] at h
  cases e : ms[i]? with
  | none => rw [e] at h; cases h
  | some z => rw [e] at h; exact ⟨z, rfl, (Option.some.inj h).symm⟩
theorem cut_map (ns : List Int) (lo hi : Option Int) : ∃ ms : List Int, cutV (ns.map V.int) lo hi = ms.map V.int ∧ ms.length ≤ ns.length := by
  refine ⟨(ns.drop (HT.sIx (ns.map V.int).length 0 lo)).take (HT.sIx (ns.map V.int).length (ns.map V.int).length hi - HT.sIx (ns.map V.int).length 0 lo), ?_, ?_⟩
  · unfold cutV
    rw [List.map_take, List.map_drop]
  · rw [List.length_take, List.length_drop]
    omega
theorem yes_of {σ : St} {H : Hp} {A B : Hp → Prop} (h : A H) : tYes σ H (fun b H3 => if b = true then A H3 else B H3) := by
  show (if true = true then A H else B H)
  rw [if_pos rfl]
  exact h
def spPool (K : PySem.W.Frag) : Sp := fun vs H Q _ => ∃ (a : Addr) (ns : List Int), vs = [.ref a] ∧ SqL K H a (ns.map V.int) ∧ ns.length ≤ 63 ∧ ∀ (p : Addr) (H' : Hp), Same H H' → H p = none → PoolAt H' p → Q (.ref p) H'
theorem sml {n : Nat} (h : n ≤ 1000) : n < sizeLine := small1000 h
theorem same_free {H H' : Hp} {p : Addr} (s : Same H H') (h : H' p = none) : H p = none := s.free h
section
variable {P : Program} {w : World} {K : PySem.W.Frag} {mg : Str → Option Value} {base : Heap} {C B : Addr}
abbrev s_pool : Stmt := top 22
theorem sc_pool : FnScope ["_law_script", "_law_cells", "_law_number", "_law_cell", "_law_great"] ["_law_script"] (defScope s_pool) := ⟨rfl, rfl, rfl, by decide +kernel, rfl, by decide +kernel, by decide +kernel⟩
theorem ok_pool {f : Addr} {fd : FuncData} (F : Fun K "_law_pool" "_law_pool" s_pool f fd) (T : Bn mg) : FnOk P w K mg base CX0 1 f fd ["_law_script"] (spPool K) := by
  refine F.ok sc_pool (fun vs H Q E h => ?_) (fun cdv A outer s H vs Q E hr h => ?_)
  · obtain ⟨a, ns, rfl, _⟩ := h
    rfl
  · obtain ⟨a, ns, rfl, ha, hl, k⟩ := h
    refine ⟨_, (pss_cons (ps_set (i := 1) sc_pool.nd rfl (Or.inl rfl) (pe_op op_cat (pe_lc (own := [("_law_cell", 3)]) rfl sc_pool.nd (pi_list (pe_slice sl_list (pv 0) po_none (po_some pe_int))) (blkOk_by (N := ["_law_script", "_law_cells", "_law_number", "_law_cell", "_law_great"]) (sc := defScope s_pool) (by decide +kernel)) (fun _ _ _ _ _ => (pg_name (i := 3) sc_pool.nd rfl (Or.inl rfl))) (fun _ _ _ _ _ => pts_nil) (fun _ _ _ _ _ => (pe_callTy call_int1 (by rfl) T.n_int (by decide +kernel) (pa_cons (pv 3) pa_nil)))) (pe_lst (pa_cons (pe_callB call_len_seq (by rfl) T.n_len PySem.boot_len (pa_cons (pe_slice sl_list (pv 0) po_none (po_some pe_int)) pa_nil)) pa_nil))))
      (pss_cons (ps_set (i := 2) sc_pool.nd rfl (Or.inl rfl) pe_int)
      (pss_cons (ps_for PassesOwn.never rfl (pi_list (pv 1)) (pg_name (i := 3) sc_pool.nd rfl (Or.inl rfl))
        (pss_one (ps_set (i := 2) sc_pool.nd rfl (Or.inl rfl) (pe_op op_modN (pe_callTy call_int1 (by rfl) T.n_int (by decide +kernel) (pa_cons (pe_op op_add (pe_op op_add (pe_op op_mul (pv 2) pe_int) (pv 3)) pe_int) pa_nil)) (pe_op op_sub (pe_op op_pow pe_int pe_int) pe_int)))))
      (pss_cons (ps_setLc (i := 4) (own := [("_law_cell", 3)]) rfl sc_pool.nd rfl rfl (sw_true rfl rfl rfl (by decide +kernel)) (pi_list (pv 1)) (blkOk_by (N := ["_law_script", "_law_cells", "_law_number", "_law_cell", "_law_great"]) (sc := defScope s_pool) (by decide +kernel)) (fun _ _ _ _ _ => (pg_name (i := 3) sc_pool.nd rfl (Or.inl rfl))) (fun _ _ _ _ _ => (pts_one (pt_cmpR op_ge (pe_callB call_abs (by rfl) T.n_abs (by decide +kernel) (pa_cons (pv 3) pa_nil)) (pe_op op_pow pe_int pe_int) (nomark _)))) (fun _ _ _ _ _ => (pe_callB call_abs (by rfl) T.n_abs (by decide +kernel) (pa_cons (pv 3) pa_nil))))
      (pss_one (ps_ret (pe_lst (pa_cons (pv 2) (pa_cons (pe_ix ix_list (pe_op op_cat (pv 4) (pe_lst (pa_cons pe_int pa_nil))) pe_int (fun _ _ => rfl)) pa_nil))))))))), ?_⟩
    obtain ⟨ms, hms, hml⟩ := cut_map ns none (some 60)
    -- the cells
    refine ⟨_, rfl, _, rfl, a, _, rfl, ha, fun p1 np1 => ?_⟩
    rw [hms]
    refine ⟨p1, rfl, ⟨_, SqL.of upd_same⟩, fun D nD => ?_⟩
    refine lc_list (K := K) (a := p1) (xs := ms.map V.int) (fun i H' => H' = upd (upd H p1 (.lst (ms.map V.int))) D (.lst ((ms.take i).map V.int))) rfl (fun i H' hi e => ?_) ?_ ?_
    · rw [e]
      have ne : p1 ≠ D := fun z => by rw [← z, upd_same] at nD; cases nD
      exact SqL.of (by rw [upd_ne ne, upd_same])
    · rintro i x H' hi rfl
      obtain ⟨z, hz, rfl⟩ := at_map hi
      refine ⟨rfl, yes_of ?_⟩
      refine ⟨_, rfl, .inl ⟨z, rfl, _, upd_same, ?_, ?_⟩⟩
      · rw [List.length_map, List.length_take]
        exact sml (by omega)
      · rw [upd_upd, take_more hz, List.map_append]
        rfl
    · rintro H' rfl
      rw [List.length_map, List.take_length]
      have s1 : Same H (upd (upd H p1 (.lst (ms.map V.int))) D (.lst (ms.map V.int))) := (Same.put np1).trans (Same.put nD)
      have eD : (upd (upd H p1 (.lst (ms.map V.int))) D (.lst (ms.map V.int))) D = some (.lst (ms.map V.int)) := upd_same
      generalize (upd (upd H p1 (.lst (ms.map V.int))) D (.lst (ms.map V.int))) = H1 at s1 eD ⊢
      refine ⟨_, rfl, _, rfl, a, _, rfl, s1.seq ha, fun p2 np2 => ?_⟩
      rw [hms]
      refine ⟨p2, _, rfl, .inl (SqL.of upd_same), by show 1 ≤ sizeLine; decide, fun p3 np3 => ?_⟩
      rw [List.length_map]
      have s2 : Same H1 (upd (upd H1 p2 (.lst (ms.map V.int))) p3 (.lst [V.int (ms.length : Int)])) := (Same.put np2).trans (Same.put np3)
      refine ⟨D, p3, ms.map V.int, [V.int (ms.length : Int)], rfl, rfl, s2 _ _ eD, upd_same, ?_, fun p4 np4 => ?_⟩
      · rw [List.length_map]
        exact Nat.le_of_lt (sml (by show ms.length + 1 ≤ 1000; omega))
      have s3 : Same H (upd (upd (upd H1 p2 (.lst (ms.map V.int))) p3 (.lst [V.int (ms.length : Int)])) p4 (.lst ((ms ++ [(ms.length : Int)]).map V.int))) := (s1.trans s2).trans (Same.put np4)
      have e4 : (ms.map V.int ++ [V.int (ms.length : Int)]) = (ms ++ [(ms.length : Int)]).map V.int := by rw [List.map_append]; rfl
      rw [e4]
      have eC : (upd (upd (upd H1 p2 (.lst (ms.map V.int))) p3 (.lst [V.int (ms.length : Int)])) p4 (.lst ((ms ++ [(ms.length : Int)]).map V.int))) p4 = some (.lst ((ms ++ [(ms.length : Int)]).map V.int)) := upd_same
      have hcl : (ms ++ [(ms.length : Int)]).length ≤ 64 := by
        rw [List.length_append]
        show ms.length + 1 ≤ 64
        omega
      generalize (upd (upd (upd H1 p2 (.lst (ms.map V.int))) p3 (.lst [V.int (ms.length : Int)])) p4 (.lst ((ms ++ [(ms.length : Int)]).map V.int))) = H4 at s3 eC ⊢
      generalize ms ++ [(ms.length : Int)] = cs at eC hcl ⊢
      -- the number
      refine ⟨_, rfl, p4, rfl, ⟨_, SqL.of eC⟩, for_list (K := K) (a := p4) (xs := cs.map V.int) (fun i σ H' => H' = H4 ∧ ∃ (n : Int) (v : Option V), 0 ≤ n ∧ n < 2 ^ 64 ∧ σ = [some (.ref a), some (.ref p4), some (.int n), v, none]) ⟨rfl, 7, none, by decide, by decide, rfl⟩ (fun i σ H' _ h => by rw [h.1]; exact SqL.of eC) ?_ ?_⟩
      · rintro i x σ H' hi ⟨rfl, n, v, n0, n1, rfl⟩
        obtain ⟨z, hz, rfl⟩ := at_map hi
        refine ⟨_, rfl, _, _, rfl, rfl, .inr ⟨by decide, by decide⟩, _, rfl, _, _, rfl, rfl, _, _, rfl, rfl, .inl ⟨_, rfl, 2, 61, rfl, rfl, ⟨by decide, by decide, by decide⟩, _, _, rfl, rfl, _, _, rfl, rfl, ?_, rfl, ?_⟩⟩
        · show ((2 : Int) ^ (61 : Int).toNat - 1) ≠ 0
          decide +kernel
        · have e : ((2 : Int) ^ (61 : Int).toNat - 1) = 2305843009213693951 := by decide +kernel
          refine ⟨(n * 48271 + z + 11).fmod ((2 : Int) ^ (61 : Int).toNat - 1), some (.int z), ?_, ?_, rfl⟩
          · rw [e, Int.fmod_eq_emod_of_nonneg _ (by decide)]
            exact Int.emod_nonneg _ (by decide)
          · rw [e, Int.fmod_eq_emod_of_nonneg _ (by decide)]
            exact Int.lt_trans (Int.emod_lt_of_pos _ (by decide)) (by decide)
      · rintro σ H4 ⟨rfl, n, v, n0, n1, rfl⟩
        -- the great cells
        refine ⟨_, rfl, p4, rfl, ⟨_, SqL.of eC⟩, fun G nG => ?_⟩
        refine lc_list (K := K) (a := p4) (xs := cs.map V.int) (fun i H' => ∃ gs : List Int, H' = upd H4 G (.lst (gs.map V.int)) ∧ gs.length ≤ i ∧ ∀ g ∈ gs, 0 ≤ g) ⟨[], rfl, Nat.le_refl _, fun _ h => by cases h⟩ (fun i H' hi h => ?_) ?_ ?_
        · obtain ⟨gs, e, _⟩ := h
          rw [e]
          exact SqL.of (by rw [upd_ne (ne_of_none eC nG)]; exact eC)
        · rintro i x H' hi ⟨gs, rfl, gl, g0⟩
          obtain ⟨z, hz, rfl⟩ := at_map hi
          have hi2 : i < cs.length := (List.getElem?_eq_some_iff.mp hz).1
          refine ⟨rfl, _, rfl, z, rfl, 10, 18, rfl, rfl, ⟨by decide, by decide, by decide⟩, _, _, rfl, rfl, _, rfl, iteB (fun _ => ?_) (fun _ => ?_)⟩
          · refine ⟨_, rfl, z, rfl, _, upd_same, ?_, gs ++ [if z < 0 then -z else z], ?_, ?_, ?_⟩
            · rw [List.length_map]
              exact sml (by omega)
            · rw [upd_upd, List.map_append]
              rfl
            · rw [List.length_append]
              show gs.length + 1 ≤ i + 1
              omega
            · intro g hg
              rcases List.mem_append.mp hg with h | h
              · exact g0 g h
              · have e := List.mem_singleton.mp h
                rw [e]
                split <;> omega
          · exact ⟨gs, rfl, Nat.le_succ_of_le gl, g0⟩
        · rintro H' ⟨gs, rfl, gl, g0⟩
          rw [List.length_map] at gl
          have s4 : Same H (upd H4 G (.lst (gs.map V.int))) := s3.trans (Same.put nG)
          have eG : (upd H4 G (.lst (gs.map V.int))) G = some (.lst (gs.map V.int)) := upd_same
          generalize (upd H4 G (.lst (gs.map V.int))) = H5 at s4 eG ⊢
          refine ⟨_, rfl, _, rfl, by show 1 ≤ sizeLine; decide, fun p5 np5 => ?_⟩
          refine ⟨G, p5, gs.map V.int, [.int 0], rfl, rfl, Same.put np5 _ _ eG, upd_same, ?_, fun p6 np6 => ?_⟩
          · rw [List.length_map]
            exact Nat.le_of_lt (sml (by show gs.length + 1 ≤ 1000; omega))
          have hd : ∃ g : Int, (gs.map V.int ++ [V.int 0])[0]? = some (V.int g) ∧ 0 ≤ g := by
            cases gs with
            | nil => exact ⟨0, rfl, Int.le_refl _⟩
            | cons g r => exact ⟨g, rfl, g0 g (List.mem_cons_self ..)⟩
          obtain ⟨g, hg, gg⟩ := hd
          refine ⟨p6, _, 0, .int g, rfl, rfl, SqL.of upd_same, atI_nat hg, by show 2 ≤ sizeLine; decide, fun p7 np7 => ?_⟩
          have s5 := ((s4.trans (Same.put np5)).trans (Same.put np6)).trans (Same.put (o := .lst [.int n, .int g]) np7)
          exact k p7 _ s5 (((s4.trans (Same.put np5)).trans (Same.put np6)).free np7) ⟨_, upd_same, n, g, rfl, n0, n1, gg⟩
end
end K5

set_option Elab.async false
set_option linter.all false
set_option maxRecDepth 100000
set_option maxHeartbeats 4000000
/-! the mathematics of k56 -/
namespace K5
/-! ### closures -/
abbrev Rl := Nat → Nat → Bool
def wstep (R : Rl) (m : Nat) : Rl := fun s t => R s t || (R s m && R m t)
def wars (R : Rl) : Nat → Rl
  | 0 => R
  | m + 1 => wstep (wars R m) m
theorem wstep_iff {R : Rl} {m s t : Nat} : wstep R m s t = true ↔ R s t = true ∨ (R s m = true ∧ R m t = true) := by
  unfold wstep
  rw [Bool.or_eq_true, Bool.and_eq_true]
theorem wars_old {R : Rl} {s t : Nat} (h : R s t = true) : ∀ n, wars R n s t = true
  | 0 => h
  | n + 1 => wstep_iff.mpr (.inl (wars_old h n))
/-- what is asked of all of R's pairs stays so, if it goes through -/
theorem wars_keep {R : Rl} (C : Nat → Nat → Prop) (tr : ∀ s m t, C s m → C m t → C s t) (h : ∀ s t, R s t = true → C s t) : ∀ n s t, wars R n s t = true → C s t
  | 0, s, t, q => h s t q
  | n + 1, s, t, q => by
    rcases wstep_iff.mp q with q | ⟨q1, q2⟩
    · exact wars_keep C tr h n s t q
    · exact tr s n t (wars_keep C tr h n s n q1) (wars_keep C tr h n n t q2)
theorem wars_trans {R : Rl} : ∀ (n k s t : Nat), k < n → wars R n s k = true → wars R n k t = true → wars R n s t = true
  | 0, k, s, t, h, _, _ => absurd h (Nat.not_lt_zero _)
  | n + 1, k, s, t, h, h1, h2 => by
    have ih := wars_trans (R := R) n
    rcases wstep_iff.mp h1 with a | ⟨a1, a2⟩
    · rcases wstep_iff.mp h2 with b | ⟨b1, b2⟩
      · by_cases e : k = n
        · subst e
          exact wstep_iff.mpr (.inr ⟨a, b⟩)
        · exact wstep_iff.mpr (.inl (ih k s t (by omega) a b))
      · by_cases e : k = n
        · subst e
          exact wstep_iff.mpr (.inr ⟨a, b2⟩)
        · exact wstep_iff.mpr (.inr ⟨ih k s n (by omega) a b1, b2⟩)
    · rcases wstep_iff.mp h2 with b | ⟨b1, b2⟩
      · by_cases e : k = n
        · subst e
          exact wstep_iff.mpr (.inr ⟨a1, b⟩)
        · exact wstep_iff.mpr (.inr ⟨a1, ih k n t (by omega) a2 b⟩)
      · exact wstep_iff.mpr (.inr ⟨a1, b2⟩)
/-- a relation of places below n that goes through is its own closure -/
theorem wars_self {R : Rl} (tr : ∀ k s t, R s k = true → R k t = true → R s t = true) : ∀ n, wars R n = R
  | 0 => rfl
  | n + 1 => by
    show wstep (wars R n) n = R
    rw [wars_self tr n]
    funext s t
    rw [Bool.eq_iff_iff, wstep_iff]
    exact ⟨fun h => h.elim id fun h => tr n s t h.1 h.2, .inl⟩
/-! ### pairs, up sets -/
def prs (n : Nat) : List (Nat × Nat) := (List.range n).flatMap fun s => (List.range n).map fun t => (s, t)
theorem mem_prs {n : Nat} {p : Nat × Nat} : p ∈ prs n ↔ p.1 < n ∧ p.2 < n := by
  unfold prs
  rw [List.mem_flatMap]
  constructor
  · rintro ⟨s, hs, h⟩
    obtain ⟨t, ht, rfl⟩ := List.mem_map.mp h
    exact ⟨List.mem_range.mp hs, List.mem_range.mp ht⟩
  · rintro ⟨h1, h2⟩
    exact ⟨p.1, List.mem_range.mpr h1, List.mem_map.mpr ⟨p.2, List.mem_range.mpr h2, rfl⟩⟩
def keepB (R : Rl) (p : Nat × Nat) : Bool := decide (p.1 ≠ p.2) && R p.1 p.2
def lowL (n : Nat) (R : Rl) : List (Nat × Nat) := (prs n).filter (keepB R)
theorem mem_low {n : Nat} {R : Rl} {p : Nat × Nat} : p ∈ lowL n R ↔ p.1 < n ∧ p.2 < n ∧ p.1 ≠ p.2 ∧ R p.1 p.2 = true := by
  unfold lowL keepB
  rw [List.mem_filter, mem_prs, Bool.and_eq_true, decide_eq_true_eq, and_assoc]
theorem low_congr {n : Nat} {R S : Rl} (h : ∀ s t, s < n → t < n → R s t = S s t) : lowL n R = lowL n S := by
  unfold lowL
  refine List.filter_congr fun p hp => ?_
  obtain ⟨h1, h2⟩ := mem_prs.mp hp
  unfold keepB
  rw [h _ _ h1 h2]
def subs : Nat → List (List Nat)
  | 0 => [[]]
  | n + 1 => subs n ++ (subs n).map (· ++ [n])
def mems (m n : Nat) : List Nat := (List.range n).filter fun k => m.testBit k
theorem mems_succ (m n : Nat) : mems m (n + 1) = mems m n ++ (if m.testBit n = true then [n] else []) := by
  unfold mems
  rw [List.range_succ, List.filter_append]
  congr 1
  cases h : m.testBit n <;> simp [h]
theorem mem_mems {m n k : Nat} : k ∈ mems m n ↔ k < n ∧ m.testBit k = true := by
  unfold mems
  rw [List.mem_filter, List.mem_range]
theorem subs_eq : ∀ n, subs n = (List.range (2 ^ n)).map fun m => mems m n
  | 0 => rfl
  | n + 1 => by
    show subs n ++ (subs n).map (· ++ [n]) = _
    rw [subs_eq n, Nat.pow_succ, Nat.mul_two, List.range_add, List.map_append, List.map_map, List.map_map]
    congr 1
    · refine List.map_congr_left fun m hm => ?_
      have hm := List.mem_range.mp hm
      rw [mems_succ, Nat.testBit_lt_two_pow hm, if_neg (by decide), List.append_nil]
    · refine List.map_congr_left fun m hm => ?_
      have hm := List.mem_range.mp hm
      show mems m n ++ [n] = mems (2 ^ n + m) (n + 1)
      rw [mems_succ, Nat.testBit_two_pow_add_eq, Nat.testBit_lt_two_pow hm, if_pos (by decide)]
      congr 1
      unfold mems
      refine List.filter_congr fun k hk => ?_
      rw [Nat.testBit_two_pow_add_gt (List.mem_range.mp hk)]
def upB (low : List (Nat × Nat)) (st : List Nat) : Bool := low.all fun p => !decide (p.1 ∈ st) || decide (p.2 ∈ st)
theorem upB_iff {low : List (Nat × Nat)} {st : List Nat} : upB low st = true ↔ ∀ p ∈ low, p.1 ∈ st → p.2 ∈ st := by
  unfold upB
  rw [List.all_eq_true]
  constructor
  · intro h p hp q
    have := h p hp
    rw [decide_eq_true q] at this
    simpa using this
  · intro h p hp
    by_cases q : p.1 ∈ st
    · rw [decide_eq_true q, decide_eq_true (h p hp q)]
      rfl
    · rw [decide_eq_false q]
      rfl
/-- the mask's own look: R' is R and equality -/
def maskB (n : Nat) (T : Rl) (m : Nat) : Bool := (List.range n).all fun k => !m.testBit k || (List.range n).all fun t => !T k t || m.testBit t
theorem maskB_iff {n : Nat} {T : Rl} {m : Nat} : maskB n T m = true ↔ ∀ k < n, m.testBit k = true → ∀ t < n, T k t = true → m.testBit t = true := by
  unfold maskB
  rw [List.all_eq_true]
  constructor
  · intro h k hk b t ht z
    have := h k (List.mem_range.mpr hk)
    rw [b, Bool.not_true, Bool.false_or, List.all_eq_true] at this
    have := this t (List.mem_range.mpr ht)
    rw [z] at this
    simpa using this
  · intro h k hk
    cases b : m.testBit k with
    | false => rfl
    | true =>
      rw [Bool.not_true, Bool.false_or, List.all_eq_true]
      intro t ht
      cases z : T k t with
      | false => rfl
      | true => rw [h k (List.mem_range.mp hk) b t (List.mem_range.mp ht) z]; rfl
def orEq (R : Rl) : Rl := fun s t => decide (s = t) || R s t
theorem orEq_iff {R : Rl} {s t : Nat} : orEq R s t = true ↔ s = t ∨ R s t = true := by
  unfold orEq
  rw [Bool.or_eq_true, decide_eq_true_eq]
theorem wars_orEq {R : Rl} : ∀ n, wars (orEq R) n = orEq (wars R n)
  | 0 => rfl
  | n + 1 => by
    show wstep (wars (orEq R) n) n = orEq (wstep (wars R n) n)
    rw [wars_orEq n]
    funext s t
    rw [Bool.eq_iff_iff, wstep_iff, orEq_iff, orEq_iff, orEq_iff, orEq_iff, wstep_iff]
    constructor
    · rintro ((h | h) | ⟨h1 | h1, h2 | h2⟩)
      · exact .inl h
      · exact .inr (.inl h)
      · exact .inl (h1.trans h2)
      · rw [h1]; exact .inr (.inl h2)
      · rw [← h2]; exact .inr (.inl h1)
      · exact .inr (.inr ⟨h1, h2⟩)
    · rintro (h | h | ⟨h1, h2⟩)
      · exact .inl (.inl h)
      · exact .inl (.inr h)
      · exact .inr ⟨.inr h1, .inr h2⟩
theorem up_mask {n : Nat} {R : Rl} {m : Nat} : upB (lowL n R) (mems m n) = maskB n (orEq R) m := by
  rw [Bool.eq_iff_iff, upB_iff, maskB_iff]
  constructor
  · intro h k hk b t ht z
    rcases orEq_iff.mp z with rfl | z
    · exact b
    · by_cases e : k = t
      · rw [← e]; exact b
      · exact (mem_mems.mp (h (k, t) (mem_low.mpr ⟨hk, ht, e, z⟩) (mem_mems.mpr ⟨hk, b⟩))).2
  · intro h p hp q
    obtain ⟨h1, h2, _, h4⟩ := mem_low.mp hp
    exact mem_mems.mpr ⟨h2, h _ h1 (mem_mems.mp q).2 _ h2 (orEq_iff.mpr (.inr h4))⟩
def masks (n : Nat) (T : Rl) : List Nat := (List.range (2 ^ n)).filter (maskB n T)
/-- what up_sets gathers is what the masks tell -/
theorem ups_masks {n : Nat} {R : Rl} : (subs n).filter (upB (lowL n R)) = (masks n (orEq R)).map fun m => mems m n := by
  rw [subs_eq, List.filter_map]
  unfold masks
  congr 1
  exact List.filter_congr fun m _ => up_mask
/-! ### the other way about -/
def sw (R : Rl) : Rl := fun s t => R t s
theorem mask_turn {n : Nat} {R : Rl} {m : Nat} (hm : m < 2 ^ n) : maskB n (orEq (sw R)) (2 ^ n - 1 - m) = maskB n (orEq R) m := by
  have bit : ∀ k, k < n → (2 ^ n - 1 - m).testBit k = !m.testBit k := fun k hk => by
    have := Nat.testBit_two_pow_sub_succ hm k
    rw [show 2 ^ n - 1 - m = 2 ^ n - (m + 1) by omega, this, decide_eq_true hk, Bool.true_and]
  rw [Bool.eq_iff_iff, maskB_iff, maskB_iff]
  constructor
  · intro h k hk b t ht z
    cases c : m.testBit t with
    | true => rfl
    | false =>
      have := h t ht (by rw [bit t ht, c]; rfl) k hk (by rcases orEq_iff.mp z with e | e; exact orEq_iff.mpr (.inl e.symm); exact orEq_iff.mpr (.inr e))
      rw [bit k hk, b] at this
      cases this
  · intro h k hk b t ht z
    rw [bit k hk] at b
    rw [bit t ht]
    cases c : m.testBit t with
    | false => rfl
    | true =>
      have := h t ht c k hk (by rcases orEq_iff.mp z with e | e; exact orEq_iff.mpr (.inl e.symm); exact orEq_iff.mpr (.inr e))
      rw [this] at b
      cases b
theorem masks_turn {n : Nat} {R : Rl} : ((masks n (orEq R)).map fun m => 2 ^ n - 1 - m).Perm (masks n (orEq (sw R))) := by
  have nd : ∀ T, (masks n T).Nodup := fun T => List.Pairwise.filter _ List.nodup_range
  have lt : ∀ {T m}, m ∈ masks n T → m < 2 ^ n := fun h => List.mem_range.mp (List.mem_filter.mp h).1
  refine (List.perm_ext_iff_of_nodup ?_ (nd _)).mpr fun x => ?_
  · refine List.pairwise_map.mpr (List.Pairwise.imp_of_mem (fun {a b} ha hb ne z => ne ?_) (nd (orEq R)))
    have := lt ha
    have := lt hb
    have z : 2 ^ n - 1 - a = 2 ^ n - 1 - b := z
    omega
  · constructor
    · intro h
      obtain ⟨m, hm, rfl⟩ := List.mem_map.mp h
      refine List.mem_filter.mpr ⟨List.mem_range.mpr (by have := lt hm; omega), ?_⟩
      rw [mask_turn (lt hm)]
      exact (List.mem_filter.mp hm).2
    · intro h
      have hl := lt h
      refine List.mem_map.mpr ⟨2 ^ n - 1 - x, List.mem_filter.mpr ⟨List.mem_range.mpr (by omega), ?_⟩, by omega⟩
      have := mask_turn (n := n) (R := R) (m := 2 ^ n - 1 - x) (by omega)
      rw [show 2 ^ n - 1 - (2 ^ n - 1 - x) = x by omega] at this
      rw [← this]
      exact (List.mem_filter.mp h).2
/-! ### the line -/
def lineR : Rl := fun s t => decide (t = s + 1)
theorem line_lt : ∀ n s t, s < t → t < n → wars lineR n s t = true := by
  intro n s t h ht
  induction t with
  | zero => omega
  | succ t ih =>
    have h1 : wars lineR n t (t + 1) = true := wars_old (by unfold lineR; exact decide_eq_true rfl) n
    by_cases e : s = t
    · rw [e]; exact h1
    · exact wars_trans n t s (t + 1) (by omega) (ih (by omega) (by omega)) h1
theorem line_wars {n s t : Nat} (ht : t < n) : wars lineR n s t = decide (s < t) := by
  rw [Bool.eq_iff_iff, decide_eq_true_eq]
  constructor
  · exact wars_keep (fun s t => s < t) (fun _ _ _ => Nat.lt_trans) (fun s t h => by have := of_decide_eq_true h; omega) n s t
  · exact fun h => line_lt n s t h ht
def suffs (n : Nat) : List (List Nat) := (List.range (n + 1)).map fun k => (List.range (n - k)).map (k + ·)
theorem line_ups : ∀ n, n ≤ 8 → ((subs n).filter (upB (lowL n fun s t => decide (s < t)))).Perm (suffs n) := by
  have h : ∀ n : Fin 9, ((subs n).filter (upB (lowL n fun s t => decide (s < t)))).reverse = suffs n := by decide +kernel
  intro n hn
  have := h ⟨n, by omega⟩
  rw [← this]
  exact (List.reverse_perm _).symm
end K5

set_option Elab.async false
set_option linter.all false
set_option maxRecDepth 100000
set_option maxHeartbeats 4000000
namespace K5
open PySem L2
/-! ### lists of pairs, each in a tuple of its own -/
abbrev Pt := Addr × Nat × Nat
abbrev rfs {α : Type} (ts : List (Addr × α)) : List V := ts.map fun t => V.ref t.1
abbrev prV (p : Nat × Nat) : List V := [.int (p.1 : Int), .int (p.2 : Int)]
def Pts (H : Hp) (ts : List Pt) : Prop := ∀ t ∈ ts, H t.1 = some (.tup (prV t.2))
theorem Pts.same {H H' : Hp} {ts : List Pt} (h : Pts H ts) (s : Same H H') : Pts H' ts := fun t m => s _ _ (h t m)
theorem Pts.snoc {H : Hp} {ts : List Pt} {t : Pt} (h : Pts H ts) (e : H t.1 = some (.tup (prV t.2))) : Pts H (ts ++ [t]) := fun u m => by
  rcases List.mem_append.mp m with m | m
  · exact h u m
  · rw [List.mem_singleton.mp m]; exact e
theorem rfs_snoc {α : Type} {ts : List (Addr × α)} {t : Addr × α} : rfs (ts ++ [t]) = rfs ts ++ [V.ref t.1] := by rw [rfs, List.map_append]; rfl
theorem rfs_len {α : Type} {ts : List (Addr × α)} : (rfs ts).length = ts.length := List.length_map _
theorem rfs_at {α : Type} {ts : List (Addr × α)} {i : Nat} {x : V} (h : (rfs ts)[i]? = some x) : ∃ t, ts[i]? = some t ∧ t ∈ ts ∧ x = .ref t.1 := by
  rw [rfs, List.getElem?_map] at h
  cases e : ts[i]? with
  | none => rw [e] at h; cases h
  | some t => rw [e] at h; exact ⟨t, rfl, List.mem_of_getElem? e, (Option.some.inj h).symm⟩
theorem Same.but {H H' : Hp} {D : Addr} {o : HO} (h : ∀ b u, H b = some u → H' b = some u) (n : H D = none) : ∀ b u, H b = some u → (upd H' D o) b = some u := fun b u e => by
  rw [upd_ne (ne_of_none e n)]
  exact h b u e
theorem small_len {n : Nat} (h : n ≤ 1000) : n < sizeLine := small1000 h
/-- index_pairs(n) -/
def spIxPrs : Sp := fun vs H Q _ => ∃ n : Nat, vs = [.int (n : Int)] ∧ n ≤ 8 ∧ ∀ (l : Addr) (ts : List Pt) (H' : Hp), Same H H' → H' l = some (.lst (rfs ts)) → Pts H' ts → ts.map (·.2) = prs n → Q (.ref l) H'
theorem prs_len : ∀ n : Nat, n ≤ 8 → (prs n).length ≤ 64 := by
  have h : ∀ n : Fin 9, (prs n).length ≤ 64 := by decide +kernel
  intro n hn
  exact h ⟨n, by omega⟩
def rowsTo (n i : Nat) : List (Nat × Nat) := (List.range i).flatMap fun s => (List.range n).map fun t => (s, t)
theorem rowsTo_succ (n i : Nat) : rowsTo n (i + 1) = rowsTo n i ++ (List.range n).map fun t => (i, t) := by
  unfold rowsTo
  rw [List.range_succ, List.flatMap_append]
  congr 1
  simp
theorem rowsTo_len (n : Nat) : ∀ i, (rowsTo n i).length = i * n
  | 0 => by simp [rowsTo]
  | i + 1 => by rw [rowsTo_succ, List.length_append, rowsTo_len n i, List.length_map, List.length_range, Nat.succ_mul]
section
variable {P : Program} {w : World} {K : PySem.W.Frag} {mg : Str → Option Value} {base : Heap}
abbrev s_index_pairs : Stmt := top 12
theorem sc_index_pairs : FnScope ["many", "one", "other"] ["many"] (defScope s_index_pairs) := ⟨rfl, rfl, rfl, by decide +kernel, rfl, by decide +kernel, by decide +kernel⟩
theorem ok_index_pairs {f : Addr} {fd : FuncData} (F : Fun K "index_pairs" "index_pairs" s_index_pairs f fd) (T : Bn mg) : FnOk P w K mg base CX0 1 f fd ["many"] spIxPrs := by
  refine F.ok sc_index_pairs (fun vs H Q E h => ?_) (fun cdv A outer s H vs Q E hr h => ?_)
  · obtain ⟨n, rfl, _⟩ := h
    rfl
  · obtain ⟨n, rfl, hn, k⟩ := h
    refine ⟨_, (pss_one (ps_ret (pe_lc2 (own := [("one", 1), ("other", 2)]) (vs1 := [2]) rfl sc_index_pairs.nd (pi_range1 (by rfl) T.n_range (pa_cons (pv 0) pa_nil)) (blkOk_by (N := ["many", "one", "other"]) (sc := defScope s_index_pairs) (by decide +kernel)) (by decide)
      (fun _ _ _ _ _ => (pg_name (i := 1) sc_index_pairs.nd rfl (Or.inl rfl))) (fun _ _ _ _ _ => pts_nil) (fun _ _ _ _ _ => (pi_range1 (by rfl) T.n_range (pa_cons (pv 0) pa_nil))) (fun _ _ _ _ _ => (pg_name (i := 2) sc_index_pairs.nd rfl (Or.inl rfl))) (fun _ _ _ _ _ => pts_nil)
      (fun _ _ _ _ _ => (pe_tup (pa_cons (pv 1) (pa_cons (pv 2) pa_nil))))))), ?_⟩
    refine ⟨_, rfl, _, rfl, by omega, by omega, fun D nD => ?_⟩
    rw [Int.toNat_natCast]
    let Pv : Nat → Nat → Hp → Prop := fun i j H' => ∃ ts : List Pt, Same H H' ∧ H' D = some (.lst (rfs ts)) ∧ Pts H' ts ∧ ts.map (·.2) = rowsTo n i ++ (List.range j).map fun t => (i, t)
    refine ⟨fun i m H' => m + i = n ∧ Pv i 0 H', ⟨n, rfl, [], Same.put nD, upd_same, fun _ m => (by cases m), rfl⟩, fun i m H1 ⟨em, p⟩ => ?_⟩
    cases m with
    | zero =>
      obtain rfl : i = n := by omega
      obtain ⟨ts, s1, e1, p1, q1⟩ := p
      refine .inl ⟨Nat.le_refl _, k D ts H1 s1 e1 p1 ?_⟩
      rw [q1]
      simp [rowsTo, prs]
    | succ m =>
      refine .inr ⟨show i < n by omega, Pv (i + 1) 0, fun H' p' => ⟨m, Nat.lt_succ_self m, by omega, p'⟩, fun x H' y => ?_⟩
      obtain ⟨e, y⟩ := y
      subst e y
      refine ⟨rfl, yes_of ?_⟩
      refine ⟨_, rfl, _, rfl, by omega, by omega, ?_⟩
      rw [Int.toNat_natCast]
      refine ⟨fun j m' H' => m' + j = n ∧ Pv i j H', ⟨n, rfl, p⟩, fun j m' H2 ⟨em', p'⟩ => ?_⟩
      cases m' with
      | zero =>
        obtain rfl : j = n := by omega
        obtain ⟨ts, s1, e1, p1, q1⟩ := p'
        refine .inl ⟨Nat.le_refl _, ts, s1, e1, p1, ?_⟩
        rw [q1, rowsTo_succ]
        simp
      | succ m' =>
        refine .inr ⟨show j < n by omega, Pv i (j + 1), fun H' p' => ⟨m', Nat.lt_succ_self m', by omega, p'⟩, fun x H' y => ?_⟩
        obtain ⟨e, y⟩ := y
        subst e y
        refine ⟨rfl, yes_of ?_⟩
        obtain ⟨ts, s1, e1, p1, q1⟩ := p'
        refine ⟨_, rfl, _, rfl, by show 2 ≤ sizeLine; decide, fun t nt => ?_⟩
        have len : ts.length ≤ 64 := by
          have := congrArg List.length q1
          rw [List.length_map, List.length_append, rowsTo_len, List.length_map, List.length_range] at this
          have h1 : (i + 1) * n ≤ n * n := Nat.mul_le_mul_right n (by omega)
          have h2 : n * n ≤ 8 * 8 := Nat.mul_le_mul hn hn
          rw [Nat.succ_mul] at h1
          omega
        refine ⟨rfs ts, Same.put nt _ _ e1, by rw [rfs_len]; exact small_len (by omega), ts ++ [(t, i, j)], ?_, ?_, ?_, ?_⟩
        · exact Same.but (fun b u e => Same.put nt _ _ (s1 b u e)) nD
        · rw [upd_same, rfs_snoc]
        · have ne : ∀ b u, H' b = some u → u ≠ HO.lst (rfs ts) → b ≠ D := fun b u e z q => z (by rw [q, e1] at e; exact (Option.some.inj e).symm)
          refine Pts.snoc (fun u m => ?_) ?_
          · rw [upd_ne (ne _ _ (p1 u m) (by intro z; cases z))]
            exact Same.put nt _ _ (p1 u m)
          · have nDt : t ≠ D := fun z => by rw [z, e1] at nt; cases nt
            rw [upd_ne nDt, upd_same]
            simp
        · rw [List.map_append, q1, List.range_succ, List.map_append, List.append_assoc]
          rfl
end
end K5

set_option Elab.async false
set_option linter.all false
set_option maxRecDepth 100000
set_option maxHeartbeats 4000000
namespace K5
open PySem L2
/-! ### the closure, in a dict -/
abbrev kyP (p : Nat × Nat) : List Key := [Sum.inl (p.1 : Int), Sum.inl (p.2 : Int)]
theorem ky_tup (p : Nat × Nat) : (kyP p).map kV = prV p := rfl
theorem kyP_inj {p q : Nat × Nat} (h : kyP p = kyP q) : p = q := by
  obtain ⟨a, b⟩ := p
  obtain ⟨c, d⟩ := q
  simp only [kyP, List.cons.injEq, Sum.inl.injEq, and_true] at h
  rw [Int.ofNat.inj h.1, Int.ofNat.inj h.2]
/-- which pairs the dict has -/
def Has (kvs : List (List Key × V)) (p : Nat × Nat) : Bool := (valV kvs (kyP p)).isSome
theorem has_put {kvs : List (List Key × V)} {p q : Nat × Nat} {v : V} : Has (putK kvs (kyP p) v) q = (decide (q = p) || Has kvs q) := by
  unfold Has
  rw [valV_put]
  by_cases e : q = p
  · rw [if_pos (by rw [e]), decide_eq_true e]
    rfl
  · rw [if_neg (fun z => e (kyP_inj z)), decide_eq_false e]
    rfl
def memR (ps : List (Nat × Nat)) : Rl := fun s t => decide ((s, t) ∈ ps)
/-- R, and what comes of it by way of m for the first j pairs -/
def part (n : Nat) (R : Rl) (m j : Nat) : Rl := fun s t => R s t || (R s m && R m t && decide ((s, t) ∈ (prs n).take j))
theorem part_all {n : Nat} {R : Rl} {m s t : Nat} (hs : s < n) (ht : t < n) : part n R m (prs n).length s t = wstep R m s t := by
  unfold part wstep
  rw [List.take_length, decide_eq_true (mem_prs.mpr ⟨hs, ht⟩), Bool.and_true]
theorem part_zero {n : Nat} {R : Rl} {m s t : Nat} : part n R m 0 s t = R s t := by
  unfold part
  rw [List.take_zero, decide_eq_false (by intro h; cases h), Bool.and_false, Bool.or_false]
theorem part_in {n : Nat} {R : Rl} {m j s : Nat} : part n R m j s m = R s m := by
  unfold part
  cases h : R s m <;> simp
theorem part_out {n : Nat} {R : Rl} {m j t : Nat} : part n R m j m t = R m t := by
  unfold part
  cases h : R m t <;> simp
theorem part_next {n : Nat} {R : Rl} {m j s t : Nat} {p : Nat × Nat} (hp : (prs n)[j]? = some p) : part n R m (j + 1) s t = ((decide ((s, t) = p) && (R p.1 m && R m p.2)) || part n R m j s t) := by
  unfold part
  rw [take_more hp]
  by_cases e : (s, t) = p
  · subst e
    rw [decide_eq_true rfl, decide_eq_true (List.mem_append_right _ (List.mem_singleton.mpr rfl))]
    cases R s t <;> cases R s m <;> cases R m t <;> rfl
  · have : ((s, t) ∈ (prs n).take j ++ [p]) ↔ (s, t) ∈ (prs n).take j := by
      rw [List.mem_append, List.mem_singleton]
      exact ⟨fun h => h.elim id fun h => absurd h e, .inl⟩
    rw [decide_eq_false e, decide_eq_decide.mpr this]
    rfl
def spLinked (K : PySem.W.Frag) : Sp := fun vs H Q _ => ∃ (n : Nat) (l : Addr) (ts : List Pt), vs = [.int (n : Int), .ref l] ∧ n ≤ 8 ∧ H l = some (.lst (rfs ts)) ∧ Pts H ts ∧ ts.length ≤ 64 ∧
  ∀ (T : Addr) (us : List Pt) (H' : Hp), Same H H' → H' T = some (.tup (rfs us)) → Pts H' us → us.map (·.2) = lowL n (wars (memR (ts.map (·.2))) n) → Q (.ref T) H'
/-- all but the object at D stays -/
def Mv (D : Addr) (H H' : Hp) : Prop := ∀ b u, b ≠ D → H b = some u → H' b = some u
section
variable {P : Program} {w : World} {K : PySem.W.Frag} {mg : Str → Option Value} {base : Heap}
abbrev s_linked : Stmt := top 16
theorem sc_linked : FnScope ["size", "pairs", "lower", "middle", "s", "t"] ["size", "pairs"] (defScope s_linked) := ⟨rfl, rfl, rfl, by decide +kernel, rfl, by decide +kernel, by decide +kernel⟩
theorem ok_linked {f : Addr} {fd : FuncData} (F : Fun K "linked" "linked" s_linked f fd) (T : Bn mg) (c_index_pairs : Cal P w K mg base 1 "index_pairs" ["many"] spIxPrs) : FnOk P w K mg base CX0 2 f fd ["size", "pairs"] (spLinked K) := by
  refine F.ok sc_linked (fun vs H Q E h => ?_) (fun cdv A outer s H vs Q E hr h => ?_)
  · obtain ⟨n, l, ts, rfl, _⟩ := h
    rfl
  · obtain ⟨n, l, ts, rfl, hn, el, pt, hlen, k⟩ := h
    have hu := hu_of hr
    refine ⟨_, (pss_cons (ps_set (i := 2) sc_linked.nd rfl (Or.inr rfl) (pe_dcT (own := [("s", 4), ("t", 5)]) (g := gTup K 2 (gCons (gName 4) (gCons (gName 5) gNil))) rfl (by exact hu) sc_linked.nd (pi_list (pv 1)) (blkOk_by (N := ["size", "pairs", "lower", "middle", "s", "t"]) (sc := defScope s_linked) (by decide +kernel))
        (fun _ _ _ _ _ => (pg_tup (by rfl) (pgs_cons (pg_name (i := 4) sc_linked.nd rfl (Or.inl rfl)) (pgs_cons (pg_name (i := 5) sc_linked.nd rfl (Or.inl rfl)) pgs_nil)))) (fun _ _ _ _ _ => pts_nil) (fun _ _ _ _ _ => (pe_tup (pa_cons (pv 4) (pa_cons (pv 5) pa_nil)))) (fun _ _ _ _ _ => pe_bl)))
      (pss_cons (ps_for PassesOwn.never rfl (pi_range1 (by rfl) T.n_range (pa_cons (pv 0) pa_nil)) (pg_name (i := 3) sc_linked.nd rfl (Or.inl rfl))
        (pss_one (ps_for PassesOwn.never rfl (pi_list (pe_cal c_index_pairs (hr.mono (by decide)) rfl (pa_cons (pv 0) pa_nil))) (pg_tup (by rfl) (pgs_cons (pg_name (i := 4) sc_linked.nd rfl (Or.inl rfl)) (pgs_cons (pg_name (i := 5) sc_linked.nd rfl (Or.inl rfl)) pgs_nil)))
            (pss_one (ps_if (PW.pt (pw_and (pt_cmp (pc_din (by exact hu) (pe_tup (pa_cons (pv 4) (pa_cons (pv 3) pa_nil))) (pv 2))) (pw_and1 (pt_cmp (pc_din (by exact hu) (pe_tup (pa_cons (pv 3) (pa_cons (pv 5) pa_nil))) (pv 2))))))
                (pss_one (ps_dput (by exact hu) (pv 2) (pe_tup (pa_cons (pv 4) (pa_cons (pv 5) pa_nil))) pe_bl rfl))
                pss_nil)))))
      (pss_one (ps_ret (pe_callTy call_tuple_of (by rfl) T.n_tuple (by decide +kernel) (pa_cons (pe_lc (own := [("s", 4), ("t", 5)]) (g := gTup K 2 (gCons (gName 4) (gCons (gName 5) gNil))) rfl sc_linked.nd (pi_list (pe_cal c_index_pairs (hr.mono (by decide)) rfl (pa_cons (pv 0) pa_nil))) (blkOk_by (N := ["size", "pairs", "lower", "middle", "s", "t"]) (sc := defScope s_linked) (by decide +kernel))
        (fun _ _ _ _ _ => (pg_tup (by rfl) (pgs_cons (pg_name (i := 4) sc_linked.nd rfl (Or.inl rfl)) (pgs_cons (pg_name (i := 5) sc_linked.nd rfl (Or.inl rfl)) pgs_nil)))) (fun _ _ _ _ _ => (pts_one (PW.pt (pw_and (pt_cmpR op_ne (pv 4) (pv 5) (nomark _)) (pw_and1 (pt_cmp (pc_din (by exact hu) (pe_tup (pa_cons (pv 4) (pa_cons (pv 5) pa_nil))) (pv 2))))))))
        (fun _ _ _ _ _ => (pe_tup (pa_cons (pv 4) (pa_cons (pv 5) pa_nil))))) pa_nil)))))), ?_⟩
    refine ⟨_, rfl, l, rfl, ⟨_, SqL.of el⟩, fun D nD => ?_⟩
    refine dcT_list (K := K) (a := l) (xs := rfs ts) (fun i H' => Same H H' ∧ ∃ kvs, H' D = some (.dT kvs) ∧ kvs.length ≤ i ∧ ∀ p, Has kvs p = decide (p ∈ (ts.map (·.2)).take i)) ⟨Same.put nD, [], upd_same, Nat.le_refl _, fun p => rfl⟩ (fun i H' _ h => SqL.of (h.1 _ _ el)) ?_ ?_
    · rintro i x H' hx ⟨s1, kvs, ek, kl, kp⟩
      obtain ⟨t, ht, hm, rfl⟩ := rfs_at hx
      have i0 : (ts.map (·.2))[i]? = some t.2 := by rw [List.getElem?_map, ht]; rfl
      refine ⟨t.1, prV t.2, rfl, SqT.of (s1 _ _ (pt t hm)), rfl, _, _, rfl, _, _, rfl, rfl, rfl, yes_of ?_⟩
      refine ⟨_, rfl, _, rfl, by show 2 ≤ sizeLine; decide, fun c nc => ?_⟩
      refine ⟨kvs, kyP t.2, c, rfl, upd_same, Same.put nc _ _ ek, small_len (by have := (List.getElem?_eq_some_iff.mp ht).1; omega), ?_, _, upd_same, ?_, fun p => ?_⟩
      · exact Same.but (fun b u e => Same.put nc _ _ (s1 b u e)) nD
      · have := length_putK kvs (kyP t.2) (V.bl true)
        omega
      · rw [has_put, kp, take_more i0]
        rw [Bool.eq_iff_iff, Bool.or_eq_true, decide_eq_true_eq, decide_eq_true_eq, decide_eq_true_eq, List.mem_append, List.mem_singleton]
        exact or_comm
    · rintro H1 ⟨s1, kvs, ek, kl, kp⟩
      have kp0 : ∀ p : Nat × Nat, Has kvs p = memR (ts.map (·.2)) p.1 p.2 := fun p => by
        rw [kp, rfs_len, List.take_of_length_le (by rw [List.length_map]; omega)]
        rfl
      rw [rfs_len] at kl
      clear kp
      generalize memR (ts.map (·.2)) = R at k kp0
      refine ⟨_, rfl, _, rfl, by omega, by omega, ?_⟩
      rw [Int.toNat_natCast]
      refine for_range (fun i σ H' => ∃ v3 v4 v5 kvs, σ = [some (.int n), some (.ref l), some (.ref D), v3, v4, v5] ∧ Same H H' ∧ H' D = some (.dT kvs) ∧ kvs.length ≤ 64 + i * 64 ∧ ∀ s t, s < n → t < n → Has kvs (s, t) = wars R i s t) ⟨none, none, none, kvs, rfl, s1, ek, by omega, fun s t _ _ => kp0 (s, t)⟩ ?_ ?_
      · rintro m σ H2 hm ⟨v3, v4, v5, kv2, rfl, s2, e2, l2, h2⟩
        rw [Int.zero_add]
        refine ⟨_, rfl, n, rfl, hn, fun G us H3 s3 eG pG uG => ?_⟩
        have lenu : us.length = (prs n).length := by rw [← uG, List.length_map]
        have len64 := prs_len n hn
        have nGD : G ≠ D := fun z => by
          have := s3 _ _ e2
          rw [← z, eG] at this
          cases this
        refine ⟨G, rfl, ⟨_, SqL.of eG⟩, for_list (K := K) (a := G) (xs := rfs us) (fun j σ H' => ∃ v4 v5 kvs, σ = [some (.int n), some (.ref l), some (.ref D), some (.int (m : Int)), v4, v5] ∧ Mv D H3 H' ∧ H' D = some (.dT kvs) ∧ kvs.length ≤ 64 + m * 64 + j ∧ ∀ s t, s < n → t < n → Has kvs (s, t) = part n (wars R m) m j s t) ?_ ?_ ?_ ?_⟩
        · exact ⟨v4, v5, kv2, rfl, fun _ _ _ h => h, s3 _ _ e2, l2, fun s t hs ht => by rw [h2 s t hs ht, part_zero]⟩
        · rintro j σ H' _ ⟨_, _, _, _, mv, _⟩
          exact SqL.of (mv _ _ nGD eG)
        · rintro j x σ H' hx ⟨w4, w5, kvs3, rfl, mv, e3, l3, h3⟩
          obtain ⟨t, ht, hm2, rfl⟩ := rfs_at hx
          have i0 : (prs n)[j]? = some t.2 := by rw [← uG, List.getElem?_map, ht]; rfl
          obtain ⟨t1, t2⟩ := mem_prs.mp (List.mem_of_getElem? i0)
          have jl : j < 64 := by
            have := (List.getElem?_eq_some_iff.mp i0).1
            omega
          have ntD : t.1 ≠ D := fun z => by
            have := pG t hm2
            rw [z, s3 _ _ e2] at this
            cases this
          refine ⟨t.1, prV t.2, rfl, SqT.of (mv _ _ ntD (pG t hm2)), rfl, _, _, rfl, _, _, rfl, rfl, ?_⟩
          have grow : ∀ b, (wars R m t.2.1 m && wars R m m t.2.2) = b → ∀ s u, part n (wars R m) m (j + 1) s u = ((decide ((s, u) = t.2) && b) || part n (wars R m) m j s u) := fun b hb s u => by
            rw [part_next i0, hb]
          have same_next : (wars R m t.2.1 m && wars R m m t.2.2) = false → ∀ s u, part n (wars R m) m (j + 1) s u = part n (wars R m) m j s u := fun hb s u => by
            rw [grow false hb, Bool.and_false, Bool.false_or]
          have hasA : Has kvs3 (t.2.1, m) = wars R m t.2.1 m := by rw [h3 _ _ t1 hm, part_in]
          have hasB : Has kvs3 (m, t.2.2) = wars R m m t.2.2 := by rw [h3 _ _ hm t2, part_out]
          refine ⟨_, rfl, _, rfl, by show 2 ≤ sizeLine; decide, fun c1 n1 => ⟨_, rfl, D, _, rfl, DGet.t (k := kyP (t.2.1, m)) (Same.put n1 _ _ e3) upd_same, ?_⟩⟩
          have sA := Same.put (o := .tup [.int (t.2.1 : Int), .int (m : Int)]) n1
          generalize (upd H' c1 (.tup [.int (t.2.1 : Int), .int (m : Int)])) = H4 at sA ⊢
          refine ⟨_, rfl, iteB (fun z => ?_) (fun z => ?_)⟩
          · refine ⟨_, rfl, _, rfl, by show 2 ≤ sizeLine; decide, fun c2 n2 => ⟨_, rfl, D, _, rfl, DGet.t (k := kyP (m, t.2.2)) (Same.put n2 _ _ (sA _ _ e3)) upd_same, ?_⟩⟩
            have sB := sA.trans (Same.put (o := .tup [.int (m : Int), .int (t.2.2 : Int)]) n2)
            generalize (upd H4 c2 (.tup [.int (m : Int), .int (t.2.2 : Int)])) = H5 at sB ⊢
            refine ⟨_, rfl, iteB (fun z2 => ?_) (fun z2 => ?_)⟩
            · refine ⟨_, rfl, _, rfl, _, rfl, by show 2 ≤ sizeLine; decide, fun c3 n3 => ⟨D, _, rfl, DPut.t (k := kyP t.2) (Same.put n3 _ _ (sB _ _ e3)) upd_same (small_len (by omega)), ?_⟩⟩
              have sC := sB.trans (Same.put (o := .tup [.int (t.2.1 : Int), .int (t.2.2 : Int)]) n3)
              refine ⟨_, _, _, rfl, fun b u nb e => ?_, upd_same, ?_, fun s u hs hu' => ?_⟩
              · rw [upd_ne nb]
                exact sC _ _ (mv b u nb e)
              · have := length_putK kvs3 (kyP t.2) (V.bl true)
                omega
              · rw [has_put, h3 s u hs hu', grow true ?_, Bool.and_true]
                have z' : Has kvs3 (t.2.1, m) = true := z
                have z2' : Has kvs3 (m, t.2.2) = true := z2
                rw [← hasA, ← hasB, z', z2']
                rfl
            · have z2' : Has kvs3 (m, t.2.2) = false := z2
              refine ⟨_, _, kvs3, rfl, fun b u nb e => sB _ _ (mv b u nb e), sB _ _ e3, by omega, fun s u hs hu' => ?_⟩
              rw [same_next (by rw [← hasB, z2', Bool.and_false]), h3 s u hs hu']
          · have z' : Has kvs3 (t.2.1, m) = false := z
            refine ⟨_, _, kvs3, rfl, fun b u nb e => sA _ _ (mv b u nb e), sA _ _ e3, by omega, fun s u hs hu' => ?_⟩
            rw [same_next (by rw [← hasA, z', Bool.false_and]), h3 s u hs hu']
        · rintro σ H' ⟨w4, w5, kvs3, rfl, mv, e3, l3, h3⟩
          refine ⟨_, w4, w5, kvs3, rfl, fun b u e => ?_, e3, ?_, fun s t hs ht => ?_⟩
          · exact mv b u (ne_of_none e nD) (s3 _ _ (s2 _ _ e))
          · rw [rfs_len] at l3
            omega
          · rw [h3 s t hs ht, rfs_len, lenu, part_all hs ht]
            rfl
      · rintro σ H2 ⟨v3, v4, v5, kv2, rfl, s2, e2, l2, h2⟩
        refine ⟨_, rfl, n, rfl, hn, fun G us H3 s3 eG pG uG => ?_⟩
        have lenu : us.length = (prs n).length := by rw [← uG, List.length_map]
        have len64 := prs_len n hn
        refine ⟨G, rfl, ⟨_, SqL.of eG⟩, fun L nL => ?_⟩
        refine lc_list (K := K) (a := G) (xs := rfs us) (fun i H' => Same H3 H' ∧ ∃ ls : List Pt, H' L = some (.lst (rfs ls)) ∧ Pts H' ls ∧ ls.map (·.2) = ((prs n).take i).filter (keepB (wars R n)) ∧ ls.length ≤ i) ⟨Same.put nL, [], upd_same, fun _ m => (by cases m), rfl, Nat.le_refl _⟩ (fun i H' _ h => SqL.of (h.1 _ _ eG)) ?_ ?_
        · rintro i x H' hx ⟨s4, ls, eL, pL, qL, lL⟩
          obtain ⟨t, ht, hm2, rfl⟩ := rfs_at hx
          have i0 : (prs n)[i]? = some t.2 := by rw [← uG, List.getElem?_map, ht]; rfl
          obtain ⟨t1, t2⟩ := mem_prs.mp (List.mem_of_getElem? i0)
          have il : i < 64 := by
            have := (List.getElem?_eq_some_iff.mp i0).1
            omega
          have no : keepB (wars R n) t.2 = false → ls.map (·.2) = ((prs n).take (i + 1)).filter (keepB (wars R n)) := fun hb => by
            rw [take_more i0, List.filter_append, qL, List.filter_cons, hb]
            simp
          refine ⟨t.1, prV t.2, rfl, SqT.of (s4 _ _ (pG t hm2)), rfl, _, _, rfl, _, _, rfl, rfl, rfl, ?_⟩
          refine ⟨_, rfl, _, rfl, rfl, _, rfl, iteB (fun z => ?_) (fun z => ?_)⟩
          · refine ⟨_, rfl, _, rfl, by show 2 ≤ sizeLine; decide, fun c1 n1 => ⟨_, rfl, D, _, rfl, DGet.t (k := kyP t.2) (Same.put n1 _ _ (s4 _ _ (s3 _ _ e2))) upd_same, ?_⟩⟩
            have sA := s4.trans (Same.put (o := .tup [.int (t.2.1 : Int), .int (t.2.2 : Int)]) n1)
            have eA := Same.put (o := .tup [.int (t.2.1 : Int), .int (t.2.2 : Int)]) n1 _ _ eL
            have pA := pL.same (Same.put (o := .tup [.int (t.2.1 : Int), .int (t.2.2 : Int)]) n1)
            generalize (upd H' c1 (.tup [.int (t.2.1 : Int), .int (t.2.2 : Int)])) = H4 at sA eA pA ⊢
            have hz : (valV kv2 (kyP t.2)).isSome = wars R n t.2.1 t.2.2 := h2 _ _ t1 t2
            have ne : t.2.1 ≠ t.2.2 := fun q => by
              rw [q] at z
              simp at z
            refine ⟨_, rfl, iteB (fun z2 => ?_) (fun z2 => ?_)⟩
            · rw [hz] at z2
              refine ⟨_, rfl, _, rfl, by show 2 ≤ sizeLine; decide, fun c2 n2 => ?_⟩
              have yes : keepB (wars R n) t.2 = true := by
                unfold keepB
                rw [z2, decide_eq_true ne]
                rfl
              refine ⟨rfs ls, Same.put n2 _ _ eA, by rw [rfs_len]; exact small_len (by omega), Same.but (fun b u e => Same.put n2 _ _ (sA b u e)) nL, ls ++ [(c2, t.2)], ?_, ?_, ?_, ?_⟩
              · rw [upd_same, rfs_snoc]
              · refine Pts.snoc (fun u m => ?_) ?_
                · have nu : u.1 ≠ L := fun q => by
                    have := pA u m
                    rw [q, eA] at this
                    cases this
                  rw [upd_ne nu]
                  exact Same.put n2 _ _ (pA u m)
                · have nc : c2 ≠ L := fun q => by
                    rw [q, eA] at n2
                    cases n2
                  show upd _ L _ c2 = _
                  rw [upd_ne nc, upd_same]
              · rw [List.map_append, take_more i0, List.filter_append, qL, List.filter_cons, yes]
                simp
              · rw [List.length_append]
                show ls.length + 1 ≤ i + 1
                omega
            · rw [hz] at z2
              exact ⟨sA, ls, eA, pA, no (by unfold keepB; rw [z2, Bool.and_false]), by omega⟩
          · have eq : t.2.1 = t.2.2 := by
              have := of_decide_eq_true (by simpa using z : decide ((t.2.1 : Int) = (t.2.2 : Int)) = true)
              omega
            exact ⟨s4, ls, eL, pL, no (by unfold keepB; rw [decide_eq_false (by simpa using eq)]; rfl), by omega⟩
        · rintro H4 ⟨s4, ls, eL, pL, qL, lL⟩
          refine ⟨L, _, rfl, .inl ⟨SqL.of eL, fun T nT => ?_⟩⟩
          refine k T ls _ ((s2.trans s3).trans (s4.trans (Same.put nT))) upd_same (pL.same (Same.put nT)) ?_
          rw [qL, rfs_len, lenu, List.take_length]
          rfl
end
end K5

set_option Elab.async false
set_option linter.all false
set_option maxRecDepth 100000
set_option maxHeartbeats 4000000
namespace K5
open PySem L2
/-! ### lists of tuples of ints -/
abbrev Tt := Addr × List Int
abbrev iN (l : List Nat) : List Int := l.map fun k : Nat => (k : Int)
def Tups (K : PySem.W.Frag) (H : Hp) (ts : List Tt) : Prop := ∀ t ∈ ts, SqT K H t.1 (t.2.map V.int)
theorem SqT.up {K : PySem.W.Frag} {H H' : Hp} {a : Addr} {xs : List V} (h : SqT K H a xs) (e : Same H H') : SqT K H' a xs := by
  rcases h with (h | ⟨o, h⟩) | h
  · exact .inl (.inl (e _ _ h))
  · exact .inl (.inr ⟨o, e _ _ h⟩)
  · exact .inr h
theorem SqT.upd_lst {K : PySem.W.Frag} {H : Hp} {a D : Addr} {xs ys : List V} {o : HO} (h : SqT K H a xs) (e : H D = some (.lst ys)) : SqT K (upd H D o) a xs := by
  rcases h with (h | ⟨o', h⟩) | h
  · exact .inl (.inl (by rw [upd_ne (fun z => by rw [z, e] at h; cases h)]; exact h))
  · exact .inl (.inr ⟨o', by rw [upd_ne (fun z => by rw [z, e] at h; cases h)]; exact h⟩)
  · exact .inr h
theorem Tups.same {K : PySem.W.Frag} {H H' : Hp} {ts : List Tt} (h : Tups K H ts) (s : Same H H') : Tups K H' ts := fun t m => SqT.up (h t m) s
theorem Tups.lst {K : PySem.W.Frag} {H : Hp} {ts : List Tt} {D : Addr} {ys : List V} {o : HO} (h : Tups K H ts) (e : H D = some (.lst ys)) : Tups K (upd H D o) ts := fun t m => SqT.upd_lst (h t m) e
theorem Tups.app {K : PySem.W.Frag} {H : Hp} {ts us : List Tt} (h : Tups K H ts) (e : Tups K H us) : Tups K H (ts ++ us) := fun u m => (List.mem_append.mp m).elim (h u) (e u)
theorem Tups.one {K : PySem.W.Frag} {H : Hp} {t : Tt} (e : SqT K H t.1 (t.2.map V.int)) : Tups K H [t] := fun u m => by rw [List.mem_singleton.mp m]; exact e
theorem subs_len : ∀ n, (subs n).length = 2 ^ n
  | 0 => rfl
  | n + 1 => by
    show (subs n ++ (subs n).map (· ++ [n])).length = _
    rw [List.length_append, List.length_map, subs_len n, Nat.pow_succ]
    omega
theorem sub_short {n : Nat} {x : List Nat} (h : x ∈ subs n) : x.length ≤ n := by
  rw [subs_eq] at h
  obtain ⟨m, _, rfl⟩ := List.mem_map.mp h
  have h1 := List.length_filter_le (fun k => m.testBit k) (List.range n)
  rw [List.length_range] at h1
  exact h1
theorem pow_le8 {n : Nat} (h : n ≤ 8) : 2 ^ n ≤ 256 := Nat.pow_le_pow_right (by decide) h
/-- subsets(n) -/
def spSubs (K : PySem.W.Frag) : Sp := fun vs H Q _ => ∃ n : Nat, vs = [.int (n : Int)] ∧ n ≤ 8 ∧ ∀ (l : Addr) (ts : List Tt) (H' : Hp), Same H H' → H' l = some (.lst (rfs ts)) → Tups K H' ts → ts.map (·.2) = (subs n).map iN → Q (.ref l) H'
section
variable {P : Program} {w : World} {K : PySem.W.Frag} {mg : Str → Option Value} {base : Heap}
abbrev s_subsets : Stmt := top 18
theorem sc_subsets : FnScope ["many", "found", "index", "states"] ["many"] (defScope s_subsets) := ⟨rfl, rfl, rfl, by decide +kernel, rfl, by decide +kernel, by decide +kernel⟩
theorem ok_subsets {f : Addr} {fd : FuncData} (F : Fun K "subsets" "subsets" s_subsets f fd) (T : Bn mg) : FnOk P w K mg base CX0 1 f fd ["many"] (spSubs K) := by
  refine F.ok sc_subsets (fun vs H Q E h => ?_) (fun cdv A outer s H vs Q E hr h => ?_)
  · obtain ⟨n, rfl, _⟩ := h
    rfl
  · obtain ⟨n, rfl, hn, k⟩ := h
    refine ⟨_, (pss_cons (ps_set (i := 1) sc_subsets.nd rfl (Or.inl rfl) (pe_lst (pa_cons (pe_tup pa_nil) pa_nil)))
      (pss_cons (ps_for PassesOwn.never rfl (pi_range1 (by rfl) T.n_range (pa_cons (pv 0) pa_nil)) (pg_name (i := 2) sc_subsets.nd rfl (Or.inr rfl))
        (pss_one (ps_set (i := 1) sc_subsets.nd rfl (Or.inl rfl) (pe_op op_cat (pv 1) (pe_lc (own := [("states", 3)]) rfl sc_subsets.nd (pi_list (pv 1)) (blkOk_by (N := ["many", "found", "index", "states"]) (sc := defScope s_subsets) (by decide +kernel)) (fun _ _ _ _ _ => (pg_name (i := 3) sc_subsets.nd rfl (Or.inl rfl))) (fun _ _ _ _ _ => pts_nil)
          (fun _ _ _ _ _ => (pe_op (show OpR _ _ (rCatA K) from op_catA) (pv 3) (pe_tup (pa_cons (pv 2) pa_nil)))))))))
      (pss_one (ps_ret (pv 1))))), ?_⟩
    refine ⟨Nat.zero_le _, fun t nt => ⟨by show 1 ≤ sizeLine; decide, fun l nl => ?_⟩⟩
    have s1 := (Same.put (o := .tup []) nt).trans (Same.put (o := .lst [V.ref t]) nl)
    have el : (upd (upd H t (.tup [])) l (.lst [V.ref t])) l = some (.lst (rfs [((t, []) : Tt)])) := upd_same
    have et : Tups K (upd (upd H t (.tup [])) l (.lst [V.ref t])) [((t, []) : Tt)] := Tups.one (SqT.of (Same.put nl _ _ upd_same))
    generalize (upd (upd H t (.tup [])) l (.lst [V.ref t])) = H1 at s1 el et ⊢
    refine ⟨_, rfl, _, rfl, by omega, by omega, ?_⟩
    rw [Int.toNat_natCast]
    refine for_range (fun i σ H' => ∃ v2 l ts, σ = [some (.int n), some (.ref l), v2, none] ∧ Same H H' ∧ H' l = some (.lst (rfs ts)) ∧ Tups K H' ts ∧ ts.map (·.2) = (subs i).map iN) ⟨none, l, [(t, [])], rfl, s1, el, et, rfl⟩ ?_ ?_
    · rintro i σ H2 hi ⟨v2, l, ts, rfl, s2, e2, p2, q2⟩
      rw [Int.zero_add]
      have len : ts.length = 2 ^ i := by
        have := congrArg List.length q2
        rw [List.length_map, List.length_map, subs_len] at this
        exact this
      have lb : 2 ^ i ≤ 256 := pow_le8 (by omega)
      refine ⟨_, rfl, _, rfl, l, rfl, ⟨_, SqL.of e2⟩, fun D nD => ?_⟩
      refine lc_list (K := K) (a := l) (xs := rfs ts) (fun j H' => Same H2 H' ∧ ∃ us : List Tt, H' D = some (.lst (rfs us)) ∧ Tups K H' us ∧ us.map (·.2) = ((subs i).take j).map (fun x => iN (x ++ [i])) ∧ us.length = j) ⟨Same.put nD, [], upd_same, fun _ m => (by cases m), rfl, rfl⟩ (fun j H' _ h => SqL.of (h.1 _ _ e2)) ?_ ?_
      · rintro j x H' hx ⟨s3, us, e3, p3, q3, l3⟩
        obtain ⟨t, ht, hm, rfl⟩ := rfs_at hx
        have jl : j < 256 := by
          have := (List.getElem?_eq_some_iff.mp ht).1
          omega
        have i0 : ((subs i).map iN)[j]? = some t.2 := by rw [← q2, List.getElem?_map, ht]; rfl
        obtain ⟨x, hx2, hx3⟩ : ∃ x, (subs i)[j]? = some x ∧ iN x = t.2 := by
          rw [List.getElem?_map] at i0
          cases e : (subs i)[j]? with
          | none => rw [e] at i0; cases i0
          | some x => rw [e] at i0; exact ⟨x, rfl, Option.some.inj i0⟩
        have fin : ∀ (c : Addr) (H4 : Hp), Same H' H4 → SqT K H4 c ((iN (x ++ [i])).map V.int) → ∃ acc, H4 D = some (.lst acc) ∧ acc.length < sizeLine ∧ Same H2 (upd H4 D (.lst (acc ++ [.ref c]))) ∧ ∃ us : List Tt, upd H4 D (.lst (acc ++ [.ref c])) D = some (.lst (rfs us)) ∧ Tups K (upd H4 D (.lst (acc ++ [.ref c]))) us ∧ us.map (·.2) = ((subs i).take (j + 1)).map (fun x => iN (x ++ [i])) ∧ us.length = j + 1 := fun c H4 s4 hc => by
          refine ⟨rfs us, s4 _ _ e3, by rw [rfs_len]; exact small_len (by omega), Same.but (fun b u e => s4 _ _ (s3 b u e)) nD, us ++ [(c, iN (x ++ [i]))], ?_, ?_, ?_, ?_⟩
          · rw [upd_same, rfs_snoc]
          · exact Tups.lst ((p3.same s4).app (Tups.one hc)) (s4 _ _ e3)
          · rw [List.map_append, q3, take_more hx2, List.map_append]
            rfl
          · rw [List.length_append, l3]
            rfl
        have htt := SqT.up (p2 t hm) s3
        refine ⟨rfl, yes_of ?_⟩
        refine ⟨_, rfl, _, rfl, by show 1 ≤ sizeLine; decide, fun c nc => ?_⟩
        refine ⟨t.1, c, t.2.map V.int, [.int (i : Int)], rfl, rfl, SqT.up htt (Same.put nc), SqT.of upd_same, ?_, ⟨fun z => ?_, ⟨fun _ z => absurd z (by simp), fun _ _ p np => ?_⟩⟩⟩
        · have := sub_short (List.mem_of_getElem? hx2)
          rw [← hx3, List.length_map, List.length_map]
          exact Nat.le_of_lt (small_len (by show x.length + 1 ≤ 1000; omega))
        · have z2 : x = [] := by
            cases x with
            | nil => rfl
            | cons a b => rw [← hx3] at z; cases z
          refine fin c _ (Same.put nc) ?_
          rw [z2]
          exact SqT.of upd_same
        · refine fin p _ ((Same.put nc).trans (Same.put np)) ?_
          rw [iN, List.map_append, List.map_append, show (x.map fun k : Nat => (k : Int)) = t.2 from hx3]
          exact SqT.of upd_same
      · rintro H3 ⟨s3, us, e3, p3, q3, l3⟩
        rw [rfs_len] at q3 l3
        refine ⟨l, D, rfs ts, rfs us, rfl, rfl, s3 _ _ e2, e3, ?_, fun p np => ?_⟩
        · rw [rfs_len, rfs_len]
          exact Nat.le_of_lt (small_len (by omega))
        refine ⟨_, p, ts ++ us, rfl, (s2.trans s3).trans (Same.put np), ?_, ((p2.same s3).app p3).same (Same.put np), ?_⟩
        · rw [upd_same, rfs, rfs, rfs, List.map_append]
        · rw [List.map_append, q2, q3, len, ← subs_len i, List.take_length]
          show _ = ((subs i) ++ (subs i).map (· ++ [i])).map iN
          rw [List.map_append, List.map_map]
          rfl
    · rintro σ H2 ⟨v2, l, ts, rfl, s2, e2, p2, q2⟩
      exact ⟨_, rfl, k l ts H2 s2 e2 p2 q2⟩
end
end K5

set_option Elab.async false
set_option linter.all false
set_option maxRecDepth 100000
set_option maxHeartbeats 4000000
namespace K5
open PySem L2
/-! ### the class Order -/
def ordF (n : Nat) (T : Addr) : List (Str × V) := putF "_lower" (.ref T) (putF "size" (.int (n : Int)) [])
theorem kSL : ¬ (("size" : Str) = "_lower") := by decide +kernel
theorem ordF_size (n : Nat) (T : Addr) : (ordF n T).lookup ("size" : Str) = some (.int (n : Int)) := by
  unfold ordF
  rw [lookup_putF, if_neg kSL, lookup_putF, if_pos rfl]
theorem ordF_lower (n : Nat) (T : Addr) : (ordF n T).lookup ("_lower" : Str) = some (.ref T) := by
  unfold ordF
  rw [lookup_putF, if_pos rfl]
theorem ordF_none (n : Nat) (T : Addr) {m : Str} (h1 : ¬ m = "_lower") (h2 : ¬ m = "size") : (ordF n T).lookup m = none := by
  unfold ordF
  rw [lookup_putF, if_neg h1, lookup_putF, if_neg h2]
  rfl
structure OrT (K : PySem.W.Frag) (mg : Str → Option Value) (C : Addr) : Prop where
  bn : Bn mg
  cl : Cls K C
  nS : NoAttr K C "size"
  nL : NoAttr K C "_lower"
  gO : mg "Order" = some (.ref C)
  gM : ∃ t, mg "MOST_ORDERED" = some (.int 8 t)
/-- an order of n places with these pairs -/
def IsOrd (C : Addr) (H : Hp) (o : Addr) (n : Nat) (low : List (Nat × Nat)) : Prop := ∃ (dx T : Addr) (ts : List Pt), H o = some (.ins C dx (ordF n T)) ∧ H T = some (.tup (rfs ts)) ∧ Pts H ts ∧ ts.map (·.2) = low
theorem IsOrd.same {C : Addr} {H H' : Hp} {o : Addr} {n : Nat} {low : List (Nat × Nat)} (h : IsOrd C H o n low) (s : Same H H') : IsOrd C H' o n low := by
  obtain ⟨dx, T, ts, h1, h2, h3, h4⟩ := h
  exact ⟨dx, T, ts, s _ _ h1, s _ _ h2, h3.same s, h4⟩
/-- order.pairs() -/
def spPairs (C : Addr) : Sp := fun vs H Q _ => ∃ (o : Addr) (n : Nat) (low : List (Nat × Nat)), vs = [.ref o] ∧ IsOrd C H o n low ∧ ∀ (l : Addr) (ts : List Pt) (H' : Hp), Same H H' → H' l = some (.lst (rfs ts)) → Pts H' ts → ts.map (·.2) = low → Q (.ref l) H'
structure PairsT (P : Program) (w : World) (K : PySem.W.Frag) (mg : Str → Option Value) (base : Heap) (C : Addr) : Prop where
  ex : ∃ (f : Addr) (fd : FuncData), Meth K C "pairs" f ∧ FnOk P w K mg base CX0 1 f fd ["self"] (spPairs C) ∧ Binds K fd ["self"] []
/-- is_up(order, states) -/
def spIsUp (K : PySem.W.Frag) (C : Addr) : Sp := fun vs H Q _ => ∃ (o t : Addr) (n : Nat) (low : List (Nat × Nat)) (st : List Nat), vs = [.ref o, .ref t] ∧ IsOrd C H o n low ∧ low.length ≤ 64 ∧ SqT K H t ((iN st).map V.int) ∧ ∀ H' : Hp, Same H H' → Q (.bl (upB low st)) H'
theorem inV_nat (k : Nat) : ∀ st : List Nat, inV (V.int (k : Int)) ((iN st).map V.int) = decide (k ∈ st)
  | [] => rfl
  | a :: st => by
    have ih := inV_nat k st
    unfold inV at ih ⊢
    rw [iN, List.map_cons, List.map_cons, List.any_cons]
    rw [show (List.map V.int (List.map (fun k : Nat => (k : Int)) st)).any (fun y => eqV y (V.int (k : Int))) = decide (k ∈ st) from ih]
    have e : eqV (V.int (a : Int)) (V.int (k : Int)) = decide (k = a) := by
      show decide ((a : Int) = (k : Int)) = _
      rw [decide_eq_decide]
      omega
    rw [e, Bool.eq_iff_iff, Bool.or_eq_true, decide_eq_true_eq, decide_eq_true_eq, decide_eq_true_eq, List.mem_cons]
theorem flat_ints (st : List Nat) : ((iN st).map V.int).all flatV = true := by
  rw [List.all_eq_true]
  intro x hx
  obtain ⟨i, _, rfl⟩ := List.mem_map.mp hx
  rfl
section
variable {P : Program} {w : World} {K : PySem.W.Frag} {mg : Str → Option Value} {base : Heap} {C : Addr}
abbrev s_Order_pairs : Stmt := inClass (top 15) 2
theorem sc_Order_pairs : FnScope ["self"] ["self"] (defScope s_Order_pairs) := ⟨rfl, rfl, rfl, by decide +kernel, rfl, by decide +kernel, by decide +kernel⟩
theorem ok_Order_pairs {f : Addr} {fd : FuncData} (F : Fun K "pairs" "Order.pairs" s_Order_pairs f fd) (T : OrT K mg C) : FnOk P w K mg base CX0 1 f fd ["self"] (spPairs C) := by
  refine F.ok sc_Order_pairs (fun vs H Q E h => ?_) (fun cdv A outer s H vs Q E hr h => ?_)
  · obtain ⟨o, n, low, rfl, _⟩ := h
    rfl
  · obtain ⟨o, n, low, rfl, ⟨dx, L, ts, h1, h2, h3, h4⟩, k⟩ := h
    refine ⟨_, (pss_one (ps_ret (pe_callTy call_list_of (by rfl) T.bn.n_list (by decide +kernel) (pa_cons (pe_fld (pv 0) rfl) pa_nil)))), ?_⟩
    refine ⟨_, rfl, o, C, dx, _, _, rfl, h1, T.cl, T.nL, ordF_lower _ _, L, rfs ts, rfl, .inr (SqT.of h2), fun l nl => ?_⟩
    exact k l ts _ (Same.put nl) upd_same (h3.same (Same.put nl)) h4
abbrev s_is_up : Stmt := top 19
theorem sc_is_up : FnScope ["order", "states", "s", "t"] ["order", "states"] (defScope s_is_up) := ⟨rfl, rfl, rfl, by decide +kernel, rfl, by decide +kernel, by decide +kernel⟩
theorem ok_is_up {f : Addr} {fd : FuncData} (F : Fun K "is_up" "is_up" s_is_up f fd) (T : OrT K mg C) (pr : PairsT P w K mg base C) : FnOk P w K mg base CX0 2 f fd ["order", "states"] (spIsUp K C) := by
  obtain ⟨g, gd, M, G, bG⟩ := pr.ex
  refine F.ok sc_is_up (fun vs H Q E h => ?_) (fun cdv A outer s H vs Q E hr h => ?_)
  · obtain ⟨o, t, n, low, st, rfl, _⟩ := h
    rfl
  · obtain ⟨o, t, n, low, st, rfl, ho, hlen, hst, k⟩ := h
    refine ⟨_, (pss_one (ps_ret (pe_callB (cr_all rfl) (by rfl) T.bn.n_all PyProof.Rows.boot_all (pa_cons (pe_lc (own := [("s", 2), ("t", 3)]) (g := gTup K 2 (gCons (gName 2) (gCons (gName 3) gNil))) rfl sc_is_up.nd (pi_list (pe_meth0 (pl := _) (pv 0) T.cl M G hr bG .nil pass0)) (blkOk_by (N := ["order", "states", "s", "t"]) (sc := defScope s_is_up) (by decide +kernel))
      (fun _ _ _ _ _ => (pg_tup (by rfl) (pgs_cons (pg_name (i := 2) sc_is_up.nd rfl (Or.inl rfl)) (pgs_cons (pg_name (i := 3) sc_is_up.nd rfl (Or.inl rfl)) pgs_nil)))) (fun _ _ _ _ _ => pts_one (pt_cmpR (show OpR _ _ (rIn K false) from op_in_seq) (pv 2) (pv 1) (by rfl)))
      (fun _ _ _ _ _ => (pe_cmpR (show OpR _ _ (rIn K false) from op_in_seq) (pv 3) (pv 1) (by rfl)))) pa_nil)))), ?_⟩
    obtain ⟨dx, L, ts0, h1, h2, h3, h4⟩ := id ho
    refine ⟨_, rfl, o, dx, _, rfl, h1, ordF_none _ _ (by decide +kernel) (by decide +kernel), o, n, low, rfl, ho, fun l ts H1 s1 e1 p1 q1 => ?_⟩
    have lts : ts.length ≤ 64 := by rw [← q1, List.length_map] at hlen; exact hlen
    refine ⟨l, rfl, ⟨_, SqL.of e1⟩, fun D nD => ?_⟩
    refine lc_list (K := K) (a := l) (xs := rfs ts) (fun i H' => Same H1 H' ∧ ∃ bs : List Bool, H' D = some (.lst (bs.map V.bl)) ∧ bs.length ≤ i ∧ bs.all id = upB (low.take i) st) ⟨Same.put nD, [], upd_same, Nat.le_refl _, rfl⟩ (fun i H' _ h => SqL.of (h.1 _ _ e1)) ?_ ?_
    · rintro i x H' hx ⟨s2, bs, eD, lD, aD⟩
      obtain ⟨u, hu, hm, rfl⟩ := rfs_at hx
      have i0 : low[i]? = some u.2 := by rw [← q1, List.getElem?_map, hu]; rfl
      have il : i < 64 := by
        have := (List.getElem?_eq_some_iff.mp hu).1
        omega
      have st2 : SqT K H' t ((iN st).map V.int) := SqT.up hst (s1.trans s2)
      refine ⟨u.1, prV u.2, rfl, SqT.of (s2 _ _ (p1 u hm)), rfl, _, _, rfl, _, _, rfl, rfl, rfl, ?_⟩
      refine ⟨_, rfl, _, rfl, t, _, rfl, .inr st2, rfl, flat_ints st, ?_⟩
      have in1 : inV (V.int (u.2.1 : Int)) ((iN st).map V.int) = decide (u.2.1 ∈ st) := inV_nat _ _
      have in2 : inV (V.int (u.2.2 : Int)) ((iN st).map V.int) = decide (u.2.2 ∈ st) := inV_nat _ _
      have next : upB (low.take (i + 1)) st = (upB (low.take i) st && (!decide (u.2.1 ∈ st) || decide (u.2.2 ∈ st))) := by
        rw [take_more i0]
        unfold upB
        rw [List.all_append, List.all_cons, List.all_nil, Bool.and_true]
      show ∃ c, _ ∧ _
      refine ⟨_, rfl, iteB (fun z => ?_) (fun z => ?_)⟩
      · have z : decide (u.2.1 ∈ st) = true := by rw [← in1]; exact z
        refine ⟨_, rfl, _, rfl, t, _, rfl, .inr st2, rfl, flat_ints st, ?_⟩
        show ∃ acc, _ ∧ _ ∧ _
        refine ⟨_, eD, by rw [List.length_map]; exact small_len (by omega), Same.but (fun b v e => s2 _ _ e) nD, bs ++ [decide (u.2.2 ∈ st)], ?_, ?_, ?_⟩
        · rw [upd_same, List.map_append]
          show some (HO.lst (_ ++ [V.bl (inV (V.int (u.2.2 : Int)) ((iN st).map V.int))])) = _
          rw [in2]
          rfl
        · rw [List.length_append]
          show bs.length + 1 ≤ i + 1
          omega
        · rw [next, List.all_append, aD, z]
          simp
      · have z : decide (u.2.1 ∈ st) = false := by rw [← in1]; exact z
        exact ⟨s2, bs, eD, by omega, by rw [next, z, aD]; simp⟩
    · rintro H2 ⟨s2, bs, eD, lD, aD⟩
      refine ⟨D, bs, rfl, SqL.of eD, ?_⟩
      have len : (rfs ts).length = low.length := by rw [rfs_len, ← q1, List.length_map]
      rw [len, List.take_length] at aD
      show Q (.bl (bs.all id)) H2
      rw [aD]
      exact k H2 (s1.trans s2)
end
end K5

set_option Elab.async false
set_option linter.all false
set_option maxRecDepth 100000
set_option maxHeartbeats 4000000
namespace K5
open PySem L2
theorem un65 {k : Nat} {A : Around} (r : Room k A) : A.units + 65 < cLine := by
  have := r.un
  omega
def Anti (n : Nat) (R : Rl) : Prop := ∀ s t, R s t = true → R t s = true → s = t
def spOI (C : Addr) : Sp := fun vs H Q _ => ∃ (x dx : Addr) (n : Nat) (l : Addr) (ts : List Pt), vs = [.ref x, .int (n : Int), .ref l] ∧ H x = some (.ins C dx []) ∧ 1 ≤ n ∧ n ≤ 8 ∧ H l = some (.lst (rfs ts)) ∧ Pts H ts ∧ ts.length ≤ 64 ∧
  (∀ t ∈ ts, t.2.1 < n ∧ t.2.2 < n) ∧ Anti n (wars (memR (ts.map (·.2))) n) ∧
  ∀ (T : Addr) (us : List Pt) (H2 : Hp), Same H H2 → H2 T = some (.tup (rfs us)) → Pts H2 us → us.map (·.2) = lowL n (wars (memR (ts.map (·.2))) n) → Q .non (upd H2 x (.ins C dx (ordF n T)))
/-! ### tuples of ints as data -/
def dI (ns : List Int) : PyData := .tuple (ns.map PyData.int)
theorem eqvAll_ints : ∀ ns ms : List Int, PyData.eqvAll (ns.map PyData.int) (ms.map PyData.int) = decide (ns = ms)
  | [], [] => rfl
  | [], _ :: _ => rfl
  | _ :: _, [] => rfl
  | a :: ns, b :: ms => by
    show (PyData.eqv (.int a) (.int b) && PyData.eqvAll (ns.map PyData.int) (ms.map PyData.int)) = _
    rw [eqvAll_ints ns ms, Bool.eq_iff_iff, Bool.and_eq_true, decide_eq_true_eq, decide_eq_true_eq, List.cons.injEq]
    have e : PyData.eqv (.int a) (.int b) = (a == b) := by simp [PyData.eqv]
    rw [e, beq_iff_eq]
theorem eqv_dI (ns ms : List Int) : PyData.eqv (dI ns) (dI ms) = decide (ns = ms) := by
  unfold dI
  rw [PyData.eqv]
  exact eqvAll_ints ns ms
theorem lay_ints : ∀ ns : List Int, PyData.canLayAll0 (ns.map PyData.int) = true ∧ PyData.depthAll (ns.map PyData.int) = 0
  | [] => ⟨rfl, rfl⟩
  | a :: ns => by
    obtain ⟨h1, h2⟩ := lay_ints ns
    refine ⟨?_, ?_⟩
    · show ((PyData.int a).canLay0 && PyData.canLayAll0 (ns.map PyData.int)) = true
      rw [h1]
      rfl
    · show max (PyData.depth (.int a)) (PyData.depthAll (ns.map PyData.int)) = 0
      rw [h2]
      rfl
theorem lay_dI (ns : List Int) : (dI ns).canLay0 = true ∧ (dI ns).depth = 1 := by
  obtain ⟨h1, h2⟩ := lay_ints ns
  exact ⟨h1, by show PyData.depthAll (ns.map PyData.int) + 1 = 1; rw [h2]⟩
theorem lay_dIs : ∀ L : List (List Int), PyData.canLayAll0 (L.map dI) = true ∧ PyData.depthAll (L.map dI) ≤ 1
  | [] => ⟨rfl, Nat.zero_le _⟩
  | a :: L => by
    obtain ⟨h1, h2⟩ := lay_dIs L
    obtain ⟨h3, h4⟩ := lay_dI a
    refine ⟨?_, ?_⟩
    · show ((dI a).canLay0 && PyData.canLayAll0 (L.map dI)) = true
      rw [h1, h3]
      rfl
    · show max (dI a).depth (PyData.depthAll (L.map dI)) ≤ 1
      omega
theorem sh_dI (ns : List Int) : SeqAt.shaped (dI ns) = true := by
  obtain ⟨h1, h2⟩ := lay_dI ns
  unfold SeqAt.shaped
  rw [h1, h2]
  rfl
theorem sh_list (L : List (List Int)) : SeqAt.shaped (.list (L.map dI)) = true := by
  obtain ⟨h1, h2⟩ := lay_dIs L
  unfold SeqAt.shaped
  rw [Bool.and_eq_true, decide_eq_true_eq]
  refine ⟨h1, ?_⟩
  show PyData.depthAll (L.map dI) + 1 ≤ 64
  omega
theorem sh_tup (L : List (List Int)) : SeqAt.shaped (.tuple (L.map dI)) = true := by
  obtain ⟨h1, h2⟩ := lay_dIs L
  unfold SeqAt.shaped
  rw [Bool.and_eq_true, decide_eq_true_eq]
  refine ⟨h1, ?_⟩
  show PyData.depthAll (L.map dI) + 1 ≤ 64
  omega
theorem dp_ints {K : PySem.W.Frag} {H : Hp} : ∀ ns : List Int, DpAll K H (ns.map V.int) (ns.map PyData.int)
  | [] => .nil
  | a :: ns => .cons (.int a) (dp_ints ns)
theorem dp_tup {K : PySem.W.Frag} {H : Hp} {a : Addr} {ns : List Int} (h : SqT K H a (ns.map V.int)) : Dp K H (.ref a) (dI ns) := .tup h (dp_ints ns)
theorem Tups.dp {K : PySem.W.Frag} {H : Hp} : ∀ {ts : List Tt}, Tups K H ts → DpAll K H (rfs ts) ((ts.map (·.2)).map dI)
  | [], _ => .nil
  | t :: ts, h => .cons (dp_tup (h t List.mem_cons_self)) (Tups.dp fun u m => h u (List.mem_cons_of_mem _ m))
abbrev pI (p : Nat × Nat) : List Int := [(p.1 : Int), (p.2 : Int)]
theorem pI_inj {p q : Nat × Nat} (h : pI p = pI q) : p = q := by
  obtain ⟨a, b⟩ := p
  obtain ⟨c, d⟩ := q
  simp only [pI, List.cons.injEq, and_true] at h
  rw [Int.ofNat.inj h.1, Int.ofNat.inj h.2]
theorem Pts.dp {K : PySem.W.Frag} {H : Hp} : ∀ {ts : List Pt}, Pts H ts → DpAll K H (rfs ts) (((ts.map (·.2)).map pI).map dI)
  | [], _ => .nil
  | t :: ts, h => .cons (dp_tup (ns := pI t.2) (SqT.of (h t List.mem_cons_self))) (Pts.dp fun u m => h u (List.mem_cons_of_mem _ m))
theorem any_pI (p : Nat × Nat) : ∀ ps : List (Nat × Nat), ((ps.map pI).map dI).any (fun z => PyData.eqv z (dI (pI p))) = decide (p ∈ ps)
  | [] => rfl
  | q :: ps => by
    rw [List.map_cons, List.map_cons, List.any_cons, any_pI p ps, eqv_dI, Bool.eq_iff_iff, Bool.or_eq_true, decide_eq_true_eq, decide_eq_true_eq, decide_eq_true_eq, List.mem_cons]
    exact or_congr ⟨fun h => (pI_inj h).symm, fun h => by rw [h]⟩ Iff.rfl
theorem kit_lt {K : PySem.W.Frag} : PySem.W.kitAny K (.type "list") [.type "list", .type "tuple"] = some true := by
  have e : PySem.W.kitOne K (.type "list") (.type "list") = some true := kit_ty (r := true) (by decide +kernel)
  simp only [PySem.W.kitAny, e]
section
variable {P : Program} {w : World} {K : PySem.W.Frag} {mg : Str → Option Value} {base : Heap} {C : Addr}
abbrev s_OI : Stmt := inClass (top 15) 0
theorem sc_OI : FnScope ["self", "size", "pairs", "lower", "s", "t", "pair"] ["self", "size", "pairs"] (defScope s_OI) := ⟨rfl, rfl, rfl, by decide +kernel, rfl, by decide +kernel, by decide +kernel⟩
theorem ok_OI {f : Addr} {fd : FuncData} (F : Fun K "__init__" "Order.__init__" s_OI f fd) (T : OrT K mg C) (c_is_between : Cal P w K mg base 2 "is_between" ["least", "most", "thing"] spBetween) (c_is_index_pair : Cal P w K mg base 4 "is_index_pair" ["many", "thing"] spIxPair)
    (c_linked : Cal P w K mg base 2 "linked" ["size", "pairs"] (spLinked K)) : FnOk P w K mg base CX0 5 f fd ["self", "size", "pairs"] (spOI C) := by
  obtain ⟨tM, gM⟩ := T.gM
  refine F.ok sc_OI (fun vs H Q E h => ?_) (fun cdv A outer s H vs Q E hr h => ?_)
  · obtain ⟨x, dx, n, l, ts, rfl, _⟩ := h
    rfl
  · obtain ⟨x, dx, n, l, ts, rfl, hx, n1, n8, el, pt, hlen, hlt, anti, k⟩ := h
    have hu := un65 hr
    refine ⟨_, (pss_cons (ps_if (PW.pt (pw_or (pt_not (pt_val (pe_cal c_is_between (hr.mono (by decide)) rfl (pa_cons pe_int (pa_cons (pe_glob (v := .int 8) rfl gM ⟨_, rfl⟩) (pa_cons (pv 1) pa_nil)))))) (pw_or1 (pt_not (pt_val (pe_callB call_isiT (by rfl) T.bn.n_isinstance (by decide +kernel) (pa_cons (pv 2) (pa_cons (pe_tup (pa_cons (pe_bltn (v := .ty "list") rfl T.bn.n_list (by decide +kernel) rfl) (pa_cons (pe_bltn (v := .ty "tuple") rfl T.bn.n_tuple (by decide +kernel) rfl) pa_nil))) pa_nil))))))))
        pss_never
        pss_nil)
      (pss_cons (ps_if (pt_not (pt_val (pe_callB (cr_all rfl) (by rfl) T.bn.n_all PyProof.Rows.boot_all (pa_cons (pe_lc (own := [("pair", 6)]) rfl sc_OI.nd (pi_list (pv 2)) (blkOk_by (N := ["self", "size", "pairs", "lower", "s", "t", "pair"]) (sc := defScope s_OI) (by decide +kernel)) (fun _ _ _ _ _ => (pg_name (i := 6) sc_OI.nd rfl (Or.inl rfl))) (fun _ _ _ _ _ => pts_nil) (fun _ _ _ _ _ => (pe_cal c_is_index_pair (hr.mono (by decide)) rfl (pa_cons (pv 1) (pa_cons (pv 6) pa_nil))))) pa_nil))))
        pss_never
        pss_nil)
      (pss_cons (ps_set (i := 3) sc_OI.nd rfl (Or.inr rfl) (pe_cal c_linked (hr.mono (by decide)) rfl (pa_cons (pv 1) (pa_cons (pv 2) pa_nil))))
      (pss_cons (ps_if (pt_val (pe_callB (cr_any rfl) (by rfl) T.bn.n_any PyProof.Rows.boot_any (pa_cons (pe_lc (own := [("s", 4), ("t", 5)]) (g := gTup K 2 (gCons (gName 4) (gCons (gName 5) gNil))) rfl sc_OI.nd (pi_tup (pv 3)) (blkOk_by (N := ["self", "size", "pairs", "lower", "s", "t", "pair"]) (sc := defScope s_OI) (by decide +kernel)) (fun _ _ _ _ _ => (pg_tup (by rfl) (pgs_cons (pg_name (i := 4) sc_OI.nd rfl (Or.inl rfl)) (pgs_cons (pg_name (i := 5) sc_OI.nd rfl (Or.inl rfl)) pgs_nil)))) (fun _ _ _ _ _ => pts_nil) (fun _ _ _ _ _ => (pe_cmpR (show OpR _ _ (rInDT K) from op_inDT (by exact hu)) (pe_tup (pa_cons (pv 5) (pa_cons (pv 4) pa_nil))) (pv 3) (by rfl)))) pa_nil)))
        pss_never
        pss_nil)
      (pss_cons (ps_fld (pv 0) (pv 1) rfl)
      (pss_one (ps_fld (pv 0) (pv 3) rfl))))))), ?_⟩
    refine ⟨_, rfl, 1, 8, n, rfl, by omega, by omega, _, rfl, ?_⟩
    refine ⟨_, rfl, by show 2 ≤ sizeLine; decide, fun tp ntp => ?_⟩
    refine ⟨.ref l, tp, _, _, _, true, rfl, upd_same, .cons (.ty _) (.cons (.ty _) .nil), .base (.lst (Same.put ntp _ _ el)), ?_, _, rfl, iteF ?_⟩
    · exact kit_lt
    have sP := Same.put (o := .tup [.ty "list", .ty "tuple"]) ntp
    generalize (upd H tp (.tup [.ty "list", .ty "tuple"])) = H0 at sP ⊢
    -- all are pairs of places
    refine ⟨_, rfl, l, rfl, ⟨_, SqL.of (sP _ _ el)⟩, fun G nG => ?_⟩
    refine lc_list (K := K) (a := l) (xs := rfs ts) (fun i H' => Same H0 H' ∧ H' G = some (.lst ((List.replicate i true).map V.bl))) ⟨Same.put nG, upd_same⟩ (fun i H' _ h => SqL.of (h.1 _ _ (sP _ _ el))) ?_ ?_
    · rintro i y H' hy ⟨s1, eG⟩
      obtain ⟨t, ht, hm, rfl⟩ := rfs_at hy
      have il : i < 64 := by
        have := (List.getElem?_eq_some_iff.mp ht).1
        omega
      obtain ⟨t1, t2⟩ := hlt t hm
      refine ⟨rfl, yes_of ?_⟩
      refine ⟨_, rfl, _, rfl, n, t.1, t.2.1, t.2.2, rfl, s1 _ _ (sP _ _ (pt t hm)), by omega, by omega, by omega, by omega, _, eG, ?_, Same.but (fun b u e => s1 _ _ e) nG, ?_⟩
      · rw [List.length_map, List.length_replicate]
        exact small_len (by omega)
      · rw [upd_same, List.replicate_succ', List.map_append]
        rfl
    rintro H1 ⟨s1, eG⟩
    refine ⟨G, _, rfl, SqL.of eG, _, rfl, ?_⟩
    rw [show (List.replicate (rfs ts).length true).all id = true from List.all_eq_true.mpr fun b hb => (List.mem_replicate.mp hb).2]
    refine iteF ?_
    have s01 := sP.trans s1
    refine ⟨_, rfl, _, rfl, n, l, ts, rfl, n8, s01 _ _ el, pt.same s01, hlen, fun L us H2 s2 eL pL qL => ?_⟩
    have s02 := s01.trans s2
    have lus : us.length ≤ 64 := by
      have := congrArg List.length qL
      rw [List.length_map] at this
      have h1 := List.length_filter_le (keepB (wars (memR (ts.map (·.2))) n)) (prs n)
      have h2 := prs_len n n8
      unfold lowL at this
      omega
    -- none the other way about
    refine ⟨_, rfl, L, rfl, ⟨_, SqT.of eL⟩, fun D nD => ?_⟩
    refine lc_tup (K := K) (a := L) (xs := rfs us) (fun i H' => Same H2 H' ∧ H' D = some (.lst ((List.replicate i false).map V.bl))) ⟨Same.put nD, upd_same⟩ (fun i H' _ h => SqT.of (h.1 _ _ eL)) ?_ ?_
    · rintro i y H' hy ⟨s3, eD⟩
      obtain ⟨t, ht, hm, rfl⟩ := rfs_at hy
      have il : i < 64 := by
        have := (List.getElem?_eq_some_iff.mp ht).1
        omega
      have tm : t.2 ∈ lowL n (wars (memR (ts.map (·.2))) n) := by rw [← qL]; exact List.mem_map_of_mem hm
      refine ⟨t.1, prV t.2, rfl, SqT.of (s3 _ _ (pL t hm)), rfl, _, _, rfl, _, _, rfl, rfl, rfl, yes_of ?_⟩
      refine ⟨_, rfl, _, rfl, by show 2 ≤ sizeLine; decide, fun c nc => ?_⟩
      have sC := s3.trans (Same.put (o := .tup [.int (t.2.2 : Int), .int (t.2.1 : Int)]) nc)
      have eC : (upd H' c (.tup [.int (t.2.2 : Int), .int (t.2.1 : Int)])) c = some (.tup ((pI (t.2.2, t.2.1)).map V.int)) := upd_same
      have eD2 := Same.put (o := .tup [.int (t.2.2 : Int), .int (t.2.1 : Int)]) nc _ _ eD
      generalize (upd H' c (.tup [.int (t.2.2 : Int), .int (t.2.1 : Int)])) = H4 at sC eC eD2 ⊢
      refine ⟨_, rfl, dI (pI (t.2.2, t.2.1)), _, dp_tup (SqT.of eC), .tup (SqT.of (sC _ _ eL)) (Pts.dp (pL.same sC)), sh_dI _, sh_tup _, ?_⟩
      have no : (((us.map (·.2)).map pI).map dI).any (fun z => PyData.eqv z (dI (pI (t.2.2, t.2.1)))) = false := by
        rw [any_pI, decide_eq_false_iff_not, qL]
        intro z
        obtain ⟨h1, h2, h3, h4⟩ := mem_low.mp tm
        obtain ⟨_, _, _, h5⟩ := mem_low.mp z
        exact h3 (anti _ _ h4 h5)
      show ∃ acc, _ ∧ _ ∧ _
      rw [no]
      refine ⟨_, eD2, ?_, Same.but (fun b u e => sC _ _ e) nD, ?_⟩
      · rw [List.length_map, List.length_replicate]
        exact small_len (by omega)
      · rw [upd_same, List.replicate_succ', List.map_append]
        rfl
    rintro H3 ⟨s3, eD⟩
    refine ⟨D, _, rfl, SqL.of eD, _, rfl, ?_⟩
    rw [show (List.replicate (rfs us).length false).any id = false from List.any_eq_false.mpr fun b hb => by rw [(List.mem_replicate.mp hb).2]; decide]
    refine iteF ?_
    have s03 := s02.trans s3
    refine ⟨_, rfl, _, rfl, x, C, dx, [], rfl, s03 _ _ hx, T.cl, T.nS, by show 0 < 1000; decide, ?_⟩
    refine ⟨_, rfl, _, rfl, x, C, dx, _, rfl, upd_same, T.cl, T.nL, by show 1 < 1000; decide, ?_⟩
    rw [upd_upd]
    exact k L us H3 s03 (s3 _ _ eL) (pL.same s3) qL
end
end K5

set_option Elab.async false
set_option linter.all false
set_option maxRecDepth 100000
set_option maxHeartbeats 4000000
namespace K5
open PySem L2
/-! ### Order(n, pairs) -/
structure MkO (P : Program) (w : World) (K : PySem.W.Frag) (mg : Str → Option Value) (base : Heap) (C : Addr) : Prop where
  ex : ∃ (f : Addr) (fd : FuncData), Mk K C f ∧ FnOk P w K mg base CX0 5 f fd ["self", "size", "pairs"] (spOI C) ∧ Binds K fd ["self", "size", "pairs"] []
  gO : mg "Order" = some (.ref C)
section
variable {X : Cx} {C : Addr} {p pos : Pos} {e : Expr} {es : List Expr} {t : TA}
theorem pe_ord (m : MkO X.prog X.w X.K X.mg X.base C) (hr : Room 6 X.A) (hg : Gl X "Order") (ha : PA X (e :: es) t)
    (he : starEach (e :: es) X.env = (false, eval e X.env) :: starEach es X.env := by rfl) (hpl : (backTo pos (starEach es X.env)).any (·.1) = false := by rfl) :
    PE X (.Call (.Name "Order" p) (e :: es) [] pos) (tMake C (spOI C) [] E0 t) := by
  obtain ⟨f, fd, M, F, b0⟩ := m.ex
  exact pe_make M F hr hg m.gO b0 .nil pass0 ha (by decide) he hpl
end
theorem ord_ok {C : Addr} {n : Nat} {l : Addr} {ts : List Pt} {H : Hp} {W : Addr → Hp → Prop} {E : XK} (n1 : 1 ≤ n) (n8 : n ≤ 8) (el : H l = some (.lst (rfs ts))) (pt : Pts H ts) (hlen : ts.length ≤ 64) (hlt : ∀ t ∈ ts, t.2.1 < n ∧ t.2.2 < n) (anti : Anti n (wars (memR (ts.map (·.2))) n))
    (k : ∀ (x : Addr) (H' : Hp), Same H H' → IsOrd C H' x n (lowL n (wars (memR (ts.map (·.2))) n)) → W x H') :
    ∀ x dx, H x = none → H dx = none → dx ≠ x → spOI C [.ref x, .int (n : Int), .ref l] (upd (upd H dx (.own x)) x (.ins C dx [])) (fun v H2 => v = .non ∧ W x H2) E := by
  intro x dx hx hd ne
  have s1 : Same H (upd (upd H dx (.own x)) x (.ins C dx [])) := (Same.put hd).trans (Same.put (by rw [upd_ne ne.symm]; exact hx))
  refine ⟨x, dx, n, l, ts, rfl, upd_same, n1, n8, s1 _ _ el, pt.same s1, hlen, hlt, anti, fun T us H2 s2 eT pT qT => ⟨rfl, k x _ ?_ ⟨dx, T, us, upd_same, ?_, ?_, qT⟩⟩⟩
  · exact fun b u e => by
      rw [upd_ne (ne_of_none e hx)]
      exact s2 _ _ (s1 _ _ e)
  · have ex := s2 _ _ (show (upd (upd H dx (.own x)) x (.ins C dx [])) x = some (.ins C dx []) from upd_same)
    rw [upd_ne (fun z => by rw [z, ex] at eT; cases eT)]
    exact eT
  · have ex := s2 _ _ (show (upd (upd H dx (.own x)) x (.ins C dx [])) x = some (.ins C dx []) from upd_same)
    intro u hu
    have := pT u hu
    rw [upd_ne (fun z => by rw [z, ex] at this; cases this)]
    exact this
def swp (p : Nat × Nat) : Nat × Nat := (p.2, p.1)
/-- order.turned() -/
def spTurned (C : Addr) : Sp := fun vs H Q _ => ∃ (o : Addr) (n : Nat) (low : List (Nat × Nat)), vs = [.ref o] ∧ IsOrd C H o n low ∧ 1 ≤ n ∧ n ≤ 8 ∧ low.length ≤ 64 ∧ (∀ p ∈ low, p.1 < n ∧ p.2 < n) ∧ Anti n (wars (memR (low.map swp)) n) ∧
  ∀ (x : Addr) (H' : Hp), Same H H' → IsOrd C H' x n (lowL n (wars (memR (low.map swp)) n)) → Q (.ref x) H'
structure TurnedT (P : Program) (w : World) (K : PySem.W.Frag) (mg : Str → Option Value) (base : Heap) (C : Addr) : Prop where
  ex : ∃ (f : Addr) (fd : FuncData), Meth K C "turned" f ∧ FnOk P w K mg base CX0 7 f fd ["self"] (spTurned C) ∧ Binds K fd ["self"] []
def linePs (n : Nat) : List (Nat × Nat) := (List.range (n - 1)).map fun s => (s, s + 1)
/-- line(n) -/
def spLine (C : Addr) : Sp := fun vs H Q _ => ∃ n : Nat, vs = [.int (n : Int)] ∧ 1 ≤ n ∧ n ≤ 8 ∧ ∀ (x : Addr) (H' : Hp), Same H H' → IsOrd C H' x n (lowL n (wars (memR (linePs n)) n)) → Q (.ref x) H'
theorem line_anti (n k : Nat) : Anti n (wars (memR (linePs n)) k) := by
  have up : ∀ s t, wars (memR (linePs n)) k s t = true → s < t := wars_keep (fun s t => s < t) (fun _ _ _ => Nat.lt_trans) (fun s t h => by
    obtain ⟨i, _, e⟩ := List.mem_map.mp (of_decide_eq_true h)
    have e1 := (Prod.mk.inj e).1
    have e2 := (Prod.mk.inj e).2
    omega) k
  intro s t h1 h2
  have := up s t h1
  have := up t s h2
  omega
/-- up_sets(order) -/
def spUps (K : PySem.W.Frag) (C : Addr) : Sp := fun vs H Q _ => ∃ (o : Addr) (n : Nat) (low : List (Nat × Nat)), vs = [.ref o] ∧ IsOrd C H o n low ∧ n ≤ 8 ∧ low.length ≤ 64 ∧
  ∀ (l : Addr) (ts : List Tt) (H' : Hp), Same H H' → H l = none → H' l = some (.lst (rfs ts)) → Tups K H' ts → UpT.Srt (ts.map (·.2)) → (ts.map (·.2)).Perm (((subs n).filter (upB low)).map iN) → Q (.ref l) H'
theorem un2 {k : Nat} {A : Around} (r : Room k A) : A.units + 2 < cLine := by
  have := r.un
  omega
theorem nil_subs : ∀ n, [] ∈ subs n
  | 0 => List.mem_cons_self
  | n + 1 => List.mem_append_left _ (nil_subs n)
section
variable {P : Program} {w : World} {K : PySem.W.Frag} {mg : Str → Option Value} {base : Heap} {C : Addr}
abbrev s_turned : Stmt := inClass (top 15) 3
theorem sc_turned : FnScope ["self", "s", "t"] ["self"] (defScope s_turned) := ⟨rfl, rfl, rfl, by decide +kernel, rfl, by decide +kernel, by decide +kernel⟩
theorem ok_turned {f : Addr} {fd : FuncData} (F : Fun K "turned" "Order.turned" s_turned f fd) (T : OrT K mg C) (m : MkO P w K mg base C) : FnOk P w K mg base CX0 7 f fd ["self"] (spTurned C) := by
  refine F.ok sc_turned (fun vs H Q E h => ?_) (fun cdv A outer s H vs Q E hr h => ?_)
  · obtain ⟨o, n, low, rfl, _⟩ := h
    rfl
  · obtain ⟨o, n, low, rfl, ⟨dx, L, ts, h1, h2, h3, h4⟩, n1, n8, hlen, hlt, anti, k⟩ := h
    refine ⟨_, (pss_one (ps_ret (pe_ord m hr rfl (pa_cons (pe_fld (pv 0) rfl) (pa_cons (pe_lc (own := [("s", 1), ("t", 2)]) (g := gTup K 2 (gCons (gName 1) (gCons (gName 2) gNil))) rfl sc_turned.nd (pi_tup (pe_fld (pv 0) rfl)) (blkOk_by (N := ["self", "s", "t"]) (sc := defScope s_turned) (by decide +kernel))
      (fun _ _ _ _ _ => (pg_tup (by rfl) (pgs_cons (pg_name (i := 1) sc_turned.nd rfl (Or.inl rfl)) (pgs_cons (pg_name (i := 2) sc_turned.nd rfl (Or.inl rfl)) pgs_nil)))) (fun _ _ _ _ _ => pts_nil) (fun _ _ _ _ _ => (pe_tup (pa_cons (pv 2) (pa_cons (pv 1) pa_nil))))) pa_nil))))), ?_⟩
    have lts : ts.length = low.length := by rw [← h4, List.length_map]
    refine ⟨_, rfl, o, C, dx, _, _, rfl, h1, T.cl, T.nS, ordF_size _ _, ?_⟩
    refine ⟨_, rfl, o, C, dx, _, _, rfl, h1, T.cl, T.nL, ordF_lower _ _, L, rfl, ⟨_, SqT.of h2⟩, fun D nD => ?_⟩
    refine lc_tup (K := K) (a := L) (xs := rfs ts) (fun i H' => Same H H' ∧ ∃ us : List Pt, H' D = some (.lst (rfs us)) ∧ Pts H' us ∧ us.map (·.2) = (low.take i).map swp) ⟨Same.put nD, [], upd_same, fun _ m => (by cases m), rfl⟩ (fun i H' _ h => SqT.of (h.1 _ _ h2)) ?_ ?_
    · rintro i x H' hx ⟨s1, us, eD, pD, qD⟩
      obtain ⟨t, ht, hm, rfl⟩ := rfs_at hx
      have i0 : low[i]? = some t.2 := by rw [← h4, List.getElem?_map, ht]; rfl
      have lus : us.length ≤ 64 := by
        have := congrArg List.length qD
        rw [List.length_map, List.length_map, List.length_take] at this
        omega
      refine ⟨t.1, prV t.2, rfl, SqT.of (s1 _ _ (h3 t hm)), rfl, _, _, rfl, _, _, rfl, rfl, rfl, yes_of ?_⟩
      refine ⟨_, rfl, _, rfl, by show 2 ≤ sizeLine; decide, fun c nc => ?_⟩
      refine ⟨rfs us, Same.put nc _ _ eD, by rw [rfs_len]; exact small_len (by omega), Same.but (fun b u e => Same.put nc _ _ (s1 _ _ e)) nD, us ++ [(c, swp t.2)], ?_, ?_, ?_⟩
      · rw [upd_same, rfs_snoc]
      · refine Pts.snoc (fun u m => ?_) ?_
        · have nu : u.1 ≠ D := fun q => by
            have := pD u m
            rw [q, eD] at this
            cases this
          rw [upd_ne nu]
          exact Same.put nc _ _ (pD u m)
        · have ncD : c ≠ D := fun q => by
            rw [q, eD] at nc
            cases nc
          show upd _ D _ c = _
          rw [upd_ne ncD, upd_same]
          rfl
      · rw [List.map_append, qD, take_more i0, List.map_append]
        rfl
    · rintro H1 ⟨s1, us, eD, pD, qD⟩
      rw [rfs_len, lts, List.take_length] at qD
      have lus : us.length = low.length := by
        have := congrArg List.length qD
        rw [List.length_map, List.length_map] at this
        exact this
      refine ord_ok n1 n8 eD pD (by omega) (fun t hm => ?_) (by rw [qD]; exact anti) fun x H' s2 io => k x H' (s1.trans s2) (by rw [← qD]; exact io)
      have : t.2 ∈ low.map swp := by rw [← qD]; exact List.mem_map_of_mem hm
      obtain ⟨p, hp, e⟩ := List.mem_map.mp this
      rw [← e]
      exact ⟨(hlt p hp).2, (hlt p hp).1⟩
abbrev s_line : Stmt := top 20
theorem sc_line : FnScope ["size", "state"] ["size"] (defScope s_line) := ⟨rfl, rfl, rfl, by decide +kernel, rfl, by decide +kernel, by decide +kernel⟩
theorem ok_line {f : Addr} {fd : FuncData} (F : Fun K "line" "line" s_line f fd) (T : OrT K mg C) (m : MkO P w K mg base C) (c_is_between : Cal P w K mg base 2 "is_between" ["least", "most", "thing"] spBetween) : FnOk P w K mg base CX0 7 f fd ["size"] (spLine C) := by
  obtain ⟨tM, gM⟩ := T.gM
  refine F.ok sc_line (fun vs H Q E h => ?_) (fun cdv A outer s H vs Q E hr h => ?_)
  · obtain ⟨n, rfl, _⟩ := h
    rfl
  · obtain ⟨n, rfl, n1, n8, k⟩ := h
    refine ⟨_, (pss_cons (ps_if (pt_not (pt_val (pe_cal c_is_between (hr.mono (by decide)) rfl (pa_cons pe_int (pa_cons (pe_glob (v := .int 8) rfl gM ⟨_, rfl⟩) (pa_cons (pv 0) pa_nil))))))
        pss_never
        pss_nil)
      (pss_one (ps_ret (pe_ord m hr rfl (pa_cons (pv 0) (pa_cons (pe_lc (own := [("state", 1)]) rfl sc_line.nd (pi_range1 (by rfl) T.bn.n_range (pa_cons (pe_op op_sub (pv 0) pe_int) pa_nil)) (blkOk_by (N := ["size", "state"]) (sc := defScope s_line) (by decide +kernel))
        (fun _ _ _ _ _ => (pg_name (i := 1) sc_line.nd rfl (Or.inl rfl))) (fun _ _ _ _ _ => pts_nil) (fun _ _ _ _ _ => (pe_tup (pa_cons (pv 1) (pa_cons (pe_op op_add (pv 1) pe_int) pa_nil))))) pa_nil)))))), ?_⟩
    refine ⟨_, rfl, 1, 8, n, rfl, by omega, by omega, _, rfl, iteF ?_⟩
    refine ⟨_, rfl, _, rfl, _, _, rfl, rfl, _, rfl, by omega, by omega, fun D nD => ?_⟩
    rw [show ((n : Int) - 1).toNat = n - 1 by omega]
    refine lc_range (fun i H' => Same H H' ∧ ∃ us : List Pt, H' D = some (.lst (rfs us)) ∧ Pts H' us ∧ us.map (·.2) = (List.range i).map (fun s => (s, s + 1)) ∧ us.length = i) ⟨Same.put nD, [], upd_same, fun _ m => (by cases m), rfl, rfl⟩ ?_ ?_
    · rintro i H' hi ⟨s1, us, eD, pD, qD, lD⟩
      rw [Int.zero_add]
      refine ⟨rfl, yes_of ?_⟩
      refine ⟨_, rfl, _, rfl, _, _, rfl, rfl, by show 2 ≤ sizeLine; decide, fun c nc => ?_⟩
      refine ⟨rfs us, Same.put nc _ _ eD, by rw [rfs_len]; exact small_len (by omega), Same.but (fun b u e => Same.put nc _ _ (s1 _ _ e)) nD, us ++ [(c, i, i + 1)], ?_, ?_, ?_, ?_⟩
      · rw [upd_same, rfs_snoc]
      · refine Pts.snoc (fun u m => ?_) ?_
        · have nu : u.1 ≠ D := fun q => by
            have := pD u m
            rw [q, eD] at this
            cases this
          rw [upd_ne nu]
          exact Same.put nc _ _ (pD u m)
        · have ncD : c ≠ D := fun q => by
            rw [q, eD] at nc
            cases nc
          show upd _ D _ c = _
          rw [upd_ne ncD, upd_same]
          rfl
      · rw [List.map_append, qD, List.range_succ, List.map_append]
        rfl
      · rw [List.length_append, lD]
        rfl
    · rintro H1 ⟨s1, us, eD, pD, qD, lD⟩
      refine ord_ok n1 n8 eD pD (by omega) (fun t hm => ?_) (by rw [qD]; exact line_anti n n) fun x H' s2 io => k x H' (s1.trans s2) (by rw [qD] at io; exact io)
      have : t.2 ∈ (List.range (n - 1)).map (fun s => (s, s + 1)) := by rw [← qD]; exact List.mem_map_of_mem hm
      obtain ⟨s, hs, e⟩ := List.mem_map.mp this
      have := List.mem_range.mp hs
      rw [← e]
      exact ⟨by show s < n; omega, by show s + 1 < n; omega⟩
abbrev s_up_sets : Stmt := top 17
theorem sc_up_sets : FnScope ["order", "states"] ["order"] (defScope s_up_sets) := ⟨rfl, rfl, rfl, by decide +kernel, rfl, by decide +kernel, by decide +kernel⟩
theorem ok_up_sets {f : Addr} {fd : FuncData} (F : Fun K "up_sets" "up_sets" s_up_sets f fd) (T : OrT K mg C) (c_subsets : Cal P w K mg base 1 "subsets" ["many"] (spSubs K)) (c_is_up : Cal P w K mg base 2 "is_up" ["order", "states"] (spIsUp K C)) : FnOk P w K mg base CX0 3 f fd ["order"] (spUps K C) := by
  refine F.ok sc_up_sets (fun vs H Q E h => ?_) (fun cdv A outer s H vs Q E hr h => ?_)
  · obtain ⟨o, n, low, rfl, _⟩ := h
    rfl
  · obtain ⟨o, n, low, rfl, ho, n8, hlen, k⟩ := h
    have hu := un65 hr
    refine ⟨_, (pss_one (ps_ret (pe_callB (cr_sortUp (by exact un2 hr)) (by rfl) T.bn.n_sorted PyProof.Rows.boot_sorted (pa_cons (pe_lc (own := [("states", 1)]) rfl sc_up_sets.nd (pi_list (pe_cal c_subsets (hr.mono (by decide)) rfl (pa_cons (pe_fld (pv 0) rfl) pa_nil))) (blkOk_by (N := ["order", "states"]) (sc := defScope s_up_sets) (by decide +kernel))
      (fun _ _ _ _ _ => (pg_name (i := 1) sc_up_sets.nd rfl (Or.inl rfl))) (fun _ _ _ _ _ => (pts_one (pt_val (pe_cal c_is_up (hr.mono (by decide)) rfl (pa_cons (pv 0) (pa_cons (pv 1) pa_nil)))))) (fun _ _ _ _ _ => (pv 1))) pa_nil)))), ?_⟩
    obtain ⟨dx, L, ts0, h1, h2, h3, h4⟩ := id ho
    refine ⟨_, rfl, o, C, dx, _, _, rfl, h1, T.cl, T.nS, ordF_size _ _, n, rfl, n8, fun l ts H1 s1 el pt qt => ?_⟩
    have lts : ts.length = (subs n).length := by
      have := congrArg List.length qt
      rw [List.length_map, List.length_map] at this
      exact this
    have l256 : (subs n).length ≤ 256 := by rw [subs_len]; exact pow_le8 n8
    refine ⟨l, rfl, ⟨_, SqL.of el⟩, fun D nD => ?_⟩
    refine lc_list (K := K) (a := l) (xs := rfs ts) (fun i H' => Same H1 H' ∧ ∃ us : List Tt, H' D = some (.lst (rfs us)) ∧ Tups K H' us ∧ us.map (·.2) = (((subs n).take i).filter (upB low)).map iN ∧ us.length ≤ i) ⟨Same.put nD, [], upd_same, fun _ m => (by cases m), rfl, Nat.le_refl _⟩ (fun i H' _ h => SqL.of (h.1 _ _ el)) ?_ ?_
    · rintro i x H' hx ⟨s2, us, eD, pD, qD, lD⟩
      obtain ⟨t, ht, hm, rfl⟩ := rfs_at hx
      have il : i < 256 := by
        have := (List.getElem?_eq_some_iff.mp ht).1
        omega
      have i0 : ((subs n).map iN)[i]? = some t.2 := by rw [← qt, List.getElem?_map, ht]; rfl
      obtain ⟨x, hx2, hx3⟩ : ∃ x, (subs n)[i]? = some x ∧ iN x = t.2 := by
        rw [List.getElem?_map] at i0
        cases e : (subs n)[i]? with
        | none => rw [e] at i0; cases i0
        | some x => rw [e] at i0; exact ⟨x, rfl, Option.some.inj i0⟩
      have htt := SqT.up (pt t hm) s2
      refine ⟨rfl, _, rfl, _, rfl, o, t.1, n, low, x, rfl, (ho.same s1).same s2, hlen, by rw [hx3]; exact htt, fun H3 s3 => ⟨_, rfl, iteB (fun z => ?_) (fun z => ?_)⟩⟩
      · refine ⟨_, rfl, rfs us, s3 _ _ eD, by rw [rfs_len]; exact small_len (by omega), Same.but (fun b u e => s3 _ _ (s2 _ _ e)) nD, us ++ [t], ?_, ?_, ?_, ?_⟩
        · rw [upd_same, rfs_snoc]
        · exact Tups.lst ((pD.same s3).app (Tups.one (SqT.up htt s3))) (s3 _ _ eD)
        · rw [List.map_append, qD, take_more hx2, List.filter_append, List.filter_cons, z, List.map_append]
          simp [hx3]
        · rw [List.length_append]
          show us.length + 1 ≤ i + 1
          omega
      · refine ⟨s2.trans s3, us, s3 _ _ eD, pD.same s3, ?_, by omega⟩
        rw [qD, take_more hx2, List.filter_append, List.filter_cons, z]
        simp
    · rintro H2 ⟨s2, us, eD, pD, qD, lD⟩
      rw [rfs_len, lts, List.take_length] at qD
      have nilm : [] ∈ us.map (·.2) := by
        rw [qD]
        exact List.mem_map.mpr ⟨[], List.mem_filter.mpr ⟨nil_subs n, upB_iff.mpr fun p _ h => by cases h⟩, rfl⟩
      obtain ⟨t0, hm0, e0⟩ := List.mem_map.mp nilm
      refine ⟨D, us, rfl, SqL.of eD, pD, ⟨t0, hm0, e0⟩, fun ys p pm srt np => ?_⟩
      refine k p ys _ ((s1.trans s2).trans (Same.put np)) ((s1.trans s2).free np) upd_same (fun u hu => SqT.up (pD u (pm.mem_iff.mp hu)) (Same.put np)) srt ?_
      rw [← qD]
      exact pm.map _
end
end K5

set_option Elab.async false
set_option linter.all false
set_option maxRecDepth 100000
set_option maxHeartbeats 4000000
namespace L2
open PySem PySem.Spec PyProof.Rows
/-- // by any divisor but 0 below 2 ^ 9000 -/
def CDivG (_ j : Int) : Prop := j ≠ 0 ∧ j.natAbs.log2 < 9000
theorem op_fdivG {X : Cx} : OpR X (binaryOp .FloorDiv) (rI CDivG fun i j => .int (i.fdiv j)) := opI fun _ _ _ _ _ _ _ hc q => floordiv_int hc.1 q (.inl (PyProof.noPylong_of_log2 hc.2))
end L2
namespace K5
open PySem L2
abbrev cV (l : List Nat) : List V := l.map fun k : Nat => V.int (k : Int)
theorem cV_at {l : List Nat} {i : Nat} {x : Nat} (h : l[i]? = some x) : (cV l)[i]? = some (V.int (x : Int)) := by rw [List.getElem?_map, h]; rfl
theorem cV_set (l : List Nat) (i x : Nat) : (cV l).set i (V.int (x : Int)) = cV (l.set i x) := by
  rw [cV, cV, List.map_set]
/-- two places exchanged -/
theorem swap_perm {l : List Nat} {i j a b : Nat} (hi : l[i]? = some a) (hj : l[j]? = some b) : ((l.set i b).set j a).Perm l := by
  have li := (List.getElem?_eq_some_iff.mp hi).1
  have lj := (List.getElem?_eq_some_iff.mp hj).1
  rw [List.perm_iff_count]
  intro x
  have e1 : (l.set i b)[j]? = some (if i = j then b else b) := by
    rw [List.getElem?_set]
    by_cases e : i = j
    · rw [if_pos e, if_pos (by omega), if_pos e]
    · rw [if_neg e, hj, if_neg e]
  have e2 : j < (l.set i b).length := by rw [List.length_set]; exact lj
  have g1 : (l.set i b)[j] = b := by
    have := (List.getElem?_eq_some_iff.mp e1).2
    rw [this]
    split <;> rfl
  have g2 : l[i] = a := (List.getElem?_eq_some_iff.mp hi).2
  have g3 : l[j] = b := (List.getElem?_eq_some_iff.mp hj).2
  rw [List.count_set e2, List.count_set li, g1, g2]
  have m1 : l.count a ≥ 1 := List.one_le_count_iff.mpr (List.mem_of_getElem? hi)
  by_cases xa : a = x
  · subst xa
    by_cases xb : b = a
    · simp [xb]
      omega
    · simp [xb]
      omega
  · by_cases xb : b = x
    · subst xb
      simp [xa]
    · simp [xa, xb]
def spTurnAbout : Sp := fun vs H Q _ => ∃ (a l : Addr) (n : Nat), vs = [.ref a, .ref l] ∧ PoolAt H a ∧ n ≤ 8 ∧ H l = some (.lst (cV (List.range n))) ∧
  ∀ (r : Addr) (ns : List Nat) (H' : Hp), Keep a H H' → PoolAt H' a → r ≠ a → H' r = some (.lst (cV ns)) → ns.Perm (List.range n) → Q (.ref r) H'
def allPs (n : Nat) : List (Nat × Nat) := (List.range (n * n)).map fun k => (k / n, k % n)
def spLawPairs : Sp := fun vs H Q _ => ∃ n : Nat, vs = [.int (n : Int)] ∧ 1 ≤ n ∧ n ≤ 8 ∧ ∀ (l : Addr) (ts : List Pt) (H' : Hp), Same H H' → H' l = some (.lst (rfs ts)) → Pts H' ts → ts.map (·.2) = allPs n → Q (.ref l) H'
section
variable {P : Program} {w : World} {K : PySem.W.Frag} {mg : Str → Option Value} {base : Heap} {C : Addr}
abbrev s_turn : Stmt := top 24
theorem sc_turn : FnScope ["_law_pool_here", "_law_things", "_law_found", "_law_k", "_law_at", "_law_kept"] ["_law_pool_here", "_law_things"] (defScope s_turn) := ⟨rfl, rfl, rfl, by decide +kernel, rfl, by decide +kernel, by decide +kernel⟩
theorem ok_turn {f : Addr} {fd : FuncData} (F : Fun K "_law_turned_about" "_law_turned_about" s_turn f fd) (T : Bn mg) (c_draw : Cal P w K mg base 1 "_law_draw" ["_law_pool_here", "_law_many"] spDraw) : FnOk P w K mg base CX0 2 f fd ["_law_pool_here", "_law_things"] spTurnAbout := by
  refine F.ok sc_turn (fun vs H Q E h => ?_) (fun cdv A outer s H vs Q E hr h => ?_)
  · obtain ⟨a, l, n, rfl, _⟩ := h
    rfl
  · obtain ⟨a, l, n, rfl, hp, hn, el, k⟩ := h
    refine ⟨_, (pss_cons (ps_set (i := 2) sc_turn.nd rfl (Or.inl rfl) (pe_callTy call_list_of (by rfl) T.n_list (by decide +kernel) (pa_cons (pv 1) pa_nil)))
      (pss_cons (ps_for PassesOwn.never rfl (pi_range1 (by rfl) T.n_range (pa_cons (pe_callB call_len_seq (by rfl) T.n_len PySem.boot_len (pa_cons (pv 2) pa_nil)) pa_nil)) (pg_name (i := 3) sc_turn.nd rfl (Or.inl rfl))
        (pss_cons (ps_set (i := 4) sc_turn.nd rfl (Or.inl rfl) (pe_cal c_draw (hr.mono (by decide)) rfl (pa_cons (pv 0) (pa_cons (pe_callB call_len_seq (by rfl) T.n_len PySem.boot_len (pa_cons (pv 2) pa_nil)) pa_nil))))
          (pss_cons (ps_set (i := 5) sc_turn.nd rfl (Or.inl rfl) (pe_ix ix_list (pv 2) (pv 3) (fun _ _ => rfl)))
          (pss_cons (ps_asg (pe_ix ix_list (pv 2) (pv 4) (fun _ _ => rfl)) (pg_sub (pv 2) (pv 3) set_list))
          (pss_one (ps_asg (pv 5) (pg_sub (pv 2) (pv 4) set_list)))))))
      (pss_one (ps_ret (pv 2))))), ?_⟩
    refine ⟨_, rfl, l, _, rfl, .inl (SqL.of el), fun r nr => ?_⟩
    have s1 := Same.put (o := .lst (cV (List.range n))) nr
    have e1 : (upd H r (.lst (cV (List.range n)))) r = some (.lst (cV (List.range n))) := upd_same
    have p1 := hp.new (o := .lst (cV (List.range n))) nr
    have nra : r ≠ a := fun z => by
      obtain ⟨o, e, _⟩ := hp
      rw [z, e] at nr
      cases nr
    generalize (upd H r (.lst (cV (List.range n)))) = H1 at s1 e1 p1 ⊢
    have len0 : (cV (List.range n)).length = n := by rw [List.length_map, List.length_range]
    refine ⟨_, rfl, r, _, rfl, .inl (SqL.of e1), _, rfl, by rw [len0]; omega, by rw [len0]; omega, ?_⟩
    rw [len0, Int.toNat_natCast]
    refine for_range (fun i σ H' => ∃ v3 v4 v5 ns, σ = [some (.ref a), some (.ref l), some (.ref r), v3, v4, v5] ∧ Keep a H H' ∧ PoolAt H' a ∧ H' r = some (.lst (cV ns)) ∧ ns.Perm (List.range n)) ⟨none, none, none, List.range n, rfl, Keep.of s1, p1, e1, List.Perm.refl _⟩ ?_ ?_
    · rintro i σ H2 hi ⟨v3, v4, v5, ns, rfl, k2, p2, e2, pm⟩
      rw [Int.zero_add]
      have len : ns.length = n := by rw [pm.length_eq, List.length_range]
      have lenV : (cV ns).length = n := by rw [List.length_map, len]
      refine ⟨_, rfl, _, rfl, r, _, rfl, .inl (SqL.of e2), a, _, rfl, p2, by rw [lenV]; omega, ?_, fun x o x0 x1 ho => ?_⟩
      · exact log_small (b := 10) (by rw [lenV]; show ((n : Int)).natAbs < 2 ^ 10; omega) (by decide) (by decide)
      rw [lenV] at x1
      have e3 : (upd H2 a o) r = some (.lst (cV ns)) := by rw [upd_ne nra]; exact e2
      have k3 := k2.trans (Keep.put (H := H2) o)
      have p3 : PoolAt (upd H2 a o) a := .put ho
      generalize (upd H2 a o) = H3 at e3 k3 p3 ⊢
      obtain ⟨j, rfl⟩ : ∃ j : Nat, x = (j : Int) := ⟨x.toNat, by omega⟩
      have hj : j < n := by omega
      have gi : ns[i]? = some ns[i] := List.getElem?_eq_getElem (by omega)
      have gj : ns[j]? = some ns[j] := List.getElem?_eq_getElem (by omega)
      have ix : ∀ {q : Nat}, q < n → ixN n (q : Int) = some q := fun {q} hq => by
        unfold ixN
        rw [if_pos (by omega), if_pos (by omega)]
        rfl
      refine ⟨_, rfl, _, rfl, r, _, _, _, rfl, rfl, SqL.of e3, atI_nat (cV_at gi), ?_⟩
      refine ⟨_, rfl, _, rfl, r, _, _, _, rfl, rfl, SqL.of e3, atI_nat (cV_at gj), ?_⟩
      refine ⟨_, rfl, _, rfl, r, _, _, i, rfl, rfl, e3, by rw [lenV]; exact ix hi, ?_⟩
      rw [cV_set]
      have e4 : (upd H3 r (.lst (cV (ns.set i ns[j])))) r = some (.lst (cV (ns.set i ns[j]))) := upd_same
      have len4 : (cV (ns.set i ns[j])).length = n := by rw [List.length_map, List.length_set, len]
      refine ⟨_, rfl, _, rfl, _, rfl, r, _, _, j, rfl, rfl, e4, by rw [len4]; exact ix hj, ?_⟩
      rw [cV_set, upd_upd]
      refine ⟨_, _, _, _, rfl, fun b u e ne => ?_, ?_, upd_same, (swap_perm gi gj).trans pm⟩
      · have nb : b ≠ r := ne_of_none e nr
        rw [upd_ne nb]
        exact k3 b u e ne
      · obtain ⟨u, e, q⟩ := p3
        exact ⟨u, by rw [upd_ne (Ne.symm nra)]; exact e, q⟩
    · rintro σ H2 ⟨v3, v4, v5, ns, rfl, k2, p2, e2, pm⟩
      exact ⟨_, rfl, k r ns H2 k2 p2 nra e2 pm⟩
abbrev s_lpairs : Stmt := top 25
theorem sc_lpairs : FnScope ["_law_size", "_law_k"] ["_law_size"] (defScope s_lpairs) := ⟨rfl, rfl, rfl, by decide +kernel, rfl, by decide +kernel, by decide +kernel⟩
theorem ok_lpairs {f : Addr} {fd : FuncData} (F : Fun K "_law_pairs" "_law_pairs" s_lpairs f fd) (T : Bn mg) : FnOk P w K mg base CX0 1 f fd ["_law_size"] spLawPairs := by
  refine F.ok sc_lpairs (fun vs H Q E h => ?_) (fun cdv A outer s H vs Q E hr h => ?_)
  · obtain ⟨n, rfl, _⟩ := h
    rfl
  · obtain ⟨n, rfl, n1, n8, k⟩ := h
    refine ⟨_, (pss_one (ps_ret (pe_lc (own := [("_law_k", 1)]) rfl sc_lpairs.nd (pi_range1 (by rfl) T.n_range (pa_cons (pe_op op_mul (pv 0) (pv 0)) pa_nil)) (blkOk_by (N := ["_law_size", "_law_k"]) (sc := defScope s_lpairs) (by decide +kernel)) (fun _ _ _ _ _ => (pg_name (i := 1) sc_lpairs.nd rfl (Or.inl rfl))) (fun _ _ _ _ _ => pts_nil)
      (fun _ _ _ _ _ => (pe_tup (pa_cons (pe_op op_fdivG (pv 1) (pv 0)) (pa_cons (pe_op op_modN (pe_callTy call_int1 (by rfl) T.n_int (by decide +kernel) (pa_cons (pv 1) pa_nil)) (pv 0)) pa_nil))))))), ?_⟩
    have nn : n * n ≤ 64 := Nat.mul_le_mul n8 n8
    have ez : ((n : Int) * (n : Int)) = ((n * n : Nat) : Int) := by rw [Int.natCast_mul]
    refine ⟨_, rfl, _, rfl, _, _, rfl, rfl, .inl ⟨by omega, by omega⟩, _, rfl, by rw [ez]; omega, by rw [ez]; omega, fun D nD => ?_⟩
    rw [ez, Int.toNat_natCast]
    refine lc_range (fun i H' => Same H H' ∧ ∃ us : List Pt, H' D = some (.lst (rfs us)) ∧ Pts H' us ∧ us.map (·.2) = (List.range i).map (fun k => (k / n, k % n)) ∧ us.length = i) ⟨Same.put nD, [], upd_same, fun _ m => (by cases m), rfl, rfl⟩ ?_ ?_
    · rintro i H' hi ⟨s1, us, eD, pD, qD, lD⟩
      rw [Int.zero_add]
      refine ⟨rfl, yes_of ?_⟩
      have lg : ((n : Int)).natAbs.log2 < 9000 := log_small (b := 10) (by show ((n : Int)).natAbs < 2 ^ 10; omega) (by decide) (by decide)
      refine ⟨_, rfl, _, rfl, (i : Int), (n : Int), rfl, rfl, ⟨by omega, lg⟩, _, rfl, .inl ⟨(i : Int), rfl, _, rfl, (i : Int), (n : Int), rfl, rfl, by omega, by show 2 ≤ sizeLine; decide, fun c nc => ?_⟩⟩
      have d1 : (i : Int).fdiv (n : Int) = ((i / n : Nat) : Int) := by rw [Int.fdiv_eq_ediv_of_nonneg _ (by omega)]; rfl
      have d2 : (i : Int).fmod (n : Int) = ((i % n : Nat) : Int) := by rw [Int.fmod_eq_emod_of_nonneg _ (by omega)]; rfl
      dsimp only
      rw [d1, d2]
      refine ⟨rfs us, Same.put nc _ _ eD, by rw [rfs_len]; exact small_len (by omega), Same.but (fun b u e => Same.put nc _ _ (s1 _ _ e)) nD, us ++ [(c, i / n, i % n)], ?_, ?_, ?_, ?_⟩
      · rw [upd_same, rfs_snoc]
      · refine Pts.snoc (fun u m => ?_) ?_
        · have nu : u.1 ≠ D := fun q => by
            have := pD u m
            rw [q, eD] at this
            cases this
          rw [upd_ne nu]
          exact Same.put nc _ _ (pD u m)
        · have ncD : c ≠ D := fun q => by
            rw [q, eD] at nc
            cases nc
          show upd _ D _ c = _
          rw [upd_ne ncD, upd_same]
      · rw [List.map_append, qD, List.range_succ, List.map_append]
        rfl
      · rw [List.length_append, lD]
        rfl
    · rintro H1 ⟨s1, us, eD, pD, qD, lD⟩
      exact k D us H1 s1 eD pD qD
end
end K5

set_option Elab.async false
set_option linter.all false
set_option maxRecDepth 100000
set_option maxHeartbeats 4000000
namespace K5
open PySem L2
theorem Pts.pool {H : Hp} {a : Addr} {ts : List Pt} {o : HO} (h : Pts H ts) (p : PoolAt H a) : Pts (upd H a o) ts := fun t m => by
  rw [upd_ne (p.ne (h t m))]
  exact h t m
theorem Pts.lstU {H : Hp} {D : Addr} {ys : List V} {ts : List Pt} {o : HO} (h : Pts H ts) (e : H D = some (.lst ys)) : Pts (upd H D o) ts := fun t m => by
  have q := h t m
  rw [upd_ne (fun z => by rw [z, e] at q; cases q)]
  exact q
theorem PoolAt.neR {α : Type} {H : Hp} {a b : Addr} {ts : List (Addr × α)} (h : PoolAt H a) (e : H b = some (.lst (rfs ts))) : b ≠ a := fun z => by
  obtain ⟨u, e2, n, g, q, _⟩ := h
  rw [z, e2, q] at e
  cases ts with
  | nil => cases e
  | cons t ts => cases e
/-- where a name stands -/
theorem pos_of {ns : List Nat} (nd : ns.Nodup) : ∃ pos : Nat → Nat, ∀ i x, ns[i]? = some x → pos x = i := by
  refine ⟨fun x => ns.idxOf x, fun i x h => ?_⟩
  obtain ⟨hi, e⟩ := List.getElem?_eq_some_iff.mp h
  rw [← e]
  exact nd.idxOf_getElem i hi
def Up (us : List Pt) : Prop := ∀ t ∈ us, t.2.1 < t.2.2
theorem Up.snoc {us : List Pt} {t : Pt} (h : Up us) (e : t.2.1 < t.2.2) : Up (us ++ [t]) := fun u m => by
  rcases List.mem_append.mp m with m | m
  · exact h u m
  · rw [List.mem_singleton.mp m]; exact e
def spOrdPs : Sp := fun vs H Q _ => ∃ (a : Addr) (n : Nat), vs = [.ref a, .int (n : Int)] ∧ PoolAt H a ∧ 1 ≤ n ∧ n ≤ 8 ∧
  ∀ (l : Addr) (ts : List Pt) (H' : Hp), Keep a H H' → PoolAt H' a → H' l = some (.lst (rfs ts)) → Pts H' ts → ts.length ≤ 64 → (∀ t ∈ ts, t.2.1 < n ∧ t.2.2 < n) → (∃ pos : Nat → Nat, ∀ t ∈ ts, pos t.2.1 < pos t.2.2) → Q (.ref l) H'
section
variable {P : Program} {w : World} {K : PySem.W.Frag} {mg : Str → Option Value} {base : Heap} {C : Addr}
abbrev s_ordps : Stmt := top 26
abbrev nOP : List Str := ["_law_pool_here", "_law_size", "_law_names", "_law_way", "_law_pairs_here", "_law_j", "_law_k"]
theorem sc_ordps : FnScope nOP ["_law_pool_here", "_law_size"] (defScope s_ordps) := ⟨rfl, rfl, rfl, by decide +kernel, rfl, by decide +kernel, by decide +kernel⟩
theorem ok_ordps {f : Addr} {fd : FuncData} (F : Fun K "_law_order_pairs" "_law_order_pairs" s_ordps f fd) (T : Bn mg) (c_draw : Cal P w K mg base 1 "_law_draw" ["_law_pool_here", "_law_many"] spDraw) (c_turn : Cal P w K mg base 2 "_law_turned_about" ["_law_pool_here", "_law_things"] spTurnAbout)
    (c_lp : Cal P w K mg base 1 "_law_pairs" ["_law_size"] spLawPairs) : FnOk P w K mg base CX0 3 f fd ["_law_pool_here", "_law_size"] spOrdPs := by
  refine F.ok sc_ordps (fun vs H Q E h => ?_) (fun cdv A outer s H vs Q E hr h => ?_)
  · obtain ⟨a, n, rfl, _⟩ := h
    rfl
  · obtain ⟨a, n, rfl, hp, n1, n8, k⟩ := h
    refine ⟨_, (pss_cons (ps_set (i := 2) sc_ordps.nd rfl (Or.inr rfl) (pe_cal c_turn (hr.mono (by decide)) rfl (pa_cons (pv 0) (pa_cons (pe_listRg rfl rfl T.n_list (prg_1 rfl T.n_range (pv 1))) pa_nil))))
      (pss_cons (ps_set (i := 3) sc_ordps.nd rfl (Or.inl rfl) (pe_cal c_draw (hr.mono (by decide)) rfl (pa_cons (pv 0) (pa_cons pe_int pa_nil))))
      (pss_cons (ps_set (i := 4) sc_ordps.nd rfl (Or.inl rfl) (pe_lst (pa_cons (pe_tup (pa_cons pe_int (pa_cons pe_int pa_nil))) (pa_cons (pe_tup (pa_cons pe_int (pa_cons pe_int pa_nil))) (pa_cons (pe_tup (pa_cons pe_int (pa_cons pe_int pa_nil))) (pa_cons (pe_tup (pa_cons pe_int (pa_cons pe_int pa_nil))) pa_nil))))))
      (pss_cons (ps_if (pt_cmpR op_eq (pv 3) pe_int (nomark _))
        (pss_one (ps_set (i := 4) sc_ordps.nd rfl (Or.inl rfl) (pe_lst pa_nil)))
        (pss_one (ps_if (pt_cmpR op_eq (pv 3) pe_int (nomark _))
            (pss_one (ps_setLc (i := 4) (own := [("_law_k", 6)]) rfl sc_ordps.nd rfl rfl (sw_true rfl rfl rfl (by decide +kernel)) (pi_range1 (by rfl) T.n_range (pa_cons (pe_op op_sub (pv 1) pe_int) pa_nil)) (blkOk_by (N := nOP) (sc := defScope s_ordps) (by decide +kernel)) (fun _ _ _ _ _ => (pg_name (i := 6) sc_ordps.nd rfl (Or.inl rfl))) (fun _ _ _ _ _ => pts_nil) (fun _ _ _ _ _ => (pe_tup (pa_cons (pv 6) (pa_cons (pe_op op_add (pv 6) pe_int) pa_nil))))))
            (pss_one (ps_if (pt_cmpR op_eq (pv 3) pe_int (nomark _))
                (pss_one (ps_setLc (i := 4) (own := [("_law_k", 6)]) rfl sc_ordps.nd rfl rfl (sw_true rfl rfl rfl (by decide +kernel)) (pi_range2 (by rfl) T.n_range (pa_cons pe_int (pa_cons (pv 1) pa_nil))) (blkOk_by (N := nOP) (sc := defScope s_ordps) (by decide +kernel)) (fun _ _ _ _ _ => (pg_name (i := 6) sc_ordps.nd rfl (Or.inl rfl))) (fun _ _ _ _ _ => pts_nil) (fun _ _ _ _ _ => (pe_tup (pa_cons pe_int (pa_cons (pv 6) pa_nil))))))
                (pss_one (ps_if (pt_cmpR op_gt (pv 3) pe_int (nomark _))
                    (pss_cons (ps_set (i := 4) sc_ordps.nd rfl (Or.inl rfl) (pe_lst pa_nil))
                      (pss_one (ps_for PassesOwn.never rfl (pi_list (pe_cal c_lp (hr.mono (by decide)) rfl (pa_cons (pv 1) pa_nil))) (pg_tup (by rfl) (pgs_cons (pg_name (i := 5) sc_ordps.nd rfl (Or.inl rfl)) (pgs_cons (pg_name (i := 6) sc_ordps.nd rfl (Or.inl rfl)) pgs_nil)))
                        (pss_one (ps_if (PW.pt (pw_and (pt_cmpR op_lt (pv 5) (pv 6) (nomark _)) (pw_and1 (pt_cmpR op_eq (pe_cal c_draw (hr.mono (by decide)) rfl (pa_cons (pv 0) (pa_cons pe_int pa_nil))) pe_int (nomark _)))))
                            (pss_one (ps_expr (pe_bm PySem.F.plainAttrs_list PySem.F.slot_list_append PySem.F.type_list_append mt_append (pv 4) (pa_cons (pe_tup (pa_cons (pv 5) (pa_cons (pv 6) pa_nil))) pa_nil))))
                            pss_nil)))))
                    pss_nil)))))))
      (pss_one (ps_ret (pe_lc (own := [("_law_j", 5), ("_law_k", 6)]) (g := gTup K 2 (gCons (gName 5) (gCons (gName 6) gNil))) rfl sc_ordps.nd (pi_list (pv 4)) (blkOk_by (N := nOP) (sc := defScope s_ordps) (by decide +kernel)) (fun _ _ _ _ _ => (pg_tup (by rfl) (pgs_cons (pg_name (i := 5) sc_ordps.nd rfl (Or.inl rfl)) (pgs_cons (pg_name (i := 6) sc_ordps.nd rfl (Or.inl rfl)) pgs_nil)))) (fun _ _ _ _ _ => (pts_one (pt_cmpR op_lt (pv 6) (pv 1) (nomark _))))
        (fun _ _ _ _ _ => (pe_tup (pa_cons (pe_ix (show IxR _ (rIxL K) from ix_list) (pv 2) (pv 5) (fun _ _ => rfl)) (pa_cons (pe_ix (show IxR _ (rIxL K) from ix_list) (pv 2) (pv 6) (fun _ _ => rfl)) pa_nil))))))))))), ?_⟩
    refine ⟨_, rfl, _, rfl, (n : Int), rfl, .of_le (by omega) (by omega) (by omega) (by omega), fun l0 n0 => ?_⟩
    have erg : rgV 0 (n : Int) = cV (List.range n) := by
      unfold rgV
      rw [show ((n : Int) - 0).toNat = n by omega, cV]
      exact List.map_congr_left fun i _ => by rw [Int.zero_add]
    rw [erg]
    refine ⟨a, l0, n, rfl, hp.new n0, n8, upd_same, fun nl ns H1 k1 p1 nla e1 pm => ?_⟩
    have k1 : Keep a H H1 := (Keep.of (Same.put n0)).trans k1
    have nd : ns.Nodup := pm.nodup_iff.mpr List.nodup_range
    have lns : ns.length = n := by rw [pm.length_eq, List.length_range]
    obtain ⟨pos, hpos⟩ := pos_of nd
    -- the end
    have last : ∀ (G : Addr) (us : List Pt) (v3 v5 v6 : Option V) (H2 : Hp), Keep a H H2 → PoolAt H2 a → H2 nl = some (.lst (cV ns)) → H2 G = some (.lst (rfs us)) → Pts H2 us → Up us → us.length ≤ 64 →
        (tRet (tLc (iList K (tVar 4)) (gTup K 2 (gCons (gName 5) (gCons (gName 6) gNil))) (tTest (tOp (rI0 fun i j => V.bl (decide (i < j))) (tVar 6) (tVar 1))) (tTup (tCons (tOp (rIxL K) (tVar 2) (tVar 5)) (tCons (tOp (rIxL K) (tVar 2) (tVar 6)) tNil))) [5, 6])) { nx := fun _ H' => Q .non H', rt := Q } [some (.ref a), some (.int (n : Int)), some (.ref nl), v3, some (.ref G), v5, v6] H2 := by
      intro G us v3 v5 v6 H2 k2 p2 e2 eG pG uG lG
      refine ⟨_, rfl, G, rfl, ⟨_, SqL.of eG⟩, fun D nD => ?_⟩
      refine lc_list (K := K) (a := G) (xs := rfs us) (fun i H' => Same H2 H' ∧ ∃ ts : List Pt, H' D = some (.lst (rfs ts)) ∧ Pts H' ts ∧ ts.length ≤ i ∧ ∀ t ∈ ts, ∃ j k : Nat, j < k ∧ ns[j]? = some t.2.1 ∧ ns[k]? = some t.2.2) ⟨Same.put nD, [], upd_same, fun _ m => (by cases m), Nat.le_refl _, fun _ m => (by cases m)⟩ (fun i H' _ h => SqL.of (h.1 _ _ eG)) ?_ ?_
      · rintro i x H' hx ⟨s3, ts, eD, pD, lD, aD⟩
        obtain ⟨t, ht, hm, rfl⟩ := rfs_at hx
        have il : i < 64 := by
          have := (List.getElem?_eq_some_iff.mp ht).1
          omega
        have up := uG t hm
        refine ⟨t.1, prV t.2, rfl, SqT.of (s3 _ _ (pG t hm)), rfl, _, _, rfl, _, _, rfl, rfl, rfl, ?_⟩
        refine ⟨_, rfl, _, rfl, _, _, rfl, rfl, _, rfl, iteB (fun z => ?_) (fun z => ?_)⟩
        · have zl : t.2.2 < n := by
            have := of_decide_eq_true z
            omega
          have gj : ns[t.2.1]? = some ns[t.2.1] := List.getElem?_eq_getElem (by omega)
          have gk : ns[t.2.2]? = some ns[t.2.2] := List.getElem?_eq_getElem (by omega)
          have e3 := s3 _ _ e2
          refine ⟨_, rfl, _, rfl, nl, _, _, _, rfl, rfl, SqL.of e3, atI_nat (cV_at gj), ?_⟩
          refine ⟨_, rfl, _, rfl, nl, _, _, _, rfl, rfl, SqL.of e3, atI_nat (cV_at gk), by show 2 ≤ sizeLine; decide, fun c nc => ?_⟩
          refine ⟨rfs ts, Same.put nc _ _ eD, by rw [rfs_len]; exact small_len (by omega), Same.but (fun b u e => Same.put nc _ _ (s3 _ _ e)) nD, ts ++ [(c, ns[t.2.1], ns[t.2.2])], ?_, ?_, ?_, ?_⟩
          · rw [upd_same, rfs_snoc]
          · refine Pts.snoc (fun u m => ?_) ?_
            · have nu : u.1 ≠ D := fun q => by
                have := pD u m
                rw [q, eD] at this
                cases this
              rw [upd_ne nu]
              exact Same.put nc _ _ (pD u m)
            · have ncD : c ≠ D := fun q => by
                rw [q, eD] at nc
                cases nc
              show upd _ D _ c = _
              rw [upd_ne ncD, upd_same]
          · rw [List.length_append]
            show ts.length + 1 ≤ i + 1
            omega
          · intro u m
            rcases List.mem_append.mp m with m | m
            · exact aD u m
            · rw [List.mem_singleton.mp m]
              exact ⟨t.2.1, t.2.2, up, gj, gk⟩
        · exact ⟨s3, ts, eD, pD, by omega, aD⟩
      · rintro H3 ⟨s3, ts, eD, pD, lD, aD⟩
        rw [rfs_len] at lD
        refine k D ts H3 (k2.trans (Keep.of s3)) (p2.same s3) eD pD (by omega) (fun t m => ?_) ⟨pos, fun t m => ?_⟩
        · obtain ⟨j, q, _, h1, h2⟩ := aD t m
          exact ⟨List.mem_range.mp (pm.mem_iff.mp (List.mem_of_getElem? h1)), List.mem_range.mp (pm.mem_iff.mp (List.mem_of_getElem? h2))⟩
        · obtain ⟨j, q, lt, h1, h2⟩ := aD t m
          rw [hpos j _ h1, hpos q _ h2]
          exact lt
    refine ⟨_, rfl, a, 8, rfl, p1, by decide, by decide, fun x o x0 x1 ho => ?_⟩
    have k2 := k1.trans (Keep.put (H := H1) o)
    have p2 : PoolAt (upd H1 a o) a := .put ho
    have e2 : (upd H1 a o) nl = some (.lst (cV ns)) := by rw [upd_ne nla]; exact e1
    generalize (upd H1 a o) = H2 at k2 p2 e2 ⊢
    refine ⟨by show 2 ≤ sizeLine; decide, fun c1 m1 => ⟨by show 2 ≤ sizeLine; decide, fun c2 m2 => ⟨by show 2 ≤ sizeLine; decide, fun c3 m3 => ⟨by show 2 ≤ sizeLine; decide, fun c4 m4 => ⟨by show 4 ≤ sizeLine; decide, fun G m5 => ?_⟩⟩⟩⟩⟩
    have s1 := Same.put (o := .tup [.int 0, .int 1]) m1
    have g1 : (upd H2 c1 (.tup [.int 0, .int 1])) c1 = some (.tup (prV (0, 1))) := upd_same
    generalize (upd H2 c1 (.tup [.int 0, .int 1])) = A1 at s1 g1 m2 m3 m4 m5 ⊢
    have s2 := Same.put (o := .tup [.int 0, .int 2]) m2
    have g2 : (upd A1 c2 (.tup [.int 0, .int 2])) c2 = some (.tup (prV (0, 2))) := upd_same
    generalize (upd A1 c2 (.tup [.int 0, .int 2])) = A2 at s2 g2 m3 m4 m5 ⊢
    have s3 := Same.put (o := .tup [.int 1, .int 3]) m3
    have g3 : (upd A2 c3 (.tup [.int 1, .int 3])) c3 = some (.tup (prV (1, 3))) := upd_same
    generalize (upd A2 c3 (.tup [.int 1, .int 3])) = A3 at s3 g3 m4 m5 ⊢
    have s4 := Same.put (o := .tup [.int 2, .int 3]) m4
    have g4 : (upd A3 c4 (.tup [.int 2, .int 3])) c4 = some (.tup (prV (2, 3))) := upd_same
    generalize (upd A3 c4 (.tup [.int 2, .int 3])) = A4 at s4 g4 m5 ⊢
    have s5 := Same.put (o := .lst [.ref c1, .ref c2, .ref c3, .ref c4]) m5
    have g5 : (upd A4 G (.lst [.ref c1, .ref c2, .ref c3, .ref c4])) G = some (.lst (rfs [((c1, 0, 1) : Pt), (c2, 0, 2), (c3, 1, 3), (c4, 2, 3)])) := upd_same
    generalize (upd A4 G (.lst [.ref c1, .ref c2, .ref c3, .ref c4])) = A5 at s5 g5 ⊢
    have sA : Same H2 A5 := (((s1.trans s2).trans s3).trans s4).trans s5
    have pA : Pts A5 [((c1, 0, 1) : Pt), (c2, 0, 2), (c3, 1, 3), (c4, 2, 3)] := fun t m => by
      simp only [List.mem_cons, List.not_mem_nil, or_false] at m
      rcases m with rfl | rfl | rfl | rfl
      · exact (((s2.trans s3).trans s4).trans s5) _ _ g1
      · exact ((s3.trans s4).trans s5) _ _ g2
      · exact (s4.trans s5) _ _ g3
      · exact s5 _ _ g4
    have uA : Up [((c1, 0, 1) : Pt), (c2, 0, 2), (c3, 1, 3), (c4, 2, 3)] := fun t m => by
      simp only [List.mem_cons, List.not_mem_nil, or_false] at m
      rcases m with rfl | rfl | rfl | rfl
      · show 0 < 1; decide
      · show 0 < 2; decide
      · show 1 < 3; decide
      · show 2 < 3; decide
    have k5 := k2.trans (Keep.of sA)
    have p5 := p2.same sA
    have e5 := sA _ _ e2
    clear s1 s2 s3 s4 s5 g1 g2 g3 g4 m1 m2 m3 m4 m5 sA k1 k2 p1 p2 e1 e2
    refine ⟨_, rfl, rfl, _, rfl, ite2 (fun _ => ?_) (fun _ => ?_)⟩
    · refine ⟨Nat.zero_le _, fun G2 m6 => ?_⟩
      exact last G2 [] _ _ _ _ (k5.trans (Keep.of (Same.put m6))) (p5.new m6) (Same.put m6 _ _ e5) upd_same (fun _ m => by cases m) (fun _ m => by cases m) (Nat.zero_le _)
    refine ⟨_, rfl, rfl, _, rfl, ite2 (fun _ => ?_) (fun _ => ?_)⟩
    · refine ⟨_, rfl, _, _, rfl, rfl, _, rfl, by omega, by omega, fun D nD => ?_⟩
      rw [show ((n : Int) - 1).toNat = n - 1 by omega]
      refine lc_range (fun i H' => Same A5 H' ∧ ∃ us : List Pt, H' D = some (.lst (rfs us)) ∧ Pts H' us ∧ Up us ∧ us.length = i) ⟨Same.put nD, [], upd_same, fun _ m => (by cases m), fun _ m => (by cases m), rfl⟩ ?_ ?_
      · rintro i H' hi ⟨s1, us, eD, pD, uD, lD⟩
        rw [Int.zero_add]
        refine ⟨rfl, yes_of ?_⟩
        refine ⟨_, rfl, _, rfl, _, _, rfl, rfl, by show 2 ≤ sizeLine; decide, fun c nc => ?_⟩
        refine ⟨rfs us, Same.put nc _ _ eD, by rw [rfs_len]; exact small_len (by omega), Same.but (fun b u e => Same.put nc _ _ (s1 _ _ e)) nD, us ++ [(c, i, i + 1)], ?_, ?_, uD.snoc (Nat.lt_succ_self i), ?_⟩
        · rw [upd_same, rfs_snoc]
        · refine Pts.snoc (Pts.lstU (pD.same (Same.put nc)) (Same.put nc _ _ eD)) ?_
          have ncD : c ≠ D := fun q => by
            rw [q, eD] at nc
            cases nc
          show upd _ D _ c = _
          rw [upd_ne ncD, upd_same]
          rfl
        · rw [List.length_append, lD]
          rfl
      · rintro H3 ⟨s1, us, eD, pD, uD, lD⟩
        exact last D us _ _ _ _ (k5.trans (Keep.of s1)) (p5.same s1) (s1 _ _ e5) eD pD uD (by omega)
    refine ⟨_, rfl, rfl, _, rfl, ite2 (fun _ => ?_) (fun _ => ?_)⟩
    · refine ⟨_, rfl, _, _, rfl, ⟨by omega, by omega, by omega, by omega⟩, fun D nD => ?_⟩
      rw [show ((n : Int) - 1).toNat = n - 1 by omega]
      refine lc_range (fun i H' => Same A5 H' ∧ ∃ us : List Pt, H' D = some (.lst (rfs us)) ∧ Pts H' us ∧ Up us ∧ us.length = i) ⟨Same.put nD, [], upd_same, fun _ m => (by cases m), fun _ m => (by cases m), rfl⟩ ?_ ?_
      · rintro i H' hi ⟨s1, us, eD, pD, uD, lD⟩
        refine ⟨rfl, yes_of ?_⟩
        refine ⟨_, rfl, by show 2 ≤ sizeLine; decide, fun c nc => ?_⟩
        refine ⟨rfs us, Same.put nc _ _ eD, by rw [rfs_len]; exact small_len (by omega), Same.but (fun b u e => Same.put nc _ _ (s1 _ _ e)) nD, us ++ [(c, 0, i + 1)], ?_, ?_, uD.snoc (Nat.succ_pos i), ?_⟩
        · rw [upd_same, rfs_snoc]
        · refine Pts.snoc (Pts.lstU (pD.same (Same.put nc)) (Same.put nc _ _ eD)) ?_
          have ncD : c ≠ D := fun q => by
            rw [q, eD] at nc
            cases nc
          show upd _ D _ c = _
          rw [upd_ne ncD, upd_same, show (1 : Int) + (i : Int) = ((i + 1 : Nat) : Int) by omega]
          rfl
        · rw [List.length_append, lD]
          rfl
      · rintro H3 ⟨s1, us, eD, pD, uD, lD⟩
        exact last D us _ _ _ _ (k5.trans (Keep.of s1)) (p5.same s1) (s1 _ _ e5) eD pD uD (by omega)
    refine ⟨_, rfl, _, _, rfl, rfl, _, rfl, iteB (fun _ => ?_) (fun _ => ?_)⟩
    · refine ⟨Nat.zero_le _, fun G2 m6 => ?_⟩
      have kB := k5.trans (Keep.of (Same.put (o := .lst []) m6))
      have pB := p5.new (o := .lst []) m6
      have eB := Same.put (o := .lst []) m6 _ _ e5
      have gB : (upd A5 G2 (.lst [])) G2 = some (.lst (rfs ([] : List Pt))) := upd_same
      have nlG : nl ≠ G2 := ne_of_none e5 m6
      have nG2 : ∀ b u, H b = some u → b ≠ a → b ≠ G2 := fun b u e ne => ne_of_none (k5 b u e ne) m6
      have aG : G2 ≠ a := fun z => by
        obtain ⟨u, e, _⟩ := p5
        rw [z, e] at m6
        cases m6
      generalize (upd A5 G2 (.lst [])) = B0 at kB pB eB gB ⊢
      refine ⟨_, rfl, n, rfl, n1, n8, fun L ls B1 s1 eL pL qL => ?_⟩
      have lls : ls.length = n * n := by
        have := congrArg List.length qL
        rw [List.length_map, allPs, List.length_map, List.length_range] at this
        exact this
      have nn : n * n ≤ 64 := Nat.mul_le_mul n8 n8
      have LG : L ≠ G2 := fun z => by
        have := s1 _ _ gB
        rw [← z, eL] at this
        have e := HO.lst.inj (Option.some.inj this)
        have e2 := congrArg List.length e
        rw [rfs_len, rfs_len, lls] at e2
        have : 1 * 1 ≤ n * n := Nat.mul_le_mul n1 n1
        simp at e2
        omega
      have La : L ≠ a := (pB.same s1).neR eL
      refine ⟨L, rfl, ⟨_, SqL.of eL⟩, for_list (K := K) (a := L) (xs := rfs ls) (fun i σ H' => ∃ v5 v6 us, σ = [some (.ref a), some (.int (n : Int)), some (.ref nl), some (.int x), some (.ref G2), v5, v6] ∧ Keep a H H' ∧ PoolAt H' a ∧ H' nl = some (.lst (cV ns)) ∧ H' L = some (.lst (rfs ls)) ∧ Pts H' ls ∧ H' G2 = some (.lst (rfs us)) ∧ Pts H' us ∧ Up us ∧ us.length ≤ i)
        ⟨_, _, [], rfl, kB.trans (Keep.of s1), pB.same s1, s1 _ _ eB, eL, pL, s1 _ _ gB, fun _ m => (by cases m), fun _ m => (by cases m), Nat.le_refl _⟩ (fun i σ H' _ h => ?_) ?_ ?_⟩
      · obtain ⟨_, _, _, _, _, _, _, e, _⟩ := h
        exact SqL.of e
      · rintro i y σ B2 hy ⟨v5, v6, us, rfl, kC, pC, eC, eL2, pL2, gC, pU, uU, lU⟩
        obtain ⟨t, ht, hm, rfl⟩ := rfs_at hy
        have il : i < 64 := by
          have := (List.getElem?_eq_some_iff.mp ht).1
          omega
        refine ⟨t.1, prV t.2, rfl, SqT.of (pL2 t hm), rfl, _, _, rfl, _, _, rfl, rfl, ?_⟩
        refine ⟨_, rfl, _, rfl, _, _, rfl, rfl, _, rfl, iteB (fun z => ?_) (fun z => ?_)⟩
        · have up : t.2.1 < t.2.2 := by
            have := of_decide_eq_true z
            omega
          refine ⟨_, rfl, a, 2, rfl, pC, by decide, by decide, fun q o q0 q1 ho => ?_⟩
          have kD := kC.trans (Keep.put (H := B2) o)
          have pD : PoolAt (upd B2 a o) a := .put ho
          have eD : (upd B2 a o) nl = some (.lst (cV ns)) := by rw [upd_ne nla]; exact eC
          have eL3 : (upd B2 a o) L = some (.lst (rfs ls)) := by rw [upd_ne La]; exact eL2
          have pL3 := pL2.pool (o := o) pC
          have gD : (upd B2 a o) G2 = some (.lst (rfs us)) := by rw [upd_ne aG]; exact gC
          have pU3 := pU.pool (o := o) pC
          generalize (upd B2 a o) = B3 at kD pD eD eL3 pL3 gD pU3 ⊢
          refine ⟨rfl, _, rfl, ite2 (fun _ => ?_) (fun _ => ?_)⟩
          · refine ⟨_, rfl, .inl ⟨rfl, _, SqL.of gD⟩, _, rfl, _, rfl, by show 2 ≤ sizeLine; decide, fun c nc => ?_⟩
            have sC := Same.put (o := .tup [.int (t.2.1 : Int), .int (t.2.2 : Int)]) nc
            have cC : (upd B3 c (.tup [.int (t.2.1 : Int), .int (t.2.2 : Int)])) c = some (.tup (prV t.2)) := upd_same
            have pE := pD.new (o := .tup [.int (t.2.1 : Int), .int (t.2.2 : Int)]) nc
            generalize (upd B3 c (.tup [.int (t.2.1 : Int), .int (t.2.2 : Int)])) = B4 at sC cC pE ⊢
            refine ⟨G2, rfs us, _, rfl, rfl, sC _ _ gD, by rw [rfs_len]; exact small_len (by omega), ?_⟩
            have g4 := sC _ _ gD
            refine ⟨_, _, us ++ [(c, t.2)], rfl, ?_, ?_, ?_, ?_, (pL3.same sC).lstU g4, ?_, ?_, uU.snoc up, ?_⟩
            · intro b u e ne
              rw [upd_ne (nG2 b u e ne)]
              exact sC _ _ (kD b u e ne)
            · obtain ⟨u, e, q⟩ := pE
              exact ⟨u, by rw [upd_ne (Ne.symm aG)]; exact e, q⟩
            · rw [upd_ne nlG]; exact sC _ _ eD
            · rw [upd_ne LG]; exact sC _ _ eL3
            · rw [upd_same, rfs_snoc]
            · refine Pts.snoc ((pU3.same sC).lstU g4) ?_
              show upd _ G2 _ c = _
              rw [upd_ne (fun z => by rw [z, g4] at cC; cases cC)]
              exact cC
            · rw [List.length_append]
              show us.length + 1 ≤ i + 1
              omega
          · exact ⟨_, _, us, rfl, kD, pD, eD, eL3, pL3, gD, pU3, uU, by omega⟩
        · exact ⟨_, _, us, rfl, kC, pC, eC, eL2, pL2, gC, pU, uU, by omega⟩
      · rintro σ B2 ⟨v5, v6, us, rfl, kC, pC, eC, eL2, pL2, gC, pU, uU, lU⟩
        rw [rfs_len, lls] at lU
        exact last G2 us _ _ _ B2 kC pC eC gC pU uU (by omega)
    · exact last G _ _ _ _ _ k5 p5 e5 g5 pA uA (by show 4 ≤ 64; decide)
end
end K5

set_option Elab.async false
set_option linter.all false
set_option maxRecDepth 100000
set_option maxHeartbeats 4000000
namespace K5
open PySem L2
/-! ### rows of flags -/
def rowV (n : Nat) (f : Nat → Bool) : List V := (List.range n).map fun t => V.bl (f t)
theorem rowV_len (n : Nat) (f : Nat → Bool) : (rowV n f).length = n := by unfold rowV; rw [List.length_map, List.length_range]
theorem rowV_at {n : Nat} {f : Nat → Bool} {t : Nat} (h : t < n) : (rowV n f)[t]? = some (V.bl (f t)) := by
  unfold rowV
  rw [List.getElem?_map, List.getElem?_range h]
  rfl
theorem rowV_succ (n : Nat) (f : Nat → Bool) : rowV (n + 1) f = rowV n f ++ [V.bl (f n)] := by
  unfold rowV
  rw [List.range_succ, List.map_append]
  rfl
def Tab (H : Hp) (l : Addr) (n : Nat) (T : Rl) : Prop := ∃ rows : List Addr, H l = some (.lst (rows.map V.ref)) ∧ rows.length = n ∧ ∀ s a, rows[s]? = some a → H a = some (.lst (rowV n (T s)))
theorem Tab.same {H H' : Hp} {l : Addr} {n : Nat} {T : Rl} (h : Tab H l n T) (s : Same H H') : Tab H' l n T := by
  obtain ⟨rows, h1, h2, h3⟩ := h
  exact ⟨rows, s _ _ h1, h2, fun i a e => s _ _ (h3 i a e)⟩
theorem ref_at {rows : List Addr} {i : Nat} {x : V} (h : (rows.map V.ref)[i]? = some x) : ∃ a, rows[i]? = some a ∧ x = .ref a := by
  rw [List.getElem?_map] at h
  cases e : rows[i]? with
  | none => rw [e] at h; cases h
  | some a => rw [e] at h; exact ⟨a, rfl, (Option.some.inj h).symm⟩
def spFlags : Sp := fun vs H Q _ => ∃ (n : Nat) (l : Addr) (ts : List Pt) (s : Nat), vs = [.int (n : Int), .ref l, .int (s : Int)] ∧ n ≤ 8 ∧ H l = some (.lst (rfs ts)) ∧ Pts H ts ∧
  ∀ (r : Addr) (H' : Hp), Same H H' → H' r = some (.lst (rowV n (orEq (memR (ts.map (·.2))) s))) → Q (.ref r) H'
def spJoined : Sp := fun vs H Q _ => ∃ (tb r : Addr) (n via : Nat) (T : Rl) (f : Nat → Bool), vs = [.ref tb, .ref r, .int (via : Int)] ∧ n ≤ 8 ∧ via < n ∧ Tab H tb n T ∧ H r = some (.lst (rowV n f)) ∧
  ∀ (r' : Addr) (H' : Hp), Same H H' → H' r' = some (.lst (rowV n fun t => f t || (f via && T via t))) → Q (.ref r') H'
def spTable : Sp := fun vs H Q _ => ∃ (n : Nat) (l : Addr) (ts : List Pt), vs = [.int (n : Int), .ref l] ∧ n ≤ 8 ∧ H l = some (.lst (rfs ts)) ∧ Pts H ts ∧
  ∀ (tb : Addr) (H' : Hp), Same H H' → Tab H' tb n (wars (orEq (memR (ts.map (·.2)))) n) → Q (.ref tb) H'
def spMembers : Sp := fun vs H Q _ => ∃ m n : Nat, vs = [.int (m : Int), .int (n : Int)] ∧ n ≤ 8 ∧ ∀ (t : Addr) (H' : Hp), Same H H' → H' t = some (.tup ((iN (mems m n)).map V.int)) → Q (.ref t) H'
/-! ### rows as numbers -/
def wayN : Nat → (Nat → Bool) → Nat
  | 0, _ => 0
  | n + 1, f => wayN n f + (if f n = true then 2 ^ n else 0)
theorem wayN_lt (f : Nat → Bool) : ∀ n, wayN n f < 2 ^ n
  | 0 => Nat.zero_lt_one
  | n + 1 => by
    have := wayN_lt f n
    show wayN n f + (if f n = true then 2 ^ n else 0) < 2 ^ (n + 1)
    rw [Nat.pow_succ]
    split <;> omega
theorem wayN_bit (f : Nat → Bool) : ∀ n t, (wayN n f).testBit t = (decide (t < n) && f t)
  | 0, t => by
    show (0 : Nat).testBit t = _
    rw [Nat.zero_testBit]
    simp
  | n + 1, t => by
    have ih := wayN_bit f n
    show (wayN n f + (if f n = true then 2 ^ n else 0)).testBit t = _
    have hlt := wayN_lt f n
    cases hf : f n with
    | false =>
      rw [if_neg (by decide), Nat.add_zero, ih]
      by_cases e : t = n
      · rw [e, hf, Bool.and_false, Bool.and_false]
      · rw [show decide (t < n + 1) = decide (t < n) from decide_eq_decide.mpr (by omega)]
    | true =>
      rw [if_pos rfl, Nat.add_comm]
      by_cases e : t = n
      · rw [e, Nat.testBit_two_pow_add_eq, Nat.testBit_lt_two_pow hlt, hf, decide_eq_true (Nat.lt_succ_self n)]
        rfl
      · by_cases e2 : t < n
        · rw [Nat.testBit_two_pow_add_gt e2, ih, decide_eq_true e2, decide_eq_true (by omega : t < n + 1)]
        · have big : 2 ^ n + wayN n f < 2 ^ t := by
            have h1 : 2 ^ (n + 1) ≤ 2 ^ t := Nat.pow_le_pow_right (by decide) (by omega)
            rw [Nat.pow_succ] at h1
            omega
          rw [Nat.testBit_lt_two_pow big, decide_eq_false (by omega : ¬ t < n + 1)]
          rfl
theorem way_in {n m : Nat} {f : Nat → Bool} : decide (wayN n f &&& m = wayN n f) = (List.range n).all fun t => !f t || m.testBit t := by
  rw [Bool.eq_iff_iff, decide_eq_true_eq, List.all_eq_true]
  constructor
  · intro h t ht
    have hb := wayN_bit f n t
    rw [decide_eq_true (List.mem_range.mp ht), Bool.true_and] at hb
    cases e : f t with
    | false => rfl
    | true =>
      have h2 := congrArg (fun z => z.testBit t) h
      rw [Nat.testBit_and, hb, e, Bool.true_and] at h2
      rw [h2]
      rfl
  · intro h
    refine Nat.eq_of_testBit_eq fun t => ?_
    rw [Nat.testBit_and, wayN_bit]
    by_cases ht : t < n
    · have := h t (List.mem_range.mpr ht)
      cases e : f t with
      | false => simp
      | true =>
        rw [e] at this
        simp only [Bool.not_true, Bool.false_or] at this
        rw [this]
        simp
    · rw [decide_eq_false ht]
      rfl
/-- _law_is_up(mask, ways) -/
def spLawUp : Sp := fun vs H Q _ => ∃ (m : Nat) (wl : Addr) (n : Nat) (T : Rl), vs = [.int (m : Int), .ref wl] ∧ n ≤ 8 ∧ H wl = some (.lst ((List.range n).map fun s => V.int ((wayN n (T s) : Nat) : Int))) ∧ ∀ H', Same H H' → Q (.bl (maskB n T m)) H'
theorem bit_of (m k : Nat) : decide (V.int ((m / 2 ^ k % 2 : Nat) : Int) = V.int 1) = m.testBit k := by
  rw [Nat.testBit_eq_decide_div_mod_eq]
  refine decide_eq_decide.mpr ?_
  rw [V.int.injEq]
  omega
section
variable {P : Program} {w : World} {K : PySem.W.Frag} {mg : Str → Option Value} {base : Heap} {C : Addr}
abbrev s_flags : Stmt := top 27
theorem sc_flags : FnScope ["_law_size", "_law_pairs_here", "_law_s", "_law_t"] ["_law_size", "_law_pairs_here", "_law_s"] (defScope s_flags) := ⟨rfl, rfl, rfl, by decide +kernel, rfl, by decide +kernel, by decide +kernel⟩
theorem ok_flags {f : Addr} {fd : FuncData} (F : Fun K "_law_flags" "_law_flags" s_flags f fd) (T : Bn mg) : FnOk P w K mg base CX0 1 f fd ["_law_size", "_law_pairs_here", "_law_s"] spFlags := by
  refine F.ok sc_flags (fun vs H Q E h => ?_) (fun cdv A outer s H vs Q E hr h => ?_)
  · obtain ⟨n, l, ts, u, rfl, _⟩ := h
    rfl
  · obtain ⟨n, l, ts, u, rfl, n8, el, pt, k⟩ := h
    have hu := un65 hr
    refine ⟨_, (pss_one (ps_ret (pe_lc (own := [("_law_t", 3)]) rfl sc_flags.nd (pi_range1 (by rfl) T.n_range (pa_cons (pv 0) pa_nil)) (blkOk_by (N := ["_law_size", "_law_pairs_here", "_law_s", "_law_t"]) (sc := defScope s_flags) (by decide +kernel)) (fun _ _ _ _ _ => (pg_name (i := 3) sc_flags.nd rfl (Or.inl rfl))) (fun _ _ _ _ _ => pts_nil)
      (fun _ _ _ _ _ => (pe_or (pe_cmpR op_eq (pv 2) (pv 3) (nomark _)) (pe_one (pe_cmpR (show OpR _ _ (rInD K) from op_inD (by exact hu)) (pe_tup (pa_cons (pv 2) (pa_cons (pv 3) pa_nil))) (pv 1) (by rfl)))))))), ?_⟩
    refine ⟨_, rfl, _, rfl, by omega, by omega, fun D nD => ?_⟩
    rw [Int.toNat_natCast]
    refine lc_range (fun i H' => Same H H' ∧ H' D = some (.lst (rowV i (orEq (memR (ts.map (·.2))) u)))) ⟨Same.put nD, upd_same⟩ ?_ ?_
    · rintro i H' hi ⟨s1, eD⟩
      rw [Int.zero_add]
      refine ⟨rfl, yes_of ?_⟩
      have fin : ∀ (b : Bool) (H4 : Hp), b = orEq (memR (ts.map (·.2))) u i → Same H' H4 → ∃ acc, H4 D = some (.lst acc) ∧ acc.length < sizeLine ∧ Same H (upd H4 D (.lst (acc ++ [V.bl b]))) ∧ upd H4 D (.lst (acc ++ [V.bl b])) D = some (.lst (rowV (i + 1) (orEq (memR (ts.map (·.2))) u))) := fun b H4 hb s4 =>
        ⟨_, s4 _ _ eD, by rw [rowV_len]; exact small_len (by omega), Same.but (fun b u e => s4 _ _ (s1 _ _ e)) nD, by rw [upd_same, rowV_succ, hb]⟩
      refine ⟨_, rfl, _, rfl, rfl, _, rfl, iteB (fun z => ?_) (fun z => ?_)⟩
      · refine fin true H' ?_ (Same.refl H')
        have : u = i := by
          have := of_decide_eq_true z
          rw [V.int.injEq] at this
          omega
        exact (orEq_iff.mpr (.inl this)).symm
      · refine ⟨_, rfl, _, rfl, by show 2 ≤ sizeLine; decide, fun c nc => ?_⟩
        have sC := Same.put (o := .tup [.int (u : Int), .int (i : Int)]) nc
        have eC : (upd H' c (.tup [.int (u : Int), .int (i : Int)])) c = some (.tup ((pI (u, i)).map V.int)) := upd_same
        generalize (upd H' c (.tup [.int (u : Int), .int (i : Int)])) = H4 at sC eC ⊢
        refine ⟨_, rfl, dI (pI (u, i)), _, dp_tup (SqT.of eC), .lst (SqL.of (sC _ _ (s1 _ _ el))) (Pts.dp ((pt.same s1).same sC)), sh_dI _, sh_list _, ?_⟩
        rw [any_pI]
        refine fin _ H4 ?_ sC
        have ne : u ≠ i := fun e => by
          rw [e] at z
          simp at z
        unfold orEq memR
        rw [decide_eq_false ne, Bool.false_or]
    · rintro H1 ⟨s1, eD⟩
      exact k D H1 s1 eD
abbrev s_joined : Stmt := top 28
theorem sc_joined : FnScope ["_law_table_here", "_law_row", "_law_via", "_law_t"] ["_law_table_here", "_law_row", "_law_via"] (defScope s_joined) := ⟨rfl, rfl, rfl, by decide +kernel, rfl, by decide +kernel, by decide +kernel⟩
theorem ok_joined {f : Addr} {fd : FuncData} (F : Fun K "_law_joined" "_law_joined" s_joined f fd) (T : Bn mg) : FnOk P w K mg base CX0 1 f fd ["_law_table_here", "_law_row", "_law_via"] spJoined := by
  refine F.ok sc_joined (fun vs H Q E h => ?_) (fun cdv A outer s H vs Q E hr h => ?_)
  · obtain ⟨tb, r, n, via, R, g, rfl, _⟩ := h
    rfl
  · obtain ⟨tb, r, n, via, R, g, rfl, n8, hv, ht, er, k⟩ := h
    refine ⟨_, (pss_cons (ps_if (pt_not (pt_val (pe_ix ix_list (pv 1) (pv 2) (fun _ _ => rfl))))
        (pss_one (ps_ret (pv 1)))
        pss_nil)
      (pss_one (ps_ret (pe_lc (own := [("_law_t", 3)]) rfl sc_joined.nd (pi_range1 (by rfl) T.n_range (pa_cons (pe_callB call_len_seq (by rfl) T.n_len PySem.boot_len (pa_cons (pv 1) pa_nil)) pa_nil)) (blkOk_by (N := ["_law_table_here", "_law_row", "_law_via", "_law_t"]) (sc := defScope s_joined) (by decide +kernel)) (fun _ _ _ _ _ => (pg_name (i := 3) sc_joined.nd rfl (Or.inl rfl))) (fun _ _ _ _ _ => pts_nil)
        (fun _ _ _ _ _ => (pe_or (pe_ix (show IxR _ (rIxL K) from ix_list) (pv 1) (pv 3) (fun _ _ => rfl)) (pe_one (pe_ix (show IxR _ (rIxL K) from ix_list) (pe_ix (show IxR _ (rIxL K) from ix_list) (pv 0) (pv 2) (fun _ _ => rfl)) (pv 3) (fun _ _ => rfl))))))))), ?_⟩
    refine ⟨_, rfl, _, rfl, r, _, _, _, rfl, rfl, SqL.of er, atI_nat (rowV_at hv), _, rfl, ?_⟩
    cases hg : g via with
    | false =>
      refine iteT ⟨_, rfl, k r H (Same.refl H) ?_⟩
      rw [er]
      congr 2
      unfold rowV
      refine List.map_congr_left fun t _ => ?_
      simp [hg]
    | true =>
      refine iteF ⟨_, rfl, r, _, rfl, .inl (SqL.of er), _, rfl, by rw [rowV_len]; omega, by rw [rowV_len]; omega, fun D nD => ?_⟩
      rw [rowV_len, Int.toNat_natCast]
      obtain ⟨rows, h1, h2, h3⟩ := ht
      have hrow : rows[via]? = some rows[via] := List.getElem?_eq_getElem (by omega)
      refine lc_range (fun i H' => Same H H' ∧ H' D = some (.lst (rowV i fun t => g t || (g via && R via t)))) ⟨Same.put nD, upd_same⟩ ?_ ?_
      · rintro i H' hi ⟨s1, eD⟩
        rw [Int.zero_add]
        refine ⟨rfl, yes_of ?_⟩
        have fin : ∀ (b : Bool), b = (g i || (g via && R via i)) → ∃ acc, H' D = some (.lst acc) ∧ acc.length < sizeLine ∧ Same H (upd H' D (.lst (acc ++ [V.bl b]))) ∧ upd H' D (.lst (acc ++ [V.bl b])) D = some (.lst (rowV (i + 1) fun t => g t || (g via && R via t))) := fun b hb =>
          ⟨_, eD, by rw [rowV_len]; exact small_len (by omega), Same.but (fun b u e => s1 _ _ e) nD, by rw [upd_same, rowV_succ, hb]⟩
        refine ⟨_, rfl, _, rfl, r, _, _, _, rfl, rfl, SqL.of (s1 _ _ er), atI_nat (rowV_at hi), _, rfl, iteB (fun z => ?_) (fun z => ?_)⟩
        · exact fin true (by rw [z]; rfl)
        · refine ⟨_, rfl, _, rfl, tb, _, _, _, rfl, rfl, SqL.of (s1 _ _ h1), atI_nat (by rw [List.getElem?_map, hrow]; rfl), ?_⟩
          refine ⟨_, rfl, rows[via], _, _, _, rfl, rfl, SqL.of (s1 _ _ (h3 _ _ hrow)), atI_nat (rowV_at hi), ?_⟩
          exact fin _ (by rw [z, hg]; rfl)
      · rintro H1 ⟨s1, eD⟩
        exact k D H1 s1 eD
end
end K5

set_option Elab.async false
set_option linter.all false
set_option maxRecDepth 100000
set_option maxHeartbeats 4000000
namespace K5
open PySem L2
section
variable {P : Program} {w : World} {K : PySem.W.Frag} {mg : Str → Option Value} {base : Heap} {C : Addr}
abbrev s_table : Stmt := top 29
abbrev nTb : List Str := ["_law_size", "_law_pairs_here", "_law_table_here", "_law_via", "_law_s", "_law_row"]
theorem sc_table : FnScope nTb ["_law_size", "_law_pairs_here"] (defScope s_table) := ⟨rfl, rfl, rfl, by decide +kernel, rfl, by decide +kernel, by decide +kernel⟩
theorem ok_table {f : Addr} {fd : FuncData} (F : Fun K "_law_table" "_law_table" s_table f fd) (T : Bn mg) (c_flags : Cal P w K mg base 1 "_law_flags" ["_law_size", "_law_pairs_here", "_law_s"] spFlags) (c_joined : Cal P w K mg base 1 "_law_joined" ["_law_table_here", "_law_row", "_law_via"] spJoined) :
    FnOk P w K mg base CX0 2 f fd ["_law_size", "_law_pairs_here"] spTable := by
  refine F.ok sc_table (fun vs H Q E h => ?_) (fun cdv A outer s H vs Q E hr h => ?_)
  · obtain ⟨n, l, ts, rfl, _⟩ := h
    rfl
  · obtain ⟨n, l, ts, rfl, n8, el, pt, k⟩ := h
    refine ⟨_, (pss_cons (ps_set (i := 2) sc_table.nd rfl (Or.inr rfl) (pe_lc (own := [("_law_s", 4)]) rfl sc_table.nd (pi_range1 (by rfl) T.n_range (pa_cons (pv 0) pa_nil)) (blkOk_by (N := nTb) (sc := defScope s_table) (by decide +kernel)) (fun _ _ _ _ _ => (pg_name (i := 4) sc_table.nd rfl (Or.inl rfl))) (fun _ _ _ _ _ => pts_nil)
        (fun _ _ _ _ _ => (pe_cal c_flags (hr.mono (by decide)) rfl (pa_cons (pv 0) (pa_cons (pv 1) (pa_cons (pv 4) pa_nil)))))))
      (pss_cons (ps_for PassesOwn.never rfl (pi_range1 (by rfl) T.n_range (pa_cons (pv 0) pa_nil)) (pg_name (i := 3) sc_table.nd rfl (Or.inr rfl))
        (pss_one (ps_set (i := 2) sc_table.nd rfl (Or.inr rfl) (pe_lc (own := [("_law_row", 5)]) rfl sc_table.nd (pi_list (pv 2)) (blkOk_by (N := nTb) (sc := defScope s_table) (by decide +kernel)) (fun _ _ _ _ _ => (pg_name (i := 5) sc_table.nd rfl (Or.inl rfl))) (fun _ _ _ _ _ => pts_nil)
          (fun _ _ _ _ _ => (pe_cal c_joined (hr.mono (by decide)) rfl (pa_cons (pv 2) (pa_cons (pv 5) (pa_cons (pv 3) pa_nil)))))))))
      (pss_one (ps_ret (pv 2))))), ?_⟩
    refine ⟨_, rfl, _, rfl, by omega, by omega, fun D nD => ?_⟩
    rw [Int.toNat_natCast]
    let rows0 : Nat → Rl → (Nat → Hp → Hp → Addr → Prop) := fun n R i H0 H' D => Same H0 H' ∧ ∃ rows : List Addr, H' D = some (.lst (rows.map V.ref)) ∧ rows.length = i ∧ ∀ s a, rows[s]? = some a → H' a = some (.lst (rowV n (R s)))
    have grow : ∀ {H0 H' H4 : Hp} {D r : Addr} {R : Rl} {i : Nat}, H0 D = none → i < 64 → (Same H0 H' ∧ ∃ rows : List Addr, H' D = some (.lst (rows.map V.ref)) ∧ rows.length = i ∧ (∀ a ∈ rows, a ≠ D) ∧ ∀ s a, rows[s]? = some a → H' a = some (.lst (rowV n (R s)))) → Same H' H4 → H4 r = some (.lst (rowV n (R i))) → r ≠ D →
        ∃ acc, H4 D = some (.lst acc) ∧ acc.length < sizeLine ∧ Same H0 (upd H4 D (.lst (acc ++ [V.ref r]))) ∧ ∃ rows : List Addr, upd H4 D (.lst (acc ++ [V.ref r])) D = some (.lst (rows.map V.ref)) ∧ rows.length = i + 1 ∧ (∀ a ∈ rows, a ≠ D) ∧ ∀ s a, rows[s]? = some a → upd H4 D (.lst (acc ++ [V.ref r])) a = some (.lst (rowV n (R s))) := by
      rintro H0 H' H4 D r R i nD il ⟨s1, rows, eD, lD, dD, aD⟩ s4 er rD
      refine ⟨_, s4 _ _ eD, by rw [List.length_map]; exact small_len (by omega), Same.but (fun b u e => s4 _ _ (s1 _ _ e)) nD, rows ++ [r], ?_, ?_, fun a m => ?_, fun s a e => ?_⟩
      · rw [upd_same, List.map_append]
        rfl
      · rw [List.length_append, lD]
        rfl
      · rcases List.mem_append.mp m with m | m
        · exact dD a m
        · rw [List.mem_singleton.mp m]; exact rD
      · rcases Nat.lt_or_ge s rows.length with h | h
        · rw [List.getElem?_append_left h] at e
          rw [upd_ne (dD a (List.mem_of_getElem? e))]
          exact s4 _ _ (aD s a e)
        · rw [List.getElem?_append_right h] at e
          have hz : s - rows.length = 0 := by
            have := (List.getElem?_eq_some_iff.mp e).1
            simpa using this
          rw [hz] at e
          have e' : r = a := by simpa using e
          have es : s = i := by omega
          rw [← e', es, upd_ne rD]
          exact er
    -- a row is no list of rows
    have rowNe : ∀ {H' : Hp} {D r : Addr} {rows : List Addr} {g : Nat → Bool}, H' D = some (.lst (rows.map V.ref)) → H' r = some (.lst (rowV n g)) → n ≠ 0 → r ≠ D := by
      intro H' D r rows g eD er hn z
      rw [z, eD] at er
      have e := HO.lst.inj (Option.some.inj er)
      have h0 : (rowV n g)[0]? = some (V.bl (g 0)) := rowV_at (by omega)
      rw [← e, List.getElem?_map] at h0
      cases hh : rows[0]? with
      | none => rw [hh] at h0; cases h0
      | some q => rw [hh] at h0; cases h0
    refine lc_range (fun i H' => Same H H' ∧ ∃ rows : List Addr, H' D = some (.lst (rows.map V.ref)) ∧ rows.length = i ∧ (∀ a ∈ rows, a ≠ D) ∧ ∀ s a, rows[s]? = some a → H' a = some (.lst (rowV n (orEq (memR (ts.map (·.2))) s)))) ⟨Same.put nD, [], upd_same, rfl, fun _ m => (by cases m), fun s a e => by simp at e⟩ ?_ ?_
    · rintro i H' hi p
      rw [Int.zero_add]
      refine ⟨rfl, yes_of ?_⟩
      obtain ⟨s1, rows, eD, lD, dD, aD⟩ := id p
      refine ⟨_, rfl, _, rfl, _, rfl, n, l, ts, i, rfl, n8, s1 _ _ el, pt.same s1, fun r H4 s4 er => ?_⟩
      exact grow nD (by omega) p s4 er (rowNe (s4 _ _ eD) er (by omega))
    rintro H1 ⟨s1, rows, eD, lD, dD, aD⟩
    refine ⟨_, rfl, _, rfl, by omega, by omega, ?_⟩
    rw [Int.toNat_natCast]
    refine for_range (fun i σ H' => ∃ v3 tb, σ = [some (.int (n : Int)), some (.ref l), some (.ref tb), v3, none, none] ∧ Same H H' ∧ Tab H' tb n (wars (orEq (memR (ts.map (fun t : Pt => t.2)))) i)) ⟨none, D, rfl, s1, rows, eD, lD, aD⟩ ?_ ?_
    · rintro i σ H2 hi ⟨v3, tb, rfl, s2, tab⟩
      rw [Int.zero_add]
      obtain ⟨rws, e2, l2, a2⟩ := id tab
      refine ⟨_, rfl, tb, rfl, ⟨_, SqL.of e2⟩, fun G nG => ?_⟩
      refine lc_list (K := K) (a := tb) (xs := rws.map V.ref) (fun j H' => Same H2 H' ∧ ∃ rows : List Addr, H' G = some (.lst (rows.map V.ref)) ∧ rows.length = j ∧ (∀ a ∈ rows, a ≠ G) ∧ ∀ s a, rows[s]? = some a → H' a = some (.lst (rowV n (wars (orEq (memR (ts.map (·.2)))) (i + 1) s)))) ⟨Same.put nG, [], upd_same, rfl, fun _ m => (by cases m), fun s a e => by simp at e⟩ (fun j H' _ h => SqL.of (h.1 _ _ e2)) ?_ ?_
      · rintro j x H' hx p
        obtain ⟨a, ha, rfl⟩ := ref_at hx
        obtain ⟨s3, rows3, e3, l3, d3, a3⟩ := id p
        have jl : j < n := by
          have := (List.getElem?_eq_some_iff.mp ha).1
          omega
        refine ⟨rfl, yes_of ?_⟩
        refine ⟨_, rfl, _, rfl, _, rfl, tb, a, n, i, _, _, rfl, n8, hi, tab.same s3, s3 _ _ (a2 j a ha), fun r H4 s4 er => ?_⟩
        exact grow nG (by omega) p s4 er (rowNe (s4 _ _ e3) er (by omega))
      · rintro H3 ⟨s3, rows3, e3, l3, d3, a3⟩
        exact ⟨_, G, rfl, s2.trans s3, rows3, e3, by rw [l3, List.length_map, l2], a3⟩
    · rintro σ H2 ⟨v3, tb, rfl, s2, tab⟩
      exact ⟨_, rfl, k tb H2 s2 tab⟩
abbrev s_members : Stmt := top 30
theorem sc_members : FnScope ["_law_mask", "_law_size", "_law_k"] ["_law_mask", "_law_size"] (defScope s_members) := ⟨rfl, rfl, rfl, by decide +kernel, rfl, by decide +kernel, by decide +kernel⟩
theorem ok_members {f : Addr} {fd : FuncData} (F : Fun K "_law_members" "_law_members" s_members f fd) (T : Bn mg) : FnOk P w K mg base CX0 1 f fd ["_law_mask", "_law_size"] spMembers := by
  refine F.ok sc_members (fun vs H Q E h => ?_) (fun cdv A outer s H vs Q E hr h => ?_)
  · obtain ⟨m, n, rfl, _⟩ := h
    rfl
  · obtain ⟨m, n, rfl, n8, k⟩ := h
    refine ⟨_, (pss_one (ps_ret (pe_callTy call_tuple_of (by rfl) T.n_tuple (by decide +kernel) (pa_cons (pe_lc (own := [("_law_k", 2)]) rfl sc_members.nd (pi_range1 (by rfl) T.n_range (pa_cons (pv 1) pa_nil)) (blkOk_by (N := ["_law_mask", "_law_size", "_law_k"]) (sc := defScope s_members) (by decide +kernel)) (fun _ _ _ _ _ => (pg_name (i := 2) sc_members.nd rfl (Or.inl rfl)))
      (fun _ _ _ _ _ => pts_one (pt_cmpR op_eq (pe_op op_odd (pe_op op_shrN (pv 0) (pv 2)) pe_int) pe_int (nomark _))) (fun _ _ _ _ _ => (pv 2))) pa_nil)))), ?_⟩
    refine ⟨_, rfl, _, rfl, by omega, by omega, fun D nD => ?_⟩
    rw [Int.toNat_natCast]
    refine lc_range (fun i H' => Same H H' ∧ H' D = some (.lst ((iN (mems m i)).map V.int)) ∧ (mems m i).length ≤ i) ⟨Same.put nD, upd_same, Nat.le_refl _⟩ ?_ ?_
    · rintro i H' hi ⟨s1, eD, lD⟩
      rw [Int.zero_add]
      refine ⟨rfl, _, rfl, _, rfl, (m : Int), i, rfl, rfl, m / 2 ^ i, ?_, rfl, rfl, _, rfl, ?_⟩
      · show V.int ((m : Int) / 2 ^ i) = _
        congr 1
      rw [bit_of]
      refine iteB (fun z => ?_) (fun z => ?_)
      · refine ⟨_, rfl, _, eD, by rw [List.length_map, List.length_map]; exact small_len (by omega), Same.but (fun b u e => s1 _ _ e) nD, ?_, ?_⟩
        · rw [upd_same, mems_succ, z, if_pos rfl]
          show some (HO.lst ((iN (mems m i)).map V.int ++ [V.int (i : Int)])) = _
          rw [iN, iN, List.map_append, List.map_append]
          rfl
        · rw [mems_succ, z, if_pos rfl, List.length_append]
          show (mems m i).length + 1 ≤ i + 1
          omega
      · refine ⟨s1, ?_, ?_⟩
        · rw [mems_succ, z, if_neg (by decide), List.append_nil]
          exact eD
        · rw [mems_succ, z, if_neg (by decide), List.append_nil]
          omega
    · rintro H1 ⟨s1, eD, lD⟩
      exact ⟨D, _, rfl, .inl ⟨SqL.of eD, fun t nt => k t _ (s1.trans (Same.put nt)) upd_same⟩⟩
abbrev s_lawup : Stmt := top 31
theorem sc_lawup : FnScope ["_law_mask", "_law_ways", "_law_k"] ["_law_mask", "_law_ways"] (defScope s_lawup) := ⟨rfl, rfl, rfl, by decide +kernel, rfl, by decide +kernel, by decide +kernel⟩
theorem ok_lawup {f : Addr} {fd : FuncData} (F : Fun K "_law_is_up" "_law_is_up" s_lawup f fd) (T : Bn mg) : FnOk P w K mg base CX0 1 f fd ["_law_mask", "_law_ways"] spLawUp := by
  refine F.ok sc_lawup (fun vs H Q E h => ?_) (fun cdv A outer s H vs Q E hr h => ?_)
  · obtain ⟨m, wl, n, R, rfl, _⟩ := h
    rfl
  · obtain ⟨m, wl, n, R, rfl, n8, ew, k⟩ := h
    refine ⟨_, (pss_one (ps_ret (pe_callB (cr_all rfl) (by rfl) T.n_all PyProof.Rows.boot_all (pa_cons (pe_lc (own := [("_law_k", 2)]) rfl sc_lawup.nd (pi_range1 (by rfl) T.n_range (pa_cons (pe_callB call_len_seq (by rfl) T.n_len PySem.boot_len (pa_cons (pv 1) pa_nil)) pa_nil)) (blkOk_by (N := ["_law_mask", "_law_ways", "_law_k"]) (sc := defScope s_lawup) (by decide +kernel)) (fun _ _ _ _ _ => (pg_name (i := 2) sc_lawup.nd rfl (Or.inl rfl)))
      (fun _ _ _ _ _ => pts_one (pt_cmpR op_eq (pe_op op_odd (pe_op op_shrN (pv 0) (pv 2)) pe_int) pe_int (nomark _)))
      (fun _ _ _ _ _ => (pe_cmpR op_eq (pe_op op_and (pe_ix (show IxR _ (rIxL K) from ix_list) (pv 1) (pv 2) (fun _ _ => rfl)) (pv 0)) (pe_ix (show IxR _ (rIxL K) from ix_list) (pv 1) (pv 2) (fun _ _ => rfl)) (nomark _)))) pa_nil)))), ?_⟩
    have lw : ((List.range n).map fun s => V.int ((wayN n (R s) : Nat) : Int)).length = n := by rw [List.length_map, List.length_range]
    refine ⟨_, rfl, wl, _, rfl, .inl (SqL.of ew), _, rfl, by rw [lw]; omega, by rw [lw]; omega, fun D nD => ?_⟩
    rw [lw, Int.toNat_natCast]
    let oneB : Nat → Bool := fun k => !m.testBit k || (List.range n).all fun t => !R k t || m.testBit t
    refine lc_range (fun i H' => Same H H' ∧ ∃ bs : List Bool, H' D = some (.lst (bs.map V.bl)) ∧ bs.length ≤ i ∧ bs.all id = (List.range i).all oneB) ⟨Same.put nD, [], upd_same, Nat.le_refl _, rfl⟩ ?_ ?_
    · rintro i H' hi ⟨s1, bs, eD, lD, aD⟩
      rw [Int.zero_add]
      have next : (List.range (i + 1)).all oneB = (bs.all id && oneB i) := by
        rw [List.range_succ, List.all_append, aD, List.all_cons, List.all_nil, Bool.and_true]
      refine ⟨rfl, _, rfl, _, rfl, (m : Int), i, rfl, rfl, m / 2 ^ i, ?_, rfl, rfl, _, rfl, ?_⟩
      · show V.int ((m : Int) / 2 ^ i) = _
        congr 1
      rw [bit_of]
      refine iteB (fun z => ?_) (fun z => ?_)
      · have at1 : atI ((List.range n).map fun s => V.int ((wayN n (R s) : Nat) : Int)) (i : Int) = some (V.int ((wayN n (R i) : Nat) : Int)) := atI_nat (by rw [List.getElem?_map, List.getElem?_range hi]; rfl)
        refine ⟨_, rfl, _, rfl, wl, _, _, _, rfl, rfl, SqL.of (s1 _ _ ew), at1, _, rfl, _, _, rfl, rfl, ?_⟩
        refine ⟨_, rfl, _, rfl, wl, _, _, _, rfl, rfl, SqL.of (s1 _ _ ew), at1, rfl, ?_⟩
        refine ⟨_, eD, by rw [List.length_map]; exact small_len (by omega), Same.but (fun b u e => s1 _ _ e) nD, bs ++ [(List.range n).all fun t => !R i t || m.testBit t], ?_, ?_, ?_⟩
        · have hb : decide (V.int (Builtin.bitAnd ((wayN n (R i) : Nat) : Int) (m : Int)) = V.int ((wayN n (R i) : Nat) : Int)) = decide (wayN n (R i) &&& m = wayN n (R i)) := by
            rw [PySem.W.os_band]
            refine decide_eq_decide.mpr ?_
            rw [V.int.injEq]
            omega
          rw [upd_same, List.map_append, ← way_in, ← hb]
          rfl
        · rw [List.length_append]
          show bs.length + 1 ≤ i + 1
          omega
        · rw [next, List.all_append]
          show (bs.all id && ([_].all id)) = (bs.all id && (!m.testBit i || _))
          rw [z]
          simp
      · refine ⟨s1, bs, eD, by omega, ?_⟩
        rw [next]
        show bs.all id = (bs.all id && (!m.testBit i || _))
        rw [z]
        simp
    · rintro H1 ⟨s1, bs, eD, lD, aD⟩
      refine ⟨D, bs, rfl, SqL.of eD, ?_⟩
      rw [aD]
      exact k H1 s1
end
end K5

set_option Elab.async false
set_option linter.all false
set_option maxRecDepth 100000
set_option maxHeartbeats 4000000
namespace K5
open PySem L2
/-! ### what is due -/
theorem wars_congr {R S : Rl} {n : Nat} (h : ∀ s t, s < n → t < n → R s t = S s t) : ∀ k, k ≤ n → ∀ s t, s < n → t < n → wars R k s t = wars S k s t
  | 0, _, s, t, hs, ht => h s t hs ht
  | k + 1, hk, s, t, hs, ht => by
    have ih := wars_congr h k (by omega)
    show wstep (wars R k) k s t = wstep (wars S k) k s t
    unfold wstep
    rw [ih s t hs ht, ih s k hs (by omega), ih k t (by omega) ht]
theorem line_low (n : Nat) : lowL n (wars (memR (linePs n)) n) = lowL n fun s t => decide (s < t) := by
  refine low_congr fun s t hs ht => ?_
  rw [wars_congr (R := memR (linePs n)) (S := lineR) (fun s t hs ht => ?_) n (Nat.le_refl _) s t hs ht, line_wars ht]
  unfold memR lineR linePs
  refine decide_eq_decide.mpr ?_
  rw [List.mem_map]
  constructor
  · rintro ⟨i, _, e⟩
    have e1 := (Prod.mk.inj e).1
    have e2 := (Prod.mk.inj e).2
    omega
  · intro e
    exact ⟨s, List.mem_range.mpr (by omega), by rw [e]⟩
section
variable {n : Nat} {R : Rl} (tr : ∀ k s t, k < n → R s k = true → R k t = true → R s t = true) (an : Anti n R)
theorem turn_mem {s t : Nat} : memR ((lowL n R).map swp) s t = true ↔ s < n ∧ t < n ∧ t ≠ s ∧ R t s = true := by
  unfold memR
  rw [decide_eq_true_eq, List.mem_map]
  constructor
  · rintro ⟨p, hp, e⟩
    obtain ⟨h1, h2, h3, h4⟩ := mem_low.mp hp
    have e1 : p.2 = s := (Prod.mk.inj e).1
    have e2 : p.1 = t := (Prod.mk.inj e).2
    rw [e1] at h2 h3 h4
    rw [e2] at h1 h3 h4
    exact ⟨h2, h1, h3, h4⟩
  · rintro ⟨h1, h2, h3, h4⟩
    exact ⟨(t, s), mem_low.mpr ⟨h2, h1, h3, h4⟩, rfl⟩
include tr an
theorem turn_self : wars (memR ((lowL n R).map swp)) n = memR ((lowL n R).map swp) := by
  refine wars_self (fun k s t h1 h2 => ?_) n
  obtain ⟨a1, a2, a3, a4⟩ := turn_mem.mp h1
  obtain ⟨b1, b2, b3, b4⟩ := turn_mem.mp h2
  refine turn_mem.mpr ⟨a1, b2, fun e => ?_, tr k t s a2 b4 a4⟩
  rw [e] at b4
  exact a3 (an _ _ a4 b4)
theorem turn_anti : Anti n (wars (memR ((lowL n R).map swp)) n) := by
  rw [turn_self tr an]
  intro s t h1 h2
  exact an _ _ (turn_mem.mp h2).2.2.2 (turn_mem.mp h1).2.2.2
theorem turn_low : lowL n (wars (memR ((lowL n R).map swp)) n) = lowL n (sw R) := by
  rw [turn_self tr an]
  unfold lowL
  refine List.filter_congr fun p hp => ?_
  obtain ⟨h1, h2⟩ := mem_prs.mp hp
  unfold keepB
  by_cases e : p.1 = p.2
  · rw [decide_eq_false (fun z => z e), Bool.false_and, Bool.false_and]
  · rw [decide_eq_true e, Bool.true_and, Bool.true_and, Bool.eq_iff_iff]
    constructor
    · exact fun h => (turn_mem.mp h).2.2.2
    · exact fun h => turn_mem.mpr ⟨h1, h2, fun z => e z.symm, h⟩
end
/-- what is told and what is due, before they are sorted -/
def baseL (n : Nat) (R : Rl) : List (List Int) := ((subs n).filter (upB (lowL n R))).map iN
theorem base_masks (n : Nat) (R : Rl) : baseL n R = (masks n (orEq R)).map fun m => iN (mems m n) := by
  unfold baseL
  rw [ups_masks, List.map_map]
  rfl
theorem base_nil (n : Nat) (R : Rl) : [] ∈ baseL n R := List.mem_map.mpr ⟨[], List.mem_filter.mpr ⟨nil_subs n, upB_iff.mpr fun p _ h => by cases h⟩, rfl⟩
theorem base_turn (n : Nat) (R : Rl) : ((masks n (orEq R)).map fun m => iN (mems (2 ^ n - 1 - m) n)).Perm (baseL n (sw R)) := by
  rw [base_masks]
  have h := (masks_turn (n := n) (R := R)).map fun m => iN (mems m n)
  rw [List.map_map] at h
  exact h
theorem base_line {n : Nat} (h : n ≤ 8) : ((List.range (n + 1)).map fun k => iN ((List.range (n - k)).map (k + ·))).Perm (baseL n fun s t => decide (s < t)) := by
  have q := (line_ups n h).map iN
  refine List.Perm.symm ?_
  unfold baseL
  refine q.trans ?_
  unfold suffs
  rw [List.map_map]
  exact List.Perm.refl _
theorem masks_len {n : Nat} {T : Rl} (h : n ≤ 8) : (masks n T).length ≤ 256 := by
  have h1 := List.length_filter_le (maskB n T) (List.range (2 ^ n))
  rw [List.length_range] at h1
  have := pow_le8 h
  unfold masks
  omega
theorem masks_lt {n m : Nat} {T : Rl} (h : m ∈ masks n T) : m < 2 ^ n := List.mem_range.mp (List.mem_filter.mp h).1
/-- a sorted list of these tuples, in the heap -/
def Sorted (K : PySem.W.Frag) (H : Hp) (l : Addr) (B : List (List Int)) : Prop := ∃ ts : List Tt, H l = some (.lst (rfs ts)) ∧ Tups K H ts ∧ UpT.Srt (ts.map (·.2)) ∧ (ts.map (·.2)).Perm B
theorem Sorted.same {K : PySem.W.Frag} {H H' : Hp} {l : Addr} {B : List (List Int)} (h : Sorted K H l B) (s : Same H H') : Sorted K H' l B := by
  obtain ⟨ts, h1, h2, h3, h4⟩ := h
  exact ⟨ts, s _ _ h1, h2.same s, h3, h4⟩
theorem Sorted.perm {K : PySem.W.Frag} {H : Hp} {l : Addr} {B B' : List (List Int)} (h : Sorted K H l B) (p : B.Perm B') : Sorted K H l B' := by
  obtain ⟨ts, h1, h2, h3, h4⟩ := h
  exact ⟨ts, h1, h2, h3, h4.trans p⟩
theorem sorted_eq {K : PySem.W.Frag} {H : Hp} {l m : Addr} {B : List (List Int)} (h1 : Sorted K H l B) (h2 : Sorted K H m B) : ∃ d, Dp K H (.ref l) d ∧ Dp K H (.ref m) d ∧ SeqAt.shaped d = true := by
  obtain ⟨ts, e1, t1, s1, p1⟩ := h1
  obtain ⟨us, e2, t2, s2, p2⟩ := h2
  have e := UpT.srt_uniq s1 s2 (p1.trans p2.symm)
  refine ⟨.list ((ts.map (·.2)).map dI), .lst (SqL.of e1) t1.dp, ?_, sh_list _⟩
  rw [e]
  exact .lst (SqL.of e2) t2.dp
end K5

set_option Elab.async false
set_option linter.all false
set_option maxRecDepth 100000
set_option maxHeartbeats 4000000
namespace K5
open PySem L2
/-! ### the law -/
structure LawT (P : Program) (w : World) (K : PySem.W.Frag) (mg : Str → Option Value) (base : Heap) (C : Addr) : Prop where
  T : OrT K mg C
  m : MkO P w K mg base C
  turned : TurnedT P w K mg base C
  pool : Cal P w K mg base 1 "_law_pool" ["_law_script"] (spPool K)
  draw : Cal P w K mg base 1 "_law_draw" ["_law_pool_here", "_law_many"] spDraw
  ordps : Cal P w K mg base 3 "_law_order_pairs" ["_law_pool_here", "_law_size"] spOrdPs
  table : Cal P w K mg base 2 "_law_table" ["_law_size", "_law_pairs_here"] spTable
  lawup : Cal P w K mg base 1 "_law_is_up" ["_law_mask", "_law_ways"] spLawUp
  members : Cal P w K mg base 1 "_law_members" ["_law_mask", "_law_size"] spMembers
  ups : Cal P w K mg base 3 "up_sets" ["order"] (spUps K C)
  line : Cal P w K mg base 7 "line" ["size"] (spLine C)
abbrev NL : List Str := ["_law_script", "_law_pool_here", "_law_size", "_law_pairs_here", "_law_order", "_law_table_here", "_law_ways", "_law_masks", "_law_due", "_law_told", "_law_s", "_law_mask", "_law_t", "_law_k", "_law_part"]
abbrev s_law : Stmt := top 32
theorem sc_law : FnScope NL ["_law_script"] (defScope s_law) := ⟨rfl, rfl, rfl, by decide +kernel, rfl, by decide +kernel, by decide +kernel⟩
section
variable {P : Program} {w : World} {K : PySem.W.Frag} {mg : Str → Option Value} {base : Heap} {C : Addr} {f : Addr} {cdv : Value} {A : Around} {outer : List Env} {s : Shared} {H : Hp} {E : XK}
abbrev XL (P : Program) (w : World) (K : PySem.W.Frag) (mg : Str → Option Value) (base : Heap) (f : Addr) (cdv : Value) (A : Around) (outer : List Env) (s : Shared) (H : Hp) (E : XK) : Cx :=
  (cxOf CX0 P w K mg base NL "law" (defScope s_law) f cdv A outer s H E).nox
theorem un64 {k : Nat} {A : Around} (r : Room k A) : A.units + 64 < cLine := by
  have := r.un
  omega
/-- a list comprehension of members, that is sorted then -/
theorem sort_nil {B : List (List Int)} {us : List Tt} (qD : (us.map (·.2)).Perm B) (hn : [] ∈ B) : ∃ t ∈ us, t.2 = [] := by
  obtain ⟨t0, hm0, e0⟩ := List.mem_map.mp (qD.mem_iff.mpr hn)
  exact ⟨t0, hm0, e0⟩
theorem sort_made {B : List (List Int)} {H2 : Hp} {us ys : List Tt} {p : Addr} (pD : Tups K H2 us) (qD : (us.map (·.2)).Perm B) (pm : ys.Perm us) (srt : UpT.Srt (ys.map (·.2))) (np : H2 p = none) : Sorted K (upd H2 p (.lst (rfs ys))) p B :=
  ⟨ys, upd_same, fun u hu => SqT.up (pD u (pm.mem_iff.mp hu)) (Same.put np), srt, (pm.map _).trans qD⟩
/-- one more of the members -/
theorem more {Hb H' : Hp} {D : Addr} {us : List Tt} {i : Nat} {f : Nat → List Int} (nD : Hb D = none) (il : i < 500) (p : Same Hb H' ∧ H' D = some (.lst (rfs us)) ∧ Tups K H' us ∧ us.map (·.2) = (List.range i).map f) {H4 : Hp} {t : Addr} (s4 : Same H' H4) (et : H4 t = some (.tup ((f i).map V.int))) :
    ∃ acc, H4 D = some (.lst acc) ∧ acc.length < sizeLine ∧ (Same Hb (upd H4 D (.lst (acc ++ [V.ref t]))) ∧ ∃ us : List Tt, upd H4 D (.lst (acc ++ [V.ref t])) D = some (.lst (rfs us)) ∧ Tups K (upd H4 D (.lst (acc ++ [V.ref t]))) us ∧ us.map (·.2) = (List.range (i + 1)).map f) := by
  obtain ⟨s1, eD, pD, qD⟩ := p
  have lus : us.length = i := by
    have := congrArg List.length qD
    rw [List.length_map, List.length_map, List.length_range] at this
    exact this
  refine ⟨_, s4 _ _ eD, by rw [rfs_len]; exact small_len (by omega), Same.but (fun b u e => s4 _ _ (s1 _ _ e)) nD, us ++ [(t, f i)], ?_, ?_, ?_⟩
  · rw [upd_same, rfs_snoc]
  · exact Tups.lst ((pD.same s4).app (Tups.one (SqT.of et))) (s4 _ _ eD)
  · rw [List.map_append, qD, List.range_succ, List.map_append]
    rfl
theorem map_range {α β : Type} (l : List α) (d : α) (f : α → β) : (List.range l.length).map (fun i => f (l.getD i d)) = l.map f := by
  refine List.ext_getElem (by simp) fun i h1 h2 => ?_
  simp at h1
  simp [h1]
theorem no_ne {b : Bool} {A D : Prop} (e : b = true) (h : D) : if (!b) = true then A else D := by
  rw [e]
  exact h
theorem seg14 (L : LawT P w K mg base C) (hr : Room 7 (XL P w K mg base f cdv A outer s H E).A) {Q : VK} (k : ∀ H', Q (.bl true) H') :
    ∃ u, PSs (XL P w K mg base f cdv A outer s H E) ((defBody s_law).drop 14) u ∧ ∀ (n : Nat) (o ml : Addr) (R : Rl) (v0 v1 v3 v5 v6 v8 v9 v10 v11 v12 v13 v14 : Option V) (H1 : Hp), 1 ≤ n → n ≤ 8 → (∀ k s t, k < n → R s k = true → R k t = true → R s t = true) → Anti n R → IsOrd C H1 o n (lowL n R) → H1 ml = some (.lst (cV (masks n (orEq R)))) →
      u { nx := fun _ H' => Q .non H', rt := Q } [v0, v1, some (.int (n : Int)), v3, some (.ref o), v5, v6, some (.ref ml), v8, v9, v10, v11, v12, v13, v14] H1 := by
  obtain ⟨g, gd, M, G, bG⟩ := L.turned.ex
  have h2 := un2 hr
  have h64 := un64 hr
  refine ⟨_, (pss_cons (ps_if (pt_cmpR (op_neD (by exact h64)) (pe_cal L.ups (hr.mono (by decide)) rfl (pa_cons (pe_meth0 (pl := _) (pv 4) L.T.cl M G hr bG .nil pass0) pa_nil))
        (pe_callB (cr_sortUp (by exact h2)) (by rfl) L.T.bn.n_sorted PyProof.Rows.boot_sorted (pa_cons (pe_lc (own := [("_law_mask", 11)]) rfl sc_law.nd (pi_list (pv 7)) (blkOk_by (N := NL) (sc := defScope s_law) (by decide +kernel)) (fun _ _ _ _ _ => (pg_name (i := 11) sc_law.nd rfl (Or.inl rfl))) (fun _ _ _ _ _ => pts_nil)
          (fun _ _ _ _ _ => (pe_cal L.members (hr.mono (by decide)) rfl (pa_cons (pe_op op_sub (pe_op op_sub (pe_op op_oneShl pe_int (pv 2)) pe_int) (pv 11)) (pa_cons (pv 2) pa_nil))))) pa_nil)) (nomark _))
      (pss_one (ps_ret pe_bl))
      pss_nil)
    (pss_one (ps_ret (pe_cmpR (op_eqD (by exact h64)) (pe_cal L.ups (hr.mono (by decide)) rfl (pa_cons (pe_cal L.line hr rfl (pa_cons (pv 2) pa_nil)) pa_nil))
        (pe_callB (cr_sortUp (by exact h2)) (by rfl) L.T.bn.n_sorted PyProof.Rows.boot_sorted (pa_cons (pe_lc (own := [("_law_k", 13)]) rfl sc_law.nd (pi_range1 (by rfl) L.T.bn.n_range (pa_cons (pe_op op_add (pv 2) pe_int) pa_nil)) (blkOk_by (N := NL) (sc := defScope s_law) (by decide +kernel)) (fun _ _ _ _ _ => (pg_name (i := 13) sc_law.nd rfl (Or.inl rfl))) (fun _ _ _ _ _ => pts_nil)
          (fun _ _ _ _ _ => (pe_tupRg rfl rfl L.T.bn.n_tuple (prg_2 rfl L.T.bn.n_range (pv 13) (pv 2))))) pa_nil)) (nomark _))))), ?_⟩
  intro n o ml R v0 v1 v3 v5 v6 v8 v9 v10 v11 v12 v13 v14 H1 n1 n8 tr an io em
  have lenLow : ∀ S : Rl, (lowL n S).length ≤ 64 := fun S => Nat.le_trans (List.length_filter_le _ _) (prs_len n n8)
  obtain ⟨dx, T0, ts0, i1, i2, i3, i4⟩ := id io
  -- the other way about
  refine ⟨_, rfl, o, dx, _, rfl, i1, ordF_none _ _ (by decide +kernel) (by decide +kernel), o, n, lowL n R, rfl, io, n1, n8, lenLow R, fun p hp => ⟨(mem_low.mp hp).1, (mem_low.mp hp).2.1⟩, turn_anti tr an, fun x H2 s2 io2 => ?_⟩
  rw [turn_low tr an] at io2
  refine ⟨x, n, lowL n (sw R), rfl, io2, n8, lenLow _, fun l ts H3 s3 _ el pl sl ql => ?_⟩
  have sorted1 : Sorted K H3 l (baseL n (sw R)) := ⟨ts, el, pl, sl, ql⟩
  have em3 := s3 _ _ (s2 _ _ em)
  refine ⟨_, rfl, ml, rfl, ⟨_, SqL.of em3⟩, fun D nD => ?_⟩
  have ml256 := masks_len (T := orEq R) n8
  refine lc_list (K := K) (a := ml) (xs := cV (masks n (orEq R))) (fun i H' => Same H3 H' ∧ ∃ us : List Tt, H' D = some (.lst (rfs us)) ∧ Tups K H' us ∧ us.map (·.2) = (List.range i).map (fun j => iN (mems (2 ^ n - 1 - (masks n (orEq R)).getD j 0) n))) ⟨Same.put nD, [], upd_same, fun _ m => (by cases m), rfl⟩ (fun i H' _ h => SqL.of (h.1 _ _ em3)) ?_ ?_
  · rintro i y H' hy ⟨s4, us, eD, pD, qD⟩
    rw [List.getElem?_map] at hy
    obtain ⟨m, hm, rfl⟩ : ∃ m, (masks n (orEq R))[i]? = some m ∧ y = V.int (m : Int) := by
      cases e : (masks n (orEq R))[i]? with
      | none => rw [e] at hy; cases hy
      | some m => rw [e] at hy; exact ⟨m, rfl, (Option.some.inj hy).symm⟩
    have mlt := masks_lt (List.mem_of_getElem? hm)
    have il : i < 256 := by
      have := (List.getElem?_eq_some_iff.mp hm).1
      omega
    have e2 : (2 : Int) ^ n = ((2 ^ n : Nat) : Int) := by simp
    have em2 : (2 : Int) ^ n - 1 - (m : Int) = ((2 ^ n - 1 - m : Nat) : Int) := by rw [e2]; omega
    refine ⟨rfl, yes_of ?_⟩
    refine ⟨_, rfl, n, rfl, rfl, by omega, _, _, rfl, rfl, _, rfl, _, _, rfl, rfl, _, rfl, 2 ^ n - 1 - m, n, ?_, n8, fun t H4 s5 et => ?_⟩
    · show [V.int ((2 : Int) ^ n - 1 - (m : Int)), V.int (n : Int)] = _
      rw [em2]
    have gd : (masks n (orEq R)).getD i 0 = m := by rw [List.getD_eq_getElem?_getD, hm]; rfl
    exact more (f := fun j => iN (mems (2 ^ n - 1 - (masks n (orEq R)).getD j 0) n)) nD (by omega) ⟨s4, eD, pD, qD⟩ s5 (by rw [gd]; exact et)
  rintro H4 ⟨s4, us, eD, pD, qD⟩
  have lenc : (cV (masks n (orEq R))).length = (masks n (orEq R)).length := List.length_map _
  rw [lenc, map_range (masks n (orEq R)) 0 (fun m => iN (mems (2 ^ n - 1 - m) n))] at qD
  have qB : (us.map (·.2)).Perm (baseL n (sw R)) := by rw [qD]; exact base_turn n R
  refine ⟨D, us, rfl, SqL.of eD, pD, sort_nil qB (base_nil n _), fun ys p pm srt np => ?_⟩
  have so := sort_made pD qB pm srt np
  have s5 := Same.put (o := .lst (rfs ys)) np
  generalize (upd H4 p (.lst (rfs ys))) = H5 at so s5 ⊢
  obtain ⟨d, d1, d2, sh⟩ := sorted_eq (sorted1.same (s4.trans s5)) so
  refine ⟨d, d, d1, d2, sh, sh, _, rfl, no_ne (SeqAt.eqv_refl _ (SeqAt.canLay_of_shaped sh)) ?_⟩
  -- the line
  refine ⟨_, rfl, n, rfl, n1, n8, fun x2 H6 s6 io3 => ?_⟩
  rw [line_low n] at io3
  refine ⟨x2, n, _, rfl, io3, n8, lenLow _, fun l2 ts2 H7 s7 _ el2 pl2 sl2 ql2 => ?_⟩
  have sorted2 : Sorted K H7 l2 (baseL n fun s t => decide (s < t)) := ⟨ts2, el2, pl2, sl2, ql2⟩
  refine ⟨_, rfl, _, _, rfl, rfl, _, rfl, by omega, by omega, fun D2 nD2 => ?_⟩
  rw [show ((n : Int) + 1).toNat = n + 1 by omega]
  refine lc_range (fun i H' => Same H7 H' ∧ ∃ us : List Tt, H' D2 = some (.lst (rfs us)) ∧ Tups K H' us ∧ us.map (·.2) = (List.range i).map (fun k => iN ((List.range (n - k)).map (k + ·)))) ⟨Same.put nD2, [], upd_same, fun _ m => (by cases m), rfl⟩ ?_ ?_
  · rintro i H' hi ⟨s8, us, eD, pD, qD⟩
    rw [Int.zero_add]
    refine ⟨rfl, yes_of ?_⟩
    refine ⟨_, rfl, _, rfl, (i : Int), (n : Int), rfl, rfl, .of_le (by omega) (by omega) (by omega) (by omega), fun t nt => ?_⟩
    have erg : rgV (i : Int) (n : Int) = (iN ((List.range (n - i)).map (i + ·))).map V.int := by
      unfold rgV
      rw [show ((n : Int) - (i : Int)).toNat = n - i by omega, iN, List.map_map, List.map_map]
      exact List.map_congr_left fun j _ => by simp
    rw [erg]
    exact more (f := fun k => iN ((List.range (n - k)).map (k + ·))) nD2 (by omega) ⟨s8, eD, pD, qD⟩ (Same.put nt) upd_same
  rintro H8 ⟨s8, us2, eD2, pD2, qD2⟩
  have qB2 : (us2.map (·.2)).Perm (baseL n fun s t => decide (s < t)) := by rw [qD2]; exact base_line n8
  refine ⟨D2, us2, rfl, SqL.of eD2, pD2, sort_nil qB2 (base_nil n _), fun ys2 p2 pm2 srt2 np2 => ?_⟩
  have so2 := sort_made pD2 qB2 pm2 srt2 np2
  have s9 := Same.put (o := .lst (rfs ys2)) np2
  generalize (upd H8 p2 (.lst (rfs ys2))) = H9 at so2 s9 ⊢
  obtain ⟨d', d3, d4, sh2⟩ := sorted_eq (sorted2.same (s8.trans s9)) so2
  refine ⟨d', d', d3, d4, sh2, sh2, ?_⟩
  rw [SeqAt.eqv_refl _ (SeqAt.canLay_of_shaped sh2)]
  exact k H9
end
end K5

set_option Elab.async false
set_option linter.all false
set_option maxRecDepth 100000
set_option maxHeartbeats 4000000
namespace K5
open PySem L2
theorem IsOrd.lstU {C : Addr} {H : Hp} {o : Addr} {n : Nat} {low : List (Nat × Nat)} {D : Addr} {ys : List V} {u : HO} (h : IsOrd C H o n low) (e : H D = some (.lst ys)) : IsOrd C (upd H D u) o n low := by
  obtain ⟨dx, T, ts, h1, h2, h3, h4⟩ := h
  refine ⟨dx, T, ts, ?_, ?_, h3.lstU e, h4⟩
  · rw [upd_ne (fun z => by rw [z, e] at h1; cases h1)]
    exact h1
  · rw [upd_ne (fun z => by rw [z, e] at h2; cases h2)]
    exact h2
theorem Sorted.lstU {K : PySem.W.Frag} {H : Hp} {l D : Addr} {B : List (List Int)} {ys : List V} {u : HO} (h : Sorted K H l B) (ne : l ≠ D) (e : H D = some (.lst ys)) : Sorted K (upd H D u) l B := by
  obtain ⟨ts, h1, h2, h3, h4⟩ := h
  exact ⟨ts, by rw [upd_ne ne]; exact h1, h2.lst e, h3, h4⟩
section
variable {P : Program} {w : World} {K : PySem.W.Frag} {mg : Str → Option Value} {base : Heap} {C : Addr} {f : Addr} {cdv : Value} {A : Around} {outer : List Env} {s : Shared} {H : Hp} {E : XK}
theorem seg11 (L : LawT P w K mg base C) (hr : Room 7 (XL P w K mg base f cdv A outer s H E).A) {Q : VK} (k : ∀ H', Q (.bl true) H') :
    ∃ u, PSs (XL P w K mg base f cdv A outer s H E) ((defBody s_law).drop 11) u ∧ ∀ (n : Nat) (o ml d t : Addr) (xs : List V) (R : Rl) (v0 v1 v3 v5 v6 v10 v11 v12 v13 v14 : Option V) (H1 : Hp), 1 ≤ n → n ≤ 8 → (∀ k s t, k < n → R s k = true → R k t = true → R s t = true) → Anti n R → IsOrd C H1 o n (lowL n R) → H1 ml = some (.lst (cV (masks n (orEq R)))) →
      Sorted K H1 d (baseL n R) → H1 t = some (.lst xs) → xs.length ≤ 500 → d ≠ t → ml ≠ t →
      u { nx := fun _ H' => Q .non H', rt := Q } [v0, v1, some (.int (n : Int)), v3, some (.ref o), v5, v6, some (.ref ml), some (.ref d), some (.ref t), v10, v11, v12, v13, v14] H1 := by
  obtain ⟨u, hu, qu⟩ := seg14 (f := f) (cdv := cdv) (A := A) (outer := outer) (s := s) (H := H) (E := E) L hr k
  have h64 := un64 hr
  refine ⟨_, (pss_cons (ps_expr (pe_bm PySem.F.plainAttrs_list PySem.F.slot_list_append PySem.F.type_list_append mt_append (pv 9) (pa_cons (pe_tup (pa_cons pe_int pa_nil)) pa_nil)))
    (pss_cons (ps_expr (pe_bm0 PySem.F.plainAttrs_list PySem.F.slot_list_reverse PySem.F.type_list_reverse mt_reverse (pv 9)))
    (pss_cons (ps_if (pt_cmpR (op_neD (by exact h64)) (pe_cal L.ups (hr.mono (by decide)) rfl (pa_cons (pv 4) pa_nil)) (pv 8) (nomark _))
      (pss_one (ps_ret pe_bl))
      pss_nil) hu))), ?_⟩
  intro n o ml d t xs R v0 v1 v3 v5 v6 v10 v11 v12 v13 v14 H1 n1 n8 tr an io em sd et lx dt mt
  have lenLow : ∀ S : Rl, (lowL n S).length ≤ 64 := fun S => Nat.le_trans (List.length_filter_le _ _) (prs_len n n8)
  refine ⟨_, rfl, .inl ⟨rfl, _, SqL.of et⟩, by show 1 ≤ sizeLine; decide, fun c nc => ?_⟩
  have s1 := Same.put (o := .tup [.int 0]) nc
  generalize (upd H1 c (.tup [.int 0])) = H2 at s1 ⊢
  refine ⟨t, xs, _, rfl, rfl, s1 _ _ et, small_len (by omega), ?_⟩
  have io2 := (io.same s1).lstU (u := .lst (xs ++ [.ref c])) (s1 _ _ et)
  have sd2 := (sd.same s1).lstU (u := .lst (xs ++ [.ref c])) dt (s1 _ _ et)
  have em2 : (upd H2 t (.lst (xs ++ [.ref c]))) ml = some (.lst (cV (masks n (orEq R)))) := by rw [upd_ne mt]; exact s1 _ _ em
  have et2 : (upd H2 t (.lst (xs ++ [.ref c]))) t = some (.lst (xs ++ [.ref c])) := upd_same
  generalize (upd H2 t (.lst (xs ++ [.ref c]))) = H3 at io2 sd2 em2 et2 ⊢
  generalize xs ++ [V.ref c] = ys at et2
  refine ⟨_, rfl, .inl ⟨rfl, _, SqL.of et2⟩, t, ys, rfl, rfl, et2, ?_⟩
  have io3 := io2.lstU (u := .lst ys.reverse) et2
  have sd3 := sd2.lstU (u := .lst ys.reverse) dt et2
  have em3 : (upd H3 t (.lst ys.reverse)) ml = some (.lst (cV (masks n (orEq R)))) := by rw [upd_ne mt]; exact em2
  generalize (upd H3 t (.lst ys.reverse)) = H4 at io3 sd3 em3 ⊢
  refine ⟨_, rfl, o, n, lowL n R, rfl, io3, n8, lenLow R, fun l ts H5 s5 _ el pl sl ql => ?_⟩
  have so : Sorted K H5 l (baseL n R) := ⟨ts, el, pl, sl, ql⟩
  obtain ⟨D, d1, d2, sh⟩ := sorted_eq so (sd3.same s5)
  refine ⟨_, rfl, D, D, d1, d2, sh, sh, _, rfl, no_ne (SeqAt.eqv_refl _ (SeqAt.canLay_of_shaped sh)) ?_⟩
  exact qu n o ml R v0 v1 v3 v5 v6 _ _ v10 v11 v12 v13 v14 H5 n1 n8 tr an (io3.same s5) (s5 _ _ em3)
end
end K5

set_option Elab.async false
set_option linter.all false
set_option maxRecDepth 100000
set_option maxHeartbeats 4000000
namespace K5
open PySem L2
theorem tyX_tup {K : PySem.W.Frag} {H : Hp} {a : Addr} {xs : List V} (h : SqT K H a xs) : TyX K H (.ref a) (.type "tuple") := by
  rcases h with (e | ⟨o, e⟩) | ⟨o, its, n, lk, c, _⟩
  · exact .base (.tup e)
  · exact .fTuple e
  · exact .kTuple lk c
/-- the block of the ways -/
def scWays : Scope := { kind := .function, names := [(".0", .local), ("_law_s", .cell), ("sum", .globalImplicit), ("range", .globalImplicit), ("_law_size", .cell), ("_law_table_here", .cell)], isGenerator := false, isCoroutine := false }
section
variable {P : Program} {w : World} {K : PySem.W.Frag} {mg : Str → Option Value} {base : Heap} {C : Addr} {f : Addr} {cdv : Value} {A : Around} {outer : List Env} {s : Shared} {H : Hp} {E : XK}
theorem seg6 (L : LawT P w K mg base C) (hr : Room 7 (XL P w K mg base f cdv A outer s H E).A) {Q : VK} (k : ∀ H', Q (.bl true) H') :
    ∃ u, PSs (XL P w K mg base f cdv A outer s H E) ((defBody s_law).drop 6) u ∧ ∀ (n : Nat) (o tb : Addr) (R : Rl) (v0 v1 v3 v6 v7 v8 v9 v10 v11 v12 v13 v14 : Option V) (H1 : Hp), 1 ≤ n → n ≤ 8 → (∀ k s t, k < n → R s k = true → R k t = true → R s t = true) → Anti n R → IsOrd C H1 o n (lowL n R) → Tab H1 tb n (orEq R) →
      u { nx := fun _ H' => Q .non H', rt := Q } [v0, v1, some (.int (n : Int)), v3, some (.ref o), some (.ref tb), v6, v7, v8, v9, none, none, none, none, none] H1 := by
  obtain ⟨u, hu, qu⟩ := seg11 (f := f) (cdv := cdv) (A := A) (outer := outer) (s := s) (H := H) (E := E) L hr k
  have h64 := un64 hr
  have h2 := un2 hr
  refine ⟨_, (pss_cons (ps_set (i := 6) sc_law.nd rfl (Or.inr rfl) (pe_lc (own := [("_law_s", 10)]) rfl sc_law.nd (pi_range1 (by rfl) L.T.bn.n_range (pa_cons (pv 2) pa_nil)) (blkOk_by (N := NL) (sc := defScope s_law) (by decide +kernel)) (fun _ _ _ _ _ => (pg_name (i := 10) sc_law.nd rfl (Or.inr rfl))) (fun _ _ _ _ _ => pts_nil)
      (fun _ _ _ _ _ => (pe_callB (show CallR _ _ (rSum K) from cr_sum rfl) (by rfl) L.T.bn.n_sum PyProof.Rows.boot_sum (pa_cons (pe_lc (own := [("_law_t", 12)]) rfl sc_law.nd (pi_range1 (by rfl) L.T.bn.n_range (pa_cons (pv 2) pa_nil)) (blkOk_by (N := NL) (sc := scWays) (by decide +kernel)) (fun _ _ _ _ _ => (pg_name (i := 12) sc_law.nd rfl (Or.inl rfl)))
        (fun _ _ _ _ _ => (pts_one (pt_val (pe_ix (show IxR _ (rIxL K) from ix_list) (pe_ix (show IxR _ (rIxL K) from ix_list) (pv 5) (pv 10) (fun _ _ => rfl)) (pv 12) (fun _ _ => rfl))))) (fun _ _ _ _ _ => (pe_op op_oneShl pe_int (pv 12)))) pa_nil)))))
    (pss_cons (ps_setLc (i := 7) (own := [("_law_mask", 11)]) rfl sc_law.nd rfl rfl (sw_true rfl rfl rfl (by decide +kernel)) (pi_range1 (by rfl) L.T.bn.n_range (pa_cons (pe_op op_oneShl pe_int (pv 2)) pa_nil)) (blkOk_by (N := NL) (sc := defScope s_law) (by decide +kernel)) (fun _ _ _ _ _ => (pg_name (i := 11) sc_law.nd rfl (Or.inl rfl))) (fun _ _ _ _ _ => (pts_one (pt_val (pe_cal L.lawup (hr.mono (by decide)) rfl (pa_cons (pv 11) (pa_cons (pv 6) pa_nil)))))) (fun _ _ _ _ _ => (pv 11)))
    (pss_cons (ps_set (i := 8) sc_law.nd rfl (Or.inl rfl) (pe_callB (cr_sortUp (by exact h2)) (by rfl) L.T.bn.n_sorted PyProof.Rows.boot_sorted (pa_cons (pe_lc (own := [("_law_mask", 11)]) rfl sc_law.nd (pi_list (pv 7)) (blkOk_by (N := NL) (sc := defScope s_law) (by decide +kernel)) (fun _ _ _ _ _ => (pg_name (i := 11) sc_law.nd rfl (Or.inl rfl))) (fun _ _ _ _ _ => pts_nil) (fun _ _ _ _ _ => (pe_cal L.members (hr.mono (by decide)) rfl (pa_cons (pv 11) (pa_cons (pv 2) pa_nil))))) pa_nil)))
    (pss_cons (ps_set (i := 9) sc_law.nd rfl (Or.inl rfl) (pe_cal L.ups (hr.mono (by decide)) rfl (pa_cons (pv 4) pa_nil)))
    (pss_cons (ps_if (PW.pt (pw_or (pt_not (pt_val (pe_callB call_isi (by rfl) L.T.bn.n_isinstance (by decide +kernel) (pa_cons (pv 9) (pa_cons (pe_bltn (v := .ty "list") rfl L.T.bn.n_list (by decide +kernel) rfl) pa_nil))))) (pw_or (pt_cmpR (op_neD (by exact h64)) (pv 9) (pv 8) (nomark _)) (pw_or1 (pt_not (pt_val (pe_callB (cr_all rfl) (by rfl) L.T.bn.n_all PyProof.Rows.boot_all (pa_cons (pe_lc (own := [("_law_part", 14)]) rfl sc_law.nd (pi_list (pv 9)) (blkOk_by (N := NL) (sc := defScope s_law) (by decide +kernel)) (fun _ _ _ _ _ => (pg_name (i := 14) sc_law.nd rfl (Or.inl rfl))) (fun _ _ _ _ _ => pts_nil)
        (fun _ _ _ _ _ => (pe_callB (show CallR _ _ (rIsi K) from call_isi) (by rfl) L.T.bn.n_isinstance (by decide +kernel) (pa_cons (pv 14) (pa_cons (pe_bltn (v := .ty "tuple") rfl L.T.bn.n_tuple (by decide +kernel) rfl) pa_nil))))) pa_nil))))))))
      (pss_one (ps_ret pe_bl))
      pss_nil) hu))))), ?_⟩
  intro n o tb R v0 v1 v3 v6 v7 v8 v9 v10 v11 v12 v13 v14 H1 n1 n8 tr an io tab
  have lenLow : ∀ S : Rl, (lowL n S).length ≤ 64 := fun S => Nat.le_trans (List.length_filter_le _ _) (prs_len n n8)
  -- the ways
  refine ⟨_, rfl, _, rfl, by omega, by omega, fun W nW => ?_⟩
  rw [Int.toNat_natCast]
  refine lc_range (fun i H' => Same H1 H' ∧ H' W = some (.lst ((List.range i).map fun s => V.int ((wayN n (orEq R s) : Nat) : Int)))) ⟨Same.put nW, upd_same⟩ ?_ ?_
  · rintro i H' hi ⟨s1, eW⟩
    rw [Int.zero_add]
    refine ⟨rfl, yes_of ?_⟩
    obtain ⟨rows, r1, r2, r3⟩ := tab.same s1
    have hrow : rows[i]? = some rows[i] := List.getElem?_eq_getElem (by omega)
    refine ⟨_, rfl, _, rfl, by omega, by omega, fun G nG => ?_⟩
    rw [Int.toNat_natCast]
    refine lc_range (fun j H'' => Same H' H'' ∧ ∃ ks : List Int, H'' G = some (.lst (ks.map V.int)) ∧ ks.length ≤ j ∧ ks.sum = ((wayN j (orEq R i) : Nat) : Int)) ⟨Same.put nG, [], upd_same, Nat.le_refl _, rfl⟩ ?_ ?_
    · rintro j H'' hj ⟨s2, ks, eG, lG, sG⟩
      rw [Int.zero_add]
      refine ⟨rfl, ?_⟩
      refine ⟨_, rfl, _, rfl, tb, _, _, _, rfl, rfl, SqL.of (s2 _ _ r1), atI_nat (by rw [List.getElem?_map, hrow]; rfl), ?_⟩
      refine ⟨_, rfl, rows[i], _, _, _, rfl, rfl, SqL.of (s2 _ _ (r3 _ _ hrow)), atI_nat (rowV_at hj), _, rfl, iteB (fun z => ?_) (fun z => ?_)⟩
      · refine ⟨_, rfl, j, rfl, rfl, by omega, _, eG, by rw [List.length_map]; exact small_len (by omega), Same.but (fun b u e => s2 _ _ e) nG, ks ++ [(2 : Int) ^ j], ?_, ?_, ?_⟩
        · rw [upd_same, List.map_append]
          rfl
        · rw [List.length_append]
          show ks.length + 1 ≤ j + 1
          omega
        · rw [List.sum_append, sG, List.sum_cons, List.sum_nil, Int.add_zero]
          show _ = ((wayN j (orEq R i) + (if orEq R i j = true then 2 ^ j else 0) : Nat) : Int)
          rw [if_pos z]
          simp
      · refine ⟨s2, ks, eG, by omega, ?_⟩
        show _ = ((wayN j (orEq R i) + (if orEq R i j = true then 2 ^ j else 0) : Nat) : Int)
        rw [if_neg (by rw [z]; decide), Nat.add_zero]
        exact sG
    · rintro H'' ⟨s2, ks, eG, lG, sG⟩
      refine ⟨G, ks, rfl, SqL.of eG, _, s2 _ _ eW, by rw [List.length_map, List.length_range]; exact small_len (by omega), Same.but (fun b u e => s2 _ _ (s1 _ _ e)) nW, ?_⟩
      rw [upd_same, List.range_succ, List.map_append, sG]
      rfl
  rintro H2 ⟨s1, eW⟩
  -- the masks
  have io2 := io.same s1
  clear tab nW
  have p256 := pow_le8 n8
  have e2n : ((2 : Int) ^ n) = ((2 ^ n : Nat) : Int) := by simp
  refine ⟨_, rfl, n, rfl, rfl, by omega, _, rfl, by rw [e2n]; exact Int.le_trans (by decide) (Int.natCast_nonneg _), by rw [e2n]; exact Int.lt_of_le_of_lt (Int.ofNat_le.mpr p256) (by decide), fun ml nml => ?_⟩
  rw [e2n, Int.toNat_natCast]
  refine lc_range (fun i H' => Same H2 H' ∧ H' ml = some (.lst (cV ((List.range i).filter (maskB n (orEq R)))))) ⟨Same.put nml, upd_same⟩ ?_ ?_
  · rintro i H' hi ⟨s2, em⟩
    rw [Int.zero_add]
    refine ⟨rfl, ?_⟩
    refine ⟨_, rfl, _, rfl, i, W, n, orEq R, rfl, n8, s2 _ _ eW, fun H3 s3 => ⟨_, rfl, iteB (fun z => ?_) (fun z => ?_)⟩⟩
    · refine ⟨_, rfl, _, s3 _ _ em, ?_, Same.but (fun b u e => s3 _ _ (s2 _ _ e)) nml, ?_⟩
      · rw [List.length_map]
        have := List.length_filter_le (maskB n (orEq R)) (List.range i)
        rw [List.length_range] at this
        exact small_len (by omega)
      · rw [upd_same, List.range_succ, List.filter_append, List.filter_cons, z]
        simp
    · refine ⟨s2.trans s3, ?_⟩
      rw [List.range_succ, List.filter_append, List.filter_cons, z]
      simpa using s3 _ _ em
  rintro H3 ⟨s2, em⟩
  have em : H3 ml = some (.lst (cV (masks n (orEq R)))) := em
  have io3 := io2.same s2
  have ml256 := masks_len (T := orEq R) n8
  -- what is due
  refine ⟨_, rfl, ml, rfl, ⟨_, SqL.of em⟩, fun D nD => ?_⟩
  refine lc_list (K := K) (a := ml) (xs := cV (masks n (orEq R))) (fun i H' => Same H3 H' ∧ ∃ us : List Tt, H' D = some (.lst (rfs us)) ∧ Tups K H' us ∧ us.map (·.2) = (List.range i).map (fun j => iN (mems ((masks n (orEq R)).getD j 0) n))) ⟨Same.put nD, [], upd_same, fun _ m => (by cases m), rfl⟩ (fun i H' _ h => SqL.of (h.1 _ _ em)) ?_ ?_
  · rintro i y H' hy ⟨s4, us, eD, pD, qD⟩
    rw [List.getElem?_map] at hy
    obtain ⟨m, hm, rfl⟩ : ∃ m, (masks n (orEq R))[i]? = some m ∧ y = V.int (m : Int) := by
      cases e : (masks n (orEq R))[i]? with
      | none => rw [e] at hy; cases hy
      | some m => rw [e] at hy; exact ⟨m, rfl, (Option.some.inj hy).symm⟩
    have il : i < 256 := by
      have := (List.getElem?_eq_some_iff.mp hm).1
      omega
    refine ⟨rfl, yes_of ?_⟩
    refine ⟨_, rfl, _, rfl, m, n, rfl, n8, fun t H4 s5 et => ?_⟩
    have gd : (masks n (orEq R)).getD i 0 = m := by rw [List.getD_eq_getElem?_getD, hm]; rfl
    exact more (f := fun j => iN (mems ((masks n (orEq R)).getD j 0) n)) nD (by omega) ⟨s4, eD, pD, qD⟩ s5 (by rw [gd]; exact et)
  rintro H4 ⟨s4, us, eD, pD, qD⟩
  have lenc : (cV (masks n (orEq R))).length = (masks n (orEq R)).length := List.length_map _
  rw [lenc, map_range (masks n (orEq R)) 0 (fun m => iN (mems m n)), ← base_masks] at qD
  have qB : (us.map (·.2)).Perm (baseL n R) := by rw [qD]
  refine ⟨D, us, rfl, SqL.of eD, pD, sort_nil qB (base_nil n _), fun ys d pm srt nd => ?_⟩
  have so := sort_made pD qB pm srt nd
  have s5 := Same.put (o := .lst (rfs ys)) nd
  generalize (upd H4 d (.lst (rfs ys))) = H5 at so s5 ⊢
  have io5 := (io3.same s4).same s5
  have em5 := s5 _ _ (s4 _ _ em)
  -- what is told
  refine ⟨_, rfl, o, n, lowL n R, rfl, io5, n8, lenLow R, fun t ts H6 s6 nt el pl sl ql => ?_⟩
  have told : Sorted K H6 t (baseL n R) := ⟨ts, el, pl, sl, ql⟩
  have dt : d ≠ t := by
    obtain ⟨_, e, _⟩ := so
    exact ne_of_none e nt
  have mt : ml ≠ t := ne_of_none em5 nt
  have lts : ts.length ≤ 256 := by
    have h1 := ql.length_eq
    rw [List.length_map, List.length_map] at h1
    have h3 := List.length_filter_le (upB (lowL n R)) (subs n)
    rw [subs_len] at h3
    omega
  obtain ⟨dd, d1, d2, sh⟩ := sorted_eq told (so.same s6)
  refine ⟨_, rfl, .ref t, .ty "list", _, _, true, rfl, .ty _, .base (.lst el), kit_ty (r := true) (by decide +kernel), _, rfl, ?_⟩
  refine iteF ?_
  refine ⟨_, rfl, _, rfl, dd, dd, d1, d2, sh, sh, _, rfl, no_ne (SeqAt.eqv_refl _ (SeqAt.canLay_of_shaped sh)) ?_⟩
  refine ⟨_, rfl, t, rfl, ⟨_, SqL.of el⟩, fun G nG => ?_⟩
  refine lc_list (K := K) (a := t) (xs := rfs ts) (fun i H' => Same H6 H' ∧ H' G = some (.lst ((List.replicate i true).map V.bl))) ⟨Same.put nG, upd_same⟩ (fun i H' _ h => SqL.of (h.1 _ _ el)) ?_ ?_
  · rintro i y H' hy ⟨s7, eG⟩
    obtain ⟨q, hq, hm, rfl⟩ := rfs_at hy
    have il : i < 256 := by
      have := (List.getElem?_eq_some_iff.mp hq).1
      omega
    have tq := SqT.up (pl q hm) s7
    refine ⟨rfl, yes_of ?_⟩
    refine ⟨_, rfl, .ref q.1, .ty "tuple", _, _, true, rfl, .ty _, tyX_tup tq, kit_ty (r := true) (by decide +kernel), _, eG, ?_, Same.but (fun b u e => s7 _ _ e) nG, ?_⟩
    · rw [List.length_map, List.length_replicate]
      exact small_len (by omega)
    · rw [upd_same, List.replicate_succ', List.map_append]
      rfl
  rintro H7 ⟨s7, eG⟩
  refine ⟨G, _, rfl, SqL.of eG, _, rfl, ?_⟩
  rw [show (List.replicate (rfs ts).length true).all id = true from List.all_eq_true.mpr fun b hb => (List.mem_replicate.mp hb).2]
  refine iteF ?_
  exact qu n o ml d t (rfs ts) R v0 v1 v3 _ _ _ _ _ _ _ H7 n1 n8 tr an ((io5.same s6).same s7) (s7 _ _ (s6 _ _ em5)) ((so.same s6).same s7) (s7 _ _ el) (by rw [rfs_len]; omega) dt mt
end
end K5

set_option Elab.async false
set_option linter.all false
set_option maxRecDepth 100000
set_option maxHeartbeats 4000000
namespace K5
open PySem L2
def spLaw (K : PySem.W.Frag) : Sp := fun vs H Q _ => ∃ (a : Addr) (ns : List Int), vs = [.ref a] ∧ SqL K H a (ns.map V.int) ∧ ns.length ≤ 63 ∧ ∀ H', Q (.bl true) H'
section
variable {P : Program} {w : World} {K : PySem.W.Frag} {mg : Str → Option Value} {base : Heap} {C : Addr}
theorem ok_law {f : Addr} {fd : FuncData} (F : Fun K "law" "law" s_law f fd) (L : LawT P w K mg base C) : FnOk P w K mg base CX0 8 f fd ["_law_script"] (spLaw K) := by
  refine F.ok sc_law (fun vs H Q E h => ?_) (fun cdv A outer s H vs Q E hr h => ?_)
  · obtain ⟨a, ns, rfl, _⟩ := h
    rfl
  · obtain ⟨a, ns, rfl, ha, hl, k⟩ := h
    obtain ⟨u, hu, qu⟩ := seg6 (f := f) (cdv := cdv) (A := A) (outer := outer) (s := s) (H := H) (E := E) L hr k
    refine ⟨_, (pss_cons (ps_set (i := 1) sc_law.nd rfl (Or.inl rfl) (pe_cal L.pool (hr.mono (by decide)) rfl (pa_cons (pv 0) pa_nil)))
      (pss_cons (ps_set (i := 2) sc_law.nd rfl (Or.inr rfl) (pe_op op_add pe_int (pe_cal L.draw (hr.mono (by decide)) rfl (pa_cons (pv 1) (pa_cons pe_int pa_nil)))))
      (pss_cons (ps_if (pt_cmpR op_eq (pe_cal L.draw (hr.mono (by decide)) rfl (pa_cons (pv 1) (pa_cons pe_int pa_nil))) pe_int (nomark _))
        (pss_one (ps_set (i := 2) sc_law.nd rfl (Or.inr rfl) (pe_op op_add pe_int (pe_cal L.draw (hr.mono (by decide)) rfl (pa_cons (pv 1) (pa_cons pe_int pa_nil))))))
        pss_nil)
      (pss_cons (ps_set (i := 3) sc_law.nd rfl (Or.inl rfl) (pe_cal L.ordps (hr.mono (by decide)) rfl (pa_cons (pv 1) (pa_cons (pv 2) pa_nil))))
      (pss_cons (ps_set (i := 4) sc_law.nd rfl (Or.inl rfl) (pe_ord L.m (hr.mono (by decide)) rfl (pa_cons (pv 2) (pa_cons (pv 3) pa_nil))))
      (pss_cons (ps_set (i := 5) sc_law.nd rfl (Or.inr rfl) (pe_cal L.table (hr.mono (by decide)) rfl (pa_cons (pv 2) (pa_cons (pv 3) pa_nil)))) hu)))))), ?_⟩
    refine ⟨_, rfl, a, ns, rfl, ha, hl, fun p H1 s1 np hp => ?_⟩
    -- behind the size
    have rest : ∀ (n : Nat) (H2 : Hp), 1 ≤ n → n ≤ 8 → PoolAt H2 p → (tSeq (tAsg (tCall spOrdPs [] E0 (tCons (tVar 1) (tCons (tVar 2) tNil))) (gName 3)) (tSeq (tAsg (tMake C (spOI C) [] E0 (tCons (tVar 2) (tCons (tVar 3) tNil))) (gName 4)) (tSeq (tAsg (tCall spTable [] E0 (tCons (tVar 2) (tCons (tVar 3) tNil))) (gName 5)) u))) { nx := fun _ H' => Q .non H', rt := Q } [some (.ref a), some (.ref p), some (.int (n : Int)), none, none, none, none, none, none, none, none, none, none, none, none] H2 := by
      intro n H2 n1 n8 hp2
      refine ⟨_, rfl, _, rfl, p, n, rfl, hp2, n1, n8, fun l ts H3 k3 hp3 el pt lt blt ⟨pos, up⟩ => ?_⟩
      have below : ∀ s t, wars (memR (ts.map (·.2))) n s t = true → pos s < pos t := wars_keep (fun s t => pos s < pos t) (fun _ _ _ => Nat.lt_trans) (fun s t h => by
        obtain ⟨q, hq, e⟩ := List.mem_map.mp (of_decide_eq_true h)
        have := up q hq
        rw [e] at this
        exact this) n
      have anti : Anti n (wars (memR (ts.map (·.2))) n) := fun s t h1 h2 => absurd (below t s h2) (by have := below s t h1; omega)
      refine ⟨_, rfl, _, rfl, fun z dz h1 h2 h3 => ?_⟩
      have go := @ord_ok C n l ts H3 (fun x H1 => gName 4 (.ref x) ([some (.ref a), some (.ref p), some (.int (n : Int)), some (.ref l), none, none, none, none, none, none, none, none, none, none, none]) H1 (tSeq (tAsg (tCall spTable [] E0 (tCons (tVar 2) (tCons (tVar 3) tNil))) (gName 5)) u { nx := fun _ H' => Q .non H', rt := Q })) E0 n1 n8 el pt lt blt anti ?_ z dz h1 h2 h3
      · exact go
      intro o H4 s4 io
      refine ⟨_, rfl, _, rfl, n, l, ts, rfl, n8, s4 _ _ el, pt.same s4, fun tb H5 s5 tab => ?_⟩
      rw [wars_orEq] at tab
      exact qu n o tb (wars (memR (ts.map (·.2))) n) _ _ _ _ _ _ _ none none none none none H5 n1 n8 (fun k s t hk => wars_trans n k s t hk) anti (io.same s5) tab
    refine ⟨_, rfl, p, 5, rfl, hp, by decide, by decide, fun x o x0 x1 ho => ⟨_, _, rfl, rfl, ?_⟩⟩
    refine ⟨_, rfl, p, 12, rfl, .put ho, by decide, by decide, fun y o2 y0 y1 ho2 => ⟨rfl, _, rfl, ite2 (fun _ => ?_) (fun _ => ?_)⟩⟩
    · refine ⟨_, rfl, p, 3, rfl, .put ho2, by decide, by decide, fun z o3 z0 z1 ho3 => ⟨_, _, rfl, rfl, ?_⟩⟩
      obtain ⟨n, rfl⟩ : ∃ n : Nat, z = (n : Int) := ⟨z.toNat, by omega⟩
      have e : (6 : Int) + (n : Int) = ((6 + n : Nat) : Int) := by omega
      have hp3 : PoolAt (upd (upd (upd H1 p o) p o2) p o3) p := .put ho3
      have := rest (6 + n) _ (by omega) (by omega) hp3
      rw [← e] at this
      exact this
    · obtain ⟨n, rfl⟩ : ∃ n : Nat, x = (n : Int) := ⟨x.toNat, by omega⟩
      have e : (1 : Int) + (n : Int) = ((1 + n : Nat) : Int) := by omega
      have hp3 : PoolAt (upd (upd H1 p o) p o2) p := .put ho2
      have := rest (1 + n) _ (by omega) (by omega) hp3
      rw [← e] at this
      exact this
end
end K5

set_option Elab.async false
set_option linter.all false
set_option maxRecDepth 100000
set_option maxHeartbeats 8000000
namespace K5
open PySem L2
section
variable {K : PySem.W.Frag} {mg : Str → Option Value} {h : Heap}
theorem all_mk {l : PySem.W.OpenLaw} {w : World} {fa C f_iw f_ib f_ii f_it f_ip f_xp f_OI f_pr f_tu f_lk f_us f_sb f_up f_ln f_pool f_draw f_turn f_lp f_op f_fl f_jo f_ta f_me f_lu f_law : Addr} (X : K.In h) (G : h.Ns mainGlobals mg) (hfa : mg "law" = some (.ref fa))
    {oc_iw kV_iw dc_iw pm_iw cd_iw ct_iw oc_ib kV_ib dc_ib pm_ib cd_ib ct_ib oc_ii kV_ii dc_ii pm_ii cd_ii ct_ii oc_it kV_it dc_it pm_it cd_it ct_it oc_ip kV_ip dc_ip pm_ip cd_ip ct_ip oc_xp kV_xp dc_xp pm_xp cd_xp ct_xp oc_OI kV_OI dc_OI pm_OI cd_OI ct_OI oc_pr kV_pr dc_pr pm_pr cd_pr ct_pr oc_tu kV_tu dc_tu pm_tu cd_tu ct_tu oc_lk kV_lk dc_lk pm_lk cd_lk ct_lk oc_us kV_us dc_us pm_us cd_us ct_us oc_sb kV_sb dc_sb pm_sb cd_sb ct_sb oc_up kV_up dc_up pm_up cd_up ct_up oc_ln kV_ln dc_ln pm_ln cd_ln ct_ln oc_pool kV_pool dc_pool pm_pool cd_pool ct_pool oc_draw kV_draw dc_draw pm_draw cd_draw ct_draw oc_turn kV_turn dc_turn pm_turn cd_turn ct_turn oc_lp kV_lp dc_lp pm_lp cd_lp ct_lp oc_op kV_op dc_op pm_op cd_op ct_op oc_fl kV_fl dc_fl pm_fl cd_fl ct_fl oc_jo kV_jo dc_jo pm_jo cd_jo ct_jo oc_ta kV_ta dc_ta pm_ta cd_ta ct_ta oc_me kV_me dc_me pm_me cd_me ct_me oc_lu kV_lu dc_lu pm_lu cd_lu ct_lu oc_law kV_law dc_law pm_law cd_law ct_law : Value} {od_iw an_iw od_ib an_ib od_ii an_ii od_it an_it od_ip an_ip od_xp an_xp od_OI an_OI od_pr an_pr od_tu an_tu od_lk an_lk od_us an_us od_sb an_sb od_up an_up od_ln an_ln od_pool an_pool od_draw an_draw od_turn an_turn od_lp an_lp od_op an_op od_fl an_fl od_jo an_jo od_ta an_ta od_me an_me od_lu an_lu od_law an_law : Option Addr} {sl_iw sl_ib sl_ii sl_it sl_ip sl_xp sl_OI sl_pr sl_tu sl_lk sl_us sl_sb sl_up sl_ln sl_pool sl_draw sl_turn sl_lp sl_op sl_fl sl_jo sl_ta sl_me sl_lu sl_law : Array (Option Value)}
    {bl : Int} {tk : Tok}
    (aC : PySem.W.nsIn K mainGlobals "Order" = some (some (.ref C)))
    (aM : PySem.W.nsIn K mainGlobals "MOST_ORDERED" = some (some (.int bl tk)))
    (eM : bl = 8)
    (n_isinstance : PySem.W.nsIn K mainGlobals "isinstance" = some none)
    (n_int : PySem.W.nsIn K mainGlobals "int" = some none)
    (n_bool : PySem.W.nsIn K mainGlobals "bool" = some none)
    (n_abs : PySem.W.nsIn K mainGlobals "abs" = some none)
    (n_len : PySem.W.nsIn K mainGlobals "len" = some none)
    (n_list : PySem.W.nsIn K mainGlobals "list" = some none)
    (n_tuple : PySem.W.nsIn K mainGlobals "tuple" = some none)
    (n_range : PySem.W.nsIn K mainGlobals "range" = some none)
    (n_all : PySem.W.nsIn K mainGlobals "all" = some none)
    (n_any : PySem.W.nsIn K mainGlobals "any" = some none)
    (n_sum : PySem.W.nsIn K mainGlobals "sum" = some none)
    (n_sorted : PySem.W.nsIn K mainGlobals "sorted" = some none)
    (a_iw : PySem.W.nsIn K mainGlobals "is_whole" = some (some (.ref f_iw)))
    (l_iw : K.lookup f_iw = some ⟨oc_iw, od_iw, .func (PySem.W.fnOf "is_whole" "is_whole" (defArgs s_is_whole) (defBody s_is_whole) (defScope s_is_whole) .none kV_iw dc_iw pm_iw an_iw cd_iw ct_iw), sl_iw⟩)
    (c_iw : PySem.W.codeIn K cd_iw "is_whole" = true)
    (k_iw : PySem.W.keepIn K (.ref f_iw) = true)
    (a_ib : PySem.W.nsIn K mainGlobals "is_between" = some (some (.ref f_ib)))
    (l_ib : K.lookup f_ib = some ⟨oc_ib, od_ib, .func (PySem.W.fnOf "is_between" "is_between" (defArgs s_is_between) (defBody s_is_between) (defScope s_is_between) .none kV_ib dc_ib pm_ib an_ib cd_ib ct_ib), sl_ib⟩)
    (c_ib : PySem.W.codeIn K cd_ib "is_between" = true)
    (k_ib : PySem.W.keepIn K (.ref f_ib) = true)
    (a_ii : PySem.W.nsIn K mainGlobals "is_index" = some (some (.ref f_ii)))
    (l_ii : K.lookup f_ii = some ⟨oc_ii, od_ii, .func (PySem.W.fnOf "is_index" "is_index" (defArgs s_is_index) (defBody s_is_index) (defScope s_is_index) .none kV_ii dc_ii pm_ii an_ii cd_ii ct_ii), sl_ii⟩)
    (c_ii : PySem.W.codeIn K cd_ii "is_index" = true)
    (k_ii : PySem.W.keepIn K (.ref f_ii) = true)
    (a_it : PySem.W.nsIn K mainGlobals "is_tuple_of" = some (some (.ref f_it)))
    (l_it : K.lookup f_it = some ⟨oc_it, od_it, .func (PySem.W.fnOf "is_tuple_of" "is_tuple_of" (defArgs s_is_tuple_of) (defBody s_is_tuple_of) (defScope s_is_tuple_of) .none kV_it dc_it pm_it an_it cd_it ct_it), sl_it⟩)
    (c_it : PySem.W.codeIn K cd_it "is_tuple_of" = true)
    (k_it : PySem.W.keepIn K (.ref f_it) = true)
    (a_ip : PySem.W.nsIn K mainGlobals "is_index_pair" = some (some (.ref f_ip)))
    (l_ip : K.lookup f_ip = some ⟨oc_ip, od_ip, .func (PySem.W.fnOf "is_index_pair" "is_index_pair" (defArgs s_is_index_pair) (defBody s_is_index_pair) (defScope s_is_index_pair) .none kV_ip dc_ip pm_ip an_ip cd_ip ct_ip), sl_ip⟩)
    (c_ip : PySem.W.codeIn K cd_ip "is_index_pair" = true)
    (k_ip : PySem.W.keepIn K (.ref f_ip) = true)
    (a_xp : PySem.W.nsIn K mainGlobals "index_pairs" = some (some (.ref f_xp)))
    (l_xp : K.lookup f_xp = some ⟨oc_xp, od_xp, .func (PySem.W.fnOf "index_pairs" "index_pairs" (defArgs s_index_pairs) (defBody s_index_pairs) (defScope s_index_pairs) .none kV_xp dc_xp pm_xp an_xp cd_xp ct_xp), sl_xp⟩)
    (c_xp : PySem.W.codeIn K cd_xp "index_pairs" = true)
    (k_xp : PySem.W.keepIn K (.ref f_xp) = true)
    (a_OI : PySem.W.findIn K (.ref C) "__init__" = some (some (.ref f_OI)))
    (l_OI : K.lookup f_OI = some ⟨oc_OI, od_OI, .func (PySem.W.fnOf "__init__" "Order.__init__" (defArgs s_OI) (defBody s_OI) (defScope s_OI) .none kV_OI dc_OI pm_OI an_OI cd_OI ct_OI), sl_OI⟩)
    (c_OI : PySem.W.codeIn K cd_OI "Order.__init__" = true)
    (k_OI : PySem.W.keepIn K (.ref f_OI) = true)
    (a_pr : PySem.W.findIn K (.ref C) "pairs" = some (some (.ref f_pr)))
    (l_pr : K.lookup f_pr = some ⟨oc_pr, od_pr, .func (PySem.W.fnOf "pairs" "Order.pairs" (defArgs s_Order_pairs) (defBody s_Order_pairs) (defScope s_Order_pairs) .none kV_pr dc_pr pm_pr an_pr cd_pr ct_pr), sl_pr⟩)
    (c_pr : PySem.W.codeIn K cd_pr "Order.pairs" = true)
    (k_pr : PySem.W.keepIn K (.ref f_pr) = true)
    (a_tu : PySem.W.findIn K (.ref C) "turned" = some (some (.ref f_tu)))
    (l_tu : K.lookup f_tu = some ⟨oc_tu, od_tu, .func (PySem.W.fnOf "turned" "Order.turned" (defArgs s_turned) (defBody s_turned) (defScope s_turned) .none kV_tu dc_tu pm_tu an_tu cd_tu ct_tu), sl_tu⟩)
    (c_tu : PySem.W.codeIn K cd_tu "Order.turned" = true)
    (k_tu : PySem.W.keepIn K (.ref f_tu) = true)
    (a_lk : PySem.W.nsIn K mainGlobals "linked" = some (some (.ref f_lk)))
    (l_lk : K.lookup f_lk = some ⟨oc_lk, od_lk, .func (PySem.W.fnOf "linked" "linked" (defArgs s_linked) (defBody s_linked) (defScope s_linked) .none kV_lk dc_lk pm_lk an_lk cd_lk ct_lk), sl_lk⟩)
    (c_lk : PySem.W.codeIn K cd_lk "linked" = true)
    (k_lk : PySem.W.keepIn K (.ref f_lk) = true)
    (a_us : PySem.W.nsIn K mainGlobals "up_sets" = some (some (.ref f_us)))
    (l_us : K.lookup f_us = some ⟨oc_us, od_us, .func (PySem.W.fnOf "up_sets" "up_sets" (defArgs s_up_sets) (defBody s_up_sets) (defScope s_up_sets) .none kV_us dc_us pm_us an_us cd_us ct_us), sl_us⟩)
    (c_us : PySem.W.codeIn K cd_us "up_sets" = true)
    (k_us : PySem.W.keepIn K (.ref f_us) = true)
    (a_sb : PySem.W.nsIn K mainGlobals "subsets" = some (some (.ref f_sb)))
    (l_sb : K.lookup f_sb = some ⟨oc_sb, od_sb, .func (PySem.W.fnOf "subsets" "subsets" (defArgs s_subsets) (defBody s_subsets) (defScope s_subsets) .none kV_sb dc_sb pm_sb an_sb cd_sb ct_sb), sl_sb⟩)
    (c_sb : PySem.W.codeIn K cd_sb "subsets" = true)
    (k_sb : PySem.W.keepIn K (.ref f_sb) = true)
    (a_up : PySem.W.nsIn K mainGlobals "is_up" = some (some (.ref f_up)))
    (l_up : K.lookup f_up = some ⟨oc_up, od_up, .func (PySem.W.fnOf "is_up" "is_up" (defArgs s_is_up) (defBody s_is_up) (defScope s_is_up) .none kV_up dc_up pm_up an_up cd_up ct_up), sl_up⟩)
    (c_up : PySem.W.codeIn K cd_up "is_up" = true)
    (k_up : PySem.W.keepIn K (.ref f_up) = true)
    (a_ln : PySem.W.nsIn K mainGlobals "line" = some (some (.ref f_ln)))
    (l_ln : K.lookup f_ln = some ⟨oc_ln, od_ln, .func (PySem.W.fnOf "line" "line" (defArgs s_line) (defBody s_line) (defScope s_line) .none kV_ln dc_ln pm_ln an_ln cd_ln ct_ln), sl_ln⟩)
    (c_ln : PySem.W.codeIn K cd_ln "line" = true)
    (k_ln : PySem.W.keepIn K (.ref f_ln) = true)
    (a_pool : PySem.W.nsIn K mainGlobals "_law_pool" = some (some (.ref f_pool)))
    (l_pool : K.lookup f_pool = some ⟨oc_pool, od_pool, .func (PySem.W.fnOf "_law_pool" "_law_pool" (defArgs s_pool) (defBody s_pool) (defScope s_pool) .none kV_pool dc_pool pm_pool an_pool cd_pool ct_pool), sl_pool⟩)
    (c_pool : PySem.W.codeIn K cd_pool "_law_pool" = true)
    (k_pool : PySem.W.keepIn K (.ref f_pool) = true)
    (a_draw : PySem.W.nsIn K mainGlobals "_law_draw" = some (some (.ref f_draw)))
    (l_draw : K.lookup f_draw = some ⟨oc_draw, od_draw, .func (PySem.W.fnOf "_law_draw" "_law_draw" (defArgs s_draw) (defBody s_draw) (defScope s_draw) .none kV_draw dc_draw pm_draw an_draw cd_draw ct_draw), sl_draw⟩)
    (c_draw : PySem.W.codeIn K cd_draw "_law_draw" = true)
    (k_draw : PySem.W.keepIn K (.ref f_draw) = true)
    (a_turn : PySem.W.nsIn K mainGlobals "_law_turned_about" = some (some (.ref f_turn)))
    (l_turn : K.lookup f_turn = some ⟨oc_turn, od_turn, .func (PySem.W.fnOf "_law_turned_about" "_law_turned_about" (defArgs s_turn) (defBody s_turn) (defScope s_turn) .none kV_turn dc_turn pm_turn an_turn cd_turn ct_turn), sl_turn⟩)
    (c_turn : PySem.W.codeIn K cd_turn "_law_turned_about" = true)
    (k_turn : PySem.W.keepIn K (.ref f_turn) = true)
    (a_lp : PySem.W.nsIn K mainGlobals "_law_pairs" = some (some (.ref f_lp)))
    (l_lp : K.lookup f_lp = some ⟨oc_lp, od_lp, .func (PySem.W.fnOf "_law_pairs" "_law_pairs" (defArgs s_lpairs) (defBody s_lpairs) (defScope s_lpairs) .none kV_lp dc_lp pm_lp an_lp cd_lp ct_lp), sl_lp⟩)
    (c_lp : PySem.W.codeIn K cd_lp "_law_pairs" = true)
    (k_lp : PySem.W.keepIn K (.ref f_lp) = true)
    (a_op : PySem.W.nsIn K mainGlobals "_law_order_pairs" = some (some (.ref f_op)))
    (l_op : K.lookup f_op = some ⟨oc_op, od_op, .func (PySem.W.fnOf "_law_order_pairs" "_law_order_pairs" (defArgs s_ordps) (defBody s_ordps) (defScope s_ordps) .none kV_op dc_op pm_op an_op cd_op ct_op), sl_op⟩)
    (c_op : PySem.W.codeIn K cd_op "_law_order_pairs" = true)
    (k_op : PySem.W.keepIn K (.ref f_op) = true)
    (a_fl : PySem.W.nsIn K mainGlobals "_law_flags" = some (some (.ref f_fl)))
    (l_fl : K.lookup f_fl = some ⟨oc_fl, od_fl, .func (PySem.W.fnOf "_law_flags" "_law_flags" (defArgs s_flags) (defBody s_flags) (defScope s_flags) .none kV_fl dc_fl pm_fl an_fl cd_fl ct_fl), sl_fl⟩)
    (c_fl : PySem.W.codeIn K cd_fl "_law_flags" = true)
    (k_fl : PySem.W.keepIn K (.ref f_fl) = true)
    (a_jo : PySem.W.nsIn K mainGlobals "_law_joined" = some (some (.ref f_jo)))
    (l_jo : K.lookup f_jo = some ⟨oc_jo, od_jo, .func (PySem.W.fnOf "_law_joined" "_law_joined" (defArgs s_joined) (defBody s_joined) (defScope s_joined) .none kV_jo dc_jo pm_jo an_jo cd_jo ct_jo), sl_jo⟩)
    (c_jo : PySem.W.codeIn K cd_jo "_law_joined" = true)
    (k_jo : PySem.W.keepIn K (.ref f_jo) = true)
    (a_ta : PySem.W.nsIn K mainGlobals "_law_table" = some (some (.ref f_ta)))
    (l_ta : K.lookup f_ta = some ⟨oc_ta, od_ta, .func (PySem.W.fnOf "_law_table" "_law_table" (defArgs s_table) (defBody s_table) (defScope s_table) .none kV_ta dc_ta pm_ta an_ta cd_ta ct_ta), sl_ta⟩)
    (c_ta : PySem.W.codeIn K cd_ta "_law_table" = true)
    (k_ta : PySem.W.keepIn K (.ref f_ta) = true)
    (a_me : PySem.W.nsIn K mainGlobals "_law_members" = some (some (.ref f_me)))
    (l_me : K.lookup f_me = some ⟨oc_me, od_me, .func (PySem.W.fnOf "_law_members" "_law_members" (defArgs s_members) (defBody s_members) (defScope s_members) .none kV_me dc_me pm_me an_me cd_me ct_me), sl_me⟩)
    (c_me : PySem.W.codeIn K cd_me "_law_members" = true)
    (k_me : PySem.W.keepIn K (.ref f_me) = true)
    (a_lu : PySem.W.nsIn K mainGlobals "_law_is_up" = some (some (.ref f_lu)))
    (l_lu : K.lookup f_lu = some ⟨oc_lu, od_lu, .func (PySem.W.fnOf "_law_is_up" "_law_is_up" (defArgs s_lawup) (defBody s_lawup) (defScope s_lawup) .none kV_lu dc_lu pm_lu an_lu cd_lu ct_lu), sl_lu⟩)
    (c_lu : PySem.W.codeIn K cd_lu "_law_is_up" = true)
    (k_lu : PySem.W.keepIn K (.ref f_lu) = true)
    (a_law : PySem.W.nsIn K mainGlobals "law" = some (some (.ref f_law)))
    (l_law : K.lookup f_law = some ⟨oc_law, od_law, .func (PySem.W.fnOf "law" "law" (defArgs s_law) (defBody s_law) (defScope s_law) .none kV_law dc_law pm_law an_law cd_law ct_law), sl_law⟩)
    (c_law : PySem.W.codeIn K cd_law "law" = true)
    (k_law : PySem.W.keepIn K (.ref f_law) = true)
    (pg : PySem.W.plainGet K C Str.empty = true)
    (hd : PySem.W.hasDictIn K C = true)
    (po : PySem.W.plainOver K C = true)
    (sa : PySem.W.findIn K (.ref C) "__setattr__" = some (some (.builtin "object.__setattr__")))
    (mk : PySem.W.makesIn K C = true)
    (kc : PySem.W.keepIn K (.ref C) = true)
    (nS : PySem.W.findIn K (.ref C) "size" = some none)
    (nL : PySem.W.findIn K (.ref C) "_lower" = some none)
    (i_OI : PySem.W.isFn K (.ref f_OI) = true)
    (i_pr : PySem.W.isFn K (.ref f_pr) = true)
    (i_tu : PySem.W.isFn K (.ref f_tu) = true) :
    ∃ fd : FuncData, (∀ (s : Shared) (v : Value), BindsTo s fd ⟨[v], []⟩ [("_law_script", v)]) ∧ ∀ base : Heap, K.In base → base.Ns mainGlobals mg → FnOk l.prog w K mg base CX0 8 fa fd ["_law_script"] (spLaw K) := by
  have e := hfa.symm.trans (PySem.W.mg_of X G a_law)
  cases e
  subst eM
  have F_iw := fun_mk (st := s_is_whole) l_iw c_iw k_iw
  have F_ib := fun_mk (st := s_is_between) l_ib c_ib k_ib
  have F_ii := fun_mk (st := s_is_index) l_ii c_ii k_ii
  have F_it := fun_mk (st := s_is_tuple_of) l_it c_it k_it
  have F_ip := fun_mk (st := s_is_index_pair) l_ip c_ip k_ip
  have F_xp := fun_mk (st := s_index_pairs) l_xp c_xp k_xp
  have F_OI := fun_mk (st := s_OI) l_OI c_OI k_OI
  have F_pr := fun_mk (st := s_Order_pairs) l_pr c_pr k_pr
  have F_tu := fun_mk (st := s_turned) l_tu c_tu k_tu
  have F_lk := fun_mk (st := s_linked) l_lk c_lk k_lk
  have F_us := fun_mk (st := s_up_sets) l_us c_us k_us
  have F_sb := fun_mk (st := s_subsets) l_sb c_sb k_sb
  have F_up := fun_mk (st := s_is_up) l_up c_up k_up
  have F_ln := fun_mk (st := s_line) l_ln c_ln k_ln
  have F_pool := fun_mk (st := s_pool) l_pool c_pool k_pool
  have F_draw := fun_mk (st := s_draw) l_draw c_draw k_draw
  have F_turn := fun_mk (st := s_turn) l_turn c_turn k_turn
  have F_lp := fun_mk (st := s_lpairs) l_lp c_lp k_lp
  have F_op := fun_mk (st := s_ordps) l_op c_op k_op
  have F_fl := fun_mk (st := s_flags) l_fl c_fl k_fl
  have F_jo := fun_mk (st := s_joined) l_jo c_jo k_jo
  have F_ta := fun_mk (st := s_table) l_ta c_ta k_ta
  have F_me := fun_mk (st := s_members) l_me c_me k_me
  have F_lu := fun_mk (st := s_lawup) l_lu c_lu k_lu
  have F_law := fun_mk (st := s_law) l_law c_law k_law
  have b_iw := F_iw.binds (ps := ["thing"]) fun _ _ _ _ _ _ us hl => match us, hl with | [_], _ => rfl
  have b_ib := F_ib.binds (ps := ["least", "most", "thing"]) fun _ _ _ _ _ _ us hl => match us, hl with | [_, _, _], _ => rfl
  have b_ii := F_ii.binds (ps := ["many", "thing"]) fun _ _ _ _ _ _ us hl => match us, hl with | [_, _], _ => rfl
  have b_it := F_it.binds (ps := ["many", "thing"]) fun _ _ _ _ _ _ us hl => match us, hl with | [_, _], _ => rfl
  have b_ip := F_ip.binds (ps := ["many", "thing"]) fun _ _ _ _ _ _ us hl => match us, hl with | [_, _], _ => rfl
  have b_xp := F_xp.binds (ps := ["many"]) fun _ _ _ _ _ _ us hl => match us, hl with | [_], _ => rfl
  have b_OI := F_OI.binds (ps := ["self", "size", "pairs"]) fun _ _ _ _ _ _ us hl => match us, hl with | [_, _, _], _ => rfl
  have b_pr := F_pr.binds (ps := ["self"]) fun _ _ _ _ _ _ us hl => match us, hl with | [_], _ => rfl
  have b_tu := F_tu.binds (ps := ["self"]) fun _ _ _ _ _ _ us hl => match us, hl with | [_], _ => rfl
  have b_lk := F_lk.binds (ps := ["size", "pairs"]) fun _ _ _ _ _ _ us hl => match us, hl with | [_, _], _ => rfl
  have b_us := F_us.binds (ps := ["order"]) fun _ _ _ _ _ _ us hl => match us, hl with | [_], _ => rfl
  have b_sb := F_sb.binds (ps := ["many"]) fun _ _ _ _ _ _ us hl => match us, hl with | [_], _ => rfl
  have b_up := F_up.binds (ps := ["order", "states"]) fun _ _ _ _ _ _ us hl => match us, hl with | [_, _], _ => rfl
  have b_ln := F_ln.binds (ps := ["size"]) fun _ _ _ _ _ _ us hl => match us, hl with | [_], _ => rfl
  have b_pool := F_pool.binds (ps := ["_law_script"]) fun _ _ _ _ _ _ us hl => match us, hl with | [_], _ => rfl
  have b_draw := F_draw.binds (ps := ["_law_pool_here", "_law_many"]) fun _ _ _ _ _ _ us hl => match us, hl with | [_, _], _ => rfl
  have b_turn := F_turn.binds (ps := ["_law_pool_here", "_law_things"]) fun _ _ _ _ _ _ us hl => match us, hl with | [_, _], _ => rfl
  have b_lp := F_lp.binds (ps := ["_law_size"]) fun _ _ _ _ _ _ us hl => match us, hl with | [_], _ => rfl
  have b_op := F_op.binds (ps := ["_law_pool_here", "_law_size"]) fun _ _ _ _ _ _ us hl => match us, hl with | [_, _], _ => rfl
  have b_fl := F_fl.binds (ps := ["_law_size", "_law_pairs_here", "_law_s"]) fun _ _ _ _ _ _ us hl => match us, hl with | [_, _, _], _ => rfl
  have b_jo := F_jo.binds (ps := ["_law_table_here", "_law_row", "_law_via"]) fun _ _ _ _ _ _ us hl => match us, hl with | [_, _, _], _ => rfl
  have b_ta := F_ta.binds (ps := ["_law_size", "_law_pairs_here"]) fun _ _ _ _ _ _ us hl => match us, hl with | [_, _], _ => rfl
  have b_me := F_me.binds (ps := ["_law_mask", "_law_size"]) fun _ _ _ _ _ _ us hl => match us, hl with | [_, _], _ => rfl
  have b_lu := F_lu.binds (ps := ["_law_mask", "_law_ways"]) fun _ _ _ _ _ _ us hl => match us, hl with | [_, _], _ => rfl
  have bn : Bn mg := ⟨PySem.W.mg_none_of X G n_isinstance, PySem.W.mg_none_of X G n_int, PySem.W.mg_none_of X G n_bool, PySem.W.mg_none_of X G n_abs, PySem.W.mg_none_of X G n_len, PySem.W.mg_none_of X G n_list, PySem.W.mg_none_of X G n_tuple, PySem.W.mg_none_of X G n_range, PySem.W.mg_none_of X G n_all, PySem.W.mg_none_of X G n_any, PySem.W.mg_none_of X G n_sum, PySem.W.mg_none_of X G n_sorted⟩
  have T : OrT K mg C := { bn := bn, cl := ⟨pg, hd, po, sa⟩, nS := nS, nL := nL, gO := PySem.W.mg_of X G aC, gM := ⟨tk, PySem.W.mg_of X G aM⟩ }
  refine ⟨_, fun s v => .of_eq rfl, fun base _ _ => ok_law (C := C) F_law ?_⟩
  have c_iw : Cal l.prog w K mg base 1 "is_whole" ["thing"] spWhole := ⟨_, _, PySem.W.mg_of X G a_iw, k_iw, ok_is_whole F_iw bn, b_iw⟩
  have c_ib : Cal l.prog w K mg base 2 "is_between" ["least", "most", "thing"] spBetween := ⟨_, _, PySem.W.mg_of X G a_ib, k_ib, ok_is_between F_ib c_iw, b_ib⟩
  have c_ii : Cal l.prog w K mg base 3 "is_index" ["many", "thing"] spIndex := ⟨_, _, PySem.W.mg_of X G a_ii, k_ii, ok_is_index F_ii c_ib, b_ii⟩
  have c_it : Cal l.prog w K mg base 1 "is_tuple_of" ["many", "thing"] spTup2 := ⟨_, _, PySem.W.mg_of X G a_it, k_it, ok_is_tuple_of F_it bn, b_it⟩
  have c_ip : Cal l.prog w K mg base 4 "is_index_pair" ["many", "thing"] spIxPair := ⟨_, _, PySem.W.mg_of X G a_ip, k_ip, ok_is_index_pair F_ip c_it c_ii, b_ip⟩
  have c_xp : Cal l.prog w K mg base 1 "index_pairs" ["many"] spIxPrs := ⟨_, _, PySem.W.mg_of X G a_xp, k_xp, ok_index_pairs F_xp bn, b_xp⟩
  have c_lk : Cal l.prog w K mg base 2 "linked" ["size", "pairs"] (spLinked K) := ⟨_, _, PySem.W.mg_of X G a_lk, k_lk, ok_linked F_lk bn c_xp, b_lk⟩
  have c_sb : Cal l.prog w K mg base 1 "subsets" ["many"] (spSubs K) := ⟨_, _, PySem.W.mg_of X G a_sb, k_sb, ok_subsets F_sb bn, b_sb⟩
  have pt : PairsT l.prog w K mg base C := ⟨_, _, ⟨a_pr, i_pr, k_pr⟩, ok_Order_pairs F_pr T, b_pr⟩
  have c_up : Cal l.prog w K mg base 2 "is_up" ["order", "states"] (spIsUp K C) := ⟨_, _, PySem.W.mg_of X G a_up, k_up, ok_is_up F_up T pt, b_up⟩
  have m : MkO l.prog w K mg base C := { ex := ⟨_, _, ⟨mk, a_OI, i_OI, kc⟩, ok_OI F_OI T c_ib c_ip c_lk, b_OI⟩, gO := T.gO }
  have tt : TurnedT l.prog w K mg base C := ⟨_, _, ⟨a_tu, i_tu, k_tu⟩, ok_turned F_tu T m, b_tu⟩
  have c_ln : Cal l.prog w K mg base 7 "line" ["size"] (spLine C) := ⟨_, _, PySem.W.mg_of X G a_ln, k_ln, ok_line F_ln T m c_ib, b_ln⟩
  have c_us : Cal l.prog w K mg base 3 "up_sets" ["order"] (spUps K C) := ⟨_, _, PySem.W.mg_of X G a_us, k_us, ok_up_sets F_us T c_sb c_up, b_us⟩
  have c_pool : Cal l.prog w K mg base 1 "_law_pool" ["_law_script"] (spPool K) := ⟨_, _, PySem.W.mg_of X G a_pool, k_pool, ok_pool F_pool bn, b_pool⟩
  have c_draw : Cal l.prog w K mg base 1 "_law_draw" ["_law_pool_here", "_law_many"] spDraw := ⟨_, _, PySem.W.mg_of X G a_draw, k_draw, ok_draw F_draw bn, b_draw⟩
  have c_turn : Cal l.prog w K mg base 2 "_law_turned_about" ["_law_pool_here", "_law_things"] spTurnAbout := ⟨_, _, PySem.W.mg_of X G a_turn, k_turn, ok_turn F_turn bn c_draw, b_turn⟩
  have c_lp : Cal l.prog w K mg base 1 "_law_pairs" ["_law_size"] spLawPairs := ⟨_, _, PySem.W.mg_of X G a_lp, k_lp, ok_lpairs F_lp bn, b_lp⟩
  have c_op : Cal l.prog w K mg base 3 "_law_order_pairs" ["_law_pool_here", "_law_size"] spOrdPs := ⟨_, _, PySem.W.mg_of X G a_op, k_op, ok_ordps F_op bn c_draw c_turn c_lp, b_op⟩
  have c_fl : Cal l.prog w K mg base 1 "_law_flags" ["_law_size", "_law_pairs_here", "_law_s"] spFlags := ⟨_, _, PySem.W.mg_of X G a_fl, k_fl, ok_flags F_fl bn, b_fl⟩
  have c_jo : Cal l.prog w K mg base 1 "_law_joined" ["_law_table_here", "_law_row", "_law_via"] spJoined := ⟨_, _, PySem.W.mg_of X G a_jo, k_jo, ok_joined F_jo bn, b_jo⟩
  have c_ta : Cal l.prog w K mg base 2 "_law_table" ["_law_size", "_law_pairs_here"] spTable := ⟨_, _, PySem.W.mg_of X G a_ta, k_ta, ok_table F_ta bn c_fl c_jo, b_ta⟩
  have c_me : Cal l.prog w K mg base 1 "_law_members" ["_law_mask", "_law_size"] spMembers := ⟨_, _, PySem.W.mg_of X G a_me, k_me, ok_members F_me bn, b_me⟩
  have c_lu : Cal l.prog w K mg base 1 "_law_is_up" ["_law_mask", "_law_ways"] spLawUp := ⟨_, _, PySem.W.mg_of X G a_lu, k_lu, ok_lawup F_lu bn, b_lu⟩
  exact { T := T, m := m, turned := tt, pool := c_pool, draw := c_draw, ordps := c_op, table := c_ta, lawup := c_lu, members := c_me, ups := c_us, line := c_ln }
end
theorem walk {l : PySem.W.OpenLaw} {q : Program} {loose : List Str} {XP : (Str → Option Value) → Heap → Prop} {YP : World → Heap → Prop} {d : DefRec} {K : Params → PySem.W.Frag} (hn : l.most = some 63) (hdf : d.params.defaults = [])
    (hY : ∀ (w : World) (h : Heap), YP w h → (K w.params).In h)
    (F : ∀ (w : World) (mg : Str → Option Value) (fa : Addr) (h : Heap), (K w.params).In h → h.Ns mainGlobals mg → mg d.name = some (.ref fa) →
      ∃ fd : FuncData, (∀ (s : Shared) (u : Value), BindsTo s fd ⟨[u], []⟩ [("_law_script", u)]) ∧ ∀ base : Heap, (K w.params).In base → base.Ns mainGlobals mg → FnOk l.prog w (K w.params) mg base CX0 8 fa fd ["_law_script"] (spLaw (K w.params))) :
    PySem.W.WalkO q loose XP YP l.row.toRowW d [] (fun f vs => PySem.call f vs) :=
  L2.walk_of (n := 63) (k := 8) (x := "_law_script") (CX := fun _ => CX0) (sp := fun w => spLaw (K w.params)) hn (by decide) hdf ⟨rfl, by decide, by decide⟩ hY F (fun _ _ a ns hl _ hS => ⟨a, ns, rfl, hS, hl, fun _ => rfl⟩) fun _ _ _ _ _ z => z
end K5

set_option Elab.async false
set_option maxRecDepth 100000
open PySem PySem.W PyProof.Rows
set_option maxRecDepth 100000
set_option maxHeartbeats 0
open_top head for PySem.Challenge.rw_bothwalks_k56_up_sets_of_an_order

set_option Elab.async false
set_option maxRecDepth 100000
set_option maxHeartbeats 0
open PySem PySem.W PyProof.Rows
theorem PySem.Challenge.cw_bothwalks_k56_up_sets_of_an_order_holds : PySem.Challenge.rw_bothwalks_k56_up_sets_of_an_order.Holds := by
  refine head ?_
  k_fill
  refine K5.walk (l := PySem.Challenge.rw_bothwalks_k56_up_sets_of_an_order) rfl rfl (fun w h Y => PySem.W.kIn_of Y) ?F
  case F =>
    intro w mg fa h KX G hmg
    refine' K5.all_mk KX G hmg ?aC ?aM ?eM ?n_isinstance ?n_int ?n_bool ?n_abs ?n_len ?n_list ?n_tuple ?n_range ?n_all ?n_any ?n_sum ?n_sorted ?a_iw ?l_iw ?c_iw ?k_iw ?a_ib ?l_ib ?c_ib ?k_ib ?a_ii ?l_ii ?c_ii ?k_ii ?a_it ?l_it ?c_it ?k_it ?a_ip ?l_ip ?c_ip ?k_ip ?a_xp ?l_xp ?c_xp ?k_xp ?a_OI ?l_OI ?c_OI ?k_OI ?a_pr ?l_pr ?c_pr ?k_pr ?a_tu ?l_tu ?c_tu ?k_tu ?a_lk ?l_lk ?c_lk ?k_lk ?a_us ?l_us ?c_us ?k_us ?a_sb ?l_sb ?c_sb ?k_sb ?a_up ?l_up ?c_up ?k_up ?a_ln ?l_ln ?c_ln ?k_ln ?a_pool ?l_pool ?c_pool ?k_pool ?a_draw ?l_draw ?c_draw ?k_draw ?a_turn ?l_turn ?c_turn ?k_turn ?a_lp ?l_lp ?c_lp ?k_lp ?a_op ?l_op ?c_op ?k_op ?a_fl ?l_fl ?c_fl ?k_fl ?a_jo ?l_jo ?c_jo ?k_jo ?a_ta ?l_ta ?c_ta ?k_ta ?a_me ?l_me ?c_me ?k_me ?a_lu ?l_lu ?c_lu ?k_lu ?a_law ?l_law ?c_law ?k_law ?pg ?hd ?po ?sa ?mk ?kc ?nS ?nL ?i_OI ?i_pr ?i_tu
    (case aC => k_is)
    (case aM => k_is)
    (case eM => decide +kernel)
    (case n_isinstance => k_is)
    (case n_int => k_is)
    (case n_bool => k_is)
    (case n_abs => k_is)
    (case n_len => k_is)
    (case n_list => k_is)
    (case n_tuple => k_is)
    (case n_range => k_is)
    (case n_all => k_is)
    (case n_any => k_is)
    (case n_sum => k_is)
    (case n_sorted => k_is)
    (case a_iw => k_is)
    (case l_iw => k_is)
    (case c_iw => k_is)
    (case k_iw => k_is)
    (case a_ib => k_is)
    (case l_ib => k_is)
    (case c_ib => k_is)
    (case k_ib => k_is)
    (case a_ii => k_is)
    (case l_ii => k_is)
    (case c_ii => k_is)
    (case k_ii => k_is)
    (case a_it => k_is)
    (case l_it => k_is)
    (case c_it => k_is)
    (case k_it => k_is)
    (case a_ip => k_is)
    (case l_ip => k_is)
    (case c_ip => k_is)
    (case k_ip => k_is)
    (case a_xp => k_is)
    (case l_xp => k_is)
    (case c_xp => k_is)
    (case k_xp => k_is)
    (case a_OI => k_is)
    (case l_OI => k_is)
    (case c_OI => k_is)
    (case k_OI => k_is)
    (case a_pr => k_is)
    (case l_pr => k_is)
    (case c_pr => k_is)
    (case k_pr => k_is)
    (case a_tu => k_is)
    (case l_tu => k_is)
    (case c_tu => k_is)
    (case k_tu => k_is)
    (case a_lk => k_is)
    (case l_lk => k_is)
    (case c_lk => k_is)
    (case k_lk => k_is)
    (case a_us => k_is)
    (case l_us => k_is)
    (case c_us => k_is)
    (case k_us => k_is)
    (case a_sb => k_is)
    (case l_sb => k_is)
    (case c_sb => k_is)
    (case k_sb => k_is)
    (case a_up => k_is)
    (case l_up => k_is)
    (case c_up => k_is)
    (case k_up => k_is)
    (case a_ln => k_is)
    (case l_ln => k_is)
    (case c_ln => k_is)
    (case k_ln => k_is)
    (case a_pool => k_is)
    (case l_pool => k_is)
    (case c_pool => k_is)
    (case k_pool => k_is)
    (case a_draw => k_is)
    (case l_draw => k_is)
    (case c_draw => k_is)
    (case k_draw => k_is)
    (case a_turn => k_is)
    (case l_turn => k_is)
    (case c_turn => k_is)
    (case k_turn => k_is)
    (case a_lp => k_is)
    (case l_lp => k_is)
    (case c_lp => k_is)
    (case k_lp => k_is)
    (case a_op => k_is)
    (case l_op => k_is)
    (case c_op => k_is)
    (case k_op => k_is)
    (case a_fl => k_is)
    (case l_fl => k_is)
    (case c_fl => k_is)
    (case k_fl => k_is)
    (case a_jo => k_is)
    (case l_jo => k_is)
    (case c_jo => k_is)
    (case k_jo => k_is)
    (case a_ta => k_is)
    (case l_ta => k_is)
    (case c_ta => k_is)
    (case k_ta => k_is)
    (case a_me => k_is)
    (case l_me => k_is)
    (case c_me => k_is)
    (case k_me => k_is)
    (case a_lu => k_is)
    (case l_lu => k_is)
    (case c_lu => k_is)
    (case k_lu => k_is)
    (case a_law => k_is)
    (case l_law => k_is)
    (case c_law => k_is)
    (case k_law => k_is)
    (case pg => k_is)
    (case hd => k_is)
    (case po => k_is)
    (case sa => k_is)
    (case mk => k_is)
    (case kc => k_is)
    (case nS => k_is)
    (case nL => k_is)
    (case i_OI => k_is)
    (case i_pr => k_is)
    (case i_tu => k_is)


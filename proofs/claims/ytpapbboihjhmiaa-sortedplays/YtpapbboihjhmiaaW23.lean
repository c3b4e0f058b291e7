/-
  The contracts of the document's Set and Del. Their conditions: the map lies in memory, and has no more keys than a bound.
-/
import Derived.Test.YtpapbboihjhmiaaW22
namespace Go.Proofs.Ytpapbboihjhmiaa
open Go.RowKit

/-- What the document's map leaves as it was. -/
def RefOnly (base : Nat) (w w' : World) : Prop := Below base w w' ∧ ∀ u, u ≠ 29 → u ≠ 39 → Keep u w w'
theorem RefOnly.below {base : Nat} {w w' : World} (hb : Below w.heap.size w w') (h : base ≤ w.heap.size) : RefOnly base w w' := ⟨hb.mono h, fun _ _ _ => Keep.below hb⟩
theorem RefOnly.trans {base : Nat} {a b c : World} (h : RefOnly base a b) (k : RefOnly base b c) : RefOnly base a c := ⟨h.1.trans k.1, fun u h1 h2 => (h.2 u h1 h2).trans (k.2 u h1 h2)⟩
theorem keep_set {w : World} {b o : Nat} {cs : Array Value} {t u : TypeId} (hb : w.heap[b]? = some (.cells cs t (0, 0))) (htu : t ≠ u) (x : Value) : Keep u w (w.setCell ⟨b, o, none⟩ x) := fun i ds hi => by
  refine Below.heap_setCell _ _ _ _ ?_
  rintro rfl
  rw [hb] at hi
  injection hi with hi
  injection hi with _ h2
  exact htu h2
theorem RefOnly.set {base : Nat} {w : World} {b o : Nat} {cs : Array Value} {t : TypeId} (hb : w.heap[b]? = some (.cells cs t (0, 0))) (ht : t = 29 ∨ t = 39) (hbase : base ≤ b) (x : Value) : RefOnly base w (w.setCell ⟨b, o, none⟩ x) :=
  ⟨(Below.refl _ _).setCell hbase _, fun u h1 h2 => keep_set (u := u) hb (by rcases ht with e | e <;> rw [e] <;> first | exact h1.symm | exact h2.symm) x⟩
def RefPost (base : Nat) (w : World) (h : Nat) (L : List KV) (b : Bool) (e : Ending) (w' : World) : Prop := e = .returned (.bool b) ∧ RefAt w' base h L ∧ RefOnly base w w'

/-- One more append of a row that begins in new memory. -/
theorem grow_step {B : Nat} {w W : World} {v : Value} {n : Nat} {xs : List Value} (hB : B = w.heap.size) (hown : W.ownsRow B 39 2 v n xs) (hb : Below B w W) {A : Option Addr} {l : List KV} {m c : Nat} (h : Prs W A l) (hml : l.length = m) (hA : A = none → c = 0) (hm : n + m ≤ 1000000) :
    ∃ v' W', (Builtin.append_ #[27, 27] 27 #[v, .slice A m c]).run Try.prog W = .ok v' W' ∧ W'.ownsRow B 39 2 v' (n + m) (xs ++ pairVals l) ∧ Below B w W' := by
  have hsz := hb.size
  obtain ⟨v', w', hr, ho, hg⟩ := append_prs hown (by omega) h hml hA hm 27
  exact ⟨v', w', hr, ho, hb.grown hg (by omega) (fun k hk => (hown.lt k hk).1)⟩
theorem owns_empty (w : World) : (w.alloc (.cells #[] 39)).ownsRow w.heap.size 39 2 (.slice (some ⟨w.heap.size, 0, none⟩) 0 0) 0 [] :=
  ⟨rfl, .inr ⟨w.heap.size, 0, #[], rfl, Nat.le_refl _, heap_new _ _, Nat.le_refl _, Nat.zero_le _, rfl, rfl⟩⟩
theorem prs_one (w : World) (k : ByteArray) (x : Int) : Prs (w.alloc (.cells #[.string k, .int .i64 x] 39)) (some ⟨w.heap.size, 0, none⟩) [(k, x)] := by
  refine ⟨by simp [maxLen], fun _ => ⟨w.heap.size, 0, rfl, by simp, fun j p hj => ?_⟩⟩
  cases j with
  | zero =>
    simp at hj
    subst hj
    obtain ⟨_, e1, e2, _⟩ := (Own2.new w k x).cells
    exact ⟨e1, e2⟩
  | succ j => simp at hj

/-- What Set makes where the key is new. -/
theorem set_chain {w : World} {L : List KV} {A A' : Option Addr} {c c' j n m : Nat} (k : ByteArray) (x : Int) (hp : Prs w A L) (hA : A = none → c = 0) (hp' : Prs w A' (L.drop j)) (hA' : A' = none → c' = 0) (hn : L.length = n) (hj : j ≤ n) (hm : n - j = m) (hlen : n ≤ 100000) :
    ∃ v1 w1 v2 w2 v3 w3, (Builtin.append_ #[27, 27] 27 #[.slice (some ⟨w.heap.size, 0, none⟩) 0 0, .slice A j c]).run Try.prog (w.alloc (.cells #[] 39)) = .ok v1 w1 ∧
      (Builtin.append_ #[27, 27] 27 #[v1, .slice (some ⟨w1.heap.size, 0, none⟩) 1 1]).run Try.prog (w1.alloc (.cells #[.string k, .int .i64 x] 39)) = .ok v2 w2 ∧
      (Builtin.append_ #[27, 27] 27 #[v2, .slice A' m c']).run Try.prog w2 = .ok v3 w3 ∧
      w3.ownsRow w.heap.size 39 2 v3 (n + 1) (pairVals (L.take j ++ (k, x) :: L.drop j)) ∧ Below w.heap.size w w1 ∧ Below w.heap.size w w2 ∧ Below w.heap.size w w3 := by
  have b0 : Below w.heap.size w (w.alloc (.cells #[] 39)) := (Below.refl _ _).alloc (Nat.le_refl _) _
  obtain ⟨v1, w1, r1, o1, b1⟩ := grow_step rfl (owns_empty w) b0 (m := j) ((hp.take j).below (Nat.le_refl _) b0) (by rw [List.length_take]; omega) hA (by omega)
  have b1' : Below w.heap.size w (w1.alloc (.cells #[.string k, .int .i64 x] 39)) := b1.alloc b1.size _
  obtain ⟨v2, w2, r2, o2, b2⟩ := grow_step (m := 1) (c := 1) rfl (o1.alloc _) b1' (prs_one w1 k x) rfl (by intro h; cases h) (by omega)
  obtain ⟨v3, w3, r3, o3, b3⟩ := grow_step (m := m) (c := c') rfl o2 b2 (hp'.below (Nat.le_refl _) b2) (by rw [List.length_drop]; omega) hA' (by omega)
  refine ⟨v1, w1, v2, w2, v3, w3, r1, r2, r3, ?_, b1, b2, b3⟩
  rw [show 0 + j + 1 + m = n + 1 by omega] at o3
  rw [pairVals_append]
  simpa [pairVals] using o3
/-- What Del makes where the key is there. -/
theorem del_chain {w : World} {L : List KV} {A A' : Option Addr} {c c' j n m : Nat} (hp : Prs w A L) (hA : A = none → c = 0) (hp' : Prs w A' (L.drop (j + 1))) (hA' : A' = none → c' = 0) (hn : L.length = n) (hj : j < n) (hm : n - (j + 1) = m) (hlen : n ≤ 100000) :
    ∃ v1 w1 v3 w3, (Builtin.append_ #[27, 27] 27 #[.slice (some ⟨w.heap.size, 0, none⟩) 0 0, .slice A j c]).run Try.prog (w.alloc (.cells #[] 39)) = .ok v1 w1 ∧
      (Builtin.append_ #[27, 27] 27 #[v1, .slice A' m c']).run Try.prog w1 = .ok v3 w3 ∧
      w3.ownsRow w.heap.size 39 2 v3 (n - 1) (pairVals (L.take j ++ L.drop (j + 1))) ∧ Below w.heap.size w w1 ∧ Below w.heap.size w w3 := by
  have b0 : Below w.heap.size w (w.alloc (.cells #[] 39)) := (Below.refl _ _).alloc (Nat.le_refl _) _
  obtain ⟨v1, w1, r1, o1, b1⟩ := grow_step rfl (owns_empty w) b0 (m := j) ((hp.take j).below (Nat.le_refl _) b0) (by rw [List.length_take]; omega) hA (by omega)
  obtain ⟨v3, w3, r3, o3, b3⟩ := grow_step (m := m) (c := c') rfl o1 b1 (hp'.below (Nat.le_refl _) b1) (by rw [List.length_drop]; omega) hA' (by omega)
  refine ⟨v1, w1, v3, w3, r1, r3, ?_, b1, b3⟩
  rw [show 0 + j + m = n - 1 by omega] at o3
  rw [pairVals_append]
  simpa using o3
/-- The map's box is written behind it. -/
theorem ref_store {w w3 : World} {base h n' : Nat} {L L' : List KV} {v3 : Value} (hr : RefAt w base h L) (hbs : base ≤ w.heap.size) (hb : Below w.heap.size w w3) (ho : w3.ownsRow w.heap.size 39 2 v3 n' (pairVals L')) (hn : n' = L'.length) (hr' : Rises L') (hl : L'.length ≤ 100000) :
    RefAt (w3.setCell ⟨h, 0, none⟩ v3) base h L' ∧ RefOnly base w (w3.setCell ⟨h, 0, none⟩ v3) := by
  subst hn
  obtain ⟨a1, a2, a3, v, hbox, _⟩ := hr
  have hlt := hbox.lt
  have hbox3 : RefBox w3 h v := (hb.block h hlt).trans hbox
  refine ⟨⟨a1, hr', hl, v3, hbox3.set v3, ?_⟩, (RefOnly.below hb hbs).trans (RefOnly.set hbox3 (.inl rfl) a1 v3)⟩
  refine ⟨ho.1, ?_⟩
  rcases ho.2 with e | ⟨g, cap, cur, hv, hg, hh, rest⟩
  · exact .inl e
  · refine .inr ⟨g, cap, cur, hv, by omega, ?_, rest⟩
    rw [Below.heap_setCell _ _ _ _ (show g ≠ h by omega)]
    exact hh

/-- What Set leaves, of all that it appends. -/
structure SetUp (w : World) (base h : Nat) (L : List KV) (k : ByteArray) (x : Int) (A A' : Option Addr) (n j c m c' : Nat) (w1 w2 w3 : World) (v1 v2 v3 : Value) : Prop where
  fm : ∃ B l3 c3, v3 = .slice B l3 c3
  r1 : (Builtin.append_ #[27, 27] 27 #[.slice (some ⟨w.heap.size, 0, none⟩) 0 0, .slice A j c]).run Try.prog (w.alloc (.cells #[] 39)) = .ok v1 w1
  r2 : (Builtin.append_ #[27, 27] 27 #[v1, .slice (some ⟨w1.heap.size, 0, none⟩) 1 1]).run Try.prog (w1.alloc (.cells #[.string k, .int .i64 x] 39)) = .ok v2 w2
  r3 : (Builtin.append_ #[27, 27] 27 #[v2, .slice A' m c']).run Try.prog w2 = .ok v3 w3
  d0 : (w.alloc (.cells #[] 39)).cell? ⟨h, 0, none⟩ = some (.slice A n c)
  d1 : w1.cell? ⟨h, 0, none⟩ = some (.slice A n c)
  d2 : w2.cell? ⟨h, 0, none⟩ = some (.slice A n c)
  d3 : w3.cell? ⟨h, 0, none⟩ = some (.slice A n c)
  f3 : w3.frozen? ⟨h, 0, none⟩ = false
  n1 : ¬ h = w1.heap.size
  out : RefAt (w3.setCell ⟨h, 0, none⟩ v3) base h (lset L k x) ∧ RefOnly base w (w3.setCell ⟨h, 0, none⟩ v3)
theorem set_up {base h : Nat} {L : List KV} {k : ByteArray} {x : Int} {w : World} {A A' : Option Addr} {n j c c' m : Nat} (hr : RefAt w base h L) (hbs : base ≤ w.heap.size) (hl : n < 100000) (hs : lhas L k = false) (hbox : RefBox w h (.slice A n c)) (hp : Prs w A L) (hA : A = none → c = 0) (hn : L.length = n) (hj : place L k = j)
    (hp' : Prs w A' (L.drop j)) (hA' : A' = none → c' = 0) (hm : n - j = m) : ∃ w1 w2 w3 v1 v2 v3, SetUp w base h L k x A A' n j c m c' w1 w2 w3 v1 v2 v3 := by
  have hpl := place_le L k
  obtain ⟨v1, w1, v2, w2, v3, w3, r1, r2, r3, o3, b1, b2, b3⟩ := set_chain (n := n) (j := j) k x hp hA hp' hA' hn (by omega) hm (by omega)
  have hlt := hbox.lt
  rw [← hj, ← set_new x hr.2.1 hs] at o3
  have hll := length_lset k x hr.2.1
  rw [hs] at hll
  simp at hll
  have b0 : Below w.heap.size w (w.alloc (.cells #[] 39)) := (Below.refl _ _).alloc (Nat.le_refl _) _
  have hfm : ∃ B l3 c3, v3 = .slice B l3 c3 := by
    rw [show n + 1 = (lset L k x).length by omega] at o3
    obtain ⟨B, c3, e, _⟩ := owns_prs o3 (by unfold maxLen; omega)
    exact ⟨B, _, c3, e⟩
  exact ⟨w1, w2, w3, v1, v2, v3, hfm, r1, r2, r3, (b0.cell (p := ⟨h, 0, none⟩) hlt).trans hbox.c0, (b1.cell (p := ⟨h, 0, none⟩) hlt).trans hbox.c0, (b2.cell (p := ⟨h, 0, none⟩) hlt).trans hbox.c0, (b3.cell (p := ⟨h, 0, none⟩) hlt).trans hbox.c0, RefBox.frozen ((b3.block h hlt).trans hbox),
    by have := b1.size; omega, ref_store hr hbs b3 o3 (by omega) (rises_lset hr.2.1 k x) (by omega)⟩
theorem prs_end {w : World} {L : List KV} {j : Nat} (A : Option Addr) (h : L.length ≤ j) : Prs w A (L.drop j) := ⟨by rw [List.drop_of_length_le h]; simp, fun h0 => by rw [List.length_drop] at h0; omega⟩
theorem prs_from {w : World} {L : List KV} {ad : Addr} (hp : Prs w (some ad) L) (j : Nat) : Prs w (some (ad.add (j * 2))) (L.drop j) := by
  by_cases h0 : 0 < L.length
  · obtain ⟨b, off, e, _⟩ := hp.2 h0
    injection e with e
    subst e
    rw [addr_add]
    exact hp.drop j
  · exact prs_end _ (by omega)

set_option maxHeartbeats 2000000 in
theorem refset_new (base h : Nat) (L : List KV) (k : ByteArray) (x : Int) (w : World) (hr : RefAt w base h L) (hbs : base ≤ w.heap.size) (hl : L.length < 100000) (hs : lhas L k = false) :
    Calls Try.prog 12 #[.pointer (some ⟨h, 0, none⟩), .string k, .int .i64 x] w (RefPost base w h (lset L k x) true) := by
  have C1 := Lib.hid (place_any base h L k w hr)
  have hpl := place_le L k
  have HT : Hid (∀ p, L[place L k]? = some p → ¬ p.1 = k) := fun p hp e => by
    rw [has_at hr.2.1 hp, decide_eq_true e] at hs
    cases hs
  obtain ⟨A, c, hbox, hp, hA, x2, x3, hnc, x5⟩ := hr.parts
  have hlt := hbox.lt
  have hne : ¬ h = w.heap.size := by omega
  have c0 := hbox.c0
  have HP := Lib.hid hp
  clear x2 x3 x5 hlt
  obtain ⟨n, hn⟩ : ∃ n, L.length = n := ⟨_, rfl⟩
  obtain ⟨j, hj⟩ : ∃ j, place L k = j := ⟨_, rfl⟩
  rw [hj] at C1 HT hpl
  rw [hn] at c0 hl hpl hnc hbox
  by_cases hcj : c = j
  · have hnj : n = j := by omega
    subst hnj
    subst hcj
    obtain ⟨w1, w2, w3, v1, v2, v3, U⟩ := set_up (c' := 0) (m := 0) (x := x) hr hbs hl hs hbox hp hA hn hj (prs_end A (by omega)) (fun _ => rfl) (by omega)
    obtain ⟨⟨B3, l3, c3, rfl⟩, r1, r2, r3, d0, d1, d2, d3, f3, hn1, hout⟩ := U
    have HF := Lib.hid hout
    have HE := Lib.hid hn
    clear hout hn hj hbox hp hA hr hbs hs
    have hj0 : (0 : Int) ≤ (c : Int) := by omega
    clear hpl hnc
    have R1 := Lib.hid r1
    have R2 := Lib.hid r2
    have R3 := Lib.hid r3
    clear r1 r2 r3
    go_enter Try.func12, Try.ntmps12
    go_wp2_with fail
    refine C1.out.mono ?_
    rintro e wx ⟨rfl, rfl⟩
    go_wp2_with (first | (at_builtin; refine wpList_append_run rfl _ _ 27 27 rfl _ _ rfl rfl _ w1 R1.out ?_) | (at_builtin; refine wpList_append_run rfl _ _ 27 27 rfl _ _ rfl rfl _ w2 R2.out ?_) | (at_builtin; refine wpList_append_run rfl _ _ 27 27 rfl _ _ rfl rfl _ w3 R3.out ?_))
    go_ret
    exact ⟨rfl, HF.out.1, HF.out.2⟩
  · cases A with
    | none =>
      have := hA rfl
      omega
    | some ad =>
      obtain ⟨w1, w2, w3, v1, v2, v3, U⟩ := set_up (c' := c - j) (m := n - j) (x := x) hr hbs hl hs hbox hp hA hn hj (prs_from hp j) (by intro h; cases h) rfl
      obtain ⟨⟨B3, l3, c3, rfl⟩, r1, r2, r3, d0, d1, d2, d3, f3, hn1, hout⟩ := U
      have HF := Lib.hid hout
      have HE := Lib.hid hn
      clear hout hn hj hbox hp hA hr hbs hs
      have hjc : (j : Int) ≤ (c : Int) := by omega
      have hj0 : (0 : Int) ≤ (j : Int) := by omega
      have hjn : (j : Int) ≤ (n : Int) := by omega
      by_cases hjl : j < n
      · obtain ⟨b, off, had, hb, e0, e1⟩ := HP.out.at_ (k := j) (by rw [HE.out]; exact hjl)
        injection had with had
        subst had
        have hq := HT.out _ (List.getElem?_eq_getElem (by rw [HE.out]; exact hjl))
        generalize L[j]'(by rw [HE.out]; exact hjl) = q at e0 e1 hq
        have hqk : (q.1.toList == k.toList) = false := toList_ne hq
        have hlti : (j : Int) < (n : Int) := by omega
        have hbn : ¬ b = w.heap.size := by omega
        simp only [addr_add] at r3
        clear hq hb hpl hnc hjl hjn hl
        have R1 := Lib.hid r1
        have R2 := Lib.hid r2
        have R3 := Lib.hid r3
        clear r1 r2 r3
        go_enter Try.func12, Try.ntmps12
        go_wp2_with fail
        refine C1.out.mono ?_
        rintro e wx ⟨rfl, rfl⟩
        go_wp2_with (first | (at_builtin; refine wpList_append_run rfl _ _ 27 27 rfl _ _ rfl rfl _ w1 R1.out ?_) | (at_builtin; refine wpList_append_run rfl _ _ 27 27 rfl _ _ rfl rfl _ w2 R2.out ?_) | (at_builtin; refine wpList_append_run rfl _ _ 27 27 rfl _ _ rfl rfl _ w3 R3.out ?_))
        go_ret
        exact ⟨rfl, HF.out.1, HF.out.2⟩
      · have hnj : n = j := by omega
        subst hnj
        simp only [Nat.sub_self] at r3
        clear hpl hnc hjl hjn hl
        have R1 := Lib.hid r1
        have R2 := Lib.hid r2
        have R3 := Lib.hid r3
        clear r1 r2 r3
        go_enter Try.func12, Try.ntmps12
        go_wp2_with fail
        refine C1.out.mono ?_
        rintro e wx ⟨rfl, rfl⟩
        go_wp2_with (first | (at_builtin; refine wpList_append_run rfl _ _ 27 27 rfl _ _ rfl rfl _ w1 R1.out ?_) | (at_builtin; refine wpList_append_run rfl _ _ 27 27 rfl _ _ rfl rfl _ w2 R2.out ?_) | (at_builtin; refine wpList_append_run rfl _ _ 27 27 rfl _ _ rfl rfl _ w3 R3.out ?_))
        go_ret
        exact ⟨rfl, HF.out.1, HF.out.2⟩
end Go.Proofs.Ytpapbboihjhmiaa

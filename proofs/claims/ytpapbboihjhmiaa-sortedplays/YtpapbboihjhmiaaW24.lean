/-
  The contracts of the document's Set and Del, whole. Their conditions: the map lies in memory, and has no more keys than a bound.
-/
import Derived.Test.YtpapbboihjhmiaaW23
namespace Go.Proofs.Ytpapbboihjhmiaa
open Go.RowKit

set_option maxHeartbeats 2000000 in
theorem refset_old (base h : Nat) (L : List KV) (k : ByteArray) (x : Int) (w : World) (hr : RefAt w base h L) (hs : lhas L k = true) :
    Calls Try.prog 12 #[.pointer (some ⟨h, 0, none⟩), .string k, .int .i64 x] w (RefPost base w h (lset L k x) false) := by
  have C1 := Lib.hid (place_any base h L k w hr)
  have hst := (has_stands hr.2.1 k).mp hs
  have hset := set_here x hst
  obtain ⟨p, hp0, hpk⟩ := hst
  have hjl : place L k < L.length := (List.getElem?_eq_some_iff.mp hp0).1
  obtain ⟨A, c, hbox, hp, hA, hown, hform, hnc, x5⟩ := hr.parts
  obtain ⟨b, off, rfl, hb, e0, e1⟩ := hp.at_ hjl
  obtain ⟨g, hg, hbg⟩ := hform _ rfl
  injection hg with hg1 hg2 _
  subst hg1
  have hown0 := hown
  rw [hg2] at hown0
  have hpv : L[place L k] = p := by
    have := List.getElem?_eq_getElem hjl
    rw [hp0] at this
    injection this with this
    exact this.symm
  rw [hpv] at e0 e1
  rw [hpk] at e0
  have hfz := hown0.frozenAt (place L k * 2 + 1)
  obtain ⟨hst1, hst2⟩ := hown0.stored (place L k * 2 + 1) (.int .i64 x)
  rw [pairVals_set L (place L k) p x hp0, hpk, ← hset] at hst1
  have hrow : ∃ cur, w.heap[b]? = some (.cells cur 39 (0, 0)) := by
    rcases hown0.2 with ⟨h1, _⟩ | ⟨g, cap, cur, h1, _, h2, _⟩
    · cases h1
    · injection h1 with h1 _
      injection h1 with h1
      injection h1 with h1 _
      subst h1
      exact ⟨cur, h2⟩
  obtain ⟨cur, hcur⟩ := hrow
  have hne : h ≠ b := by
    rintro rfl
    rw [show w.heap[h]? = _ from hbox] at hcur
    injection hcur with h1
    injection h1 with _ h2
    exact absurd h2 (by decide)
  have hlen : (lset L k x).length = L.length := by rw [hset]; simp
  have HF : Hid (RefAt (w.setCell ⟨b, off + place L k * 2 + 1, none⟩ (.int .i64 x)) base h (lset L k x) ∧ RefOnly base w (w.setCell ⟨b, off + place L k * 2 + 1, none⟩ (.int .i64 x))) := by
    rw [hg2, Nat.zero_add]
    refine ⟨⟨hr.1, rises_lset hr.2.1 k x, by rw [hlen]; exact hr.2.2.1, _, (Below.heap_setCell _ _ _ _ hne).trans (by rw [hg2] at hbox; exact hbox), by rw [hlen]; exact hst1⟩, RefOnly.set hcur (.inr rfl) hbg _⟩
  have hfz' : w.frozen? ⟨b, off + place L k * 2 + 1, none⟩ = false := by rw [hg2, Nat.zero_add]; exact hfz
  have c0 := hbox.c0
  have hln := hr.2.2.1
  obtain ⟨n, hn⟩ : ∃ n, L.length = n := ⟨_, rfl⟩
  obtain ⟨j, hj⟩ : ∃ j, place L k = j := ⟨_, rfl⟩
  rw [hj] at C1 HF hfz' e0 e1 hjl
  rw [hn] at c0 hjl hln
  have hlti : (j : Int) < (n : Int) := by omega
  have hj0 : (0 : Int) ≤ (j : Int) := by omega
  clear hn hj hg2 hown0 hst2 hlen hne hcur hst1 hfz hpv hbg hform hown hp hbox hset hp0 hpk hr hs hA hnc x5 hb
  go_enter Try.func12, Try.ntmps12
  go_wp2_with fail
  refine C1.out.mono ?_
  rintro e wx ⟨rfl, rfl⟩
  go_wp2
  go_ret
  exact ⟨rfl, HF.out.1, HF.out.2⟩
theorem refset_any (base h : Nat) (L : List KV) (k : ByteArray) (x : Int) (w : World) (hr : RefAt w base h L) (hbs : base ≤ w.heap.size) (hl : L.length < 100000) :
    Calls Try.prog 12 #[.pointer (some ⟨h, 0, none⟩), .string k, .int .i64 x] w (RefPost base w h (lset L k x) (!lhas L k)) := by
  cases hs : lhas L k with
  | true => exact refset_old base h L k x w hr hs
  | false => exact refset_new base h L k x w hr hbs hl hs

/-- What Del leaves, of all that it appends. -/
structure DelUp (w : World) (base h : Nat) (L : List KV) (k : ByteArray) (A A' : Option Addr) (n j c m c' : Nat) (w1 w3 : World) (v1 v3 : Value) : Prop where
  fm : ∃ B l3 c3, v3 = .slice B l3 c3
  r1 : (Builtin.append_ #[27, 27] 27 #[.slice (some ⟨w.heap.size, 0, none⟩) 0 0, .slice A j c]).run Try.prog (w.alloc (.cells #[] 39)) = .ok v1 w1
  r3 : (Builtin.append_ #[27, 27] 27 #[v1, .slice A' m c']).run Try.prog w1 = .ok v3 w3
  d0 : (w.alloc (.cells #[] 39)).cell? ⟨h, 0, none⟩ = some (.slice A n c)
  d1 : w1.cell? ⟨h, 0, none⟩ = some (.slice A n c)
  d3 : w3.cell? ⟨h, 0, none⟩ = some (.slice A n c)
  f3 : w3.frozen? ⟨h, 0, none⟩ = false
  out : RefAt (w3.setCell ⟨h, 0, none⟩ v3) base h (ldel L k) ∧ RefOnly base w (w3.setCell ⟨h, 0, none⟩ v3)
theorem del_up {base h : Nat} {L : List KV} {k : ByteArray} {w : World} {A A' : Option Addr} {n j c c' m : Nat} (hr : RefAt w base h L) (hbs : base ≤ w.heap.size) (hl : n ≤ 100000) (hs : stands L k) (hbox : RefBox w h (.slice A n c)) (hp : Prs w A L) (hA : A = none → c = 0) (hn : L.length = n) (hj : place L k = j) (hjn : j < n)
    (hp' : Prs w A' (L.drop (j + 1))) (hA' : A' = none → c' = 0) (hm : n - (j + 1) = m) : ∃ w1 w3 v1 v3, DelUp w base h L k A A' n j c m c' w1 w3 v1 v3 := by
  obtain ⟨v1, w1, v3, w3, r1, r3, o3, b1, b3⟩ := del_chain (n := n) (j := j) hp hA hp' hA' hn hjn hm hl
  have hlt := hbox.lt
  rw [← hj, ← del_here hr.2.1 hs] at o3
  have hll := length_ldel k hr.2.1
  rw [(has_stands hr.2.1 k).mpr hs] at hll
  simp at hll
  have b0 : Below w.heap.size w (w.alloc (.cells #[] 39)) := (Below.refl _ _).alloc (Nat.le_refl _) _
  have hfm : ∃ B l3 c3, v3 = .slice B l3 c3 := by
    rw [show n - 1 = (ldel L k).length by omega] at o3
    obtain ⟨B, c3, e, _⟩ := owns_prs o3 (by unfold maxLen; omega)
    exact ⟨B, _, c3, e⟩
  exact ⟨w1, w3, v1, v3, hfm, r1, r3, (b0.cell (p := ⟨h, 0, none⟩) hlt).trans hbox.c0, (b1.cell (p := ⟨h, 0, none⟩) hlt).trans hbox.c0, (b3.cell (p := ⟨h, 0, none⟩) hlt).trans hbox.c0, RefBox.frozen ((b3.block h hlt).trans hbox),
    ref_store hr hbs b3 o3 (by omega) (rises_ldel hr.2.1 k) (by omega)⟩

set_option maxHeartbeats 2000000 in
theorem refdel_old (base h : Nat) (L : List KV) (k : ByteArray) (w : World) (hr : RefAt w base h L) (hbs : base ≤ w.heap.size) (hl : L.length ≤ 100000) (hs : stands L k) :
    Calls Try.prog 14 #[.pointer (some ⟨h, 0, none⟩), .string k] w (RefPost base w h (ldel L k) true) := by
  have C1 := Lib.hid (place_any base h L k w hr)
  obtain ⟨p, hp0, hpk⟩ := id hs
  have hjl : place L k < L.length := (List.getElem?_eq_some_iff.mp hp0).1
  obtain ⟨A, c, hbox, hp, hA, x2, x3, hnc, x5⟩ := hr.parts
  have hlt := hbox.lt
  have hne : ¬ h = w.heap.size := by omega
  have c0 := hbox.c0
  obtain ⟨b, off, rfl, hb, e0, e1⟩ := hp.at_ hjl
  have hpv : L[place L k] = p := by
    have := List.getElem?_eq_getElem hjl
    rw [hp0] at this
    injection this with this
    exact this.symm
  rw [hpv] at e0 e1
  rw [hpk] at e0
  clear x2 x3 x5 hlt hpv
  obtain ⟨n, hn⟩ : ∃ n, L.length = n := ⟨_, rfl⟩
  obtain ⟨j, hj⟩ : ∃ j, place L k = j := ⟨_, rfl⟩
  rw [hj] at C1 hjl e0 e1 hp0
  rw [hn] at c0 hl hjl hnc hbox
  have hbn : ¬ b = w.heap.size := by omega
  have hlti : (j : Int) < (n : Int) := by omega
  have hj0 : (0 : Int) ≤ (j : Int) := by omega
  clear hp0 hpk hb
  by_cases hcj : c = j + 1
  · have hnj : n = j + 1 := by omega
    subst hnj
    subst hcj
    obtain ⟨w1, w3, v1, v3, U⟩ := del_up (c' := 0) (m := 0) hr hbs hl hs hbox hp hA hn hj (by omega) (prs_end (some ⟨b, off, none⟩) (by omega)) (fun _ => rfl) (by omega)
    obtain ⟨⟨B3, l3, c3, rfl⟩, r1, r3, d0, d1, d3, f3, hout⟩ := U
    have HF := Lib.hid hout
    have HE := Lib.hid hn
    clear hout hn hj hbox hp hA hr hbs hs
    have hln : j < 100000 := by omega
    clear hnc hjl hl hlti
    have R1 := Lib.hid r1
    have R3 := Lib.hid r3
    clear r1 r3
    go_enter Try.func14, Try.ntmps14
    go_wp2_with fail
    refine C1.out.mono ?_
    rintro e wx ⟨rfl, rfl⟩
    go_wp2_with (first | (at_builtin; refine wpList_append_run rfl _ _ 27 27 rfl _ _ rfl rfl _ w1 R1.out ?_) | (at_builtin; refine wpList_append_run rfl _ _ 27 27 rfl _ _ rfl rfl _ w3 R3.out ?_))
    go_ret
    exact ⟨rfl, HF.out.1, HF.out.2⟩
  · obtain ⟨w1, w3, v1, v3, U⟩ := del_up (c' := c - (j + 1)) (m := n - (j + 1)) hr hbs hl hs hbox hp hA hn hj hjl (prs_from hp (j + 1)) (by intro h; cases h) rfl
    obtain ⟨⟨B3, l3, c3, rfl⟩, r1, r3, d0, d1, d3, f3, hout⟩ := U
    have HF := Lib.hid hout
    have HE := Lib.hid hn
    clear hout hn hj hbox hp hA hr hbs hs
    have hjc : (j : Int) + 1 ≤ (c : Int) := by omega
    have hjn : (j : Int) + 1 ≤ (n : Int) := by omega
    have hln : j < 100000 := by omega
    simp only [addr_add] at r3
    clear hnc hjl hl
    have R1 := Lib.hid r1
    have R3 := Lib.hid r3
    clear r1 r3
    go_enter Try.func14, Try.ntmps14
    go_wp2_with fail
    refine C1.out.mono ?_
    rintro e wx ⟨rfl, rfl⟩
    go_wp2_with (first | (at_builtin; refine wpList_append_run rfl _ _ 27 27 rfl _ _ rfl rfl _ w1 R1.out ?_) | (at_builtin; refine wpList_append_run rfl _ _ 27 27 rfl _ _ rfl rfl _ w3 R3.out ?_))
    go_ret
    exact ⟨rfl, HF.out.1, HF.out.2⟩
set_option maxHeartbeats 2000000 in
theorem refdel_none (base h : Nat) (L : List KV) (k : ByteArray) (w : World) (hr : RefAt w base h L) (hbs : base ≤ w.heap.size) (hs : lhas L k = false) :
    Calls Try.prog 14 #[.pointer (some ⟨h, 0, none⟩), .string k] w (RefPost base w h (ldel L k) false) := by
  have C1 := Lib.hid (place_any base h L k w hr)
  have hpl := place_le L k
  have HT : Hid (∀ p, L[place L k]? = some p → ¬ p.1 = k) := fun p hp e => by
    rw [has_at hr.2.1 hp, decide_eq_true e] at hs
    cases hs
  rw [ldel_off hs]
  obtain ⟨A, c, hbox, hp, hA, x2, x3, hnc, x5⟩ := hr.parts
  have c0 := hbox.c0
  have HF : Hid (RefAt w base h L ∧ RefOnly base w w) := ⟨hr, RefOnly.below (Below.refl _ _) hbs⟩
  have hln := hr.2.2.1
  clear x2 x3 x5 hnc hA hbox hr hs
  obtain ⟨n, hn⟩ : ∃ n, L.length = n := ⟨_, rfl⟩
  obtain ⟨j, hj⟩ : ∃ j, place L k = j := ⟨_, rfl⟩
  rw [hj] at C1 HT hpl
  rw [hn] at c0 hpl hln
  by_cases hjl : j < n
  · obtain ⟨b, off, rfl, hb, e0, e1⟩ := hp.at_ (k := j) (by rw [hn]; exact hjl)
    have hq := HT.out _ (List.getElem?_eq_getElem (by rw [hn]; exact hjl))
    generalize L[j]'(by rw [hn]; exact hjl) = q at e0 e1 hq
    have hqk : (q.1.toList == k.toList) = false := toList_ne hq
    have hlti : (j : Int) < (n : Int) := by omega
    clear hq hb hp hn hj hpl
    go_enter Try.func14, Try.ntmps14
    go_wp2_with fail
    refine C1.out.mono ?_
    rintro e wx ⟨rfl, rfl⟩
    go_wp2
    go_ret
    exact ⟨rfl, HF.out.1, HF.out.2⟩
  · have hnj : n = j := by omega
    subst hnj
    clear hp hn hj hpl hjl
    go_enter Try.func14, Try.ntmps14
    go_wp2_with fail
    refine C1.out.mono ?_
    rintro e wx ⟨rfl, rfl⟩
    go_wp2
    go_ret
    exact ⟨rfl, HF.out.1, HF.out.2⟩
theorem refdel_any (base h : Nat) (L : List KV) (k : ByteArray) (w : World) (hr : RefAt w base h L) (hbs : base ≤ w.heap.size) :
    Calls Try.prog 14 #[.pointer (some ⟨h, 0, none⟩), .string k] w (RefPost base w h (ldel L k) (lhas L k)) := by
  cases hs : lhas L k with
  | true => exact refdel_old base h L k w hr hbs hr.2.2.1 ((has_stands hr.2.1 k).mp hs)
  | false => exact refdel_none base h L k w hr hbs hs
end Go.Proofs.Ytpapbboihjhmiaa

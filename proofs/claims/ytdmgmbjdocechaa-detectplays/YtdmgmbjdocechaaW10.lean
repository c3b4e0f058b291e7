/-
  Words for memory: the document's detector. The contracts of its Lives and Find, and of Same. Their conditions: the detector lies in memory; its moments are below a bound, it has no more nodes than a bound.
-/
import Derived.Test.YtdmgmbjdocechaaW6
namespace Go.Proofs.Ytdmgmbjdocechaa
open Go.RowKit Go.Maps Go.ChangeMaps
open Go.Sort (grow)

/-! ### A row that is written in place -/
theorem Enc.vals_set {α : Type} (E : Enc α) {l : List α} {k : Nat} (hk : k < l.length) {x' : α} {i : Nat} {u : Value} (hi : i < E.wd) (hx : E.f x' = (E.f l[k]).set i u) : E.vals (l.set k x') = (E.vals l).set (k * E.wd + i) u := by
  induction l generalizing k with
  | nil => simp at hk
  | cons s r ih =>
    have e : ∀ t q, E.vals (t :: q) = E.f t ++ E.vals q := fun t q => by simp [Enc.vals]
    cases k with
    | zero =>
      simp only [List.set_cons_zero, e]
      rw [List.getElem_cons_zero] at hx
      rw [hx, List.set_append_left _ _ (by rw [E.len]; omega), Nat.zero_mul, Nat.zero_add]
    | succ k =>
      simp only [List.set_cons_succ, e]
      rw [List.getElem_cons_succ] at hx
      rw [ih (by simpa using hk) hx, List.set_append_right _ _ (by rw [E.len, Nat.succ_mul]; omega), E.len, show (k + 1) * E.wd + i - E.wd = k * E.wd + i by rw [Nat.succ_mul]; omega]
theorem RowT.set {α : Type} {E : Enc α} {e : TypeId} {w : World} {base g cap k i off : Nat} {l : List α} {x' : α} {u : Value} (h : RowT E e w base (.slice (some ⟨g, off, none⟩) l.length cap) l) (hk : k < l.length) (hi : i < E.wd) (hx : E.f x' = (E.f l[k]).set i u) :
    RowT E e (w.setCell ⟨g, off + k * E.wd + i, none⟩ u) base (.slice (some ⟨g, off, none⟩) l.length cap) (l.set k x') ∧ (∃ cs, w.heap[g]? = some (.cells cs e (0, 0))) ∧ base ≤ g := by
  obtain ⟨h1, h2⟩ := h
  rcases h2 with ⟨h2, _⟩ | ⟨g', cap', cur, hv, hb, hg, hle, hcm, hcs, htk⟩
  · cases h2
  · cases hv
    refine ⟨⟨?_, .inr ⟨g, cap, cur.setIfInBounds (k * E.wd + i) u, by rw [List.length_set], hb, ?_, by rw [List.length_set]; exact hle, hcm, by simp [hcs], ?_⟩⟩, ⟨cur, hg⟩, hb⟩
    · rw [List.length_set, E.vals_set hk hi hx, List.length_set]
      exact h1
    · simp [World.setCell, Array.getElem?_modify, hg]
    · rw [List.length_set, E.vals_set hk hi hx, Array.toList_setIfInBounds, List.take_set, htk]

/-! ### The document's detector -/
def RBox (w : World) (h : Nat) (v : Value) (pat now ch : Int) : Prop := w.heap[h]? = some (.cells #[v, .int .i64 pat, .int .i64 now, .int .i64 ch] 38 (0, 0))
section
variable {w w' : World} {h : Nat} {v : Value} {pat now ch : Int}
theorem RBox.lt (r : RBox w h v pat now ch) : h < w.heap.size := lt_of_heap r
theorem RBox.c0 (r : RBox w h v pat now ch) : w.cell? ⟨h, 0, none⟩ = some v := by simp [World.cell?, show w.heap[h]? = _ from r]
theorem RBox.c1 (r : RBox w h v pat now ch) : w.cell? ⟨h, 1, none⟩ = some (.int .i64 pat) := by simp [World.cell?, show w.heap[h]? = _ from r]
theorem RBox.c2 (r : RBox w h v pat now ch) : w.cell? ⟨h, 2, none⟩ = some (.int .i64 now) := by simp [World.cell?, show w.heap[h]? = _ from r]
theorem RBox.c3 (r : RBox w h v pat now ch) : w.cell? ⟨h, 3, none⟩ = some (.int .i64 ch) := by simp [World.cell?, show w.heap[h]? = _ from r]
theorem RBox.frozen (r : RBox w h v pat now ch) (o : Nat) : w.frozen? ⟨h, o, none⟩ = false := by simp [World.frozen?, show w.heap[h]? = _ from r]
theorem RBox.set0 (r : RBox w h v pat now ch) (u : Value) : RBox (w.setCell ⟨h, 0, none⟩ u) h u pat now ch := by
  unfold RBox at r ⊢
  simp [World.setCell, Array.getElem?_modify, r]
theorem RBox.set2 (r : RBox w h v pat now ch) (f : Int) : RBox (w.setCell ⟨h, 2, none⟩ (.int .i64 f)) h v pat f ch := by
  unfold RBox at r ⊢
  simp [World.setCell, Array.getElem?_modify, r]
theorem RBox.set3 (r : RBox w h v pat now ch) (f : Int) : RBox (w.setCell ⟨h, 3, none⟩ (.int .i64 f)) h v pat now f := by
  unfold RBox at r ⊢
  simp [World.setCell, Array.getElem?_modify, r]
theorem RBox.below (r : RBox w h v pat now ch) (hb : Below w.heap.size w w') : RBox w' h v pat now ch := (hb.block h r.lt).trans r
end
def rK : List Nat := [38, 55]
def RefAt (w : World) (base h : Nat) (L : List Tm) (pat now ch : Int) : Prop := base ≤ h ∧ L.length ≤ 100000 ∧ ∃ v, RBox w h v pat now ch ∧ RowT eTm 55 w base v L
section
variable {w w' W : World} {base base' h : Nat} {L L' : List Tm} {pat now ch : Int}
theorem RefAt.keep (r : RefAt w base h L pat now ch) {l : List Nat} (hf : Fr l [] base' w w') (h1 : 38 ∉ l) (h2 : 55 ∉ l) : RefAt w' base h L pat now ch := by
  obtain ⟨a1, a2, v, h3, h4⟩ := r
  exact ⟨a1, a2, v, hf.keep h _ h3 h1 (by simp), h4.fr hf h2 (by simp)⟩
/-- What writes single blocks of other kinds leaves it as it was. -/
theorem RefAt.keepB (r : RefAt w base h L pat now ch) {ms : List Nat} (hf : Fr [] ms base' w w') (hm : ∀ i ∈ ms, ∃ o, w.heap[i]? = some o ∧ kd o ≠ 38 ∧ kd o ≠ 55) : RefAt w' base h L pat now ch := by
  obtain ⟨a1, a2, v, h3, h4⟩ := r
  refine ⟨a1, a2, v, hf.keep h _ h3 (by simp) (fun hx => ?_), h4.fr hf (by simp) fun i hi => ?_⟩
  · obtain ⟨o, ho, hk, _⟩ := hm h hx
    unfold RBox at h3
    rw [h3] at ho
    cases ho
    exact hk rfl
  · obtain ⟨o, ho, _, hk⟩ := hm i hi
    exact ⟨o, ho, hk⟩
theorem RefAt.below (r : RefAt w base h L pat now ch) (hb : Below w.heap.size w w') : RefAt w' base h L pat now ch := by
  obtain ⟨a1, a2, v, h3, h4⟩ := r
  exact ⟨a1, a2, v, h3.below hb, h4.below hb⟩
theorem RefAt.parts (r : RefAt w base h L pat now ch) : ∃ A c, RBox w h (.slice A L.length c) pat now ch ∧ RowT eTm 55 w base (.slice A L.length c) L ∧ Sl eTm w A L ∧ L.length ≤ c ∧ (A = none → c = 0) ∧ L.length ≤ 100000 := by
  obtain ⟨h1, h2, v, h3, h4⟩ := r
  obtain ⟨A, c, rfl, h5, h6, h7, _⟩ := h4.sl (by unfold maxLen; omega)
  exact ⟨A, c, h3, h4, h5, h6, h7, h2⟩
theorem RefAt.bh (r : RefAt w base h L pat now ch) : base ≤ h := r.1
/-- The detector's box is written behind it. -/
theorem ref_store {v : Value} (hr : RefAt w base h L pat now ch) (hbs : base ≤ w.heap.size) (hb : Below w.heap.size w W) (ho : RowT eTm 55 W w.heap.size v L') (hl : L'.length ≤ 100000) :
    RefAt (W.setCell ⟨h, 0, none⟩ v) base h L' pat now ch ∧ Fr rK [] base w (W.setCell ⟨h, 0, none⟩ v) := by
  obtain ⟨a1, a2, v0, hbox, _⟩ := hr
  have hbox3 : RBox W h v0 pat now ch := hbox.below hb
  have hF : Fr rK [] base W (W.setCell ⟨h, 0, none⟩ v) := (Fr.refl _ _ _ _).set hbox3 (.inl (by simp [kd, rK])) a1 _
  have hF2 : Fr [38] [] base W (W.setCell ⟨h, 0, none⟩ v) := (Fr.refl _ _ _ _).set hbox3 (.inl (by simp [kd])) a1 _
  exact ⟨⟨a1, hl, v, hbox3.set0 v, (ho.down hbs).fr hF2 (by simp) (by simp)⟩, (Fr.of_below hb hbs).trans hF⟩
/-- Its moment is written. -/
theorem ref_now (hr : RefAt w base h L pat now ch) (f : Int) : RefAt (w.setCell ⟨h, 2, none⟩ (.int .i64 f)) base h L pat f ch ∧ Fr [38] [] base w (w.setCell ⟨h, 2, none⟩ (.int .i64 f)) := by
  obtain ⟨a1, a2, v0, hbox, hrow⟩ := hr
  have hF2 : Fr [38] [] base w (w.setCell ⟨h, 2, none⟩ (.int .i64 f)) := (Fr.refl _ _ _ _).set hbox (.inl (by simp [kd])) a1 _
  exact ⟨⟨a1, a2, v0, hbox.set2 f, hrow.fr hF2 (by simp) (by simp)⟩, hF2⟩
/-- Its changes are written. -/
theorem ref_ch (hr : RefAt w base h L pat now ch) (f : Int) : RefAt (w.setCell ⟨h, 3, none⟩ (.int .i64 f)) base h L pat now f ∧ Fr [38] [] base w (w.setCell ⟨h, 3, none⟩ (.int .i64 f)) := by
  obtain ⟨a1, a2, v0, hbox, hrow⟩ := hr
  have hF2 : Fr [38] [] base w (w.setCell ⟨h, 3, none⟩ (.int .i64 f)) := (Fr.refl _ _ _ _).set hbox (.inl (by simp [kd])) a1 _
  exact ⟨⟨a1, a2, v0, hbox.set3 f, hrow.fr hF2 (by simp) (by simp)⟩, hF2⟩
/-- A node's moment is written in its place. -/
theorem ref_set {g off c k : Nat} {n : Int} (hr : RefAt w base h L pat now ch) (hbox : RBox w h (.slice (some ⟨g, off, none⟩) L.length c) pat now ch) (hrow : RowT eTm 55 w base (.slice (some ⟨g, off, none⟩) L.length c) L) (hk : k < L.length) :
    RefAt (w.setCell ⟨g, off + k * 2 + 1, none⟩ (.int .i64 n)) base h (L.set k ⟨L[k].k, n⟩) pat now ch ∧ Fr rK [] base w (w.setCell ⟨g, off + k * 2 + 1, none⟩ (.int .i64 n)) ∧ w.frozen? ⟨g, off + k * 2 + 1, none⟩ = false ∧ (w.setCell ⟨g, off + k * 2 + 1, none⟩ (.int .i64 n)).cell? ⟨h, 3, none⟩ = some (.int .i64 ch) ∧ (w.setCell ⟨g, off + k * 2 + 1, none⟩ (.int .i64 n)).frozen? ⟨h, 3, none⟩ = false := by
  obtain ⟨hrow2, ⟨cs, hcs⟩, hb⟩ := hrow.set (x' := ⟨L[k].k, n⟩) (i := 1) (u := .int .i64 n) hk (by decide) rfl
  have hF : Fr rK [] base w (w.setCell ⟨g, off + k * 2 + 1, none⟩ (.int .i64 n)) := (Fr.refl _ _ _ _).set hcs (.inl (by simp [kd, rK])) hb _
  have hF2 : Fr [55] [] base w (w.setCell ⟨g, off + k * 2 + 1, none⟩ (.int .i64 n)) := (Fr.refl _ _ _ _).set hcs (.inl (by simp [kd])) hb _
  have hb2 : RBox (w.setCell ⟨g, off + k * 2 + 1, none⟩ (.int .i64 n)) h (.slice (some ⟨g, off, none⟩) L.length c) pat now ch := hF2.keep h _ hbox (by simp [kd]) (by simp)
  exact ⟨⟨hr.1, by rw [List.length_set]; exact hr.2.1, _, hb2, hrow2⟩, hF, by simp [World.frozen?, hcs], hb2.c3, hb2.frozen 3⟩
end

/-! ### Same -/
def SmRel (n : Nat) (w : World) (s5 : Value) (wr : World) : Prop := ∃ k : Nat, k ≤ n ∧ s5 = .int .i64 (k : Int) ∧ Below w.heap.size w wr
set_option maxHeartbeats 4000000 in
theorem same_any (K : List ByteArray) (A A' : Option Addr) (n c c' : Nat) (w : World) (h1 : Sl eKy w A K) (h2 : Sl eKy w A' K) (hn : K.length = n) (hb : n ≤ 100000) :
    Calls Try.prog 10 #[.slice A n c, .slice A' n c'] w fun r w' => r = .returned (.bool true) ∧ Below w.heap.size w w' := by
  have H1 := Lib.hid h1
  have H2 := Lib.hid h2
  have HN := Lib.hid hn
  have hn2 : (n : Int) ≤ 100000 := by omega
  clear h1 h2 hn hb
  go_enter Try.func10, Try.ntmps10
  go_wp2
  go_loopw [5] (SmRel n w) (fun i _ => n - (intOf i).toNat)
  case atStart => exact ⟨0, Nat.zero_le _, rfl, Below.refl _ _⟩
  case round =>
    obtain ⟨k, hk, rfl, hbl⟩ := hrel
    have HB := Lib.hid hbl
    clear hbl
    by_cases hkn : k < n
    · have hkl : k < K.length := by have := HN.out; omega
      obtain ⟨b, o, rfl, _, x0⟩ := at_ky (H1.out.below (Nat.le_refl _) HB.out) hkl
      obtain ⟨b', o', rfl, _, x1⟩ := at_ky (H2.out.below (Nat.le_refl _) HB.out) hkl
      generalize K[k] = x at x0 x1
      have hki : (k : Int) < (n : Int) := by omega
      have hk0 : (0 : Int) ≤ (k : Int) := by omega
      have HKN : Hid (k + 1 ≤ n) := hkn
      clear hkl hk
      go_wp2_with fail
      go_quiet (fail)
      have HB7 := Lib.hid (HB.out.trans ((below_drewN wr nq).mono HB.out.size))
      generalize wr.drewN nq = W9 at HB7 ⊢
      go_wp2
      go_roundw
      case rel => exact ⟨k + 1, HKN.out, by go_num, HB7.out⟩
      case measure => simp [intOf]; omega
    · have hki : ¬ (k : Int) < (n : Int) := by omega
      go_wp2
      go_ret
      exact ⟨rfl, HB.out⟩

/-! ### Lives, Find -/
set_option maxHeartbeats 2000000 in
theorem lives_any (base h : Nat) (L : List Tm) (pat now ch m : Int) (i : Nat) (w : World) (hr : RefAt w base h L pat now ch) (hi : i < L.length) (h0 : 0 ≤ L[i].n) (h1 : L[i].n ≤ 1000000) (m0 : 0 ≤ m) (m1 : m ≤ 1000000) :
    Calls Try.prog 19 #[.pointer (some ⟨h, 0, none⟩), .int .i64 (i : Int), .int .i64 m] w fun r w' => r = .returned (.bool (liv pat m L[i].n)) ∧ Below w.heap.size w w' := by
  obtain ⟨A, c, hbox, _, hp, _, _, hl⟩ := hr.parts
  have c0 := hbox.c0
  have c1 := hbox.c1
  obtain ⟨b, off, rfl, _, x0, x1⟩ := at_tm hp hi
  unfold liv
  have hi2 : (i : Int) < (L.length : Int) := by omega
  have hi0 : (0 : Int) ≤ (i : Int) := by omega
  generalize L[i] = x at x0 x1 h0 h1 ⊢
  generalize L.length = n at c0 hi2 hl
  obtain ⟨xk, xn⟩ := x
  simp only at x0 x1 h0 h1 ⊢
  clear hbox hp hr hi
  go_enter Try.func19, Try.ntmps19
  go_wp2_with fail
  go_quiet (fail)
  go_wp2
  go_ret
  exact ⟨rfl, below_drewN _ _⟩
/-- Where a key stands. -/
def FindIs (L : List Tm) (k : ByteArray) (v : Int) : Prop := (∃ (i : Nat) (hi : i < L.length), L[i].k = k ∧ v = (i : Int)) ∨ (k ∉ keys L ∧ v = -1)
def FdRel (L : List Tm) (key : ByteArray) (w : World) (s5 : Value) (wr : World) : Prop := ∃ k : Nat, k ≤ L.length ∧ s5 = .int .i64 (k : Int) ∧ (∀ x ∈ L.take k, x.k ≠ key) ∧ wr = w
set_option maxHeartbeats 2000000 in
theorem find_any (base h : Nat) (L : List Tm) (pat now ch : Int) (key : ByteArray) (w : World) (hr : RefAt w base h L pat now ch) :
    Calls Try.prog 15 #[.pointer (some ⟨h, 0, none⟩), .string key] w fun r w' => ∃ v, r = .returned (.int .i64 v) ∧ FindIs L key v ∧ w = w' := by
  obtain ⟨A, c, hbox, _, hp, hc, hA, hl⟩ := hr.parts
  have c0 := hbox.c0
  have HP := Lib.hid hp
  obtain ⟨m, hm⟩ : ∃ m, m = L.length := ⟨_, rfl⟩
  rw [← hm] at c0
  have HN := Lib.hid hm
  have hm2 : (m : Int) ≤ 100000 := by omega
  clear hbox hp hc hA hl hr hm
  go_enter Try.func15, Try.ntmps15
  go_wp2
  go_loopw [5] (FdRel L key w) (fun i _ => m - (intOf i).toNat)
  case atStart => exact ⟨0, Nat.zero_le _, rfl, by simp, rfl⟩
  case round =>
    obtain ⟨k, hk, rfl, hnk, rfl⟩ := hrel
    have HNK := Lib.hid hnk
    clear hnk
    by_cases hkm : k < m
    · have hkl : k < L.length := by have := HN.out; omega
      obtain ⟨b, off, rfl, xl, x0, x1⟩ := at_tm HP.out hkl
      have HST : Hid (L[k].k ≠ key → ∀ x ∈ L.take (k + 1), x.k ≠ key) := by
        intro hno x hx
        rw [List.take_succ_eq_append_getElem hkl] at hx
        rcases List.mem_append.mp hx with hx | hx
        · exact HNK.out x hx
        · rw [List.mem_singleton] at hx
          rw [hx]
          exact hno
      have HF : Hid (L[k].k = key → FindIs L key (k : Int)) := fun e => .inl ⟨k, hkl, e, rfl⟩
      have hki : (k : Int) < (m : Int) := by omega
      have hk0 : (0 : Int) ≤ (k : Int) := by omega
      generalize L[k] = x at x0 x1 HST HF
      have HKL := Lib.hid hkl
      clear xl hkl x1
      by_cases hxy : x.k = key
      · have HF2 := Lib.hid (HF.out hxy)
        clear HNK HST HF
        subst hxy
        go_wp2
        go_ret
        exact ⟨_, rfl, HF2.out, rfl⟩
      · have HST2 := Lib.hid (HST.out hxy)
        have hxy' : (x.k.toList == key.toList) = false := toList_ne hxy
        clear hxy HF HST
        go_wp2
        go_roundw
        case rel => exact ⟨k + 1, HKL.out, by go_num, HST2.out, rfl⟩
        case measure => simp [intOf]; omega
    · have hke : k = L.length := by have := HN.out; omega
      have HR : Hid (FindIs L key (-1)) := .inr ⟨fun hm => by
        obtain ⟨x, hx, e⟩ := List.mem_map.mp hm
        exact HNK.out x (by rw [hke, List.take_length]; exact hx) e, rfl⟩
      have hki : ¬ (k : Int) < (m : Int) := by omega
      clear hke HNK
      go_wp2
      go_ret
      exact ⟨_, rfl, HR.out, rfl⟩

/-! ### Where a key belongs -/
/-- Where a key belongs. -/
structure Plc (L : List Tm) (key : ByteArray) (j : Nat) : Prop where
  le : j ≤ L.length
  ahead : ∀ x ∈ L.take j, lt x.k key = true
  here : ∀ x, L[j]? = some x → lt x.k key = false
theorem Plc.parts {L : List Tm} {key : ByteArray} {j : Nat} (h : Plc L key j) (hr : Rises L) : ∀ x ∈ L.drop j, x.k = key ∨ lt key x.k = true := by
  intro x hx
  cases hd : L.drop j with
  | nil => rw [hd] at hx; cases hx
  | cons y r =>
    have hy : L[j]? = some y := by
      have : (L.drop j)[0]? = some y := by rw [hd]; rfl
      rw [List.getElem?_drop] at this
      simpa using this
    have h1 := h.here y hy
    have hy2 : y.k = key ∨ lt key y.k = true := by
      cases h2 : lt key y.k with
      | true => exact .inr rfl
      | false => exact .inl (lt_tri h1 h2)
    have hrd : Rises (y :: r) := by rw [← hd]; exact (List.Pairwise.drop hr : Rises (L.drop j))
    rw [hd] at hx
    rcases List.mem_cons.mp hx with rfl | hx
    · exact hy2
    · have h3 := (rises_cons.mp hrd).1 x hx
      rcases hy2 with h2 | h2
      · rw [h2] at h3
        exact .inr h3
      · exact .inr (lt_trans h2 h3)
theorem filter_all {α : Type} {p : α → Bool} {l : List α} (h : ∀ x ∈ l, p x = true) : l.filter p = l := List.filter_eq_self.mpr h
theorem filter_no {α : Type} {p : α → Bool} {l : List α} (h : ∀ x ∈ l, p x = false) : l.filter p = [] := List.filter_eq_nil_iff.mpr fun x hx => by rw [h x hx]; simp
theorem Plc.new {L : List Tm} {t : Tm} {j : Nat} (h : Plc L t.k j) (hr : Rises L) (hn : t.k ∉ keys L) : L.take j ++ t :: L.drop j = ins L t := by
  have hd : ∀ x ∈ L.drop j, lt t.k x.k = true := fun x hx => by
    rcases h.parts hr x hx with h1 | h1
    · exact absurd (List.mem_map.mpr ⟨x, List.mem_of_mem_drop hx, h1⟩) hn
    · exact h1
  have e1 : L.filter (fun x => lt x.k t.k) = L.take j := by
    conv => lhs; rw [← List.take_append_drop j L]
    rw [List.filter_append, filter_all h.ahead, filter_no (fun x hx => lt_asymm (hd x hx)), List.append_nil]
  have e2 : L.filter (fun x => lt t.k x.k) = L.drop j := by
    conv => lhs; rw [← List.take_append_drop j L]
    rw [List.filter_append, filter_no (fun x hx => lt_asymm (h.ahead x hx)), filter_all hd, List.nil_append]
  unfold ins
  rw [e1, e2]
theorem Plc.old {L : List Tm} {key : ByteArray} {j : Nat} (h : Plc L key j) (hr : Rises L) (hm : key ∈ keys L) : ∃ x, L[j]? = some x ∧ x.k = key := by
  obtain ⟨y, hy, rfl⟩ := List.mem_map.mp hm
  have hd : y ∈ L.drop j := by
    rw [← List.take_append_drop j L, List.mem_append] at hy
    rcases hy with h1 | h1
    · have := h.ahead y h1
      rw [lt_irrefl] at this
      cases this
    · exact h1
  cases hdd : L.drop j with
  | nil => rw [hdd] at hd; cases hd
  | cons z r =>
    have hz : L[j]? = some z := by
      have : (L.drop j)[0]? = some z := by rw [hdd]; rfl
      rw [List.getElem?_drop] at this
      simpa using this
    rw [hdd] at hd
    rcases List.mem_cons.mp hd with rfl | h1
    · exact ⟨y, hz, rfl⟩
    · have hrd : Rises (z :: r) := by rw [← hdd]; exact (List.Pairwise.drop hr : Rises (L.drop j))
      have h2 := (rises_cons.mp hrd).1 y h1
      rw [h.here z hz] at h2
      cases h2
/-- In the place of its key's. -/
theorem set_ins {L : List Tm} {j : Nat} (hr : Rises L) (hj : j < L.length) (m : Int) : L.set j ⟨L[j].k, m⟩ = ins L ⟨L[j].k, m⟩ := by
  have e0 : L = L.take j ++ L[j] :: L.drop (j + 1) := by
    rw [List.getElem_cons_drop]
    exact (List.take_append_drop j L).symm
  have e1 : L.filter (fun x => lt x.k L[j].k) = L.take j := by
    have h3 := hr
    rw [e0] at h3
    obtain ⟨_, h4, h5⟩ := rises_append.mp h3
    have h6 := (rises_cons.mp h4).1
    conv => lhs; arg 2; rw [e0]
    rw [List.filter_append, filter_all (fun x hx => h5 x hx _ (List.mem_cons.mpr (.inl rfl))), List.filter_cons, lt_irrefl, filter_no (fun x hx => lt_asymm (h6 x hx))]
    simp
  have e2 : L.filter (fun x => lt L[j].k x.k) = L.drop (j + 1) := by
    have h3 := hr
    rw [e0] at h3
    obtain ⟨_, h4, h5⟩ := rises_append.mp h3
    have h6 := (rises_cons.mp h4).1
    conv => lhs; arg 2; rw [e0]
    rw [List.filter_append, filter_no (fun x hx => lt_asymm (h5 x hx _ (List.mem_cons.mpr (.inl rfl)))), List.filter_cons, lt_irrefl, filter_all h6]
    simp
  unfold ins
  rw [e1, e2, List.set_eq_take_append_cons_drop, if_pos hj]
theorem set_same {L : List Tm} {j : Nat} (hj : j < L.length) : L.set j ⟨L[j].k, L[j].n⟩ = L := by
  have : (⟨L[j].k, L[j].n⟩ : Tm) = L[j] := rfl
  rw [this, List.set_getElem_self]
end Go.Proofs.Ytdmgmbjdocechaa

/-
  The contract of All: the markers in their order, on whatever order the map is ranged over. Its conditions: the table lies in memory, and has at most 100000 markers.
-/
import Derived.Test.YtkonkldcallimaaW9
import Derived.Test.YtkonkldcallimaaW10
namespace Go.Proofs.Ytkonkldcallimaa
open Go.RowKit Go.Maps
open Go.Sort (grow)

/-! ### the order -/
theorem cmpS_neg (x y : ByteArray) : cmpS x y < 0 ↔ lt x y = true := by
  unfold cmpS
  cases h1 : lt x y <;> cases h2 : lt y x <;> simp
theorem cmpS_zero {x y : ByteArray} : cmpS x y = 0 ↔ x = y := by
  unfold cmpS
  constructor
  · intro h
    cases h1 : lt x y with
    | true => rw [h1] at h; simp at h
    | false =>
      cases h2 : lt y x with
      | true => rw [h1, h2] at h; simp at h
      | false => exact lt_tri h1 h2
  · rintro rfl
    simp [lt_irrefl]
theorem cmpI_neg (x y : Int) : cmpI x y < 0 ↔ x < y := by
  unfold cmpI
  split
  · simp_all
  · split <;> simp_all
theorem cmpI_zero {x y : Int} : cmpI x y = 0 ↔ x = y := by
  unfold cmpI
  split
  · simp; omega
  · split
    · simp; omega
    · simp; omega
theorem cmpM_lt (a b : Mk) : Go.Proofs.ltOf cmpM a b = mlt a b := by
  unfold Go.Proofs.ltOf cmpM
  by_cases h1 : cmpS a.k b.k = 0
  · have e := cmpS_zero.mp h1
    simp only [h1, ne_eq, not_true_eq_false, if_false]
    by_cases h2 : cmpI a.s b.s = 0
    · have e2 := cmpI_zero.mp h2
      simp only [h2, not_true_eq_false, if_false]
      rw [show decide (cmpI a.r b.r < 0) = decide (a.r < b.r) from by simp only [cmpI_neg]]
      simp [mlt, lt_irrefl, e, e2]
    · have e2 : ¬ a.s = b.s := fun h => h2 (cmpI_zero.mpr h)
      simp only [h2, not_false_eq_true, if_true]
      rw [show decide (cmpI a.s b.s < 0) = decide (a.s < b.s) from by simp only [cmpI_neg]]
      simp [mlt, lt_irrefl, e, e2]
  · have e : ¬ a.k = b.k := fun h => h1 (cmpS_zero.mpr h)
    simp only [h1, ne_eq, not_false_eq_true, if_true]
    cases h : lt a.k b.k with
    | true => simp [mlt, h, (cmpS_neg _ _).mpr h]
    | false =>
      have : ¬ cmpS a.k b.k < 0 := fun hh => by rw [(cmpS_neg _ _).mp hh] at h; cases h
      simp [mlt, h, e, this]
theorem swoM : Go.Sort.SWO (Go.Proofs.ltOf cmpM) where
  irrefl x := by rw [cmpM_lt]; exact mlt_irrefl x
  trans x y z h1 h2 := by rw [cmpM_lt] at *; exact mlt_trans h1 h2
  ntrans x y z h1 h2 := by
    rw [cmpM_lt] at *
    cases h : mlt x z with
    | false => rfl
    | true =>
      cases h3 : mlt y x with
      | true => rw [mlt_trans h3 h] at h2; cases h2
      | false =>
        have := mlt_tri h1 h3
        subst this
        rw [h] at h2
        cases h2
theorem totM (x y : Mk) (h1 : Go.Proofs.ltOf cmpM x y = false) (h2 : Go.Proofs.ltOf cmpM y x = false) : x = y := by
  rw [cmpM_lt] at h1 h2
  exact mlt_tri h1 h2
/-- What is sorted is the list that rises. -/
theorem sorted_is {V L : List Mk} (hn : V.Nodup) (hm : ∀ m, m ∈ V ↔ m ∈ L) (hr : Rises L) : V.mergeSort (fun x y => !(Go.Proofs.ltOf cmpM) y x) = L := by
  have hp := List.mergeSort_perm V (fun x y => !(Go.Proofs.ltOf cmpM) y x)
  have hs := List.pairwise_mergeSort (le := fun x y => !(Go.Proofs.ltOf cmpM) y x) (fun a b c h1 h2 => by
    simp only [cmpM_lt, Bool.not_eq_true'] at h1 h2 ⊢
    cases h : mlt c a with
    | false => rfl
    | true =>
      cases h3 : mlt b c with
      | true => rw [mlt_trans h3 h] at h1; cases h1
      | false =>
        have := mlt_tri h3 h2
        subst this
        rw [h] at h1
        cases h1) (fun a b => by
    simp only [cmpM_lt]
    cases h : mlt b a with
    | false => rfl
    | true => rw [mlt_asymm h]; rfl) V
  have hn' := hp.nodup_iff.mpr hn
  refine rises_one ?_ hr fun q => by rw [hp.mem_iff]; exact hm q
  refine (hs.and hn').imp fun {a b} h => ?_
  have h1 : mlt b a = false := by simpa [cmpM_lt] using h.1
  cases h2 : mlt a b with
  | true => rfl
  | false => exact absurd (mlt_tri h2 h1) h.2
/-- A marker's cells. -/
def encM (m : Mk) : List Value := [.string m.k, .int .i64 m.s, .int .i64 m.r]
theorem encM_len (m : Mk) : (encM m).length = 3 := rfl
theorem encM_one (m : Mk) : ∀ v ∈ encM m, v.oneCell' = true := by
  intro v hv
  simp [encM] at hv
  rcases hv with rfl | rfl | rfl <;> rfl
theorem enters30 : ∀ args w, (callFunc 30 args).run Try.prog w = .ok (.enter 30 args) w := Go.Proofs.enters_of Try.func30 (by kernel_rfl) rfl
theorem lays30 (blk off size : Nat) (w : World) : Go.Proofs.CmpLays Try.prog 30 #[] encM 3 cmpM blk off size w := fun _ _ _ _ x y => order_any x y _
/-- A row of markers, in the sort's words. -/
theorem holds_of {w : World} {b cap : Nat} {cs : Array Value} {V : List Mk} (hb : w.heap[b]? = some (.cells cs 48 (0, 0))) (hc : cs.toList.take (V.length * 3) = mkVals V) (_hs : V.length ≤ cap) : Go.Sort.HoldsK encM 3 w b 0 V.toArray := by
  intro j hj
  rw [Go.Sort.size_flatK] at hj
  have hj3 : j / 3 < V.length := by simp at hj; omega
  refine ⟨?_, by simp [World.frozen?, hb]⟩
  rw [Go.Sort.get_flatK _ _ _ _ hj, cell_of hb, Nat.zero_add]
  have hk : V[j / 3]? = some V[j / 3] := List.getElem?_eq_getElem hj3
  have e2 : V.toArray[j / 3]! = V[j / 3] := by simp [hj3]
  rw [e2]
  have hm : j % 3 < 3 := Nat.mod_lt _ (by omega)
  have key : ∀ i u, i < 3 → [Value.string V[j / 3].k, .int .i64 V[j / 3].s, .int .i64 V[j / 3].r][i]? = some u → cs[j / 3 * 3 + i]? = some u := fun i u hi hu => by
    have e1 := mkVals_get hk hi hu
    rw [← hc, List.getElem?_take, if_pos (by omega)] at e1
    simpa using e1
  have e3 : j = j / 3 * 3 + j % 3 := by omega
  have hu : (encM V[j / 3])[j % 3]? = some (encM V[j / 3])[j % 3]! := by
    rw [List.getElem!_eq_getElem?_getD, List.getElem?_eq_getElem (by rw [encM_len]; exact hm)]
    rfl
  have := key (j % 3) _ hm hu
  rw [← e3] at this
  exact this
/-- The world behind a sort: the row's block alone is another. -/
theorem sort_block {w : World} {b m : Nat} {cs : Array Value} {D : Array Mk} {os : Array Obj} (hb : w.heap[b]? = some (.cells cs 48 (0, 0))) :
    (∃ cs', (Go.Proofs.sortWorldK encM 3 w b 0 m D os).heap[b]? = some (.cells cs' 48 (0, 0))) ∧ w.grownBy (Go.Proofs.sortWorldK encM 3 w b 0 m D os) (some b) := by
  have hlt := lt_of_heap hb
  have hh : (Go.Proofs.sortWorldK encM 3 w b 0 m D os).heap = w.heap.modify b (Go.Sort.onCells (Go.Sort.putCells id 0 (Go.Sort.flatK encM 3 D))) ++ os := rfl
  have hsz : (w.heap.modify b (Go.Sort.onCells (Go.Sort.putCells id 0 (Go.Sort.flatK encM 3 D)))).size = w.heap.size := by simp
  refine ⟨⟨Go.Sort.putCells id 0 (Go.Sort.flatK encM 3 D) cs, ?_⟩, rfl, rfl, rfl, ?_, fun k hk hne => ?_⟩
  · rw [hh, Array.getElem?_append_left (by rw [hsz]; exact hlt), Array.getElem?_modify, if_pos rfl, hb]
    rfl
  · rw [hh, Array.size_append, hsz]
    omega
  · have hne' : b ≠ k := fun e => hne (by rw [e])
    rw [hh, Array.getElem?_append_left (by rw [hsz]; exact hk), Array.getElem?_modify, if_neg hne']
/-- What the sort leaves. -/
theorem sort_row {w : World} {b cap : Nat} {cs : Array Value} {V L : List Mk} (hb : w.heap[b]? = some (.cells cs 48 (0, 0))) (hc : cs.toList.take (V.length * 3) = mkVals V) (hcap : V.length ≤ cap) (hn : V.Nodup) (hm : ∀ m, m ∈ V ↔ m ∈ L) (hr : Rises L) (hl : V.length ≤ 100000) :
    Calls Try.prog 29 #[.slice (some ⟨b, 0, none⟩) V.length cap, .func (.func 30) #[] #[]] w fun r w' => r = .returned (.tuple #[]) ∧ Tgs 48 w' (some ⟨b, 0, none⟩) L ∧ w.grownBy w' (some b) ∧ V.length = L.length := by
  have hH := holds_of hb hc hcap
  have hcon := Go.Proofs.AnyQ.slices_SortFunc_total sortMk 3 Try.isAgg48 Try.sizeOf48 encM encM_len encM_one cmpM swoM 30 #[] b 0 cap V.toArray w enters30 (lays30 _ _ _ _) hH (lt_of_heap hb) (by simp; omega) totM
  have hL : V.toArray.toList.mergeSort (fun x y => !(Go.Proofs.ltOf cmpM) y x) = L := sorted_is hn hm hr
  rw [hL] at hcon
  have hlen : V.length = L.length := by
    rw [← hL]
    simp
  have hcon' : Calls Try.prog 29 #[.slice (some ⟨b, 0, none⟩) V.length cap, .func (.func 30) #[] #[]] w fun e w' => e = .returned (.tuple #[]) ∧ ∃ n os, w' = Go.Proofs.sortWorldK encM 3 w b 0 n L.toArray os := hcon
  refine hcon'.mono ?_
  rintro r w' ⟨rfl, n, os, rfl⟩
  obtain ⟨⟨cs', hb'⟩, hg⟩ := sort_block (m := n) (D := L.toArray) (os := os) hb
  have hH' : Go.Sort.HoldsK encM 3 (Go.Proofs.sortWorldK encM 3 w b 0 n L.toArray os) b 0 L.toArray := Go.Proofs.SWK.holds ⟨n, os, rfl⟩ (lt_of_heap hb) hH (by simp [hlen])
  refine ⟨rfl, ⟨by unfold maxLen; omega, fun h0 => ⟨b, 0, cs', rfl, hb', fun k t hk => ?_⟩⟩, hg, hlen⟩
  obtain ⟨hkl, hkt⟩ := List.getElem?_eq_some_iff.mp hk
  have key := fun c (hc : c < 3) => (Go.Sort.HoldsK.cell hH' (i := k) (c := c) (by simpa using hkl) hc).1
  have e : L.toArray[k]! = t := by rw [← hkt]; simp [hkl]
  have k0 := key 0 (by omega)
  have k1 := key 1 (by omega)
  have k2 := key 2 (by omega)
  rw [e, cell_of hb'] at k0 k1 k2
  exact ⟨k0, k1, k2⟩
theorem nodup_len {V : List Mk} : ∀ {L : List Mk}, V.Nodup → (∀ x ∈ V, x ∈ L) → V.length ≤ L.length := by
  induction V with
  | nil => intro L _ _; simp
  | cons x r ih =>
    intro L hn hs
    obtain ⟨h1, h2⟩ := List.nodup_cons.mp hn
    have hx := hs x (by simp)
    have := ih (L := L.erase x) h2 (fun y hy => (List.mem_erase_of_ne (fun (e : y = x) => h1 (by rw [← e]; exact hy))).mpr (hs y (by simp [hy])))
    rw [List.length_erase_of_mem hx] at this
    have h0 := List.length_pos_of_mem hx
    simp
    omega
/-- All under way: the row has just those that have come. -/
structure AllI (w wr : World) (B r : Nat) (L : List Mk) (left : Lit → Bool) (n cnt : Nat) (D : DataW Unit) (v : Value) (V : List Mk) : Prop where
  rg : wr.ranges Try.prog 48 uE B r n D left cnt
  row : RowT 48 wr w.heap.size v V
  nd : V.Nodup
  mem : ∀ m, m ∈ V ↔ m ∈ L ∧ left (mLit m) = false
  bel : Below w.heap.size w wr
theorem AllI.left_eq {w wr : World} {B r : Nat} {L : List Mk} {left : Lit → Bool} {n cnt : Nat} {D : DataW Unit} {v : Value} {V : List Mk} (h : AllI w wr B r L left n cnt D v V) : wr.rangeLeft B r = cnt := h.rg.left_eq
/-- A round of All. -/
theorem AllI.step {w wr w1 : World} {B r : Nat} {L : List Mk} {left : Lit → Bool} {n cnt cnt1 : Nat} {D : DataW Unit} {v : Value} {V : List Mk} {m : Mk} {y : DataW Unit} (h : AllI w wr B r L left n cnt D v V) (hr : w.heap.size ≤ r) (hrd : Reads D L) (ho : ∀ x ∈ L, Ok x) (hl : L.length ≤ 100000) (hm : Ok m)
    (hlk : left (mLit m) = true) (hat : ∀ zd, D.atKey (mLit m) zd = y) (hg1 : wr.grownBy w1 (some r)) (hrg1 : w1.ranges Try.prog 48 uE B r n D (fun z => left z && !z.sameKey (mLit m)) cnt1) :
    ∃ v' W', (Builtin.append_ #[44, 44] 44 #[v, .slice (some ⟨w1.heap.size + 1, 0, none⟩) 1 1]).run Try.prog ((w1.alloc (.cells #[.string m.k, .int .i64 m.s, .int .i64 m.r] 48)).alloc (.cells #[.string m.k, .int .i64 m.s, .int .i64 m.r] 48)) = .ok v' W' ∧ AllI w W' B r L (strike left (mLit m)) n cnt1 D v' (V ++ [m]) := by
  have hmL := entry_of hrd hm hat
  obtain ⟨oi, hoi, hki⟩ := iter_at h.rg
  have row1 : RowT 48 w1 w.heap.size v V := by
    refine ⟨h.row.1, ?_⟩
    rcases h.row.2 with h2 | ⟨g, cap, cur, hv, hb, hg, rest⟩
    · exact .inl h2
    · exact .inr ⟨g, cap, cur, hv, hb, kept_of hg1 hoi hg (by rw [hki]; simp [kd]), rest⟩
  have b1 := Below.grownNew h.bel hg1 hr
  have b3 : Below w1.heap.size w1 ((w1.alloc (.cells #[.string m.k, .int .i64 m.s, .int .i64 m.r] 48)).alloc (.cells #[.string m.k, .int .i64 m.s, .int .i64 m.r] 48)) := ((Below.refl _ _).alloc (Nat.le_refl _) _).alloc (by simp) _
  have tg := tgs_one (e := 48) (w1.alloc (.cells #[.string m.k, .int .i64 m.s, .int .i64 m.r] 48)) m
  rw [World.size_alloc] at tg
  have hVn : ∀ x ∈ V, x ∈ L := fun x hx => ((h.mem x).mp hx).1
  have hVl : V.length ≤ L.length := nodup_len h.nd hVn
  have hbs : w.heap.size ≤ w1.heap.size := b1.size
  obtain ⟨v', W', hrun, ho', hg'⟩ := (row1.below b3).app el44 (Nat.le_trans hbs b3.size) tg rfl (by simp) (by simp; omega)
  refine ⟨v', W', hrun, ⟨?_, ho', ?_, ?_, ?_⟩⟩
  · have rg3 := hrg1.kept (grown_of_below b3 none) (by simp) (by simp)
    obtain ⟨o1, ho1, hk1⟩ := iter_at rg3
    obtain ⟨o2, ho2, hk2⟩ := map_at rg3
    refine rg3.kept hg' (fun e => ?_) (fun e => ?_)
    · obtain ⟨_, cs, hcs⟩ := (row1.below b3).own e.symm
      rw [ho2] at hcs
      cases hcs
      simp [kd] at hk2
    · obtain ⟨_, cs, hcs⟩ := (row1.below b3).own e.symm
      rw [ho1] at hcs
      cases hcs
      simp [kd] at hk1
  · refine List.nodup_append.mpr ⟨h.nd, by simp, fun a ha b hb e => ?_⟩
    simp at hb
    subst hb
    subst e
    have := ((h.mem a).mp ha).2
    rw [hlk] at this
    cases this
  · intro x
    rw [List.mem_append, List.mem_singleton, h.mem]
    unfold strike
    by_cases e : x = m
    · subst e
      rw [WideAt.sameKey_self (mLit_key _)]
      simp [hmL]
    · constructor
      · rintro (⟨h1, h2⟩ | h1)
        · exact ⟨h1, by rw [h2]; rfl⟩
        · exact absurd h1 e
      · rintro ⟨h1, h2⟩
        rw [same_lit (ho x h1) hm] at h2
        exact .inl ⟨h1, by simpa [e] using h2⟩
  · have hb3 := b1.trans (b3.mono hbs)
    exact hb3.grown hg' hb3.size (fun k hk => ((row1.below b3).own hk).1)
set_option maxHeartbeats 4000000 in
theorem all_any (base g B : Nat) (L : List Mk) (limit : Int) (w : World) (h : TableAt w base g B L limit) (hl : L.length ≤ 100000) :
    Calls Try.prog 21 #[.pointer (some ⟨g, 0, none⟩)] w fun r w' => ∃ A c, r = .returned (.slice A L.length c) ∧ Tgs 48 w' A L ∧ Below w.heap.size w w' ∧ L.length ≤ c ∧ (A = none → c = 0) := by
  have c1 := h.box.c1
  have hlen := h.mp.len 3
  obtain ⟨n, hn⟩ : ∃ n, n = L.length := ⟨_, rfl⟩
  obtain ⟨w1, hmk, hrow, hb1⟩ := RowT.make el44 w w.heap.size n (Nat.le_refl _) (by omega)
  have c1' := (h.box.below hb1).c1
  obtain ⟨D, hown, hrd⟩ := (h.below hb1).mp
  rw [← hn] at hown hlen
  have HN := Lib.hid hn
  have HC := Lib.hid h
  have HR := Lib.hid hrd
  have HL := Lib.hid hl
  have HB1 := Lib.hid hb1
  have HROW := Lib.hid hrow
  have hsz1 : Hid (w.heap.size ≤ w1.heap.size) := hb1.size
  clear h hrd hn hl hb1 hrow
  obtain ⟨q, hq⟩ : ∃ q, q = w.heap.size := ⟨_, rfl⟩
  rw [← hq] at hmk
  have HQ := Lib.hid hq
  clear hq
  go_enter Try.func21, Try.ntmps21
  go_wp2_with (first
    | (at_range; refine wpList_range_own _ rfl _ 51 rfl 48 55 law48 Try.underlying51 uE B n D rfl hown ?_; intro w0 hrg0 hg0 hs0)
    | go_in)
  go_frame
  go_loopw [3] (fun s3 wr => ∃ left cnt V, AllI w wr B w1.heap.size L left n cnt D s3 V) (fun _ wr => wr.rangeLeft B w1.heap.size)
  case atStart =>
    refine ⟨_, _, [], ⟨hrg0, ?_, List.nodup_nil, fun m => ?_, HB1.out.trans ((Below.of_none hg0).mono hsz1.out)⟩⟩
    · rw [HQ.out]
      exact HROW.out.below (Below.of_none hg0)
    · constructor
      · intro h
        cases h
      · rintro ⟨h1, h2⟩
        rw [has_all HR.out HC.out.ok h1] at h2
        cases h2
  case round =>
    obtain ⟨left, cnt, V, hi⟩ := hrel
    have hrg := hi.rg
    have HI := Lib.hid hi
    have HM := Lib.hid hi.left_eq
    clear hi hrg0 hown c1 c1' hg0 hs0 hlen hmk
    go_wp2_with (first
      | (at_next; refine wpList_next_ranges _ rfl _ rfl 48 law48 uE (fun m : Mk => Value.agg #[.string m.k, .int .i64 m.s, .int .i64 m.r]) (fun _ : Unit => Value.agg #[]) key_form uE_form B w1.heap.size n D left cnt rfl hrg ?_ ?_)
      | go_in)
    · intro hc0 hl0
      clear hrg hc0
      have hmem : ∀ m, m ∈ V ↔ m ∈ L := fun m => by rw [HI.out.mem]; simp [hl0]
      rcases HI.out.row.2 with ⟨rfl, hz⟩ | ⟨gb, cap, cur, rfl, hbb, hgb, hle, _, _, htk⟩
      · have hV : V = [] := List.eq_nil_of_length_eq_zero hz
        have hL : L = [] := by
          cases L with
          | nil => rfl
          | cons x r => have := (hmem x).mpr (by simp); rw [hV] at this; cases this
        subst hL
        clear hl0 hmem hz hV
        have CN : Hid (Calls Try.prog 29 #[.slice none 0 0, .func (.func 30) #[] #[]] wr fun e w' => e = .returned (.tuple #[]) ∧ w' = wr) := Go.Proofs.AnyF.slices_SortFunc_none sortMk none 0 _ wr
        go_wp2_with fail
        refine CN.out.mono ?_
        rintro r w3 ⟨rfl, rfl⟩
        go_wp2
        go_ret
        exact ⟨none, 0, rfl, tgs_nil _, HI.out.bel, Nat.le_refl _, fun _ => rfl⟩
      · have CS := Lib.hid (sort_row hgb htk hle HI.out.nd hmem HC.out.good.rs (by have := nodup_len HI.out.nd (fun x hx => (hmem x).mp hx); have := HL.out; omega))
        have HBB := Lib.hid hbb
        obtain ⟨p, hp⟩ : ∃ p, p = V.length := ⟨_, rfl⟩
        rw [← hp] at CS hle
        have HLE := Lib.hid hle
        rw [← hp]
        clear hl0 hmem hgb htk hle hp hbb
        go_wp2_with fail
        refine CS.out.mono ?_
        rintro r w3 ⟨rfl, t3, g3, e3⟩
        have HE : Hid (Tgs 48 w3 (some ⟨gb, 0, none⟩) L ∧ Below w.heap.size w w3) := ⟨t3, HI.out.bel.grown g3 HI.out.bel.size (fun k hk => by cases hk; exact HBB.out)⟩
        have E3 := Lib.hid e3
        clear t3 g3 CS e3
        go_wp2
        go_ret
        exact ⟨_, cap, by rw [← E3.out]; rfl, HE.out.1, HE.out.2, by rw [← E3.out]; exact HLE.out, by simp⟩
    · intro m kl yd yp w2 cnt1 hkey hlk hv hat hrg1 hlt hg1 hs1 hen
      obtain ⟨hok, rfl⟩ := key_ok hkey
      obtain ⟨v', W', hrun, hi'⟩ := HI.out.step hsz1.out HR.out HC.out.ok HL.out hok hlk hat hg1 hrg1
      obtain ⟨A', c', rfl, _⟩ := hi'.row.form
      have HI' := Lib.hid hi'
      have LT := Lib.hid hlt
      rw [hs1] at hrun
      have R1 := Lib.hid hrun
      clear hkey hok hlk hv hat hrg1 hlt hg1 hrg hi' hrun
      go_wp2_with (first | (at_builtin; refine wpList_append_run rfl _ _ 44 44 rfl _ _ rfl rfl _ W' R1.out ?_))
      refine ⟨⟨strike left (mLit m), cnt1, V ++ [m], ?_⟩, ?_⟩
      · have := HI'.out
        rw [List.length_append] at this
        exact this
      · rw [HI'.out.left_eq, HM.out]
        exact LT.out
theorem all_nil (w : World) : Calls Try.prog 21 #[.pointer none] w fun r w' => r = .returned (.slice none 0 0) ∧ w = w' := by
  go_enter Try.func21, Try.ntmps21
  go_wp2
  go_ret
  exact ⟨rfl, rfl⟩
end Go.Proofs.Ytkonkldcallimaa

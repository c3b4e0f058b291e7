/-
  The contract of Keys: the keys, rising, on whatever order the map is ranged over. Its conditions: the table lies in memory, and has at most 100000 tombstones.
-/
import Derived.Test.YtlleiehacmkedaaLay
import Derived.Test.YtlleiehacmkedaaW4
import Derived.Sort.OwnSorted
namespace Go.Proofs.Ytlleiehacmkedaa
open Go.RowKit Go.Maps Go.ChangeMaps
open Go.Sort (grow)

theorem le_less (x y : List UInt8) : decide (x ≤ y) = !Op.bytesLess y x := by
  rw [bytesLess_eq]
  by_cases h : y < x
  · have : ¬ x ≤ y := fun h2 => (List.not_lt.mpr h2) h
    simp [h, this]
  · have : x ≤ y := List.not_lt.mp h
    simp [h, this]
/-- A text's bytes. -/
def bs (k : ByteArray) : List UInt8 := k.data.toList
theorem bs_mk (l : List UInt8) : bs ⟨l.toArray⟩ = l := by simp [bs]
theorem mk_bs (k : ByteArray) : (⟨(bs k).toArray⟩ : ByteArray) = k := by
  cases k
  simp [bs]
theorem bs_inj {a b : ByteArray} (h : bs a = bs b) : a = b := by rw [← mk_bs a, ← mk_bs b, h]
theorem lt_bs (a b : ByteArray) : lt a b = Op.bytesLess (bs a) (bs b) := by
  unfold lt
  rw [toList_data, toList_data]
  rfl
/-- What is sorted is the list that rises. -/
theorem sorted_is {V K : List ByteArray} (hn : V.Nodup) (hm : ∀ k, k ∈ V ↔ k ∈ K) (hr : KRises K) : (V.map bs).mergeSort (fun x y => decide (x ≤ y)) = K.map bs := by
  have hp := List.mergeSort_perm (V.map bs) (fun x y => decide (x ≤ y))
  have hs := List.pairwise_mergeSort (le := fun x y : List UInt8 => decide (x ≤ y)) (fun a b c h1 h2 => by
    simp only [le_less, Bool.not_eq_true'] at h1 h2 ⊢
    cases h : Op.bytesLess c a with
    | false => rfl
    | true =>
      cases h3 : Op.bytesLess b c with
      | true => rw [bl_trans h3 h] at h1; cases h1
      | false =>
        have := bl_tri h3 h2
        subst this
        rw [h] at h1
        cases h1) (fun a b => by
    simp only [le_less]
    cases h : Op.bytesLess b a with
    | false => simp
    | true =>
      cases h2 : Op.bytesLess a b with
      | false => simp
      | true =>
        have := bl_trans h h2
        rw [bl_irrefl] at this
        cases this) (V.map bs)
  generalize (V.map bs).mergeSort (fun x y => decide (x ≤ y)) = T at hp hs
  have hn' : T.Nodup := hp.nodup_iff.mpr (by
    unfold List.Nodup at hn ⊢
    rw [List.pairwise_map]
    exact hn.imp fun h e => h (bs_inj e))
  have e : (T.map fun l => (⟨l.toArray⟩ : ByteArray)) = K := by
    refine krises_one ?_ hr fun q => ?_
    · unfold KRises
      rw [List.pairwise_map]
      refine (hs.and hn').imp fun {a b} h => ?_
      rw [lt_bs, bs_mk, bs_mk]
      have h1 : Op.bytesLess b a = false := by simpa [le_less] using h.1
      cases h2 : Op.bytesLess a b with
      | true => rfl
      | false => exact absurd (bl_tri h2 h1) h.2
    · rw [← hm, List.mem_map]
      constructor
      · rintro ⟨l, hl, rfl⟩
        rw [hp.mem_iff, List.mem_map] at hl
        obtain ⟨v, hv, rfl⟩ := hl
        rw [mk_bs]
        exact hv
      · intro hq
        exact ⟨bs q, hp.mem_iff.mpr (List.mem_map_of_mem hq), mk_bs q⟩
  rw [← e, List.map_map]
  conv => lhs; rw [← List.map_id T]
  refine List.map_congr_left fun l _ => ?_
  simp [bs_mk]
theorem vals_ky (V : List ByteArray) : eKy.vals V = (V.map bs).map encStr := by
  induction V with
  | nil => rfl
  | cons x r ih =>
    have e : eKy.vals (x :: r) = [Value.string x] ++ eKy.vals r := by simp [Enc.vals, eKy]
    rw [e, ih]
    simp only [List.map_cons]
    rw [show encStr (bs x) = Value.string x from by show Value.string ⟨(bs x).toArray⟩ = _; rw [mk_bs]]
    rfl
/-- What the sort leaves. -/
theorem sort_row {w : World} {base g cap : Nat} {V K : List ByteArray} (h : RowT eKy 9 w base (.slice (some ⟨g, 0, none⟩) V.length cap) V) (hn : V.Nodup) (hm : ∀ k, k ∈ V ↔ k ∈ K) (hr : KRises K) (hl : V.length ≤ 100000) :
    Calls Try.prog 23 #[.slice (some ⟨g, 0, none⟩) V.length cap] w fun r w' => r = .returned (.tuple #[]) ∧ RowT eKy 9 w' base (.slice (some ⟨g, 0, none⟩) V.length cap) K ∧ w.grownBy w' (some g) ∧ V.length = K.length := by
  obtain ⟨h1, h2⟩ := h
  rcases h2 with ⟨e, _⟩ | ⟨g', cap', cur, e, hb, hg, hle, hcm, hcs, htk⟩
  · cases e
  cases e
  rw [vals_ky] at htk
  have hlen : (V.map bs).length = V.length := by simp
  have htk2 : cur.toList.take (V.map bs).length = (V.map bs).map encStr := by
    rw [hlen]
    have := htk
    rwa [show V.length * eKy.wd = V.length from Nat.mul_one _] at this
  have hcon := Any.slices_Sort_string sortS g 0 cap (V.map bs) w (holds_of_block hg htk2) (lt_of_heap hg) (by rw [hlen]; omega)
  rw [sorted_is hn hm hr, hlen] at hcon
  have hKV : V.length = K.length := by
    have := congrArg List.length (sorted_is hn hm hr)
    simpa using this
  have hcon' : Calls Try.prog 23 #[.slice (some ⟨g, 0, none⟩) V.length cap] w fun e w' => e = .returned (.tuple #[]) ∧ ∃ n os, w' = grow (Go.Sort.putRow encStr (Go.Sort.ahead w n) g 0 (K.map bs).toArray) os := hcon
  refine hcon'.mono ?_
  rintro r w' ⟨rfl, n, os, rfl⟩
  have ho := ownsRow_sorted (n := n) (os := os) (ss := V.map bs) (ts := K.map bs) (by simp [hKV]) hb hg (by rw [hlen]; exact hle) hcm hcs
  rw [hlen] at ho
  refine ⟨rfl, ?_, grownBy_sorted _, hKV⟩
  unfold RowT
  rw [vals_ky, ← hKV]
  exact ho
theorem nodup_len {α : Type} [DecidableEq α] {V : List α} : ∀ {L : List α}, V.Nodup → (∀ x ∈ V, x ∈ L) → V.length ≤ L.length := by
  induction V with
  | nil => intro L _ _; simp
  | cons x r ih =>
    intro L hn hs
    obtain ⟨h1, h2⟩ := List.nodup_cons.mp hn
    have hx := hs x (by simp)
    have := ih (L := L.erase x) h2 (fun y hy => (List.mem_erase_of_ne (fun (e : y = x) => h1 (by rw [← e]; exact hy))).mpr (hs y (by simp [hy])))
    rw [List.length_erase_of_mem hx] at this
    have h0 := List.length_pos_of_mem hx
    simp
    omega
theorem keys_length (L : List Tm) : (keys L).length = L.length := by simp [keys]
/-- Keys under way: the row has just those that have come. -/
structure KeyI (w wr : World) (B r : Nat) (L : List Tm) (left : Lit → Bool) (n cnt : Nat) (D : DataW Unit) (v : Value) (V : List ByteArray) : Prop where
  rg : wr.ranges Try.prog 9 iE B r n D left cnt
  row : RowT eKy 9 wr w.heap.size v V
  nd : V.Nodup
  mem : ∀ k, k ∈ V ↔ k ∈ keys L ∧ left (kLit k) = false
  bel : Below w.heap.size w wr
theorem KeyI.left_eq {w wr : World} {B r : Nat} {L : List Tm} {left : Lit → Bool} {n cnt : Nat} {D : DataW Unit} {v : Value} {V : List ByteArray} (h : KeyI w wr B r L left n cnt D v V) : wr.rangeLeft B r = cnt := h.rg.left_eq
/-- A round of Keys. -/
theorem KeyI.step {w wr w1 : World} {B r : Nat} {L : List Tm} {left : Lit → Bool} {n cnt cnt1 : Nat} {D : DataW Unit} {v : Value} {V : List ByteArray} {k : ByteArray} {c : Int} {kl : Lit} {y : DataW Unit × List MemPlace} (h : KeyI w wr B r L left n cnt D v V) (hr : w.heap.size ≤ r) (hrd : Reads D L) (hl : L.length ≤ 100000)
    (hkey : keyOf Try.prog 9 (.string k) = some kl) (hv : iE (.int .i64 c) = some y) (hlk : left kl = true) (hat : ∀ zd, D.atKey kl zd = y.1) (hg1 : wr.grownBy w1 (some r)) (hrg1 : w1.ranges Try.prog 9 iE B r n D (fun z => left z && !z.sameKey kl) cnt1) :
    ∃ v' W', (Builtin.append_ #[37, 37] 37 #[v, .slice (some ⟨w1.heap.size, 0, none⟩) 1 1]).run Try.prog (w1.alloc (.cells #[.string k] 9)) = .ok v' W' ∧ KeyI w W' B r L (strike left kl) n cnt1 D v' (V ++ [k]) := by
  obtain ⟨rfl, hk⟩ := keyOf9_lit hkey
  rw [iE_lit hv] at hat
  have hkL : k ∈ keys L := List.mem_map.mpr ⟨_, entry_of hrd hat, rfl⟩
  obtain ⟨oi, hoi, hki⟩ := iter_at h.rg
  have row1 : RowT eKy 9 w1 w.heap.size v V := by
    refine ⟨h.row.1, ?_⟩
    rcases h.row.2 with h2 | ⟨g, cap, cur, hv, hb, hg, rest⟩
    · exact .inl h2
    · exact .inr ⟨g, cap, cur, hv, hb, kept_of hg1 hoi hg (by rw [hki]; simp [kd]), rest⟩
  have b1 : Below w.heap.size w w1 := by
    have hsz := h.bel.size
    exact h.bel.trans ⟨hg1.os, hg1.tape, hg1.output, hg1.size, fun i hi => hg1.block i (by omega) (fun e => by cases e; omega)⟩
  have b3 : Below w1.heap.size w1 (w1.alloc (.cells #[.string k] 9)) := (Below.refl _ _).alloc (Nat.le_refl _) _
  have hVl : V.length ≤ L.length := by
    have := nodup_len h.nd (fun x hx => ((h.mem x).mp hx).1)
    rwa [keys_length] at this
  have hbs : w.heap.size ≤ w1.heap.size := b1.size
  obtain ⟨v', W', hrun, ho', hg'⟩ := (row1.below b3).app el37 (Nat.le_trans hbs b3.size) (sl_one (E := eKy) w1 k 9) (n := 1) (c := 1) rfl (by simp) (by omega)
  refine ⟨v', W', hrun, ⟨?_, ho', ?_, ?_, ?_⟩⟩
  · have rg3 := hrg1.kept (grown_of_below b3 none) (by simp) (by simp)
    obtain ⟨o1, ho1, hk1⟩ := iter_at rg3
    obtain ⟨o2, ho2, hk2⟩ := map_at rg3
    refine rg3.kept hg' (fun e => ?_) (fun e => ?_)
    · obtain ⟨_, cs, hcs⟩ := (row1.below b3).own e.symm
      rw [ho2] at hcs
      cases hcs
      simp [kd] at hk2
    · obtain ⟨_, cs, hcs⟩ := (row1.below b3).own e.symm
      rw [ho1] at hcs
      cases hcs
      simp [kd] at hk1
  · refine List.nodup_append.mpr ⟨h.nd, by simp, fun a ha b hb e => ?_⟩
    simp at hb
    subst hb
    subst e
    have := ((h.mem a).mp ha).2
    rw [hlk] at this
    cases this
  · intro x
    rw [List.mem_append, List.mem_singleton, h.mem]
    unfold strike
    rw [same_lit]
    by_cases e : x = k
    · subst e
      simp [hkL]
    · simp [e]
  · have hb3 := b1.trans (b3.mono hbs)
    exact hb3.grown hg' hb3.size (fun k hk => ((row1.below b3).own hk).1)
set_option maxHeartbeats 4000000 in
theorem keys_any (base g B : Nat) (L : List Tm) (floor limit : Int) (w : World) (h : TableAt w base g B L floor limit) (hl : L.length ≤ 100000) :
    Calls Try.prog 20 #[.pointer (some ⟨g, 0, none⟩)] w fun r w' => ∃ A c, r = .returned (.slice A L.length c) ∧ Sl eKy w' A (keys L) ∧ Below w.heap.size w w' ∧ L.length ≤ c ∧ (A = none → c = 0) := by
  have c2 := h.box.c2
  have hlen := h.mp.len 3
  obtain ⟨n, hn⟩ : ∃ n, n = L.length := ⟨_, rfl⟩
  obtain ⟨w1, hmk, hrow, hb1⟩ := RowT.make el37 w w.heap.size n (Nat.le_refl _) (by omega)
  have c2' := (h.box.below hb1).c2
  obtain ⟨D, hown, hrd⟩ := (h.below hb1).mp
  rw [← hn] at hown hlen
  have HN := Lib.hid hn
  have HC := Lib.hid h
  have HR := Lib.hid hrd
  have HL := Lib.hid hl
  have HB1 := Lib.hid hb1
  have HROW := Lib.hid hrow
  have hsz1 : Hid (w.heap.size ≤ w1.heap.size) := hb1.size
  clear h hrd hn hl hb1 hrow
  obtain ⟨q, hq⟩ : ∃ q, q = w.heap.size := ⟨_, rfl⟩
  rw [← hq] at hmk
  have HQ := Lib.hid hq
  clear hq
  go_enter Try.func20, Try.ntmps20
  go_wp2_with (first
    | (at_range; refine wpList_range_own _ rfl _ 46 rfl 9 3 law9 Try.underlying46 iE B n D rfl hown ?_; intro w0 hrg0 hg0 hs0)
    | go_in)
  go_frame
  go_loopw [3] (fun s3 wr => ∃ left cnt V, KeyI w wr B w1.heap.size L left n cnt D s3 V) (fun _ wr => wr.rangeLeft B w1.heap.size)
  case atStart =>
    refine ⟨_, _, [], ⟨hrg0, ?_, List.nodup_nil, fun k => ?_, HB1.out.trans ((Below.of_none hg0).mono hsz1.out)⟩⟩
    · rw [HQ.out]
      exact HROW.out.below (Below.of_none hg0)
    · constructor
      · intro h
        cases h
      · rintro ⟨h1, h2⟩
        obtain ⟨x, hx, rfl⟩ := List.mem_map.mp h1
        rw [has_all HR.out hx] at h2
        cases h2
  case round =>
    obtain ⟨left, cnt, V, hi⟩ := hrel
    have hrg := hi.rg
    have HI := Lib.hid hi
    have HM := Lib.hid hi.left_eq
    clear hi hrg0 hown c2 c2' hg0 hs0 hlen hmk
    go_wp2_with (first
      | (at_next; refine wpList_next_ranges _ rfl _ rfl 9 law9 iE Value.string (Value.int .i64) (fun key kl hkey => keyOf9_inv hkey) iE_form B w1.heap.size n D left cnt rfl hrg ?_ ?_)
      | go_in)
    · intro hc0 hl0
      clear hrg hc0
      have hmem : ∀ k, k ∈ V ↔ k ∈ keys L := fun k => by rw [HI.out.mem]; simp [hl0]
      have hVl : V.length ≤ L.length := by
        have := nodup_len HI.out.nd (fun x hx => (hmem x).mp hx)
        rwa [keys_length] at this
      rcases HI.out.row.2 with ⟨e, hz⟩ | ⟨gb, cp, cur, e, hbb, _, hle, _⟩
      · have hV : V = [] := List.eq_nil_of_length_eq_zero hz
        have hL : L = [] := by
          cases L with
          | nil => rfl
          | cons x r =>
            have := (hmem x.k).mpr (by simp [keys])
            rw [hV] at this
            cases this
        subst hL
        subst e
        clear hl0 hmem hz hV hVl
        have CN : Hid (Calls Try.prog 23 #[.slice none 0 0] wr fun e w' => e = .returned (.tuple #[]) ∧ w' = wr) := Any.slices_Sort_string_none sortS none 0 wr
        go_wp2_with fail
        refine CN.out.mono ?_
        rintro r w3 ⟨rfl, rfl⟩
        go_wp2
        go_ret
        exact ⟨none, 0, rfl, sl_nil _, HI.out.bel, Nat.le_refl _, fun _ => rfl⟩
      · have hv := e
        clear e
        have hrow := HI.out.row
        rw [hv] at hrow
        have CS := Lib.hid (sort_row hrow HI.out.nd hmem HC.out.good.rs.keys (by have := HL.out; omega))
        have HBB := Lib.hid hbb
        obtain ⟨p, hp⟩ : ∃ p, p = V.length := ⟨_, rfl⟩
        rw [← hp] at CS hle hv
        subst hv
        have HLE := Lib.hid hle
        clear hl0 hmem hrow hle hp hbb hVl
        go_wp2_with fail
        refine CS.out.mono ?_
        rintro r w3 ⟨rfl, t3, g3, e3⟩
        rw [keys_length] at e3
        have HE : Hid (Sl eKy w3 (some ⟨gb, 0, none⟩) (keys L) ∧ Below w.heap.size w w3) := by
          refine ⟨?_, HI.out.bel.grown g3 HI.out.bel.size (fun k hk => by cases hk; exact HBB.out)⟩
          obtain ⟨A', c', e, s', _⟩ := t3.sl (by rw [keys_length]; have := HL.out; unfold maxLen; omega)
          cases e
          exact s'
        have E3 := Lib.hid e3
        clear t3 g3 CS e3
        go_wp2
        go_ret
        exact ⟨_, cp, by rw [← E3.out]; rfl, HE.out.1, HE.out.2, by rw [← E3.out]; exact HLE.out, by simp⟩
    · intro k c kl yd yp w2 cnt1 hkey hlk hv hat hrg1 hlt hg1 hs1 hen
      obtain ⟨v', W', hrun, hi'⟩ := HI.out.step hsz1.out HR.out HL.out hkey hv hlk hat hg1 hrg1
      obtain ⟨A', c', rfl, _⟩ := hi'.row.form
      have HI' := Lib.hid hi'
      have LT := Lib.hid hlt
      rw [hs1] at hrun
      have R1 := Lib.hid hrun
      clear hkey hlk hv hat hrg1 hlt hg1 hrg hi' hrun
      go_wp2_with (first | (at_builtin; refine wpList_append_run rfl _ _ 37 37 rfl _ _ rfl rfl _ W' R1.out ?_))
      refine ⟨⟨strike left kl, cnt1, V ++ [k], ?_⟩, ?_⟩
      · have := HI'.out
        rw [List.length_append] at this
        exact this
      · rw [HI'.out.left_eq, HM.out]
        exact LT.out
theorem keys_nil (w : World) : Calls Try.prog 20 #[.pointer none] w fun r w' => r = .returned (.slice none 0 0) ∧ w = w' := by
  go_enter Try.func20, Try.ntmps20
  go_wp2
  go_ret
  exact ⟨rfl, rfl⟩
end Go.Proofs.Ytlleiehacmkedaa

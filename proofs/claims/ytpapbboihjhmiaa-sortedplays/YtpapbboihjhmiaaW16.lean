/-
  Words for memory: a slice that reads as texts, a row of texts of the call's own. The contracts of filled and alike. Their conditions: the slices read as texts, and are no longer than a bound.
-/
import Derived.Test.YtpapbboihjhmiaaW12
import Derived.Test.YtpapbboihjhmiaaW14
namespace Go.Proofs.Ytpapbboihjhmiaa
open Go.RowKit

/-- A slice (its address A) that reads as the texts l. -/
def Strs (w : World) (A : Option Addr) (l : List ByteArray) : Prop :=
  l.length ≤ maxLen ∧ (0 < l.length → ∃ b off, A = some ⟨b, off, none⟩ ∧ b < w.heap.size ∧ ∀ (k : Nat) (s : ByteArray), l[k]? = some s → w.cell? ⟨b, off + k, none⟩ = some (.string s))
theorem Strs.below {w w' : World} {A : Option Addr} {l : List ByteArray} {B : Nat} (h : Strs w A l) (hB : w.heap.size ≤ B) (hb : Below B w w') : Strs w' A l := by
  obtain ⟨h1, h3⟩ := h
  refine ⟨h1, fun hl => ?_⟩
  obtain ⟨b, off, hA, hlt, hc⟩ := h3 hl
  exact ⟨b, off, hA, Nat.lt_of_lt_of_le hlt hb.size, fun k s hk => by rw [hb.cell (p := ⟨b, _, none⟩) (Nat.lt_of_lt_of_le hlt hB)]; exact hc k s hk⟩
theorem Strs.at_ {w : World} {A : Option Addr} {l : List ByteArray} (h : Strs w A l) {k : Nat} (hk : k < l.length) : ∃ b off, A = some ⟨b, off, none⟩ ∧ b < w.heap.size ∧ w.cell? ⟨b, off + k, none⟩ = some (.string l[k]) := by
  obtain ⟨b, off, hA, hlt, hc⟩ := h.2 (by omega)
  exact ⟨b, off, hA, hlt, hc k _ (List.getElem?_eq_getElem hk)⟩

/-- A row of texts of the call's own. -/
def RowS (w : World) (v : Value) (l : List ByteArray) : Prop := ∃ base, w.ownsRow base 9 1 v l.length (l.map Value.string)
theorem RowS.keep {w w' : World} {v : Value} {l : List ByteArray} (h : RowS w v l) (hk : Keep 9 w w') : RowS w' v l := by
  obtain ⟨base, h1, h2⟩ := h
  refine ⟨base, h1, ?_⟩
  rcases h2 with h2 | ⟨g, cap, cur, hv, hb, hg, rest⟩
  · exact .inl h2
  · exact .inr ⟨g, cap, cur, hv, hb, (hk g _ hg).trans hg, rest⟩
theorem RowS.strs {w : World} {v : Value} {l : List ByteArray} (h : RowS w v l) (hm : l.length ≤ maxLen) : ∃ A cap, v = .slice A l.length cap ∧ Strs w A l := by
  obtain ⟨base, h⟩ := h
  have h' := h
  rcases h.2 with ⟨rfl, hn⟩ | ⟨g, cap, cur, rfl, hb, hg, rest⟩
  · have hl : l = [] := by
      simpa using hn
    subst hl
    exact ⟨none, 0, rfl, by simp, by simp⟩
  · refine ⟨some ⟨g, 0, none⟩, cap, rfl, hm, fun hl => ⟨g, 0, rfl, (Array.getElem?_eq_some_iff.mp hg).1, fun k s hk => ?_⟩⟩
    have := h'.cells (g := g) rfl k (.string s) (by simpa using hk)
    have e : (⟨g, 0, none⟩ : Addr).add k = ⟨g, 0 + k, none⟩ := by unfold Addr.add; split <;> simp_all
    rwa [e] at this
theorem Only.keep9 {g : Nat} {w w' : World} {t : TypeId} {L : List KV} (h : Only g w w') (hg : MapAt w g L) (ht : t ≠ 59) : Keep t w w' := fun b cs hb => by
  refine h.block b (Array.getElem?_eq_some_iff.mp hb).1 ?_
  rintro rfl
  obtain ⟨root, tr, hbox, _⟩ := hg
  rw [show w.heap[b]? = _ from hbox] at hb
  injection hb with hb
  injection hb with _ h2
  exact ht h2.symm

/-- A list that rises, each value its key's length, with just these keys. -/
def Holds (L : List KV) (P : ByteArray → Prop) : Prop := Rises L ∧ ∀ q, q ∈ L ↔ (q.2 = (q.1.size : Int) ∧ P q.1)
theorem Holds.nil : Holds [] (fun _ => False) := ⟨rises_nil, by simp⟩
theorem Holds.set {L : List KV} {P : ByteArray → Prop} (h : Holds L P) (k : ByteArray) : Holds (lset L k (k.size : Int)) (fun x => P x ∨ x = k) := by
  refine ⟨rises_lset h.1 _ _, fun q => ?_⟩
  rw [mem_lset h.1, h.2]
  constructor
  · rintro (rfl | ⟨⟨h1, h2⟩, _⟩)
    · exact ⟨rfl, .inr rfl⟩
    · exact ⟨h1, .inl h2⟩
  · rintro ⟨h1, h2⟩
    by_cases e : q.1 = k
    · left
      obtain ⟨a, b⟩ := q
      simp at h1 e
      subst e h1
      rfl
    · rcases h2 with h2 | h2
      · exact .inr ⟨⟨h1, h2⟩, e⟩
      · exact absurd h2 e
theorem Holds.del {L : List KV} {P : ByteArray → Prop} (h : Holds L P) (k : ByteArray) : Holds (ldel L k) (fun x => P x ∧ x ≠ k) := by
  refine ⟨rises_ldel h.1 _, fun q => ?_⟩
  rw [mem_ldel, h.2]
  exact ⟨fun ⟨⟨a, b⟩, c⟩ => ⟨a, b, c⟩, fun ⟨a, b, c⟩ => ⟨⟨a, b⟩, c⟩⟩
theorem Holds.iff {L : List KV} {P Q : ByteArray → Prop} (h : Holds L P) (hpq : ∀ x, P x ↔ Q x) : Holds L Q := ⟨h.1, fun q => by rw [h.2, hpq]⟩
theorem Holds.one {L M : List KV} {P : ByteArray → Prop} (h : Holds L P) (k : Holds M P) : L = M := rises_one h.1 k.1 fun q => by rw [h.2, k.2]
theorem Holds.has {L : List KV} {P : ByteArray → Prop} (h : Holds L P) (k : ByteArray) : lhas L k = true ↔ P k := by
  rw [lhas_iff]
  constructor
  · rintro ⟨p, hp, rfl⟩
    exact ((h.2 p).mp hp).2
  · exact fun hk => ⟨(k, (k.size : Int)), (h.2 _).mpr ⟨rfl, hk⟩, rfl⟩
theorem Holds.keys {L : List KV} {P : ByteArray → Prop} (h : Holds L P) : keysOf L = L.map (·.1) := by
  unfold keysOf
  rw [List.filter_eq_self.mpr]
  intro p hp
  simpa using ((h.2 p).mp hp).1
theorem Holds.keys_mem {L : List KV} {P : ByteArray → Prop} (h : Holds L P) (x : ByteArray) : x ∈ keysOf L ↔ P x := by
  rw [h.keys, List.mem_map]
  constructor
  · rintro ⟨p, hp, rfl⟩
    exact ((h.2 p).mp hp).2
  · exact fun hx => ⟨(x, (x.size : Int)), (h.2 _).mpr ⟨rfl, hx⟩, rfl⟩
theorem Holds.keys_len {L : List KV} {P : ByteArray → Prop} (h : Holds L P) : (keysOf L).length = L.length := by rw [h.keys]; simp
theorem mem_take_succ {l : List ByteArray} {k : Nat} (hk : k < l.length) (x : ByteArray) : x ∈ l.take (k + 1) ↔ (x ∈ l.take k ∨ x = l[k]) := by
  rw [List.take_succ_eq_append_getElem hk, List.mem_append, List.mem_singleton]
theorem len_set_le (L : List KV) (k : ByteArray) (v : Int) (h : Rises L) : (lset L k v).length ≤ L.length + 1 := by
  rw [length_lset k v h]
  split <;> omega
theorem len_del_le (L : List KV) (k : ByteArray) : (ldel L k).length ≤ L.length := List.length_filter_le _ _

/-! ### filled -/
def FillRel (l : List ByteArray) (g : Nat) (w : World) (_ s8 : Value) (wr : World) : Prop :=
  ∃ (k : Nat) (L : List KV), k ≤ l.length ∧ s8 = .int .i64 (k : Int) ∧ MapAt wr g L ∧ Holds L (fun x => x ∈ l.take k) ∧ L.length ≤ k ∧ Below w.heap.size w wr
def FillPost (l : List ByteArray) (w : World) (e : Ending) (w' : World) : Prop :=
  ∃ g L, e = .returned (.pointer (some ⟨g, 0, none⟩)) ∧ w.heap.size ≤ g ∧ MapAt w' g L ∧ Holds L (fun x => x ∈ l) ∧ L.length ≤ l.length ∧ Below w.heap.size w w'
set_option maxHeartbeats 2000000 in
theorem filled_any (l : List ByteArray) (A : Option Addr) (n cap : Nat) (w : World) (h : Strs w A l) (hn : l.length = n) (hle : n ≤ 300) : Calls Try.prog 26 #[.slice A n cap] w (FillPost l w) := by
  have H := Lib.hid h
  have HN := Lib.hid hn
  clear h hn
  go_enter Try.func26, Try.ntmps26
  go_wp2_with fail
  refine (new_any w).mono ?_
  rintro e w1 ⟨rfl, m1, b1, _⟩
  have M1 := Lib.hid m1
  have B1 := Lib.hid b1
  clear m1 b1
  go_wp2
  go_loopw [4, 8] (FillRel l w.heap.size w) (fun _ i _ => n - (intOf i).toNat)
  case atStart => exact ⟨0, [], Nat.zero_le _, rfl, M1.out, by simpa using Holds.nil, Nat.le_refl _, B1.out⟩
  case round =>
    obtain ⟨k, L, hk, rfl, hm, hh, hl, hb⟩ := hrel
    have HM := Lib.hid hm
    have HH := Lib.hid hh
    have HB := Lib.hid hb
    rw [HN.out] at hk
    clear hm hh hb
    by_cases hlt : k < n
    · have hkl : k < l.length := by have := HN.out; omega
      obtain ⟨b, off, rfl, hbs, c0⟩ := (H.out.below (Nat.le_refl _) HB.out).at_ hkl
      have HST := Lib.hid ((HH.out.set l[k]).iff (fun x => (mem_take_succ hkl x).symm))
      have HLE := Lib.hid (len_set_le L l[k] (l[k].size : Int) HM.out.rises)
      have CS : Hid (∀ W, W = wr.drew → Calls Try.prog 11 #[.pointer (some ⟨w.heap.size, 0, none⟩), .string l[k], .int .i64 (l[k].size : Int)] W (MapPost W w.heap.size (lset L l[k] (l[k].size : Int)) (!lhas L l[k]))) :=
        fun W hW => set_any w.heap.size L l[k] _ W (by rw [hW]; exact HM.out.below (Below.refl _ _).drew) (by omega)
      have CK : Hid (∀ w', Only w.heap.size wr.drew w' → w'.cell? ⟨b, off + k, none⟩ = some (.string l[k])) := fun w' ho => by
        have hbel : Below w.heap.size w w' := (HB.out.drew).trans (ho.below HB.out.size (Nat.le_refl _))
        obtain ⟨b', off', e1, _, c1⟩ := (H.out.below (Nat.le_refl _) hbel).at_ hkl
        injection e1 with e1
        injection e1 with e1 e2 _
        subst e1 e2
        exact c1
      generalize l[k] = x at c0 CS HST HLE CK
      clear hkl
      have hlti : (k : Int) < (n : Int) := by omega
      go_wp2_with fail
      go_region_held3 (fun w' => w'.cell? ⟨b, off + k, none⟩ = some (.string x)) (first | go_keep | assumption)
        (first | (go_at_call 11; (with_reducible refine (CS.out _ ?hh).mono ?_); (case hh => exact rfl); rintro e w2 ⟨rfl, m2, o2⟩; have M2 := Lib.hid m2; have O2 := Lib.hid o2; have c2 := CK.out _ o2; clear m2 o2))
      go_wp2
      go_roundw
      case rel => exact ⟨k + 1, _, by rw [HN.out]; omega, by go_num, M2.out, HST.out, by have := HLE.out; omega, HB.out.drew.trans (O2.out.below HB.out.size (Nat.le_refl _))⟩
      case measure => simp [intOf]; omega
    · have hkn : k = l.length := by have := HN.out; omega
      have HF : Hid (Holds L (fun x => x ∈ l)) := HH.out.iff (fun x => by rw [hkn, List.take_length])
      have HLL : Hid (L.length ≤ l.length) := by show _ ≤ _; omega
      clear hkn
      go_wp2
      go_ret
      exact ⟨w.heap.size, L, rfl, Nat.le_refl _, HM.out, HF.out, HLL.out, HB.out⟩

/-! ### alike -/
def AlikeRel (l m : List ByteArray) (w : World) (_ s13 : Value) (wr : World) : Prop :=
  ∃ k : Nat, k ≤ l.length ∧ s13 = .int .i64 (k : Int) ∧ l.take k = m.take k ∧ Below w.heap.size w wr
set_option maxHeartbeats 2000000 in
theorem alike_any (l m : List ByteArray) (A B : Option Addr) (n n' c c' : Nat) (w : World) (h : Strs w A l) (h' : Strs w B m) (hn : l.length = n) (hn' : m.length = n') :
    Calls Try.prog 27 #[.slice A n c, .slice B n' c'] w fun e w' => e = .returned (.bool (decide (l = m))) ∧ Below w.heap.size w w' := by
  have H := Lib.hid h
  have H' := Lib.hid h'
  have HN := Lib.hid hn
  have HN' := Lib.hid hn'
  clear h h' hn hn'
  by_cases hne : n = n'
  · subst hne
    have hm : (n : Int) ≤ 9223372036854775807 := by have := H.out.1; rw [HN.out] at this; unfold maxLen at this; omega
    have HB9 := Lib.hid hm
    clear hm
    go_enter Try.func27, Try.ntmps27
    go_wp2
    go_loopw [5, 13] (AlikeRel l m w) (fun _ i _ => n - (intOf i).toNat)
    case atStart => exact ⟨0, Nat.zero_le _, rfl, rfl, Below.refl _ _⟩
    case round =>
      obtain ⟨k, hk, rfl, hs, hb⟩ := hrel
      have HS := Lib.hid hs
      have HB := Lib.hid hb
      rw [HN.out] at hk
      clear hs hb
      by_cases hlt : k < n
      · have hkl : k < l.length := by have := HN.out; omega
        have hkm : k < m.length := by have := HN'.out; omega
        obtain ⟨b, off, rfl, hbs, c0⟩ := (H.out.below (Nat.le_refl _) HB.out).at_ hkl
        obtain ⟨b', off', rfl, hbs', c0'⟩ := (H'.out.below (Nat.le_refl _) HB.out).at_ hkm
        have hm := HB9.out
        have hlti : (k : Int) < (n : Int) := by omega
        by_cases hxy : l[k] = m[k]
        · have HST : Hid (l.take (k + 1) = m.take (k + 1)) := by
            show _ = _
            rw [List.take_succ_eq_append_getElem hkl, List.take_succ_eq_append_getElem hkm, HS.out, hxy]
          rw [← hxy] at c0'
          generalize l[k] = x at c0 c0'
          clear hkl hkm hxy
          go_wp2
          go_quiet (fail)
          go_wp2
          go_roundw
          case rel => exact ⟨k + 1, by rw [HN.out]; omega, by go_num, HST.out, HB.out.trans ⟨rfl, rfl, rfl, Nat.le_refl _, fun _ _ => rfl⟩⟩
          case measure => simp [intOf]; omega
        · have HD : Hid (decide (l = m) = false) := by
            show _ = _
            rw [decide_eq_false_iff_not]
            rintro rfl
            exact hxy rfl
          have hxy' : (l[k].toList == m[k].toList) = false := toList_ne hxy
          generalize l[k] = x at c0 hxy'
          generalize m[k] = y at c0' hxy'
          clear hkl hkm hxy
          go_wp2
          go_quiet (fail)
          go_wp2
          go_ret
          exact ⟨ret_bool HD.out.symm, HB.out.trans ⟨rfl, rfl, rfl, Nat.le_refl _, fun _ _ => rfl⟩⟩
      · have HD : Hid (decide (l = m) = true) := by
          show _ = _
          have e1 := HS.out
          have e2 := HN.out
          have e3 := HN'.out
          rw [List.take_of_length_le (by omega), List.take_of_length_le (by omega)] at e1
          simpa using e1
        go_wp2
        go_ret
        exact ⟨ret_bool HD.out.symm, HB.out⟩
  · have HD : Hid (decide (l = m) = false) := by
      show _ = _
      rw [decide_eq_false_iff_not]
      rintro rfl
      exact hne (HN.out.symm.trans HN'.out)
    have hne' : ¬ (n : Int) = (n' : Int) := by omega
    go_enter Try.func27, Try.ntmps27
    go_wp2
    go_ret
    exact ⟨ret_bool HD.out.symm, Below.refl _ _⟩
end Go.Proofs.Ytpapbboihjhmiaa

/-
  The walk of LeaseEnds: a table beside a map of the keys that had a lease. Its conditions: the slice reads as keys.
-/
import Derived.Test.YtfiohhgmlelnkaaW8
namespace Go.Proofs.Ytfiohhgmlelnkaa
open Go.RowKit Go.Maps

def boolE (v : Value) : Option (DataW Unit × List MemPlace) :=
  match v with
  | .bool b => some (.lit (.bool b), [])
  | _ => none
theorem boolE_inv {v : Value} {d : DataW Unit} {ps : List MemPlace} (h : boolE v = some (d, ps)) : ∃ b, v = .bool b ∧ d = .lit (.bool b) := by
  unfold boolE at h
  split at h
  · rename_i b
    injection h with h
    injection h with h _
    exact ⟨b, rfl, h.symm⟩
  · cases h
theorem zero4 (w : World) : (zeroValue 4).run Try.prog w = .ok (.bool false) w := by kernel_rfl
/-- Block b is a map that has true at the keys of L, and no other. -/
def HadAt (w : World) (b : Nat) (L : List Ls) : Prop :=
  ∃ D : DataW Unit, w.ownsMap Try.prog 9 boolE b L.length D ∧ (∀ k z, D.atKey (kLit k) z = if has L k then .lit (.bool true) else z) ∧ Maps.size D = L.length
theorem tightB {w : World} {B n : Nat} {D : DataW Unit} (h : w.ownsMap Try.prog 9 boolE B n D) : w.ownsMap Try.prog 9 boolE B (Maps.size D) D := by
  obtain ⟨es, clock, hb, F, hs, rfl⟩ := h
  exact ⟨es, clock, hb, F, by simp [Maps.size, length_sorted], rfl⟩
section
variable {w w' : World} {b : Nat} {L : List Ls}
theorem HadAt.isMap (h : HadAt w b L) : ∃ es c, w.heap[b]? = some (.map es c) := by
  obtain ⟨D, ⟨es, c, hb, _⟩, _⟩ := h
  exact ⟨es, c, hb⟩
theorem HadAt.keep (h : HadAt w b L) (hb : w'.heap[b]? = w.heap[b]?) : HadAt w' b L := by
  obtain ⟨D, ⟨es, c, h1, h2⟩, h3⟩ := h
  exact ⟨D, ⟨es, c, hb.trans h1, h2⟩, h3⟩
theorem HadAt.fr {l ms : List Nat} {base : Nat} (h : HadAt w b L) (hf : Fr l ms base w w') (hl : 1000 ∉ l) (hm : b ∉ ms) : HadAt w' b L := by
  obtain ⟨es, c, hb⟩ := h.isMap
  exact h.keep (by rw [hf.keep b _ hb hl hm, hb])
theorem HadAt.find (h : HadAt w b L) {k : ByteArray} (hk : k.size ≤ maxLen) : (Instr.lookup 46 (.map (some b)) (.string k) false).run Try.prog w = .ok (.bool (has L k)) w := by
  obtain ⟨D, hown, hat, _⟩ := h
  obtain ⟨v, ps, hr, hv⟩ := hown.lookup law9 Try.underlying46 (zero4 w) (zd := .lit (.bool false)) (zp := []) rfl (keyOf9 hk)
  rw [hat] at hv
  obtain ⟨x, rfl, hx⟩ := boolE_inv hv
  rw [hr]
  cases hh : has L k
  · rw [hh] at hx
    simp at hx
    rw [hx]
  · rw [hh] at hx
    simp at hx
    rw [hx]
theorem HadAt.len (h : HadAt w b L) (ty : TypeId) : (Builtin.len_ #[46] ty #[.map (some b)]).run Try.prog w = .ok (.int .i64 (L.length : Int)) w := by
  obtain ⟨D, hown, _, hsz⟩ := h
  rw [hown.len Try.underlying46, hsz]
theorem had_has {D : DataW Unit} (hat : ∀ k z, D.atKey (kLit k) z = if has L k then .lit (.bool true) else z) (k : ByteArray) : Maps.has D (kLit k) = has L k := by
  cases hh : has L k with
  | false => exact has_false_of_atKey fun z => by rw [hat, hh]; rfl
  | true => exact has_true_of_atKey (y := .lit (.bool true)) fun z => by rw [hat, hh]; rfl
/-- A key that had none, or had one. -/
theorem HadAt.put (h : HadAt w b L) {k : ByteArray} (hk : k.size ≤ maxLen) (hl : L.length < maxLen) {M : List Ls} (hM : ∀ j, has M j = (has L j || decide (j = k))) (hN : M.length = if has L k then L.length else L.length + 1) :
    ∃ w', (Instr.mapUpdate 46 (.map (some b)) (.string k) (.bool true)).run Try.prog w = .ok () w' ∧ HadAt w' b M ∧ w.grownBy w' (some b) := by
  obtain ⟨D, hown, hat, hsz⟩ := h
  obtain ⟨w', hr, ho, hg⟩ := hown.update law9 Try.underlying46 hl (keyOf9 hk) (val := .bool true) (d := .lit (.bool true)) (ps := []) rfl
  have hs : Maps.size (D.put (kLit k) (.lit (.bool true))) = M.length := by
    rw [size_put (hown.tidy law9), had_has hat, hN, hsz]
  refine ⟨w', hr, ⟨_, by rw [← hs]; exact tightB ho, fun j z => ?_, hs⟩, hg⟩
  by_cases e : j = k
  · subst e
    rw [atKey_put_same hown.isMap (kLit_key _), hM]
    simp
  · rw [atKey_put_other (fun h => e (kLit_inj h)), hat, hM]
    simp [e]
end
/-- A table beside the keys that had a lease. -/
structure En (w0 W : World) (g B b : Nat) (L M : List Ls) (limit ticks last : Int) : Prop where
  tab : TableAt W w0.heap.size g B L limit ticks last
  had : HadAt W b M
  nB : b ≠ B
  bb : w0.heap.size ≤ b
  bel : Below w0.heap.size w0 W
section
variable {w0 W : World} {g B b : Nat} {L M : List Ls} {limit ticks last : Int}
theorem En.ng (s : En w0 W g B b L M limit ticks last) : b ≠ g := by
  rintro rfl
  obtain ⟨es, c, h⟩ := s.had.isMap
  have := s.tab.box
  unfold Box at this
  rw [h] at this
  cases this
theorem en_len (s : En w0 W g B b L M limit ticks last) : Calls Try.prog 20 #[.pointer (some ⟨g, 0, none⟩)] W fun r w' => r = .returned (.int .i64 (L.length : Int)) ∧ En w0 w' g B b L M limit ticks last := by
  refine (len_any _ g B L limit ticks last W s.tab).mono ?_
  rintro r w' ⟨rfl, rfl⟩
  exact ⟨rfl, s⟩
theorem en_tick (s : En w0 W g B b L M limit ticks last) : Calls Try.prog 17 #[.pointer (some ⟨g, 0, none⟩)] W fun r w' => r = .returned (.tuple #[]) ∧ En w0 w' g B b (tck L) M limit ticks last := by
  refine (tick_any _ g B L limit ticks last W s.tab s.bel.size).mono ?_
  rintro r w' ⟨rfl, ht, hf⟩
  exact ⟨rfl, ht, s.had.fr hf (by simp) (by simpa using s.nB), s.nB, s.bb, s.bel.trans hf.below⟩
theorem en_grant (s : En w0 W g B b L M limit ticks last) (k : ByteArray) (hk : k.size ≤ maxLen) (h1 : 0 ≤ last) (h2 : last < 9223372036854775807) : Calls Try.prog 11 #[.pointer (some ⟨g, 0, none⟩), .string k] W fun r w' =>
    r = .returned (.tuple #[.int .i64 (grV L k limit last), .bool (grB L k limit)]) ∧ En w0 w' g B b (grL L k limit ticks last) M limit ticks (grT L k limit last) := by
  refine (grant_any _ g B L limit ticks last k W s.tab hk s.bel.size (by omega) h2).mono ?_
  rintro r w' ⟨rfl, ht, hf⟩
  exact ⟨rfl, ht, s.had.fr hf (by simp) (by simp [s.nB, s.ng]), s.nB, s.bb, s.bel.trans hf.below⟩
theorem En.put (s : En w0 W g B b L M limit ticks last) {k : ByteArray} (hk : k.size ≤ maxLen) (hl : M.length < maxLen) {M' : List Ls} (hM : ∀ j, has M' j = (has M j || decide (j = k))) (hN : M'.length = if has M k then M.length else M.length + 1) :
    ∃ w', (Instr.mapUpdate 46 (.map (some b)) (.string k) (.bool true)).run Try.prog W = .ok () w' ∧ En w0 w' g B b L M' limit ticks last := by
  obtain ⟨w', hr, hh, hg⟩ := s.had.put hk hl hM hN
  obtain ⟨es, c, hb⟩ := s.had.isMap
  have hF : Fr [] [b] w0.heap.size W w' := (Fr.refl _ _ _ _).grown hg hb (.inr (by simp)) s.bb
  refine ⟨w', hr, s.tab.keep hF (by simp) (by simp) (by simp) ?_, hh, s.nB, s.bb, s.bel.trans hF.below⟩
  intro i hi
  simp at hi
  subst hi
  exact ⟨s.ng, s.nB, _, hb, by simp [kd]⟩
end
/-- Each lease has so many ticks left. -/
def AllN (L : List Ls) (n : Int) : Prop := ∀ l ∈ L, l.n = n
theorem AllN.gr {L : List Ls} {ticks : Int} (h : AllN L ticks) (k : ByteArray) (limit last : Int) : AllN (grL L k limit ticks last) ticks := by
  unfold grL
  split
  · intro l hl
    rcases List.mem_append.mp hl with hl | hl
    · exact h l hl
    · simp at hl
      subst hl
      rfl
  · exact h
theorem AllN.one {L : List Ls} (h : AllN L 1) : tck L = [] := by
  unfold tck
  rw [List.map_eq_nil_iff, List.filter_eq_nil_iff]
  intro l hl
  simp [h l hl]
theorem AllN.more {L : List Ls} {n : Int} (h : AllN L n) (hn : n ≠ 1) : (tck L).length = L.length ∧ AllN (tck L) (n - 1) := by
  have e : (L.filter fun l => decide (l.n ≠ 1)) = L := by
    rw [List.filter_eq_self]
    intro l hl
    simp [h l hl, hn]
  refine ⟨by unfold tck; rw [e]; simp, fun l hl => ?_⟩
  obtain ⟨m, hm, _, rfl⟩ := mem_tck hl
  show m.n - 1 = n - 1
  rw [h m hm]
theorem has_gr {L : List Ls} {k : ByteArray} {limit ticks last : Int} (hl : (L.length : Int) < limit) : grB L k limit = !has L k ∧ (∀ j, has (grL L k limit ticks last) j = (has L j || decide (j = k))) ∧ (grL L k limit ticks last).length = if has L k then L.length else L.length + 1 := by
  have e : grB L k limit = !has L k := by simp [grB, hl]
  refine ⟨e, fun j => ?_, ?_⟩
  · unfold grL
    rw [e]
    cases hh : has L k with
    | true =>
      simp
      intro hj
      rw [hj]
      exact hh
    | false =>
      simp
      by_cases hj : has L j = true
      · rw [hj]
        obtain ⟨l, hl⟩ := Option.isSome_iff_exists.mp hj
        simp [has, fnd_app_in hl]
      · simp at hj
        rw [hj]
        simp [has, fnd_app (has_false.mp hj)]
        by_cases e : k = j
        · simp [e]
        · have e' : ¬ j = k := fun h => e h.symm
          simp [e, e']
  · unfold grL
    rw [e]
    cases has L k <;> simp
theorem lt_max {a b : Nat} (h : a < b) (hb : (b : Int) ≤ 9223372036854775807) : a < maxLen := by
  unfold maxLen
  omega
theorem max_le {a : Nat} (h : a ≤ maxLen) : (a : Int) ≤ 9223372036854775807 := by
  unfold maxLen at h
  omega
def EnRel (l : List ByteArray) (g B b : Nat) (n : Nat) (T : Int) (w : World) (s27 : Value) (wr : World) : Prop :=
  ∃ (k : Nat) (L : List Ls) (last : Int), k ≤ l.length ∧ s27 = .int .i64 (k : Int) ∧ En w wr g B b L L n T last ∧ L.length ≤ k ∧ 0 ≤ last ∧ last ≤ k ∧ AllN L T
def EtRel (g B b : Nat) (n T : Nat) (M : List Ls) (last : Int) (w : World) (s11 : Value) (wr : World) : Prop :=
  ∃ (j : Nat) (L : List Ls), j ≤ T ∧ s11 = .int .i64 (j : Int) ∧ En w wr g B b L M n T last ∧ AllN L ((T : Int) - j) ∧ (j < T → L.length = M.length) ∧ (j = T → L = [])
set_option maxRecDepth 100000 in
set_option maxHeartbeats 8000000 in
theorem ends_walk (a : Int) (l : List ByteArray) (A : Option Addr) (n c : Nat) (w : World) (ha : 0 ≤ a ∧ a ≤ 255) (hs : Kys w A l) (hn : l.length = n) :
    Calls Try.prog 7 #[.int .u8 a, .slice A n c] w fun e w' => e = .returned (.bool true) ∧ Below w.heap.size w w' := by
  obtain ⟨T, hT⟩ : ∃ T : Nat, (T : Int) = max 1 (a % 40) := ⟨(max 1 (a % 40)).toNat, by omega⟩
  have hmax : ∀ w, (Builtin.max_ #[3, 3] 3 #[.int .i64 1, .int .i64 (a % 40)]).run Try.prog w = .ok (.int .i64 (T : Int)) w := fun w => run_max2 w _ _ _ _ _ hT
  have hmm := @run_makeMap Try.prog
  have HT : Hid ((T : Int) = max (a % 40) 1 ∧ a % 40 ≤ 39 ∧ 1 ≤ T ∧ T ≤ 39) := by show _ ∧ _; omega
  have H := Lib.hid hs
  have HE := Lib.hid hn
  have HN : Hid ((n : Int) ≤ 9223372036854775807) := by show _ ≤ _; rw [← hn]; exact max_le hs.1.1
  have ha0 := ha.1
  have ha1 := ha.2
  clear hT hs hn ha
  go_enter Try.func7, Try.ntmps7
  go_wp2_with fail
  refine (awake_any w).mono ?_
  rintro e w1 ⟨rfl, b1⟩
  have B1 := Lib.hid b1
  clear b1
  go_wp2_with fail
  refine (new_any w.heap.size n (a % 40) T w1 B1.out.size HT.out.1 (by have := HT.out.2.1; omega) HN.out).mono ?_
  rintro e w2 ⟨g, B, rfl, t2, b2, hg2, hB2⟩
  have hb3 : Below w2.heap.size w2 (w2.alloc (.map #[] 0)) := (Below.refl _ _).alloc (Nat.le_refl _) _
  have hB02 := B1.out.trans (b2.mono B1.out.size)
  have S3 : Hid (En w (w2.alloc (.map #[] 0)) g B w2.heap.size [] [] n T 0) := by
    obtain ⟨es, cc, hh⟩ := t2.isMap
    have hlt := lt_of_heap hh
    exact ⟨t2.below hb3, ⟨.map [], World.ownsMap_made w2 Try.prog 9 boolE, fun k z => by simp [has, fnd]; rfl, rfl⟩, by omega, hB02.size, hB02.trans (hb3.mono hB02.size)⟩
  clear t2 b2 B1 hb3 hB02 hg2 hB2
  go_wp2
  generalize w2.heap.size = b at S3 ⊢
  obtain ⟨W3, hW3⟩ : ∃ W3, W3 = w2.alloc (.map #[] 0) := ⟨_, rfl⟩
  rw [← hW3] at S3 ⊢
  clear hW3
  go_loopw [27] (EnRel l g B b n T w) (fun i _ => n + 1 - (intOf i).toNat)
  case atStart => exact ⟨0, [], 0, Nat.zero_le _, rfl, S3.out, Nat.le_refl _, by omega, by omega, fun x hx => by simp at hx⟩
  case round =>
    obtain ⟨k, L, last, hkl, rfl, hm, hlen, hl0, hl1, hall⟩ := hrel
    have HM := Lib.hid hm
    have HI : Hid (L.length ≤ k ∧ 0 ≤ last ∧ last ≤ k ∧ AllN L T) := ⟨hlen, hl0, hl1, hall⟩
    clear hm S3 hlen hl0 hl1 hall hmm
    rw [HE.out] at hkl
    by_cases hlt : k < n
    · have hkl2 : k < l.length := by rw [HE.out]; exact hlt
      obtain ⟨q, off, rfl, hbs, c0⟩ := (H.out.1.below (Nat.le_refl _) HM.out.bel).at_ hkl2
      have HBL : Hid (q < w.heap.size) := by
        obtain ⟨b1, o1, e1, e2, _⟩ := H.out.1.2 (by omega)
        injection e1 with e1
        injection e1 with e1 _ _
        subst e1
        exact e2
      have HKS := Lib.hid (H.out.2 l[k] (List.getElem_mem hkl2))
      generalize l[k] = key at c0 HKS
      have hlti : (k : Int) < (n : Int) := by omega
      have hk0 : (0 : Int) ≤ (k : Int) := by omega
      have HLT := Lib.hid hlt
      have hmn := HN.out
      have CG := Lib.hid (en_grant HM.out key HKS.out HI.out.2.1 (by have := HI.out; have := HN.out; omega))
      obtain ⟨g1, g2, g3⟩ := @has_gr L key n T last (by have := HI.out.1; omega)
      have HP : Hid ((∀ j, has (grL L key n T last) j = (has L j || decide (j = key))) ∧ (grL L key n T last).length = if has L key then L.length else L.length + 1) := ⟨g2, g3⟩
      rw [g1] at CG
      clear hkl2 hbs hlt g1 g2 g3
      go_wp2_with fail
      refine CG.out.mono ?_
      rintro r w4 ⟨rfl, s4⟩
      have hfind := s4.had.find HKS.out
      obtain ⟨w5, hup, s5⟩ := s4.put HKS.out (lt_max (Nat.lt_of_le_of_lt HI.out.1 HLT.out) HN.out) HP.out.1 HP.out.2
      have d0 : w4.cell? ⟨q, off + k, none⟩ = some (.string key) := by
        have e1 := s4.bel.cell (p := ⟨q, off + k, none⟩) HBL.out
        have e2 := HM.out.bel.cell (p := ⟨q, off + k, none⟩) HBL.out
        rw [e1, ← e2]
        exact c0
      have S5 := Lib.hid s5
      have HL5 : Hid ((grL L key n T last).length ≤ k + 1) := by show _ ≤ _; rw [HP.out.2]; have := HI.out.1; split <;> omega
      have HA5 := Lib.hid (HI.out.2.2.2.gr key n last)
      have HT5 : Hid (0 ≤ grT L key n last ∧ grT L key n last ≤ k + 1) := by show _ ∧ _; have := HI.out; unfold grT; split <;> omega
      clear s4 s5 CG HM c0 HP
      generalize grL L key n T last = L5 at S5 HL5 HA5
      generalize grT L key n last = last5 at S5 HT5
      generalize grV L key n last = v5
      cases hh : has L key with
      | true =>
        rw [hh] at hfind
        simp only [Bool.not_true]
        clear hh
        go_wp2
        go_roundw
        case rel => exact ⟨k + 1, L5, last5, by have := HE.out; omega, by go_num, S5.out, HL5.out, HT5.out.1, by have := HT5.out.2; omega, HA5.out⟩
        case measure => simp [intOf]; omega
      | false =>
        rw [hh] at hfind
        simp only [Bool.not_false]
        clear hh
        go_wp2
        go_roundw
        case rel => exact ⟨k + 1, L5, last5, by have := HE.out; omega, by go_num, S5.out, HL5.out, HT5.out.1, by have := HT5.out.2; omega, HA5.out⟩
        case measure => simp [intOf]; omega
    · have hc1 : ¬ (k : Int) < (n : Int) := by omega
      clear hlt hkl
      have HAL := Lib.hid HI.out.2.2.2
      clear HI
      go_wp2
      go_loopw [11] (EtRel g B b n T L last w) (fun i _ => 64 - (intOf i).toNat)
      case atStart => exact ⟨0, L, Nat.zero_le _, rfl, HM.out, fun x hx => by rw [HAL.out x hx]; simp, fun _ => rfl, fun h => by have := HT.out; omega⟩
      case round =>
        obtain ⟨j, L5, hj, rfl, hm5, hu, h1, h2⟩ := hrel
        have M5 := Lib.hid hm5
        have U5 := Lib.hid hu
        clear hm5 hu HM
        by_cases hjt : j < T
        · have hjt' : (j : Int) < (T : Int) := by omega
          have hj39 : (j : Int) ≤ 39 := by have := HT.out; omega
          have hlm := h1 hjt
          have hmlen := M5.out.had.len 3
          obtain ⟨m, hm⟩ : ∃ m : Nat, m = L.length := ⟨_, rfl⟩
          rw [← hm] at hlm hmlen
          have CL := Lib.hid (en_len M5.out)
          rw [hlm] at CL
          have HM0 := Lib.hid hm
          have HLM : Hid (L5.length = L.length) := by show _ = _; omega
          clear h1 h2 hlm hm
          go_wp2_with fail
          refine CL.out.mono ?_
          rintro r w6 ⟨rfl, s6⟩
          have S6 := Lib.hid s6
          have hmlen6 := s6.had.len 3
          rw [show L.length = m from by have := HM0.out; omega] at hmlen6
          clear s6 CL M5 hmlen
          go_wp2_with fail
          refine (en_tick S6.out).mono ?_
          rintro r w7 ⟨rfl, s7⟩
          have S7 := Lib.hid s7
          clear s7 S6
          go_wp2
          go_roundw
          case rel =>
            by_cases hl1 : j + 1 < T
            · obtain ⟨e1, e2⟩ := U5.out.more (by omega)
              exact ⟨j + 1, _, by omega, by go_num, S7.out, by rw [show (T : Int) - ((j + 1 : Nat) : Int) = (T : Int) - j - 1 by omega]; exact e2, fun _ => by rw [e1]; exact HLM.out, fun h => by omega⟩
            · have hu1 : AllN L5 1 := by have := U5.out; rwa [show (T : Int) - j = 1 by omega] at this
              have e1 := hu1.one
              have := S7.out
              rw [e1] at this
              exact ⟨j + 1, [], by omega, by go_num, this, fun x hx => by simp at hx, fun h => by omega, fun _ => rfl⟩
          case measure => simp [intOf]; omega
        · have hjt' : ¬ (j : Int) < (T : Int) := by omega
          have hnil : L5 = [] := h2 (by omega)
          subst hnil
          clear h1 h2
          go_wp2_with fail
          refine (en_len M5.out).mono ?_
          rintro r w6 ⟨rfl, s6⟩
          have S6 := Lib.hid s6
          clear s6
          simp only [List.length_nil]
          go_wp2
          go_ret
          exact ⟨rfl, S6.out.bel⟩
end Go.Proofs.Ytfiohhgmlelnkaa

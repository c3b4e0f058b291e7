/-
  The walk of LeaseOnce. Its conditions: the script reads as steps.
-/
import Derived.Test.YtfiohhgmlelnkaaW12
namespace Go.Proofs.Ytfiohhgmlelnkaa
open Go.RowKit Go.Maps

def OnRel (l : List Step) (g B : Nat) (limit T : Int) (w : World) (s8 s9 s10 s11 : Value) (wr : World) : Prop :=
  ∃ (k : Nat) (L : List Ls) (last : Int) (H : List Rc), k ≤ 200 ∧ k ≤ l.length ∧ s11 = .int .i64 (k : Int) ∧ TableAt wr w.heap.size g B L limit T last ∧ Below w.heap.size w wr ∧
    RowV wr w.heap.size 2 s8 (tokV H) ∧ RowV wr w.heap.size 9 s9 (keyV H) ∧ RowV wr w.heap.size 3 s10 (sinV (H.map (·.s))) ∧ Hist T last H L ∧ 0 ≤ last ∧ last ≤ k ∧ H.length ≤ k
theorem on_new {w wr : World} {g B : Nat} {L : List Ls} {limit T last : Int} {v8 v9 v10 : Value} {H : List Rc} (x : Step) (ht : TableAt wr w.heap.size g B L limit T last) (hb : Below w.heap.size w wr) (h8 : RowV wr w.heap.size 2 v8 (tokV H)) (h9 : RowV wr w.heap.size 9 v9 (keyV H)) (h10 : RowV wr w.heap.size 3 v10 (sinV (H.map (·.s)))) :
    On w (wr.alloc (oStep x)) g B L limit T last wr.heap.size x v8 v9 v10 H (H.map (·.s)) := by
  have hb1 : Below wr.heap.size wr (wr.alloc (oStep x)) := (Below.refl _ _).alloc (Nat.le_refl _) _
  exact ⟨⟨ht.below hb1, heap_new _ _, by simp [oStep, kd, tK], hb.trans (hb1.mono hb.size)⟩, h8.below hb1, h9.below hb1, h10.below hb1, by simp⟩
theorem tokV_length (H : List Rc) : (tokV H).length = H.length := by simp [tokV]
theorem keyV_length (H : List Rc) : (keyV H).length = H.length := by simp [keyV]
theorem sinV_length (S : List Int) : (sinV S).length = S.length := by simp [sinV]
section
variable {w0 W : World} {g B : Nat} {L : List Ls} {limit T last : Int} {q : Nat} {x : Step} {v8 v9 v10 : Value} {H : List Rc} {S : List Int}
/-- The three rows' forms. -/
theorem On.forms (s : On w0 W g B L limit T last q x v8 v9 v10 H S) : ∃ A8 c8 A9 c9 A10 c10, v8 = .slice A8 H.length c8 ∧ v9 = .slice A9 H.length c9 ∧ v10 = .slice A10 H.length c10 := by
  obtain ⟨A8, c8, h8⟩ := s.r8.form
  obtain ⟨A9, c9, h9⟩ := s.r9.form
  obtain ⟨A10, c10, h10⟩ := s.r10.form
  rw [tokV_length] at h8
  rw [keyV_length] at h9
  rw [sinV_length, s.sl] at h10
  exact ⟨A8, c8, A9, c9, A10, c10, h8, h9, h10⟩
theorem On.tok {A : Option Addr} {n c : Nat} (s : On w0 W g B L limit T last q x (.slice A n c) v9 v10 H S) {j : Nat} (hj : j < H.length) : ∃ b, A = some ⟨b, 0, none⟩ ∧ W.cell? ⟨b, j, none⟩ = some (.int .i64 H[j].t) := by
  obtain ⟨b, rfl, _, _, _, hc, _⟩ := s.r8.at_ rfl (k := j) (by rw [tokV_length]; exact hj)
  exact ⟨b, rfl, by rw [hc]; simp [tokV]⟩
theorem On.key {A : Option Addr} {n c : Nat} (s : On w0 W g B L limit T last q x v8 (.slice A n c) v10 H S) {j : Nat} (hj : j < H.length) : ∃ b, A = some ⟨b, 0, none⟩ ∧ W.cell? ⟨b, j, none⟩ = some (.string H[j].k) := by
  obtain ⟨b, rfl, _, _, _, hc, _⟩ := s.r9.at_ rfl (k := j) (by rw [keyV_length]; exact hj)
  exact ⟨b, rfl, by rw [hc]; simp [keyV]⟩
/-- What the round leaves. -/
theorem On.rel {l : List Step} {k : Nat} (s : On w0 W g B L limit T last q x v8 v9 v10 H S) (hS : S = H.map (·.s)) (hh : Hist T last H L) (h1 : k + 1 ≤ 200) (h2 : k + 1 ≤ l.length) (h3 : 0 ≤ last) (h4 : last ≤ (k : Int) + 1) (h5 : H.length ≤ k + 1) : OnRel l g B limit T w0 v8 v9 v10 (.int .i64 ((k + 1 : Nat) : Int)) W := by
  subst hS
  exact ⟨k + 1, L, last, H, h1, h2, rfl, s.st.tab, s.st.bel, s.r8, s.r9, s.r10, hh, h3, by omega, h5⟩
theorem tokV_puts (F : Rc → Int) (H : List Rc) : tokV (puts F H) = tokV H := by simp [tokV, puts, put]
theorem keyV_puts (F : Rc → Int) (H : List Rc) : keyV (puts F H) = keyV H := by simp [keyV, puts, put]
/-- All have their new numbers. -/
theorem On.puts {F : Rc → Int} (s : On w0 W g B L limit T last q x v8 v9 v10 H (H.map F)) : On w0 W g B L limit T last q x v8 v9 v10 (puts F H) ((puts F H).map (·.s)) :=
  ⟨s.st, by rw [tokV_puts]; exact s.r8, by rw [keyV_puts]; exact s.r9, by rw [puts_s]; exact s.r10, by simp⟩
theorem puts_length (F : Rc → Int) (H : List Rc) : (Ytfiohhgmlelnkaa.puts F H).length = H.length := by simp [Ytfiohhgmlelnkaa.puts]
end
set_option maxRecDepth 100000 in
set_option maxHeartbeats 16000000 in
theorem once_walk (limit a : Int) (l : List Step) (A : Option Addr) (n c : Nat) (w : World) (hl2 : limit ≤ 9223372036854775807) (hs : Scr w A l) (hn : l.length = n) :
    Calls Try.prog 4 #[.int .i64 limit, .int .i64 a, .slice A n c] w fun e w' => e = .returned (.bool true) ∧ Below w.heap.size w w' := by
  obtain ⟨t, ht, htm⟩ := mask_i64 a 15 (by omega)
  have ht' : bits .and .i64 a 15 = (t : Int) := ht
  obtain ⟨T, hT⟩ : ∃ T : Nat, T = t + 1 := ⟨_, rfl⟩
  have hw : wrap64 (1 + (t : Int)) = (T : Int) := by unfold wrap64; omega
  have HT : Hid (1 ≤ T ∧ T ≤ 16) := by show _ ∧ _; omega
  have HL := Lib.hid hl2
  have H0 := Lib.hid hs
  have HE := Lib.hid hn
  clear ht htm hT hl2 hs hn
  go_enter Try.func4, Try.ntmps4
  go_wp2_with fail
  refine (awake_any w).mono ?_
  rintro e w1 ⟨rfl, b1⟩
  have B1 := Lib.hid b1
  clear b1
  go_wp2_with fail
  refine (new_any w.heap.size limit T T w1 B1.out.size (by have := HT.out; omega) (by have := HT.out; omega) HL.out).mono ?_
  rintro e w2 ⟨g, B, rfl, t2, b2, _, _⟩
  have T2 := Lib.hid t2
  have B2 := Lib.hid (B1.out.trans (b2.mono B1.out.size))
  clear t2 b2 B1 ht'
  go_wp2
  clear hw
  go_loopw [8, 9, 10, 11] (OnRel l g B limit T w) (fun _ _ _ i _ => 201 - (intOf i).toNat)
  case atStart => exact ⟨0, [], 0, [], Nat.zero_le _, Nat.zero_le _, rfl, T2.out, B2.out, RowV.nil _ _ _, RowV.nil _ _ _, RowV.nil _ _ _, Hist.nil (by have := HT.out; omega), by omega, by omega, Nat.zero_le _⟩
  case round =>
    obtain ⟨k, L, last, H, hk2, hkl, rfl, hm, hb, h8, h9, h10, hh, hl0, hl1, hlen⟩ := hrel
    have HB := Lib.hid hb
    have HH := Lib.hid hh
    have HI : Hid (0 ≤ last ∧ last ≤ k ∧ H.length ≤ k) := ⟨hl0, hl1, hlen⟩
    have HS : Hid (∀ x, On w (wr.alloc (oStep x)) g B L limit T last wr.heap.size x u8 u9 u10 H (H.map (·.s))) := fun x => on_new x hm hb h8 h9 h10
    rw [HE.out] at hkl
    clear hm hb h8 h9 h10 hh hl0 hl1 hlen T2 B2
    by_cases hlt : k < n ∧ k < 200
    · obtain ⟨hlt1, hlt2⟩ := hlt
      have hkl2 : k < l.length := by rw [HE.out]; exact hlt1
      obtain ⟨b, off, rfl, hbs, c0, c1, c2⟩ := (H0.out.below (Nat.le_refl _) HB.out).at_ hkl2
      have S0 := Lib.hid (HS.out l[k])
      have HKS := Lib.hid (H0.out.2.1 l[k] (List.getElem_mem hkl2))
      generalize l[k] = x at c0 c1 c2 S0 HKS
      obtain ⟨K, key, tk⟩ := x
      simp only at c0 c1 c2 S0 HKS
      have hlti : (k : Int) < (n : Int) := by omega
      have hlti2 : (k : Int) < 200 := by omega
      have hk0 : (0 : Int) ≤ (k : Int) := by omega
      have HK2 : Hid (k + 1 ≤ 200 ∧ k + 1 ≤ l.length) := by show _ ∧ _; omega
      obtain ⟨A8, c8, A9, c9, A10, c10, hv8, hv9, hv10⟩ := S0.out.forms
      subst hv8 hv9 hv10
      obtain ⟨m, hm⟩ : ∃ m, m = H.length := ⟨_, rfl⟩
      rw [← hm] at S0 ⊢
      have HM := Lib.hid hm
      have hm200 : (m : Int) ≤ 200 := by rw [hm]; have := HI.out; omega
      clear hkl2 hbs hk2 hkl hm HS
      by_cases hK0 : K = 0
      · subst hK0
        go_wp2_with fail
        obtain ⟨W0, hW0⟩ : ∃ W0, wr.alloc (oStep ⟨0, key, tk⟩) = W0 := ⟨_, rfl⟩
        have hW0' := hW0
        simp only [oStep] at hW0'
        rw [hW0] at S0
        rw [hW0']
        clear hW0 hW0' c0 c1 c2
        generalize wr.heap.size = q at S0 ⊢
        have CG := Lib.hid (on_grant S0.out key HKS.out HI.out.1 (by have := HI.out; have := HK2.out; omega))
        refine CG.out.mono ?_
        rintro r W1 ⟨rfl, s1⟩
        cases hok : grB L key limit with
        | false =>
          have e1 : grL L key limit T last = L := by simp [grL, hok]
          have e2 : grT L key limit last = last := by simp [grT, hok]
          rw [e1, e2] at s1
          have S1 := Lib.hid s1
          generalize grV L key limit last = vv
          clear s1 S0 CG hok e1 e2
          go_wp2
          go_loopw [58] (fun s W => ∃ j : Nat, j ≤ m ∧ s = .int .i64 (j : Int) ∧ On w W g B L limit T last q ⟨0, key, tk⟩ (.slice A8 m c8) (.slice A9 m c9) (.slice A10 m c10) H (H.map (·.s))) (fun i _ => 201 - (intOf i).toNat)
          case atStart => exact ⟨0, Nat.zero_le _, rfl, S1.out⟩
          case round =>
            obtain ⟨j, hj, rfl, s2⟩ := hrel
            have S2 := Lib.hid s2
            clear s2 S1
            by_cases hjm : j < m
            · have hjH : j < H.length := by rw [← HM.out]; exact hjm
              obtain ⟨b8, rfl, ct⟩ := S2.out.tok hjH
              have htk := HH.out.tok H[j] (List.getElem_mem hjH)
              have hji : (j : Int) < (m : Int) := by omega
              have hj0 : (0 : Int) ≤ (j : Int) := by omega
              generalize H[j].t = tj at ct htk
              have hnt : ¬ tj ≥ last + 1 := by omega
              clear hjH htk
              go_wp2
              go_roundw
              case rel => exact ⟨j + 1, by omega, by go_num, S2.out⟩
              case measure => simp [intOf]; omega
            · have hji : ¬ (j : Int) < (m : Int) := by omega
              go_wp2
              go_roundw
              case rel => exact S2.out.rel rfl HH.out HK2.out.1 HK2.out.2 HI.out.1 (by have := HI.out; omega) (by have := HI.out; omega)
              case measure => simp [intOf]; omega
        | true =>
          have e1 : grL L key limit T last = L ++ [⟨key, last + 1, T⟩] := by simp [grL, hok]
          have e2 : grT L key limit last = last + 1 := by simp [grT, hok]
          have e3 : grV L key limit last = last + 1 := by simp [grV, hok]
          rw [e1, e2] at s1
          rw [e3]
          have S1 := Lib.hid s1
          clear s1 S0 CG hok e1 e2 e3
          go_wp2
          go_loopw [58] (fun s W => ∃ j : Nat, j ≤ m ∧ s = .int .i64 (j : Int) ∧ On w W g B (L ++ [⟨key, last + 1, T⟩]) limit T (last + 1) q ⟨0, key, tk⟩ (.slice A8 m c8) (.slice A9 m c9) (.slice A10 m c10) H (H.map (·.s))) (fun i _ => 201 - (intOf i).toNat)
          case atStart => exact ⟨0, Nat.zero_le _, rfl, S1.out⟩
          case round =>
            obtain ⟨j, hj, rfl, s2⟩ := hrel
            have S2 := Lib.hid s2
            clear s2 S1
            by_cases hjm : j < m
            · have hjH : j < H.length := by rw [← HM.out]; exact hjm
              obtain ⟨b8, rfl, ct⟩ := S2.out.tok hjH
              have htk := HH.out.tok H[j] (List.getElem_mem hjH)
              have hji : (j : Int) < (m : Int) := by omega
              have hj0 : (0 : Int) ≤ (j : Int) := by omega
              generalize H[j].t = tj at ct htk
              have hnt : ¬ tj ≥ last + 1 := by omega
              clear hjH htk
              go_wp2
              go_roundw
              case rel => exact ⟨j + 1, by omega, by go_num, S2.out⟩
              case measure => simp [intOf]; omega
            · have hji : ¬ (j : Int) < (m : Int) := by omega
              have cq := S2.out.cells.2.1
              simp only at cq
              have TR : Hid (Tr w wr g B (L ++ [⟨key, last + 1, T⟩]) limit T (last + 1) q ⟨0, key, tk⟩ (.slice A8 m c8) (tokV H) (.slice A9 m c9) (keyV H) (.slice A10 m c10) (sinV (H.map (·.s)))) := ⟨S2.out.st, S2.out.r8, S2.out.r9, S2.out.r10⟩
              have HL8 : Hid ((tokV H).length = m ∧ (keyV H).length = m ∧ (sinV (H.map (·.s))).length = m) := by
                show _ ∧ _
                rw [tokV_length, keyV_length, sinV_length, List.length_map]
                have := HM.out
                omega
              clear S2
              go_wp2_with fail
              refine region_cut (AppR w g B (L ++ [⟨key, last + 1, T⟩]) limit T (last + 1) q ⟨0, key, tk⟩ (.slice A8 m c8) (.slice A9 m c9) (.slice A10 m c10) (tokV H ++ [.int .i64 (last + 1)]) (keyV H ++ [.string key]) (sinV (H.map (·.s)) ++ [.int .i64 0]) m (.int .i64 (last + 1))) ?cutA ?cutB
              case cutB =>
                rintro a' w' ⟨A1, k1, A2, k2, A3, k3, u72, u77, u80, rfl, tr⟩
                have TE := Lib.hid tr
                clear tr TR cq
                simp only [putsA, Act.put, List.setIfInBounds_toArray, List.set_cons_succ, List.set_cons_zero]
                go_wp2
                go_roundw
                case rel =>
                  have hh := HH.out.grant key
                  have t1 := TE.out
                  have s9 : On w w' g B (L ++ [⟨key, last + 1, T⟩]) limit T (last + 1) q ⟨0, key, tk⟩ (.slice A1 (m + 1) k1) (.slice A2 (m + 1) k2) (.slice A3 (m + 1) k3) (H ++ [(⟨last + 1, key, 0⟩ : Rc)]) ((H ++ [(⟨last + 1, key, 0⟩ : Rc)]).map (·.s)) :=
                    ⟨t1.st, by have := t1.r8; simpa [tokV] using this, by have := t1.r9; simpa [keyV] using this, by have := t1.r10; simpa [sinV] using this, by simp⟩
                  exact s9.rel rfl hh HK2.out.1 HK2.out.2 (by have := HI.out; omega) (by have := HI.out; omega) (by have := HI.out; simp; omega)
                case measure => simp [intOf]; omega
              go_region_held3 (fun w' => w'.cell? ⟨q, 1, none⟩ = some (.string key)) (first | assumption | exact (step_cells (TB.out.ext (by repeat (first | with_reducible exact Ext.refl _ | with_reducible refine Ext.drew ?_ | with_reducible refine Ext.alloc ?_ _))).st.box).2.1 | exact (step_cells (TA.out.ext (by repeat (first | with_reducible exact Ext.refl _ | with_reducible refine Ext.drew ?_ | with_reducible refine Ext.alloc ?_ _))).st.box).2.1 | exact (step_cells (TR.out.ext (by repeat (first | with_reducible exact Ext.refl _ | with_reducible refine Ext.drew ?_ | with_reducible refine Ext.alloc ?_ _))).st.box).2.1)
                (first
                  | (refine step_app (u := .int .i64 (last + 1)) (xs := tokV H) (base := w.heap.size) ty40 rfl _ _ rfl rfl rfl ?hr ?ho rfl ?hb ?hl ?_
                     case hr => exact (TR.out.ext (by repeat (first | with_reducible exact Ext.refl _ | with_reducible refine Ext.drew ?_ | with_reducible refine Ext.alloc ?_ _))).r8
                     case ho => repeat (first | with_reducible refine One.drew ?_ | (with_reducible refine One.new ?_; simp; done) | with_reducible refine One.alloc ?_ _ | with_reducible refine One.fr ?_ fB (by simp) | with_reducible refine One.fr ?_ fA (by simp))
                     case hb => exact (TR.out.ext (by repeat (first | with_reducible exact Ext.refl _ | with_reducible refine Ext.drew ?_ | with_reducible refine Ext.alloc ?_ _))).size
                     case hl => have := HL8.out.1; omega
                     intro A1 k1 wA rA fA
                     rw [HL8.out.1] at rA
                     have TA := Lib.hid ((TR.out.ext (by repeat (first | with_reducible exact Ext.refl _ | with_reducible refine Ext.drew ?_ | with_reducible refine Ext.alloc ?_ _))).a8 rA fA)
                     have cA := (step_cells TA.out.st.box).2.1
                     simp only at cA
                     rw [HL8.out.1])
                  | (refine step_app (u := .string key) (xs := keyV H) (base := w.heap.size) ty41 rfl _ _ rfl rfl rfl ?hr ?ho rfl ?hb ?hl ?_
                     case hr => exact (TA.out.ext (by repeat (first | with_reducible exact Ext.refl _ | with_reducible refine Ext.drew ?_ | with_reducible refine Ext.alloc ?_ _))).r9
                     case ho => repeat (first | with_reducible refine One.drew ?_ | (with_reducible refine One.new ?_; simp; done) | with_reducible refine One.alloc ?_ _ | with_reducible refine One.fr ?_ fB (by simp) | with_reducible refine One.fr ?_ fA (by simp))
                     case hb => exact (TA.out.ext (by repeat (first | with_reducible exact Ext.refl _ | with_reducible refine Ext.drew ?_ | with_reducible refine Ext.alloc ?_ _))).size
                     case hl => have := HL8.out.2.1; omega
                     intro A2 k2 wB rB fB
                     rw [HL8.out.2.1] at rB
                     have TB := Lib.hid ((TA.out.ext (by repeat (first | with_reducible exact Ext.refl _ | with_reducible refine Ext.drew ?_ | with_reducible refine Ext.alloc ?_ _))).a9 rB fB)
                     have cB := (step_cells TB.out.st.box).2.1
                     simp only at cB
                     rw [HL8.out.2.1])
                  | (refine step_app (u := .int .i64 0) (xs := sinV (H.map (·.s))) (base := w.heap.size) ty42 rfl _ _ rfl rfl rfl ?hr ?ho rfl ?hb ?hl ?_
                     case hr => exact (TB.out.ext (by repeat (first | with_reducible exact Ext.refl _ | with_reducible refine Ext.drew ?_ | with_reducible refine Ext.alloc ?_ _))).r10
                     case ho => repeat (first | with_reducible refine One.drew ?_ | (with_reducible refine One.new ?_; simp; done) | with_reducible refine One.alloc ?_ _ | with_reducible refine One.fr ?_ fB (by simp) | with_reducible refine One.fr ?_ fA (by simp))
                     case hb => exact (TB.out.ext (by repeat (first | with_reducible exact Ext.refl _ | with_reducible refine Ext.drew ?_ | with_reducible refine Ext.alloc ?_ _))).size
                     case hl => have := HL8.out.2.2; omega
                     intro A3 k3 wC rC fC
                     rw [HL8.out.2.2] at rC
                     have TC := Lib.hid ((TB.out.ext (by repeat (first | with_reducible exact Ext.refl _ | with_reducible refine Ext.drew ?_ | with_reducible refine Ext.alloc ?_ _))).a10 rC fC)
                     have cC := (step_cells TC.out.st.box).2.1
                     simp only at cC
                     rw [HL8.out.2.2]))
              all_goals
                refine' ⟨A1, k1, A2, k2, A3, k3, _, _, _, ?eq, TC.out⟩
                case eq =>
                  simp only [putsA, Act.put, List.setIfInBounds_toArray, List.set_cons_succ, List.set_cons_zero]
                  with_reducible rfl
      · by_cases hK1 : K = 1
        · subst hK1
          go_wp2_with fail
          obtain ⟨W0, hW0⟩ : ∃ W0, wr.alloc (oStep ⟨1, key, tk⟩) = W0 := ⟨_, rfl⟩
          have hW0' := hW0
          simp only [oStep] at hW0'
          rw [hW0] at S0
          rw [hW0']
          clear hW0 hW0' c0 c1 c2
          generalize wr.heap.size = q at S0 ⊢
          have CU := Lib.hid (on_use S0.out key tk HKS.out)
          have HU := Lib.hid (HH.out.used S0.out.st.tab.good.nd key tk)
          obtain ⟨us, hus⟩ : ∃ us, us = useB L key tk := ⟨_, rfl⟩
          rw [← hus] at CU HU
          have HG := Lib.hid S0.out.st.tab.good.nd
          obtain ⟨z0, z1, z2⟩ := S0.out.cells
          refine CU.out.mono ?_
          rintro r W1 ⟨rfl, s1⟩
          have S1 := Lib.hid s1
          clear s1 S0 hK0 CU z0 z1 z2 hus
          go_wp2
          go_loopw [18, 92] (fun s18 s W => ∃ j : Nat, j ≤ m ∧ s = .int .i64 (j : Int) ∧ s18 = .bool ((H.take j).any (useP key tk)) ∧ On w W g B (useL L key tk) limit T last q ⟨1, key, tk⟩ (.slice A8 m c8) (.slice A9 m c9) (.slice A10 m c10) H (sUpto (useF key tk) j H)) (fun _ i _ => 201 - (intOf i).toNat)
          case atStart => exact ⟨0, Nat.zero_le _, rfl, rfl, by rw [sUpto_zero]; exact S1.out⟩
          case round =>
            obtain ⟨j, hj, rfl, rfl, s2⟩ := hrel
            have S2 := Lib.hid s2
            clear s2 S1
            by_cases hjm : j < m
            · have hjH : j < H.length := by rw [← HM.out]; exact hjm
              obtain ⟨b8, rfl, ct⟩ := S2.out.tok hjH
              obtain ⟨b9, rfl, ck⟩ := S2.out.key hjH
              obtain ⟨_, cq1, cq2⟩ := S2.out.cells
              obtain ⟨bb, rfl, fz, cj0, hset⟩ := S2.out.set hjH
              have cj := cj0 _ (sUpto_get (useF key tk) hjH)
              simp only at cq1 cq2
              have hji : (j : Int) < (m : Int) := by omega
              have hj0 : (0 : Int) ≤ (j : Int) := by omega
              have hany : (H.take (j + 1)).any (useP key tk) = ((H.take j).any (useP key tk) || useP key tk H[j]) := by rw [List.take_succ_eq_append_getElem hjH, List.any_append, List.any_cons, List.any_nil, Bool.or_false]
              have hsame : useP key tk H[j] = false → sUpto (useF key tk) (j + 1) H = sUpto (useF key tk) j H := fun h => sUpto_same _ hjH (by unfold useF; rw [h]; rfl)
              have hsetu : useP key tk H[j] = true → ∀ W, On w W g B (useL L key tk) limit T last q ⟨1, key, tk⟩ (.slice (some ⟨b8, 0, none⟩) m c8) (.slice (some ⟨b9, 0, none⟩) m c9) (.slice (some ⟨bb, 0, none⟩) m c10) H (sUpto (useF key tk) j H) → W.frozen? ⟨bb, j, none⟩ = false ∧ (∃ sj, W.cell? ⟨bb, j, none⟩ = some (.int .i64 sj)) ∧ On w (W.setCell ⟨bb, j, none⟩ (.int .i64 (-1))) g B (useL L key tk) limit T last q ⟨1, key, tk⟩ (.slice (some ⟨b8, 0, none⟩) m c8) (.slice (some ⟨b9, 0, none⟩) m c9) (.slice (some ⟨bb, 0, none⟩) m c10) H (sUpto (useF key tk) (j + 1) H) := fun h W hW => by
                obtain ⟨b2, e1, fz, cj0, hset⟩ := hW.set hjH
                injection e1 with e1
                injection e1 with e1 _ _
                subst e1
                have hF : useF key tk H[j] = -1 := by unfold useF; rw [h]; rfl
                have := hset (-1)
                rw [← hF, sUpto_set (useF key tk) hjH, hF] at this
                exact ⟨fz, ⟨_, cj0 _ (sUpto_get (useF key tk) hjH)⟩, this⟩
              have hP : useP key tk H[j] = (decide (H[j].t = tk) && decide (H[j].k = key) && decide (0 ≤ H[j].s)) := rfl
              clear cj0 hset
              generalize H[j] = rj at ct ck cj hany hsame hsetu hP
              obtain ⟨tj, kj, sj⟩ := rj
              simp only at ct ck cj hP
              clear hjH
              by_cases h1 : tj = tk
              · by_cases h2 : kj = key
                · by_cases h3 : sj ≥ 0
                  · have hp : useP key tk ⟨tj, kj, sj⟩ = true := by rw [hP]; simp [h1, h2]; omega
                    rw [hp, Bool.or_true] at hany
                    have HANY := Lib.hid hany
                    have HSET := Lib.hid (hsetu hp)
                    clear hp hP hany hsame hsetu
                    subst h1 h2
                    go_wp2_with fail
                    go_quiet (fail)
                    have S5 := Lib.hid (S2.out.below (below_drewN wr nq))
                    clear S2 ct ck cq1 cq2 cj fz
                    generalize wr.drewN nq = W5 at S5 ⊢
                    obtain ⟨fz, ⟨sj', cj⟩, s6⟩ := HSET.out _ S5.out
                    have S6 := Lib.hid s6
                    clear s6 S5 HSET
                    go_wp2
                    go_roundw
                    case rel => exact ⟨j + 1, by omega, by go_num, by rw [HANY.out], S6.out⟩
                    case measure => simp [intOf]; omega
                  · have hp : useP key tk ⟨tj, kj, sj⟩ = false := by rw [hP]; simp [h1, h2]; omega
                    rw [hp, Bool.or_false] at hany
                    have HANY := Lib.hid hany
                    have HSAME := Lib.hid (hsame hp)
                    clear hp hP hany hsame hsetu
                    subst h1 h2
                    go_wp2_with fail
                    go_quiet (fail)
                    have S5 := Lib.hid (S2.out.below (below_drewN wr nq))
                    clear S2 ct ck cq1 cq2 cj
                    generalize wr.drewN nq = W5 at S5 ⊢
                    go_wp2
                    go_roundw
                    case rel => exact ⟨j + 1, by omega, by go_num, by rw [HANY.out], by rw [HSAME.out]; exact S5.out⟩
                    case measure => simp [intOf]; omega
                · have hp : useP key tk ⟨tj, kj, sj⟩ = false := by rw [hP]; simp [h2]
                  rw [hp, Bool.or_false] at hany
                  have HANY := Lib.hid hany
                  have HSAME := Lib.hid (hsame hp)
                  have hne := toList_ne h2
                  clear hp hP hany hsame hsetu h2
                  subst h1
                  go_wp2_with fail
                  go_quiet (fail)
                  have S5 := Lib.hid (S2.out.below (below_drewN wr nq))
                  clear S2 ct ck cq1 cq2 cj
                  generalize wr.drewN nq = W5 at S5 ⊢
                  go_wp2
                  go_roundw
                  case rel => exact ⟨j + 1, by omega, by go_num, by rw [HANY.out], by rw [HSAME.out]; exact S5.out⟩
                  case measure => simp [intOf]; omega
              · have hp : useP key tk ⟨tj, kj, sj⟩ = false := by rw [hP]; simp [h1]
                rw [hp, Bool.or_false] at hany
                have HANY := Lib.hid hany
                have HSAME := Lib.hid (hsame hp)
                clear hp hP hany hsame hsetu
                go_wp2_with fail
                go_quiet (fail)
                have S5 := Lib.hid (S2.out.below (below_drewN wr nq))
                clear S2 ct ck cq1 cq2 cj
                generalize wr.drewN nq = W5 at S5 ⊢
                go_wp2
                go_roundw
                case rel => exact ⟨j + 1, by omega, by go_num, by rw [HANY.out], by rw [HSAME.out]; exact S5.out⟩
                case measure => simp [intOf]; omega
            · have hji : ¬ (j : Int) < (m : Int) := by omega
              have hu : (H.take j).any (useP key tk) = us := by rw [show j = H.length from by have := HM.out; omega, List.take_length]; exact HU.out.symm
              rw [hu]
              cases us
              all_goals
                go_wp2
                go_roundw
                case rel => exact (show On w _ g B (useL L key tk) limit T last q _ _ _ _ H (H.map (useF key tk)) from by have := S2.out; rw [show j = H.length from by have := HM.out; omega, sUpto_all] at this; exact this).puts.rel rfl (HH.out.use HG.out key tk) HK2.out.1 HK2.out.2 HI.out.1 (by have := HI.out; omega) (by rw [puts_length]; have := HI.out; omega)
                case measure => simp [intOf]; omega
        · by_cases hK2 : K = 2
          · subst hK2
            go_wp2_with fail
            obtain ⟨W0, hW0⟩ : ∃ W0, wr.alloc (oStep ⟨2, key, tk⟩) = W0 := ⟨_, rfl⟩
            have hW0' := hW0
            simp only [oStep] at hW0'
            rw [hW0] at S0
            rw [hW0']
            clear hW0 hW0' c0 c1 c2
            generalize wr.heap.size = q at S0 ⊢
            refine (on_kill S0.out key HKS.out).mono ?_
            rintro r W1 ⟨rfl, s1⟩
            have S1 := Lib.hid s1
            clear s1 S0 hK0 hK1
            go_wp2
            go_loopw [133] (fun s W => ∃ j : Nat, j ≤ m ∧ s = .int .i64 (j : Int) ∧ On w W g B (drp L key) limit T last q ⟨2, key, tk⟩ (.slice A8 m c8) (.slice A9 m c9) (.slice A10 m c10) H (sUpto (killF key) j H)) (fun i _ => 201 - (intOf i).toNat)
            case atStart => exact ⟨0, Nat.zero_le _, rfl, by rw [sUpto_zero]; exact S1.out⟩
            case round =>
              obtain ⟨j, hj, rfl, s2⟩ := hrel
              have S2 := Lib.hid s2
              clear s2 S1
              by_cases hjm : j < m
              · have hjH : j < H.length := by rw [← HM.out]; exact hjm
                obtain ⟨b9, rfl, ck⟩ := S2.out.key hjH
                have cq := S2.out.cells.2.1
                simp only at cq
                have hji : (j : Int) < (m : Int) := by omega
                have hj0 : (0 : Int) ≤ (j : Int) := by omega
                by_cases hkk : H[j].k = key
                · have HF : Hid (killF key H[j] = -1) := by show _ = _; unfold killF; rw [hkk]; simp
                  have HSET : Hid (∀ W, On w W g B (drp L key) limit T last q ⟨2, key, tk⟩ (.slice A8 m c8) (.slice (some ⟨b9, 0, none⟩) m c9) (.slice A10 m c10) H (sUpto (killF key) j H) → ∃ bb sj, A10 = some ⟨bb, 0, none⟩ ∧ W.frozen? ⟨bb, j, none⟩ = false ∧ W.cell? ⟨bb, j, none⟩ = some (.int .i64 sj) ∧ On w (W.setCell ⟨bb, j, none⟩ (.int .i64 (-1))) g B (drp L key) limit T last q ⟨2, key, tk⟩ (.slice A8 m c8) (.slice (some ⟨b9, 0, none⟩) m c9) (.slice A10 m c10) H (sUpto (killF key) (j + 1) H)) := fun W hW => by
                    obtain ⟨bb, e1, fz, cj0, hset⟩ := hW.set hjH
                    have := hset (-1)
                    rw [← HF.out, sUpto_set (killF key) hjH, HF.out] at this
                    exact ⟨bb, _, e1, fz, cj0 _ (sUpto_get (killF key) hjH), this⟩
                  rw [hkk] at ck
                  clear hkk HF hjH
                  go_wp2_with fail
                  go_quiet (fail)
                  obtain ⟨W5, hW5⟩ : ∃ W5, W5 = wr.drewN nq := ⟨_, rfl⟩
                  have S5 : Hid (On w W5 g B (drp L key) limit T last q ⟨2, key, tk⟩ (.slice A8 m c8) (.slice (some ⟨b9, 0, none⟩) m c9) (.slice A10 m c10) H (sUpto (killF key) j H)) := by
                    show On _ _ _ _ _ _ _ _ _ _ _ _ _ _ _
                    rw [hW5]
                    exact S2.out.below (below_drewN _ _)
                  rw [← hW5]
                  clear hW5 S2 ck cq
                  obtain ⟨bb, sj, rfl, fz, cj, s6⟩ := HSET.out _ S5.out
                  have S6 := Lib.hid s6
                  clear s6 S5 HSET
                  go_wp2
                  go_roundw
                  case rel => exact ⟨j + 1, by omega, by go_num, S6.out⟩
                  case measure => simp [intOf]; omega
                · have HSAME : Hid (sUpto (killF key) (j + 1) H = sUpto (killF key) j H) := sUpto_same _ hjH (by unfold killF; simp [hkk])
                  have hne := toList_ne hkk
                  generalize H[j].k = kj at ck hne
                  clear hkk hjH
                  go_wp2_with fail
                  go_quiet (fail)
                  have S5 := Lib.hid (S2.out.below (below_drewN wr nq))
                  clear S2 ck cq
                  generalize wr.drewN nq = W5 at S5 ⊢
                  go_wp2
                  go_roundw
                  case rel => exact ⟨j + 1, by omega, by go_num, by rw [HSAME.out]; exact S5.out⟩
                  case measure => simp [intOf]; omega
              · have hji : ¬ (j : Int) < (m : Int) := by omega
                go_wp2
                go_roundw
                case rel => exact (show On w _ g B (drp L key) limit T last q _ _ _ _ H (H.map (killF key)) from by have := S2.out; rw [show j = H.length from by have := HM.out; omega, sUpto_all] at this; exact this).puts.rel rfl (HH.out.kill key) HK2.out.1 HK2.out.2 HI.out.1 (by have := HI.out; omega) (by rw [puts_length]; have := HI.out; omega)
                case measure => simp [intOf]; omega
          · by_cases hK3 : K = 3
            · subst hK3
              go_wp2_with fail
              obtain ⟨W0, hW0⟩ : ∃ W0, wr.alloc (oStep ⟨3, key, tk⟩) = W0 := ⟨_, rfl⟩
              have hW0' := hW0
              simp only [oStep] at hW0'
              rw [hW0] at S0
              rw [hW0']
              clear hW0 hW0' c0 c1 c2
              generalize wr.heap.size = q at S0 ⊢
              refine (on_tick S0.out).mono ?_
              rintro r W1 ⟨rfl, s1⟩
              have S1 := Lib.hid s1
              clear s1 S0 hK0 hK1 hK2
              go_wp2
              go_loopw [153] (fun s W => ∃ j : Nat, j ≤ m ∧ s = .int .i64 (j : Int) ∧ On w W g B (tck L) limit T last q ⟨3, key, tk⟩ (.slice A8 m c8) (.slice A9 m c9) (.slice A10 m c10) H (sUpto (tickF T) j H)) (fun i _ => 201 - (intOf i).toNat)
              case atStart => exact ⟨0, Nat.zero_le _, rfl, by rw [sUpto_zero]; exact S1.out⟩
              case round =>
                obtain ⟨j, hj, rfl, s2⟩ := hrel
                have S2 := Lib.hid s2
                clear s2 S1
                by_cases hjm : j < m
                · have hjH : j < H.length := by rw [← HM.out]; exact hjm
                  obtain ⟨bb, rfl, fz, cj0, hset⟩ := S2.out.set hjH
                  have cj' := cj0 _ (sUpto_get (tickF T) hjH)
                  clear cj0
                  have hsn := HH.out.sin H[j] (List.getElem_mem hjH)
                  have HT3 := HT.out
                  have hji : (j : Int) < (m : Int) := by omega
                  have hj0 : (0 : Int) ≤ (j : Int) := by omega
                  have hF : tickF T H[j] = if (T : Int) ≤ (if 0 ≤ H[j].s then H[j].s + 1 else H[j].s) then -1 else (if 0 ≤ H[j].s then H[j].s + 1 else H[j].s) := rfl
                  have HSET : Hid (∀ u, u = tickF T H[j] → On w (wr.setCell ⟨bb, j, none⟩ (.int .i64 u)) g B (tck L) limit T last q ⟨3, key, tk⟩ (.slice A8 m c8) (.slice A9 m c9) (.slice (some ⟨bb, 0, none⟩) m c10) H (sUpto (tickF T) (j + 1) H)) := fun u hu => by
                    subst hu
                    have := hset (tickF T H[j])
                    rw [sUpto_set (tickF T) hjH] at this
                    exact this
                  have HSAME : Hid (tickF T H[j] = H[j].s → On w wr g B (tck L) limit T last q ⟨3, key, tk⟩ (.slice A8 m c8) (.slice A9 m c9) (.slice (some ⟨bb, 0, none⟩) m c10) H (sUpto (tickF T) (j + 1) H)) := fun he => by
                    rw [sUpto_same (tickF T) hjH he]
                    exact S2.out
                  have HTWO : Hid (∀ u z, z = tickF T H[j] → (wr.setCell ⟨bb, j, none⟩ (.int .i64 u)).cell? ⟨bb, j, none⟩ = some (.int .i64 u) ∧ (wr.setCell ⟨bb, j, none⟩ (.int .i64 u)).frozen? ⟨bb, j, none⟩ = false ∧ On w ((wr.setCell ⟨bb, j, none⟩ (.int .i64 u)).setCell ⟨bb, j, none⟩ (.int .i64 z)) g B (tck L) limit T last q ⟨3, key, tk⟩ (.slice A8 m c8) (.slice A9 m c9) (.slice (some ⟨bb, 0, none⟩) m c10) H (sUpto (tickF T) (j + 1) H)) := fun u z hz => by
                    obtain ⟨b2, e1, f2, d2, h2⟩ := (hset u).set hjH
                    injection e1 with e1
                    injection e1 with e1 _ _
                    subst e1
                    refine ⟨d2 u (by rw [List.getElem?_set]; simp [sUpto_length, hjH]), f2, ?_⟩
                    subst hz
                    have := h2 (tickF T H[j])
                    rw [List.set_set, sUpto_set (tickF T) hjH] at this
                    exact this
                  generalize H[j].s = s at cj' hsn hF HSAME
                  generalize tickF T H[j] = fv at hF HSET HSAME HTWO
                  have hTi : (1 : Int) ≤ (T : Int) ∧ (T : Int) ≤ 16 := by omega
                  clear hset S2 hjH HT3
                  by_cases hs0 : s ≥ 0
                  · rw [if_pos hs0] at hF
                    have hw1 : wrap64 (s + 1) = s + 1 := by unfold wrap64; omega
                    by_cases hs1 : s + 1 ≥ (T : Int)
                    · rw [if_pos hs1] at hF
                      obtain ⟨d2, f2, s3⟩ := HTWO.out (s + 1) (-1) hF.symm
                      have S3 := Lib.hid s3
                      clear s3 HTWO HSET HSAME hF hsn hTi
                      go_wp2
                      go_roundw
                      case rel => exact ⟨j + 1, by omega, by go_num, S3.out⟩
                      case measure => simp [intOf]; omega
                    · rw [if_neg hs1] at hF
                      obtain ⟨d2, f2, _⟩ := HTWO.out (s + 1) _ rfl
                      have S3 := Lib.hid (HSET.out (s + 1) hF.symm)
                      clear HTWO HSET HSAME hF hsn hTi
                      go_wp2
                      go_roundw
                      case rel => exact ⟨j + 1, by omega, by go_num, S3.out⟩
                      case measure => simp [intOf]; omega
                  · rw [if_neg hs0, if_neg (by omega)] at hF
                    have hs1 : ¬ s ≥ (T : Int) := by omega
                    have S3 := Lib.hid (HSAME.out hF)
                    clear HTWO HSET HSAME hF hsn hTi
                    go_wp2
                    go_roundw
                    case rel => exact ⟨j + 1, by omega, by go_num, S3.out⟩
                    case measure => simp [intOf]; omega
                · have hji : ¬ (j : Int) < (m : Int) := by omega
                  go_wp2
                  go_roundw
                  case rel => exact (show On w _ g B (tck L) limit T last q _ _ _ _ H (H.map (tickF T)) from by have := S2.out; rw [show j = H.length from by have := HM.out; omega, sUpto_all] at this; exact this).puts.rel rfl HH.out.tick HK2.out.1 HK2.out.2 HI.out.1 (by have := HI.out; omega) (by rw [puts_length]; have := HI.out; omega)
                  case measure => simp [intOf]; omega
            · by_cases hK4 : K = 4
              · subst hK4
                go_wp2_with fail
                obtain ⟨W0, hW0⟩ : ∃ W0, wr.alloc (oStep ⟨4, key, tk⟩) = W0 := ⟨_, rfl⟩
                have hW0' := hW0
                simp only [oStep] at hW0'
                rw [hW0] at S0
                rw [hW0']
                clear hW0 hW0' c0 c1 c2
                generalize wr.heap.size = q at S0 ⊢
                refine (on_clear S0.out).mono ?_
                rintro r W1 ⟨rfl, s1⟩
                have S1 := Lib.hid s1
                clear s1 S0 hK0 hK1 hK2 hK3
                go_wp2
                go_loopw [183] (fun s W => ∃ j : Nat, j ≤ m ∧ s = .int .i64 (j : Int) ∧ On w W g B [] limit T last q ⟨4, key, tk⟩ (.slice A8 m c8) (.slice A9 m c9) (.slice A10 m c10) H (sUpto clearF j H)) (fun i _ => 201 - (intOf i).toNat)
                case atStart => exact ⟨0, Nat.zero_le _, rfl, by rw [sUpto_zero]; exact S1.out⟩
                case round =>
                  obtain ⟨j, hj, rfl, s2⟩ := hrel
                  have S2 := Lib.hid s2
                  clear s2 S1
                  by_cases hjm : j < m
                  · have hjH : j < H.length := by rw [← HM.out]; exact hjm
                    obtain ⟨bb, rfl, fz, cj0, hset⟩ := S2.out.set hjH
                    have cj := cj0 _ (sUpto_get clearF hjH)
                    clear cj0
                    have S3 : Hid (On w (wr.setCell ⟨bb, j, none⟩ (.int .i64 (-1))) g B [] limit T last q ⟨4, key, tk⟩ (.slice A8 m c8) (.slice A9 m c9) (.slice (some ⟨bb, 0, none⟩) m c10) H (sUpto clearF (j + 1) H)) := by
                      have := hset (-1)
                      rw [show (-1 : Int) = clearF H[j] from rfl, sUpto_set clearF hjH] at this
                      exact this
                    have hji : (j : Int) < (m : Int) := by omega
                    have hj0 : (0 : Int) ≤ (j : Int) := by omega
                    clear hset S2
                    generalize H[j].s = sj at cj
                    clear hjH
                    go_wp2
                    go_roundw
                    case rel => exact ⟨j + 1, by omega, by go_num, S3.out⟩
                    case measure => simp [intOf]; omega
                  · have hji : ¬ (j : Int) < (m : Int) := by omega
                    go_wp2
                    go_roundw
                    case rel => exact (show On w _ g B [] limit T last q _ _ _ _ H (H.map clearF) from by have := S2.out; rw [show j = H.length from by have := HM.out; omega, sUpto_all] at this; exact this).puts.rel rfl HH.out.clear HK2.out.1 HK2.out.2 HI.out.1 (by have := HI.out; omega) (by rw [puts_length]; have := HI.out; omega)
                    case measure => simp [intOf]; omega
              · go_wp2
                go_roundw
                case rel => exact S0.out.rel rfl HH.out HK2.out.1 HK2.out.2 HI.out.1 (by have := HI.out; omega) (by have := HI.out; omega)
                case measure => simp [intOf]; omega
    · have hcase : ¬ (k : Int) < (n : Int) ∨ ((k : Int) < (n : Int) ∧ ¬ (k : Int) < 200) := by omega
      clear hlt hk2 hkl
      rcases hcase with hc1 | ⟨hc1, hc2⟩
      all_goals
        go_wp2
        go_ret
        exact ⟨rfl, HB.out⟩
end Go.Proofs.Ytfiohhgmlelnkaa

/-
  The contract of the document's Cut. Its conditions: the slice reads as bytes, and is of at most 1048576.
-/
import Derived.Test.YtlnblcgfgkkbhaaW12
namespace Go.Proofs.Ytlnblcgfgkkbhaa
open Go.RowKit

theorem Fr.first_opn {l : List Nat} (hl : Fr.Oct l) : Fr.first l = Fr.opn (l.take (8 + Fr.num (l.take 4))) := by
  have ho : Fr.Oct (l.take (8 + Fr.num (l.take 4))) := fun c hc => hl c (List.mem_of_mem_take hc)
  cases hf : Fr.first l with
  | some p =>
    obtain ⟨hg, e⟩ := Fr.first_some hl hf
    have hN : Fr.num (l.take 4) = p.length := by
      rw [e, Fr.frame_take4]
      exact Fr.num_four _ (by have := hg.2; omega)
    rw [hN] at ho ⊢
    have ht : l.take (8 + p.length) = Fr.frame p := by
      rw [e]
      exact Fr.take_len _ _ _ (Fr.frame_length p)
    rw [ht] at ho ⊢
    exact (Fr.opn_frame hg (Fr.frame_oct_back' ho)).symm
  | none =>
    cases hq : Fr.opn (l.take (8 + Fr.num (l.take 4))) with
    | none => rfl
    | some p =>
      obtain ⟨hg, e⟩ := (Fr.opn_iff ho).mp hq
      have e2 : l = Fr.frame p ++ l.drop (8 + Fr.num (l.take 4)) := by rw [← e, List.take_append_drop]
      have := (Fr.first_iff hl).mpr ⟨hg, _, e2⟩
      rw [hf] at this
      cases this
theorem Fr.first_far {l : List Nat} (hn : l.length - 8 < Fr.num (l.take 4)) : Fr.first l = none := by
  unfold Fr.first
  split
  · rfl
  · rw [if_pos (.inr (.inr hn))]
/-- What the document's Cut answers. -/
def RefCutPost (w : World) (l : List Nat) (e : Ending) (w' : World) : Prop :=
  ∃ (ps : List (List Nat)) (k : Nat) (A : Option Addr) (m c : Nat), Fr.CutIs l ps k ∧ ps.length = m ∧ e = .returned (.tuple #[.slice A m c, .int .i64 (k : Int)]) ∧ OwnP w w' ps (.slice A m c)
theorem num4 (a b c d : Nat) : ((Fr.num [a, b, c, d] : Nat) : Int) = (a : Int) * 16777216 + (b : Int) * 65536 + (c : Int) * 256 + (d : Int) := by
  simp only [Fr.num, List.foldl_cons, List.foldl_nil]
  omega
set_option maxHeartbeats 1000000 in
theorem refcut_any (l : List Nat) (A : Option Addr) (n c : Nat) (w : World) (h : Bytes w A l) (hn : l.length = n) (hc : n ≤ c) (hm : n ≤ 1048576) : Calls Try.prog 15 #[.slice A n c] w (RefCutPost w l) := by
  have H := Lib.hid h
  have HN := Lib.hid hn
  have HM := Lib.hid hm
  have HE := Lib.hid (OwnP.empty w w (Below.refl _ _))
  clear h hn hm
  go_enter Try.func15, Try.ntmps15
  go_wp2
  go_loopw [4, 5] (CutRel w l) (fun _ i _ => n - (intOf i).toNat)
  case atStart => exact ⟨[], 0, _, 0, 0, rfl, rfl, rfl, Nat.zero_le _, rfl, by simp, HE.out⟩
  case round =>
    obtain ⟨ps, k, Av, m, cv, rfl, hps, rfl, hkl, htk, hgood, hown⟩ := hrel
    have HPS := Lib.hid hps
    have HTK := Lib.hid htk
    have HGD := Lib.hid hgood
    have HO := Lib.hid hown
    rw [HN.out] at hkl
    have HQ : Hid (∀ w', Below wr.heap.size wr w' → Fr.first (l.drop k) = none → RefCutPost w l (.returned (.tuple #[.slice Av m cv, .int .i64 (k : Int)])) w') :=
      fun w' hb hf => ⟨ps, k, Av, m, cv, ⟨HGD.out, by rw [HN.out]; omega, HTK.out, hf⟩, HPS.out, rfl, HO.out.keep hb⟩
    clear hps htk hgood hown
    by_cases h9 : n - k < 9
    · have hf := HQ.out wr (Below.refl _ _) (Fr.first_short (by rw [List.length_drop, HN.out]; exact h9))
      have HFF := Lib.hid hf
      have d9 : ((n - k : Nat) : Int) < 9 := by omega
      clear hf
      go_wp2
      all_goals
        go_ret2
        exact HFF.out
    · obtain ⟨b, off, rfl, hbw, hcell⟩ := H.out.2.2 (by have := HN.out; omega)
      have HD : Hid (Bytes wr (some ⟨b, off + k, none⟩) (l.drop k)) := by
        have := (H.out.below HO.out.bel).drop k c (by have := HN.out; omega)
        rw [if_neg (by omega)] at this
        have h2 : (some (⟨b, off, none⟩ : Addr)).map (·.add k) = some ⟨b, off + k, none⟩ := by simp [addr_add]
        rw [h2] at this
        exact this
      have HX := Lib.hid (fun (j : Nat) (hj : j < (l.drop k).length) => HD.out.at_ hj)
      obtain ⟨r, rfl⟩ : ∃ r, n = k + r := ⟨n - k, by omega⟩
      have h9' : 9 ≤ r := by omega
      have hdl : (l.drop k).length = r := by rw [List.length_drop, HN.out]; omega
      have HDL := Lib.hid hdl
      obtain ⟨x0, x1, x2, x3, hx⟩ := Fr.list4 (l := (l.drop k).take 4) (by rw [List.length_take, hdl]; omega)
      have hat : ∀ (j x : Nat), j < 4 → ((l.drop k).take 4)[j]? = some x → wr.cell? ⟨b, off + k + j, none⟩ = some (.int .u8 (x : Int)) ∧ x < 256 := by
        intro j x hj hjx
        rw [List.getElem?_take, if_pos hj] at hjx
        obtain ⟨_, _, _, _, hcl⟩ := HD.out.2.2 (by omega)
        refine ⟨?_, HD.out.1 x (List.mem_of_getElem? hjx)⟩
        rename_i b' off' e _
        injection e with e
        injection e with e1 e2 _
        subst e1 e2
        exact hcl j x hjx
      rw [hx] at hat
      obtain ⟨g0, l0⟩ := hat 0 x0 (by omega) rfl
      obtain ⟨g1, l1⟩ := hat 1 x1 (by omega) rfl
      obtain ⟨g2, l2⟩ := hat 2 x2 (by omega) rfl
      obtain ⟨g3, l3⟩ := hat 3 x3 (by omega) rfl
      have HXX := Lib.hid hx
      rw [Nat.add_zero] at g0
      have i0 : (0 : Int) < (r : Int) := by omega
      have i1 : (1 : Int) < (r : Int) := by omega
      have i2 : (2 : Int) < (r : Int) := by omega
      have i3 : (3 : Int) < (r : Int) := by omega
      have i9 : ¬ (r : Int) < 9 := by omega
      clear hat hx hdl h9
      go_wp2
      go_quiet (fail)
      rw [← num4]
      have HNN : Hid (Fr.num ((l.drop k).take 4) = Fr.num [x0, x1, x2, x3]) := by rw [HXX.out]; exact rfl
      generalize Fr.num [x0, x1, x2, x3] = N at HNN ⊢
      clear g0 g1 g2 g3 l0 l1 l2 l3 i0 i1 i2 i3
      by_cases hfar : r < N + 8
      · have hf := Fr.first_far (l := l.drop k) (by rw [HNN.out, HDL.out]; omega)
        have HFF := Lib.hid (fun w' hb => HQ.out w' hb hf)
        have df : (r : Int) - 8 < (N : Int) := by omega
        have hr1 : (r : Int) ≤ 1048576 := by have := HM.out; omega
        have hr9 : 9 ≤ (r : Int) := by omega
        clear hf hfar
        go_wp2
        go_ret2
        exact HFF.out _ (drew_below (Below.refl _ _))
      · have hN1 : (8 : Int) + (N : Int) ≤ 1048576 := by have := HM.out; omega
        have df : (N : Int) ≤ (r : Int) - 8 := by omega
        have hr1 : (r : Int) ≤ 1048576 := by have := HM.out; omega
        have hr9 : 9 ≤ (r : Int) := by omega
        have hNc : 8 + N ≤ c - k := by omega
        have HF := Lib.hid (Fr.first_opn (l := l.drop k) (fun x hx => H.out.1 x (List.mem_of_mem_drop hx)))
        rw [HNN.out] at HF
        have HC : Hid (∀ w1, Below wr.heap.size wr w1 → Calls Try.prog 13 #[.slice (some ⟨b, off + k, none⟩) (8 + N) (c - k)] w1 (RefOpenPost w1 ((l.drop k).take (8 + N)))) :=
          fun w1 hb => refopen_any _ _ _ _ w1 ((HD.out.below hb).take _) (by rw [List.length_take, HDL.out]; omega) hNc (by omega)
        have HNr : Hid (8 + N ≤ r) := by show _ ≤ _; omega
        clear hfar
        go_wp2_with fail
        refine (HC.out _ (drew_below (Below.refl _ _))).mono ?_
        rintro e w1 (⟨hf, rfl, b1⟩ | ⟨p, A1, mp, c1, hf, hmp, rfl, g1⟩)
        · have hb1 : Below wr.heap.size wr w1 := (drew_below (Below.refl _ _)).trans b1
          have HFF := Lib.hid (HQ.out w1 hb1 (by rw [HF.out]; exact hf))
          clear hf b1 hb1
          go_wp2
          go_ret2
          exact HFF.out
        · have hb1 : Below wr.heap.size wr w1 := (drew_below (Below.refl _ _)).trans g1.bel
          have hfst : Fr.first (l.drop k) = some p := by rw [HF.out]; exact hf
          have hpN : p.length = N := by
            obtain ⟨_, e⟩ := (Fr.opn_iff (fun x hx => H.out.1 x (List.mem_of_mem_drop (List.mem_of_mem_take hx)))).mp hf
            have := congrArg List.length e
            rw [List.length_take, HDL.out, Fr.frame_length] at this
            have := HNr.out
            omega
          obtain rfl : mp = N := by omega
          obtain ⟨q1, q2, q3⟩ := Fr.cut_next H.out.1 (by rw [HN.out]; omega) HTK.out hfst
          rw [hpN] at q1 q2
          obtain ⟨z1, y2, z2, z3, a2, n2, b2⟩ := g1.parts
          have HO2 := HO.out.keep hb1
          have hlen : ps.length + 1 ≤ 9000000000000 := by
            have h1 := Fr.flat_length ps
            rw [← HTK.out, List.length_take, HN.out] at h1
            have := HM.out
            omega
          obtain ⟨v', w', hr, ho, _⟩ := HO2.append (c := c1) (n := mp) hpN.symm y2 a2 hlen (fun ad had _ e => by
            have h1 := (n2 ad had).1
            have h2 := HO.out.lt _ e
            have h3 : (wr.drewN nq).heap.size = wr.heap.size := rfl
            omega) 30
          obtain ⟨A', c', rfl⟩ := ho.form
          rw [show (ps ++ [p]).length = m + 1 by rw [List.length_append, HPS.out]; rfl] at hr ho
          have HR := Lib.hid hr
          have HOO := Lib.hid ho
          have Q2 := Lib.hid q2
          have Q3 := Lib.hid q3
          have hni : (k : Int) + 8 + (mp : Int) ≤ 1048576 := by have := HM.out; have := HNr.out; omega
          have Q1 : Hid (k + (8 + mp) ≤ k + r) := by have := HNr.out; show _ ≤ _; omega
          clear hr ho y2 a2 n2 b2 hb1 HO2 hlen z1 z2 z3 g1 q1 q2 q3 hpN hfst hf hmp
          go_wp2_with (at_builtin; refine wpList_append_run rfl _ _ 30 30 rfl _ _ rfl rfl _ w' HR.out ?_)
          go_roundw
          case rel => exact ⟨ps ++ [p], k + (8 + mp), A', m + 1, c', rfl, by rw [List.length_append, HPS.out]; rfl, by go_num, by rw [HN.out]; exact Q1.out, Q2.out, fun x hx => (List.mem_append.mp hx).elim (HGD.out x) (fun h => by simp at h; subst h; exact Q3.out), HOO.out⟩
          case measure => simp [intOf]; omega
end Go.Proofs.Ytlnblcgfgkkbhaa

/-
  The contract of the journal's read. Its conditions: the journal and its disk lie in memory, the disk isn't down and has that sector.
-/
import Derived.Test.YtppdckncnfffcaaJ4
namespace Go.Proofs.Ytppdckncnfffcaa
open Go.RowKit
set_option maxRecDepth 100000

set_option maxHeartbeats 4000000 in
theorem jread_any (g dg base k : Nat) (j : Jn) (d : Dk) (w : World) (hj : JBox w g dg j) (h : DiskAt w base dg d) (hd : d.down = false) (hk : k < d.K.length) :
    Calls Try.prog 43 #[.pointer (some ⟨g, 0, none⟩), .int .i64 (k : Int)] w fun r w' => r = .returned (secV (at_ (seen d.K d.ps) k)) ∧ Below w.heap.size w w' := by
  obtain ⟨b, hb⟩ : ∃ b, b = w.heap.size := ⟨_, rfl⟩
  obtain ⟨W, hW⟩ : ∃ W, W = (w.alloc (.cells (eSec.f zs).toArray 89)).alloc (.cells (eSec.f zs).toArray 89) := ⟨_, rfl⟩
  have hb2 : Below w.heap.size w W := by
    rw [hW]
    exact ((Below.refl _ w).alloc (Nat.le_refl _) _).alloc (by simp) _
  have n1 : By W b 89 zs.v := by
    rw [hW, hb]
    exact (by_new w zs 89).below (Below.alloc (Below.refl _ _) (Nat.le_refl _) _)
  have n2 : By W (b + 1) 89 zs.v := by
    have := by_new (w.alloc (.cells (eSec.f zs).toArray 89)) zs 89
    rw [World.size_alloc] at this
    rw [hW, hb]
    exact this
  have c0 := (hj.below hb2).c0
  obtain ⟨s, hs⟩ : ∃ s, s = at_ (seen d.K d.ps) k := ⟨_, rfl⟩
  have CR := read_any base dg d (k : Int) W (h.below hb2)
  have hh : has d (k : Int) = true := by simp [has, hk]
  have e1 : readR d (k : Int) = 0 := by simp [readR, hh, hd]
  have e2 : readL d (k : Int) = s.v := by simp [readL, hh, hd, hs]
  have CR2 : Hid (Calls Try.prog 36 #[.pointer (some ⟨dg, 0, none⟩), .int .i64 (k : Int)] W fun r w' => ∃ v, r = .returned (.tuple #[v, .int .i64 0]) ∧ OwnB w' W.heap.size v s.v ∧ Below W.heap.size W w') := by
    refine CR.mono ?_
    rintro r w' ⟨v, hv, ho, hbw⟩
    rw [e1] at hv
    rw [e2] at ho
    exact ⟨v, hv, ho, hbw⟩
  have HB2 := Lib.hid hb2
  have HN1 := Lib.hid n1
  have HN2 := Lib.hid n2
  rw [← hs]
  clear CR hh e1 e2 hs hk hd h hj hb2 n1 n2
  subst hW hb
  go_enter Try.func43, Try.ntmps43
  go_wp2_with (first | (refine wpList_value rfl (exec_alloc rfl (run_alloc89 _)) ?_))
  refine CR2.out.mono ?_
  rintro r w1 ⟨v, rfl, ho, hbw⟩
  obtain ⟨A, c, rfl, hsl, hA⟩ := ho.form
  rw [s.h]
  have n3 := HN2.out.below hbw
  have hg1 : w.heap.size ≤ w.heap.size + 1 := by omega
  obtain ⟨vc, w2, hcp, hx, hf⟩ := run_copy_by (o := 0) (dn := 64) (dc := 64) (n := 64) (c := c) (A := A) (base := w.heap.size) n3 hsl s.h hA (by decide) (by rw [zs.h]; decide) hg1 3
  have e3 : ovr zs.v 0 s.v = s.v := by
    unfold ovr
    rw [List.drop_of_length_le (by rw [s.h, zs.h]; decide)]
    simp
  rw [e3] at hx
  have m1 := (HN1.out.below hbw).fr hf (by simp) (by simp)
  have HCP := Lib.hid hcp
  have LD : Hid ((Instr.loadAt 89 (.pointer (some ⟨w.heap.size + 1, 0, none⟩))).run Try.prog w2 = .ok (secV s) w2) := load89 hx.range
  have ST : Hid ((Instr.storeAt 89 (.pointer (some ⟨w.heap.size, 0, none⟩)) (secV s)).run Try.prog w2 = .ok () (w2.setRow w.heap.size (eSec.f s).toArray)) := store89 m1 zs.h s
  have HR : Hid (By (w2.setRow w.heap.size (eSec.f s).toArray) w.heap.size 89 s.v) := m1.row s
  have HE : Hid (Below w.heap.size w (w2.setRow w.heap.size (eSec.f s).toArray)) :=
    (HB2.out.trans (hbw.mono HB2.out.size)).trans (hf.below.trans (by_row (l := []) (ms := [w.heap.size]) (Fr.refl _ _ _ _) m1 (.inr (by simp)) (Nat.le_refl _) s).below)
  clear hcp m1 hx hf n3 hsl hA ho hbw c0
  go_wp2_with (first
    | (refine wpList_value rfl (exec_copy rfl rfl rfl HCP.out) ?_)
    | (refine wpList_value rfl (exec_load rfl rfl LD.out) ?_)
    | (refine wpList_unit rfl (exec_store rfl rfl rfl ST.out) ?_))
  refine bodyPost_ret (ret89 (s := s) (t := 4) rfl rfl HR.out) rfl ?_
  exact ⟨rfl, HE.out⟩
end Go.Proofs.Ytppdckncnfffcaa

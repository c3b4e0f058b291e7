/-
  The contract of sectors: all that a disk has, as texts. Its condition: the disk lies in memory, and isn't down.
-/
import Derived.Test.YtppdckncnfffcaaN5
namespace Go.Proofs.Ytppdckncnfffcaa
open Go.RowKit
open Go.Sort (grow)
set_option maxRecDepth 100000

set_option maxHeartbeats 4000000 in
theorem sectors_any {w0 W : World} {g : Nat} {d : Dk} (s : St w0 W g d) (hd : d.down = false) :
    Calls Try.prog 13 #[.pointer (some ⟨g, 0, none⟩)] W fun r w' => ∃ v, r = .returned v ∧ RowT eKy 9 w' W.heap.size v ((seen d.K d.ps).map tx) ∧ Below W.heap.size W w' := by
  have HS := Lib.hid s
  have HD := Lib.hid hd
  obtain ⟨n, hn⟩ : ∃ n, n = d.K.length := ⟨_, rfl⟩
  have HN := Lib.hid hn
  have hn1 : n ≤ 4096 := by rw [hn]; exact s.dk.good.len
  have HN1 := Lib.hid hn1
  clear s hd hn hn1
  go_enter Try.func13, Try.ntmps13
  go_wp2_with fail
  go_loopw [3, 4] (fun s3 s4 wr => ∃ i : Nat, i ≤ n ∧ s4 = .int .i64 (i : Int) ∧ RowT eKy 9 wr W.heap.size s3 (((seen d.K d.ps).take i).map tx) ∧ Below W.heap.size W wr) (fun _ s _ => n - (intOf s).toNat)
  case atStart => exact ⟨0, Nat.zero_le _, rfl, by simpa using RowT.nil (E := eKy) W, Below.refl _ _⟩
  case round =>
    obtain ⟨i, hi, rfl, hr, hb⟩ := hrel
    have HB := Lib.hid hb
    have HR := Lib.hid hr
    have HI := Lib.hid hi
    have s1 := HS.out.below hb
    have CL := len_any w0.heap.size g d wr s1.dk
    rw [← HN.out] at CL
    have HCL := Lib.hid CL
    have HS1 := Lib.hid s1
    have hlen : (((seen d.K d.ps).take i).map tx).length = i := by rw [List.length_map, List.length_take, seen_length, ← HN.out]; omega
    obtain ⟨A, c, hv, -⟩ := hr.form
    rw [hlen] at hv
    subst hv
    have HLN := Lib.hid hlen
    have hi0 : (0 : Int) ≤ (i : Int) := by omega
    clear hr hb s1 CL hlen
    by_cases hlt : i < n
    · have hlti : (i : Int) < (n : Int) := by omega
      have HLT := Lib.hid hlt
      clear hi hlt
      go_wp2_with fail
      refine HCL.out.mono ?_
      rintro e w1 ⟨rfl, rfl⟩
      have HRD := Lib.hid (st_read HS1.out (i : Int))
      clear HCL
      go_wp2_with fail
      refine HRD.out.mono ?_
      rintro e w2 ⟨v, rfl, o2, s2, b2⟩
      have hiK : i < d.K.length := by rw [← HN.out]; exact HLT.out
      have hrl : readL d (i : Int) = (at_ (seen d.K d.ps) i).v := by
        have h1 : has d (i : Int) = true := by unfold has; simp; omega
        unfold readL
        rw [h1, HD.out]
        rfl
      rw [hrl] at o2
      have hl64 := (at_ (seen d.K d.ps) i).h
      obtain ⟨A2, c2, hv, sl2, -⟩ := o2.form
      rw [hl64] at hv
      subst hv
      have hcv := conv_by sl2 hl64 c2
      have hE : ((seen d.K d.ps).take (i + 1)).map tx = ((seen d.K d.ps).take i).map tx ++ [txt (at_ (seen d.K d.ps) i).v] := by
        have h2 := at_get (K := seen d.K d.ps) (i := i) (by rw [seen_length]; exact hiK)
        rw [List.take_add_one, h2]
        simp [tx]
      have HE := Lib.hid hE
      generalize txt (at_ (seen d.K d.ps) i).v = T at hcv HE
      have hb2 := HB.out.trans (b2.mono HB.out.size)
      have bA : Below w2.heap.size w2 (w2.alloc (.cells #[.string T] 9)) := (Below.refl _ _).alloc (Nat.le_refl _) _
      obtain ⟨va, W7, hrun, hrow7, hg7⟩ := ((HR.out.below b2).below bA).app el33 (Nat.le_trans hb2.size bA.size) (A := some ⟨w2.heap.size, 0, none⟩) (n := 1) (c := 1) (sl_one (E := eKy) w2 T 9) rfl (by simp) (by have := HLN.out; have := HLT.out; have := HN1.out; omega)
      have HW7 : Hid (Below W.heap.size W W7) := (hb2.trans (bA.mono hb2.size)).grown hg7 (Nat.le_trans hb2.size bA.size) (fun k hk => (((HR.out.below b2).below bA).own hk).1)
      have HR7 := Lib.hid hrow7
      have hib : (i : Int) ≤ 4096 := by have := HLT.out; have := HN1.out; omega
      clear o2 s2 b2 hiK hrl hl64 sl2 hE hb2 bA hrow7 hg7 HRD
      generalize readR d (i : Int) = rr
      go_wp2_with (refine wpList_append_run rfl _ _ _ _ rfl _ _ rfl rfl _ _ hrun ?_)
      go_roundw
      case rel => exact ⟨i + 1, HLT.out, by go_num, by rw [HE.out]; exact HR7.out, HW7.out⟩
      case measure => simp [intOf]; have := HLT.out; omega
    · have hin : i = n := by omega
      subst hin
      have hlti : ¬ (i : Int) < (i : Int) := by omega
      have he : (seen d.K d.ps).take i = seen d.K d.ps := List.take_of_length_le (by rw [seen_length, ← HN.out]; exact Nat.le_refl _)
      rw [he] at HR
      clear hlt he hi
      go_wp2_with fail
      refine HCL.out.mono ?_
      rintro e w1 ⟨rfl, rfl⟩
      go_wp2_with fail
      go_ret
      exact ⟨_, rfl, HR.out, HB.out⟩
end Go.Proofs.Ytppdckncnfffcaa

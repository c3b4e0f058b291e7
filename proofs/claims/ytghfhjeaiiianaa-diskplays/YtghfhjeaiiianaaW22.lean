/-
  The contract of the document's New. Its condition: there are 1 to 4096 sectors.
-/
import Derived.Test.YtghfhjeaiiianaaW21
namespace Go.Proofs.Ytghfhjeaiiianaa
open Go.RowKit
open Go.Sort (grow)

def zt (k : Nat) : ByteArray := txt (List.replicate k 0)
theorem zt_size (k : Nat) : (zt k).size = k := by simp [zt, txt, ByteArray.size]
theorem zt_succ (k : Nat) : zt k ++ ⟨#[0]⟩ = zt (k + 1) := by
  unfold zt txt
  rw [List.replicate_succ']
  ext1
  simp
  rw [← Array.toList_inj]
  simp
/-- What a round of the document's New does to memory. -/
theorem rnew_mem {w : World} {base h : Nat} {kv sv av wv : Value} {fuse steps : Int} {down : Bool} {L : List ByteArray} (x : ByteArray)
    (b : RBox w h kv sv av wv fuse down steps) (rk : RowT eKy 9 w base kv L) (rs : RowT eKy 9 w base sv L) (ap : Apart kv sv) (hbh : base ≤ h) (hl : L.length ≤ 5000) :
    ∃ A c n w3 A' c' w6, (Builtin.append_ #[44, 44] 44 #[kv, .slice (some ⟨w.heap.size, 0, none⟩) 1 1]).run Try.prog (w.alloc (.cells #[.string x] 9)) = .ok (.slice A n c) w3 ∧
      (Builtin.append_ #[44, 44] 44 #[sv, .slice (some ⟨w3.heap.size, 0, none⟩) 1 1]).run Try.prog ((w3.setCell ⟨h, 0, none⟩ (.slice A n c)).alloc (.cells #[.string x] 9)) = .ok (.slice A' n c') w6 ∧
      w3.frozen? ⟨h, 0, none⟩ = false ∧ w3.cell? ⟨h, 0, none⟩ = some kv ∧ (w3.setCell ⟨h, 0, none⟩ (.slice A n c)).cell? ⟨h, 1, none⟩ = some sv ∧ w6.cell? ⟨h, 1, none⟩ = some sv ∧ w6.frozen? ⟨h, 1, none⟩ = false ∧
      RBox (w6.setCell ⟨h, 1, none⟩ (.slice A' n c')) h (.slice A n c) (.slice A' n c') av wv fuse down steps ∧
      RowT eKy 9 (w6.setCell ⟨h, 1, none⟩ (.slice A' n c')) base (.slice A n c) (L ++ [x]) ∧ RowT eKy 9 (w6.setCell ⟨h, 1, none⟩ (.slice A' n c')) base (.slice A' n c') (L ++ [x]) ∧ Apart (.slice A n c) (.slice A' n c') ∧
      Below base w (w6.setCell ⟨h, 1, none⟩ (.slice A' n c')) := by
  have hbl : base ≤ w.heap.size := by have := b.lt; omega
  have b2 : Below w.heap.size w (w.alloc (.cells #[.string x] 9)) := Below.alloc (Below.refl _ _) (Nat.le_refl _) _
  have x2 := b.below b2
  have hb2 : base ≤ (w.alloc (.cells #[.string x] 9)).heap.size := Nat.le_trans hbl b2.size
  obtain ⟨kv', w3, hr3, rk3, g3, o3⟩ := (rk.below b2).app_own el44 hb2 (sl_one (E := eKy) w x 9) (n := 1) (c := 1) rfl (fun h => by cases h) (by omega)
  have f3 := (rk.below b2).fr_app g3 hb2
  have rs3 := (rs.below b2).past g3 ap.symm
  have a3 : Apart kv' sv := Apart.of ap (rs.below b2).lt o3
  obtain ⟨A, c, hkv⟩ := rk3.len
  obtain ⟨n, hn⟩ : ∃ n, n = (L ++ [x]).length := ⟨_, rfl⟩
  rw [← hn] at hkv
  subst hkv
  have x3 : RBox w3 h kv sv av wv fuse down steps := f3.keep h _ x2 (by simp [kd]) (by simp)
  have f4 : Fr [47] [] base w3 (w3.setCell ⟨h, 0, none⟩ (.slice A n c)) := (Fr.refl _ _ _ _).set x3 (.inl (by simp [kd])) hbh _
  have x4 := x3.set0 (.slice A n c)
  have rk4 := rk3.fr f4 (by simp) (by simp)
  have rs4 := rs3.fr f4 (by simp) (by simp)
  have e4 : w3.heap.size = (w3.setCell ⟨h, 0, none⟩ (.slice A n c)).heap.size := by simp [World.setCell]
  generalize hw4 : w3.setCell ⟨h, 0, none⟩ (.slice A n c) = w4 at *
  have b5 : Below w4.heap.size w4 (w4.alloc (.cells #[.string x] 9)) := Below.alloc (Below.refl _ _) (Nat.le_refl _) _
  have hbl4 : base ≤ w4.heap.size := Nat.le_trans (Nat.le_trans hb2 f3.size) f4.size
  have hb5 : base ≤ (w4.alloc (.cells #[.string x] 9)).heap.size := Nat.le_trans hbl4 b5.size
  obtain ⟨sv', w6, hr6, rs6, g6, o6⟩ := (rs4.below b5).app_own el44 hb5 (sl_one (E := eKy) w4 x 9) (n := 1) (c := 1) rfl (fun h => by cases h) (by omega)
  have f6 := (rs4.below b5).fr_app g6 hb5
  rw [← e4] at hr6
  have rk6 := (rk4.below b5).past g6 a3
  have a6 : Apart sv' (.slice A n c) := Apart.of a3.symm (rk4.below b5).lt o6
  obtain ⟨A', c', hsv⟩ := rs6.len
  rw [← hn] at hsv
  subst hsv
  have x6 : RBox w6 h (.slice A n c) sv av wv fuse down steps := f6.keep h _ (x4.below b5) (by simp [kd]) (by simp)
  have f7 : Fr [47] [] base w6 (w6.setCell ⟨h, 1, none⟩ (.slice A' n c')) := (Fr.refl _ _ _ _).set x6 (.inl (by simp [kd])) hbh _
  subst hw4
  exact ⟨A, c, n, w3, A', c', w6, hr3, hr6, x3.frozen 0, x3.c0, x4.c1, x6.c1, x6.frozen 1, x6.set1 _, rk6.fr f7 (by simp) (by simp), rs6.fr f7 (by simp) (by simp), a6.symm,
    ((((b2.mono hbl).trans f3.below).trans f4.below).trans (b5.mono hbl4)).trans (f6.below.trans f7.below)⟩
def szOf : Value → Nat
  | .string b => b.size
  | _ => 0
theorem tx_zs : tx zs = zt 64 := rfl
theorem seen_nil' (K : List Sec) : seen K [] = K := rfl
set_option maxHeartbeats 4000000 in
theorem rnew_any (n : Nat) (h1 : n ≤ 4096) (w : World) : Calls Try.prog 16 #[.int .i64 (n : Int)] w fun e w' => ∃ h, e = .returned (.pointer (some ⟨h, 0, none⟩)) ∧ RefAt w' w.heap.size h (newD n) ∧ Below w.heap.size w w' := by
  have HN := Lib.hid h1
  clear h1
  go_enter Try.func16, Try.ntmps16
  go_wp2
  generalize hw0 : w.alloc _ = w0
  have B0 : Hid (Below w.heap.size w w0) := by rw [← hw0]; exact Below.alloc (Below.refl _ _) (Nat.le_refl _) _
  have X0 : Hid (RBox w0 w.heap.size (.slice none 0 0) (.slice none 0 0) (.slice none 0 0) (.slice none 0 0) (-1) false 0) := by rw [← hw0]; exact heap_new _ _
  clear hw0
  go_loopw [4] (fun s4 wr => ∃ k : Nat, k ≤ 64 ∧ s4 = .string (zt k) ∧ wr = w0) (fun s _ => 64 - szOf s)
  case atStart => exact ⟨0, Nat.zero_le _, rfl, rfl⟩
  case round =>
    obtain ⟨k, hk, rfl, rfl⟩ := hrel
    have hz := zt_size k
    by_cases hlt : k < 64
    · have hlti : ((zt k).size : Int) < 64 := by omega
      have HK : Hid (k + 1 ≤ 64) := hlt
      clear hk hlt hz
      go_wp2
      go_roundw
      case rel => exact ⟨k + 1, HK.out, by rw [← zt_succ], trivial⟩
      case measure =>
        show 64 - (zt k ++ ⟨#[0]⟩ : ByteArray).size < 64 - (zt k).size
        rw [zt_succ, zt_size, zt_size]
        have := HK.out
        omega
    · have hk64 : k = 64 := by omega
      subst hk64
      have hlti : ¬ ((zt 64).size : Int) < 64 := by omega
      clear hz hlt hk
      go_wp2
      clear hlti
      go_loopw [5] (fun s5 wr => ∃ (i : Nat) (kv sv : Value), i ≤ n ∧ s5 = .int .i64 (i : Int) ∧ RBox wr w.heap.size kv sv (.slice none 0 0) (.slice none 0 0) (-1) false 0 ∧ RowT eKy 9 wr w.heap.size kv (List.replicate i (zt 64)) ∧ RowT eKy 9 wr w.heap.size sv (List.replicate i (zt 64)) ∧ Apart kv sv ∧ Below w.heap.size w wr) (fun s _ => n - (intOf s).toNat)
      case atStart => exact ⟨0, _, _, Nat.zero_le _, rfl, X0.out, RowT.nil _, RowT.nil _, apart_nil _, B0.out⟩
      case round =>
        obtain ⟨i, kv, sv, hi, rfl, b, rk, rs, ap, hb⟩ := hrel
        by_cases hlt : i < n
        · have hlti : (i : Int) < (n : Int) := by omega
          obtain ⟨A, c, m, w3, A', c', w6, hr3, hr6, z3, y3, y4, y6, z6, x7, rk7, rs7, a7, b7⟩ := rnew_mem (zt 64) b rk rs ap (Nat.le_refl _) (by have := HN.out; rw [List.length_replicate]; omega)
          have c0 := b.c0
          rw [← List.replicate_succ'] at rk7 rs7
          have HE := Lib.hid (And.intro x7 (And.intro rk7 (And.intro rs7 (And.intro a7 (hb.trans b7)))))
          have HR3 := Lib.hid hr3
          have HR6 := Lib.hid hr6
          have HK : Hid (i + 1 ≤ n) := hlt
          have hw : IntKind.i64.wrap ((i : Int) + 1) = ((i + 1 : Nat) : Int) := by rw [IntWalk.i64_in _ (by have := HN.out; omega)]; omega
          clear b rk rs ap hb hr3 hr6 x7 rk7 rs7 a7 b7 hlt hi
          go_wp2_with (first
            | (at_builtin; refine wpList_append_run rfl (.tmp 22) (.tmp 24) 44 44 rfl _ _ rfl rfl _ _ HR3.out ?_)
            | (at_builtin; refine wpList_append_run rfl (.tmp 32) (.tmp 34) 44 44 rfl _ _ rfl rfl _ _ HR6.out ?_))
          go_roundw
          case rel => exact ⟨i + 1, _, _, HK.out, by go_num, HE.out.1, HE.out.2.1, HE.out.2.2.1, HE.out.2.2.2.1, HE.out.2.2.2.2⟩
          case measure => simp [intOf]; omega
        · have hin : i = n := by omega
          subst hin
          have hlti : ¬ (i : Int) < (i : Int) := by omega
          have HE : Hid (RefAt wr w.heap.size w.heap.size (newD i) ∧ Below w.heap.size w wr) :=
            ⟨⟨⟨kv, sv, _, _, b, ⟨by simpa [newD, tx_zs] using rk, by simpa [newD, seen_nil', tx_zs] using rs, RowT.nil _, RowT.nil _, ap, (apart_nil _).symm, (apart_nil _).symm⟩⟩, Nat.le_refl _, newD_good HN.out⟩, hb⟩
          clear b rk rs ap hb hlt hi
          go_wp2
          go_ret
          exact ⟨_, rfl, HE.out⟩
end Go.Proofs.Ytghfhjeaiiianaa

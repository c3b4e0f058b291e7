/-
  Texts of bytes. The contracts of the document's Number and Bytes. Their conditions: a number is of at most four bytes.
-/
import Derived.Test.YtppdckncnfffcaaN1
namespace Go.Proofs.Ytppdckncnfffcaa
open Go.RowKit
set_option maxRecDepth 100000

def tx (s : Sec) : ByteArray := txt s.v
theorem txt_size (l : List UInt8) : (txt l).size = l.length := by simp [txt, ByteArray.size]
theorem tx_size (s : Sec) : (tx s).size = 64 := by
  have := s.h
  simpa [tx, txt, ByteArray.size] using this
theorem txt_append (l m : List UInt8) : txt l ++ txt m = txt (l ++ m) := by
  unfold txt
  ext1
  simp
theorem txt_extract (l : List UInt8) (a b : Nat) : (txt l).extract a b = txt ((l.drop a).take (b - a)) := by
  unfold txt
  ext1
  simp
theorem txt_get (l : List UInt8) (k : Nat) (_h : k < l.length) (h' : k < (txt l).size) : (txt l)[k]'h' = l[k] := by
  simp only [txt, ByteArray.getElem_eq_getElem_data]
  exact List.getElem_toArray _
theorem num_take (l : List UInt8) (k : Nat) (h : k < l.length) : num (l.take (k + 1)) = num (l.take k) * 256 + (l[k]).toNat := by
  rw [List.take_succ_eq_append_getElem h, num_snoc]
theorem num_small (l : List UInt8) (h : l.length ≤ 4) : num l < 4294967296 := by
  have h1 := num_lt l
  have h2 : 256 ^ l.length ≤ 256 ^ 4 := Nat.pow_le_pow_right (by omega) h
  have h3 : (256 : Nat) ^ 4 = 4294967296 := rfl
  omega
set_option maxHeartbeats 1000000 in
/-- The document's Number. -/
theorem refnum_any (l : List UInt8) (w : World) (h : l.length ≤ 4) : Calls Try.prog 34 #[.string (txt l)] w fun r w' => r = .returned (.int .i64 (num l : Int)) ∧ w = w' := by
  have HL := Lib.hid h
  have hs := txt_size l
  obtain ⟨n, hn⟩ : ∃ n, n = l.length := ⟨_, rfl⟩
  rw [← hn] at hs
  have HN := Lib.hid hn
  have hn4 : n ≤ 4 := by omega
  obtain ⟨T, hT⟩ : ∃ T, T = txt l := ⟨_, rfl⟩
  have HT := Lib.hid hT
  rw [← hT] at hs ⊢
  clear h hn hT
  go_enter Try.func34, Try.ntmps34
  go_wp2
  go_loopw [3, 4] (fun s3 s4 wr => ∃ k : Nat, k ≤ n ∧ s3 = .int .i64 (num (l.take k) : Int) ∧ s4 = .int .i64 (k : Int) ∧ w = wr) (fun _ s _ => n - (intOf s).toNat)
  case atStart => exact ⟨0, Nat.zero_le _, rfl, rfl, rfl⟩
  case round =>
    obtain ⟨k, hk, rfl, rfl, rfl⟩ := hrel
    by_cases hlt : k < n
    · have hkl : k < l.length := by rw [← HN.out]; exact hlt
      have hlti : (k : Int) < (T.size : Int) := by rw [hs]; omega
      have hlt2 : k < T.size := by rw [hs]; exact hlt
      have e := num_take l k hkl
      have hk4 : (l.take k).length ≤ 3 := by rw [List.length_take]; omega
      have hb : num (l.take k) < 16777216 := by
        have h1 := num_lt (l.take k)
        have h2 : 256 ^ (l.take k).length ≤ 256 ^ 3 := Nat.pow_le_pow_right (by omega) hk4
        have h3 : (256 : Nat) ^ 3 = 16777216 := rfl
        omega
      have hg : (T[k]'hlt2) = l[k] := by have := HT.out; subst this; exact txt_get l k hkl _
      have hx := UInt8.toNat_lt l[k]
      generalize l[k] = x at e hg hx
      generalize num (List.take k l) = y at e hb ⊢
      have hgi : (T[k]'hlt2).toNat = x.toNat := by rw [hg]
      obtain ⟨z, hz⟩ : ∃ z, z = num (List.take (k + 1) l) := ⟨_, rfl⟩
      rw [← hz] at e
      have HZ := Lib.hid hz
      have HE : Hid ((z : Int) = (y : Int) * 256 + (x.toNat : Int)) := by show _ = _; omega
      have hx2 : (x.toNat : Int) < 256 := by omega
      have hx0 : (0 : Int) ≤ (x.toNat : Int) := by omega
      have hk0 : (0 : Int) ≤ (k : Int) := by omega
      have hy0 : (0 : Int) ≤ (y : Int) := by omega
      have HK : Hid (k + 1 ≤ n) := hlt
      have hyb : (y : Int) < 16777216 := by omega
      have hw1 : IntKind.i64.wrap ((y : Int) * 256) = (y : Int) * 256 := IntWalk.i64_in _ (by omega)
      have hw2 : IntKind.i64.wrap ((y : Int) * 256 + (x.toNat : Int)) = (y : Int) * 256 + (x.toNat : Int) := IntWalk.i64_in _ (by omega)
      have hkn : (k : Int) < (n : Int) := by omega
      clear e hz hk hlt hkl hk4 hb hg hx
      go_wp2
      go_roundw
      case rel => exact ⟨k + 1, HK.out, by rw [← HZ.out, HE.out], by go_num, trivial⟩
      case measure => simp [intOf]; have := HK.out; omega
    · have hkn : k = n := by omega
      have hlti : ¬ (k : Int) < (T.size : Int) := by rw [hs]; omega
      have he : l.take k = l := List.take_of_length_le (by rw [← HN.out]; omega)
      rw [he]
      clear hkn hlt hk he
      go_wp2
      go_ret
      exact ⟨rfl, rfl⟩
theorem made_by (m : Nat) : madeCells (Value.int IntKind.u8 0).cells m = (bv (List.replicate m 0)).toArray := by
  apply Array.ext
  · simp [madeCells, bv]
  · intro i h1 h2
    simp [madeCells, bv, Value.cells, Nat.mod_one]
theorem make_by (m : Nat) (hm : m ≤ 100) (w : World) : (Instr.makeSlice 38 (.int .i64 (m : Int)) (.int .i64 (m : Int))).run Try.prog w = .ok (.slice (some ⟨w.heap.size, 0, none⟩) m m) (w.alloc (.cells (bv (List.replicate m 0)).toArray 5)) := by
  obtain ⟨i, hi, hz0, hz1, hz2⟩ := info_parts (P := Try.prog) (e := 5) (z := .int .u8 0) (size := 1) (bytes := 1) (by kernel_rfl)
  have hr := run_make (P := Try.prog) w 38 5 i (.int .u8 0) Try.underlying38 hi hz0 .i64 .i64 (m : Int) (m : Int) (by omega) (Int.le_refl _) (by rw [hz2]; omega) (by omega)
  rw [hz1, Int.toNat_natCast, Nat.mul_one, made_by] at hr
  exact hr
theorem own_made (m : Nat) (hm : m ≤ 100) (w : World) : OwnB (w.alloc (.cells (bv (List.replicate m 0)).toArray 5)) w.heap.size (.slice (some ⟨w.heap.size, 0, none⟩) m m) (List.replicate m 0) := by
  refine .inr ⟨w.heap.size, 5, _, m, by rw [List.length_replicate], heap_new _ _, ?_, Nat.le_refl _, by rw [List.length_replicate]; unfold maxLen; omega, by rw [List.length_replicate]; exact Nat.le_refl _⟩
  rw [List.length_replicate]
  exact List.take_of_length_le (by rw [bv_length, List.length_replicate]; exact Nat.le_refl _)
theorem dig_cons (m n : Nat) : dig (m + 1) n = UInt8.ofNat (n / 256 ^ m % 256) :: dig m n := by
  induction m generalizing n with
  | zero => simp [dig]
  | succ m ih =>
    rw [dig, ih (n / 256), Nat.div_div_eq_div_mul, Nat.pow_succ, Nat.mul_comm 256]
    rfl
theorem dig_set (k j n : Nat) : (List.replicate (k + 1) 0 ++ dig j n).set k (UInt8.ofNat (n / 256 ^ j % 256)) = List.replicate k 0 ++ dig (j + 1) n := by
  rw [dig_cons, List.replicate_succ', List.append_assoc, List.set_append_right _ _ (by simp)]
  simp
theorem ownB_set {w : World} {base q n c : Nat} {l : List UInt8} (h : OwnB w base (.slice (some ⟨q, 0, none⟩) n c) l) (hl : l.length = n) {k : Nat} (hk : k < n) (x : UInt8) :
    OwnB (w.setCell ⟨q, k, none⟩ (.int .u8 (x.toNat : Int))) base (.slice (some ⟨q, 0, none⟩) n c) (l.set k x) ∧ w.frozen? ⟨q, k, none⟩ = false ∧ w.cell? ⟨q, k, none⟩ = some (.int .u8 ((l.getD k 0).toNat : Int)) := by
  subst hl
  obtain ⟨a, b, _⟩ := h.set k x
  refine ⟨a, b, ?_⟩
  obtain ⟨A', c', hv, sl, -⟩ := h.form
  simp only [Value.slice.injEq] at hv
  obtain ⟨rfl, -, rfl⟩ := hv
  obtain ⟨b, off, hA, -, hc⟩ := at_by sl hk
  simp only [Option.some.injEq, Addr.mk.injEq, and_true] at hA
  obtain ⟨rfl, rfl⟩ := hA
  rw [Nat.zero_add] at hc
  rw [hc, List.getD_eq_getElem?_getD, List.getElem?_eq_getElem hk]
  rfl
set_option maxHeartbeats 4000000 in
/-- The document's Bytes. -/
theorem refbytes_any (n m : Nat) (w : World) (hn : n < 9223372036854775807) (hm : m ≤ 100) : Calls Try.prog 37 #[.int .i64 (n : Int), .int .i64 (m : Int)] w fun r w' => r = .returned (.string (txt (dig m n))) ∧ Below w.heap.size w w' := by
  have HM := Lib.hid hm
  have HN := Lib.hid hn
  have hmk := make_by m hm w
  have hom := Lib.hid (own_made m hm w)
  have hb0 : Hid (Below w.heap.size w (w.alloc (.cells (bv (List.replicate m 0)).toArray 5))) := Below.alloc (Below.refl _ _) (Nat.le_refl _) _
  generalize w.alloc (.cells (bv (List.replicate m 0)).toArray 5) = w1 at hmk hom hb0
  obtain ⟨q, hq⟩ : ∃ q, q = w.heap.size := ⟨_, rfl⟩
  rw [← hq] at hmk hom
  have HQ := Lib.hid hq
  have hw1 : IntKind.i64.wrap ((m : Int) - 1) = (m : Int) - 1 := IntWalk.i64_in _ (by omega)
  have hm100 : (m : Int) ≤ 100 := by omega
  clear hq hn hm
  go_enter Try.func37, Try.ntmps37
  go_wp2_with (refine wpList_value rfl (exec_make rfl rfl rfl hmk) ?_)
  clear hmk hw1
  go_loopw [0, 6] (fun s0 s6 wr => ∃ k : Nat, k ≤ m ∧ s0 = .int .i64 ((n / 256 ^ (m - k) : Nat) : Int) ∧ s6 = .int .i64 ((k : Int) - 1) ∧ OwnB wr q (.slice (some ⟨q, 0, none⟩) m m) (List.replicate k 0 ++ dig (m - k) n) ∧ Below w.heap.size w wr) (fun _ s _ => (intOf s + 1).toNat)
  case atStart => exact ⟨m, Nat.le_refl _, by simp, rfl, by simpa [dig] using hom.out, hb0.out⟩
  case round =>
    obtain ⟨k, hk, rfl, rfl, ho, hb⟩ := hrel
    have HB := Lib.hid hb
    have HO := Lib.hid ho
    cases k with
    | zero =>
      have hl : (List.replicate 0 0 ++ dig (m - 0) n).length = m := by simp [dig_length]
      obtain ⟨A', c', hv, sl, _⟩ := ho.form
      rw [hl] at hv
      injection hv with e1 e2 e3
      subst e1 e3
      have hcv : (convert 38 9 (.slice (some ⟨q, 0, none⟩) m m)).run Try.prog wr = .ok (.string (txt (dig m n))) wr := by
        have := conv_by sl hl m
        simpa using this
      obtain ⟨T, hT⟩ : ∃ T, T = txt (dig m n) := ⟨_, rfl⟩
      rw [← hT] at hcv
      have HT := Lib.hid hT
      clear hT hb ho hl sl e2 hk
      go_wp2_with fail
      go_ret
      exact ⟨by rw [← HT.out]; rfl, HB.out⟩
    | succ k =>
      have hl : (List.replicate (k + 1) 0 ++ dig (m - (k + 1)) n).length = m := by simp [dig_length]; omega
      obtain ⟨y, hy⟩ : ∃ y, y = n / 256 ^ (m - (k + 1)) := ⟨_, rfl⟩
      rw [← hy]
      have hyn : y ≤ n := by rw [hy]; exact Nat.div_le_self _ _
      have hxx := dig_set k (m - (k + 1)) n
      rw [← hy] at hxx
      have hk' : k < m := by omega
      obtain ⟨o2, hfz, hcl⟩ := ownB_set ho hl hk' (UInt8.ofNat (y % 256))
      generalize ((List.replicate (k + 1) 0 ++ dig (m - (k + 1)) n).getD k 0).toNat = oldv at hcl
      rw [hxx, show m - (k + 1) + 1 = m - k by omega] at o2
      have hxn : ((UInt8.ofNat (y % 256)).toNat : Int) = (y : Int) % 256 := by
        have : (UInt8.ofNat (y % 256)).toNat = y % 256 := by simp
        rw [this]
        omega
      rw [hxn] at o2
      have hy2 : y / 256 = n / 256 ^ (m - k) := by rw [hy, Nat.div_div_eq_div_mul, show m - k = (m - (k + 1)) + 1 by omega, Nat.pow_succ]
      have hyb : (y : Int) < 9223372036854775807 := by have := HN.out; omega
      have HY2 : Hid (wrap64 ((y : Int) / 256) = ((n / 256 ^ (m - k) : Nat) : Int)) := by
        show _ = _
        rw [← hy2]
        have e : wrap64 ((y : Int) / 256) = (y : Int) / 256 := by unfold wrap64; omega
        rw [e]
        omega
      have HO2 := Lib.hid o2
      have HB2 : Hid (Below w.heap.size w (wr.setCell ⟨q, k, none⟩ (.int .u8 ((y : Int) % 256)))) := HB.out.setCell (by rw [← HQ.out]; exact Nat.le_refl _) _
      have HKM : Hid (k ≤ m) := by show _ ≤ _; omega
      have hkm : (k : Int) < (m : Int) := by omega
      have hk0 : (0 : Int) ≤ (k : Int) := by omega
      have hk1 : (((k + 1 : Nat) : Int) - 1) = (k : Int) := by omega
      rw [hk1]
      have hwk : IntKind.i64.wrap ((k : Int) - 1) = (k : Int) - 1 := IntWalk.i64_in _ (by omega)
      clear ho hb o2 hl hy hyn hxx hxn hy2 hk hk1 hk' hyb
      go_wp2_with fail
      go_roundw
      case rel => exact ⟨k, HKM.out, by rw [HY2.out], rfl, HO2.out, HB2.out⟩
      case measure => simp [intOf]
end Go.Proofs.Ytppdckncnfffcaa

/-
  Rows of texts: the contracts of size, texts and same. Their conditions: the slices lie in memory.
-/
import Derived.Test.YtppdckncnfffcaaG2
namespace Go.Proofs.Ytppdckncnfffcaa
open Go.RowKit
set_option maxRecDepth 100000

/-- A text's cell. -/
def eKy : Enc ByteArray := ⟨fun x => [.string x], 1, fun _ => rfl, fun x v hv => by simp at hv; subst hv; rfl, by decide⟩
theorem el33 : El eKy 33 9 := ⟨Try.underlying33, .string ⟨#[]⟩, 16, by kernel_rfl, rfl, by decide⟩
theorem at_ky {w : World} {A : Option Addr} {l : List ByteArray} (h : Sl eKy w A l) {k : Nat} (hk : k < l.length) : ∃ b off, A = some ⟨b, off, none⟩ ∧ b < w.heap.size ∧ w.cell? ⟨b, off + k, none⟩ = some (.string l[k]) := by
  obtain ⟨b, off, hA, hb, hc⟩ := h.at_ hk
  have := hc 0 _ rfl
  rw [show eKy.wd = 1 from rfl, Nat.mul_one] at this
  exact ⟨b, off, hA, hb, this⟩
theorem toList_eq {a b : ByteArray} (h : a = b) : (a.toList == b.toList) = true := by subst h; exact beq_self_eq_true _
theorem toList_data (s : ByteArray) : s.toList = s.data.toList := by
  have loop : ∀ (n i : Nat) (r : List UInt8), s.size - i = n → ByteArray.toList.loop s i r = r.reverse ++ s.data.toList.drop i := by
    intro n
    induction n with
    | zero =>
      intro i r h
      unfold ByteArray.toList.loop
      have hs : s.size = s.data.toList.length := Array.length_toList.symm
      rw [if_neg (by omega), List.drop_of_length_le (by omega), List.append_nil]
    | succ n ih =>
      intro i r h
      unfold ByteArray.toList.loop
      have hs : s.size = s.data.toList.length := Array.length_toList.symm
      have hi : i < s.data.toList.length := by omega
      rw [if_pos (by omega), ih _ _ (by omega), List.drop_eq_getElem_cons hi]
      simp [ByteArray.get!, Array.getElem!_eq_getD, Array.getD]
      rw [dif_pos (by omega)]
  unfold ByteArray.toList
  rw [loop _ 0 [] rfl]
  simp
theorem toList_inj {a b : ByteArray} (h : a.toList = b.toList) : a = b := by
  rw [toList_data, toList_data] at h
  exact ByteArray.ext (Array.toList_inj.mp h)
theorem toList_ne {a b : ByteArray} (h : ¬ a = b) : (a.toList == b.toList) = false := by
  rw [beq_eq_false_iff_ne]
  intro e
  exact h (toList_inj e)
theorem mask_i64 (a : Int) (m : Nat) (hm : m ≤ 255) : ∃ r : Nat, bits .and .i64 a (m : Int) = (r : Int) ∧ r ≤ m := by
  have h2 : (BitVec.ofInt 64 (m : Int)).toNat = m := by
    rw [BitVec.ofInt_natCast, BitVec.toNat_ofNat]; exact Nat.mod_eq_of_lt (by omega)
  have hx : (BitVec.ofInt 64 a &&& BitVec.ofInt 64 (m : Int)).toNat ≤ m := by
    rw [BitVec.toNat_and, h2]
    exact Nat.and_le_right
  refine ⟨(BitVec.ofInt 64 a &&& BitVec.ofInt 64 (m : Int)).toNat, ?_, hx⟩
  show IntKind.i64.wrap ((BitVec.ofInt 64 a &&& BitVec.ofInt 64 (m : Int)).toNat : Int) = _
  exact IntWalk.i64_in _ (by omega)
theorem size_any (a : Int) : ∃ N : Nat, 4 ≤ N ∧ N ≤ 35 ∧ ∀ w : World, Calls Try.prog 10 #[.int .i64 a] w fun r w' => r = .returned (.int .i64 (N : Int)) ∧ w = w' := by
  obtain ⟨q, hm', hq⟩ := mask_i64 a 31 (by omega)
  have hm : bits .and .i64 a 31 = (q : Int) := hm'
  refine ⟨4 + q, by omega, by omega, fun w => ?_⟩
  have hw : IntKind.i64.wrap (4 + (q : Int)) = ((4 + q : Nat) : Int) := by rw [IntWalk.i64_in _ (by omega)]; omega
  clear hm'
  go_enter Try.func10, Try.ntmps10
  go_wp2
  go_ret
  exact ⟨rfl, rfl⟩
theorem take_ext {l m : List ByteArray} {k : Nat} (h1 : k < l.length) (h2 : k < m.length) (h : l.take k = m.take k) (e : l[k] = m[k]) : l.take (k + 1) = m.take (k + 1) := by
  rw [List.take_succ_eq_append_getElem h1, List.take_succ_eq_append_getElem h2, h, e]
set_option maxHeartbeats 4000000 in
theorem same_any (l m : List ByteArray) (A B : Option Addr) (n c p d : Nat) (w : World) (hl : Sl eKy w A l) (hm : Sl eKy w B m) (hn : l.length = n) (hp : m.length = p) (h8 : n ≤ 100000) :
    Calls Try.prog 22 #[.slice A n c, .slice B p d] w fun r w' => r = .returned (.bool (decide (l = m))) ∧ Below w.heap.size w w' := by
  have hnI : (n : Int) ≤ 100000 := by omega
  have HL := Lib.hid hl
  have HM := Lib.hid hm
  have HN := Lib.hid hn
  have HP := Lib.hid hp
  clear hl hm hn hp h8
  by_cases e : n = p
  · subst e
    obtain ⟨bb, hbb⟩ : ∃ bb, bb = decide (l = m) := ⟨_, rfl⟩
    rw [← hbb]
    have HB := Lib.hid hbb
    clear hbb
    go_enter Try.func22, Try.ntmps22
    go_wp2
    go_loopw [13] (fun s5 wr => ∃ k : Nat, k ≤ n ∧ s5 = .int .i64 (k : Int) ∧ l.take k = m.take k ∧ Below w.heap.size w wr) (fun i _ => n - (intOf i).toNat)
    case atStart => exact ⟨0, Nat.zero_le _, rfl, by simp, Below.refl _ _⟩
    case round =>
      obtain ⟨k, hk, rfl, ht, hb⟩ := hrel
      have HT := Lib.hid ht
      have HW := Lib.hid hb
      clear ht hb
      by_cases hlt : k < n
      · have hkl : k < l.length := by rw [HN.out]; exact hlt
        have hkm : k < m.length := by rw [HP.out]; exact hlt
        obtain ⟨b1, o1, rfl, _, d0⟩ := at_ky (HL.out.below (Nat.le_refl _) HW.out) hkl
        obtain ⟨b2, o2, rfl, _, d1⟩ := at_ky (HM.out.below (Nat.le_refl _) HW.out) hkm
        have HE := Lib.hid (take_ext hkl hkm HT.out)
        have HF : Hid (l = m → l[k] = m[k]) := by
          intro e
          subst e
          rfl
        generalize l[k] = x at d0 HE HF
        generalize m[k] = y at d1 HE HF
        have hlti : (k : Int) < (n : Int) := by omega
        have hk0 : (0 : Int) ≤ (k : Int) := by omega
        have HK : Hid (k + 1 ≤ n) := hlt
        clear hkl hkm hlt hk
        by_cases hxy : x = y
        · have he := toList_eq hxy
          have he2 : (x.toList != y.toList) = false := by rw [bne, he]; rfl
          have HX := Lib.hid (HE.out hxy)
          clear hxy HE HF
          go_wp2_with fail
          go_quiet (fail)
          go_wp2
          go_roundw
          case rel => exact ⟨k + 1, HK.out, by go_num, HX.out, HW.out.trans ((below_drewN _ _).mono HW.out.size)⟩
          case measure => simp [intOf]; omega
        · have he := toList_ne hxy
          have he2 : (x.toList != y.toList) = true := by rw [bne, he]; rfl
          have HX : Hid (bb = false) := by
            show _ = _
            rw [HB.out]
            exact decide_eq_false fun e => hxy (HF.out e)
          clear hxy HE HF
          go_wp2_with fail
          go_quiet (fail)
          go_wp2
          go_ret
          exact ⟨by rw [HX.out]; rfl, HW.out.trans ((below_drewN _ _).mono HW.out.size)⟩
      · have hlti : ¬ (k : Int) < (n : Int) := by omega
        have HX : Hid (bb = true) := by
          show _ = _
          rw [HB.out]
          have h := HT.out
          rw [List.take_of_length_le (by rw [HN.out]; omega), List.take_of_length_le (by rw [HP.out]; omega)] at h
          exact decide_eq_true h
        clear hlt hk
        go_wp2
        go_ret
        exact ⟨by rw [HX.out]; rfl, HW.out⟩
  · have hd : decide (l = m) = false := decide_eq_false fun h => by
      apply e
      rw [← HN.out, ← HP.out, h]
    rw [hd]
    have hne : ((n : Int) == (p : Int)) = false := by rw [beq_eq_false_iff_ne]; omega
    have hne2 : ((n : Int) != (p : Int)) = true := by rw [bne, hne]; rfl
    have hne3 : decide ((n : Int) = (p : Int)) = false := decide_eq_false (by omega)
    clear hd e
    go_enter Try.func22, Try.ntmps22
    go_wp2
    go_ret
    exact ⟨rfl, Below.refl _ _⟩
theorem map_inj {l m : List (List UInt8)} (h : l.map txt = m.map txt) : l = m := by
  induction l generalizing m with
  | nil =>
    cases m with
    | nil => rfl
    | cons y t => simp at h
  | cons x r ih =>
    cases m with
    | nil => simp at h
    | cons y t =>
      simp only [List.map_cons, List.cons.injEq] at h
      rw [txt_eq h.1, ih h.2]
set_option maxHeartbeats 4000000 in
/-- texts. -/
theorem texts_any (n c : Nat) (A : Option Addr) (rs : List (List UInt8)) (w : World) (h1 : Rcs w A n rs) (hn : n ≤ 100000) :
    Calls Try.prog 23 #[.slice A n c] w fun r w' => ∃ v, r = .returned v ∧ RowT eKy 9 w' w.heap.size v (rs.map txt) ∧ Below w.heap.size w w' := by
  have H1 := Lib.hid h1
  have HN := Lib.hid hn
  clear h1
  go_enter Try.func23, Try.ntmps23
  go_wp2
  go_loopw [3, 7] (fun s3 s7 wr => ∃ k : Nat, k ≤ n ∧ s7 = .int .i64 (k : Int) ∧ RowT eKy 9 wr w.heap.size s3 ((rs.take k).map txt) ∧ Below w.heap.size w wr) (fun _ s _ => n - (intOf s).toNat)
  case atStart => exact ⟨0, Nat.zero_le _, rfl, by simpa using RowT.nil (E := eKy) w, Below.refl _ _⟩
  case round =>
    obtain ⟨k, hk, rfl, hr, hb⟩ := hrel
    have HB := Lib.hid hb
    have HR := Lib.hid hr
    by_cases hlt : k < n
    · have hlti : (k : Int) < (n : Int) := by omega
      have hk0 : (0 : Int) ≤ (k : Int) := by omega
      obtain ⟨b, o, x, r, e1, _, e2, e3, e4, e5, _, _⟩ := (H1.out.below (Nat.le_refl _) hb).at_ hlt
      subst e1
      have hcv : (convert 38 9 (.slice x.A x.n x.c)).run Try.prog wr = .ok (.string (txt r)) wr := conv_by e4 e5 _
      have HE : Hid ((rs.take (k + 1)).map txt = (rs.take k).map txt ++ [txt r]) := by
        show _ = _
        rw [List.take_add_one, e2]
        simp
      obtain ⟨A', c', hv, hlc, hz⟩ := hr.form
      have hwr : IntKind.i64.wrap ((k : Int) + 1) = (k : Int) + 1 := IntWalk.i64_in _ (by omega)
      have hlen : ((rs.take k).map txt).length ≤ n := by
        have := H1.out.len
        simp
        omega
      have HLN := Lib.hid hlen
      have bA : Below wr.heap.size wr (wr.alloc (.cells #[.string (txt r)] 9)) := (Below.refl _ _).alloc (Nat.le_refl _) _
      obtain ⟨va, W7, hrun, hrow7, hg7⟩ := (HR.out.below bA).app el33 (Nat.le_trans HB.out.size bA.size) (A := some ⟨wr.heap.size, 0, none⟩) (n := 1) (c := 1) (sl_one (E := eKy) wr (txt r) 9) rfl (by simp) (by omega)
      have HW7 : Hid (Below w.heap.size w W7) := (HB.out.trans (bA.mono HB.out.size)).grown hg7 (Nat.le_trans HB.out.size bA.size) (fun k hk => ((HR.out.below bA).own hk).1)
      have HR7 := Lib.hid hrow7
      have HK : Hid (k + 1 ≤ n) := hlt
      clear hr hb e2 e4 e5 hv hlc hz hlen bA hg7 hrow7 hlt hk
      go_wp2_with (refine wpList_append_run rfl _ _ _ _ rfl _ _ rfl rfl _ _ hrun ?_)
      go_roundw
      case rel => exact ⟨k + 1, HK.out, by go_num, by rw [HE.out]; exact HR7.out, HW7.out⟩
      case measure => simp [intOf]; have := HK.out; omega
    · have hkn : k = n := by omega
      subst hkn
      have hlti : ¬ (k : Int) < (k : Int) := by omega
      have he : rs.take k = rs := List.take_of_length_le (by rw [H1.out.len]; exact Nat.le_refl _)
      rw [he] at HR
      clear hr hb hk hlt
      go_wp2
      go_ret
      exact ⟨_, rfl, HR.out, HB.out⟩
end Go.Proofs.Ytppdckncnfffcaa

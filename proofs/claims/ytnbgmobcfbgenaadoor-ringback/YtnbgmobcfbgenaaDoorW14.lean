/-
  The walk of RingBack. Its conditions: the texts lie in memory which is there.
-/
import Derived.Test.YtnbgmobcfbgenaaDoorW12
namespace Go.Proofs.YtnbgmobcfbgenaaDoor
open Go.RowKit Go.Maps
open Go.Sort (grow)

/-- Three rings side by side: of S, and two of T. -/
structure Trio (w : World) (S T : List ByteArray) (g ga gb : Nat) (W : World) : Prop where
  r : RingAt W w.heap.size g S
  a : RingAt W w.heap.size ga T
  b : RingAt W w.heap.size gb T
  bel : Below w.heap.size w W
  n1 : g ≠ ga
  n2 : g ≠ gb
  n3 : ga ≠ gb
section
variable {w W W' : World} {S T : List ByteArray} {key : ByteArray} {g ga gb : Nat}
theorem Trio.below (h : Trio w S T g ga gb W) (hb : Below W.heap.size W W') : Trio w S T g ga gb W' := ⟨h.r.below hb, h.a.below hb, h.b.below hb, h.bel.trans (hb.mono h.bel.size), h.n1, h.n2, h.n3⟩
def RPost (w : World) (S T : List ByteArray) (g ga gb : Nat) (x : ByteArray) (b : Bool) (r : Ending) (W' : World) : Prop := r = .returned (.tuple #[.string x, .bool b]) ∧ Trio w S T g ga gb W'
theorem trio_r (h : Trio w S T g ga gb W) (hk : key.size ≤ maxLen) : Calls Tryd.prog 12 #[.pointer (some ⟨g, 0, none⟩), .string key] W (RPost w S T g ga gb (own S (hsh key)) (has S)) :=
  (owner_any _ g S key W h.r h.bel.size hk).mono fun _ _ ⟨e, k, f⟩ => ⟨e, k, h.a.other h.r f h.n1.symm, h.b.other h.r f h.n2.symm, h.bel.trans f.below, h.n1, h.n2, h.n3⟩
theorem trio_a (h : Trio w S T g ga gb W) (hk : key.size ≤ maxLen) : Calls Tryd.prog 12 #[.pointer (some ⟨ga, 0, none⟩), .string key] W (RPost w S T g ga gb (own T (hsh key)) (has T)) :=
  (owner_any _ ga T key W h.a h.bel.size hk).mono fun _ _ ⟨e, k, f⟩ => ⟨e, h.r.other h.a f h.n1, k, h.b.other h.a f h.n3.symm, h.bel.trans f.below, h.n1, h.n2, h.n3⟩
theorem trio_b (h : Trio w S T g ga gb W) (hk : key.size ≤ maxLen) : Calls Tryd.prog 12 #[.pointer (some ⟨gb, 0, none⟩), .string key] W (RPost w S T g ga gb (own T (hsh key)) (has T)) :=
  (owner_any _ gb T key W h.b h.bel.size hk).mono fun _ _ ⟨e, k, f⟩ => ⟨e, h.r.other h.b f h.n2, h.a.other h.b f h.n3, k, h.bel.trans f.below, h.n1, h.n2, h.n3⟩
end
set_option maxRecDepth 100000 in
set_option maxHeartbeats 16000000 in
theorem back_walk (l : List ByteArray) (A : Option Addr) (n c : Nat) (x key : ByteArray) (w : World) (hs : Sl eKy w A l) (hn : l.length = n) (hz : Sized l) (hx : x.size ≤ 140737488351232) (hk : key.size ≤ 140737488351232) :
    Calls Tryd.prog 5 #[.slice A n c, .string x, .string key] w fun e w' => e = .returned (.bool true) ∧ Below w.heap.size w w' := by
  have HS := Lib.hid hs
  have HN := Lib.hid hn
  have HZ := Lib.hid hz
  have HX := Lib.hid hx
  have HK : Hid (key.size ≤ maxLen) := by show _ ≤ _; unfold maxLen; omega
  clear hs hn hz hx hk
  go_enter Tryd.func5, Tryd.ntmps5
  go_wp2_with fail
  refine (awake_any w).mono ?_
  rintro e w1 ⟨rfl, b1⟩
  have B1 := Lib.hid b1
  clear b1
  by_cases h20 : (n : Int) > 20
  · go_wp2
    go_ret
    exact ⟨rfl, B1.out⟩
  · go_wp2_with fail
    refine (new_any l A n c w1 (HS.out.below (Nat.le_refl _) B1.out) HN.out HZ.out).mono ?_
    rintro e w2 ⟨g, rfl, hr, hb⟩
    have R2 := Lib.hid (hr.down B1.out.size)
    have B2 := Lib.hid (B1.out.trans (hb.mono B1.out.size))
    clear hr hb h20
    generalize nodesOf l = S at R2
    go_wp2_with fail
    refine (owner_any _ g S key w2 R2.out B2.out.size HK.out).mono ?_
    rintro e w3 ⟨rfl, hr, hf⟩
    have R3 := Lib.hid hr
    have B3 := Lib.hid (B2.out.trans hf.below)
    clear hr hf R2 B2
    go_wp2_with fail
    refine (with_any _ g S x w3 R3.out HX.out).mono ?_
    rintro e w4 ⟨gm, rfl, hr, hb⟩
    have M4 := Lib.hid (hr.down B3.out.size)
    have R4 := Lib.hid (R3.out.below hb)
    have B4 := Lib.hid (B3.out.trans (hb.mono B3.out.size))
    clear hr hb
    go_wp2_with fail
    refine (without_any _ gm _ x w4 M4.out).mono ?_
    rintro e w5 ⟨ga, rfl, hr, hb⟩
    rw [back S x R4.out.rs.nodup R4.out.len] at hr
    have HNE1 : Hid (g ≠ ga) := by
      have h1 := hr.bg
      have h2 := R4.out.lt
      show _ ≠ _
      omega
    have A5 := Lib.hid (hr.down B4.out.size)
    have R5 := Lib.hid (R4.out.below hb)
    have B5 := Lib.hid (B4.out.trans (hb.mono B4.out.size))
    clear hr hb
    go_wp2_with fail
    refine (without_any _ g S x w5 R5.out).mono ?_
    rintro e w6 ⟨gb, rfl, hr, hb⟩
    obtain ⟨T, hT⟩ : ∃ T, T = withoutN S x := ⟨_, rfl⟩
    rw [← hT] at hr A5
    have HT : Hid (∀ q ∈ T, q ≠ x) := by
      intro q hq
      rw [hT, mem_withoutN R5.out.rs.nodup R5.out.len] at hq
      exact hq.2
    have T6 : Hid (Trio w S T g ga gb w6) := by
      have h1 := hr.bg
      have h2 := R5.out.lt
      have h3 := A5.out.lt
      exact ⟨R5.out.below hb, A5.out.below hb, hr.down B5.out.size, B5.out.trans (hb.mono B5.out.size), HNE1.out, by omega, by omega⟩
    clear hr hb hT R3 B3 M4 R4 B4 A5 R5 B5
    go_wp2_with fail
    refine (nodes_any _ ga T w6 T6.out.a).mono ?_
    rintro e w7 ⟨v7, rfl, hrow, hb⟩
    have T7 := Lib.hid (T6.out.below hb)
    have ROW7 := Lib.hid (hrow.down T6.out.bel.size)
    obtain ⟨A7, m7, c7, e7⟩ : ∃ A7 m7 c7, v7 = .slice A7 m7 c7 := by
      obtain ⟨A1, c1, e1, _⟩ := hrow.form
      exact ⟨_, _, _, e1⟩
    subst e7
    clear hrow hb T6
    go_wp2_with fail
    refine (nodes_any _ gb T w7 T7.out.b).mono ?_
    rintro e w8 ⟨v8, rfl, hrow, hb⟩
    have T8 := Lib.hid (T7.out.below hb)
    have ROW := ROW7.out.below hb
    have ht := T7.out.a.len
    obtain ⟨A8, c8, e8, sl8, _⟩ := hrow.sl (by unfold maxLen; omega)
    obtain ⟨A9, c9, e9, sl9, _⟩ := ROW.sl (by unfold maxLen; omega)
    injection e9 with x1 x2 x3
    subst x1 x3 e8
    obtain ⟨m, hm⟩ : ∃ m, m = T.length := ⟨_, rfl⟩
    rw [← hm] at x2 ⊢
    subst x2
    have HM := Lib.hid hm
    have SL8 := Lib.hid sl8
    have SL9 := Lib.hid sl9
    have hmI : (m7 : Int) ≤ 8 := by omega
    clear hrow hb ROW ht sl8 sl9 hm T7 ROW7
    go_wp2
    go_loopw [53] (fun s53 wr => ∃ k : Nat, k ≤ m7 ∧ s53 = .int .i64 (k : Int) ∧ Below w8.heap.size w8 wr) (fun i _ => m7 - (intOf i).toNat)
    case atStart => exact ⟨0, Nat.zero_le _, rfl, Below.refl _ _⟩
    case round =>
      obtain ⟨k, hkn, rfl, hb⟩ := hrel
      have HB := Lib.hid hb
      clear hb
      by_cases hlt : k < m7
      · have hkl : k < T.length := by rw [← HM.out]; exact hlt
        obtain ⟨b8, o8, rfl, _, d8⟩ := at_ky (SL8.out.below (Nat.le_refl _) HB.out) hkl
        obtain ⟨b9, o9, rfl, _, d9⟩ := at_ky (SL9.out.below (Nat.le_refl _) HB.out) hkl
        have hne := HT.out _ (List.getElem_mem hkl)
        generalize T[k] = t at d8 d9 hne
        have he : (t.toList == x.toList) = false := toList_ne hne
        have he2 : (t.toList != t.toList) = false := by rw [bne, toList_eq rfl]; rfl
        have hlti : (k : Int) < (m7 : Int) := by omega
        have hk0 : (0 : Int) ≤ (k : Int) := by omega
        have HK2 : Hid (k + 1 ≤ m7) := hlt
        clear hkl hlt hkn hne
        go_wp2_with fail
        go_quiet (fail)
        go_wp2
        go_roundw
        case rel => exact ⟨k + 1, HK2.out, by go_num, HB.out.trans ((below_drewN _ _).mono HB.out.size)⟩
        case measure => simp [intOf]; omega
      · have hlti : ¬ (k : Int) < (m7 : Int) := by omega
        have T9 := Lib.hid (T8.out.below HB.out)
        clear hlt hkn
        go_wp2_with fail
        refine (trio_a T9.out HK.out).mono ?_
        rintro e w10 ⟨rfl, h10⟩
        have T10 := Lib.hid h10
        clear h10
        go_wp2_with fail
        refine (trio_b T10.out HK.out).mono ?_
        rintro e w11 ⟨rfl, h11⟩
        have T11 := Lib.hid h11
        clear h11
        go_wp2_with fail
        refine (trio_r T11.out HK.out).mono ?_
        rintro e w12 ⟨rfl, h12⟩
        have B12 := Lib.hid h12.bel
        clear h12
        generalize own T (hsh key) = p1
        generalize own S (hsh key) = p2
        have e1 : (p1.toList == p1.toList) = true := toList_eq rfl
        have e2 : (p2.toList == p2.toList) = true := toList_eq rfl
        go_wp2
        go_ret
        exact ⟨rfl, B12.out⟩
end Go.Proofs.YtnbgmobcfbgenaaDoor

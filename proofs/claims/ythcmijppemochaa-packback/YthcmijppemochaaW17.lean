/-
  The contract of again, and the walk of PackBack. Its conditions: none.
-/
import Derived.Test.YthcmijppemochaaW16
import Derived.Test.YthcmijppemochaaW15
namespace Go.Proofs.Ythcmijppemochaa
open Go.RowKit

def AgPost (w : World) (g : Nat) (b : Bool) (e : Ending) (w' : World) : Prop := e = .returned (.bool b) ∧ Only (fun k => k = g) w w'
def AgRel (l : List It) (b : Bool) (w : World) (g r : Nat) (i : Value) (wr : World) : Prop :=
  ∃ (k : Nat) (s : Option (List Nat)), i = .int .i64 (k : Int) ∧ k ≤ l.length ∧ RS wr g r s ∧ againB s (l.drop k) = b ∧ Only (fun k => k = g) w wr
theorem Items.only {w w' : World} {A : Option Addr} {l : List It} {g : Nat} (h : Items w A l) (hb : Only (fun k => k = g) w w') (hA : 0 < l.length → ∀ a, A = some a → a.block ≠ g) : Items w' A l := by
  obtain ⟨h1, h2, h3⟩ := h
  refine ⟨h1, h2, fun hl => ?_⟩
  obtain ⟨b, off, hAe, hlt, hc⟩ := h3 hl
  have hblk : w'.heap[b]? = w.heap[b]? := hb.block b hlt (hA hl _ hAe)
  refine ⟨b, off, hAe, Nat.lt_of_lt_of_le hlt hb.size, fun k x hk => ?_⟩
  obtain ⟨e1, e2, e3⟩ := hc k x hk
  exact ⟨by rw [World.cell?_of_block (w := w) (a := ⟨b, _, none⟩) hblk]; exact e1, by rw [World.cell?_of_block (w := w) (a := ⟨b, _, none⟩) hblk]; exact e2, by rw [World.cell?_of_block (w := w) (a := ⟨b, _, none⟩) hblk]; exact e3⟩
theorem againB_cons (s : Option (List Nat)) (l : List It) (k : Nat) (hk : k < l.length) : againB s (l.drop k) =
    if l[k].K = 1 then (rflagB s == (l[k].N != 0)) && againB (Pk.rcount s 1).2 (l.drop (k + 1))
    else if l[k].K = 2 then decide (textOf (Pk.rtext s l[k].S.size).1 = l[k].S) && againB (Pk.rtext s l[k].S.size).2 (l.drop (k + 1))
    else decide (((Pk.rcount s 9007199254740992).1 : Int) = l[k].N) && againB (Pk.rcount s 9007199254740992).2 (l.drop (k + 1)) := by
  rw [List.drop_eq_getElem_cons hk]
  rfl
set_option maxHeartbeats 1000000 in
set_option maxRecDepth 100000 in
theorem again_any (l : List It) (A : Option Addr) (cap g r : Nat) (s : Option (List Nat)) (b : Bool) (w : World) (h : Items w A l) (hs : RS w g r s) (hA : 0 < l.length → ∀ a, A = some a → a.block ≠ g) (hb : againB s l = b) (hw : l.length ≤ 100000) :
    Calls Try.prog 27 #[.pointer (some ⟨g, 0, none⟩), .slice A l.length cap] w (AgPost w g b) := by
  have H := Lib.hid h
  have HS0 := Lib.hid hs
  have HA := Lib.hid hA
  have HB := Lib.hid hb
  have HL := Lib.hid hw
  clear h hs hA hb hw
  go_enter Try.func27, Try.ntmps27
  go_wp2
  go_loopw [8] (AgRel l b w g r) (fun i _ => l.length - (intOf i).toNat)
  case atStart => exact ⟨0, s, rfl, Nat.zero_le _, HS0.out, HB.out, Only.refl _ _⟩
  case round =>
    obtain ⟨k, s1, rfl, hk, hrs, hag, hon⟩ := hrel
    have HR := Lib.hid hrs
    have HO := Lib.hid hon
    have HG := Lib.hid hag
    have hkI : (k : Int) ≤ 100000 := by have := HL.out; omega
    clear hrs hon hag
    by_cases hlt : k < l.length
    · have hcons := againB_cons s1 l k hlt
      rw [HG.out] at hcons
      have HI := Lib.hid (H.out.only HO.out HA.out)
      obtain ⟨x, hx⟩ : ∃ x, l[k] = x := ⟨_, rfl⟩
      rw [hx] at hcons
      have HX := Lib.hid hx
      obtain ⟨bb, off, hAe, ⟨c0, c1, c2⟩, hok⟩ := HI.out.at_ hlt
      have HC : Hid (∀ w2, Only (fun k => k = g) wr w2 → ItAt w2 bb (off + k * 3) x) := by
        intro w2 ho2
        obtain ⟨b9, off9, e9, hi9, _⟩ := (HI.out.only ho2 HA.out).at_ hlt
        rw [hAe] at e9
        injection e9 with e9
        injection e9 with e8 e7
        subst e8 e7
        rw [HX.out] at hi9
        exact hi9
      subst hAe
      rw [hx] at c0 c1 c2
      have hsz := hok.2.2
      rw [hx] at hsz
      unfold maxLen at hsz
      have HZ := Lib.hid hsz
      clear hx hok hsz
      by_cases h1 : x.K = 1
      · rw [if_pos h1] at hcons
        rw [h1] at c0
        have K0 : ∀ w', Below wr.heap.size wr w' → Calls Try.prog 20 #[.pointer (some ⟨g, 0, none⟩)] w' (RPost w' g r (.bool (rflagB s1)) (Pk.rcount s1 1).2) := fun w' hb => rflag_any g r s1 w' (HR.out.below hb)
        cases hf : rflagB s1 with
        | true =>
          rw [hf] at K0 hcons
          have K1 := Lib.hid K0
          cases hn : (x.N != 0) with
          | true =>
            rw [hn] at hcons
            have HCN : Hid (againB (Pk.rcount s1 1).2 (l.drop (k + 1)) = b) := by rw [hcons]; simp [Hid]
            clear hcons h1 K0 hf
            go_wp2
            go_region_with ((go_at_call 20; refine (K1.out _ ?_).mono ?_; exact (Below.refl _ _).drew; rintro e w2 ⟨rfl, hs2, ho2⟩; have HS2 := Lib.hid hs2; have HO2 := Lib.hid ((Only.refl (fun k => k = g) wr).drew.same ho2); have c1' := (HC.out w2 HO2.out).2.1; clear hs2 ho2))
            all_goals
              go_wp2
              go_roundw
              case rel => exact ⟨k + 1, _, by go_num, by omega, HS2.out, HCN.out, HO.out.same HO2.out⟩
              case measure => simp [intOf]; omega
          | false =>
            rw [hn] at hcons
            have HCN : Hid (b = false) := by rw [hcons]; simp [Hid]
            clear hcons h1 K0 hf
            go_wp2
            go_region_with ((go_at_call 20; refine (K1.out _ ?_).mono ?_; exact (Below.refl _ _).drew; rintro e w2 ⟨rfl, hs2, ho2⟩; have HS2 := Lib.hid hs2; have HO2 := Lib.hid ((Only.refl (fun k => k = g) wr).drew.same ho2); have c1' := (HC.out w2 HO2.out).2.1; clear hs2 ho2))
            all_goals
              go_wp2
              go_ret
              exact ⟨by rw [HCN.out]; rfl, HO.out.same HO2.out⟩
        | false =>
          rw [hf] at K0 hcons
          have K1 := Lib.hid K0
          cases hn : (x.N != 0) with
          | false =>
            rw [hn] at hcons
            have HCN : Hid (againB (Pk.rcount s1 1).2 (l.drop (k + 1)) = b) := by rw [hcons]; simp [Hid]
            clear hcons h1 K0 hf
            go_wp2
            go_region_with ((go_at_call 20; refine (K1.out _ ?_).mono ?_; exact (Below.refl _ _).drew; rintro e w2 ⟨rfl, hs2, ho2⟩; have HS2 := Lib.hid hs2; have HO2 := Lib.hid ((Only.refl (fun k => k = g) wr).drew.same ho2); have c1' := (HC.out w2 HO2.out).2.1; clear hs2 ho2))
            all_goals
              go_wp2
              go_roundw
              case rel => exact ⟨k + 1, _, by go_num, by omega, HS2.out, HCN.out, HO.out.same HO2.out⟩
              case measure => simp [intOf]; omega
          | true =>
            rw [hn] at hcons
            have HCN : Hid (b = false) := by rw [hcons]; simp [Hid]
            clear hcons h1 K0 hf
            go_wp2
            go_region_with ((go_at_call 20; refine (K1.out _ ?_).mono ?_; exact (Below.refl _ _).drew; rintro e w2 ⟨rfl, hs2, ho2⟩; have HS2 := Lib.hid hs2; have HO2 := Lib.hid ((Only.refl (fun k => k = g) wr).drew.same ho2); have c1' := (HC.out w2 HO2.out).2.1; clear hs2 ho2))
            all_goals
              go_wp2
              go_ret
              exact ⟨by rw [HCN.out]; rfl, HO.out.same HO2.out⟩
      · rw [if_neg h1] at hcons
        by_cases h2 : x.K = 2
        · rw [if_pos h2] at hcons
          rw [h2] at c0
          have K0 : ∀ w', Below wr.heap.size wr w' → Calls Try.prog 22 #[.pointer (some ⟨g, 0, none⟩), .int .i64 (x.S.size : Int)] w' (RPost w' g r (.string (textOf (Pk.rtext s1 x.S.size).1)) (Pk.rtext s1 x.S.size).2) := fun w' hb => rtext_any g r s1 x.S.size w' (HR.out.below hb)
          obtain ⟨T, hT⟩ : ∃ T, textOf (Pk.rtext s1 x.S.size).1 = T := ⟨_, rfl⟩
          rw [hT] at K0 hcons
          by_cases hTS : T = x.S
          · subst hTS
            have HCN : Hid (againB (Pk.rtext s1 x.S.size).2 (l.drop (k + 1)) = b) := by rw [hcons]; simp [Hid]
            have K1 := Lib.hid K0
            clear hcons h1 h2 K0 hT
            go_wp2
            go_region_with ((go_at_call 22; refine (K1.out _ ?_).mono ?_; exact (Below.refl _ _).drew; rintro e w2 ⟨rfl, hs2, ho2⟩; have HS2 := Lib.hid hs2; have HO2 := Lib.hid ((Only.refl (fun k => k = g) wr).drew.same ho2); have c2' := (HC.out w2 HO2.out).2.2; clear hs2 ho2))
            all_goals
              go_wp2
              go_roundw
              case rel => exact ⟨k + 1, _, by go_num, by omega, HS2.out, HCN.out, HO.out.same HO2.out⟩
              case measure => simp [intOf]; omega
          · have HCN : Hid (b = false) := by rw [hcons]; simp [Hid, hTS]
            have hne : (T.toList == x.S.toList) = false := text_ne hTS
            have K1 := Lib.hid K0
            clear hcons h1 h2 K0 hT hTS
            go_wp2
            go_region_with ((go_at_call 22; refine (K1.out _ ?_).mono ?_; exact (Below.refl _ _).drew; rintro e w2 ⟨rfl, hs2, ho2⟩; have HS2 := Lib.hid hs2; have HO2 := Lib.hid ((Only.refl (fun k => k = g) wr).drew.same ho2); have c2' := (HC.out w2 HO2.out).2.2; clear hs2 ho2))
            all_goals
              go_wp2
              go_ret
              exact ⟨by rw [HCN.out]; rfl, HO.out.same HO2.out⟩
        · rw [if_neg h2] at hcons
          have b1 : (x.K == 1) = false := by simpa using h1
          have b2 : (x.K == 2) = false := by simpa using h2
          have K0 : ∀ w', Below wr.heap.size wr w' → Calls Try.prog 18 #[.pointer (some ⟨g, 0, none⟩)] w' (RPost w' g r (.int .i64 ((Pk.rcount s1 9007199254740992).1 : Nat)) (Pk.rcount s1 9007199254740992).2) := fun w' hb => rnum_any g r s1 w' (HR.out.below hb)
          obtain ⟨y, hy⟩ : ∃ y : Int, (((Pk.rcount s1 9007199254740992).1 : Nat) : Int) = y := ⟨_, rfl⟩
          rw [hy] at K0 hcons
          by_cases hyN : y = x.N
          · subst hyN
            have HCN : Hid (againB (Pk.rcount s1 9007199254740992).2 (l.drop (k + 1)) = b) := by rw [hcons]; simp [Hid]
            have K1 := Lib.hid K0
            clear hcons h1 h2 K0 hy
            go_wp2
            go_region_with ((go_at_call 18; refine (K1.out _ ?_).mono ?_; exact (Below.refl _ _).drew; rintro e w2 ⟨rfl, hs2, ho2⟩; have HS2 := Lib.hid hs2; have HO2 := Lib.hid ((Only.refl (fun k => k = g) wr).drew.same ho2); have c1' := (HC.out w2 HO2.out).2.1; clear hs2 ho2))
            all_goals
              go_wp2
              go_roundw
              case rel => exact ⟨k + 1, _, by go_num, by omega, HS2.out, HCN.out, HO.out.same HO2.out⟩
              case measure => simp [intOf]; omega
          · have HCN : Hid (b = false) := by rw [hcons]; simp [Hid, hyN]
            have hne : (y != x.N) = true := by simpa using hyN
            have K1 := Lib.hid K0
            clear hcons h1 h2 K0 hy hyN
            go_wp2
            go_region_with ((go_at_call 18; refine (K1.out _ ?_).mono ?_; exact (Below.refl _ _).drew; rintro e w2 ⟨rfl, hs2, ho2⟩; have HS2 := Lib.hid hs2; have HO2 := Lib.hid ((Only.refl (fun k => k = g) wr).drew.same ho2); have c1' := (HC.out w2 HO2.out).2.1; clear hs2 ho2))
            all_goals
              go_wp2
              go_ret
              exact ⟨by rw [HCN.out]; rfl, HO.out.same HO2.out⟩
    · have hd : l.drop k = [] := List.drop_of_length_le (by omega)
      have K0 := rend_any g r s1 wr HR.out
      have HE : Hid ((Pk.rend s1 == 0) = b) := by
        rw [← HG.out, hd]
        show _ = _
        simp only [againB]
        unfold Pk.rend
        by_cases h : s1 = some []
        · rw [if_pos h]; simp [h]
        · rw [if_neg h]; simp [h]
      have K1 := Lib.hid K0
      clear hd K0
      go_wp2_with (go_at_call 25; refine K1.out.mono ?_; rintro e w2 ⟨rfl, rfl⟩)
      go_ret
      exact ⟨by rw [← HE.out]; rfl, HO.out⟩
end Go.Proofs.Ythcmijppemochaa

/-
  The contracts of frame's Seal, first and Open. Their conditions: the slice reads as bytes.
-/
import Derived.Test.YtlnblcgfgkkbhaaW4
import Derived.Deep.QuietTactic
import Derived.BigQuiet
namespace Go.Proofs.Ytlnblcgfgkkbhaa
open Go.RowKit

/-- Seal's answer in new memory, or none. -/
def SealOk (w : World) (p : List Nat) (e : Ending) (w' : World) : Prop := ∃ A n, n = (Fr.frame p).length ∧ e = .returned (.tuple #[.slice A n n, .int .i64 0]) ∧ Got w w' (Fr.frame p) (.slice A n n)
theorem seal_bad (A : Option Addr) (n c : Nat) (w : World) (h : n = 0 ∨ 65536 < n) (hn : n ≤ maxLen) :
    Calls Try.prog 9 #[.slice A n c] w fun e w' => e = .returned (.tuple #[.slice none 0 0, .int .i64 1]) ∧ w = w' := by
  unfold maxLen at hn
  rcases h with rfl | h
  · go_enter Try.func9, Try.ntmps9
    go_wp2
    go_ret2
    exact ⟨rfl, rfl⟩
  · have h0 : ((n : Int) == 0) = false := by simp; omega
    have h1 : 65536 < (n : Int) := by omega
    clear h
    go_enter Try.func9, Try.ntmps9
    go_wp2
    go_ret2
    exact ⟨rfl, rfl⟩
theorem Got.parts {w w' : World} {L : List Nat} {A : Option Addr} {n c : Nat} (h : Got w w' L (.slice A n c)) : n = L.length ∧ Bytes w' A L ∧ L.length ≤ c ∧ c ≤ maxLen ∧ (A = none → c = 0) ∧ (∀ a, A = some a → w.heap.size ≤ a.block ∧ a.block < w'.heap.size) ∧ Below w.heap.size w w' := by
  obtain ⟨A', c', e, h1, h2, h3, h4, h5, h6⟩ := h
  injection e with e1 e2 e3
  subst e1 e2 e3
  exact ⟨rfl, h1, h2, h3, h4, h5, h6⟩
theorem OwnB.bytes {w w' : World} {L : List Nat} {A : Option Addr} {n c : Nat} (h : OwnB w w' L (.slice A n c)) (hm : L.length ≤ maxLen) : Bytes w' A L ∧ (A = none → c = 0) :=
  ⟨(h.got hm).parts.2.1, (h.got hm).parts.2.2.2.2.1⟩
theorem parts3 (w : World) (a b d : List Nat) (A B D : Option Addr) (na nb nd ca cb cd : Nat) (ea : na = a.length) (eb : nb = b.length) (ed : nd = d.length) (ha : Bytes w A a) (hb : Bytes w B b) (hd : Bytes w D d) (ka : A = none → ca = 0) (kb : B = none → cb = 0) (kd : D = none → cd = 0) :
    Parts (w.alloc (.cells #[.slice A na ca, .slice B nb cb, .slice D nd cd] 22)) (some ⟨w.heap.size, 0, none⟩) [a, b, d] := by
  subst ea eb ed
  have hbel : Below w.heap.size w (w.alloc (.cells #[.slice A a.length ca, .slice B b.length cb, .slice D d.length cd] 22)) := (Below.refl _ _).alloc (Nat.le_refl _) _
  intro _
  refine ⟨w.heap.size, 0, rfl, by simp, fun k p hk => ?_⟩
  rw [Nat.zero_add, World.cell?_alloc_at _ _ _ _ rfl]
  match k with
  | 0 => simp at hk; subst hk; exact ⟨A, ca, rfl, ha.below hbel, ka⟩
  | 1 => simp at hk; subst hk; exact ⟨B, cb, rfl, hb.below hbel, kb⟩
  | 2 => simp at hk; subst hk; exact ⟨D, cd, rfl, hd.below hbel, kd⟩
  | k + 3 => simp at hk
theorem parts1 (w : World) (a : List Nat) (A : Option Addr) (na ca : Nat) (ea : na = a.length) (ha : Bytes w A a) (ka : A = none → ca = 0) :
    Parts (w.alloc (.cells #[.slice A na ca] 22)) (some ⟨w.heap.size, 0, none⟩) [a] := by
  subst ea
  have hbel : Below w.heap.size w (w.alloc (.cells #[.slice A a.length ca] 22)) := (Below.refl _ _).alloc (Nat.le_refl _) _
  intro _
  refine ⟨w.heap.size, 0, rfl, by simp, fun k p hk => ?_⟩
  rw [Nat.zero_add, World.cell?_alloc_at _ _ _ _ rfl]
  match k with
  | 0 => simp at hk; subst hk; exact ⟨A, ca, rfl, ha.below hbel, ka⟩
  | k + 1 => simp at hk
theorem Got.from {w w1 w2 : World} {L : List Nat} {v : Value} (h : Got w1 w2 L v) (hb : Below w.heap.size w w1) : Got w w2 L v := by
  obtain ⟨A, c, h1, h2, h3, h4, h5, h6, h7⟩ := h
  refine ⟨A, c, h1, h2, h3, h4, h5, fun a ha => ⟨?_, (h6 a ha).2⟩, hb.trans (h7.mono hb.size)⟩
  have := (h6 a ha).1
  have := hb.size
  omega
set_option maxHeartbeats 400000 in
theorem seal_good (p : List Nat) (A : Option Addr) (n c : Nat) (w : World) (h : Bytes w A p) (hn : p.length = n) (h1 : 0 < n) (h2 : n ≤ 65536) (hA : A = none → c = 0) :
    Calls Try.prog 9 #[.slice A n c] w (SealOk w p) := by
  have H := Lib.hid h
  have HN := Lib.hid hn
  have HA := Lib.hid hA
  have h0 : ((n : Int) == 0) = false := by simp; omega
  have H17 := Lib.hid (numberBytes_any n w (by omega))
  clear h hn hA
  go_enter Try.func9, Try.ntmps9
  go_wp2_with fail
  refine H17.out.mono ?_
  rintro e w1 ⟨A1, c1, rfl, o1⟩
  have O1 := Lib.hid o1
  clear o1
  have B1 := Lib.hid O1.out.bel
  have Y1 := Lib.hid (O1.out.bytes (by simp [Fr.four, maxLen]))
  have HC := Lib.hid (check_any (Fr.four n) p A1 A c1 c 4 n w1 Y1.out.1 (H.out.below B1.out) rfl HN.out)
  have EM : Hid (Crc.more 0 (Fr.four n ++ p) = Fr.mark p) := by unfold Fr.mark; rw [HN.out]; exact rfl
  rw [EM.out] at HC
  have HM := Lib.hid (Fr.mark_lt p H.out.1)
  obtain ⟨M, eM⟩ : ∃ M, Fr.mark p = M := ⟨_, rfl⟩
  rw [eM] at HC HM
  have EMM := Lib.hid eM
  clear eM
  go_wp2_with fail
  refine HC.out.mono ?_
  rintro e w2 ⟨rfl, b2⟩
  have B2 := Lib.hid b2
  clear b2
  go_wp2_with fail
  refine (numberBytes_any M w2 HM.out).mono ?_
  rintro e w3 ⟨A3, c3, rfl, o3⟩
  have O3 := Lib.hid o3
  clear o3
  have B3 := Lib.hid O3.out.bel
  have B13 : Hid (Below w1.heap.size w1 w3) := B2.out.trans (B3.out.mono B2.out.size)
  have B03 : Hid (Below w.heap.size w w3) := B1.out.trans (B13.out.mono B1.out.size)
  have Y3 := Lib.hid (O3.out.bytes (by simp [Fr.four, maxLen]))
  have HP := Lib.hid (parts3 w3 (Fr.four n) (Fr.four M) p A1 A3 A 4 4 n c1 c3 c rfl rfl HN.out.symm (Y1.out.1.below B13.out) Y3.out.1 (H.out.below B03.out) Y1.out.2 Y3.out.2 HA.out)
  have HF : Hid ([Fr.four n, Fr.four M, p].flatten = Fr.frame p) := by
    unfold Fr.frame
    rw [HN.out, EMM.out]
    simp [Hid]
  go_wp2_with fail
  refine (join_any [Fr.four n, Fr.four M, p] 3 _ 3 _ HP.out rfl (by unfold maxLen; omega) (by rw [HF.out, Fr.frame_length, HN.out]; omega)).mono ?_
  rw [HF.out]
  rintro e w4 ⟨A4, rfl, g4⟩
  have G4 := Lib.hid g4
  clear g4
  obtain ⟨m, hm⟩ : ∃ m, m = (Fr.frame p).length := ⟨_, rfl⟩
  rw [← hm] at G4
  rw [← hm]
  have HMM := Lib.hid hm
  clear hm
  go_wp2
  go_ret2
  exact ⟨A4, m, HMM.out, rfl, G4.out.from ((B03.out).trans (((Below.refl _ w3).alloc (Nat.le_refl _) _).mono B03.out.size))⟩
end Go.Proofs.Ytlnblcgfgkkbhaa

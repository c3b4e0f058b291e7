/-
  The contracts of Read and of Reader's Count, Num, Flag, Text, End. Their conditions: the reader is the call's own.
-/
import Derived.Test.YthcmijppemochaaW7
import Derived.Deep.RegionWith
namespace Go.Proofs.Ythcmijppemochaa
open Go.RowKit

def numS (s : Option (List Nat)) : Nat × Option (List Nat) := match s with | none => (0, none) | some L => (numAns (Pk.numOf L), numLeft (Pk.numOf L))
theorem takeNumber_any (g r : Nat) (s : Option (List Nat)) (w : World) (h : RS w g r s) :
    Calls Try.prog 36 #[.pointer (some ⟨g, 0, none⟩)] w (RPost w g r (.int .i64 ((numS s).1 : Nat)) (numS s).2) := by
  cases s with
  | none => exact takeNumber_none g r w h
  | some L => exact takeNumber_some g r L w h
theorem RS.hand {w : World} {g r : Nat} {s : Option (List Nat)} (h : RS w g r s) : ∃ v sp, Hand w g v sp := by
  cases s with
  | none => exact ⟨_, _, h⟩
  | some L => obtain ⟨_, A, c, h1, _⟩ := h; exact ⟨_, _, h1⟩
theorem rcount_eq (s : Option (List Nat)) (m : Int) : Pk.rcount s m = if m < ((numS s).1 : Int) then (0, none) else numS s := by
  cases s with
  | none =>
    show (0, none) = _
    by_cases h : m < ((numS none).1 : Int)
    · rw [if_pos h]
    · rw [if_neg h]
      rfl
  | some L =>
    cases h : Pk.numOf L with
    | none =>
      simp only [Pk.rcount, numS, h, numAns, numLeft]
      by_cases h : m < ((0 : Nat) : Int)
      · rw [if_pos h]
      · rw [if_neg h]
    | some p =>
      obtain ⟨n, R⟩ := p
      simp only [Pk.rcount, numS, h, numAns, numLeft]
/-- What may follow a call that reads. -/
theorem Only.same {g : Nat} {a b c : World} (h : Only (fun k => k = g) a b) (k : Only (fun k => k = g) b c) : Only (fun k => k = g) a c := h.trans k (fun _ _ e => e)
theorem count_any (g r : Nat) (s : Option (List Nat)) (m : Int) (w : World) (h : RS w g r s) :
    Calls Try.prog 24 #[.pointer (some ⟨g, 0, none⟩), .int .i64 m] w (RPost w g r (.int .i64 ((Pk.rcount s m).1 : Nat)) (Pk.rcount s m).2) := by
  have hE := rcount_eq s m
  have HC := takeNumber_any g r s w h
  obtain ⟨x, hx⟩ : ∃ x : Int, ((numS s).1 : Int) = x := ⟨_, rfl⟩
  rw [hx] at hE HC
  have HCH := Lib.hid HC
  have HX := Lib.hid hx
  have HE := Lib.hid hE
  clear h hE hx HC
  by_cases hlt : m < x
  · go_enter Try.func24, Try.ntmps24
    go_wp2_with fail
    refine HCH.out.mono ?_
    rintro e w2 ⟨rfl, hs2, ho2⟩
    obtain ⟨v, sp, hh⟩ := hs2.hand
    have HS := Lib.hid (spoil_any g v sp w2 hh)
    have HO := Lib.hid ho2
    clear hs2 ho2 hh
    go_wp2_with fail
    refine HS.out.mono ?_
    rintro e w3 ⟨rfl, hh3, ho3⟩
    have H3 := Lib.hid hh3
    have HO3 := Lib.hid ho3
    clear hh3 ho3
    go_wp2
    go_ret
    rw [HE.out, if_pos hlt]
    exact ⟨rfl, H3.out, HO.out.same HO3.out⟩
  · go_enter Try.func24, Try.ntmps24
    go_wp2_with fail
    refine HCH.out.mono ?_
    rintro e w2 ⟨rfl, hs2, ho2⟩
    have HS := Lib.hid hs2
    have HO := Lib.hid ho2
    clear hs2 ho2
    go_wp2
    go_ret
    rw [HE.out, if_neg (by omega)]
    exact ⟨by rw [HX.out]; rfl, HS.out, HO.out⟩
theorem count_nil (m : Int) (w : World) : Calls Try.prog 24 #[.pointer none, .int .i64 m] w fun e w' => e = .returned (.int .i64 0) ∧ w = w' := by
  go_enter Try.func24, Try.ntmps24
  go_wp2
  go_ret
  exact ⟨rfl, rfl⟩
theorem rnum_any (g r : Nat) (s : Option (List Nat)) (w : World) (h : RS w g r s) :
    Calls Try.prog 18 #[.pointer (some ⟨g, 0, none⟩)] w (RPost w g r (.int .i64 ((Pk.rcount s 9007199254740992).1 : Nat)) (Pk.rcount s 9007199254740992).2) := by
  have HC := Lib.hid (count_any g r s 9007199254740992 w h)
  clear h
  go_enter Try.func18, Try.ntmps18
  go_wp2_with fail
  refine HC.out.mono ?_
  rintro e w2 ⟨rfl, hs2, ho2⟩
  have HS := Lib.hid hs2
  have HO := Lib.hid ho2
  clear hs2 ho2
  go_wp2
  go_ret
  exact ⟨rfl, HS.out, HO.out⟩
theorem rnum_nil (w : World) : Calls Try.prog 18 #[.pointer none] w fun e w' => e = .returned (.int .i64 0) ∧ w = w' := by
  go_enter Try.func18, Try.ntmps18
  go_wp2_with (go_at_call 24; refine (count_nil _ _).mono ?_; rintro e w2 ⟨rfl, rfl⟩)
  go_ret
  exact ⟨rfl, rfl⟩
def rflagB (s : Option (List Nat)) : Bool := decide ((Pk.rcount s 1).1 = 1)
theorem rflag_any (g r : Nat) (s : Option (List Nat)) (w : World) (h : RS w g r s) :
    Calls Try.prog 20 #[.pointer (some ⟨g, 0, none⟩)] w (RPost w g r (.bool (rflagB s)) (Pk.rcount s 1).2) := by
  have HC := Lib.hid (count_any g r s 1 w h)
  have HE : Hid ((((Pk.rcount s 1).1 : Int) == 1) = rflagB s) := by
    unfold rflagB
    show (_ == _) = _
    rw [Bool.eq_iff_iff]
    simp
    omega
  clear h
  go_enter Try.func20, Try.ntmps20
  go_wp2_with fail
  refine HC.out.mono ?_
  rintro e w2 ⟨rfl, hs2, ho2⟩
  have HS := Lib.hid hs2
  have HO := Lib.hid ho2
  clear hs2 ho2
  go_wp2
  go_ret
  exact ⟨by rw [← HE.out]; rfl, HS.out, HO.out⟩
theorem rflag_nil (w : World) : Calls Try.prog 20 #[.pointer none] w fun e w' => e = .returned (.bool false) ∧ w = w' := by
  go_enter Try.func20, Try.ntmps20
  go_wp2_with (go_at_call 24; refine (count_nil _ _).mono ?_; rintro e w2 ⟨rfl, rfl⟩)
  go_ret
  exact ⟨rfl, rfl⟩
theorem rend_any (g r : Nat) (s : Option (List Nat)) (w : World) (h : RS w g r s) :
    Calls Try.prog 25 #[.pointer (some ⟨g, 0, none⟩)] w fun e w' => e = .returned (.int .i64 (Pk.rend s)) ∧ w = w' := by
  cases s with
  | none =>
    have hh : Hand w g (.slice none 0 0) true := h
    have c1 := hh.cell1
    clear h hh
    go_enter Try.func25, Try.ntmps25
    go_wp2
    go_ret
    exact ⟨rfl, rfl⟩
  | some L =>
    obtain ⟨_, A, c, hh, _⟩ := h
    have c0 := hh.cell0
    have c1 := hh.cell1
    clear hh
    by_cases hL : L = []
    · subst hL
      go_enter Try.func25, Try.ntmps25
      go_wp2
      go_ret
      exact ⟨rfl, rfl⟩
    · have hl : 0 < L.length := List.length_pos_iff.mpr hL
      have HE : Hid (Pk.rend (some L) = 2) := by unfold Pk.rend; exact if_neg (by simpa using hL)
      clear hL
      go_enter Try.func25, Try.ntmps25
      go_wp2
      go_ret
      exact ⟨by rw [HE.out]; rfl, rfl⟩
theorem rend_nil (w : World) : Calls Try.prog 25 #[.pointer none] w fun e w' => e = .returned (.int .i64 2) ∧ w = w' := by
  go_enter Try.func25, Try.ntmps25
  go_wp2
  go_ret
  exact ⟨rfl, rfl⟩

/-- Read. -/
def ReadPost (w : World) (L : List Nat) (e : Ending) (w' : World) : Prop :=
  ∃ r, e = .returned (.pointer (some ⟨w.heap.size, 0, none⟩)) ∧ RS w' w.heap.size r (some L) ∧ Below w.heap.size w w' ∧ w.heap.size ≤ r
theorem rs_of_ws {w : World} {g r : Nat} {L : List Nat} (h : WS w g r (some L)) (hm : L.length ≤ maxLen) : RS w g r (some L) := by
  obtain ⟨h0, v, h1, h2, h3, h4⟩ := h
  obtain ⟨A, c, rfl⟩ := owns_form h2
  obtain ⟨f1, f2, f3⟩ := owns_facts h2
  refine ⟨h0, A, c, h1, owns_bytes h2 h3 hm, f1, f2, f3, fun a ha => ?_⟩
  subst ha
  have := h4 a.block rfl
  omega
theorem read_any (l : List Nat) (A : Option Addr) (c : Nat) (w : World) (hb : Bytes w A l) (hA : A = none → c = 0) (hm : l.length ≤ 140737488355328) :
    Calls Try.prog 17 #[.slice A l.length c] w (ReadPost w l) := by
  have hbel : Below w.heap.size w (w.alloc (.cells #[.slice none 0 0, .bool false] 63)) := (Below.refl _ _).alloc (Nat.le_refl _) _
  have HC := Lib.hid (put_ok w.heap.size w.heap.size [] l A c _ (ws_new w 63) (hb.below hbel) hA (by simpa using hm))
  have HB := Lib.hid hbel
  have HM := Lib.hid (show l.length ≤ maxLen by unfold maxLen; omega)
  clear hb hA hm hbel
  go_enter Try.func17, Try.ntmps17
  go_wp2_with fail
  refine HC.out.mono ?_
  rintro e w2 ⟨rfl, r2, hw2, hs2⟩
  have H : Hid (ReadPost w l (.returned (.pointer (some ⟨w.heap.size, 0, none⟩))) w2) :=
    ⟨r2, rfl, rs_of_ws hw2 HM.out, hs2.below_new HB.out (Nat.le_refl _) (Nat.le_refl _) (Nat.le_refl _), step_apart hs2 (Nat.le_refl _) (by simp)⟩
  clear hw2 hs2
  go_wp2
  go_ret
  exact H.out
end Go.Proofs.Ythcmijppemochaa

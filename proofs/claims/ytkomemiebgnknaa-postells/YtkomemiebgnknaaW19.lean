/-
  The contracts of the document's Cut, of any position, and Base. Their conditions: the slice reads as epochs, and its length is at most its capacity.
-/
import Derived.Test.YtkomemiebgnknaaW18
namespace Go.Proofs.Ytkomemiebgnknaa
open Go.RowKit Go.Sort

def ZcRel (w : World) (h : Nat) (m : Value) (wr : World) : Prop := m = .int .i64 0 ∧ Box2 wr h 0 0 ∧ Below w.heap.size w wr
set_option maxHeartbeats 2000000 in
theorem refcut_zero (l : List Ep) (A : Option Addr) (n cap : Nat) (w : World) (h : Eps w A l) (hn : l.length = n) (hr : Ps.rightB l = true) :
    Calls Try.prog 13 #[.slice A n cap, .agg #[.int .i64 0, .int .i64 0]] w fun e' w' => e' = .returned (.tuple #[.int .i64 (Ps.cutN l 0 0 : Nat), .bool (Ps.cutF l 0 0)]) ∧ Below w.heap.size w w' := by
  have HE := Lib.hid (h.alloc (.cells #[.int .i64 0, .int .i64 0] 24))
  have HX := Lib.hid (Box2.new w 0 0 24)
  have HN := Lib.hid hn
  have HR := Lib.hid hr
  have hz := Ps.on_cutN (Ps.onB_zero (Ps.rightB_iff.mp hr))
  rw [hz.1, hz.2]
  clear h hn hr hz
  go_enter Try.func13, Try.ntmps13
  go_wp2_with fail
  refine (refright_at l A n cap _ _ HE.out HN.out HR.out).mono ?_
  rintro e' w2 ⟨rfl, b2⟩
  have E2 := Lib.hid (HE.out.below b2)
  have X2 := Lib.hid (HX.out.below b2)
  obtain ⟨x0, x1, x2⟩ := X2.out
  have B2 := Lib.hid (bel_new b2)
  clear b2
  go_wp2_with fail
  refine (refis_at l A n cap 0 0 w2 true E2.out HN.out rfl).mono ?_
  rintro e' w3 ⟨rfl, b3⟩
  have X3 := Lib.hid (X2.out.below b3)
  have B3 := Lib.hid (B2.out.trans (b3.mono B2.out.size))
  clear b3 x0 x1 x2
  obtain ⟨x0, x1, x2⟩ := X3.out
  go_wp2
  clear x0 x1 x2
  go_loopw [6] (ZcRel w w.heap.size) (fun _ _ => 0)
  case atStart => exact ⟨rfl, X3.out, B3.out⟩
  case round =>
    obtain ⟨rfl, hbox, hB⟩ := hrel
    have HBr := Lib.hid hB
    clear hB
    obtain ⟨x0, x1, x2⟩ := hbox
    go_wp2
    go_ret2
    exact ⟨rfl, HBr.out⟩
theorem refcut_any (l : List Ep) (A : Option Addr) (n cap : Nat) (e i : Int) (w : World) (h : Eps w A l) (hn : l.length = n) (hc : n ≤ cap) : Calls Try.prog 13 #[.slice A n cap, .agg #[.int .i64 e, .int .i64 i]] w fun e' w' => e' = .returned (.tuple #[.int .i64 (Ps.cutN l e i : Nat), .bool (Ps.cutF l e i)]) ∧ Below w.heap.size w w' := by
  cases hp : Ps.posB l e i with
  | false => exact refcut_out l A n cap e i w h hn hp
  | true =>
    obtain ⟨hrr, hii⟩ := Ps.posB_iff.mp hp
    obtain ⟨k, rfl, hkl, h0, h512, hz1, hz2, hcut⟩ := hii.nat hrr
    by_cases hi : i = 0
    · obtain rfl : k = 0 := hz1 hi
      subst hi
      exact refcut_zero l A n cap w h hn (Ps.rightB_iff.mpr hrr)
    · obtain ⟨m, rfl⟩ : ∃ m : Nat, i = (m : Int) := ⟨i.toNat, by omega⟩
      exact refcut_in l A n cap k m w h hn hc (Ps.rightB_iff.mpr hrr) (Ps.isB_iff.mpr hii) (by omega) (by omega)

theorem refat_at (l : List Ep) (A : Option Addr) (n cap : Nat) (i x y : Int) (w : World) (h : Eps w A l) (hn : l.length = n) (hx : Ps.atE l i = x) (hy : Ps.atI l i = y) : Calls Try.prog 19 #[.slice A n cap, .int .i64 i] w fun e' w' => e' = .returned (.agg #[.int .i64 x, .int .i64 y]) ∧ Below w.heap.size w w' := by
  subst hx hy
  exact refat_any l A n cap i w h hn
set_option maxHeartbeats 2000000 in
theorem refbase_out (l : List Ep) (A : Option Addr) (n cap : Nat) (e i : Int) (w : World) (h : Eps w A l) (hn : l.length = n) (hp : Ps.posB l e i = false ∨ i = 0) : Calls Try.prog 21 #[.slice A n cap, .agg #[.int .i64 e, .int .i64 i]] w fun e' w' => e' = .returned (.agg #[.int .i64 (Ps.atE l (Ps.baseS l e i)), .int .i64 (Ps.atI l (Ps.baseS l e i))]) ∧ Below w.heap.size w w' := by
  have hz : Ps.baseS l e i = 0 := by
    rcases hp with hp | hp
    · unfold Ps.baseS; rw [hp]; rfl
    · cases hq : Ps.posB l e i with
      | false => unfold Ps.baseS; rw [hq]; rfl
      | true => have := Ps.baseS_le hq; omega
  rw [hz, (Ps.at_out (l := l) (i := 0) (by omega)).1, (Ps.at_out (l := l) (i := 0) (by omega)).2]
  have HE := Lib.hid ((h.alloc (.cells #[.int .i64 e, .int .i64 i] 24)).alloc (.cells #[.int .i64 0, .int .i64 0] 24))
  have HX := Lib.hid ((Box2.new w e i 24).below ((Below.refl _ _).alloc (Nat.le_refl _) (.cells #[.int .i64 0, .int .i64 0] 24)))
  have hY := Own2.new (w.alloc (.cells #[.int .i64 e, .int .i64 i] 24)) 0 0 24
  have hsz : (w.alloc (.cells #[.int .i64 e, .int .i64 i] 24)).heap.size = w.heap.size + 1 := by simp
  rw [hsz] at hY
  have HY := Lib.hid hY
  have HN := Lib.hid hn
  obtain ⟨r, hr⟩ : ∃ r, Ps.rightB l = r := ⟨_, rfl⟩
  obtain ⟨s, hs⟩ : ∃ s, Ps.isB l e i = s := ⟨_, rfl⟩
  have hrs : (r && s) = false ∨ i = 0 := by
    rcases hp with hp | hp
    · left; rw [← hr, ← hs]; exact hp
    · exact .inr hp
  have HR := Lib.hid hr
  have HS := Lib.hid hs
  clear h hn hr hs hp hz hY hsz
  cases r with
  | false =>
    clear hrs
    go_enter Try.func21, Try.ntmps21
    go_wp2_with fail
    refine (refright_at l A n cap _ _ HE.out HN.out HR.out).mono ?_
    rintro e' w2 ⟨rfl, b2⟩
    obtain ⟨x0, x1, x2, x3, x4⟩ := (HY.out.below b2).cells
    have B2 := Lib.hid (bel_new2 b2)
    clear b2
    go_wp2
    exact bodyPost_ret (v := .agg #[.int .i64 0, .int .i64 0]) (by simp [results, Try.results21, go_sem, x1, x2]) rfl ⟨rfl, bel_set B2.out (Nat.le_succ _)⟩
  | true =>
    cases s with
    | false =>
      clear hrs
      go_enter Try.func21, Try.ntmps21
      go_wp2_with fail
      refine (refright_at l A n cap _ _ HE.out HN.out HR.out).mono ?_
      rintro e' w2 ⟨rfl, b2⟩
      have E2 := Lib.hid (HE.out.below b2)
      have Y2 := Lib.hid (HY.out.below b2)
      obtain ⟨x0, x1, x2⟩ := HX.out.below b2
      have B2 := Lib.hid (bel_new2 b2)
      clear b2
      go_wp2_with fail
      refine (refis_at l A n cap e i w2 _ E2.out HN.out HS.out).mono ?_
      rintro e' w3 ⟨rfl, b3⟩
      clear x0 x1 x2
      obtain ⟨x0, x1, x2, x3, x4⟩ := (Y2.out.below b3).cells
      have B3 := Lib.hid (B2.out.trans (b3.mono B2.out.size))
      clear b3
      go_wp2
      exact bodyPost_ret (v := .agg #[.int .i64 0, .int .i64 0]) (by simp [results, Try.results21, go_sem, x1, x2]) rfl ⟨rfl, bel_set B3.out (Nat.le_succ _)⟩
    | true =>
      obtain rfl : i = 0 := by rcases hrs with h1 | h1; cases h1; exact h1
      clear hrs
      go_enter Try.func21, Try.ntmps21
      go_wp2_with fail
      refine (refright_at l A n cap _ _ HE.out HN.out HR.out).mono ?_
      rintro e' w2 ⟨rfl, b2⟩
      have E2 := Lib.hid (HE.out.below b2)
      have X2 := Lib.hid (HX.out.below b2)
      have Y2 := Lib.hid (HY.out.below b2)
      obtain ⟨x0, x1, x2⟩ := X2.out
      have B2 := Lib.hid (bel_new2 b2)
      clear b2
      go_wp2_with fail
      refine (refis_at l A n cap e 0 w2 _ E2.out HN.out HS.out).mono ?_
      rintro e' w3 ⟨rfl, b3⟩
      clear x0 x1 x2
      obtain ⟨x0, x1, x2, x3, x4⟩ := (Y2.out.below b3).cells
      obtain ⟨y0, y1, y2⟩ := X2.out.below b3
      have B3 := Lib.hid (B2.out.trans (b3.mono B2.out.size))
      clear b3
      go_wp2
      exact bodyPost_ret (v := .agg #[.int .i64 0, .int .i64 0]) (by simp [results, Try.results21, go_sem, x1, x2]) rfl ⟨rfl, bel_set B3.out (Nat.le_succ _)⟩

def BsRel (l : List Ep) (A : Option Addr) (k n m s h1 h2 : Nat) (w : World) (v : Value) (wr : World) : Prop :=
  ∃ x : Nat, x ≤ s ∧ v = .int .i64 (x : Int) ∧ wr.rowIs h1 3 513 (brV l k) ∧ wr.rowIs h2 3 513 (brV l n) ∧ Box2 wr w.heap.size (k : Int) (m : Int) ∧ Own2 wr (w.heap.size + 1) 0 0 ∧ Eps wr A l ∧ Below w.heap.size w wr
theorem row_drew {w : World} {h n q : Nat} {t : TypeId} {f : Nat → Value} (r : w.rowIs h t n f) : (w.drewN q).rowIs h t n f := r.of_block rfl
theorem box_drew {w : World} {h q : Nat} {x y : Int} (b : Box2 w h x y) : Box2 (w.drewN q) h x y := b
theorem own_drew {w : World} {h q : Nat} {x y : Int} (b : Own2 w h x y) : Own2 (w.drewN q) h x y := b
theorem eps_drew {w : World} {A : Option Addr} {q : Nat} {l : List Ep} (b : Eps w A l) : Eps (w.drewN q) A l := b
set_option maxRecDepth 100000 in
set_option maxHeartbeats 8000000 in
theorem refbase_in (l : List Ep) (A : Option Addr) (n cap k m : Nat) (w : World) (h : Eps w A l) (hn : l.length = n) (hc : n ≤ cap) (hr : Ps.rightB l = true) (hs : Ps.isB l (k : Int) (m : Int) = true) (hk : 1 ≤ k) (hm : 1 ≤ m) :
    Calls Try.prog 21 #[.slice A n cap, .agg #[.int .i64 (k : Int), .int .i64 (m : Int)]] w fun e' w' => e' = .returned (.agg #[.int .i64 (Ps.atE l (Ps.baseS l (k : Int) (m : Int))), .int .i64 (Ps.atI l (Ps.baseS l (k : Int) (m : Int)))]) ∧ Below w.heap.size w w' := by
  have HE := Lib.hid ((h.alloc (.cells #[.int .i64 (k : Int), .int .i64 (m : Int)] 24)).alloc (.cells #[.int .i64 0, .int .i64 0] 24))
  have HX := Lib.hid ((Box2.new w (k : Int) (m : Int) 24).below ((Below.refl _ _).alloc (Nat.le_refl _) (.cells #[.int .i64 0, .int .i64 0] 24)))
  have hY := Own2.new (w.alloc (.cells #[.int .i64 (k : Int), .int .i64 (m : Int)] 24)) 0 0 24
  have hsz : (w.alloc (.cells #[.int .i64 (k : Int), .int .i64 (m : Int)] 24)).heap.size = w.heap.size + 1 := by simp
  rw [hsz] at hY
  have HY := Lib.hid hY
  have HN := Lib.hid hn
  have HR := Lib.hid hr
  have HS := Lib.hid hs
  have hrr := Ps.rightB_iff.mp hr
  have hii := Ps.isB_iff.mp hs
  have hpos := Ps.posB_iff.mpr ⟨hrr, hii⟩
  obtain ⟨k', hk', hkl, h0, h512, hz1, hz2, hcut⟩ := hii.nat hrr
  obtain rfl : k = k' := by omega
  have hkn : k ≤ n := by omega
  have hkc : k ≤ cap := by omega
  have hbs : Ps.baseS l (k : Int) (m : Int) = Ps.shared l k (m : Int) n := by unfold Ps.baseS; rw [hpos, Int.toNat_natCast, hn]; rfl
  have hble := Ps.baseS_le hpos
  rw [hbs] at hble ⊢
  obtain ⟨s, hsv⟩ : ∃ s : Nat, Ps.shared l k (m : Int) n = (s : Int) := ⟨(Ps.shared l k (m : Int) n).toNat, by omega⟩
  have hsm : s ≤ m := by omega
  have hm512 : m ≤ 512 := by omega
  have hsame : ∀ x : Nat, x ≤ m → (Ps.topE l (x : Int) k = Ps.topE l (x : Int) n ↔ x ≤ s) := by
    intro x hx
    rw [Ps.top_same (l := l) (i := (m : Int)) hkn (show (x : Int) ≤ (m : Int) by omega), hsv]
    omega
  rw [hsv]
  obtain ⟨a0, ha0⟩ : ∃ a, Ps.atE l (s : Int) = a := ⟨_, rfl⟩
  obtain ⟨a1, ha1⟩ : ∃ a, Ps.atI l (s : Int) = a := ⟨_, rfl⟩
  rw [ha0, ha1]
  have HA0 := Lib.hid ha0
  have HA1 := Lib.hid ha1
  have HSM := Lib.hid hsame
  have HBR1 : Hid (∀ W, Eps W A l → Calls Try.prog 29 #[.slice A k cap] W (BrPost (l.take k) k W)) := fun W hW => branch_any (l.take k) A k cap W (hW.take k) (by rw [List.length_take, HN.out]; omega) (Ps.rightB_iff.mpr (hrr.take hk))
  have HBR2 : Hid (∀ W, Eps W A l → Calls Try.prog 29 #[.slice A n cap] W (BrPost l n W)) := fun W hW => branch_any l A n cap W hW HN.out HR.out
  have hm0 : ((m : Int) == 0) = false := by simp; omega
  clear h hn hr hs hrr hii hpos hk' hkl h0 h512 hz1 hz2 hcut hbs hble hsv hsame ha0 ha1 hY hsz
  go_enter Try.func21, Try.ntmps21
  go_wp2_with fail
  refine (refright_at l A n cap _ _ HE.out HN.out HR.out).mono ?_
  rintro e' w2 ⟨rfl, b2⟩
  have E2 := Lib.hid (HE.out.below b2)
  have X2 := Lib.hid (HX.out.below b2)
  have Y2 := Lib.hid (HY.out.below b2)
  obtain ⟨x0, x1, x2⟩ := X2.out
  have B2 := Lib.hid (bel_new2 b2)
  clear b2
  go_wp2_with fail
  refine (refis_at l A n cap (k : Int) (m : Int) w2 _ E2.out HN.out HS.out).mono ?_
  rintro e' w3 ⟨rfl, b3⟩
  clear x0 x1 x2
  have E3 := Lib.hid (E2.out.below b3)
  have X3 := Lib.hid (X2.out.below b3)
  have Y3 := Lib.hid (Y2.out.below b3)
  obtain ⟨x0, x1, x2⟩ := X3.out
  have B3 := Lib.hid (B2.out.trans (b3.mono B2.out.size))
  clear b3
  go_wp2_with fail
  refine (HBR1.out w3 E3.out).mono ?_
  rintro e' w4 ⟨h1, rfl, hh1, hrow1, b4⟩
  clear x0 x1 x2
  have R4 : Hid (w4.rowIs h1 3 513 (brV l k)) := hrow1.congr (fun x _ => by unfold brV; rw [Ps.topE_take (Nat.le_refl _)])
  have E4 := Lib.hid (E3.out.below b4)
  have X4 := Lib.hid (X3.out.below b4)
  have Y4 := Lib.hid (Y3.out.below b4)
  have B4 := Lib.hid (B3.out.trans (b4.mono B3.out.size))
  clear b4 hrow1 hh1
  go_wp2_with fail
  refine (HBR2.out w4 E4.out).mono ?_
  rintro e' w5 ⟨h2, rfl, hh2, hrow2, b5⟩
  have R5 := Lib.hid (R4.out.of_block (b5.block _ R4.out.lt))
  have S5 := Lib.hid hrow2
  have E5 := Lib.hid (E4.out.below b5)
  have X5 := Lib.hid (X4.out.below b5)
  have Y5 := Lib.hid (Y4.out.below b5)
  have B5 := Lib.hid (B4.out.trans (b5.mono B4.out.size))
  clear b5 hrow2 hh2
  go_wp2
  go_loopw [7] (BsRel l A k n m s h1 h2 w) (fun v _ => m - (intOf v).toNat)
  case atStart => exact ⟨0, Nat.zero_le _, rfl, R5.out, S5.out, X5.out, Y5.out, E5.out, B5.out⟩
  case round =>
    obtain ⟨x, hxs, rfl, hr1, hr2, hbox, hown, hE, hB⟩ := hrel
    have HR1 := Lib.hid hr1
    have HR2 := Lib.hid hr2
    have HXr := Lib.hid hbox
    have HYr := Lib.hid hown
    have HEr := Lib.hid hE
    have HBr := Lib.hid hB
    clear hr1 hr2 hbox hown hE hB
    obtain ⟨x0, x1, x2⟩ := HXr.out
    by_cases hxm : x < m
    · have hxmi : decide ((x : Int) < (m : Int)) = true := by simp; omega
      have hxmn : decide (x < m) = true := by simp; omega
      have r1 := HR1.out.cell (i := x + 1) (by omega)
      have r2 := HR2.out.cell (i := x + 1) (by omega)
      obtain ⟨ta, hta⟩ : ∃ t : Int, ((Ps.topE l ((x + 1 : Nat) : Int) k : Nat) : Int) = t := ⟨_, rfl⟩
      obtain ⟨tb, htb⟩ : ∃ t : Int, ((Ps.topE l ((x + 1 : Nat) : Int) n : Nat) : Int) = t := ⟨_, rfl⟩
      rw [show brV l k (x + 1) = .int .i64 ta by unfold brV; rw [hta]] at r1
      rw [show brV l n (x + 1) = .int .i64 tb by unfold brV; rw [htb]] at r2
      have hiff : ta = tb ↔ x + 1 ≤ s := by
        rw [← HSM.out (x + 1) (by omega), ← hta, ← htb]
        omega
      have HIFF := Lib.hid hiff
      have hwr : IntKind.i64.wrap ((x : Int) + 1) = ((x + 1 : Nat) : Int) := (IntWalk.i64_in _ (by omega)).trans (by omega)
      have hb1 : x + 1 < 513 := by omega
      have hb2 : ((x + 1 : Nat) : Int) < 513 := by omega
      have HWR := Lib.hid hwr
      clear hta htb hiff hwr
      by_cases heq : ta = tb
      · subst heq
        have hx1 := HIFF.out.mp rfl
        have HX1 := Lib.hid hx1
        clear hx1
        go_wp2
        have hwr := HWR.out
        go_quiet (fail)
        clear hwr
        go_wp2
        go_roundw
        case rel => exact ⟨x + 1, HX1.out, by go_num, row_drew HR1.out, row_drew HR2.out, box_drew HXr.out, own_drew HYr.out, eps_drew HEr.out, bel_drew HBr.out _⟩
        case measure => simp [intOf]; omega
      · have HXS : Hid (x = s) := by
          have h3 : ¬ x + 1 ≤ s := fun h4 => heq (HIFF.out.mpr h4)
          show _ = _
          omega
        have hne : (ta == tb) = false := by simp [heq]
        go_wp2
        have hwr := HWR.out
        go_quiet (fail)
        clear hwr
        obtain ⟨w6, hw6⟩ : ∃ w6, wr.drewN nq = w6 := ⟨_, rfl⟩
        have E6 : Hid (Eps w6 A l) := by rw [← hw6]; exact eps_drew HEr.out
        have Y6 : Hid (Own2 w6 (w.heap.size + 1) 0 0) := by rw [← hw6]; exact own_drew HYr.out
        have B6 : Hid (Below w.heap.size w w6) := by rw [← hw6]; exact bel_drew HBr.out _
        rw [hw6]
        clear hw6
        go_wp2_with fail
        refine (refat_at l A n cap (x : Int) a0 a1 w6 E6.out HN.out (by rw [HXS.out]; exact HA0.out) (by rw [HXS.out]; exact HA1.out)).mono ?_
        rintro e' w7 ⟨rfl, b7⟩
        obtain ⟨z0, z1, z2, z3, z4⟩ := (Y6.out.below b7).cells
        have B7 := Lib.hid (B6.out.trans (b7.mono B6.out.size))
        clear b7 x0 x1 x2
        go_wp2
        exact bodyPost_ret (v := .agg #[.int .i64 a0, .int .i64 a1]) (by simp [results, Try.results21, go_sem, z1, z2]) rfl ⟨rfl, bel_set B7.out (Nat.le_succ _)⟩
    · have hxmi : decide ((x : Int) < (m : Int)) = false := by simp; omega
      have hxmn : decide (x < m) = false := by simp; omega
      have HXS : Hid (x = s) := by show _ = _; omega
      go_wp2
      go_quiet (fail)
      obtain ⟨w6, hw6⟩ : ∃ w6, wr.drewN nq = w6 := ⟨_, rfl⟩
      have E6 : Hid (Eps w6 A l) := by rw [← hw6]; exact eps_drew HEr.out
      have Y6 : Hid (Own2 w6 (w.heap.size + 1) 0 0) := by rw [← hw6]; exact own_drew HYr.out
      have B6 : Hid (Below w.heap.size w w6) := by rw [← hw6]; exact bel_drew HBr.out _
      rw [hw6]
      clear hw6
      go_wp2_with fail
      refine (refat_at l A n cap (x : Int) a0 a1 w6 E6.out HN.out (by rw [HXS.out]; exact HA0.out) (by rw [HXS.out]; exact HA1.out)).mono ?_
      rintro e' w7 ⟨rfl, b7⟩
      obtain ⟨z0, z1, z2, z3, z4⟩ := (Y6.out.below b7).cells
      have B7 := Lib.hid (B6.out.trans (b7.mono B6.out.size))
      clear b7 x0 x1 x2
      go_wp2
      exact bodyPost_ret (v := .agg #[.int .i64 a0, .int .i64 a1]) (by simp [results, Try.results21, go_sem, z1, z2]) rfl ⟨rfl, bel_set B7.out (Nat.le_succ _)⟩
theorem refbase_any (l : List Ep) (A : Option Addr) (n cap : Nat) (e i : Int) (w : World) (h : Eps w A l) (hn : l.length = n) (hc : n ≤ cap) : Calls Try.prog 21 #[.slice A n cap, .agg #[.int .i64 e, .int .i64 i]] w fun e' w' => e' = .returned (.agg #[.int .i64 (Ps.atE l (Ps.baseS l e i)), .int .i64 (Ps.atI l (Ps.baseS l e i))]) ∧ Below w.heap.size w w' := by
  by_cases hp : Ps.posB l e i = false ∨ i = 0
  · exact refbase_out l A n cap e i w h hn hp
  · have hp1 : Ps.posB l e i = true := by
      cases hq : Ps.posB l e i with
      | true => rfl
      | false => exact absurd (.inl hq) hp
    obtain ⟨hrr, hii⟩ := Ps.posB_iff.mp hp1
    obtain ⟨k, rfl, hkl, h0, h512, hz1, hz2, hcut⟩ := hii.nat hrr
    have hi : i ≠ 0 := fun h1 => hp (.inr h1)
    obtain ⟨m, rfl⟩ : ∃ m : Nat, i = (m : Int) := ⟨i.toNat, by omega⟩
    exact refbase_in l A n cap k m w h hn hc (Ps.rightB_iff.mpr hrr) (Ps.isB_iff.mpr hii) (by omega) (by omega)
end Go.Proofs.Ytkomemiebgnknaa

/-
  DiskFuses' walk. Its conditions: none.
-/
import Derived.Test.YtghfhjeaiiianaaW13
import Derived.Deep.CutBlock
namespace Go.Proofs.Ytghfhjeaiiianaa
open Go.RowKit
open Go.Sort (grow)

/-- A Put's cells. -/
def ePt : Enc Pt := ⟨fun x => [.int .i64 x.a, .int .u8 (x.f.toNat : Int), .bool x.s], 3, fun _ => rfl, fun x v hv => by simp at hv; rcases hv with rfl | rfl | rfl <;> rfl, by decide⟩
theorem at_pt {w : World} {A : Option Addr} {l : List Pt} (h : Sl ePt w A l) {k : Nat} (hk : k < l.length) : ∃ b off, A = some ⟨b, off, none⟩ ∧ b < w.heap.size ∧
    w.cell? ⟨b, off + k * 3, none⟩ = some (.int .i64 l[k].a) ∧ w.cell? ⟨b, off + k * 3 + 1, none⟩ = some (.int .u8 (l[k].f.toNat : Int)) ∧ w.cell? ⟨b, off + k * 3 + 2, none⟩ = some (.bool l[k].s) := by
  obtain ⟨b, off, hA, hb, hc⟩ := h.at_ hk
  exact ⟨b, off, hA, hb, hc 0 _ rfl, hc 1 _ rfl, hc 2 _ rfl⟩
theorem blk_sl {w : World} {q : Nat} {l : List UInt8} (h : BlkAt w q l) (hl : l.length = 64) : Sl eBy w (some ⟨q, 0, none⟩) l := by
  refine ⟨by rw [hl]; unfold maxLen; omega, fun _ => ⟨q, 0, rfl, lt_of_heap h, fun k x hk i u hu => ?_⟩⟩
  have hi : i = 0 := by
    have := (List.getElem?_eq_some_iff.mp hu).1
    have e : (eBy.f x).length = 1 := rfl
    omega
  subst hi
  have hu : Value.int .u8 (x.toNat : Int) = u := by simpa [eBy] using hu
  have hkl := (List.getElem?_eq_some_iff.mp hk).1
  have := h.cell hkl
  rw [show eBy.wd = 1 from rfl, Nat.mul_one, Nat.zero_add, Nat.add_zero, this, ← hu]
  rw [List.getElem?_eq_getElem hkl] at hk
  cases hk
  rfl

/-- A disk whose fuse was set to k, behind i steps. -/
structure FI (k : Nat) (d : Dk) (i : Nat) : Prop where
  len : d.K.length = 8
  ps : d.ps.length ≤ i
  f : (i ≤ k ∧ d.fuse = (k : Int) - (i : Int) ∧ d.down = false ∧ d.steps = (i : Int)) ∨ (k < i ∧ d.down = true ∧ d.steps = (k : Int))
section
variable {k i : Nat} {d : Dk}
theorem FI.start (k : Nat) : FI k (fuseD (newD 8) (k : Int)) 0 := ⟨by simp [fuseD, newD], by simp [fuseD, newD], .inl ⟨Nat.zero_le _, by simp [fuseD]; omega, rfl, rfl⟩⟩
theorem FI.can (h : FI k d i) : stepB d = decide (i < k) := by
  unfold stepB
  rcases h.f with ⟨h1, h2, h3, _⟩ | ⟨h1, h2, _⟩
  · rw [h3, h2]
    by_cases e : i = k
    · subst e; simp
    · have : i < k := by omega
      have h4 : ¬ ((k : Int) - (i : Int) = 0) := by omega
      simp [this, h4]
  · rw [h2]
    have : ¬ i < k := by omega
    simp [this]
theorem FI.next (h : FI k d i) : (stepD d).down = decide (k ≤ i) ∧ ((i + 1 ≤ k ∧ (stepD d).fuse = (k : Int) - ((i + 1 : Nat) : Int) ∧ (stepD d).down = false ∧ (stepD d).steps = ((i + 1 : Nat) : Int)) ∨ (k < i + 1 ∧ (stepD d).down = true ∧ (stepD d).steps = (k : Int))) := by
  unfold stepD
  rcases h.f with ⟨h1, h2, h3, h4⟩ | ⟨h1, h2, h4⟩
  · rw [h3]
    simp only [Bool.false_eq_true, if_false]
    by_cases e : i = k
    · subst e
      have h5 : d.fuse = 0 := by rw [h2]; omega
      rw [if_pos h5]
      exact ⟨by simp, .inr ⟨by omega, rfl, h4⟩⟩
    · have h5 : ¬ d.fuse = 0 := by rw [h2]; omega
      have h6 : 0 < d.fuse := by rw [h2]; omega
      rw [if_neg h5]
      have h7 : ¬ k ≤ i := by omega
      refine ⟨by simp [h7], .inl ⟨by omega, ?_, rfl, ?_⟩⟩
      · simp only [h6, if_true]
        rw [h2]
        omega
      · simp only
        rw [h4]
        omega
  · rw [h2]
    simp only [if_true]
    have h7 : k ≤ i := by omega
    exact ⟨by rw [h2]; simp [h7], .inr ⟨by omega, h2, h4⟩⟩
theorem FI.sync (h : FI k d i) : FI k (if stepB d then keepD d else stepD d) (i + 1) := by
  cases stepB d with
  | true => exact ⟨by show (seen d.K d.ps).length = 8; rw [seen_length]; exact h.len, by simp [keepD], h.next.2⟩
  | false => exact ⟨by show (stepD d).K.length = 8; rw [stepD_K]; exact h.len, by show (stepD d).ps.length ≤ _; rw [stepD_ps]; have := h.ps; omega, h.next.2⟩
theorem FI.write (h : FI k d i) {j : Nat} (hj : j < 8) {l : List UInt8} (hl : l.length = 64) : FI k (writeD d (j : Int) l) (i + 1) ∧ writeR d (j : Int) l = if i < k then 0 else 7 := by
  have hf : fits d (j : Int) l.length = true := by simp [fits, hl, h.len]; omega
  unfold writeD writeR
  rw [hf, h.can]
  simp only [if_true, decide_eq_true_eq]
  by_cases e : i < k
  · simp only [e, if_true]
    refine ⟨⟨?_, ?_, h.next.2⟩, trivial⟩
    · show (stepD d).K.length = 8
      rw [stepD_K]
      exact h.len
    · show (d.ps ++ _).length ≤ _
      have := h.ps
      simp
      omega
  · simp only [e, if_false]
    exact ⟨⟨by rw [stepD_K]; exact h.len, by rw [stepD_ps]; have := h.ps; omega, h.next.2⟩, trivial⟩
theorem FI.dn (h : FI k d i) : d.down = decide (k < i) := by
  rcases h.f with ⟨h1, _, h3, _⟩ | ⟨h1, h2, _⟩
  · rw [h3]
    have : ¬ k < i := by omega
    simp [this]
  · rw [h2]
    simp [h1]
theorem FI.st (h : FI k d i) : d.steps = ((min i k : Nat) : Int) := by
  rcases h.f with ⟨h1, _, _, h4⟩ | ⟨h1, _, h4⟩
  · rw [h4]
    omega
  · rw [h4]
    omega
theorem FI.rd (h : FI k d i) : readR d 0 = if k < i then 7 else 0 := by
  unfold readR has
  rw [h.len, h.dn]
  by_cases e : k < i <;> simp [e]
end
/-- Which sector a Put names, of eight. -/
def uOf (a : Int) (n : Nat) : Nat := (a % 18446744073709551616).toNat % n
theorem uOf_lt (a : Int) {n : Nat} (h : 0 < n) : uOf a n < n := Nat.mod_lt _ h
theorem u_wrap (a : Int) : IntKind.u64.wrap a = (((a % 18446744073709551616).toNat : Nat) : Int) := by
  show a % 18446744073709551616 = _
  omega
/-- The answer of the step i behind a fuse of k. -/
def ev (i k : Nat) : Int := if i < k then 0 else 7
/-- What a round leaves, behind its step. -/
def FuRel (w : World) (g k i : Nat) (s10 : Value) (wx : World) : Prop := ∃ d, s10 = .int .i64 (ev i k) ∧ St w wx g d ∧ FI k d (i + 1)
theorem st_sync7 {w0 W : World} {g k i : Nat} {d : Dk} (s : St w0 W g d) (h : FI k d i) (hs : d.steps ≤ 1000000) :
    Calls Try.prog 11 #[.pointer (some ⟨g, 0, none⟩)] W fun r w' => ∃ d', r = .returned (.int .i64 (ev i k)) ∧ St w0 w' g d' ∧ FI k d' (i + 1) := by
  refine (st_sync s hs).mono ?_
  rintro r w' ⟨rfl, hs', _⟩
  refine ⟨_, ?_, hs', h.sync⟩
  rw [h.can]
  simp [ev]
set_option maxRecDepth 100000 in
set_option maxHeartbeats 8000000 in
theorem fuses_walk (f : Int) (l : List Pt) (A : Option Addr) (n c : Nat) (w : World) (hf : 0 ≤ f ∧ f ≤ 255) (hl : Sl ePt w A l) (hn : l.length = n) :
    Calls Try.prog 6 #[.int .u8 f, .slice A n c] w fun e w' => e = .returned (.bool true) ∧ Below w.heap.size w w' := by
  obtain ⟨k, hk⟩ : ∃ k : Nat, (k : Int) = f.tmod 50 := ⟨(f.tmod 50).toNat, by
    rw [Int.tmod_eq_emod_of_nonneg hf.1]
    omega⟩
  have hk1 : k < 50 := by
    have := Int.tmod_eq_emod_of_nonneg (b := 50) hf.1
    omega
  have hrem : f.tmod 50 = (k : Int) := hk.symm
  have HL := Lib.hid hl
  have HN := Lib.hid hn
  have HK1 := Lib.hid hk1
  have hk2 : (k : Int) < 50 := by omega
  obtain ⟨hf0, hf1⟩ := hf
  clear hk hl hn hk1
  go_enter Try.func6, Try.ntmps6
  go_wp2_with fail
  refine (awake_any w).mono ?_
  rintro r w1 ⟨rfl, b1⟩
  go_wp2_with fail
  refine (st_new (w0 := w) 8 (by omega) (by omega) b1).mono ?_
  rintro r w2 ⟨g, rfl, s2, _⟩
  clear b1
  go_wp2_with fail
  refine (st_fuse s2 (k : Int) (by omega)).mono ?_
  rintro r w3 ⟨rfl, s3, _⟩
  have HS3 := Lib.hid s3
  clear s2 s3
  go_wp2
  go_loopw [8, 9] (fun s8 s9 wr => ∃ (i : Nat) (d : Dk), i ≤ 100 ∧ i ≤ n ∧ s9 = .int .i64 (i : Int) ∧ s8 = .int .i64 ((min i k : Nat) : Int) ∧ St w wr g d ∧ FI k d i) (fun _ s _ => 100 - (intOf s).toNat)
  case atStart => exact ⟨0, _, by omega, by omega, rfl, by simp, HS3.out, FI.start k⟩
  case round =>
    obtain ⟨i, d, hi, hin, rfl, rfl, hs, hfi⟩ := hrel
    have HS := Lib.hid hs
    have HF := Lib.hid hfi
    clear hs hfi HS3
    by_cases hlt : i < n ∧ i < 100
    · obtain ⟨h1, h2⟩ := hlt
      have h1i : (i : Int) < (n : Int) := by omega
      have h2i : (i : Int) < 100 := by omega
      have hi0 : (0 : Int) ≤ (i : Int) := by omega
      have hil : i < l.length := by rw [HN.out]; exact h1
      obtain ⟨b, off, rfl, hbw, d0, d1, d2⟩ := at_pt HL.out hil
      generalize l[i] = x at d0 d1 d2
      have HWR : Hid (Below w.heap.size w wr) := HS.out.bel
      have cb : ∀ w', Below w.heap.size w w' → w'.cell? ⟨b, off + i * 3, none⟩ = some (.int .i64 x.a) ∧ w'.cell? ⟨b, off + i * 3 + 1, none⟩ = some (.int .u8 (x.f.toNat : Int)) ∧ w'.cell? ⟨b, off + i * 3 + 2, none⟩ = some (.bool x.s) := fun w' h => ⟨(h.cell (p := ⟨b, _, none⟩) hbw).trans d0, (h.cell (p := ⟨b, _, none⟩) hbw).trans d1, (h.cell (p := ⟨b, _, none⟩) hbw).trans d2⟩
      have DP := Lib.hid cb
      obtain ⟨e0, e1, e2⟩ := cb wr HWR.out
      have HK : Hid (i + 1 ≤ 100 ∧ i + 1 ≤ n) := ⟨h2, h1⟩
      have HFS : Hid (d.steps ≤ 100) := by
        show _ ≤ _
        rw [HF.out.st]
        omega
      have HFP : Hid (d.ps.length ≤ 100) := by
        show _ ≤ _
        have := HF.out.ps
        omega
      clear cb d0 d1 d2 hil hbw hi hin h1 h2
      go_upto_if 39 with fail
      go_cut [10] from 25 to 92 (FuRel w g k i)
      case first =>
        cases hx : x.s with
        | true =>
          rw [hx] at e2
          have CS := Lib.hid (st_sync7 HS.out HF.out (by have := HFS.out; omega))
          clear hx
          go_wp2_with fail
          refine CS.out.mono ?_
          rintro r wd ⟨d', rfl, SD, FD⟩
          go_wp2
          go_meet
          case rel => exact ⟨d', rfl, SD, FD⟩
        | false =>
          rw [hx] at e2
          obtain ⟨j, hj⟩ : ∃ j, j = uOf x.a 8 := ⟨_, rfl⟩
          obtain ⟨u, hu⟩ : ∃ u, u = (x.a % 18446744073709551616).toNat := ⟨_, rfl⟩
          have hw1 : IntKind.u64.wrap x.a = (u : Int) := by rw [hu]; exact u_wrap _
          have hj2 : j = u % 8 := by rw [hj, hu]; rfl
          have hw2 : ((u : Int)).tmod 8 = (j : Int) := by rw [Int.tmod_eq_emod_of_nonneg (by omega)]; omega
          have hj3 : j < 8 := by omega
          have hw3 : IntKind.i64.wrap (j : Int) = (j : Int) := IntWalk.i64_in _ (by omega)
          have HJ := Lib.hid hj3
          have hu0 : (0 : Int) ≤ (u : Int) := by omega
          clear hx hj hu hj2 hj3
          have hwr := HF.out.write HJ.out (blockL_length x.f)
          have HWRT := Lib.hid hwr.1
          have HWRE : Hid (writeR d (j : Int) (blockL x.f) = ev i k) := hwr.2
          clear hwr
          go_wp2_with fail
          refine wp_region_held_drew (S := fun w' => Below w.heap.size w w') (by kernel_rfl) (HWR.out.drew) (fun hHeld => ?_)
          refine wpAnyH_take (i := 0) (oi := { dst := some 42, op := Op.move (Operand.tmp 5), type := 24, pos := "more.go:81", after := #[], guard := none }) (v := ?v13n1) rfl (by kernel_rfl) (by kernel_rfl) (by kernel_rfl) (fun _ _ _ h => h) (Or.inl ⟨by rfl, ?hy13n1⟩) (by assumption) ?rest13n1
          case hy13n1 => (intro w hSw; (try dsimp only at hSw); obtain ⟨q0, q1, q2⟩ := DP.out _ hSw; go_simp <;> (try with_reducible rfl))
          try simp only [Act.put, List.setIfInBounds_toArray, List.set_cons_zero, List.set_cons_succ]
          refine wpAnyH_take (i := 1) (oi := { dst := some 43, op := Op.move (Operand.tmp 1), type := 53, pos := "more.go:81", after := #[], guard := none }) (v := ?v13n2) rfl (by kernel_rfl) (by kernel_rfl) (by kernel_rfl) (fun _ _ _ h => h) (Or.inl ⟨by rfl, ?hy13n2⟩) (by assumption) ?rest13n2
          case hy13n2 => (intro w hSw; (try dsimp only at hSw); obtain ⟨q0, q1, q2⟩ := DP.out _ hSw; go_simp <;> (try with_reducible rfl))
          try simp only [Act.put, List.setIfInBounds_toArray, List.set_cons_zero, List.set_cons_succ]
          refine wpAnyH_take (i := 2) (oi := { dst := some 44, op := Op.move (Operand.tmp 9), type := 3, pos := "more.go:81", after := #[], guard := none }) (v := ?v13n3) rfl (by kernel_rfl) (by kernel_rfl) (by kernel_rfl) (fun _ _ _ h => h) (Or.inl ⟨by rfl, ?hy13n3⟩) (by assumption) ?rest13n3
          case hy13n3 => (intro w hSw; (try dsimp only at hSw); obtain ⟨q0, q1, q2⟩ := DP.out _ hSw; go_simp <;> (try with_reducible rfl))
          try simp only [Act.put, List.setIfInBounds_toArray, List.set_cons_zero, List.set_cons_succ]
          refine wpAnyH_take (i := 3) (oi := { dst := some 45, op := Op.indexAddr 53 (Operand.tmp 43) (Operand.tmp 44), type := 0, pos := "more.go:81", after := #[{ on := 1, ground := Ground.data }, { on := 2, ground := Ground.data }], guard := none }) (v := ?v13n4) rfl (by kernel_rfl) (by kernel_rfl) (by kernel_rfl) (fun _ _ _ h => h) (Or.inl ⟨by rfl, ?hy13n4⟩) (by assumption) ?rest13n4
          case hy13n4 => (intro w hSw; (try dsimp only at hSw); obtain ⟨q0, q1, q2⟩ := DP.out _ hSw; go_simp <;> (try with_reducible rfl))
          try simp only [Act.put, List.setIfInBounds_toArray, List.set_cons_zero, List.set_cons_succ]
          refine wpAnyH_take (i := 4) (oi := { dst := some 46, op := Op.fieldAddr 56 (Operand.tmp 45) 0, type := 0, pos := "more.go:81", after := #[{ on := 3, ground := Ground.data }], guard := none }) (v := ?v13n5) rfl (by kernel_rfl) (by kernel_rfl) (by kernel_rfl) (fun _ _ _ h => h) (Or.inl ⟨by rfl, ?hy13n5⟩) (by assumption) ?rest13n5
          case hy13n5 => (intro w hSw; (try dsimp only at hSw); obtain ⟨q0, q1, q2⟩ := DP.out _ hSw; go_simp <;> (try with_reducible rfl))
          try simp only [Act.put, List.setIfInBounds_toArray, List.set_cons_zero, List.set_cons_succ]
          refine wpAnyH_take (i := 5) (oi := { dst := some 47, op := Op.load 3 (Operand.tmp 46), type := 3, pos := "more.go:81", after := #[{ on := 4, ground := Ground.data }], guard := none }) (v := ?v13n6) rfl (by kernel_rfl) (by kernel_rfl) (by kernel_rfl) (fun _ _ _ h => h) (Or.inl ⟨by rfl, ?hy13n6⟩) (by assumption) ?rest13n6
          case hy13n6 => (intro w hSw; (try dsimp only at hSw); obtain ⟨q0, q1, q2⟩ := DP.out _ hSw; go_simp <;> (try with_reducible rfl))
          try simp only [Act.put, List.setIfInBounds_toArray, List.set_cons_zero, List.set_cons_succ]
          refine wpAnyH_take (i := 6) (oi := { dst := some 48, op := Op.convert 3 57 (Operand.tmp 47), type := 57, pos := "more.go:81", after := #[{ on := 5, ground := Ground.data }], guard := none }) (v := ?v13n7) rfl (by kernel_rfl) (by kernel_rfl) (by kernel_rfl) (fun _ _ _ h => h) (Or.inl ⟨by rfl, ?hy13n7⟩) (by assumption) ?rest13n7
          case hy13n7 => (intro w hSw; (try dsimp only at hSw); obtain ⟨q0, q1, q2⟩ := DP.out _ hSw; go_simp <;> (try with_reducible rfl))
          try simp only [Act.put, List.setIfInBounds_toArray, List.set_cons_zero, List.set_cons_succ]
          refine wpAnyH_take (i := 7) (oi := { dst := some 49, op := Op.binOp BinOp.rem 57 (Operand.tmp 48) (Operand.const (Value.int IntKind.u64 8)) 57, type := 57, pos := "more.go:81", after := #[{ on := 6, ground := Ground.data }], guard := none }) (v := ?v13n8) rfl (by kernel_rfl) (by kernel_rfl) (by kernel_rfl) (fun _ _ _ h => h) (Or.inl ⟨by rfl, ?hy13n8⟩) (by assumption) ?rest13n8
          case hy13n8 => (intro w hSw; (try dsimp only at hSw); obtain ⟨q0, q1, q2⟩ := DP.out _ hSw; go_simp <;> (try with_reducible rfl))
          try simp only [Act.put, List.setIfInBounds_toArray, List.set_cons_zero, List.set_cons_succ]
          refine wpAnyH_take (i := 8) (oi := { dst := some 50, op := Op.convert 57 3 (Operand.tmp 49), type := 3, pos := "more.go:81", after := #[{ on := 7, ground := Ground.data }], guard := none }) (v := ?v13n9) rfl (by kernel_rfl) (by kernel_rfl) (by kernel_rfl) (fun _ _ _ h => h) (Or.inl ⟨by rfl, ?hy13n9⟩) (by assumption) ?rest13n9
          case hy13n9 => (intro w hSw; (try dsimp only at hSw); obtain ⟨q0, q1, q2⟩ := DP.out _ hSw; go_simp <;> (try with_reducible rfl))
          try simp only [Act.put, List.setIfInBounds_toArray, List.set_cons_zero, List.set_cons_succ]
          refine wpAnyH_take (i := 9) (oi := { dst := some 51, op := Op.move (Operand.tmp 1), type := 53, pos := "more.go:81", after := #[], guard := none }) (v := ?v13n10) rfl (by kernel_rfl) (by kernel_rfl) (by kernel_rfl) (fun _ _ _ h => h) (Or.inl ⟨by rfl, ?hy13n10⟩) (by assumption) ?rest13n10
          case hy13n10 => (intro w hSw; (try dsimp only at hSw); obtain ⟨q0, q1, q2⟩ := DP.out _ hSw; go_simp <;> (try with_reducible rfl))
          try simp only [Act.put, List.setIfInBounds_toArray, List.set_cons_zero, List.set_cons_succ]
          refine wpAnyH_take (i := 10) (oi := { dst := some 52, op := Op.move (Operand.tmp 9), type := 3, pos := "more.go:81", after := #[], guard := none }) (v := ?v13n11) rfl (by kernel_rfl) (by kernel_rfl) (by kernel_rfl) (fun _ _ _ h => h) (Or.inl ⟨by rfl, ?hy13n11⟩) (by assumption) ?rest13n11
          case hy13n11 => (intro w hSw; (try dsimp only at hSw); obtain ⟨q0, q1, q2⟩ := DP.out _ hSw; go_simp <;> (try with_reducible rfl))
          try simp only [Act.put, List.setIfInBounds_toArray, List.set_cons_zero, List.set_cons_succ]
          refine wpAnyH_take (i := 11) (oi := { dst := some 53, op := Op.indexAddr 53 (Operand.tmp 51) (Operand.tmp 52), type := 0, pos := "more.go:81", after := #[{ on := 9, ground := Ground.data }, { on := 10, ground := Ground.data }], guard := none }) (v := ?v13n12) rfl (by kernel_rfl) (by kernel_rfl) (by kernel_rfl) (fun _ _ _ h => h) (Or.inl ⟨by rfl, ?hy13n12⟩) (by assumption) ?rest13n12
          case hy13n12 => (intro w hSw; (try dsimp only at hSw); obtain ⟨q0, q1, q2⟩ := DP.out _ hSw; go_simp <;> (try with_reducible rfl))
          try simp only [Act.put, List.setIfInBounds_toArray, List.set_cons_zero, List.set_cons_succ]
          refine wpAnyH_take (i := 12) (oi := { dst := some 54, op := Op.load 56 (Operand.tmp 53), type := 56, pos := "more.go:81", after := #[{ on := 11, ground := Ground.data }], guard := none }) (v := ?v13n13) rfl (by kernel_rfl) (by kernel_rfl) (by kernel_rfl) (fun _ _ _ h => h) (Or.inl ⟨by rfl, ?hy13n13⟩) (by assumption) ?rest13n13
          case hy13n13 => (intro w hSw; (try dsimp only at hSw); obtain ⟨q0, q1, q2⟩ := DP.out _ hSw; go_simp <;> (try with_reducible rfl))
          try simp only [Act.put, List.setIfInBounds_toArray, List.set_cons_zero, List.set_cons_succ]
          refine wpAnyH_ready (rs := [13]) (by kernel_rfl) (by simp) ?_
          refine AllReadyH.cons (o := { dst := some 55, op := Op.call { callee := Callee.value (Operand.func 24), args := #[Operand.tmp 54], argTypes := #[56] }, type := 29, pos := "more.go:81", after := #[{ on := 12, ground := Ground.data }], guard := none }) rfl (fun K hK => ?_) AllReadyH.nil
          go_simp
          refine (block_any x _).mono ?_
          rintro r wb ⟨q, rfl, hk, hq, bb⟩
          have BB := HWR.out.drew.trans (bb.mono HWR.out.drew.size)
          have SB := HS.out.drew.below bb
          have CW := Lib.hid (st_write SB (j : Int) (blockL x.f) (some ⟨q, 0, none⟩) 64 64 (by have := HFS.out; omega) (by have := HFP.out; omega) (blockL_length _) (fun w' hf => blk_sl (hf.keep q _ hk (by simp [kd]) (by simp)) (blockL_length _)))
          clear hk hq bb SB
          go_wp2_with fail
          refine hK.out _ _ (BB) (fun hHeld => ?_)
          clear hK K
          try simp only [Act.put, List.setIfInBounds_toArray, List.set_cons_zero, List.set_cons_succ]
          refine wpAnyH_ready (rs := [14]) (by kernel_rfl) (by simp) ?_
          refine AllReadyH.cons (o := { dst := some 56, op := Op.call { callee := Callee.value (Operand.func 9), args := #[Operand.tmp 42, Operand.tmp 50, Operand.tmp 55], argTypes := #[24, 3, 29] }, type := 25, pos := "more.go:81", after := #[{ on := 0, ground := Ground.data }, { on := 8, ground := Ground.data }, { on := 13, ground := Ground.data }, { on := 13, ground := Ground.chain }], guard := none }) rfl (fun K hK => ?_) AllReadyH.nil
          go_simp
          refine CW.out.mono ?_
          rintro r wd ⟨rfl, SD, fd⟩
          have BD := BB.trans fd.below
          clear fd CW
          go_wp2_with fail
          refine hK.out _ _ (BD) (fun hHeld => ?_)
          clear hK K
          try simp only [Act.put, List.setIfInBounds_toArray, List.set_cons_zero, List.set_cons_succ]
          refine wpAnyH_take (i := 15) (oi := { dst := some 10, op := Op.assign (Operand.tmp 56), type := 25, pos := "more.go:81", after := #[{ on := 14, ground := Ground.data }, { on := 14, ground := Ground.chain }, { on := 0, ground := Ground.phase }, { on := 1, ground := Ground.phase }, { on := 2, ground := Ground.phase }, { on := 3, ground := Ground.phase }, { on := 4, ground := Ground.phase }, { on := 5, ground := Ground.phase }, { on := 6, ground := Ground.phase }, { on := 7, ground := Ground.phase }, { on := 8, ground := Ground.phase }, { on := 9, ground := Ground.phase }, { on := 10, ground := Ground.phase }, { on := 11, ground := Ground.phase }, { on := 12, ground := Ground.phase }, { on := 13, ground := Ground.phase }, { on := 14, ground := Ground.phase }], guard := none }) (v := ?v13n14) rfl (by kernel_rfl) (by kernel_rfl) (by kernel_rfl) (fun _ _ _ h => h) (Or.inl ⟨by rfl, ?hy13n14⟩) (by assumption) ?rest13n14
          case hy13n14 => (intro w hSw; (try dsimp only at hSw); obtain ⟨q0, q1, q2⟩ := DP.out _ hSw; go_simp <;> (try with_reducible rfl))
          try simp only [Act.put, List.setIfInBounds_toArray, List.set_cons_zero, List.set_cons_succ]
          refine wpAnyH_done (by kernel_rfl) ?_ _
          have SE := Lib.hid SD
          rw [HWRE.out]
          clear BB BD SD hHeld e0 e1 e2
          go_wp2
          go_meet
          case rel => exact ⟨_, rfl, SE.out, HWRT.out⟩
      case rest =>
        obtain ⟨d', rfl, sd, fd⟩ := hcut
        have HSD := Lib.hid sd
        have HFD := Lib.hid fd
        have CD := Lib.hid (st_down sd)
        rw [fd.dn] at CD
        have CR := Lib.hid (st_read sd 0)
        rw [fd.rd] at CR
        clear sd fd HS HF
        by_cases hik : i < k
        · have e3 : ev i k = 0 := by simp [ev, hik]
          have e4 : decide (k < i + 1) = false := by simp; omega
          have e5 : ¬ k < i + 1 := by omega
          rw [e4] at CD
          rw [if_neg e5] at CR
          rw [e3]
          have hik2 : (i : Int) < (k : Int) := by omega
          have e6 : min i k = i := by omega
          have e7 : min (i + 1) k = i + 1 := by omega
          rw [e6]
          have E7 := Lib.hid e7
          clear e3 e4 e5 e6 e7 hik
          go_wp2_with fail
          refine CD.out.mono ?_
          rintro r w5 ⟨rfl, rfl⟩
          go_wp2_with fail
          refine CR.out.mono ?_
          rintro r w6 ⟨v, rfl, _, s6, _⟩
          have CD6 := Lib.hid (st_down s6)
          rw [HFD.out.dn, show decide (k < i + 1) = false by simp; omega] at CD6
          have S6 := Lib.hid s6
          clear s6
          go_wp2_with fail
          refine CD6.out.mono ?_
          rintro r w7 ⟨rfl, rfl⟩
          go_wp2
          go_roundw
          case rel => exact ⟨i + 1, d', HK.out.1, HK.out.2, by go_num, by rw [E7.out]; go_num, S6.out, HFD.out⟩
          case measure => simp [intOf]; omega
        · have e3 : ev i k = 7 := by simp [ev, hik]
          have e4 : decide (k < i + 1) = true := by simp; omega
          have e5 : k < i + 1 := by omega
          rw [e4] at CD
          rw [if_pos e5] at CR
          rw [e3]
          have hik2 : ¬ (i : Int) < (k : Int) := by omega
          have hik3 : (k : Int) ≤ (i : Int) := by omega
          have e6 : min i k = k := by omega
          have e7 : min (i + 1) k = k := by omega
          rw [e6]
          have E7 := Lib.hid e7
          clear e3 e4 e5 e6 e7 hik
          go_wp2_with fail
          refine CD.out.mono ?_
          rintro r w5 ⟨rfl, rfl⟩
          go_wp2_with fail
          refine CR.out.mono ?_
          rintro r w6 ⟨v, rfl, _, s6, _⟩
          have CD6 := Lib.hid (st_down s6)
          rw [HFD.out.dn, show decide (k < i + 1) = true by simp; omega] at CD6
          have S6 := Lib.hid s6
          clear s6
          go_wp2_with fail
          refine CD6.out.mono ?_
          rintro r w7 ⟨rfl, rfl⟩
          go_wp2
          go_roundw
          case rel => exact ⟨i + 1, d', HK.out.1, HK.out.2, by go_num, by rw [E7.out], S6.out, HFD.out⟩
          case measure => simp [intOf]; omega
    · have hcase : ¬ (i : Int) < (n : Int) ∨ ((i : Int) < (n : Int) ∧ ¬ (i : Int) < 100) := by omega
      have C1 := Lib.hid (st_steps HS.out)
      rw [HF.out.st] at C1
      have HFP : Hid (d.ps.length ≤ 100000) := by
        show _ ≤ _
        have := HF.out.ps
        omega
      have C2 := Lib.hid (st_crash HS.out [] none 0 0 rfl HFP.out (fun w' _ => sl_nil none))
      have hm2 : ((min i k : Nat) : Int) ≤ 100 := by omega
      have hm0 : (0 : Int) ≤ ((min i k : Nat) : Int) := by omega
      have hst := Lib.hid HF.out.st
      generalize ((min i k : Nat) : Int) = q at C1 hm2 hm0 hst ⊢
      have hcd : (crashD d []).down = false := rfl
      have hcf : stepB (crashD d []) = true := rfl
      have hcs : (crashD d []).steps = q := hst.out
      have hks : (keepD (crashD d [])).steps = q + 1 := by
        show (stepD (crashD d [])).steps = q + 1
        rw [← hcs]
        rfl
      generalize hcr : crashD d [] = dc at C2 hcd hcf hcs hks
      have HCD := Lib.hid hcd
      have HCF := Lib.hid hcf
      have HCS := Lib.hid hcs
      have HKS := Lib.hid hks
      have hq1 : IntKind.i64.wrap (q + 1) = q + 1 := IntWalk.i64_in _ (by omega)
      have HQ : Hid (q ≤ 100) := hm2
      clear hcd hcf hcs hks hcr HF HS hst hi hin
      rcases hcase with hc | ⟨hc, hc2⟩
      · go_wp2_with fail
        refine C1.out.mono ?_
        rintro r w5 ⟨rfl, rfl⟩
        go_wp2_with fail
        refine C2.out.mono ?_
        rintro r w6 ⟨rfl, s6, _⟩
        have C3 := Lib.hid (st_down s6)
        rw [HCD.out] at C3
        have C4 := Lib.hid (st_sync s6 (by rw [HCS.out]; have := HQ.out; omega))
        rw [HCF.out] at C4
        simp only [if_true] at C4
        clear s6
        go_wp2_with fail
        refine C3.out.mono ?_
        rintro r w7 ⟨rfl, rfl⟩
        go_wp2_with fail
        refine C4.out.mono ?_
        rintro r w8 ⟨rfl, s8, _⟩
        have C5 := Lib.hid (st_steps s8)
        rw [HKS.out] at C5
        have S8 := Lib.hid s8.bel
        clear s8
        go_wp2_with fail
        refine C5.out.mono ?_
        rintro r w9 ⟨rfl, rfl⟩
        go_wp2
        go_ret
        exact ⟨rfl, S8.out⟩
      · go_wp2_with fail
        refine C1.out.mono ?_
        rintro r w5 ⟨rfl, rfl⟩
        go_wp2_with fail
        refine C2.out.mono ?_
        rintro r w6 ⟨rfl, s6, _⟩
        have C3 := Lib.hid (st_down s6)
        rw [HCD.out] at C3
        have C4 := Lib.hid (st_sync s6 (by rw [HCS.out]; have := HQ.out; omega))
        rw [HCF.out] at C4
        simp only [if_true] at C4
        clear s6
        go_wp2_with fail
        refine C3.out.mono ?_
        rintro r w7 ⟨rfl, rfl⟩
        go_wp2_with fail
        refine C4.out.mono ?_
        rintro r w8 ⟨rfl, s8, _⟩
        have C5 := Lib.hid (st_steps s8)
        rw [HKS.out] at C5
        have S8 := Lib.hid s8.bel
        clear s8
        go_wp2_with fail
        refine C5.out.mono ?_
        rintro r w9 ⟨rfl, rfl⟩
        go_wp2
        go_ret
        exact ⟨rfl, S8.out⟩
end Go.Proofs.Ytghfhjeaiiianaa

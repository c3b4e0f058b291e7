/-
  Slices of slices of bytes, that came in or are the call's own, read as records. The contract of told. Their conditions: none.
-/
import Derived.Test.YtppdckncnfffcaaJ18
import Derived.ProofKit
import Derived.Deep.Slices
namespace Go.Proofs.Ytppdckncnfffcaa
open Go.ChangeShapes Go.WideShapes Go.ChangeAt Go.RowKit Go.Deep
set_option maxRecDepth 100000

/-- Slices of bytes that read as records. -/
def Txs (w : World) (xs : List SlX) (rs : List (List UInt8)) : Prop := xs.length = rs.length ∧ ∀ (k : Nat) (x : SlX) (r : List UInt8), xs[k]? = some x → rs[k]? = some r → Sl eBy w x.A r ∧ r.length = x.n ∧ x.n ≤ x.c ∧ (x.A = none → x.c = 0)
theorem Txs.below {w w' : World} {xs : List SlX} {rs : List (List UInt8)} {B : Nat} (h : Txs w xs rs) (hB : w.heap.size ≤ B) (hb : Below B w w') : Txs w' xs rs :=
  ⟨h.1, fun k x r h1 h2 => by obtain ⟨a, b⟩ := h.2 k x r h1 h2; exact ⟨a.below hB hb, b⟩⟩
/-- A slice of slices that came in, or is one's own. -/
structure Rcs (w : World) (A : Option Addr) (n : Nat) (rs : List (List UInt8)) : Prop where
  ex : ∃ xs, Sl eVl w A xs ∧ xs.length = n ∧ Txs w xs rs
theorem Rcs.below {w w' : World} {A : Option Addr} {n : Nat} {rs : List (List UInt8)} {B : Nat} (h : Rcs w A n rs) (hB : w.heap.size ≤ B) (hb : Below B w w') : Rcs w' A n rs := by
  obtain ⟨xs, h1, h2, h3⟩ := h.ex
  exact ⟨xs, h1.below hB hb, h2, h3.below hB hb⟩
theorem Rcs.len {w : World} {A : Option Addr} {n : Nat} {rs : List (List UInt8)} (h : Rcs w A n rs) : rs.length = n := by
  obtain ⟨xs, h1, h2, h3⟩ := h.ex
  rw [← h3.1, h2]
theorem RowT.small {α : Type} {E : Enc α} {e : TypeId} {w : World} {base : Nat} {v : Value} {l : List α} (h : RowT E e w base v l) : l.length ≤ maxLen := by
  rcases h.2 with ⟨_, hn⟩ | ⟨g, cap, cur, _, _, _, hle, hm, _⟩
  · have : l.length = 0 := hn
    omega
  · exact Nat.le_trans hle hm
theorem RecsV.rcs {w : World} {base n c : Nat} {A : Option Addr} {xs : List SlX} {rs : List (List UInt8)} (h : RecsV w base (.slice A n c) xs rs) : Rcs w A n rs := by
  obtain ⟨A', c', e, h1, _⟩ := h.row.sl h.row.small
  injection e with e1 e2 e3
  subst e1 e3
  refine ⟨xs, h1, e2.symm, h.rcd.1, fun k x r a b => ?_⟩
  have hr := h.rcd.2 k x r a b
  obtain ⟨A2, c2, e4, h2, h3, h4, _⟩ := hr.sl hr.small
  unfold SlX.v at e4
  injection e4 with e5 e6 e7
  rw [e5, e6, e7]
  exact ⟨h2, rfl, h3, h4⟩
/-- Its element k. -/
theorem Rcs.at_ {w : World} {A : Option Addr} {n : Nat} {rs : List (List UInt8)} (h : Rcs w A n rs) {k : Nat} (hk : k < n) :
    ∃ (b o : Nat) (x : SlX) (r : List UInt8), A = some ⟨b, o, none⟩ ∧ b < w.heap.size ∧ rs[k]? = some r ∧ w.cell? ⟨b, o + k, none⟩ = some (.slice x.A x.n x.c) ∧ Sl eBy w x.A r ∧ r.length = x.n ∧ x.n ≤ x.c ∧ (x.A = none → x.c = 0) := by
  obtain ⟨xs, h1, h2, h3⟩ := h.ex
  obtain ⟨b, o, e, hb, hc⟩ := h1.at_ (k := k) (by omega)
  have hkr : k < rs.length := by rw [← h3.1]; omega
  have hx : xs[k]? = some (xs[k]'(by omega)) := List.getElem?_eq_getElem _
  obtain ⟨a1, a2⟩ := h3.2 k _ _ hx (List.getElem?_eq_getElem hkr)
  refine ⟨b, o, _, _, e, hb, List.getElem?_eq_getElem hkr, ?_, a1, a2⟩
  have := hc 0 (SlX.v (xs[k]'(by omega))) rfl
  rw [show o + k * eVl.wd + 0 = o + k by show o + k * 1 + 0 = o + k; omega] at this
  exact this
theorem idx30 (b o k n c : Nat) (hk : k < n) (w : World) : (Instr.indexAt 30 (.slice (some ⟨b, o, none⟩) n c) (.int .i64 (k : Int))).run Try.prog w = .ok (.pointer (some ⟨b, o + k, none⟩)) w := by
  have h : (0 : Int) ≤ (k : Int) ∧ (k : Int) < (n : Int) := by omega
  have h2 : ¬ n ≤ k := by omega
  simp [Instr.indexAt, asIntOf, Result.andThen, h, h2, addr_at]
theorem exec_convert {P : Program} {w w' : World} {o : Oper} {a : Act} {v : Value} {s t : TypeId} {x : Operand} {p : Value} (ho : o.op = .convert s t x) (hx : a.eval x = p) (hr : (convert s t p).run P w = .ok v w') : (execOp a.eval o).run P w = .ok (.value v) w' := by
  unfold execOp
  simp only [ho, hx, Sem.run_bind, hr, Result.andThen_ok, Sem.run_pure]
/-- Two cells that lie, and what they hold. -/
def TwoC (p q : Addr) (x y : SlX) (r s : List UInt8) (w : World) : Prop := w.cell? p = some (.slice x.A x.n x.c) ∧ w.cell? q = some (.slice y.A y.n y.c) ∧ Sl eBy w x.A r ∧ Sl eBy w y.A s
set_option maxHeartbeats 1000000 in
/-- told: where the records are the same. -/
theorem told_any (n c c2 : Nat) (A B : Option Addr) (rs : List (List UInt8)) (w : World) (h1 : Rcs w A n rs) (h2 : Rcs w B n rs) (hn : n ≤ 4611686018427387904) :
    Calls Try.prog 31 #[.slice A n c, .slice B n c2] w fun r w' => r = .returned (.bool true) ∧ Below w.heap.size w w' := by
  have H1 := Lib.hid h1
  have H2 := Lib.hid h2
  have HN := Lib.hid hn
  clear h1 h2
  go_enter Try.func31, Try.ntmps31
  go_wp2
  go_loopw [13] (fun s13 wr => ∃ k : Nat, k ≤ n ∧ s13 = .int .i64 (k : Int) ∧ Below w.heap.size w wr) (fun s _ => n - (intOf s).toNat)
  case atStart => exact ⟨0, Nat.zero_le _, rfl, Below.refl _ _⟩
  case round =>
    obtain ⟨k, hk, rfl, hb⟩ := hrel
    have HB := Lib.hid hb
    by_cases hlt : k < n
    · have hlti : (k : Int) < (n : Int) := by omega
      have hk0 : (0 : Int) ≤ (k : Int) := by omega
      obtain ⟨b, o, x, r, e1, _, e2, e3, e4, e5, _, _⟩ := (H1.out.below (Nat.le_refl _) hb).at_ hlt
      obtain ⟨b2, o2, y, r2, f1, _, f2, f3, f4, f5, _, _⟩ := (H2.out.below (Nat.le_refl _) hb).at_ hlt
      rw [e2] at f2
      injection f2 with f2
      subst f2 e1 f1
      have HTC : Hid (TwoC ⟨b, o + k, none⟩ ⟨b2, o2 + k, none⟩ x y r r wr.drew) := ⟨e3, f3, e4.below (Nat.le_refl _) (Below.refl _ _).drew, f4.below (Nat.le_refl _) (Below.refl _ _).drew⟩
      have hwr : IntKind.i64.wrap ((k : Int) + 1) = (k : Int) + 1 := IntWalk.i64_in _ (by omega)
      have HX := Lib.hid e5
      have HY := Lib.hid f5
      have HK := Lib.hid hlt
      clear hb e2 e3 f3 e4 f4 e5 f5 hlt hk
      go_wp2_with fail
      refine wp_region_held_drew (S := TwoC ⟨b, o + k, none⟩ ⟨b2, o2 + k, none⟩ x y r r) (by kernel_rfl) (HTC.out) (fun hHeld => ?_)
      refine wpAnyH_take (i := 0) (oi := { dst := some 16, op := Op.move (Operand.tmp 0), type := 30, pos := "more.go:17", after := #[], guard := none }) (v := ?v6tn1) rfl (by kernel_rfl) (by kernel_rfl) (by kernel_rfl) (fun _ _ _ h => h) (Or.inl ⟨by rfl, ?hy6tn1⟩) (by assumption) ?rest6tn1
      case hy6tn1 => (intro w hSw; (try dsimp only at hSw); have q1 := hSw.1; have q2 := hSw.2.1; go_simp <;> (try with_reducible rfl))
      try simp only [Act.put, List.setIfInBounds_toArray, List.set_cons_zero, List.set_cons_succ]
      refine wpAnyH_take (i := 1) (oi := { dst := some 17, op := Op.move (Operand.tmp 5), type := 3, pos := "more.go:17", after := #[], guard := none }) (v := ?v6tn2) rfl (by kernel_rfl) (by kernel_rfl) (by kernel_rfl) (fun _ _ _ h => h) (Or.inl ⟨by rfl, ?hy6tn2⟩) (by assumption) ?rest6tn2
      case hy6tn2 => (intro w hSw; (try dsimp only at hSw); have q1 := hSw.1; have q2 := hSw.2.1; go_simp <;> (try with_reducible rfl))
      try simp only [Act.put, List.setIfInBounds_toArray, List.set_cons_zero, List.set_cons_succ]
      refine wpAnyH_take (i := 2) (oi := { dst := some 18, op := Op.indexAddr 30 (Operand.tmp 16) (Operand.tmp 17), type := 0, pos := "more.go:17", after := #[{ on := 0, ground := Ground.data }, { on := 1, ground := Ground.data }], guard := none }) (v := Value.pointer (some ⟨b, o + k, none⟩)) rfl (by kernel_rfl) (by kernel_rfl) (by kernel_rfl) (fun _ _ _ h => h) (Or.inl ⟨by rfl, fun w hSw => exec_index rfl rfl rfl (idx30 b o k n c HK.out w)⟩) (by assumption) ?_
      try simp only [Act.put, List.setIfInBounds_toArray, List.set_cons_zero, List.set_cons_succ]
      refine wpAnyH_take (i := 3) (oi := { dst := some 19, op := Op.load 38 (Operand.tmp 18), type := 38, pos := "more.go:17", after := #[{ on := 2, ground := Ground.data }], guard := none }) (v := ?v6tn3) rfl (by kernel_rfl) (by kernel_rfl) (by kernel_rfl) (fun _ _ _ h => h) (Or.inl ⟨by rfl, ?hy6tn3⟩) (by assumption) ?rest6tn3
      case hy6tn3 => (intro w hSw; (try dsimp only at hSw); have q1 := hSw.1; have q2 := hSw.2.1; go_simp <;> (try with_reducible rfl))
      try simp only [Act.put, List.setIfInBounds_toArray, List.set_cons_zero, List.set_cons_succ]
      refine wpAnyH_take (i := 4) (oi := { dst := some 20, op := Op.convert 38 9 (Operand.tmp 19), type := 9, pos := "more.go:17", after := #[{ on := 3, ground := Ground.data }], guard := none }) (v := Value.string (txt r)) rfl (by kernel_rfl) (by kernel_rfl) (by kernel_rfl) (fun _ _ _ h => h) (Or.inl ⟨by rfl, fun w hSw => exec_convert rfl rfl (conv_by hSw.2.2.1 HX.out _)⟩) (by assumption) ?_
      try simp only [Act.put, List.setIfInBounds_toArray, List.set_cons_zero, List.set_cons_succ]
      refine wpAnyH_take (i := 5) (oi := { dst := some 21, op := Op.move (Operand.tmp 1), type := 30, pos := "more.go:17", after := #[], guard := none }) (v := ?v6tn4) rfl (by kernel_rfl) (by kernel_rfl) (by kernel_rfl) (fun _ _ _ h => h) (Or.inl ⟨by rfl, ?hy6tn4⟩) (by assumption) ?rest6tn4
      case hy6tn4 => (intro w hSw; (try dsimp only at hSw); have q1 := hSw.1; have q2 := hSw.2.1; go_simp <;> (try with_reducible rfl))
      try simp only [Act.put, List.setIfInBounds_toArray, List.set_cons_zero, List.set_cons_succ]
      refine wpAnyH_take (i := 6) (oi := { dst := some 22, op := Op.move (Operand.tmp 5), type := 3, pos := "more.go:17", after := #[], guard := none }) (v := ?v6tn5) rfl (by kernel_rfl) (by kernel_rfl) (by kernel_rfl) (fun _ _ _ h => h) (Or.inl ⟨by rfl, ?hy6tn5⟩) (by assumption) ?rest6tn5
      case hy6tn5 => (intro w hSw; (try dsimp only at hSw); have q1 := hSw.1; have q2 := hSw.2.1; go_simp <;> (try with_reducible rfl))
      try simp only [Act.put, List.setIfInBounds_toArray, List.set_cons_zero, List.set_cons_succ]
      refine wpAnyH_take (i := 7) (oi := { dst := some 23, op := Op.indexAddr 30 (Operand.tmp 21) (Operand.tmp 22), type := 0, pos := "more.go:17", after := #[{ on := 5, ground := Ground.data }, { on := 6, ground := Ground.data }], guard := none }) (v := Value.pointer (some ⟨b2, o2 + k, none⟩)) rfl (by kernel_rfl) (by kernel_rfl) (by kernel_rfl) (fun _ _ _ h => h) (Or.inl ⟨by rfl, fun w hSw => exec_index rfl rfl rfl (idx30 b2 o2 k n c2 HK.out w)⟩) (by assumption) ?_
      try simp only [Act.put, List.setIfInBounds_toArray, List.set_cons_zero, List.set_cons_succ]
      refine wpAnyH_take (i := 8) (oi := { dst := some 24, op := Op.load 38 (Operand.tmp 23), type := 38, pos := "more.go:17", after := #[{ on := 7, ground := Ground.data }], guard := none }) (v := ?v6tn6) rfl (by kernel_rfl) (by kernel_rfl) (by kernel_rfl) (fun _ _ _ h => h) (Or.inl ⟨by rfl, ?hy6tn6⟩) (by assumption) ?rest6tn6
      case hy6tn6 => (intro w hSw; (try dsimp only at hSw); have q1 := hSw.1; have q2 := hSw.2.1; go_simp <;> (try with_reducible rfl))
      try simp only [Act.put, List.setIfInBounds_toArray, List.set_cons_zero, List.set_cons_succ]
      refine wpAnyH_take (i := 9) (oi := { dst := some 25, op := Op.convert 38 9 (Operand.tmp 24), type := 9, pos := "more.go:17", after := #[{ on := 8, ground := Ground.data }], guard := none }) (v := Value.string (txt r)) rfl (by kernel_rfl) (by kernel_rfl) (by kernel_rfl) (fun _ _ _ h => h) (Or.inl ⟨by rfl, fun w hSw => exec_convert rfl rfl (conv_by hSw.2.2.2 HY.out _)⟩) (by assumption) ?_
      try simp only [Act.put, List.setIfInBounds_toArray, List.set_cons_zero, List.set_cons_succ]
      refine wpAnyH_take (i := 10) (oi := { dst := some 26, op := Op.binOp BinOp.neq 9 (Operand.tmp 20) (Operand.tmp 25) 9, type := 4, pos := "more.go:17", after := #[{ on := 4, ground := Ground.data }, { on := 9, ground := Ground.data }], guard := none }) (v := ?v6tn7) rfl (by kernel_rfl) (by kernel_rfl) (by kernel_rfl) (fun _ _ _ h => h) (Or.inl ⟨by rfl, ?hy6tn7⟩) (by assumption) ?rest6tn7
      case hy6tn7 => (intro w hSw; (try dsimp only at hSw); have q1 := hSw.1; have q2 := hSw.2.1; go_simp <;> (try with_reducible rfl))
      try simp only [Act.put, List.setIfInBounds_toArray, List.set_cons_zero, List.set_cons_succ]
      refine wpAnyH_done (by kernel_rfl) ?_ _
      go_wp2_with fail
      go_roundw
      case rel => exact ⟨k + 1, HK.out, by go_num, HB.out.drew⟩
      case measure => simp [intOf]; have := HK.out; omega
    · have hkn : k = n := by omega
      subst hkn
      have hlti : ¬ (k : Int) < (k : Int) := by omega
      clear hb hk hlt
      go_wp2
      go_ret
      exact ⟨rfl, HB.out⟩
end Go.Proofs.Ytppdckncnfffcaa

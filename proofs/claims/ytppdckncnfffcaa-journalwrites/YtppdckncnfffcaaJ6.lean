/-
  Sectors held against each other. The contract of next. Its conditions: a part's bytes lie in memory.
-/
import Derived.Test.YtppdckncnfffcaaJ5
import Derived.Deep.CutBlock
import Derived.Laws.ResultCell
namespace Go.Proofs.Ytppdckncnfffcaa
open Go.RowKit
set_option maxRecDepth 100000
theorem run_part5 (a : List UInt8) (i : Nat) (h : i < a.length) (w : World) : (part 5 (bv a).toArray i).run Try.prog w = .ok (.int .u8 (a[i].toNat : Int)) w := by
  have hi : (bv a).toArray[i]? = some (.int .u8 (a[i].toNat : Int)) := by simp [bv, h]
  have hg : (isAgg 5).run Try.prog w = .ok false w := by kernel_rfl
  simp only [part, Sem.run_bind, hg, Result.andThen_ok, hi]
  simp
theorem eq_loop (a b : List UInt8) (ha : a.length = 64) (hb : b.length = 64) (d : Nat) (w : World) : ∀ (n i : Nat), i + n = 64 →
    ((forIn (List.range' i n) ((none, ()) : Option Bool × Unit) (fun i __s => do
              let __do_lift ← part 5 (bv a).toArray (i * 1)
              let __do_lift_1 ← part 5 (bv b).toArray (i * 1)
              let __do_lift ← Op.equalIn (d + 1) 5 __do_lift __do_lift_1
              if (!__do_lift) = true then pure (ForInStep.done (some false, ())) else pure (ForInStep.yield (none, ())))).run Try.prog w).andThen
        (fun a w' =>
        Sem.run Try.prog
          (match a.fst with
          | some r => pure r
          | none => pure true)
          w') = .ok (decide (a.drop i = b.drop i)) w
  | 0, i, h => by
    rw [List.drop_of_length_le (by omega), List.drop_of_length_le (by omega)]
    simp
  | n + 1, i, h => by
    have ih := eq_loop a b ha hb d w n (i + 1) (by omega)
    have hia : i < a.length := by omega
    have hib : i < b.length := by omega
    have e1 := run_part5 a i hia w
    have e2 := run_part5 b i hib w
    have e3 := run_equalIn_int (P := Try.prog) w d 5 .u8 .u8 (a[i].toNat : Int) (b[i].toNat : Int) (by kernel_rfl)
    rw [List.range'_succ, List.forIn_cons]
    simp only [Nat.mul_one, Sem.run_bind, e1, e2, e3, Result.andThen_ok] at ih ⊢
    have hd : (a.drop i = b.drop i) ↔ (a[i] = b[i] ∧ a.drop (i + 1) = b.drop (i + 1)) := by
      rw [List.drop_eq_getElem_cons hia, List.drop_eq_getElem_cons hib]
      exact List.cons_eq_cons
    by_cases he : a[i] = b[i]
    · have hbe : ((a[i].toNat : Int) == (b[i].toNat : Int)) = true := by simp [he]
      simp only [hbe, Bool.not_true, Bool.false_eq_true, if_false, Sem.run_pure, Result.andThen_ok]
      rw [ih]
      simp [hd, he]
    · have hne : ¬ a[i].toNat = b[i].toNat := fun h => he (UInt8.toNat_inj.mp h)
      have hbe : ((a[i].toNat : Int) == (b[i].toNat : Int)) = false := by
        simp
        omega
      simp only [hbe, Bool.not_false, if_true, Sem.run_pure, Result.andThen_ok]
      simp [hd, he]
theorem run_eq_arr (a b : List UInt8) (ha : a.length = 64) (hb : b.length = 64) (d : Nat) (w : World) :
    (Op.equalIn (d + 1 + 1) 89 (.agg (bv a).toArray) (.agg (bv b).toArray)).run Try.prog w = .ok (decide (a = b)) w := by
  have h := eq_loop a b ha hb d w 64 0 rfl
  simp only [List.drop_zero] at h
  obtain ⟨i5, hi5, hs5⟩ : ∃ i, Try.prog.info? 5 = some i ∧ i.size = 1 := by
    have := size5
    cases e : Try.prog.info? 5 with
    | none => simp [e] at this
    | some i => exact ⟨i, rfl, by simpa [e] using this⟩
  rw [Op.equalIn]
  simp only [Sem.run_bind, run_underlying Try.underlying89, Result.andThen_ok, sizeOf, typeInfo, run_program, hi5, Sem.run_pure, hs5]
  rw [Std.Legacy.Range.forIn_eq_forIn_range', show List.range' [:64].start [:64].size [:64].step = List.range' 0 64 from rfl, ← h]
  congr 1
  funext a w'
  rcases a with ⟨_ | _, _⟩ <;> rfl
theorem run_eql89 (s t : Sec) (w : World) : (binOp .eql 89 (secV s) (secV t)).run Try.prog w = .ok (.bool (decide (s.v = t.v))) w := by
  show (binOp .eql 89 (.agg (bv s.v).toArray) (.agg (bv t.v).toArray)).run Try.prog w = _
  rw [run_eql_struct, run_eq_arr s.v t.v s.h t.h 9998 w]
  rfl
section
variable {P : Program} {w w' : World} {o : Oper} {a : Act} {v : Value}
theorem exec_eql89 {x y : Operand} {yt : TypeId} {s t : Sec} (ho : o.op = .binOp .eql 89 x y yt) (hx : a.eval x = secV s) (hy : a.eval y = secV t) : (execOp a.eval o).run Try.prog w = .ok (.value (.bool (decide (s.v = t.v)))) w := by
  have hg : (eqGuard .eql 89 x y (secV s) (secV t)).run Try.prog w = .ok () w := run_eqGuard_agg w .eql 89 x y _ _ (by kernel_rfl)
  unfold execOp
  simp only [ho, hx, hy, Sem.run_bind, hg, Result.andThen_ok, run_eql89, Sem.run_pure]
end
/-- A part's block. -/
def Bx5 (w : World) (q : Nat) (l r nu o : Int) (v : Value) : Prop := w.heap[q]? = some (.cells #[.int .i64 l, .int .i64 r, .int .i64 nu, .int .i64 o, v] 101 (0, 0))
section
variable {w w' : World} {q : Nat} {l r nu o : Int} {v : Value}
theorem Bx5.c0 (h : Bx5 w q l r nu o v) : w.cell? ⟨q, 0, none⟩ = some (.int .i64 l) := by rw [cell_of h]; rfl
theorem Bx5.c1 (h : Bx5 w q l r nu o v) : w.cell? ⟨q, 1, none⟩ = some (.int .i64 r) := by rw [cell_of h]; rfl
theorem Bx5.c2 (h : Bx5 w q l r nu o v) : w.cell? ⟨q, 2, none⟩ = some (.int .i64 nu) := by rw [cell_of h]; rfl
theorem Bx5.c3 (h : Bx5 w q l r nu o v) : w.cell? ⟨q, 3, none⟩ = some (.int .i64 o) := by rw [cell_of h]; rfl
theorem Bx5.c4 (h : Bx5 w q l r nu o v) : w.cell? ⟨q, 4, none⟩ = some v := by rw [cell_of h]; rfl
theorem Bx5.frozen (h : Bx5 w q l r nu o v) (k : Nat) : w.frozen? ⟨q, k, none⟩ = false := by simp [World.frozen?, show w.heap[q]? = _ from h]
theorem Bx5.set1 (h : Bx5 w q l r nu o v) (x : Int) : Bx5 (w.setCell ⟨q, 1, none⟩ (.int .i64 x)) q l x nu o v := by
  unfold Bx5 at h ⊢
  simp [World.setCell, Array.getElem?_modify, h]
theorem Bx5.set2 (h : Bx5 w q l r nu o v) (x : Int) : Bx5 (w.setCell ⟨q, 2, none⟩ (.int .i64 x)) q l r x o v := by
  unfold Bx5 at h ⊢
  simp [World.setCell, Array.getElem?_modify, h]
theorem Bx5.set3 (h : Bx5 w q l r nu o v) (x : Int) : Bx5 (w.setCell ⟨q, 3, none⟩ (.int .i64 x)) q l r nu x v := by
  unfold Bx5 at h ⊢
  simp [World.setCell, Array.getElem?_modify, h]
theorem Bx5.set4 (h : Bx5 w q l r nu o v) (x : Value) : Bx5 (w.setCell ⟨q, 4, none⟩ x) q l r nu o x := by
  unfold Bx5 at h ⊢
  simp [World.setCell, Array.getElem?_modify, h]
theorem Bx5.lt (h : Bx5 w q l r nu o v) : q < w.heap.size := lt_of_heap h
theorem Bx5.below (h : Bx5 w q l r nu o v) (hb : Below w.heap.size w w') : Bx5 w' q l r nu o v := (hb.block q h.lt).trans h
theorem Bx5.fr {k ms : List Nat} {base : Nat} (h : Bx5 w q l r nu o v) (hf : Fr k ms base w w') (hl : 101 ∉ k) (hm : q ∉ ms) : Bx5 w' q l r nu o v := hf.keep q _ h hl hm
end
theorem store3 {w : World} {q k : Nat} {u : Value} {x : Int} (hc : w.cell? ⟨q, k, none⟩ = some u) (hf : w.frozen? ⟨q, k, none⟩ = false) : (Instr.storeAt 3 (.pointer (some ⟨q, k, none⟩)) (.int .i64 x)).run Try.prog w = .ok () (w.setCell ⟨q, k, none⟩ (.int .i64 x)) := by
  simp [go_sem, hc, hf]
/-- On the way: the next part in the making. -/
structure NxI (w W : World) (b : Nat) (s : Sec) (l r nu o : Int) (v : Value) : Prop where
  box : Bx5 W (b + 3) l r nu o v
  res : Bx5 W (b + 2) 0 0 0 0 (.slice none 0 0)
  by_ : By W (b + 1) 89 s.v
  bel : Below w.heap.size w W
  ge : b = w.heap.size
section
variable {w W W' : World} {b : Nat} {s : Sec} {l r nu o l' r' nu' o' : Int} {v v' : Value}
theorem NxI.below (h : NxI w W b s l r nu o v) (hb : Below W.heap.size W W') : NxI w W' b s l r nu o v :=
  ⟨h.box.below hb, h.res.below hb, h.by_.below hb, h.bel.trans (hb.mono h.bel.size), h.ge⟩
theorem NxI.step (h : NxI w W b s l r nu o v) {k : Nat} {u : Value} (hx : Bx5 (W.setCell ⟨b + 3, k, none⟩ u) (b + 3) l' r' nu' o' v') : NxI w (W.setCell ⟨b + 3, k, none⟩ u) b s l' r' nu' o' v' := by
  have hf : Fr [] [b + 3] w.heap.size W (W.setCell ⟨b + 3, k, none⟩ u) := (Fr.refl _ _ _ _).set h.box (.inr (by simp)) (by have := h.ge; omega) _
  exact ⟨hx, h.res.fr hf (by simp) (by simp), h.by_.fr hf (by simp) (by simp), h.bel.trans hf.below, h.ge⟩
theorem NxI.num (h : NxI w W b s l r nu o v) (hW : W' = W) : NxI w W' b s l r nu o v := by subst hW; exact h
end
theorem ptC_keep {W : World} {b k : Nat} {u : Value} {p : Pt} {A : Option Addr} {n c : Nat} (h : W.heap[b]? = some (.cells (ptC p A n c) 101 (0, 0))) : (W.setCell ⟨b + 3, k, none⟩ u).heap[b]? = some (.cells (ptC p A n c) 101 (0, 0)) := by
  rw [Below.heap_setCell _ _ _ _ (by simp)]
  exact h
theorem slice89 (q m : Nat) (hm : m ≤ 47) (w : World) : (Instr.sliceAt 89 (.pointer (some ⟨q, 0, none⟩)) (some (.int .i64 13)) (some (.int .i64 (13 + (m : Int)))) none).run Try.prog w = .ok (.slice (some ⟨q, 13, none⟩) m 51) w := by
  have h1 : 13 + (m : Int) ≤ 64 := by omega
  have h2 : (13 : Int) ≤ 13 + (m : Int) := by omega
  have h4 : (13 + (m : Int)).toNat = 13 + m := by omega
  simp [go_sem, h1, h2, h4, addr_at]
theorem size101 : (Try.prog.info? 101).map (·.size) = some 5 := by kernel_rfl
theorem store101 {w : World} {q : Nat} {l r nu o : Int} {v : Value} (h : Bx5 w q l r nu o v) (l' r' nu' o' : Int) (A : Option Addr) (n c : Nat) :
    (Instr.storeAt 101 (.pointer (some ⟨q, 0, none⟩)) (.agg #[.int .i64 l', .int .i64 r', .int .i64 nu', .int .i64 o', .slice A n c])).run Try.prog w = .ok () (w.setRow q #[.int .i64 l', .int .i64 r', .int .i64 nu', .int .i64 o', .slice A n c]) := by
  have h1 := run_storeVar_row (P := Try.prog) w q 101 101 _ #[.int .i64 l', .int .i64 r', .int .i64 nu', .int .i64 o', .slice A n c] h (by rw [size101]; rfl) rfl (by simp [Value.oneCell'])
  simp only [Instr.storeAt, Instr.sureAddr, Sem.run_bind, Sem.run_pure, Result.andThen_ok, h1]
theorem Bx5.row {w : World} {q : Nat} {l r nu o : Int} {v : Value} (h : Bx5 w q l r nu o v) (l' r' nu' o' : Int) (v' : Value) : Bx5 (w.setRow q #[.int .i64 l', .int .i64 r', .int .i64 nu', .int .i64 o', v']) q l' r' nu' o' v' := setRow_heap w q _ _ _ _ h
theorem NxI.fin {w W : World} {b : Nat} {s : Sec} {l r nu o : Int} {v : Value} (h : NxI w W b s l r nu o v) (l' r' nu' o' : Int) (v' : Value) :
    (Bx5 (W.setRow (b + 2) #[.int .i64 l', .int .i64 r', .int .i64 nu', .int .i64 o', v']) (b + 3) l r nu o v ∧ By (W.setRow (b + 2) #[.int .i64 l', .int .i64 r', .int .i64 nu', .int .i64 o', v']) (b + 1) 89 s.v) ∧ Below w.heap.size w (W.setRow (b + 2) #[.int .i64 l', .int .i64 r', .int .i64 nu', .int .i64 o', v']) := by
  have hf : Fr [] [b + 2] w.heap.size W (W.setRow (b + 2) #[.int .i64 l', .int .i64 r', .int .i64 nu', .int .i64 o', v']) := (Fr.refl _ _ _ _).row h.res (.inr (by simp)) (by have := h.ge; omega) _
  exact ⟨⟨h.box.fr hf (by simp) (by simp), h.by_.fr hf (by simp) (by simp)⟩, h.bel.trans hf.below⟩
theorem ret101 {fn : Func} {t u : Tmp} {tmps : Array Value} {w : World} {q : Nat} {l r nu o : Int} {v y : Value} (h : fn.results = #[.cell t 101, .tmp u]) (ht : tmps.getD t undef = .pointer (some ⟨q, 0, none⟩)) (hu : tmps.getD u undef = y) (hb : Bx5 w q l r nu o v) :
    (results fn tmps).run Try.prog w = .ok (.tuple #[.agg #[.int .i64 l, .int .i64 r, .int .i64 nu, .int .i64 o, v], y]) w := by
  have hl := run_loadVar_row (P := Try.prog) w q 101 101 _ (0, 0) _ hb Try.underlying101 rfl (by rw [size101]; rfl)
  rw [results_cell_tmp h, ht, hu]
  simp [asAddr, hl, Result.andThen]
set_option maxHeartbeats 4000000 in
theorem next_any (p : Pt) (s : Sec) (A : Option Addr) (n c : Nat) (w : World) (hl : p.num ≤ 65536) (hr : p.rn ≤ 65536) (hr0 : -1 ≤ p.rn) (hr1 : p.num = p.of ∨ 0 ≤ p.rn) :
    Calls Try.prog 59 #[ptV p A n c, secV s] w fun r w' => ∃ A c, r = .returned (.tuple #[ptV (nextP p s) A (lenF s) c, .bool (nextB p s)]) ∧ Sl eBy w' A (bsF s) ∧ (A = none → c = 0) ∧ (∀ ad, A = some ad → w.heap.size ≤ ad.block) ∧ Below w.heap.size w w' := by
  unfold ptV ptC secV
  have hli : (p.num : Int) ≤ 65536 := by omega
  obtain ⟨b, hb⟩ : ∃ b, b = w.heap.size := ⟨_, rfl⟩
  obtain ⟨W, hW⟩ : ∃ W, W = (((w.alloc (.cells #[.int .i64 (p.lap : Int), .int .i64 p.rn, .int .i64 (p.num : Int), .int .i64 (p.of : Int), .slice A n c] 101)).alloc (.cells (eSec.f s).toArray 89)).alloc
    (.cells #[.int .i64 0, .int .i64 0, .int .i64 0, .int .i64 0, .slice none 0 0] 101)).alloc (.cells #[.int .i64 (p.lap : Int), .int .i64 p.rn, .int .i64 ((p.num : Int) + 1), .int .i64 (p.of : Int), .slice none 0 0] 101) := ⟨_, rfl⟩
  have HI : Hid (NxI w W b s p.lap p.rn (p.num + 1) p.of (.slice none 0 0)) := by
    refine ⟨?_, ?_, ?_, ?_, hb⟩
    · rw [hW, hb]
      have := heap_new (((w.alloc (.cells #[.int .i64 (p.lap : Int), .int .i64 p.rn, .int .i64 (p.num : Int), .int .i64 (p.of : Int), .slice A n c] 101)).alloc (.cells (eSec.f s).toArray 89)).alloc
        (.cells #[.int .i64 0, .int .i64 0, .int .i64 0, .int .i64 0, .slice none 0 0] 101)) (.cells #[.int .i64 (p.lap : Int), .int .i64 p.rn, .int .i64 ((p.num : Int) + 1), .int .i64 (p.of : Int), .slice none 0 0] 101)
      simp only [World.size_alloc] at this
      exact this
    · rw [hW, hb]
      have := heap_new ((w.alloc (.cells #[.int .i64 (p.lap : Int), .int .i64 p.rn, .int .i64 (p.num : Int), .int .i64 (p.of : Int), .slice A n c] 101)).alloc (.cells (eSec.f s).toArray 89))
        (.cells #[.int .i64 0, .int .i64 0, .int .i64 0, .int .i64 0, .slice none 0 0] 101)
      simp only [World.size_alloc] at this
      exact (heap_old _ _ (by simp)).trans this
    · rw [hW, hb]
      have := heap_new (w.alloc (.cells #[.int .i64 (p.lap : Int), .int .i64 p.rn, .int .i64 (p.num : Int), .int .i64 (p.of : Int), .slice A n c] 101)) (.cells (eSec.f s).toArray 89)
      simp only [World.size_alloc] at this
      exact (heap_old _ _ (by simp)).trans ((heap_old _ _ (by simp)).trans this)
    · rw [hW]
      exact ((((Below.refl _ w).alloc (Nat.le_refl _) _).alloc (by simp) _).alloc (by simp; omega) _).alloc (by simp; omega) _
  have HP : Hid (W.heap[b]? = some (.cells (ptC p A n c) 101 (0, 0))) := by
    show _ = _
    rw [hW, hb]
    exact (heap_old _ _ (by simp; omega)).trans ((heap_old _ _ (by simp; omega)).trans ((heap_old _ _ (by simp)).trans (heap_new _ _)))
  go_enter Try.func59, Try.ntmps59
  go_upto_if 21 with fail
  rw [← hW]
  simp only [← hb]
  simp only [show b + 1 + 1 + 1 = b + 3 from rfl, show b + 1 + 1 = b + 2 from rfl]
  have HBE := Lib.hid hb
  clear hW hb
  have HM : Hid (s.v.length ≤ maxLen) := by
    show _ ≤ _
    rw [s.h]
    unfold maxLen
    omega
  have HL2 : Hid (((s.v.drop 10).take 2).length = 2) := by
    show _ = _
    have := s.h
    simp
    omega
  go_cut [] from 21 to 45 (fun wx => NxI w wx b s (nextP p s).lap (nextP p s).rn (nextP p s).num (nextP p s).of (.slice none 0 0))
  case first =>
    by_cases he : p.num = p.of
    · have hei : ((p.num : Int) == (p.of : Int)) = true := by simp; omega
      have D0 := Lib.hid (HI.out.below (Below.refl _ _).drew)
      have D1 := D0
      have D2 := Lib.hid (D1.out.step (D1.out.box.set1 (p.rn + 1)))
      have D3 := Lib.hid (D2.out.step (D2.out.box.set2 1))
      have D4 := Lib.hid (D3.out.step (D3.out.box.set3 (ofF s : Int)))
      have HE : Hid (nextP p s = ⟨p.lap, p.rn + 1, 1, ofF s, bsF s⟩) := by simp [Hid, nextP, he]
      have hwr : IntKind.i64.wrap (p.rn + 1) = p.rn + 1 := IntWalk.i64_in _ (by omega)
      clear he
      go_wp2_with fail
      refine wp_region_held_drew (S := fun w' => w'.heap[b]? = some (.cells (ptC p A n c) 101 (0, 0))) (by kernel_rfl) (HP.out) (fun hHeld => ?_)
      refine wpAnyH_take (i := 0) (oi := { dst := some 22, op := Op.fieldAddr 101 (Operand.tmp 2) 1, type := 0, pos := "part.go:80", after := #[], guard := none }) (v := ?v3n1) rfl (by kernel_rfl) (by kernel_rfl) (by kernel_rfl) (fun _ _ _ h => h) (Or.inl ⟨by rfl, ?hy3n1⟩) (by assumption) ?rest3n1
      case hy3n1 => (intro w hSw; (try dsimp only at hSw); have q1 := cell_of (o := 1) hSw; dsimp only [ptC] at q1; go_simp <;> (try with_reducible rfl))
      try simp only [Act.put, List.setIfInBounds_toArray, List.set_cons_zero, List.set_cons_succ]
      refine wpAnyH_take (i := 1) (oi := { dst := some 23, op := Op.load 3 (Operand.tmp 22), type := 3, pos := "part.go:80", after := #[{ on := 0, ground := Ground.data }], guard := none }) (v := ?v3n2) rfl (by kernel_rfl) (by kernel_rfl) (by kernel_rfl) (fun _ _ _ h => h) (Or.inl ⟨by rfl, ?hy3n2⟩) (by assumption) ?rest3n2
      case hy3n2 => (intro w hSw; (try dsimp only at hSw); have q1 := cell_of (o := 1) hSw; dsimp only [ptC] at q1; go_simp <;> (try with_reducible rfl))
      try simp only [Act.put, List.setIfInBounds_toArray, List.set_cons_zero, List.set_cons_succ]
      refine wpAnyH_take (i := 2) (oi := { dst := some 24, op := Op.binOp BinOp.add 3 (Operand.tmp 23) (Operand.const (Value.int IntKind.i64 1)) 3, type := 3, pos := "part.go:80", after := #[{ on := 1, ground := Ground.data }], guard := none }) (v := ?v3n3) rfl (by kernel_rfl) (by kernel_rfl) (by kernel_rfl) (fun _ _ _ h => h) (Or.inl ⟨by rfl, ?hy3n3⟩) (by assumption) ?rest3n3
      case hy3n3 => (intro w hSw; (try dsimp only at hSw); have q1 := cell_of (o := 1) hSw; dsimp only [ptC] at q1; go_simp <;> (try with_reducible rfl))
      try simp only [Act.put, List.setIfInBounds_toArray, List.set_cons_zero, List.set_cons_succ]
      refine wpAnyH_take (i := 3) (oi := { dst := some 25, op := Op.slice 89 (Operand.tmp 3) (some (Operand.const (Value.int IntKind.i64 10))) (some (Operand.const (Value.int IntKind.i64 12))) none, type := 38, pos := "part.go:80", after := #[], guard := none }) (v := ?v3n4) rfl (by kernel_rfl) (by kernel_rfl) (by kernel_rfl) (fun _ _ _ h => h) (Or.inl ⟨by rfl, ?hy3n4⟩) (by assumption) ?rest3n4
      case hy3n4 => (intro w hSw; (try dsimp only at hSw); have q1 := cell_of (o := 1) hSw; dsimp only [ptC] at q1; go_simp <;> (try with_reducible rfl))
      try simp only [Act.put, List.setIfInBounds_toArray, List.set_cons_zero, List.set_cons_succ]
      refine wpAnyH_take (i := 5) (oi := { dst := some 27, op := Op.fieldAddr 101 (Operand.tmp 6) 1, type := 0, pos := "part.go:80", after := #[{ on := 0, ground := Ground.phase }, { on := 1, ground := Ground.phase }, { on := 2, ground := Ground.phase }, { on := 3, ground := Ground.textOnly Departure.lateStoresUnsure }, { on := 4, ground := Ground.textOnly Departure.lateStoresUnsure }], guard := none }) (v := ?v3n5) rfl (by kernel_rfl) (by kernel_rfl) (by kernel_rfl) (fun _ _ _ h => h) (Or.inl ⟨by rfl, ?hy3n5⟩) (by assumption) ?rest3n5
      case hy3n5 => (intro w hSw; (try dsimp only at hSw); have q1 := cell_of (o := 1) hSw; dsimp only [ptC] at q1; go_simp <;> (try with_reducible rfl))
      try simp only [Act.put, List.setIfInBounds_toArray, List.set_cons_zero, List.set_cons_succ]
      refine wpAnyH_ready (rs := [4]) (by kernel_rfl) (by simp) ?_
      refine AllReadyH.cons (o := { dst := some 26, op := Op.call { callee := Callee.value (Operand.func 44), args := #[Operand.tmp 25], argTypes := #[38] }, type := 3, pos := "part.go:80", after := #[{ on := 3, ground := Ground.data }], guard := none }) rfl (fun K hK => ?_) AllReadyH.nil
      go_simp
      refine (number_any _ 2 54 _ _ ((HI.out.below (Below.refl _ _).drew).by_.sl HM.out 10 2) HL2.out (by decide)).mono ?_
      rintro r wa ⟨rfl, rfl⟩
      dsimp only
      refine hK.out _ _ (HP.out) (fun hHeld => ?_)
      clear hK K
      try simp only [Act.put, List.setIfInBounds_toArray, List.set_cons_zero, List.set_cons_succ]
      refine wpAnyH_ready (rs := [6]) (by kernel_rfl) (by simp) ?_
      refine AllReadyH.cons (o := { dst := none, op := Op.store 3 (Operand.tmp 27) (Operand.tmp 24), type := 0, pos := "part.go:80", after := #[{ on := 5, ground := Ground.data }, { on := 2, ground := Ground.data }, { on := 4, ground := Ground.chain }, { on := 0, ground := Ground.phase }, { on := 1, ground := Ground.phase }, { on := 2, ground := Ground.phase }, { on := 3, ground := Ground.textOnly Departure.lateStoresUnsure }, { on := 4, ground := Ground.textOnly Departure.lateStoresUnsure }], guard := none }) rfl (fun K hK => ?_) AllReadyH.nil
      refine wp_unit (exec_store rfl rfl rfl (store3 D1.out.box.c1 (D1.out.box.frozen 1))) ?_
      refine hK.out _ _ (ptC_keep HP.out) (fun hHeld => ?_)
      clear hK K
      try simp only [Act.put]
      refine wpAnyH_take (i := 7) (oi := { dst := some 28, op := Op.fieldAddr 101 (Operand.tmp 6) 2, type := 0, pos := "part.go:80", after := #[{ on := 0, ground := Ground.phase }, { on := 1, ground := Ground.phase }, { on := 2, ground := Ground.phase }, { on := 3, ground := Ground.textOnly Departure.lateStoresUnsure }, { on := 4, ground := Ground.textOnly Departure.lateStoresUnsure }, { on := 5, ground := Ground.phase }, { on := 6, ground := Ground.phase }], guard := none }) (v := ?v3n6) rfl (by kernel_rfl) (by kernel_rfl) (by kernel_rfl) (fun _ _ _ h => h) (Or.inl ⟨by rfl, ?hy3n6⟩) (by assumption) ?rest3n6
      case hy3n6 => (intro w hSw; (try dsimp only at hSw); have q1 := cell_of (o := 1) hSw; dsimp only [ptC] at q1; go_simp <;> (try with_reducible rfl))
      try simp only [Act.put, List.setIfInBounds_toArray, List.set_cons_zero, List.set_cons_succ]
      refine wpAnyH_ready (rs := [8]) (by kernel_rfl) (by simp) ?_
      refine AllReadyH.cons (o := { dst := none, op := Op.store 3 (Operand.tmp 28) (Operand.const (Value.int IntKind.i64 1)), type := 0, pos := "part.go:80", after := #[{ on := 7, ground := Ground.data }, { on := 6, ground := Ground.chain }, { on := 0, ground := Ground.phase }, { on := 1, ground := Ground.phase }, { on := 2, ground := Ground.phase }, { on := 3, ground := Ground.textOnly Departure.lateStoresUnsure }, { on := 4, ground := Ground.textOnly Departure.lateStoresUnsure }, { on := 5, ground := Ground.phase }, { on := 6, ground := Ground.phase }], guard := none }) rfl (fun K hK => ?_) AllReadyH.nil
      refine wp_unit (exec_store rfl rfl rfl (store3 D2.out.box.c2 (D2.out.box.frozen 2))) ?_
      refine hK.out _ _ (ptC_keep (ptC_keep HP.out)) (fun hHeld => ?_)
      clear hK K
      try simp only [Act.put]
      refine wpAnyH_take (i := 9) (oi := { dst := some 29, op := Op.fieldAddr 101 (Operand.tmp 6) 3, type := 0, pos := "part.go:80", after := #[{ on := 0, ground := Ground.phase }, { on := 1, ground := Ground.phase }, { on := 2, ground := Ground.phase }, { on := 3, ground := Ground.phase }, { on := 4, ground := Ground.phase }, { on := 5, ground := Ground.phase }, { on := 6, ground := Ground.phase }, { on := 7, ground := Ground.phase }, { on := 8, ground := Ground.phase }], guard := none }) (v := ?v3n7) rfl (by kernel_rfl) (by kernel_rfl) (by kernel_rfl) (fun _ _ _ h => h) (Or.inl ⟨by rfl, ?hy3n7⟩) (by assumption) ?rest3n7
      case hy3n7 => (intro w hSw; (try dsimp only at hSw); have q1 := cell_of (o := 1) hSw; dsimp only [ptC] at q1; go_simp <;> (try with_reducible rfl))
      try simp only [Act.put, List.setIfInBounds_toArray, List.set_cons_zero, List.set_cons_succ]
      refine wpAnyH_ready (rs := [10]) (by kernel_rfl) (by simp) ?_
      refine AllReadyH.cons (o := { dst := none, op := Op.store 3 (Operand.tmp 29) (Operand.tmp 26), type := 0, pos := "part.go:80", after := #[{ on := 9, ground := Ground.data }, { on := 4, ground := Ground.data }, { on := 8, ground := Ground.chain }, { on := 0, ground := Ground.phase }, { on := 1, ground := Ground.phase }, { on := 2, ground := Ground.phase }, { on := 3, ground := Ground.phase }, { on := 4, ground := Ground.phase }, { on := 5, ground := Ground.phase }, { on := 6, ground := Ground.phase }, { on := 7, ground := Ground.phase }, { on := 8, ground := Ground.phase }], guard := none }) rfl (fun K hK => ?_) AllReadyH.nil
      refine wp_unit (exec_store rfl rfl rfl (store3 D3.out.box.c3 (D3.out.box.frozen 3))) ?_
      refine hK.out _ _ (ptC_keep (ptC_keep (ptC_keep HP.out))) (fun hHeld => ?_)
      clear hK K
      try simp only [Act.put]
      refine wpAnyH_done (by kernel_rfl) ?_ _
      go_wp2_with fail
      go_meet
      rw [HE.out]
      exact D4.out
    · have hei : ¬ (p.num : Int) = (p.of : Int) := by omega
      have HE : Hid (nextP p s = ⟨p.lap, p.rn, p.num + 1, p.of, bsF s⟩) := by simp [Hid, nextP, he]
      clear he
      go_wp2_with fail
      go_meet
      rw [HE.out]
      exact HI.out
  case rest =>
    obtain ⟨N, hN⟩ : ∃ N, N = nextP p s := ⟨_, rfl⟩
    have hk : ∃ k : Nat, N.rn = (k : Int) := by
      by_cases he : p.num = p.of
      · have : N.rn = p.rn + 1 := by rw [hN]; simp [nextP, he]
        exact ⟨(p.rn + 1).toNat, by omega⟩
      · have : N.rn = p.rn := by rw [hN]; simp [nextP, he]
        exact ⟨p.rn.toNat, by omega⟩
    obtain ⟨k, hk⟩ := hk
    have HK := Lib.hid hk
    have HN := Lib.hid hN
    rw [← hN] at hcut
    obtain ⟨m, hm⟩ : ∃ m, m = lenF s := ⟨_, rfl⟩
    have HMM := Lib.hid hm
    have HNB : Hid (N.bs = (s.v.drop 13).take m) := by show _ = _; rw [hN, nextP_bs, hm]; rfl
    have HNM : Hid (N.bs.length = m) := by show _ = _; rw [hN, nextP_bs, bsF_length, hm]
    have HBS : Hid (bsF s = (s.v.drop 13).take m) := by show _ = _; rw [hm]; rfl
    have HM47 : Hid (m ≤ 47) := by show _ ≤ _; rw [hm]; exact lenF_le s
    have h12 : 12 < s.v.length := by rw [s.h]; decide
    obtain ⟨y, hy⟩ : ∃ y, y = s.v[12].toNat := ⟨_, rfl⟩
    have hyl : y < 256 := by rw [hy]; exact UInt8.toNat_lt _
    have hmy : m = min y 47 := by
      rw [hm, hy]
      unfold lenF
      rw [List.getD_eq_getElem?_getD, List.getElem?_eq_getElem h12, Option.getD_some]
    have c12 := hcut.by_.cell h12
    rw [← hy] at c12
    have c4 := hcut.box.c4
    have fz4 := hcut.box.frozen 4
    have hmin : ∀ w, (Builtin.min_ #[3, 3] 3 #[.int .i64 (y : Int), .int .i64 47]).run Try.prog w = .ok (.int .i64 (m : Int)) w := fun w => run_min2 w _ _ _ _ _ (by omega)
    have hsl := slice89 (b + 1) m (by omega)
    have H5 := Lib.hid (hcut.step (hcut.box.set4 (.slice (some ⟨b + 1, 13, none⟩) m 51)))
    have hyi : (y : Int) ≤ 255 := by omega
    have hmi : (m : Int) ≤ 47 := by omega
    have hmn : m ≤ 47 := by omega
    have HFB : Hid (nextB p s = (fitsP N && decide ((ptS N).v = s.v))) := by
      show _ = _
      rw [ptS_v (by rw [HNM.out]; exact hmn), hN]
      rfl
    clear hcut hy hyl hmy hm hN hk h12 hl hr hr0 hr1 hli HI HP
    cases hf : fitsP N with
    | true =>
      have HF := Lib.hid hf
      clear hf
      go_wp2_with fail
      refine wp_region_held_drew (S := fun w' => Bx5 w' (b + 3) N.lap N.rn N.num N.of (.slice (some ⟨b + 1, 13, none⟩) m 51) ∧ By w' (b + 1) 89 s.v) (by kernel_rfl) (⟨(H5.out.below (Below.refl _ _).drew).box, (H5.out.below (Below.refl _ _).drew).by_⟩) (fun hHeld => ?_)
      refine wpAnyH_take (i := 0) (oi := { dst := some 37, op := Op.load 101 (Operand.tmp 6), type := 101, pos := "part.go:84", after := #[], guard := none }) (v := ?v5tn1) rfl (by kernel_rfl) (by kernel_rfl) (by kernel_rfl) (fun _ _ _ h => h) (Or.inl ⟨by rfl, ?hy5tn1⟩) (by assumption) ?rest5tn1
      case hy5tn1 => (intro w hSw; (try dsimp only at hSw); have q0 := hSw.1.c0; have q1 := hSw.1.c1; have q2 := hSw.1.c2; have q3 := hSw.1.c3; have q4 := hSw.1.c4; go_simp <;> (try with_reducible rfl))
      try simp only [Act.put, List.setIfInBounds_toArray, List.set_cons_zero, List.set_cons_succ]
      refine wpAnyH_take (i := 1) (oi := { dst := some 38, op := Op.load 101 (Operand.tmp 6), type := 101, pos := "part.go:84", after := #[], guard := none }) (v := ?v5tn2) rfl (by kernel_rfl) (by kernel_rfl) (by kernel_rfl) (fun _ _ _ h => h) (Or.inl ⟨by rfl, ?hy5tn2⟩) (by assumption) ?rest5tn2
      case hy5tn2 => (intro w hSw; (try dsimp only at hSw); have q0 := hSw.1.c0; have q1 := hSw.1.c1; have q2 := hSw.1.c2; have q3 := hSw.1.c3; have q4 := hSw.1.c4; go_simp <;> (try with_reducible rfl))
      try simp only [Act.put, List.setIfInBounds_toArray, List.set_cons_zero, List.set_cons_succ]
      refine wpAnyH_ready (rs := [2]) (by kernel_rfl) (by simp) ?_
      refine AllReadyH.cons (o := { dst := some 39, op := Op.call { callee := Callee.value (Operand.func 62), args := #[Operand.tmp 38], argTypes := #[101] }, type := 4, pos := "part.go:84", after := #[{ on := 1, ground := Ground.data }], guard := none }) rfl (fun K hK => ?_) AllReadyH.nil
      go_simp
      refine (fits_any N (some ⟨b + 1, 13, none⟩) m 51 HNM.out _).mono ?_
      rintro r wa ⟨rfl, ba⟩
      rw [HF.out]
      have BA := Lib.hid ((H5.out.below (Below.refl _ _).drew).below ba)
      clear ba
      dsimp only
      refine hK.out _ _ (⟨BA.out.box, BA.out.by_⟩) (fun hHeld => ?_)
      clear hK K
      try simp only [Act.put, List.setIfInBounds_toArray, List.set_cons_zero, List.set_cons_succ]
      refine wpAnyH_take (i := 3) (oi := { dst := some 40, op := Op.move (Operand.tmp 39), type := 4, pos := "part.go:84", after := #[{ on := 2, ground := Ground.data }, { on := 2, ground := Ground.chain }], guard := none }) (v := ?v5tn3) rfl (by kernel_rfl) (by kernel_rfl) (by kernel_rfl) (fun _ _ _ h => h) (Or.inl ⟨by rfl, ?hy5tn3⟩) (by assumption) ?rest5tn3
      case hy5tn3 => (intro w hSw; (try dsimp only at hSw); have q0 := hSw.1.c0; have q1 := hSw.1.c1; have q2 := hSw.1.c2; have q3 := hSw.1.c3; have q4 := hSw.1.c4; go_simp <;> (try with_reducible rfl))
      try simp only [Act.put, List.setIfInBounds_toArray, List.set_cons_zero, List.set_cons_succ]
      refine wpAnyH_take (i := 4) (oi := { dst := some 41, op := Op.load 101 (Operand.tmp 6), type := 101, pos := "part.go:84", after := #[{ on := 3, ground := Ground.guard }], guard := some (3, true) }) (v := ?v5tn4) rfl (by kernel_rfl) (by kernel_rfl) (by kernel_rfl) (fun _ _ _ h => h) (Or.inl ⟨by rfl, ?hy5tn4⟩) (by assumption) ?rest5tn4
      case hy5tn4 => (intro w hSw; (try dsimp only at hSw); have q0 := hSw.1.c0; have q1 := hSw.1.c1; have q2 := hSw.1.c2; have q3 := hSw.1.c3; have q4 := hSw.1.c4; go_simp <;> (try with_reducible rfl))
      try simp only [Act.put, List.setIfInBounds_toArray, List.set_cons_zero, List.set_cons_succ]
      refine wpAnyH_take (i := 6) (oi := { dst := some 43, op := Op.load 89 (Operand.tmp 3), type := 89, pos := "part.go:84", after := #[{ on := 3, ground := Ground.guard }, { on := 9, ground := Ground.gcOnly Departure.lateStores }], guard := some (3, true) }) (v := secV s) rfl (by kernel_rfl) (by kernel_rfl) (by kernel_rfl) (fun _ _ _ h => h) (Or.inl ⟨by rfl, fun w hSw => exec_load rfl rfl (load89 hSw.2.range)⟩) (by assumption) ?_
      try simp only [Act.put, List.setIfInBounds_toArray, List.set_cons_zero, List.set_cons_succ]
      refine wpAnyH_ready (rs := [5]) (by kernel_rfl) (by simp) ?_
      refine AllReadyH.cons (o := { dst := some 42, op := Op.call { callee := Callee.value (Operand.func 48), args := #[Operand.tmp 41], argTypes := #[101] }, type := 89, pos := "part.go:84", after := #[{ on := 4, ground := Ground.data }, { on := 3, ground := Ground.chain }, { on := 3, ground := Ground.guard }], guard := some (3, true) }) rfl (fun K hK => ?_) AllReadyH.nil
      go_simp
      refine (sector_any N k (some ⟨b + 1, 13, none⟩) m 51 _ HNM.out HK.out HM47.out (by rw [HNB.out]; exact BA.out.by_.sl HM.out 13 m) (fun h => by cases h)).mono ?_
      rintro r wb ⟨rfl, bb⟩
      have BB := Lib.hid (BA.out.below bb)
      clear bb
      dsimp only
      refine hK.out _ _ (⟨BB.out.box, BB.out.by_⟩) (fun hHeld => ?_)
      clear hK K
      try simp only [Act.put, List.setIfInBounds_toArray, List.set_cons_zero, List.set_cons_succ]
      refine wpAnyH_take (i := 7) (oi := { dst := some 44, op := Op.binOp BinOp.eql 89 (Operand.tmp 42) (Operand.tmp 43) 89, type := 4, pos := "part.go:84", after := #[{ on := 5, ground := Ground.data }, { on := 6, ground := Ground.data }, { on := 3, ground := Ground.guard }, { on := 9, ground := Ground.gcOnly Departure.lateStores }], guard := some (3, true) }) (v := .bool (decide ((ptS N).v = s.v))) rfl (by kernel_rfl) (by kernel_rfl) (by kernel_rfl) (fun _ _ _ h => h) (Or.inl ⟨by rfl, fun w hSw => exec_eql89 rfl rfl rfl⟩) (by assumption) ?_
      try simp only [Act.put, List.setIfInBounds_toArray, List.set_cons_zero, List.set_cons_succ]
      refine wpAnyH_take (i := 8) (oi := { dst := some 45, op := Op.pick (Operand.tmp 40) (Operand.tmp 44) (Operand.const (Value.bool false)), type := 4, pos := "part.go:84", after := #[{ on := 3, ground := Ground.data }, { on := 7, ground := Ground.data }, { on := 9, ground := Ground.gcOnly Departure.lateStores }], guard := none }) (v := ?v5tn5) rfl (by kernel_rfl) (by kernel_rfl) (by kernel_rfl) (fun _ _ _ h => h) (Or.inl ⟨by rfl, ?hy5tn5⟩) (by assumption) ?rest5tn5
      case hy5tn5 => (intro w hSw; (try dsimp only at hSw); have q0 := hSw.1.c0; have q1 := hSw.1.c1; have q2 := hSw.1.c2; have q3 := hSw.1.c3; have q4 := hSw.1.c4; go_simp <;> (try with_reducible rfl))
      try simp only [Act.put, List.setIfInBounds_toArray, List.set_cons_zero, List.set_cons_succ]
      refine wpAnyH_ready (rs := [9]) (by kernel_rfl) (by simp) ?_
      refine AllReadyH.cons (o := { dst := none, op := Op.store 101 (Operand.tmp 4) (Operand.tmp 37), type := 0, pos := "part.go:84", after := #[{ on := 0, ground := Ground.data }, { on := 5, ground := Ground.chain }, { on := 0, ground := Ground.phase }, { on := 1, ground := Ground.textOnly Departure.lateStores }, { on := 2, ground := Ground.textOnly Departure.lateStoresUnsure }, { on := 3, ground := Ground.textOnly Departure.lateStores }, { on := 4, ground := Ground.textOnly Departure.lateStores }, { on := 5, ground := Ground.textOnly Departure.lateStoresUnsure }, { on := 6, ground := Ground.textOnly Departure.lateStores }, { on := 7, ground := Ground.textOnly Departure.lateStores }, { on := 8, ground := Ground.textOnly Departure.lateStores }], guard := none }) rfl (fun K hK => ?_) AllReadyH.nil
      refine wp_unit (exec_store rfl rfl rfl (store101 BB.out.res _ _ _ _ _ _ _)) ?_
      refine hK.out _ _ (BB.out.fin _ _ _ _ _ |>.1) (fun hHeld => ?_)
      clear hK K
      try simp only [Act.put]
      refine wpAnyH_take (i := 10) (oi := { dst := some 5, op := Op.assign (Operand.tmp 45), type := 4, pos := "part.go:84", after := #[{ on := 8, ground := Ground.data }, { on := 9, ground := Ground.chain }, { on := 0, ground := Ground.phase }, { on := 1, ground := Ground.phase }, { on := 2, ground := Ground.phase }, { on := 3, ground := Ground.phase }, { on := 4, ground := Ground.phase }, { on := 5, ground := Ground.phase }, { on := 6, ground := Ground.phase }, { on := 7, ground := Ground.phase }, { on := 8, ground := Ground.phase }, { on := 9, ground := Ground.phase }], guard := none }) (v := ?v5tn6) rfl (by kernel_rfl) (by kernel_rfl) (by kernel_rfl) (fun _ _ _ h => h) (Or.inl ⟨by rfl, ?hy5tn6⟩) (by assumption) ?rest5tn6
      case hy5tn6 => (intro w hSw; (try dsimp only at hSw); have q0 := hSw.1.c0; have q1 := hSw.1.c1; have q2 := hSw.1.c2; have q3 := hSw.1.c3; have q4 := hSw.1.c4; go_simp <;> (try with_reducible rfl))
      try simp only [Act.put, List.setIfInBounds_toArray, List.set_cons_zero, List.set_cons_succ]
      refine wpAnyH_done (by kernel_rfl) ?_ _
      have HR := Lib.hid (BB.out.res.row N.lap N.rn N.num N.of (.slice (some ⟨b + 1, 13, none⟩) m 51))
      have HB := Lib.hid (BB.out.fin N.lap N.rn N.num N.of (.slice (some ⟨b + 1, 13, none⟩) m 51))
      go_wp2_with fail
      refine bodyPost_ret (ret101 (t := 4) (u := 5) rfl rfl rfl HR.out) rfl ?_
      refine ⟨some ⟨b + 1, 13, none⟩, 51, ?_, ?_, (fun h => by cases h), (fun ad h => by cases h; have := HBE.out; show _ ≤ b + 1; omega), HB.out.2⟩
      · rw [HFB.out, HF.out, Bool.true_and, ← HN.out, ← HMM.out]
        rfl
      · rw [HBS.out]
        exact HB.out.1.2.sl HM.out 13 m
    | false =>
      have HF := Lib.hid hf
      clear hf
      go_wp2_with fail
      refine wp_region_held_drew (S := fun w' => Bx5 w' (b + 3) N.lap N.rn N.num N.of (.slice (some ⟨b + 1, 13, none⟩) m 51) ∧ By w' (b + 1) 89 s.v) (by kernel_rfl) (⟨(H5.out.below (Below.refl _ _).drew).box, (H5.out.below (Below.refl _ _).drew).by_⟩) (fun hHeld => ?_)
      refine wpAnyH_take (i := 0) (oi := { dst := some 37, op := Op.load 101 (Operand.tmp 6), type := 101, pos := "part.go:84", after := #[], guard := none }) (v := ?v5fn1) rfl (by kernel_rfl) (by kernel_rfl) (by kernel_rfl) (fun _ _ _ h => h) (Or.inl ⟨by rfl, ?hy5fn1⟩) (by assumption) ?rest5fn1
      case hy5fn1 => (intro w hSw; (try dsimp only at hSw); have q0 := hSw.1.c0; have q1 := hSw.1.c1; have q2 := hSw.1.c2; have q3 := hSw.1.c3; have q4 := hSw.1.c4; go_simp <;> (try with_reducible rfl))
      try simp only [Act.put, List.setIfInBounds_toArray, List.set_cons_zero, List.set_cons_succ]
      refine wpAnyH_take (i := 1) (oi := { dst := some 38, op := Op.load 101 (Operand.tmp 6), type := 101, pos := "part.go:84", after := #[], guard := none }) (v := ?v5fn2) rfl (by kernel_rfl) (by kernel_rfl) (by kernel_rfl) (fun _ _ _ h => h) (Or.inl ⟨by rfl, ?hy5fn2⟩) (by assumption) ?rest5fn2
      case hy5fn2 => (intro w hSw; (try dsimp only at hSw); have q0 := hSw.1.c0; have q1 := hSw.1.c1; have q2 := hSw.1.c2; have q3 := hSw.1.c3; have q4 := hSw.1.c4; go_simp <;> (try with_reducible rfl))
      try simp only [Act.put, List.setIfInBounds_toArray, List.set_cons_zero, List.set_cons_succ]
      refine wpAnyH_ready (rs := [2]) (by kernel_rfl) (by simp) ?_
      refine AllReadyH.cons (o := { dst := some 39, op := Op.call { callee := Callee.value (Operand.func 62), args := #[Operand.tmp 38], argTypes := #[101] }, type := 4, pos := "part.go:84", after := #[{ on := 1, ground := Ground.data }], guard := none }) rfl (fun K hK => ?_) AllReadyH.nil
      go_simp
      refine (fits_any N (some ⟨b + 1, 13, none⟩) m 51 HNM.out _).mono ?_
      rintro r wa ⟨rfl, ba⟩
      rw [HF.out]
      have BA := Lib.hid ((H5.out.below (Below.refl _ _).drew).below ba)
      clear ba
      dsimp only
      refine hK.out _ _ (⟨BA.out.box, BA.out.by_⟩) (fun hHeld => ?_)
      clear hK K
      try simp only [Act.put, List.setIfInBounds_toArray, List.set_cons_zero, List.set_cons_succ]
      refine wpAnyH_take (i := 3) (oi := { dst := some 40, op := Op.move (Operand.tmp 39), type := 4, pos := "part.go:84", after := #[{ on := 2, ground := Ground.data }, { on := 2, ground := Ground.chain }], guard := none }) (v := ?v5fn3) rfl (by kernel_rfl) (by kernel_rfl) (by kernel_rfl) (fun _ _ _ h => h) (Or.inl ⟨by rfl, ?hy5fn3⟩) (by assumption) ?rest5fn3
      case hy5fn3 => (intro w hSw; (try dsimp only at hSw); have q0 := hSw.1.c0; have q1 := hSw.1.c1; have q2 := hSw.1.c2; have q3 := hSw.1.c3; have q4 := hSw.1.c4; go_simp <;> (try with_reducible rfl))
      try simp only [Act.put, List.setIfInBounds_toArray, List.set_cons_zero, List.set_cons_succ]
      refine wpAnyH_take (i := 4) (oi := { dst := some 41, op := Op.load 101 (Operand.tmp 6), type := 101, pos := "part.go:84", after := #[{ on := 3, ground := Ground.guard }], guard := some (3, true) }) (v := undef) rfl (by kernel_rfl) (by kernel_rfl) (by kernel_rfl) (fun _ _ _ h => h) (Or.inr ⟨by rfl, rfl⟩) (by assumption) ?_
      try simp only [Act.put, List.setIfInBounds_toArray, List.set_cons_zero, List.set_cons_succ]
      refine wpAnyH_take (i := 5) (oi := { dst := some 42, op := Op.call { callee := Callee.value (Operand.func 48), args := #[Operand.tmp 41], argTypes := #[101] }, type := 89, pos := "part.go:84", after := #[{ on := 4, ground := Ground.data }, { on := 3, ground := Ground.chain }, { on := 3, ground := Ground.guard }], guard := some (3, true) }) (v := undef) rfl (by kernel_rfl) (by kernel_rfl) (by kernel_rfl) (fun _ _ _ h => h) (Or.inr ⟨by rfl, rfl⟩) (by assumption) ?_
      try simp only [Act.put, List.setIfInBounds_toArray, List.set_cons_zero, List.set_cons_succ]
      refine wpAnyH_take (i := 6) (oi := { dst := some 43, op := Op.load 89 (Operand.tmp 3), type := 89, pos := "part.go:84", after := #[{ on := 3, ground := Ground.guard }, { on := 9, ground := Ground.gcOnly Departure.lateStores }], guard := some (3, true) }) (v := undef) rfl (by kernel_rfl) (by kernel_rfl) (by kernel_rfl) (fun _ _ _ h => h) (Or.inr ⟨by rfl, rfl⟩) (by assumption) ?_
      try simp only [Act.put, List.setIfInBounds_toArray, List.set_cons_zero, List.set_cons_succ]
      refine wpAnyH_take (i := 7) (oi := { dst := some 44, op := Op.binOp BinOp.eql 89 (Operand.tmp 42) (Operand.tmp 43) 89, type := 4, pos := "part.go:84", after := #[{ on := 5, ground := Ground.data }, { on := 6, ground := Ground.data }, { on := 3, ground := Ground.guard }, { on := 9, ground := Ground.gcOnly Departure.lateStores }], guard := some (3, true) }) (v := undef) rfl (by kernel_rfl) (by kernel_rfl) (by kernel_rfl) (fun _ _ _ h => h) (Or.inr ⟨by rfl, rfl⟩) (by assumption) ?_
      try simp only [Act.put, List.setIfInBounds_toArray, List.set_cons_zero, List.set_cons_succ]
      refine wpAnyH_take (i := 8) (oi := { dst := some 45, op := Op.pick (Operand.tmp 40) (Operand.tmp 44) (Operand.const (Value.bool false)), type := 4, pos := "part.go:84", after := #[{ on := 3, ground := Ground.data }, { on := 7, ground := Ground.data }, { on := 9, ground := Ground.gcOnly Departure.lateStores }], guard := none }) (v := ?v5fn4) rfl (by kernel_rfl) (by kernel_rfl) (by kernel_rfl) (fun _ _ _ h => h) (Or.inl ⟨by rfl, ?hy5fn4⟩) (by assumption) ?rest5fn4
      case hy5fn4 => (intro w hSw; (try dsimp only at hSw); have q0 := hSw.1.c0; have q1 := hSw.1.c1; have q2 := hSw.1.c2; have q3 := hSw.1.c3; have q4 := hSw.1.c4; go_simp <;> (try with_reducible rfl))
      try simp only [Act.put, List.setIfInBounds_toArray, List.set_cons_zero, List.set_cons_succ]
      refine wpAnyH_ready (rs := [9]) (by kernel_rfl) (by simp) ?_
      refine AllReadyH.cons (o := { dst := none, op := Op.store 101 (Operand.tmp 4) (Operand.tmp 37), type := 0, pos := "part.go:84", after := #[{ on := 0, ground := Ground.data }, { on := 5, ground := Ground.chain }, { on := 0, ground := Ground.phase }, { on := 1, ground := Ground.textOnly Departure.lateStores }, { on := 2, ground := Ground.textOnly Departure.lateStoresUnsure }, { on := 3, ground := Ground.textOnly Departure.lateStores }, { on := 4, ground := Ground.textOnly Departure.lateStores }, { on := 5, ground := Ground.textOnly Departure.lateStoresUnsure }, { on := 6, ground := Ground.textOnly Departure.lateStores }, { on := 7, ground := Ground.textOnly Departure.lateStores }, { on := 8, ground := Ground.textOnly Departure.lateStores }], guard := none }) rfl (fun K hK => ?_) AllReadyH.nil
      refine wp_unit (exec_store rfl rfl rfl (store101 BA.out.res _ _ _ _ _ _ _)) ?_
      refine hK.out _ _ (BA.out.fin _ _ _ _ _ |>.1) (fun hHeld => ?_)
      clear hK K
      try simp only [Act.put]
      refine wpAnyH_take (i := 10) (oi := { dst := some 5, op := Op.assign (Operand.tmp 45), type := 4, pos := "part.go:84", after := #[{ on := 8, ground := Ground.data }, { on := 9, ground := Ground.chain }, { on := 0, ground := Ground.phase }, { on := 1, ground := Ground.phase }, { on := 2, ground := Ground.phase }, { on := 3, ground := Ground.phase }, { on := 4, ground := Ground.phase }, { on := 5, ground := Ground.phase }, { on := 6, ground := Ground.phase }, { on := 7, ground := Ground.phase }, { on := 8, ground := Ground.phase }, { on := 9, ground := Ground.phase }], guard := none }) (v := ?v5fn5) rfl (by kernel_rfl) (by kernel_rfl) (by kernel_rfl) (fun _ _ _ h => h) (Or.inl ⟨by rfl, ?hy5fn5⟩) (by assumption) ?rest5fn5
      case hy5fn5 => (intro w hSw; (try dsimp only at hSw); have q0 := hSw.1.c0; have q1 := hSw.1.c1; have q2 := hSw.1.c2; have q3 := hSw.1.c3; have q4 := hSw.1.c4; go_simp <;> (try with_reducible rfl))
      try simp only [Act.put, List.setIfInBounds_toArray, List.set_cons_zero, List.set_cons_succ]
      refine wpAnyH_done (by kernel_rfl) ?_ _
      have HR := Lib.hid (BA.out.res.row N.lap N.rn N.num N.of (.slice (some ⟨b + 1, 13, none⟩) m 51))
      have HB := Lib.hid (BA.out.fin N.lap N.rn N.num N.of (.slice (some ⟨b + 1, 13, none⟩) m 51))
      go_wp2_with fail
      refine bodyPost_ret (ret101 (t := 4) (u := 5) rfl rfl rfl HR.out) rfl ?_
      refine ⟨some ⟨b + 1, 13, none⟩, 51, ?_, ?_, (fun h => by cases h), (fun ad h => by cases h; have := HBE.out; show _ ≤ b + 1; omega), HB.out.2⟩
      · rw [HFB.out, HF.out, Bool.false_and, ← HN.out, ← HMM.out]
        rfl
      · rw [HBS.out]
        exact HB.out.1.2.sl HM.out 13 m
end Go.Proofs.Ytppdckncnfffcaa

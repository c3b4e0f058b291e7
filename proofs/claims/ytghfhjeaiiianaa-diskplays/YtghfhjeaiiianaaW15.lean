/-
  DiskKeeps' walk. Its conditions: none.
-/
import Derived.Test.YtghfhjeaiiianaaOpen
namespace Go.Proofs.Ytghfhjeaiiianaa
open Go.RowKit
open Go.Sort (grow)

/-! ### What a crash leaves of one write -/
section
variable (i : Nat) (a b cs : List UInt8)
def kd1 : Dk := writeD (newD 9) (i : Int) a
def kd2 : Dk := writeD (kd1 i a) 8 a
def kd3 : Dk := keepD (kd2 i a)
def kd4 : Dk := writeD (kd3 i a) (i : Int) b
def kd5 : Dk := crashD (kd4 i a b) cs
variable {i a b cs}
theorem write_run {d : Dk} {j : Nat} {l : List UInt8} (hj : j < d.K.length) (hl : l.length = 64) (hd : d.down = false) (hf : d.fuse = -1) :
    writeR d (j : Int) l = 0 ∧ writeD d (j : Int) l = ⟨d.K, d.ps ++ [⟨j, secOf l⟩], -1, false, d.steps + 1⟩ := by
  have h1 : fits d (j : Int) l.length = true := by simp [fits, hl]; omega
  have h2 : stepB d = true := by simp [stepB, hd, hf]
  unfold writeR writeD putD stepD
  rw [h1, h2]
  simp [hd, hf]
theorem kd1_is (hi : i < 8) (ha : a.length = 64) : writeR (newD 9) (i : Int) a = 0 ∧ kd1 i a = ⟨(newD 9).K, [⟨i, secOf a⟩], -1, false, 1⟩ :=
  write_run (d := newD 9) (by simp [newD]; omega) ha rfl rfl
theorem kd2_is (hi : i < 8) (ha : a.length = 64) : writeR (kd1 i a) 8 a = 0 ∧ kd2 i a = ⟨(newD 9).K, [⟨i, secOf a⟩, ⟨8, secOf a⟩], -1, false, 2⟩ := by
  have h := (kd1_is hi ha).2
  unfold kd2
  rw [h]
  exact write_run (j := 8) (by simp [newD]) ha rfl rfl
theorem kd3_is (hi : i < 8) (ha : a.length = 64) : stepB (kd2 i a) = true ∧ kd3 i a = ⟨((newD 9).K.set i (secOf a)).set 8 (secOf a), [], -1, false, 3⟩ := by
  have h := (kd2_is hi ha).2
  unfold kd3
  rw [h]
  exact ⟨rfl, rfl⟩
theorem kd4_is (hi : i < 8) (ha : a.length = 64) (hb : b.length = 64) : writeR (kd3 i a) (i : Int) b = 0 ∧ kd4 i a b = ⟨((newD 9).K.set i (secOf a)).set 8 (secOf a), [⟨i, secOf b⟩], -1, false, 4⟩ := by
  have h := (kd3_is hi ha).2
  unfold kd4
  rw [h]
  exact write_run (j := i) (by simp [newD]; omega) hb rfl rfl
/-- The first bytes of b, then a's. -/
def torn (a b : List UInt8) (n : Nat) : List UInt8 := b.take n ++ a.drop n
theorem kd5_is (hi : i < 8) (ha : a.length = 64) (hb : b.length = 64) : kd5 i a b cs = ⟨(((newD 9).K.set i (secOf a)).set 8 (secOf a)).set i (lay (secOf a) (secOf b) (pick cs 0)), [], -1, false, 4⟩ := by
  have h := (kd4_is hi ha hb).2
  unfold kd5
  rw [h]
  have e : at_ (((newD 9).K.set i (secOf a)).set 8 (secOf a)) i = secOf a := by
    rw [at_set_ne _ _ (by omega), at_set _ _ (by simp [newD]; omega)]
  have h2 : crashN (((newD 9).K.set i (secOf a)).set 8 (secOf a)) [⟨i, secOf b⟩] cs (0 + 1) = (((newD 9).K.set i (secOf a)).set 8 (secOf a)).set i (lay (at_ (((newD 9).K.set i (secOf a)).set 8 (secOf a)) i) (secOf b) (pick cs 0)) := by simp [crashN]
  rw [e] at h2
  unfold crashD
  simp only [List.length_cons, List.length_nil]
  rw [h2]
theorem kd5_rd (hi : i < 8) (ha : a.length = 64) (hb : b.length = 64) :
    readR (kd5 i a b cs) (i : Int) = 0 ∧ readL (kd5 i a b cs) (i : Int) = torn a b (pick cs 0) ∧ readR (kd5 i a b cs) 8 = 0 ∧ readL (kd5 i a b cs) 8 = a ∧ (kd5 i a b cs).ps.length = 0 := by
  have h := kd5_is (cs := cs) hi ha hb
  rw [h]
  have h1 : ∀ j : Nat, j < 9 → has ⟨(((newD 9).K.set i (secOf a)).set 8 (secOf a)).set i (lay (secOf a) (secOf b) (pick cs 0)), [], -1, false, 4⟩ (j : Int) = true := by
    intro j hj
    simp [has, newD]
    omega
  have e1 := h1 i (by omega)
  have e2 := h1 8 (by omega)
  refine ⟨by simp [readR, e1], ?_, by unfold readR; rw [show ((8 : Int)) = ((8 : Nat) : Int) from rfl, e2]; rfl, ?_, rfl⟩
  · unfold readL
    rw [e1]
    simp only [Bool.not_false, Bool.and_self, if_true, seen_nil, Int.toNat_natCast]
    rw [at_set _ _ (by simp [newD]; omega)]
    simp [lay, torn, secOf_v ha, secOf_v hb]
  · unfold readL
    rw [show ((8 : Int)) = ((8 : Nat) : Int) from rfl, e2]
    simp only [Bool.not_false, Bool.and_self, if_true, seen_nil, Int.toNat_natCast]
    rw [at_set_ne _ _ (by omega), at_set _ _ (by simp [newD]), secOf_v ha]
theorem torn_length (ha : a.length = 64) (hb : b.length = 64) {n : Nat} (_hn : n ≤ 64) : (torn a b n).length = 64 := by
  simp [torn, ha, hb]
  omega
/-- From the first byte on that isn't b's, all are a's. -/
theorem torn_drop (hb : b.length = 64) {n k : Nat} (hn : n ≤ 64) (h : k = 64 ∨ (torn a b n)[k]? ≠ b[k]?) : (torn a b n).drop k = a.drop k := by
  have hnk : n ≤ k := by
    rcases h with h | h
    · omega
    · apply Decidable.byContradiction
      intro hc
      apply h
      unfold torn
      rw [List.getElem?_append_left (by rw [List.length_take]; omega), List.getElem?_take, if_pos (by omega)]
  unfold torn
  rw [List.drop_append, List.drop_of_length_le (by rw [List.length_take]; omega), List.nil_append, List.length_take, List.drop_drop]
  congr 1
  omega
end
/-- Bytes become a text. -/
def txt (l : List UInt8) : ByteArray := ⟨l.toArray⟩
theorem txt_eq {l m : List UInt8} (h : txt l = txt m) : l = m := by
  unfold txt at h
  injection h with h
  exact Array.toList_inj.mpr h |> fun e => by simpa using e
theorem conv_by {w : World} {A : Option Addr} {l : List UInt8} (h : Sl eBy w A l) {n : Nat} (hn : l.length = n) (c : Nat) : (convert 29 9 (.slice A n c)).run Try.prog w = .ok (.string (txt l)) w := by
  subst hn
  cases A with
  | none =>
    have hl : l = [] := by
      cases l with
      | nil => rfl
      | cons x r => obtain ⟨b, off, hA, _⟩ := h.2 (by simp); simp at hA
    subst hl
    rw [run_convert_bytes_string w 29 9 5 none _ c Try.underlying29 Try.underlying5 Try.underlying9]
    rfl
  | some a =>
    exact run_convert_bytes_back (P := Try.prog) w 29 9 5 a c l Try.underlying29 Try.underlying5 Try.underlying9 (fun j hj => by
      obtain ⟨b, off, hA, _, hc⟩ := at_by h hj
      injection hA with hA
      subst hA
      rw [addr_at, hc])
theorem exec_convert {P : Program} {w w' : World} {o : Oper} {a : Act} {v : Value} {s t : TypeId} {x : Operand} {p : Value} (ho : o.op = .convert s t x) (hx : a.eval x = p) (hr : (convert s t p).run P w = .ok v w') : (execOp a.eval o).run P w = .ok (.value v) w' := by
  unfold execOp
  simp only [ho, hx, Sem.run_bind, hr, Result.andThen_ok, Sem.run_pure]
/-- Where x[k:] begins. -/
def fromA (b o c k : Nat) : Option Addr := some (if c = k then ⟨b, o, none⟩ else ⟨b, o + k, none⟩)
theorem slice29 (b o c k : Nat) (hk : k ≤ 64) (_hc : 64 ≤ c) (w : World) : (Instr.sliceAt 29 (.slice (some ⟨b, o, none⟩) 64 c) (some (.int .i64 (k : Int))) none none).run Try.prog w = .ok (.slice (fromA b o c k) (64 - k) (c - k)) w := by
  have h1 : (k : Int) ≤ 64 := by omega
  have h2 : (0 : Int) ≤ (k : Int) := by omega
  simp [go_sem, h1, h2, addr_at, fromA]
  split <;> rfl
theorem Sl.from {w : World} {b o c k : Nat} {l : List UInt8} (h : Sl eBy w (some ⟨b, o, none⟩) l) (hl : l.length = 64) (hc : 64 ≤ c) (_hk : k ≤ 64) : Sl eBy w (fromA b o c k) (l.drop k) := by
  unfold fromA
  by_cases e : c = k
  · exact sl_end _ (by omega)
  · rw [if_neg e]
    have := h.drop k
    rw [show eBy.wd = 1 from rfl, Nat.mul_one] at this
    exact this
theorem mask_i64 (a : Int) (m : Nat) (hm : m ≤ 255) : ∃ r : Nat, bits .and .i64 a (m : Int) = (r : Int) ∧ r ≤ m := by
  have h2 : (BitVec.ofInt 64 (m : Int)).toNat = m := by
    rw [BitVec.ofInt_natCast, BitVec.toNat_ofNat]; exact Nat.mod_eq_of_lt (by omega)
  have hx : (BitVec.ofInt 64 a &&& BitVec.ofInt 64 (m : Int)).toNat ≤ m := by
    rw [BitVec.toNat_and, h2]
    exact Nat.and_le_right
  refine ⟨(BitVec.ofInt 64 a &&& BitVec.ofInt 64 (m : Int)).toNat, ?_, hx⟩
  show IntKind.i64.wrap ((BitVec.ofInt 64 a &&& BitVec.ofInt 64 (m : Int)).toNat : Int) = _
  exact IntWalk.i64_in _ (by omega)
set_option maxRecDepth 100000 in
set_option maxHeartbeats 8000000 in
theorem keeps_walk (x : TornR) (w : World) (hx : TornOk w x) : Calls Try.prog 4 #[tornV x] w fun e w' => e = .returned (.bool true) ∧ Below w.heap.size w w' := by
  obtain ⟨A0, n0, c0, x0, A1, n1, c1, x1, A2, n2, c2, x2, iv⟩ := x
  obtain ⟨⟨h0, hn0⟩, ⟨h1, hn1⟩, ⟨h2, hn2⟩, _⟩ := hx
  simp only at h0 hn0 h1 hn1 h2 hn2
  unfold tornV
  simp only
  have H0 := Lib.hid h0
  have H1 := Lib.hid h1
  have H2 := Lib.hid h2
  have N0 := Lib.hid hn0
  have N1 := Lib.hid hn1
  have N2 := Lib.hid hn2
  obtain ⟨j, hm', hj'⟩ := mask_i64 iv 7 (by omega)
  have hm : bits .and .i64 iv 7 = (j : Int) := hm'
  have hj : j < 8 := by omega
  have HJ := Lib.hid hj
  obtain ⟨w1, hw1⟩ : ∃ w1, w1 = w.alloc (.cells #[.slice A0 n0 c0, .slice A1 n1 c1, .slice A2 n2 c2, .int .i64 iv] 51) := ⟨_, rfl⟩
  have b1 : Below w.heap.size w w1 := by rw [hw1]; exact Below.alloc (Below.refl _ _) (Nat.le_refl _) _
  have y1 : w1.heap[w.heap.size]? = some (.cells #[.slice A0 n0 c0, .slice A1 n1 c1, .slice A2 n2 c2, .int .i64 iv] 51 (0, 0)) := by rw [hw1]; exact heap_new _ _
  have CA := Lib.hid (awake_any w1)
  have B1 := Lib.hid b1
  have Y1 := Lib.hid y1
  rw [hw1] at CA
  have HW1 := Lib.hid hw1
  clear h0 h1 h2 hn0 hn1 hn2 hj hj' hm' b1 y1 hw1
  go_enter Try.func4, Try.ntmps4
  go_wp2_with fail
  refine CA.out.mono ?_
  rintro r w2 ⟨rfl, b2⟩
  rw [← HW1.out] at b2
  have y2 := (b2.block _ (lt_of_heap Y1.out)).trans Y1.out
  have cI : w2.cell? ⟨w.heap.size, 3, none⟩ = some (.int .i64 iv) := by rw [cell_of y2]; rfl
  have CN := Lib.hid (st_new (w0 := w) 9 (by omega) (by omega) (B1.out.trans (b2.mono B1.out.size)))
  have Y2 := Lib.hid y2
  clear b2 y2 CA
  go_wp2_with fail
  refine CN.out.mono ?_
  rintro r w3 ⟨g, rfl, s3, b3⟩
  have Y3 := Lib.hid ((b3.block _ (lt_of_heap Y2.out)).trans Y2.out)
  have S3 := Lib.hid s3
  have YB : Hid (∀ w', Below w3.heap.size w3 w' → w'.cell? ⟨w.heap.size, 0, none⟩ = some (.slice A0 n0 c0) ∧ w'.cell? ⟨w.heap.size, 1, none⟩ = some (.slice A1 n1 c1)) := fun w' h => by
    have := (h.block _ (lt_of_heap Y3.out)).trans Y3.out
    exact ⟨by rw [cell_of this]; rfl, by rw [cell_of this]; rfl⟩
  clear s3 b3 cI CN
  go_wp2_with fail
  refine wp_region_held_drew (S := fun w' => Below w3.heap.size w3 w') (by kernel_rfl) ((Below.refl _ w3).drew) (fun hHeld => ?_)
  refine wpAnyH_take (i := 0) (oi := { dst := some 22, op := Op.fieldAddr 51 (Operand.tmp 1) 0, type := 0, pos := "law.go:110", after := #[], guard := none }) (v := ?v5n1) rfl (by kernel_rfl) (by kernel_rfl) (by kernel_rfl) (fun _ _ _ h => h) (Or.inl ⟨by rfl, ?hy5n1⟩) (by assumption) ?rest5n1
  case hy5n1 => (intro w hSw; (try dsimp only at hSw); obtain ⟨q0, q1⟩ := YB.out _ hSw; go_simp <;> (try with_reducible rfl))
  try simp only [Act.put, List.setIfInBounds_toArray, List.set_cons_zero, List.set_cons_succ]
  refine wpAnyH_take (i := 1) (oi := { dst := some 23, op := Op.load 29 (Operand.tmp 22), type := 29, pos := "law.go:110", after := #[{ on := 0, ground := Ground.data }], guard := none }) (v := ?v5n2) rfl (by kernel_rfl) (by kernel_rfl) (by kernel_rfl) (fun _ _ _ h => h) (Or.inl ⟨by rfl, ?hy5n2⟩) (by assumption) ?rest5n2
  case hy5n2 => (intro w hSw; (try dsimp only at hSw); obtain ⟨q0, q1⟩ := YB.out _ hSw; go_simp <;> (try with_reducible rfl))
  try simp only [Act.put, List.setIfInBounds_toArray, List.set_cons_zero, List.set_cons_succ]
  refine wpAnyH_take (i := 3) (oi := { dst := some 25, op := Op.fieldAddr 51 (Operand.tmp 1) 1, type := 0, pos := "law.go:110", after := #[], guard := none }) (v := ?v5n3) rfl (by kernel_rfl) (by kernel_rfl) (by kernel_rfl) (fun _ _ _ h => h) (Or.inl ⟨by rfl, ?hy5n3⟩) (by assumption) ?rest5n3
  case hy5n3 => (intro w hSw; (try dsimp only at hSw); obtain ⟨q0, q1⟩ := YB.out _ hSw; go_simp <;> (try with_reducible rfl))
  try simp only [Act.put, List.setIfInBounds_toArray, List.set_cons_zero, List.set_cons_succ]
  refine wpAnyH_take (i := 4) (oi := { dst := some 26, op := Op.load 29 (Operand.tmp 25), type := 29, pos := "law.go:110", after := #[{ on := 3, ground := Ground.data }], guard := none }) (v := ?v5n4) rfl (by kernel_rfl) (by kernel_rfl) (by kernel_rfl) (fun _ _ _ h => h) (Or.inl ⟨by rfl, ?hy5n4⟩) (by assumption) ?rest5n4
  case hy5n4 => (intro w hSw; (try dsimp only at hSw); obtain ⟨q0, q1⟩ := YB.out _ hSw; go_simp <;> (try with_reducible rfl))
  try simp only [Act.put, List.setIfInBounds_toArray, List.set_cons_zero, List.set_cons_succ]
  refine wpAnyH_ready (rs := [2]) (by kernel_rfl) (by simp) ?_
  refine AllReadyH.cons (o := { dst := some 24, op := Op.call { callee := Callee.value (Operand.func 10), args := #[Operand.tmp 23], argTypes := #[29] }, type := 29, pos := "law.go:110", after := #[{ on := 1, ground := Ground.data }], guard := none }) rfl (fun K hK => ?_) AllReadyH.nil
  go_simp
  refine (full_any x0 A0 n0 c0 _ (H0.out.below (Nat.le_refl _) (S3.out.bel.trans (hHeld.mono S3.out.bel.size))) N0.out).mono ?_
  rintro r wa ⟨va, rfl, ra, ba⟩
  have BA := Lib.hid ((Below.refl w3.heap.size w3).drew.trans (ba.mono (Nat.le_refl _)))
  have RA := Lib.hid ra
  clear ra ba
  go_wp2_with fail
  refine hK.out _ _ (BA.out) (fun hHeld => ?_)
  clear hK K
  try simp only [Act.put, List.setIfInBounds_toArray, List.set_cons_zero, List.set_cons_succ]
  refine wpAnyH_ready (rs := [5]) (by kernel_rfl) (by simp) ?_
  refine AllReadyH.cons (o := { dst := some 27, op := Op.call { callee := Callee.value (Operand.func 10), args := #[Operand.tmp 26], argTypes := #[29] }, type := 29, pos := "law.go:110", after := #[{ on := 4, ground := Ground.data }, { on := 2, ground := Ground.chain }], guard := none }) rfl (fun K hK => ?_) AllReadyH.nil
  go_simp
  refine (full_any x1 A1 n1 c1 _ (H1.out.below (Nat.le_refl _) (S3.out.bel.trans (BA.out.mono S3.out.bel.size))) N1.out).mono ?_
  rintro r wb ⟨vb, rfl, rb, bb⟩
  have BB := Lib.hid (BA.out.trans (bb.mono BA.out.size))
  have RB := Lib.hid rb
  have RA2 := Lib.hid (RA.out.below bb)
  clear rb bb
  go_wp2_with fail
  refine hK.out _ _ (BB.out) (fun hHeld => ?_)
  clear hK K
  try simp only [Act.put, List.setIfInBounds_toArray, List.set_cons_zero, List.set_cons_succ]
  refine wpAnyH_take (i := 6) (oi := { dst := some 6, op := Op.assign (Operand.tmp 24), type := 29, pos := "law.go:110", after := #[{ on := 2, ground := Ground.data }, { on := 5, ground := Ground.chain }, { on := 0, ground := Ground.phase }, { on := 1, ground := Ground.phase }, { on := 2, ground := Ground.phase }, { on := 3, ground := Ground.textOnly Departure.lateStores }, { on := 4, ground := Ground.textOnly Departure.lateStores }, { on := 5, ground := Ground.textOnly Departure.lateStoresUnsure }], guard := none }) (v := ?v5n5) rfl (by kernel_rfl) (by kernel_rfl) (by kernel_rfl) (fun _ _ _ h => h) (Or.inl ⟨by rfl, ?hy5n5⟩) (by assumption) ?rest5n5
  case hy5n5 => (intro w hSw; (try dsimp only at hSw); obtain ⟨q0, q1⟩ := YB.out _ hSw; go_simp <;> (try with_reducible rfl))
  try simp only [Act.put, List.setIfInBounds_toArray, List.set_cons_zero, List.set_cons_succ]
  refine wpAnyH_take (i := 7) (oi := { dst := some 7, op := Op.assign (Operand.tmp 27), type := 29, pos := "law.go:110", after := #[{ on := 5, ground := Ground.data }, { on := 6, ground := Ground.chain }, { on := 0, ground := Ground.phase }, { on := 1, ground := Ground.phase }, { on := 2, ground := Ground.phase }, { on := 3, ground := Ground.phase }, { on := 4, ground := Ground.phase }, { on := 5, ground := Ground.phase }, { on := 6, ground := Ground.phase }], guard := none }) (v := ?v5n6) rfl (by kernel_rfl) (by kernel_rfl) (by kernel_rfl) (fun _ _ _ h => h) (Or.inl ⟨by rfl, ?hy5n6⟩) (by assumption) ?rest5n6
  case hy5n6 => (intro w hSw; (try dsimp only at hSw); obtain ⟨q0, q1⟩ := YB.out _ hSw; go_simp <;> (try with_reducible rfl))
  try simp only [Act.put, List.setIfInBounds_toArray, List.set_cons_zero, List.set_cons_succ]
  refine wpAnyH_done (by kernel_rfl) ?_ _
  have S4 := Lib.hid (S3.out.below BB.out)
  have Y4 := Lib.hid ((BB.out.block _ (lt_of_heap Y3.out)).trans Y3.out)
  clear hHeld
  have hla : (fullL x0).length = 64 := fullL_length _
  have hlb : (fullL x1).length = 64 := fullL_length _
  obtain ⟨Aa, ca, hva, _⟩ := RA2.out.form
  obtain ⟨Ab, cb, hvb, _⟩ := RB.out.form
  generalize fullL x0 = a at RA2 hla hva
  generalize fullL x1 = b at RB hlb hvb
  rw [hla] at hva
  rw [hlb] at hvb
  have HLA := Lib.hid hla
  have HLB := Lib.hid hlb
  have hm64 : (64 : Nat) ≤ maxLen := by unfold maxLen; omega
  have HVA := Lib.hid hva
  have HVB := Lib.hid hvb
  have C1 := Lib.hid (st_write S4.out (j : Int) a Aa 64 ca (by decide) (by decide) hla (fun w' hf => row_keep RA2.out hva (by rw [hla]; exact hm64) hf))
  rw [(kd1_is HJ.out hla).1] at C1
  change Hid (Calls _ _ _ _ fun r w' => _ ∧ St w w' g (kd1 j a) ∧ _) at C1
  have RA4 := Lib.hid RA2.out
  rw [HVA.out]
  rw [HVB.out]
  clear RA RA2 BA BB S3 Y3 YB hla hlb hva hvb
  go_wp2_with fail
  refine C1.out.mono ?_
  rintro r w5 ⟨rfl, s5, f5⟩
  have RA5 := Lib.hid (RA4.out.fr f5 (by simp) (by simp))
  have RB5 := Lib.hid (RB.out.fr f5 (by simp) (by simp))
  have Y5 := Lib.hid (f5.keep _ _ Y4.out (by simp [kd]) (by simp))
  have C2 := Lib.hid (st_write s5 8 a Aa 64 ca (by rw [(kd1_is HJ.out HLA.out).2]; simp) (by rw [(kd1_is HJ.out HLA.out).2]; simp) HLA.out (fun w' hf => row_keep RA5.out HVA.out (by rw [HLA.out]; exact hm64) hf))
  rw [(kd2_is HJ.out HLA.out).1] at C2
  change Hid (Calls _ _ _ _ fun r w' => _ ∧ St w w' g (kd2 j a) ∧ _) at C2
  clear s5 f5 C1 RA4 RB Y4 S4
  go_wp2_with fail
  refine C2.out.mono ?_
  rintro r w6 ⟨rfl, s6, f6⟩
  have RA6 := Lib.hid (RA5.out.fr f6 (by simp) (by simp))
  have RB6 := Lib.hid (RB5.out.fr f6 (by simp) (by simp))
  have Y6 := Lib.hid (f6.keep _ _ Y5.out (by simp [kd]) (by simp))
  have C3 := Lib.hid (st_sync s6 (by rw [(kd2_is HJ.out HLA.out).2]; simp))
  rw [(kd3_is HJ.out HLA.out).1] at C3
  simp only [if_true] at C3
  change Hid (Calls _ _ _ _ fun r w' => _ ∧ St w w' g (kd3 j a) ∧ _) at C3
  clear s6 f6 C2 RA5 RB5 Y5
  go_wp2_with fail
  refine C3.out.mono ?_
  rintro r w7 ⟨rfl, s7, f7⟩
  have RA7 := Lib.hid (RA6.out.fr f7 (by simp) (by simp))
  have RB7 := Lib.hid (RB6.out.fr f7 (by simp) (by simp))
  have Y7 := Lib.hid (f7.keep _ _ Y6.out (by simp [kd]) (by simp))
  have C4 := Lib.hid (st_write s7 (j : Int) b Ab 64 cb (by rw [(kd3_is HJ.out HLA.out).2]; simp) (by rw [(kd3_is HJ.out HLA.out).2]; simp) HLB.out (fun w' hf => row_keep RB7.out HVB.out (by rw [HLB.out]; exact hm64) hf))
  rw [(kd4_is HJ.out HLA.out HLB.out).1] at C4
  change Hid (Calls _ _ _ _ fun r w' => _ ∧ St w w' g (kd4 j a b) ∧ _) at C4
  clear s7 f7 C3 RA6 RB6 Y6
  go_wp2_with fail
  refine C4.out.mono ?_
  rintro r w8 ⟨rfl, s8, f8⟩
  have RA8 := Lib.hid (RA7.out.fr f8 (by simp) (by simp))
  have RB8 := Lib.hid (RB7.out.fr f8 (by simp) (by simp))
  have Y8 := f8.keep _ _ Y7.out (by simp [kd]) (by simp)
  have S8 := Lib.hid s8
  have C5 := Lib.hid (st_crash s8 x2 A2 n2 c2 N2.out (by rw [(kd4_is HJ.out HLA.out HLB.out).2]; simp) (fun w' hf => H2.out.below (Nat.le_refl _) (S8.out.bel.trans hf.below)))
  change Hid (Calls _ _ _ _ fun r w' => _ ∧ St w w' g (kd5 j a b x2) ∧ _) at C5
  have c2' : w8.cell? ⟨w.heap.size, 2, none⟩ = some (.slice A2 n2 c2) := by rw [cell_of Y8]; rfl
  clear s8 f8 C4 RA7 RB7 Y7 Y8
  go_wp2_with fail
  refine C5.out.mono ?_
  rintro r w9 ⟨rfl, s9, f9⟩
  obtain ⟨k1, k2, k3, k4, k5⟩ := kd5_rd (cs := x2) HJ.out HLA.out HLB.out
  have RA9 := Lib.hid (RA8.out.fr f9 (by simp) (by simp))
  have RB9 := Lib.hid (RB8.out.fr f9 (by simp) (by simp))
  have C6 := Lib.hid (st_read s9 (j : Int))
  rw [k1, k2] at C6
  clear s9 f9 C5 RA8 RB8 c2' S8
  go_wp2_with fail
  refine C6.out.mono ?_
  rintro r wA ⟨vx, rfl, ox, sA, bA⟩
  have C7 := Lib.hid (st_read sA 8)
  rw [k3, k4] at C7
  have OX := Lib.hid ox
  have RAA := Lib.hid (RA9.out.below bA)
  have RBA := Lib.hid (RB9.out.below bA)
  clear sA bA ox C6 RA9 RB9
  go_wp2_with fail
  refine C7.out.mono ?_
  rintro r wB ⟨vy, rfl, oy, sB, bB⟩
  have OXB := OX.out.below bB
  have RAB := RAA.out.below bB
  have RBB := RBA.out.below bB
  have C8 := Lib.hid (st_pend sB)
  rw [k5] at C8
  have hlt := torn_length (n := pick x2 0) HLA.out HLB.out (pick_lt _ _)
  obtain ⟨Ax, cx, hvx, slx, _⟩ := OXB.form
  obtain ⟨Ay, cy, hvy, sly, _⟩ := oy.form
  rw [hlt] at hvx
  rw [HLA.out] at hvy
  subst hvx hvy
  obtain ⟨A', c', e, sla, hca, _⟩ := RAB.sl (by rw [HLA.out]; exact hm64)
  rw [HVA.out] at e
  injection e with e1 e2 e3
  subst e1 e3
  clear e2
  obtain ⟨A', c', e, slb, _⟩ := RBB.sl (by rw [HLB.out]; exact hm64)
  rw [HVB.out] at e
  injection e with e1 e2 e3
  subst e1 e3
  clear e2
  have hcx := OXB.cap
  obtain ⟨ba, oa, rfl, -⟩ := at_by sla (k := 0) (by rw [HLA.out]; omega)
  obtain ⟨bb, ob, rfl, -⟩ := at_by slb (k := 0) (by rw [HLB.out]; omega)
  obtain ⟨bx, ox, rfl, -⟩ := at_by slx (k := 0) (by omega)
  obtain ⟨by', oy', rfl, -⟩ := at_by sly (k := 0) (by rw [HLA.out]; omega)
  have v1 := conv_by sla HLA.out ca
  have v2 := conv_by sly HLA.out cy
  have SLX := Lib.hid slx
  have SLA := Lib.hid sla
  have SLB := Lib.hid slb
  have HLT := Lib.hid hlt
  have HCX := Lib.hid hcx
  have HCA : Hid (64 ≤ ca) := by rw [← HLA.out]; exact hca
  have SBB := Lib.hid sB.bel
  clear RAB RBB OXB OX RAA RBA oy sB bB hca hcx slx sly sla slb hlt C7 k1 k2 k3 k4 k5
  go_wp2_with fail
  refine C8.out.mono ?_
  rintro r wC ⟨rfl, rfl⟩
  clear v1 v2
  go_wp2
  go_loopw [12] (fun s12 wr => ∃ k : Nat, k ≤ 64 ∧ s12 = .int .i64 (k : Int) ∧ Below wB.heap.size wB wr) (fun s _ => 64 - (intOf s).toNat)
  case atStart => exact ⟨0, Nat.zero_le _, rfl, Below.refl _ _⟩
  case round =>
    obtain ⟨k, hk, rfl, hb⟩ := hrel
    have HWR := Lib.hid hb
    have HK64 : Hid (k ≤ 64) := hk
    have CVX : Hid ((k = 64 ∨ (torn a b (pick x2 0))[k]? ≠ b[k]?) → ∀ w', Below wB.heap.size wB w' → (convert 29 9 (.slice (fromA bx ox cx k) (64 - k) (cx - k))).run Try.prog w' = .ok (.string (txt (a.drop k))) w') := fun h w' hw => by
      have h1 := torn_drop HLB.out (pick_lt x2 0) h
      have h2 := (SLX.out.below (Nat.le_refl _) hw).from HLT.out HCX.out HK64.out
      rw [h1] at h2
      exact conv_by h2 (by rw [List.length_drop, HLA.out]) _
    have CVA : Hid (∀ w', Below wB.heap.size wB w' → (convert 29 9 (.slice (fromA ba oa ca k) (64 - k) (ca - k))).run Try.prog w' = .ok (.string (txt (a.drop k))) w') := fun w' hw =>
      conv_by ((SLA.out.below (Nat.le_refl _) hw).from HLA.out HCA.out HK64.out) (by rw [List.length_drop, HLA.out]) _
    have HEND := Lib.hid (fun w' (h : Below wB.heap.size wB w') => SBB.out.trans (h.mono SBB.out.size))
    by_cases hlt : k < 64
    · have hki : (k : Int) < 64 := by omega
      have hk0 : (0 : Int) ≤ (k : Int) := by omega
      have hkx : k < (torn a b (pick x2 0)).length := by rw [HLT.out]; exact hlt
      have hkb : k < b.length := by rw [HLB.out]; exact hlt
      have HNE : Hid ((torn a b (pick x2 0))[k] ≠ b[k] → (torn a b (pick x2 0))[k]? ≠ b[k]?) := fun h => by
        rw [List.getElem?_eq_getElem hkx, List.getElem?_eq_getElem hkb]
        simpa using h
      have hdx : ∀ w', Below wB.heap.size wB w' → w'.cell? ⟨bx, ox + k, none⟩ = some (.int .u8 ((torn a b (pick x2 0))[k].toNat : Int)) ∧ w'.cell? ⟨bb, ob + k, none⟩ = some (.int .u8 (b[k].toNat : Int)) := fun w' hw => by
        obtain ⟨b1, o1, e1, _, d1⟩ := at_by (SLX.out.below (Nat.le_refl _) hw) hkx
        obtain ⟨b2, o2, e2, _, d2⟩ := at_by (SLB.out.below (Nat.le_refl _) hw) hkb
        cases e1
        cases e2
        exact ⟨d1, d2⟩
      generalize (torn a b (pick x2 0))[k] = p at HNE hdx
      generalize b[k] = q at HNE hdx
      by_cases hpq : p = q
      · subst hpq
        generalize (p.toNat : Int) = z at hdx
        have DX := Lib.hid hdx
        have HK : Hid (k + 1 ≤ 64) := hlt
        clear hdx HNE hkx hkb hk hlt hb CVX CVA
        go_wp2_with fail
        refine wp_region_held_drew (S := fun w' => Below wB.heap.size wB w') (by kernel_rfl) (HWR.out.drew) (fun hHeld => ?_)
        refine wpAnyH_take (i := 0) (oi := { dst := some 93, op := Op.move (Operand.tmp 12), type := 3, pos := "law.go:121", after := #[], guard := none }) (v := ?vk14n1) rfl (by kernel_rfl) (by kernel_rfl) (by kernel_rfl) (fun _ _ _ h => h) (Or.inl ⟨by rfl, ?hyk14n1⟩) (by assumption) ?restk14n1
        case hyk14n1 => (intro w hSw; (try dsimp only at hSw); obtain ⟨q0, q1⟩ := DX.out _ hSw; go_simp <;> (try with_reducible rfl))
        try simp only [Act.put, List.setIfInBounds_toArray, List.set_cons_zero, List.set_cons_succ]
        refine wpAnyH_take (i := 1) (oi := { dst := some 94, op := Op.binOp BinOp.lss 3 (Operand.tmp 93) (Operand.const (Value.int IntKind.i64 64)) 3, type := 4, pos := "law.go:121", after := #[{ on := 0, ground := Ground.data }], guard := none }) (v := ?vk14n2) rfl (by kernel_rfl) (by kernel_rfl) (by kernel_rfl) (fun _ _ _ h => h) (Or.inl ⟨by rfl, ?hyk14n2⟩) (by assumption) ?restk14n2
        case hyk14n2 => (intro w hSw; (try dsimp only at hSw); obtain ⟨q0, q1⟩ := DX.out _ hSw; go_simp <;> (try with_reducible rfl))
        try simp only [Act.put, List.setIfInBounds_toArray, List.set_cons_zero, List.set_cons_succ]
        refine wpAnyH_take (i := 2) (oi := { dst := some 95, op := Op.move (Operand.tmp 94), type := 4, pos := "law.go:121", after := #[{ on := 1, ground := Ground.data }], guard := none }) (v := ?vk14n3) rfl (by kernel_rfl) (by kernel_rfl) (by kernel_rfl) (fun _ _ _ h => h) (Or.inl ⟨by rfl, ?hyk14n3⟩) (by assumption) ?restk14n3
        case hyk14n3 => (intro w hSw; (try dsimp only at hSw); obtain ⟨q0, q1⟩ := DX.out _ hSw; go_simp <;> (try with_reducible rfl))
        try simp only [Act.put, List.setIfInBounds_toArray, List.set_cons_zero, List.set_cons_succ]
        refine wpAnyH_take (i := 3) (oi := { dst := some 96, op := Op.move (Operand.tmp 8), type := 29, pos := "law.go:121", after := #[{ on := 2, ground := Ground.guard }], guard := some (2, true) }) (v := ?vk14n4) rfl (by kernel_rfl) (by kernel_rfl) (by kernel_rfl) (fun _ _ _ h => h) (Or.inl ⟨by rfl, ?hyk14n4⟩) (by assumption) ?restk14n4
        case hyk14n4 => (intro w hSw; (try dsimp only at hSw); obtain ⟨q0, q1⟩ := DX.out _ hSw; go_simp <;> (try with_reducible rfl))
        try simp only [Act.put, List.setIfInBounds_toArray, List.set_cons_zero, List.set_cons_succ]
        refine wpAnyH_take (i := 4) (oi := { dst := some 97, op := Op.move (Operand.tmp 12), type := 3, pos := "law.go:121", after := #[{ on := 2, ground := Ground.guard }], guard := some (2, true) }) (v := ?vk14n5) rfl (by kernel_rfl) (by kernel_rfl) (by kernel_rfl) (fun _ _ _ h => h) (Or.inl ⟨by rfl, ?hyk14n5⟩) (by assumption) ?restk14n5
        case hyk14n5 => (intro w hSw; (try dsimp only at hSw); obtain ⟨q0, q1⟩ := DX.out _ hSw; go_simp <;> (try with_reducible rfl))
        try simp only [Act.put, List.setIfInBounds_toArray, List.set_cons_zero, List.set_cons_succ]
        refine wpAnyH_take (i := 5) (oi := { dst := some 98, op := Op.indexAddr 29 (Operand.tmp 96) (Operand.tmp 97), type := 0, pos := "law.go:121", after := #[{ on := 3, ground := Ground.data }, { on := 4, ground := Ground.data }, { on := 2, ground := Ground.guard }], guard := some (2, true) }) (v := ?vk14n6) rfl (by kernel_rfl) (by kernel_rfl) (by kernel_rfl) (fun _ _ _ h => h) (Or.inl ⟨by rfl, ?hyk14n6⟩) (by assumption) ?restk14n6
        case hyk14n6 => (intro w hSw; (try dsimp only at hSw); obtain ⟨q0, q1⟩ := DX.out _ hSw; go_simp <;> (try with_reducible rfl))
        try simp only [Act.put, List.setIfInBounds_toArray, List.set_cons_zero, List.set_cons_succ]
        refine wpAnyH_take (i := 6) (oi := { dst := some 99, op := Op.load 5 (Operand.tmp 98), type := 5, pos := "law.go:121", after := #[{ on := 5, ground := Ground.data }, { on := 2, ground := Ground.guard }], guard := some (2, true) }) (v := ?vk14n7) rfl (by kernel_rfl) (by kernel_rfl) (by kernel_rfl) (fun _ _ _ h => h) (Or.inl ⟨by rfl, ?hyk14n7⟩) (by assumption) ?restk14n7
        case hyk14n7 => (intro w hSw; (try dsimp only at hSw); obtain ⟨q0, q1⟩ := DX.out _ hSw; go_simp <;> (try with_reducible rfl))
        try simp only [Act.put, List.setIfInBounds_toArray, List.set_cons_zero, List.set_cons_succ]
        refine wpAnyH_take (i := 7) (oi := { dst := some 100, op := Op.move (Operand.tmp 7), type := 29, pos := "law.go:121", after := #[{ on := 2, ground := Ground.guard }], guard := some (2, true) }) (v := ?vk14n8) rfl (by kernel_rfl) (by kernel_rfl) (by kernel_rfl) (fun _ _ _ h => h) (Or.inl ⟨by rfl, ?hyk14n8⟩) (by assumption) ?restk14n8
        case hyk14n8 => (intro w hSw; (try dsimp only at hSw); obtain ⟨q0, q1⟩ := DX.out _ hSw; go_simp <;> (try with_reducible rfl))
        try simp only [Act.put, List.setIfInBounds_toArray, List.set_cons_zero, List.set_cons_succ]
        refine wpAnyH_take (i := 8) (oi := { dst := some 101, op := Op.move (Operand.tmp 12), type := 3, pos := "law.go:121", after := #[{ on := 2, ground := Ground.guard }], guard := some (2, true) }) (v := ?vk14n9) rfl (by kernel_rfl) (by kernel_rfl) (by kernel_rfl) (fun _ _ _ h => h) (Or.inl ⟨by rfl, ?hyk14n9⟩) (by assumption) ?restk14n9
        case hyk14n9 => (intro w hSw; (try dsimp only at hSw); obtain ⟨q0, q1⟩ := DX.out _ hSw; go_simp <;> (try with_reducible rfl))
        try simp only [Act.put, List.setIfInBounds_toArray, List.set_cons_zero, List.set_cons_succ]
        refine wpAnyH_take (i := 9) (oi := { dst := some 102, op := Op.indexAddr 29 (Operand.tmp 100) (Operand.tmp 101), type := 0, pos := "law.go:121", after := #[{ on := 7, ground := Ground.data }, { on := 8, ground := Ground.data }, { on := 2, ground := Ground.guard }], guard := some (2, true) }) (v := ?vk14n10) rfl (by kernel_rfl) (by kernel_rfl) (by kernel_rfl) (fun _ _ _ h => h) (Or.inl ⟨by rfl, ?hyk14n10⟩) (by assumption) ?restk14n10
        case hyk14n10 => (intro w hSw; (try dsimp only at hSw); obtain ⟨q0, q1⟩ := DX.out _ hSw; go_simp <;> (try with_reducible rfl))
        try simp only [Act.put, List.setIfInBounds_toArray, List.set_cons_zero, List.set_cons_succ]
        refine wpAnyH_take (i := 10) (oi := { dst := some 103, op := Op.load 5 (Operand.tmp 102), type := 5, pos := "law.go:121", after := #[{ on := 9, ground := Ground.data }, { on := 2, ground := Ground.guard }], guard := some (2, true) }) (v := ?vk14n11) rfl (by kernel_rfl) (by kernel_rfl) (by kernel_rfl) (fun _ _ _ h => h) (Or.inl ⟨by rfl, ?hyk14n11⟩) (by assumption) ?restk14n11
        case hyk14n11 => (intro w hSw; (try dsimp only at hSw); obtain ⟨q0, q1⟩ := DX.out _ hSw; go_simp <;> (try with_reducible rfl))
        try simp only [Act.put, List.setIfInBounds_toArray, List.set_cons_zero, List.set_cons_succ]
        refine wpAnyH_take (i := 11) (oi := { dst := some 104, op := Op.binOp BinOp.eql 5 (Operand.tmp 99) (Operand.tmp 103) 5, type := 4, pos := "law.go:121", after := #[{ on := 6, ground := Ground.data }, { on := 10, ground := Ground.data }, { on := 2, ground := Ground.guard }], guard := some (2, true) }) (v := ?vk14n12) rfl (by kernel_rfl) (by kernel_rfl) (by kernel_rfl) (fun _ _ _ h => h) (Or.inl ⟨by rfl, ?hyk14n12⟩) (by assumption) ?restk14n12
        case hyk14n12 => (intro w hSw; (try dsimp only at hSw); obtain ⟨q0, q1⟩ := DX.out _ hSw; go_simp <;> (try with_reducible rfl))
        try simp only [Act.put, List.setIfInBounds_toArray, List.set_cons_zero, List.set_cons_succ]
        refine wpAnyH_take (i := 12) (oi := { dst := some 105, op := Op.pick (Operand.tmp 95) (Operand.tmp 104) (Operand.const (Value.bool false)), type := 4, pos := "law.go:121", after := #[{ on := 2, ground := Ground.data }, { on := 11, ground := Ground.data }], guard := none }) (v := ?vk14n13) rfl (by kernel_rfl) (by kernel_rfl) (by kernel_rfl) (fun _ _ _ h => h) (Or.inl ⟨by rfl, ?hyk14n13⟩) (by assumption) ?restk14n13
        case hyk14n13 => (intro w hSw; (try dsimp only at hSw); obtain ⟨q0, q1⟩ := DX.out _ hSw; go_simp <;> (try with_reducible rfl))
        try simp only [Act.put, List.setIfInBounds_toArray, List.set_cons_zero, List.set_cons_succ]
        refine wpAnyH_done (by kernel_rfl) ?_ _
        go_wp2
        go_roundw
        case rel => exact ⟨k + 1, HK.out, by go_num, HWR.out.drew⟩
        case measure => simp [intOf]; omega
      · have CVN := Lib.hid (CVX.out (.inr (HNE.out hpq)))
        obtain ⟨z, hz⟩ : ∃ z : Int, z = (p.toNat : Int) := ⟨_, rfl⟩
        obtain ⟨y, hy⟩ : ∃ y : Int, y = (q.toNat : Int) := ⟨_, rfl⟩
        have hzy : ¬ z = y := by
          intro e
          apply hpq
          apply UInt8.toNat_inj.mp
          omega
        have hzy2 : (z == y) = false := by simpa using hzy
        have hzy3 : decide (z = y) = false := by simpa using hzy
        rw [← hz, ← hy] at hdx
        have DX := Lib.hid hdx
        clear hdx HNE hkx hkb hk hlt hb CVX hz hy hpq
        go_wp2_with fail
        refine wp_region_held_drew (S := fun w' => Below wB.heap.size wB w') (by kernel_rfl) (HWR.out.drew) (fun hHeld => ?_)
        refine wpAnyH_take (i := 0) (oi := { dst := some 93, op := Op.move (Operand.tmp 12), type := 3, pos := "law.go:121", after := #[], guard := none }) (v := ?vk14cn1) rfl (by kernel_rfl) (by kernel_rfl) (by kernel_rfl) (fun _ _ _ h => h) (Or.inl ⟨by rfl, ?hyk14cn1⟩) (by assumption) ?restk14cn1
        case hyk14cn1 => (intro w hSw; (try dsimp only at hSw); obtain ⟨q0, q1⟩ := DX.out _ hSw; go_simp <;> (try with_reducible rfl))
        try simp only [Act.put, List.setIfInBounds_toArray, List.set_cons_zero, List.set_cons_succ]
        refine wpAnyH_take (i := 1) (oi := { dst := some 94, op := Op.binOp BinOp.lss 3 (Operand.tmp 93) (Operand.const (Value.int IntKind.i64 64)) 3, type := 4, pos := "law.go:121", after := #[{ on := 0, ground := Ground.data }], guard := none }) (v := ?vk14cn2) rfl (by kernel_rfl) (by kernel_rfl) (by kernel_rfl) (fun _ _ _ h => h) (Or.inl ⟨by rfl, ?hyk14cn2⟩) (by assumption) ?restk14cn2
        case hyk14cn2 => (intro w hSw; (try dsimp only at hSw); obtain ⟨q0, q1⟩ := DX.out _ hSw; go_simp <;> (try with_reducible rfl))
        try simp only [Act.put, List.setIfInBounds_toArray, List.set_cons_zero, List.set_cons_succ]
        refine wpAnyH_take (i := 2) (oi := { dst := some 95, op := Op.move (Operand.tmp 94), type := 4, pos := "law.go:121", after := #[{ on := 1, ground := Ground.data }], guard := none }) (v := ?vk14cn3) rfl (by kernel_rfl) (by kernel_rfl) (by kernel_rfl) (fun _ _ _ h => h) (Or.inl ⟨by rfl, ?hyk14cn3⟩) (by assumption) ?restk14cn3
        case hyk14cn3 => (intro w hSw; (try dsimp only at hSw); obtain ⟨q0, q1⟩ := DX.out _ hSw; go_simp <;> (try with_reducible rfl))
        try simp only [Act.put, List.setIfInBounds_toArray, List.set_cons_zero, List.set_cons_succ]
        refine wpAnyH_take (i := 3) (oi := { dst := some 96, op := Op.move (Operand.tmp 8), type := 29, pos := "law.go:121", after := #[{ on := 2, ground := Ground.guard }], guard := some (2, true) }) (v := ?vk14cn4) rfl (by kernel_rfl) (by kernel_rfl) (by kernel_rfl) (fun _ _ _ h => h) (Or.inl ⟨by rfl, ?hyk14cn4⟩) (by assumption) ?restk14cn4
        case hyk14cn4 => (intro w hSw; (try dsimp only at hSw); obtain ⟨q0, q1⟩ := DX.out _ hSw; go_simp <;> (try with_reducible rfl))
        try simp only [Act.put, List.setIfInBounds_toArray, List.set_cons_zero, List.set_cons_succ]
        refine wpAnyH_take (i := 4) (oi := { dst := some 97, op := Op.move (Operand.tmp 12), type := 3, pos := "law.go:121", after := #[{ on := 2, ground := Ground.guard }], guard := some (2, true) }) (v := ?vk14cn5) rfl (by kernel_rfl) (by kernel_rfl) (by kernel_rfl) (fun _ _ _ h => h) (Or.inl ⟨by rfl, ?hyk14cn5⟩) (by assumption) ?restk14cn5
        case hyk14cn5 => (intro w hSw; (try dsimp only at hSw); obtain ⟨q0, q1⟩ := DX.out _ hSw; go_simp <;> (try with_reducible rfl))
        try simp only [Act.put, List.setIfInBounds_toArray, List.set_cons_zero, List.set_cons_succ]
        refine wpAnyH_take (i := 5) (oi := { dst := some 98, op := Op.indexAddr 29 (Operand.tmp 96) (Operand.tmp 97), type := 0, pos := "law.go:121", after := #[{ on := 3, ground := Ground.data }, { on := 4, ground := Ground.data }, { on := 2, ground := Ground.guard }], guard := some (2, true) }) (v := ?vk14cn6) rfl (by kernel_rfl) (by kernel_rfl) (by kernel_rfl) (fun _ _ _ h => h) (Or.inl ⟨by rfl, ?hyk14cn6⟩) (by assumption) ?restk14cn6
        case hyk14cn6 => (intro w hSw; (try dsimp only at hSw); obtain ⟨q0, q1⟩ := DX.out _ hSw; go_simp <;> (try with_reducible rfl))
        try simp only [Act.put, List.setIfInBounds_toArray, List.set_cons_zero, List.set_cons_succ]
        refine wpAnyH_take (i := 6) (oi := { dst := some 99, op := Op.load 5 (Operand.tmp 98), type := 5, pos := "law.go:121", after := #[{ on := 5, ground := Ground.data }, { on := 2, ground := Ground.guard }], guard := some (2, true) }) (v := ?vk14cn7) rfl (by kernel_rfl) (by kernel_rfl) (by kernel_rfl) (fun _ _ _ h => h) (Or.inl ⟨by rfl, ?hyk14cn7⟩) (by assumption) ?restk14cn7
        case hyk14cn7 => (intro w hSw; (try dsimp only at hSw); obtain ⟨q0, q1⟩ := DX.out _ hSw; go_simp <;> (try with_reducible rfl))
        try simp only [Act.put, List.setIfInBounds_toArray, List.set_cons_zero, List.set_cons_succ]
        refine wpAnyH_take (i := 7) (oi := { dst := some 100, op := Op.move (Operand.tmp 7), type := 29, pos := "law.go:121", after := #[{ on := 2, ground := Ground.guard }], guard := some (2, true) }) (v := ?vk14cn8) rfl (by kernel_rfl) (by kernel_rfl) (by kernel_rfl) (fun _ _ _ h => h) (Or.inl ⟨by rfl, ?hyk14cn8⟩) (by assumption) ?restk14cn8
        case hyk14cn8 => (intro w hSw; (try dsimp only at hSw); obtain ⟨q0, q1⟩ := DX.out _ hSw; go_simp <;> (try with_reducible rfl))
        try simp only [Act.put, List.setIfInBounds_toArray, List.set_cons_zero, List.set_cons_succ]
        refine wpAnyH_take (i := 8) (oi := { dst := some 101, op := Op.move (Operand.tmp 12), type := 3, pos := "law.go:121", after := #[{ on := 2, ground := Ground.guard }], guard := some (2, true) }) (v := ?vk14cn9) rfl (by kernel_rfl) (by kernel_rfl) (by kernel_rfl) (fun _ _ _ h => h) (Or.inl ⟨by rfl, ?hyk14cn9⟩) (by assumption) ?restk14cn9
        case hyk14cn9 => (intro w hSw; (try dsimp only at hSw); obtain ⟨q0, q1⟩ := DX.out _ hSw; go_simp <;> (try with_reducible rfl))
        try simp only [Act.put, List.setIfInBounds_toArray, List.set_cons_zero, List.set_cons_succ]
        refine wpAnyH_take (i := 9) (oi := { dst := some 102, op := Op.indexAddr 29 (Operand.tmp 100) (Operand.tmp 101), type := 0, pos := "law.go:121", after := #[{ on := 7, ground := Ground.data }, { on := 8, ground := Ground.data }, { on := 2, ground := Ground.guard }], guard := some (2, true) }) (v := ?vk14cn10) rfl (by kernel_rfl) (by kernel_rfl) (by kernel_rfl) (fun _ _ _ h => h) (Or.inl ⟨by rfl, ?hyk14cn10⟩) (by assumption) ?restk14cn10
        case hyk14cn10 => (intro w hSw; (try dsimp only at hSw); obtain ⟨q0, q1⟩ := DX.out _ hSw; go_simp <;> (try with_reducible rfl))
        try simp only [Act.put, List.setIfInBounds_toArray, List.set_cons_zero, List.set_cons_succ]
        refine wpAnyH_take (i := 10) (oi := { dst := some 103, op := Op.load 5 (Operand.tmp 102), type := 5, pos := "law.go:121", after := #[{ on := 9, ground := Ground.data }, { on := 2, ground := Ground.guard }], guard := some (2, true) }) (v := ?vk14cn11) rfl (by kernel_rfl) (by kernel_rfl) (by kernel_rfl) (fun _ _ _ h => h) (Or.inl ⟨by rfl, ?hyk14cn11⟩) (by assumption) ?restk14cn11
        case hyk14cn11 => (intro w hSw; (try dsimp only at hSw); obtain ⟨q0, q1⟩ := DX.out _ hSw; go_simp <;> (try with_reducible rfl))
        try simp only [Act.put, List.setIfInBounds_toArray, List.set_cons_zero, List.set_cons_succ]
        refine wpAnyH_take (i := 11) (oi := { dst := some 104, op := Op.binOp BinOp.eql 5 (Operand.tmp 99) (Operand.tmp 103) 5, type := 4, pos := "law.go:121", after := #[{ on := 6, ground := Ground.data }, { on := 10, ground := Ground.data }, { on := 2, ground := Ground.guard }], guard := some (2, true) }) (v := ?vk14cn12) rfl (by kernel_rfl) (by kernel_rfl) (by kernel_rfl) (fun _ _ _ h => h) (Or.inl ⟨by rfl, ?hyk14cn12⟩) (by assumption) ?restk14cn12
        case hyk14cn12 => (intro w hSw; (try dsimp only at hSw); obtain ⟨q0, q1⟩ := DX.out _ hSw; go_simp <;> (try with_reducible rfl))
        try simp only [Act.put, List.setIfInBounds_toArray, List.set_cons_zero, List.set_cons_succ]
        refine wpAnyH_take (i := 12) (oi := { dst := some 105, op := Op.pick (Operand.tmp 95) (Operand.tmp 104) (Operand.const (Value.bool false)), type := 4, pos := "law.go:121", after := #[{ on := 2, ground := Ground.data }, { on := 11, ground := Ground.data }], guard := none }) (v := ?vk14cn13) rfl (by kernel_rfl) (by kernel_rfl) (by kernel_rfl) (fun _ _ _ h => h) (Or.inl ⟨by rfl, ?hyk14cn13⟩) (by assumption) ?restk14cn13
        case hyk14cn13 => (intro w hSw; (try dsimp only at hSw); obtain ⟨q0, q1⟩ := DX.out _ hSw; go_simp <;> (try with_reducible rfl))
        try simp only [Act.put, List.setIfInBounds_toArray, List.set_cons_zero, List.set_cons_succ]
        refine wpAnyH_done (by kernel_rfl) ?_ _
        go_wp2_with fail
        refine wp_region_held_drew (S := fun w' => Below wB.heap.size wB w') (by kernel_rfl) (HWR.out.drew.drew) (fun hHeld => ?_)
        refine wpAnyH_take (i := 0) (oi := { dst := some 108, op := Op.move (Operand.tmp 8), type := 29, pos := "law.go:124", after := #[], guard := none }) (v := ?vk16n1) rfl (by kernel_rfl) (by kernel_rfl) (by kernel_rfl) (fun _ _ _ h => h) (Or.inl ⟨by rfl, ?hyk16n1⟩) (by assumption) ?restk16n1
        case hyk16n1 => (intro w hSw; (try dsimp only at hSw); go_simp <;> (try with_reducible rfl))
        try simp only [Act.put, List.setIfInBounds_toArray, List.set_cons_zero, List.set_cons_succ]
        refine wpAnyH_take (i := 1) (oi := { dst := some 109, op := Op.move (Operand.tmp 12), type := 3, pos := "law.go:124", after := #[], guard := none }) (v := ?vk16n2) rfl (by kernel_rfl) (by kernel_rfl) (by kernel_rfl) (fun _ _ _ h => h) (Or.inl ⟨by rfl, ?hyk16n2⟩) (by assumption) ?restk16n2
        case hyk16n2 => (intro w hSw; (try dsimp only at hSw); go_simp <;> (try with_reducible rfl))
        try simp only [Act.put, List.setIfInBounds_toArray, List.set_cons_zero, List.set_cons_succ]
        refine wpAnyH_take (i := 2) (oi := { dst := some 110, op := Op.slice 29 (Operand.tmp 108) (some (Operand.tmp 109)) none none, type := 29, pos := "law.go:124", after := #[{ on := 0, ground := Ground.data }, { on := 1, ground := Ground.data }], guard := none }) (v := Value.slice (fromA bx ox cx k) (64 - k) (cx - k)) rfl (by kernel_rfl) (by kernel_rfl) (by kernel_rfl) (fun _ _ _ h => h) (Or.inl ⟨by rfl, fun w hSw => exec_slice rfl rfl (by simp [Act.eval]) rfl rfl (slice29 _ _ _ _ HK64.out HCX.out w)⟩) (by assumption) ?_
        try simp only [Act.put, List.setIfInBounds_toArray, List.set_cons_zero, List.set_cons_succ]
        refine wpAnyH_take (i := 3) (oi := { dst := some 111, op := Op.convert 29 9 (Operand.tmp 110), type := 9, pos := "law.go:124", after := #[{ on := 2, ground := Ground.data }], guard := none }) (v := Value.string (txt (a.drop k))) rfl (by kernel_rfl) (by kernel_rfl) (by kernel_rfl) (fun _ _ _ h => h) (Or.inl ⟨by rfl, fun w hSw => exec_convert rfl rfl (CVN.out w hSw)⟩) (by assumption) ?_
        try simp only [Act.put, List.setIfInBounds_toArray, List.set_cons_zero, List.set_cons_succ]
        refine wpAnyH_take (i := 4) (oi := { dst := some 112, op := Op.move (Operand.tmp 6), type := 29, pos := "law.go:124", after := #[], guard := none }) (v := ?vk16n3) rfl (by kernel_rfl) (by kernel_rfl) (by kernel_rfl) (fun _ _ _ h => h) (Or.inl ⟨by rfl, ?hyk16n3⟩) (by assumption) ?restk16n3
        case hyk16n3 => (intro w hSw; (try dsimp only at hSw); go_simp <;> (try with_reducible rfl))
        try simp only [Act.put, List.setIfInBounds_toArray, List.set_cons_zero, List.set_cons_succ]
        refine wpAnyH_take (i := 5) (oi := { dst := some 113, op := Op.move (Operand.tmp 12), type := 3, pos := "law.go:124", after := #[], guard := none }) (v := ?vk16n4) rfl (by kernel_rfl) (by kernel_rfl) (by kernel_rfl) (fun _ _ _ h => h) (Or.inl ⟨by rfl, ?hyk16n4⟩) (by assumption) ?restk16n4
        case hyk16n4 => (intro w hSw; (try dsimp only at hSw); go_simp <;> (try with_reducible rfl))
        try simp only [Act.put, List.setIfInBounds_toArray, List.set_cons_zero, List.set_cons_succ]
        refine wpAnyH_take (i := 6) (oi := { dst := some 114, op := Op.slice 29 (Operand.tmp 112) (some (Operand.tmp 113)) none none, type := 29, pos := "law.go:124", after := #[{ on := 4, ground := Ground.data }, { on := 5, ground := Ground.data }], guard := none }) (v := Value.slice (fromA ba oa ca k) (64 - k) (ca - k)) rfl (by kernel_rfl) (by kernel_rfl) (by kernel_rfl) (fun _ _ _ h => h) (Or.inl ⟨by rfl, fun w hSw => exec_slice rfl rfl (by simp [Act.eval]) rfl rfl (slice29 _ _ _ _ HK64.out HCA.out w)⟩) (by assumption) ?_
        try simp only [Act.put, List.setIfInBounds_toArray, List.set_cons_zero, List.set_cons_succ]
        refine wpAnyH_take (i := 7) (oi := { dst := some 115, op := Op.convert 29 9 (Operand.tmp 114), type := 9, pos := "law.go:124", after := #[{ on := 6, ground := Ground.data }], guard := none }) (v := Value.string (txt (a.drop k))) rfl (by kernel_rfl) (by kernel_rfl) (by kernel_rfl) (fun _ _ _ h => h) (Or.inl ⟨by rfl, fun w hSw => exec_convert rfl rfl (CVA.out w hSw)⟩) (by assumption) ?_
        try simp only [Act.put, List.setIfInBounds_toArray, List.set_cons_zero, List.set_cons_succ]
        refine wpAnyH_take (i := 8) (oi := { dst := some 116, op := Op.binOp BinOp.eql 9 (Operand.tmp 111) (Operand.tmp 115) 9, type := 4, pos := "law.go:124", after := #[{ on := 3, ground := Ground.data }, { on := 7, ground := Ground.data }], guard := none }) (v := ?vk16n5) rfl (by kernel_rfl) (by kernel_rfl) (by kernel_rfl) (fun _ _ _ h => h) (Or.inl ⟨by rfl, ?hyk16n5⟩) (by assumption) ?restk16n5
        case hyk16n5 => (intro w hSw; (try dsimp only at hSw); go_simp <;> (try with_reducible rfl))
        try simp only [Act.put, List.setIfInBounds_toArray, List.set_cons_zero, List.set_cons_succ]
        refine wpAnyH_take (i := 9) (oi := { dst := some 2, op := Op.assign (Operand.tmp 116), type := 4, pos := "law.go:124", after := #[{ on := 8, ground := Ground.data }, { on := 0, ground := Ground.phase }, { on := 1, ground := Ground.phase }, { on := 2, ground := Ground.phase }, { on := 3, ground := Ground.phase }, { on := 4, ground := Ground.phase }, { on := 5, ground := Ground.phase }, { on := 6, ground := Ground.phase }, { on := 7, ground := Ground.phase }, { on := 8, ground := Ground.phase }], guard := none }) (v := ?vk16n6) rfl (by kernel_rfl) (by kernel_rfl) (by kernel_rfl) (fun _ _ _ h => h) (Or.inl ⟨by rfl, ?hyk16n6⟩) (by assumption) ?restk16n6
        case hyk16n6 => (intro w hSw; (try dsimp only at hSw); go_simp <;> (try with_reducible rfl))
        try simp only [Act.put, List.setIfInBounds_toArray, List.set_cons_zero, List.set_cons_succ]
        refine wpAnyH_done (by kernel_rfl) ?_ _
        go_wp2
        go_ret
        exact ⟨rfl, HEND.out _ HWR.out.drew.drew⟩
    · have hki : ¬ (k : Int) < 64 := by omega
      have hkd : decide ((k : Int) < 64) = false := decide_eq_false hki
      have CVN := Lib.hid (CVX.out (.inl (by omega)))
      clear hlt hb CVX hk
      go_wp2_with fail
      refine wp_region_held_drew (S := fun w' => Below wB.heap.size wB w') (by kernel_rfl) (HWR.out.drew) (fun hHeld => ?_)
      refine wpAnyH_take (i := 0) (oi := { dst := some 93, op := Op.move (Operand.tmp 12), type := 3, pos := "law.go:121", after := #[], guard := none }) (v := ?vk14bn1) rfl (by kernel_rfl) (by kernel_rfl) (by kernel_rfl) (fun _ _ _ h => h) (Or.inl ⟨by rfl, ?hyk14bn1⟩) (by assumption) ?restk14bn1
      case hyk14bn1 => (intro w hSw; (try dsimp only at hSw); go_simp <;> (try with_reducible rfl))
      try simp only [Act.put, List.setIfInBounds_toArray, List.set_cons_zero, List.set_cons_succ]
      refine wpAnyH_take (i := 1) (oi := { dst := some 94, op := Op.binOp BinOp.lss 3 (Operand.tmp 93) (Operand.const (Value.int IntKind.i64 64)) 3, type := 4, pos := "law.go:121", after := #[{ on := 0, ground := Ground.data }], guard := none }) (v := ?vk14bn2) rfl (by kernel_rfl) (by kernel_rfl) (by kernel_rfl) (fun _ _ _ h => h) (Or.inl ⟨by rfl, ?hyk14bn2⟩) (by assumption) ?restk14bn2
      case hyk14bn2 => (intro w hSw; (try dsimp only at hSw); go_simp <;> (try with_reducible rfl))
      try simp only [Act.put, List.setIfInBounds_toArray, List.set_cons_zero, List.set_cons_succ]
      refine wpAnyH_take (i := 2) (oi := { dst := some 95, op := Op.move (Operand.tmp 94), type := 4, pos := "law.go:121", after := #[{ on := 1, ground := Ground.data }], guard := none }) (v := ?vk14bn3) rfl (by kernel_rfl) (by kernel_rfl) (by kernel_rfl) (fun _ _ _ h => h) (Or.inl ⟨by rfl, ?hyk14bn3⟩) (by assumption) ?restk14bn3
      case hyk14bn3 => (intro w hSw; (try dsimp only at hSw); go_simp <;> (try with_reducible rfl))
      try simp only [Act.put, List.setIfInBounds_toArray, List.set_cons_zero, List.set_cons_succ]
      refine wpAnyH_take (i := 3) (oi := { dst := some 96, op := Op.move (Operand.tmp 8), type := 29, pos := "law.go:121", after := #[{ on := 2, ground := Ground.guard }], guard := some (2, true) }) (v := undef) rfl (by kernel_rfl) (by kernel_rfl) (by kernel_rfl) (fun _ _ _ h => h) (Or.inr ⟨by rfl, rfl⟩) (by assumption) ?_
      try simp only [Act.put, List.setIfInBounds_toArray, List.set_cons_zero, List.set_cons_succ]
      refine wpAnyH_take (i := 4) (oi := { dst := some 97, op := Op.move (Operand.tmp 12), type := 3, pos := "law.go:121", after := #[{ on := 2, ground := Ground.guard }], guard := some (2, true) }) (v := undef) rfl (by kernel_rfl) (by kernel_rfl) (by kernel_rfl) (fun _ _ _ h => h) (Or.inr ⟨by rfl, rfl⟩) (by assumption) ?_
      try simp only [Act.put, List.setIfInBounds_toArray, List.set_cons_zero, List.set_cons_succ]
      refine wpAnyH_take (i := 5) (oi := { dst := some 98, op := Op.indexAddr 29 (Operand.tmp 96) (Operand.tmp 97), type := 0, pos := "law.go:121", after := #[{ on := 3, ground := Ground.data }, { on := 4, ground := Ground.data }, { on := 2, ground := Ground.guard }], guard := some (2, true) }) (v := undef) rfl (by kernel_rfl) (by kernel_rfl) (by kernel_rfl) (fun _ _ _ h => h) (Or.inr ⟨by rfl, rfl⟩) (by assumption) ?_
      try simp only [Act.put, List.setIfInBounds_toArray, List.set_cons_zero, List.set_cons_succ]
      refine wpAnyH_take (i := 6) (oi := { dst := some 99, op := Op.load 5 (Operand.tmp 98), type := 5, pos := "law.go:121", after := #[{ on := 5, ground := Ground.data }, { on := 2, ground := Ground.guard }], guard := some (2, true) }) (v := undef) rfl (by kernel_rfl) (by kernel_rfl) (by kernel_rfl) (fun _ _ _ h => h) (Or.inr ⟨by rfl, rfl⟩) (by assumption) ?_
      try simp only [Act.put, List.setIfInBounds_toArray, List.set_cons_zero, List.set_cons_succ]
      refine wpAnyH_take (i := 7) (oi := { dst := some 100, op := Op.move (Operand.tmp 7), type := 29, pos := "law.go:121", after := #[{ on := 2, ground := Ground.guard }], guard := some (2, true) }) (v := undef) rfl (by kernel_rfl) (by kernel_rfl) (by kernel_rfl) (fun _ _ _ h => h) (Or.inr ⟨by rfl, rfl⟩) (by assumption) ?_
      try simp only [Act.put, List.setIfInBounds_toArray, List.set_cons_zero, List.set_cons_succ]
      refine wpAnyH_take (i := 8) (oi := { dst := some 101, op := Op.move (Operand.tmp 12), type := 3, pos := "law.go:121", after := #[{ on := 2, ground := Ground.guard }], guard := some (2, true) }) (v := undef) rfl (by kernel_rfl) (by kernel_rfl) (by kernel_rfl) (fun _ _ _ h => h) (Or.inr ⟨by rfl, rfl⟩) (by assumption) ?_
      try simp only [Act.put, List.setIfInBounds_toArray, List.set_cons_zero, List.set_cons_succ]
      refine wpAnyH_take (i := 9) (oi := { dst := some 102, op := Op.indexAddr 29 (Operand.tmp 100) (Operand.tmp 101), type := 0, pos := "law.go:121", after := #[{ on := 7, ground := Ground.data }, { on := 8, ground := Ground.data }, { on := 2, ground := Ground.guard }], guard := some (2, true) }) (v := undef) rfl (by kernel_rfl) (by kernel_rfl) (by kernel_rfl) (fun _ _ _ h => h) (Or.inr ⟨by rfl, rfl⟩) (by assumption) ?_
      try simp only [Act.put, List.setIfInBounds_toArray, List.set_cons_zero, List.set_cons_succ]
      refine wpAnyH_take (i := 10) (oi := { dst := some 103, op := Op.load 5 (Operand.tmp 102), type := 5, pos := "law.go:121", after := #[{ on := 9, ground := Ground.data }, { on := 2, ground := Ground.guard }], guard := some (2, true) }) (v := undef) rfl (by kernel_rfl) (by kernel_rfl) (by kernel_rfl) (fun _ _ _ h => h) (Or.inr ⟨by rfl, rfl⟩) (by assumption) ?_
      try simp only [Act.put, List.setIfInBounds_toArray, List.set_cons_zero, List.set_cons_succ]
      refine wpAnyH_take (i := 11) (oi := { dst := some 104, op := Op.binOp BinOp.eql 5 (Operand.tmp 99) (Operand.tmp 103) 5, type := 4, pos := "law.go:121", after := #[{ on := 6, ground := Ground.data }, { on := 10, ground := Ground.data }, { on := 2, ground := Ground.guard }], guard := some (2, true) }) (v := undef) rfl (by kernel_rfl) (by kernel_rfl) (by kernel_rfl) (fun _ _ _ h => h) (Or.inr ⟨by rfl, rfl⟩) (by assumption) ?_
      try simp only [Act.put, List.setIfInBounds_toArray, List.set_cons_zero, List.set_cons_succ]
      refine wpAnyH_take (i := 12) (oi := { dst := some 105, op := Op.pick (Operand.tmp 95) (Operand.tmp 104) (Operand.const (Value.bool false)), type := 4, pos := "law.go:121", after := #[{ on := 2, ground := Ground.data }, { on := 11, ground := Ground.data }], guard := none }) (v := ?vk14bn4) rfl (by kernel_rfl) (by kernel_rfl) (by kernel_rfl) (fun _ _ _ h => h) (Or.inl ⟨by rfl, ?hyk14bn4⟩) (by assumption) ?restk14bn4
      case hyk14bn4 => (intro w hSw; (try dsimp only at hSw); go_simp <;> (try with_reducible rfl))
      try simp only [Act.put, List.setIfInBounds_toArray, List.set_cons_zero, List.set_cons_succ]
      refine wpAnyH_done (by kernel_rfl) ?_ _
      go_wp2_with fail
      refine wp_region_held_drew (S := fun w' => Below wB.heap.size wB w') (by kernel_rfl) (HWR.out.drew.drew) (fun hHeld => ?_)
      refine wpAnyH_take (i := 0) (oi := { dst := some 108, op := Op.move (Operand.tmp 8), type := 29, pos := "law.go:124", after := #[], guard := none }) (v := ?vk16bn1) rfl (by kernel_rfl) (by kernel_rfl) (by kernel_rfl) (fun _ _ _ h => h) (Or.inl ⟨by rfl, ?hyk16bn1⟩) (by assumption) ?restk16bn1
      case hyk16bn1 => (intro w hSw; (try dsimp only at hSw); go_simp <;> (try with_reducible rfl))
      try simp only [Act.put, List.setIfInBounds_toArray, List.set_cons_zero, List.set_cons_succ]
      refine wpAnyH_take (i := 1) (oi := { dst := some 109, op := Op.move (Operand.tmp 12), type := 3, pos := "law.go:124", after := #[], guard := none }) (v := ?vk16bn2) rfl (by kernel_rfl) (by kernel_rfl) (by kernel_rfl) (fun _ _ _ h => h) (Or.inl ⟨by rfl, ?hyk16bn2⟩) (by assumption) ?restk16bn2
      case hyk16bn2 => (intro w hSw; (try dsimp only at hSw); go_simp <;> (try with_reducible rfl))
      try simp only [Act.put, List.setIfInBounds_toArray, List.set_cons_zero, List.set_cons_succ]
      refine wpAnyH_take (i := 2) (oi := { dst := some 110, op := Op.slice 29 (Operand.tmp 108) (some (Operand.tmp 109)) none none, type := 29, pos := "law.go:124", after := #[{ on := 0, ground := Ground.data }, { on := 1, ground := Ground.data }], guard := none }) (v := Value.slice (fromA bx ox cx k) (64 - k) (cx - k)) rfl (by kernel_rfl) (by kernel_rfl) (by kernel_rfl) (fun _ _ _ h => h) (Or.inl ⟨by rfl, fun w hSw => exec_slice rfl rfl (by simp [Act.eval]) rfl rfl (slice29 _ _ _ _ HK64.out HCX.out w)⟩) (by assumption) ?_
      try simp only [Act.put, List.setIfInBounds_toArray, List.set_cons_zero, List.set_cons_succ]
      refine wpAnyH_take (i := 3) (oi := { dst := some 111, op := Op.convert 29 9 (Operand.tmp 110), type := 9, pos := "law.go:124", after := #[{ on := 2, ground := Ground.data }], guard := none }) (v := Value.string (txt (a.drop k))) rfl (by kernel_rfl) (by kernel_rfl) (by kernel_rfl) (fun _ _ _ h => h) (Or.inl ⟨by rfl, fun w hSw => exec_convert rfl rfl (CVN.out w hSw)⟩) (by assumption) ?_
      try simp only [Act.put, List.setIfInBounds_toArray, List.set_cons_zero, List.set_cons_succ]
      refine wpAnyH_take (i := 4) (oi := { dst := some 112, op := Op.move (Operand.tmp 6), type := 29, pos := "law.go:124", after := #[], guard := none }) (v := ?vk16bn3) rfl (by kernel_rfl) (by kernel_rfl) (by kernel_rfl) (fun _ _ _ h => h) (Or.inl ⟨by rfl, ?hyk16bn3⟩) (by assumption) ?restk16bn3
      case hyk16bn3 => (intro w hSw; (try dsimp only at hSw); go_simp <;> (try with_reducible rfl))
      try simp only [Act.put, List.setIfInBounds_toArray, List.set_cons_zero, List.set_cons_succ]
      refine wpAnyH_take (i := 5) (oi := { dst := some 113, op := Op.move (Operand.tmp 12), type := 3, pos := "law.go:124", after := #[], guard := none }) (v := ?vk16bn4) rfl (by kernel_rfl) (by kernel_rfl) (by kernel_rfl) (fun _ _ _ h => h) (Or.inl ⟨by rfl, ?hyk16bn4⟩) (by assumption) ?restk16bn4
      case hyk16bn4 => (intro w hSw; (try dsimp only at hSw); go_simp <;> (try with_reducible rfl))
      try simp only [Act.put, List.setIfInBounds_toArray, List.set_cons_zero, List.set_cons_succ]
      refine wpAnyH_take (i := 6) (oi := { dst := some 114, op := Op.slice 29 (Operand.tmp 112) (some (Operand.tmp 113)) none none, type := 29, pos := "law.go:124", after := #[{ on := 4, ground := Ground.data }, { on := 5, ground := Ground.data }], guard := none }) (v := Value.slice (fromA ba oa ca k) (64 - k) (ca - k)) rfl (by kernel_rfl) (by kernel_rfl) (by kernel_rfl) (fun _ _ _ h => h) (Or.inl ⟨by rfl, fun w hSw => exec_slice rfl rfl (by simp [Act.eval]) rfl rfl (slice29 _ _ _ _ HK64.out HCA.out w)⟩) (by assumption) ?_
      try simp only [Act.put, List.setIfInBounds_toArray, List.set_cons_zero, List.set_cons_succ]
      refine wpAnyH_take (i := 7) (oi := { dst := some 115, op := Op.convert 29 9 (Operand.tmp 114), type := 9, pos := "law.go:124", after := #[{ on := 6, ground := Ground.data }], guard := none }) (v := Value.string (txt (a.drop k))) rfl (by kernel_rfl) (by kernel_rfl) (by kernel_rfl) (fun _ _ _ h => h) (Or.inl ⟨by rfl, fun w hSw => exec_convert rfl rfl (CVA.out w hSw)⟩) (by assumption) ?_
      try simp only [Act.put, List.setIfInBounds_toArray, List.set_cons_zero, List.set_cons_succ]
      refine wpAnyH_take (i := 8) (oi := { dst := some 116, op := Op.binOp BinOp.eql 9 (Operand.tmp 111) (Operand.tmp 115) 9, type := 4, pos := "law.go:124", after := #[{ on := 3, ground := Ground.data }, { on := 7, ground := Ground.data }], guard := none }) (v := ?vk16bn5) rfl (by kernel_rfl) (by kernel_rfl) (by kernel_rfl) (fun _ _ _ h => h) (Or.inl ⟨by rfl, ?hyk16bn5⟩) (by assumption) ?restk16bn5
      case hyk16bn5 => (intro w hSw; (try dsimp only at hSw); go_simp <;> (try with_reducible rfl))
      try simp only [Act.put, List.setIfInBounds_toArray, List.set_cons_zero, List.set_cons_succ]
      refine wpAnyH_take (i := 9) (oi := { dst := some 2, op := Op.assign (Operand.tmp 116), type := 4, pos := "law.go:124", after := #[{ on := 8, ground := Ground.data }, { on := 0, ground := Ground.phase }, { on := 1, ground := Ground.phase }, { on := 2, ground := Ground.phase }, { on := 3, ground := Ground.phase }, { on := 4, ground := Ground.phase }, { on := 5, ground := Ground.phase }, { on := 6, ground := Ground.phase }, { on := 7, ground := Ground.phase }, { on := 8, ground := Ground.phase }], guard := none }) (v := ?vk16bn6) rfl (by kernel_rfl) (by kernel_rfl) (by kernel_rfl) (fun _ _ _ h => h) (Or.inl ⟨by rfl, ?hyk16bn6⟩) (by assumption) ?restk16bn6
      case hyk16bn6 => (intro w hSw; (try dsimp only at hSw); go_simp <;> (try with_reducible rfl))
      try simp only [Act.put, List.setIfInBounds_toArray, List.set_cons_zero, List.set_cons_succ]
      refine wpAnyH_done (by kernel_rfl) ?_ _
      go_wp2
      go_ret
      exact ⟨rfl, HEND.out _ HWR.out.drew.drew⟩
end Go.Proofs.Ytghfhjeaiiianaa

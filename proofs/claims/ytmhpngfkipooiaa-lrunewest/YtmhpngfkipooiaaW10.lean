/-
  The walk of LruNewest. Its conditions: the things read as such.
-/
import Derived.Test.YtmhpngfkipooiaaW9
namespace Go.Proofs.Ytmhpngfkipooiaa
open Go.RowKit Go.Maps

def oTk (x : Tk) : Obj := .cells #[.string x.key, .int .i64 x.S, .bool x.got] 52 (0, 0)
theorem St.cellsT {w0 W : World} {g : Nat} {L : List Th} {room kept : Int} {q : Nat} {x : Tk} (s : St w0 W g L room kept q (oTk x)) :
    W.cell? ⟨q, 0, none⟩ = some (.string x.key) ∧ W.cell? ⟨q, 1, none⟩ = some (.int .i64 x.S) ∧ W.cell? ⟨q, 2, none⟩ = some (.bool x.got) := by
  have := s.box
  unfold oTk at this
  refine ⟨?_, ?_, ?_⟩ <;> simp [World.cell?, this]
theorem st_newT {w wr : World} {g : Nat} {L : List Th} {room kept : Int} (x : Tk) (hm : CacheAt wr w.heap.size g L room kept) (hb : Below w.heap.size w wr) : St w (wr.alloc (oTk x)) g L room kept wr.heap.size (oTk x) := by
  have hb1 : Below wr.heap.size wr (wr.alloc (oTk x)) := (Below.refl _ _).alloc (Nat.le_refl _) _
  exact ⟨hm.below hb1, heap_new _ _, by simp [oTk, kd, cK], hb.trans (hb1.mono hb.size)⟩
/-- Keys, where there is a first one. -/
theorem st_keys1 {w0 W : World} {g : Nat} {t : Th} {L : List Th} {room kept : Int} {q : Nat} {o : Obj} (s : St w0 W g (t :: L) room kept q o) (hl : (t :: L).length ≤ 100000) : Calls Try.prog 27 #[.pointer (some ⟨g, 0, none⟩)] W fun r w' =>
    ∃ b off n c, r = .returned (.slice (some ⟨b, off, none⟩) (n + 1) c) ∧ w'.cell? ⟨b, off, none⟩ = some (.string t.k) ∧ St w0 w' g (t :: L) room kept q o := by
  refine (st_keys s hl).mono ?_
  rintro r w' ⟨A, c, rfl, ho, s'⟩
  obtain ⟨A', c', e, hs⟩ := Row.strs ho (by rw [keys_length]; unfold maxLen; omega)
  obtain ⟨b, off, rfl, _, h0⟩ := hs.at_ (k := 0) (by simp [keys])
  injection e with e1 e2 e3
  subst e1 e3
  exact ⟨b, off, L.length, c, rfl, by simpa [keys] using h0, s'⟩
theorem fnd_head (t : Th) (L : List Th) : fnd (t :: L) t.k = some t := by simp [fnd]
def NwRel (l : List Tk) (g : Nat) (room : Int) (w : World) (s6 : Value) (wr : World) : Prop :=
  ∃ (k : Nat) (L : List Th), k ≤ 200 ∧ k ≤ l.length ∧ s6 = .int .i64 (k : Int) ∧ CacheAt wr w.heap.size g L room 0 ∧ Below w.heap.size w wr ∧ L.length ≤ 2 * k
theorem usd_some {L : List Th} {k : ByteArray} {t : Th} (h : fnd L k = some t) : usd L k = t :: drp L k := by simp [usd, h]
theorem usd_none {L : List Th} {k : ByteArray} (h : fnd L k = none) : usd L k = L := by simp [usd, h]
set_option maxRecDepth 100000 in
set_option maxHeartbeats 8000000 in
theorem newest_walk (a : Int) (l : List Tk) (A : Option Addr) (n c : Nat) (w : World) (ha : a ≤ 9223372036854775807) (hs : Ths w A l) (hn : l.length = n) :
    Calls Try.prog 7 #[.int .i64 a, .slice A n c] w fun e w' => e = .returned (.bool true) ∧ Below w.heap.size w w' := by
  obtain ⟨room, hroom⟩ : ∃ room, room = max a 0 := ⟨_, rfl⟩
  have hmax : ∀ w, (Builtin.max_ #[3, 3] 3 #[.int .i64 a, .int .i64 0]).run Try.prog w = .ok (.int .i64 room) w := fun w => run_max2 w _ _ _ _ _ hroom
  have H := Lib.hid hs
  have HE := Lib.hid hn
  have HR := Lib.hid hroom
  have HA := Lib.hid ha
  have hn0 : (n : Int) ≤ 9223372036854775807 := by have := hs.1; rw [hn] at this; unfold maxLen at this; omega
  have HN0 := Lib.hid hn0
  clear hs hn hroom ha hn0
  go_enter Try.func7, Try.ntmps7
  go_wp2_with fail
  refine (awake_any w).mono ?_
  rintro e w1 ⟨rfl, b1⟩
  have B1 := Lib.hid b1
  clear b1
  go_wp2_with fail
  refine (new_any w.heap.size a room w1 B1.out.size HR.out HA.out).mono ?_
  rintro e w2 ⟨g, rfl, _, c2, b2⟩
  have C2 := Lib.hid c2
  have B2 := Lib.hid (B1.out.trans (b2.mono B1.out.size))
  clear c2 b2 B1
  go_wp2
  go_loopw [6] (NwRel l g room w) (fun i _ => 201 - (intOf i).toNat)
  case atStart => exact ⟨0, [], Nat.zero_le _, Nat.zero_le _, rfl, C2.out, B2.out, Nat.le_refl _⟩
  case round =>
    obtain ⟨k, L, hk2, hkl, rfl, hm, hb, hlen⟩ := hrel
    have HM := Lib.hid hm
    have HB := Lib.hid hb
    clear hm hb C2 B2
    rw [HE.out] at hkl
    by_cases hlt : k < n ∧ k < 200
    · obtain ⟨hlt1, hlt2⟩ := hlt
      have hkl2 : k < l.length := by rw [HE.out]; exact hlt1
      obtain ⟨b, off, rfl, hbs, c0, c1, c2⟩ := (H.out.below (Nat.le_refl _) HB.out).at_ hkl2
      have S0 := Lib.hid (st_newT l[k] HM.out HB.out)
      have HKS := Lib.hid (H.out.2.1 l[k] (List.getElem_mem hkl2))
      -- the last thing of all
      have hln : n - 1 < l.length := by rw [HE.out]; omega
      have HLK := Lib.hid (H.out.2.1 (l[n - 1]'hln) (List.getElem_mem hln))
      have HLC : Hid (∀ W, Below w.heap.size w W → W.cell? ⟨b, off + (n - 1) * 3, none⟩ = some (.string (l[n - 1]'hln).key)) := fun W hW => by
        obtain ⟨b', off', e1, _, c1, _, _⟩ := (H.out.below (Nat.le_refl _) hW).at_ hln
        injection e1 with e1
        injection e1 with e1 e2 _
        subst e1 e2
        exact c1
      generalize (l[n - 1]'hln).key = lk at HLK HLC
      generalize l[k] = x at c0 c1 c2 S0 HKS
      obtain ⟨key, S, got⟩ := x
      simp only at c0 c1 c2 S0 HKS
      have hlti : (k : Int) < (n : Int) := by omega
      have hlti2 : (k : Int) < 200 := by omega
      have hk0 : (0 : Int) ≤ (k : Int) := by omega
      have HL := Lib.hid hlen
      have HK2 := Lib.hid hk2
      clear hkl2 hlen hbs hln
      have C5 := Lib.hid (st_put S0.out ⟨key, S, (k : Int)⟩ HKS.out (by have := HL.out; have := HK2.out; omega))
      have HPL := Lib.hid (putL_len room 0 L ⟨key, S, (k : Int)⟩)
      have hok : wayOk room 0 S = decide (0 ≤ S ∧ S ≤ room) := by simp [wayOk]
      cases hdec : wayOk room 0 S with
      | false =>
        have hm0 : wG room 0 S (drp L key) = [] := by simp [wG, hdec]
        simp only [hdec, hm0, List.length_nil] at C5
        rw [hdec] at hok
        have hor : ¬ S ≥ 0 ∨ (S ≥ 0 ∧ ¬ S ≤ room) := by have := hok.symm; simp at this; omega
        clear hok hdec hm0
        go_wp2_with fail
        have e1 : (wr.alloc (.cells #[.string key, .int .i64 S, .bool got] 52)) = wr.alloc (oTk ⟨key, S, got⟩) := rfl
        rw [e1]
        clear e1 c0 c1 c2
        refine C5.out.mono ?_
        rintro r W1 ⟨A1, m1, rfl, _, s1⟩
        have S1 := Lib.hid s1
        obtain ⟨z0, z1, z2⟩ := s1.cellsT
        clear s1 S0 C5
        rcases hor with hs0 | ⟨hs0, hs1⟩
        all_goals
          go_wp2
          go_roundw
          case rel => exact ⟨k + 1, _, by omega, by have := HE.out; omega, by go_num, S1.out.cache, S1.out.bel, by have := HPL.out; have := HL.out; omega⟩
          case measure => simp [intOf]; omega
      | true =>
        rw [hdec] at hok
        have hor : S ≥ 0 ∧ S ≤ room := by have := hok.symm; simpa using this
        obtain ⟨hs0, hs1⟩ := hor
        have hpl : putL room 0 L ⟨key, S, (k : Int)⟩ = ⟨key, S, (k : Int)⟩ :: wL room 0 S (drp L key) := by simp [putL, hdec]
        simp only [hdec, hpl] at C5
        rw [hpl] at HPL
        generalize (wG room 0 S (drp L key)).length = mm at C5
        generalize wL room 0 S (drp L key) = M at C5 HPL
        have HPM : Hid ((Th.mk key S (k : Int) :: M).length ≤ 2 * k + 1) := by show _ ≤ _; have := HPL.out; have := HL.out; omega
        clear hok hdec hpl HPL
        go_wp2_with fail
        have e1 : (wr.alloc (.cells #[.string key, .int .i64 S, .bool got] 52)) = wr.alloc (oTk ⟨key, S, got⟩) := rfl
        rw [e1]
        clear e1 c0 c1 c2
        refine C5.out.mono ?_
        rintro r W1 ⟨A1, m1, rfl, _, s1⟩
        have S1 := Lib.hid s1
        obtain ⟨z0, z1, z2⟩ := s1.cellsT
        clear s1 S0 C5
        generalize wr.heap.size = q at S1 z0 z1 z2 ⊢
        have C6 := Lib.hid (st_peek S1.out key HKS.out)
        rw [fnd_head ⟨key, S, (k : Int)⟩ M] at C6
        go_wp2_with fail
        refine C6.out.mono ?_
        rintro r W2 ⟨rfl, s2⟩
        have S2 := Lib.hid s2
        obtain ⟨y0, y1, y2⟩ := s2.cellsT
        simp only [getV]
        clear s2 S1 C6 z0 z1 z2
        have C7 : Hid (∀ W, W = W2.drew → Calls Try.prog 27 #[.pointer (some ⟨g, 0, none⟩)] W fun r w' => ∃ b off n c, r = .returned (.slice (some ⟨b, off, none⟩) (n + 1) c) ∧ w'.cell? ⟨b, off, none⟩ = some (.string key) ∧ St w w' g (⟨key, S, (k : Int)⟩ :: M) room 0 q (oTk ⟨key, S, got⟩)) :=
          fun W hW => by subst hW; exact st_keys1 (t := ⟨key, S, (k : Int)⟩) S2.out.drew (by have := HPM.out; have := HK2.out; omega)
        go_wp2_with fail
        refine wp_region_held_drew (S := fun w' => w'.cell? ⟨q, 0, none⟩ = some (.string key)) (by kernel_rfl) y0 (fun hHeld => ?_)
        refine wpAnyH_take (i := 0) (oi := { dst := some 73, op := Op.move (Operand.tmp 11), type := 4, pos := "more.go:31", after := #[], guard := none }) (v := ?v0) rfl (by kernel_rfl) (by kernel_rfl) (by kernel_rfl) (fun _ _ _ h => h) (Or.inl ⟨by rfl, ?hy0⟩) (by assumption) ?rest0
        case hy0 => (intro w hSw; (try dsimp only at hSw); go_simp <;> (try with_reducible rfl))
        try simp only [Act.put, List.setIfInBounds_toArray, List.set_cons_zero, List.set_cons_succ]
        refine wpAnyH_take (i := 1) (oi := { dst := some 74, op := Op.unOp UnOp.not 4 (Operand.tmp 73), type := 4, pos := "more.go:31", after := #[{ on := 0, ground := Ground.data }], guard := none }) (v := ?v1) rfl (by kernel_rfl) (by kernel_rfl) (by kernel_rfl) (fun _ _ _ h => h) (Or.inl ⟨by rfl, ?hy1⟩) (by assumption) ?rest1
        case hy1 => (intro w hSw; (try dsimp only at hSw); go_simp <;> (try with_reducible rfl))
        try simp only [Act.put, List.setIfInBounds_toArray, List.set_cons_zero, List.set_cons_succ]
        refine wpAnyH_take (i := 2) (oi := { dst := some 75, op := Op.move (Operand.tmp 74), type := 4, pos := "more.go:31", after := #[{ on := 1, ground := Ground.data }], guard := none }) (v := ?v2) rfl (by kernel_rfl) (by kernel_rfl) (by kernel_rfl) (fun _ _ _ h => h) (Or.inl ⟨by rfl, ?hy2⟩) (by assumption) ?rest2
        case hy2 => (intro w hSw; (try dsimp only at hSw); go_simp <;> (try with_reducible rfl))
        try simp only [Act.put, List.setIfInBounds_toArray, List.set_cons_zero, List.set_cons_succ]
        refine wpAnyH_take (i := 3) (oi := { dst := some 76, op := Op.move (Operand.tmp 10), type := 3, pos := "more.go:31", after := #[{ on := 2, ground := Ground.guard }], guard := some (2, false) }) (v := ?v3) rfl (by kernel_rfl) (by kernel_rfl) (by kernel_rfl) (fun _ _ _ h => h) (Or.inl ⟨by rfl, ?hy3⟩) (by assumption) ?rest3
        case hy3 => (intro w hSw; (try dsimp only at hSw); go_simp <;> (try with_reducible rfl))
        try simp only [Act.put, List.setIfInBounds_toArray, List.set_cons_zero, List.set_cons_succ]
        refine wpAnyH_take (i := 4) (oi := { dst := some 77, op := Op.move (Operand.tmp 6), type := 3, pos := "more.go:31", after := #[{ on := 2, ground := Ground.guard }], guard := some (2, false) }) (v := ?v4) rfl (by kernel_rfl) (by kernel_rfl) (by kernel_rfl) (fun _ _ _ h => h) (Or.inl ⟨by rfl, ?hy4⟩) (by assumption) ?rest4
        case hy4 => (intro w hSw; (try dsimp only at hSw); go_simp <;> (try with_reducible rfl))
        try simp only [Act.put, List.setIfInBounds_toArray, List.set_cons_zero, List.set_cons_succ]
        refine wpAnyH_take (i := 5) (oi := { dst := some 78, op := Op.binOp BinOp.neq 3 (Operand.tmp 76) (Operand.tmp 77) 3, type := 4, pos := "more.go:31", after := #[{ on := 3, ground := Ground.data }, { on := 4, ground := Ground.data }, { on := 2, ground := Ground.guard }], guard := some (2, false) }) (v := ?v5) rfl (by kernel_rfl) (by kernel_rfl) (by kernel_rfl) (fun _ _ _ h => h) (Or.inl ⟨by rfl, ?hy5⟩) (by assumption) ?rest5
        case hy5 => (intro w hSw; (try dsimp only at hSw); go_simp <;> (try with_reducible rfl))
        try simp only [Act.put, List.setIfInBounds_toArray, List.set_cons_zero, List.set_cons_succ]
        refine wpAnyH_take (i := 6) (oi := { dst := some 79, op := Op.pick (Operand.tmp 75) (Operand.const (Value.bool true)) (Operand.tmp 78), type := 4, pos := "more.go:31", after := #[{ on := 2, ground := Ground.data }, { on := 5, ground := Ground.data }], guard := none }) (v := ?v6) rfl (by kernel_rfl) (by kernel_rfl) (by kernel_rfl) (fun _ _ _ h => h) (Or.inl ⟨by rfl, ?hy6⟩) (by assumption) ?rest6
        case hy6 => (intro w hSw; (try dsimp only at hSw); go_simp <;> (try with_reducible rfl))
        try simp only [Act.put, List.setIfInBounds_toArray, List.set_cons_zero, List.set_cons_succ]
        refine wpAnyH_take (i := 7) (oi := { dst := some 80, op := Op.move (Operand.tmp 79), type := 4, pos := "more.go:31", after := #[{ on := 6, ground := Ground.data }, { on := 2, ground := Ground.chain }], guard := none }) (v := ?v7) rfl (by kernel_rfl) (by kernel_rfl) (by kernel_rfl) (fun _ _ _ h => h) (Or.inl ⟨by rfl, ?hy7⟩) (by assumption) ?rest7
        case hy7 => (intro w hSw; (try dsimp only at hSw); go_simp <;> (try with_reducible rfl))
        try simp only [Act.put, List.setIfInBounds_toArray, List.set_cons_zero, List.set_cons_succ]
        refine wpAnyH_take (i := 8) (oi := { dst := some 81, op := Op.move (Operand.tmp 5), type := 24, pos := "more.go:31", after := #[{ on := 7, ground := Ground.guard }], guard := some (7, false) }) (v := ?v8) rfl (by kernel_rfl) (by kernel_rfl) (by kernel_rfl) (fun _ _ _ h => h) (Or.inl ⟨by rfl, ?hy8⟩) (by assumption) ?rest8
        case hy8 => (intro w hSw; (try dsimp only at hSw); go_simp <;> (try with_reducible rfl))
        try simp only [Act.put, List.setIfInBounds_toArray, List.set_cons_zero, List.set_cons_succ]
        refine wpAnyH_take (i := 12) (oi := { dst := some 85, op := Op.fieldAddr 52 (Operand.tmp 7) 0, type := 0, pos := "more.go:31", after := #[{ on := 7, ground := Ground.guard }], guard := some (7, false) }) (v := ?v12) rfl (by kernel_rfl) (by kernel_rfl) (by kernel_rfl) (fun _ _ _ h => h) (Or.inl ⟨by rfl, ?hy12⟩) (by assumption) ?rest12
        case hy12 => (intro w hSw; (try dsimp only at hSw); go_simp <;> (try with_reducible rfl))
        try simp only [Act.put, List.setIfInBounds_toArray, List.set_cons_zero, List.set_cons_succ]
        refine wpAnyH_take (i := 13) (oi := { dst := some 86, op := Op.load 9 (Operand.tmp 85), type := 9, pos := "more.go:31", after := #[{ on := 12, ground := Ground.data }, { on := 7, ground := Ground.guard }], guard := some (7, false) }) (v := ?v13) rfl (by kernel_rfl) (by kernel_rfl) (by kernel_rfl) (fun _ _ _ h => h) (Or.inl ⟨by rfl, ?hy13⟩) (by assumption) ?rest13
        case hy13 => (intro w hSw; (try dsimp only at hSw); go_simp <;> (try with_reducible rfl))
        try simp only [Act.put, List.setIfInBounds_toArray, List.set_cons_zero, List.set_cons_succ]
        refine wpAnyH_ready (rs := [9]) (by kernel_rfl) (by simp) ?_
        refine AllReadyH.cons (o := { dst := some 82, op := Op.call { callee := Callee.value (Operand.func 27), args := #[Operand.tmp 81], argTypes := #[24] }, type := 32, pos := "more.go:31", after := #[{ on := 8, ground := Ground.data }, { on := 7, ground := Ground.chain }, { on := 7, ground := Ground.guard }], guard := some (7, false) }) rfl (fun K hK => ?_) AllReadyH.nil
        go_simp
        refine (C7.out _ ?hcall).mono ?_
        case hcall => exact rfl
        rintro r W3 ⟨b3, o3, n3, c3, rfl, k3, s3⟩
        have S3 := Lib.hid s3
        obtain ⟨p0, p1, p2⟩ := s3.cellsT
        clear s3
        go_wp2_with fail
        refine hK.out _ _ p0 (fun hHeld => ?_)
        clear hK K
        try simp only [Act.put, List.setIfInBounds_toArray, List.set_cons_zero, List.set_cons_succ]
        refine wpAnyH_take (i := 10) (oi := { dst := some 83, op := Op.indexAddr 32 (Operand.tmp 82) (Operand.const (Value.int IntKind.i64 0)), type := 0, pos := "more.go:31", after := #[{ on := 9, ground := Ground.data }, { on := 7, ground := Ground.guard }], guard := some (7, false) }) (v := ?v10) rfl (by kernel_rfl) (by kernel_rfl) (by kernel_rfl) (fun _ _ _ h => h) (Or.inl ⟨by rfl, ?hy10⟩) (by assumption) ?rest10
        case hy10 => (intro w hSw; (try dsimp only at hSw); go_simp <;> (try with_reducible rfl))
        try simp only [Act.put, List.setIfInBounds_toArray, List.set_cons_zero, List.set_cons_succ]
        refine wpAnyH_ready (rs := [11]) (by kernel_rfl) (by simp) ?_
        refine AllReadyH.cons (o := { dst := some 84, op := Op.load 9 (Operand.tmp 83), type := 9, pos := "more.go:31", after := #[{ on := 10, ground := Ground.data }, { on := 7, ground := Ground.guard }], guard := some (7, false) }) rfl (fun K hK => ?_) AllReadyH.nil
        go_simp
        refine hK.out _ _ p0 (fun hHeld => ?_)
        clear hK K
        try simp only [Act.put, List.setIfInBounds_toArray, List.set_cons_zero, List.set_cons_succ]
        refine wpAnyH_take (i := 14) (oi := { dst := some 87, op := Op.binOp BinOp.neq 9 (Operand.tmp 84) (Operand.tmp 86) 9, type := 4, pos := "more.go:31", after := #[{ on := 11, ground := Ground.data }, { on := 13, ground := Ground.data }, { on := 7, ground := Ground.guard }], guard := some (7, false) }) (v := ?v14) rfl (by kernel_rfl) (by kernel_rfl) (by kernel_rfl) (fun _ _ _ h => h) (Or.inl ⟨by rfl, ?hy14⟩) (by assumption) ?rest14
        case hy14 => (intro w hSw; (try dsimp only at hSw); go_simp <;> (try with_reducible rfl))
        try simp only [Act.put, List.setIfInBounds_toArray, List.set_cons_zero, List.set_cons_succ]
        refine wpAnyH_take (i := 15) (oi := { dst := some 88, op := Op.pick (Operand.tmp 80) (Operand.const (Value.bool true)) (Operand.tmp 87), type := 4, pos := "more.go:31", after := #[{ on := 7, ground := Ground.data }, { on := 14, ground := Ground.data }], guard := none }) (v := ?v15) rfl (by kernel_rfl) (by kernel_rfl) (by kernel_rfl) (fun _ _ _ h => h) (Or.inl ⟨by rfl, ?hy15⟩) (by assumption) ?rest15
        case hy15 => (intro w hSw; (try dsimp only at hSw); go_simp <;> (try with_reducible rfl))
        try simp only [Act.put, List.setIfInBounds_toArray, List.set_cons_zero, List.set_cons_succ]
        refine wpAnyH_done (by kernel_rfl) ?_ _
        clear C7 y0 y1 y2 S2
        obtain ⟨m, hmn⟩ : ∃ m, m = n - 1 := ⟨_, rfl⟩
        have d0 := HLC.out _ S3.out.bel
        rw [← hmn] at d0
        have hwm : wrap64 ((n : Int) - 1) = (m : Int) := by have := HN0.out; unfold wrap64; omega
        have hmi : (m : Int) < (n : Int) := by omega
        have hm0 : (0 : Int) ≤ (m : Int) := by omega
        clear hmn hHeld hk2 hkl hlt1 hlt2
        clear hs0 hs1
        cases got with
        | false =>
          go_wp2
          go_roundw
          case rel => exact ⟨k + 1, _, by omega, by have := HE.out; omega, by go_num, S3.out.cache, S3.out.bel, by have := HPM.out; omega⟩
          case measure => simp [intOf]; omega
        | true =>
          have C8 := Lib.hid (st_get S3.out lk HLK.out)
          rw [getV_eq] at C8
          have HUL := Lib.hid (usd_len (⟨key, S, (k : Int)⟩ :: M) lk)
          cases hf : fnd (⟨key, S, (k : Int)⟩ :: M) lk with
          | none =>
            rw [hf] at C8
            simp only [gv, gb, Option.map_none, Option.getD_none, Option.isSome_none] at C8
            clear hf
            go_wp2_with fail
            refine C8.out.mono ?_
            rintro r W4 ⟨rfl, s4⟩
            have S4 := Lib.hid s4
            clear s4 C8
            go_wp2
            go_roundw
            case rel => exact ⟨k + 1, _, by omega, by have := HE.out; omega, by go_num, S4.out.cache, S4.out.bel, by have := HPM.out; have := HUL.out; omega⟩
            case measure => simp [intOf]; omega
          | some t =>
            have hkt := (fnd_some hf).2
            rw [usd_some hf] at C8 HUL
            rw [hf] at C8
            simp only [gv, gb, Option.map_some, Option.getD_some, Option.isSome_some] at C8
            subst hkt
            clear hf
            generalize drp (⟨key, S, (k : Int)⟩ :: M) t.k = M2 at C8 HUL
            go_wp2_with fail
            refine C8.out.mono ?_
            rintro r W4 ⟨rfl, s4⟩
            have C9 := Lib.hid (st_keys1 s4 (by have := HPM.out; have := HUL.out; have := HK2.out; omega))
            clear s4 C8
            go_wp2_with fail
            refine C9.out.mono ?_
            rintro r W5 ⟨b5, o5, n5, c5, rfl, k5, s5⟩
            have S5 := Lib.hid s5
            clear s5 C9
            go_wp2
            go_roundw
            case rel => exact ⟨k + 1, _, by omega, by have := HE.out; omega, by go_num, S5.out.cache, S5.out.bel, by have := HPM.out; have := HUL.out; omega⟩
            case measure => simp [intOf]; omega
    · skip
      have hcase : ¬ (k : Int) < (n : Int) ∨ ((k : Int) < (n : Int) ∧ ¬ (k : Int) < 200) := by omega
      clear hlt hk2 hkl hlen HM
      rcases hcase with hc1 | ⟨hc1, hc2⟩
      all_goals
        go_wp2
        go_ret
        exact ⟨rfl, HB.out⟩
end Go.Proofs.Ytmhpngfkipooiaa

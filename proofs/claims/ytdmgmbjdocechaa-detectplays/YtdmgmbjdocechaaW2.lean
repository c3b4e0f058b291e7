/-
  A detector in memory. The contracts of ago, Alive, Beat, Changes, New. Their conditions: the detector lies in memory, its moment and its changes are below a bound, it has no more nodes than a bound.
-/
import Derived.Test.YtdmgmbjdocechaaRw
import Derived.Laws.LoneSync
namespace Go.Proofs.Ytdmgmbjdocechaa
open Go.RowKit Go.Maps Go.ChangeMaps
open Go.Sort (grow)

theorem run_max2 {P : Program} (w : World) (ts : Array TypeId) (t : TypeId) (x y n : Int) (h : n = max x y) :
    (Builtin.max_ ts t #[.int .i64 x, .int .i64 y]).run P w = .ok (.int .i64 n) w := by
  subst h
  simp [Builtin.max_, Builtin.max2]
  try omega
theorem wf_i64 {x : Int} (h1 : -9223372036854775808 ≤ x) (h2 : x ≤ 9223372036854775807) : (Lit.int .i64 x).wf = true := WalkArith.wf_i64 (by omega)
/-- A detector's own block. -/
def Box (w : World) (g B : Nat) (pat now ch : Int) : Prop := w.heap[g]? = some (.cells #[.int .i64 pat, .int .i64 now, .map (some B), .int .i64 ch] 53 (0, 0))
section
variable {w w' : World} {g B : Nat} {pat now ch : Int}
theorem Box.lt (h : Box w g B pat now ch) : g < w.heap.size := lt_of_heap h
theorem Box.c0 (h : Box w g B pat now ch) : w.cell? ⟨g, 0, none⟩ = some (.int .i64 pat) := by simp [World.cell?, show w.heap[g]? = _ from h]
theorem Box.c1 (h : Box w g B pat now ch) : w.cell? ⟨g, 1, none⟩ = some (.int .i64 now) := by simp [World.cell?, show w.heap[g]? = _ from h]
theorem Box.c2 (h : Box w g B pat now ch) : w.cell? ⟨g, 2, none⟩ = some (.map (some B)) := by simp [World.cell?, show w.heap[g]? = _ from h]
theorem Box.c3 (h : Box w g B pat now ch) : w.cell? ⟨g, 3, none⟩ = some (.int .i64 ch) := by simp [World.cell?, show w.heap[g]? = _ from h]
theorem Box.frozen (h : Box w g B pat now ch) (o : Nat) : w.frozen? ⟨g, o, none⟩ = false := by simp [World.frozen?, show w.heap[g]? = _ from h]
theorem Box.set1 (h : Box w g B pat now ch) (x : Int) : Box (w.setCell ⟨g, 1, none⟩ (.int .i64 x)) g B pat x ch := by
  unfold Box at h ⊢
  simp [World.setCell, Array.getElem?_modify, h]
theorem Box.set3 (h : Box w g B pat now ch) (x : Int) : Box (w.setCell ⟨g, 3, none⟩ (.int .i64 x)) g B pat now x := by
  unfold Box at h ⊢
  simp [World.setCell, Array.getElem?_modify, h]
theorem Box.below (h : Box w g B pat now ch) (hb : Below w.heap.size w w') : Box w' g B pat now ch := (hb.block g h.lt).trans h
end

/-- A detector that lies in block g, its map in block B. -/
structure DetAt (w : World) (base g B : Nat) (L : List Tm) (pat now ch : Int) : Prop where
  box : Box w g B pat now ch
  mp : MapAt w B L
  bg : base ≤ g
  bB : base ≤ B
  ok : ∀ x ∈ L, Ok x
  good : Good L pat now ch
section
variable {w w' : World} {base base' g B : Nat} {L L' : List Tm} {pat now ch : Int} {l ms : List Nat}
theorem DetAt.gB (h : DetAt w base g B L pat now ch) : g ≠ B := by
  rintro rfl
  obtain ⟨es, c, hb⟩ := h.mp.isMap
  have := h.box
  unfold Box at this
  rw [hb] at this
  cases this
theorem DetAt.below (h : DetAt w base g B L pat now ch) (hf : Below w.heap.size w w') : DetAt w' base g B L pat now ch := ⟨h.box.below hf, h.mp.below hf, h.bg, h.bB, h.ok, h.good⟩
/-- What writes neither a detector's kinds nor its blocks leaves it as it was. -/
theorem DetAt.keep (h : DetAt w base g B L pat now ch) (hf : Fr l ms base' w w') (h1 : 53 ∉ l) (h2 : 1000 ∉ l) (hg : g ∉ ms) (hB : B ∉ ms) : DetAt w' base g B L pat now ch :=
  ⟨hf.keep g _ h.box h1 hg, h.mp.fr hf h2 hB, h.bg, h.bB, h.ok, h.good⟩
theorem DetAt.ltB (h : DetAt w base g B L pat now ch) : B < w.heap.size := by
  obtain ⟨es, c, hb⟩ := h.mp.isMap
  exact lt_of_heap hb
/-- The map has turned. -/
theorem DetAt.turn (h : DetAt w base g B L pat now ch) (hg : w.grownBy w' (some B)) (hm : MapAt w' B L') (ho : ∀ x ∈ L', Ok x) (hgd : Good L' pat now ch) : DetAt w' base g B L' pat now ch ∧ Fr [] [g, B] base w w' := by
  obtain ⟨es, c, hb⟩ := h.mp.isMap
  have hF : Fr [] [g, B] base w w' := (Fr.refl _ _ _ _).grown hg hb (.inr (by simp)) h.bB
  refine ⟨⟨?_, hm, h.bg, h.bB, ho, hgd⟩, hF⟩
  have h1 := hg.block g h.box.lt (by simpa using h.gB)
  exact h1.trans h.box
/-- The moment has turned. -/
theorem DetAt.setN (h : DetAt w base g B L pat now ch) {n : Int} (hgd : Good L pat n ch) : DetAt (w.setCell ⟨g, 1, none⟩ (.int .i64 n)) base g B L pat n ch ∧ Fr [] [g, B] base w (w.setCell ⟨g, 1, none⟩ (.int .i64 n)) := by
  have hF : Fr [] [g, B] base w (w.setCell ⟨g, 1, none⟩ (.int .i64 n)) := (Fr.refl _ _ _ _).set h.box (.inr (by simp)) h.bg _
  have hF2 : Fr [] [g] base w (w.setCell ⟨g, 1, none⟩ (.int .i64 n)) := (Fr.refl _ _ _ _).set h.box (.inr (by simp)) h.bg _
  exact ⟨⟨h.box.set1 n, h.mp.fr hF2 (by simp) (by simpa using h.gB.symm), h.bg, h.bB, h.ok, hgd⟩, hF⟩
/-- The changes have turned. -/
theorem DetAt.setC (h : DetAt w base g B L pat now ch) {n : Int} (hgd : Good L pat now n) : DetAt (w.setCell ⟨g, 3, none⟩ (.int .i64 n)) base g B L pat now n ∧ Fr [] [g, B] base w (w.setCell ⟨g, 3, none⟩ (.int .i64 n)) := by
  have hF : Fr [] [g, B] base w (w.setCell ⟨g, 3, none⟩ (.int .i64 n)) := (Fr.refl _ _ _ _).set h.box (.inr (by simp)) h.bg _
  have hF2 : Fr [] [g] base w (w.setCell ⟨g, 3, none⟩ (.int .i64 n)) := (Fr.refl _ _ _ _).set h.box (.inr (by simp)) h.bg _
  exact ⟨⟨h.box.set3 n, h.mp.fr hF2 (by simp) (by simpa using h.gB.symm), h.bg, h.bB, h.ok, hgd⟩, hF⟩
end
def DPost (w : World) (base g B : Nat) (L : List Tm) (pat now ch : Int) (v : Value) (r : Ending) (w' : World) : Prop :=
  r = .returned v ∧ DetAt w' base g B L pat now ch ∧ Fr [] [g, B] base w w'

set_option maxHeartbeats 1000000 in
theorem ago_any (base g B : Nat) (L : List Tm) (pat now ch : Int) (k : ByteArray) (w : World) (h : DetAt w base g B L pat now ch) (hk : k.size ≤ maxLen) (hnow : now ≤ 1000000) :
    Calls Try.prog 24 #[.pointer (some ⟨g, 0, none⟩), .string k] w fun x w' => x = .returned (.tuple #[.int .i64 (now - val L k), .bool (has L k)]) ∧ w = w' := by
  have c1 := h.box.c1
  have c2 := h.box.c2
  have hf := h.mp.find hk
  obtain ⟨v0, v1⟩ := h.good.val k
  generalize val L k = v at hf v0 v1 ⊢
  generalize has L k = b at hf ⊢
  clear h hk
  go_enter Try.func24, Try.ntmps24
  go_wp2
  go_ret2
  exact ⟨rfl, rfl⟩
theorem ago_nil (k : ByteArray) (w : World) : Calls Try.prog 24 #[.pointer none, .string k] w fun x w' => x = .returned (.tuple #[.int .i64 0, .bool false]) ∧ w = w' := by
  go_enter Try.func24, Try.ntmps24
  go_wp2
  go_ret2
  exact ⟨rfl, rfl⟩
set_option maxHeartbeats 1000000 in
theorem alive_any (base g B : Nat) (L : List Tm) (pat now ch : Int) (k : ByteArray) (w : World) (h : DetAt w base g B L pat now ch) (hk : k.size ≤ maxLen) (hnow : now ≤ 1000000) :
    Calls Try.prog 18 #[.pointer (some ⟨g, 0, none⟩), .string k] w fun x w' => x = .returned (.bool (alive L pat now k)) ∧ w = w' := by
  have c0 := h.box.c0
  have CA := Lib.hid (ago_any base g B L pat now ch k w h hk hnow)
  unfold alive
  generalize now - val L k = v at CA ⊢
  cases hh : has L k with
  | true =>
    rw [hh] at CA
    simp only [Bool.true_and]
    clear h hk hh hnow
    go_enter Try.func18, Try.ntmps18
    go_wp2_with fail
    refine CA.out.mono ?_
    rintro r w1 ⟨rfl, rfl⟩
    go_wp2
    go_ret
    exact ⟨rfl, rfl⟩
  | false =>
    rw [hh] at CA
    simp only [Bool.false_and]
    clear h hk hh hnow
    go_enter Try.func18, Try.ntmps18
    go_wp2_with fail
    refine CA.out.mono ?_
    rintro r w1 ⟨rfl, rfl⟩
    go_wp2
    go_ret
    exact ⟨rfl, rfl⟩
theorem alive_nil (k : ByteArray) (w : World) : Calls Try.prog 18 #[.pointer none, .string k] w fun x w' => x = .returned (.bool false) ∧ w = w' := by
  go_enter Try.func18, Try.ntmps18
  go_wp2_with fail
  refine (ago_nil k w).mono ?_
  rintro r w1 ⟨rfl, rfl⟩
  go_wp2
  go_ret
  exact ⟨rfl, rfl⟩
theorem changes_any (base g B : Nat) (L : List Tm) (pat now ch : Int) (w : World) (h : DetAt w base g B L pat now ch) :
    Calls Try.prog 20 #[.pointer (some ⟨g, 0, none⟩)] w fun x w' => x = .returned (.int .i64 ch) ∧ w = w' := by
  have c3 := h.box.c3
  have hld := run_call_load (P := Try.prog) Try.func29 (by kernel_rfl) (by kernel_rfl) (by kernel_rfl) .i64 (by kernel_rfl) c3
  clear h
  go_enter Try.func20, Try.ntmps20
  go_wp2
  go_ret
  exact ⟨rfl, rfl⟩
theorem changes_nil (w : World) : Calls Try.prog 20 #[.pointer none] w fun x w' => x = .returned (.int .i64 0) ∧ w = w' := by
  go_enter Try.func20, Try.ntmps20
  go_wp2
  go_ret
  exact ⟨rfl, rfl⟩
theorem add_n {x n : Int} (h1 : -9223372036854775808 ≤ x + n) (h2 : x + n ≤ 9223372036854775807) (w : World) : (Op.intArith .add .i64 x n).run Try.prog w = .ok (.int .i64 (x + n)) w := by
  have : IntKind.i64.wrap (x + n) = x + n := IntWalk.i64_in _ (by omega)
  simp [go_sem, this]
theorem add_any {g : Nat} {last n : Int} {w : World} (c3 : w.cell? ⟨g, 3, none⟩ = some (.int .i64 last)) (fz : w.frozen? ⟨g, 3, none⟩ = false) (h1 : -9223372036854775808 ≤ last + n) (h2 : last + n ≤ 9223372036854775807) :
    Calls Try.prog 23 #[.pointer (some ⟨g, 3, none⟩), .int .i64 n] w fun r w' => r = .returned (.int .i64 (last + n)) ∧ w' = w.setCell ⟨g, 3, none⟩ (.int .i64 (last + n)) := by
  have hs := add_n h1 h2 w
  have had := run_call_add (P := Try.prog) Try.func28 (by kernel_rfl) (by kernel_rfl) (by kernel_rfl) .i64 (by kernel_rfl) c3 fz hs
  clear hs
  go_enter Try.func23, Try.ntmps23
  go_wp2
  go_ret
  exact ⟨rfl, rfl⟩
set_option maxHeartbeats 4000000 in
theorem beat_any (base g B : Nat) (L : List Tm) (pat now ch : Int) (k : ByteArray) (w : World) (h : DetAt w base g B L pat now ch) (hk : k.size ≤ maxLen) (hnow : now ≤ 1000000) (hch : ch ≤ 1000000000) (hl : L.length ≤ 1000) (hbs : base ≤ w.heap.size) :
    Calls Try.prog 13 #[.pointer (some ⟨g, 0, none⟩), .string k] w (DPost w base g B (beatL L now k) pat now (ch + b2i (beatB L pat now k)) (.bool (beatB L pat now k))) := by
  have CA := Lib.hid (ago_any base g B L pat now ch k w h hk hnow)
  have hgd := h.good.beat k
  cases hh : has L k with
  | false =>
    have e1 : beatL L now k = L := by simp [beatL, hh]
    have e2 : beatB L pat now k = false := by simp [beatB, hh]
    rw [hh] at CA
    rw [e1, e2]
    have e3 : ch + b2i false = ch := by simp [b2i]
    rw [e3]
    have HE : Hid (DPost w base g B L pat now ch (.bool false) (.returned (.bool false)) w) := ⟨rfl, h, Fr.refl _ _ _ _⟩
    generalize now - val L k = v at CA
    clear h hk hh hnow hch hl hbs hgd e1 e2 e3
    go_enter Try.func13, Try.ntmps13
    go_wp2_with fail
    refine CA.out.mono ?_
    rintro r w1 ⟨rfl, rfl⟩
    go_wp2
    go_ret
    exact HE.out
  | true =>
    have e1 : beatL L now k = ins L ⟨k, now⟩ := by simp [beatL, hh]
    rw [hh] at CA
    have e2 : beatB L pat now k = !decide (now - val L k < pat) := by simp [beatB, hh]
    rw [e1, e2] at hgd ⊢
    have h0 := h.good.n0
    have hgi : Good (ins L ⟨k, now⟩) pat now ch := ⟨hgd.rs, hgd.lo, hgd.hi, hgd.p1, hgd.n0, h.good.c0⟩
    have hnw : (Lit.int .i64 now).wf = true := wf_i64 (by omega) (by omega)
    have T1 := h.below (Below.refl _ w).drew
    have c1 := T1.box.c1
    have c2 := T1.box.c2
    have d1 := h.box.c1
    have d2 := h.box.c2
    obtain ⟨w3, hr, hm3, hg3⟩ := T1.mp.put T1.good.rs (x := ⟨k, now⟩) ⟨hk, hnw⟩ (by unfold maxLen; omega)
    obtain ⟨t3, f3⟩ := T1.turn hg3 hm3 (fun y hy => by rcases mem_ins.mp hy with rfl | hy; exact ⟨hk, hnw⟩; exact T1.ok y hy.1) hgi
    simp only at hr
    have e0 := t3.box.c0
    have F3 : Hid (Fr [] [g, B] base w w3) := (Fr.of_below (Below.refl _ w).drew hbs).trans f3
    have H3 := Lib.hid t3
    have HG := Lib.hid hgd
    have HC : Hid (0 ≤ ch ∧ ch ≤ 1000000000) := ⟨h.good.c0, hch⟩
    clear T1 hgi hnw h hm3 hg3 t3 f3 hgd hk hl hbs e1 e2 hh hch h0 hnow
    by_cases hv : now - val L k < pat
    · have E : Hid (decide (now - val L k < pat) = true) := decide_eq_true hv
      generalize now - val L k = v at CA hv E HG ⊢
      rw [E.out] at HG ⊢
      have HE : Hid (DPost w base g B (ins L ⟨k, now⟩) pat now (ch + b2i (!true)) (.bool (!true)) (.returned (.bool false)) w3) := by
        show DPost _ _ _ _ _ _ _ _ _ _ _
        simp only [Bool.not_true, b2i]
        refine ⟨rfl, ?_, F3.out⟩
        rw [show ch + (if (false : Bool) = true then (1 : Int) else 0) = ch by simp]
        exact H3.out
      clear HG H3 F3
      go_enter Try.func13, Try.ntmps13
      go_wp2_with fail
      refine CA.out.mono ?_
      rintro r w1 ⟨rfl, rfl⟩
      go_wp2_with fail
      go_region
      all_goals
        go_wp2
        go_ret
        exact HE.out
    · have E : Hid (decide (now - val L k < pat) = false) := decide_eq_false hv
      generalize now - val L k = v at CA hv E HG ⊢
      rw [E.out] at HG ⊢
      obtain ⟨t4, f4⟩ := H3.out.setC HG.out
      have CD := Lib.hid (add_any (n := 1) H3.out.box.c3 (H3.out.box.frozen 3) (by have := HC.out; omega) (by have := HC.out; omega))
      have HE : Hid (DPost w base g B (ins L ⟨k, now⟩) pat now (ch + b2i (!false)) (.bool (!false)) (.returned (.bool true)) (w3.setCell ⟨g, 3, none⟩ (.int .i64 (ch + 1)))) := ⟨rfl, t4, F3.out.trans f4⟩
      clear HG H3 F3 t4 f4
      go_enter Try.func13, Try.ntmps13
      go_wp2_with fail
      refine CA.out.mono ?_
      rintro r w1 ⟨rfl, rfl⟩
      go_wp2_with fail
      go_region
      all_goals
        go_wp2_with fail
        refine CD.out.mono ?_
        rintro r w4 ⟨rfl, rfl⟩
        go_wp2
        go_ret
        exact HE.out
theorem beat_nil (k : ByteArray) (w : World) : Calls Try.prog 13 #[.pointer none, .string k] w fun x w' => x = .returned (.bool false) ∧ w = w' := by
  go_enter Try.func13, Try.ntmps13
  go_wp2_with fail
  refine (ago_nil k w).mono ?_
  rintro r w1 ⟨rfl, rfl⟩
  go_wp2
  go_ret
  exact ⟨rfl, rfl⟩
end Go.Proofs.Ytdmgmbjdocechaa

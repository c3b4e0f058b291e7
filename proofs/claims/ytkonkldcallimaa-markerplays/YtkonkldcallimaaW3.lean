/-
  The contracts of there, full, Set, Clear. Their conditions: the table lies in memory; the marker is one of Go's.
-/
import Derived.Test.YtkonkldcallimaaW2
namespace Go.Proofs.Ytkonkldcallimaa
open Go.RowKit Go.Maps Go.ChangeMaps

theorem there_nil (m : Mk) (w : World) : Calls Try.prog 22 #[.pointer none, mv m] w fun x w' => x = .returned (.bool false) ∧ Below w.heap.size w w' := by
  unfold mv
  go_enter Try.func22, Try.ntmps22
  go_wp2
  go_ret
  exact ⟨rfl, (Below.refl _ _).alloc (Nat.le_refl _) _⟩
/-- Where a marker lies in a block of its own. -/
theorem mk_cells {W : World} {q : Nat} {m : Mk} {T : TypeId} (h : W.heap[q]? = some (.cells #[.string m.k, .int .i64 m.s, .int .i64 m.r] T (0, 0))) :
    W.cell? ⟨q, 0, none⟩ = some (.string m.k) ∧ W.cell? ⟨q, 1, none⟩ = some (.int .i64 m.s) ∧ W.cell? ⟨q, 2, none⟩ = some (.int .i64 m.r) := by
  refine ⟨?_, ?_, ?_⟩ <;> simp [World.cell?, h]
set_option maxHeartbeats 2000000 in
theorem there_any (base g B : Nat) (L : List Mk) (limit : Int) (m : Mk) (w : World) (h : TableAt w base g B L limit) (hm : Ok m) :
    Calls Try.prog 22 #[.pointer (some ⟨g, 0, none⟩), mv m] w fun x w' => x = .returned (.bool (decide (m ∈ L))) ∧ Below w.heap.size w w' := by
  have hlook : ∀ w', Below w.heap.size w w' → (Instr.lookup 51 (.map (some B)) (.agg #[.string m.k, .int .i64 m.s, .int .i64 m.r]) true).run Try.prog w' = .ok (.tuple #[.agg #[], .bool (decide (m ∈ L))]) w' := fun w' hb => (h.mp.below hb).find hm
  have hc1 : ∀ w', Below w.heap.size w w' → w'.cell? ⟨g, 1, none⟩ = some (.map (some B)) := fun w' hb => (h.box.below hb).c1
  generalize decide (m ∈ L) = b at hlook ⊢
  clear h
  unfold mv
  go_enter Try.func22, Try.ntmps22
  go_wp2_with fail
  obtain ⟨q, hq⟩ : ∃ q, q = w.heap.size := ⟨_, rfl⟩
  rw [← hq]
  obtain ⟨W, hW⟩ : ∃ W, w.alloc (.cells #[.string m.k, .int .i64 m.s, .int .i64 m.r] 48) = W := ⟨_, rfl⟩
  have b0 : Below w.heap.size w W := hW ▸ (Below.refl _ _).alloc (Nat.le_refl _) _
  have x0 : W.heap[q]? = some (.cells #[.string m.k, .int .i64 m.s, .int .i64 m.r] 48 (0, 0)) := by rw [← hW, hq]; exact heap_new _ _
  rw [hW]
  have b1 : Below w.heap.size w (W.alloc (.cells #[] 55)) := b0.alloc (by have := b0.size; omega) _
  have x1 : (W.alloc (.cells #[] 55)).heap[q]? = some (.cells #[.string m.k, .int .i64 m.s, .int .i64 m.r] 48 (0, 0)) := by rw [heap_old _ _ (lt_of_heap x0)]; exact x0
  obtain ⟨d0, d1, d2⟩ := mk_cells x0
  obtain ⟨e0, e1, e2⟩ := mk_cells x1
  have d3 := hc1 _ b0
  have e3 := hc1 _ b1
  have l1 := hlook _ b0
  have l2 := hlook _ b0.drew
  have l3 := hlook _ b1
  have l4 := hlook _ b1.drew
  have HB := Lib.hid b1.drew
  clear hlook hc1 hW hq b0 b1 x0 x1
  go_region
  all_goals
    go_wp2
    go_ret
    exact ⟨rfl, HB.out⟩
theorem full_nil (w : World) : Calls Try.prog 23 #[.pointer none] w fun x w' => x = .returned (.bool true) ∧ Below w.heap.size w w' := by
  go_enter Try.func23, Try.ntmps23
  go_wp2_with fail
  go_quiet (fail)
  go_wp2
  go_ret
  exact ⟨rfl, below_drewN _ _⟩
set_option maxHeartbeats 2000000 in
theorem full_any (base g B : Nat) (L : List Mk) (limit : Int) (w : World) (h : TableAt w base g B L limit) :
    Calls Try.prog 23 #[.pointer (some ⟨g, 0, none⟩)] w fun x w' => x = .returned (.bool (decide ((L.length : Int) ≥ limit))) ∧ Below w.heap.size w w' := by
  have c0 := h.box.c0
  have c1 := h.box.c1
  have hlen : ∀ m, (Builtin.len_ #[51] 3 #[.map (some B)]).run Try.prog (w.drewN m) = .ok (.int .i64 (L.length : Int)) (w.drewN m) := fun m => (h.mp.below (below_drewN w m)).len 3
  obtain ⟨n, hn⟩ : ∃ n, n = L.length := ⟨_, rfl⟩
  rw [← hn] at hlen ⊢
  clear h hn
  go_enter Try.func23, Try.ntmps23
  go_wp2_with fail
  go_quiet (fail)
  go_wp2
  go_ret
  exact ⟨rfl, below_drewN _ _⟩
def SetPost (w : World) (base g B : Nat) (L : List Mk) (limit : Int) (v : Value) (r : Ending) (w' : World) : Prop :=
  r = .returned v ∧ TableAt w' base g B L limit ∧ Fr [] [B] base w w'
theorem set_nil (k : ByteArray) (s r : Int) (w : World) : Calls Try.prog 10 #[.pointer none, .string k, .int .i64 s, .int .i64 r] w fun x w' => x = .returned (.int .i64 4) ∧ Below w.heap.size w w' := by
  have b0 : Below w.heap.size w (w.alloc (.cells #[.string k, .int .i64 s, .int .i64 r] 48)) := (Below.refl _ _).alloc (Nat.le_refl _) _
  go_enter Try.func10, Try.ntmps10
  go_wp2_with fail
  refine (there_nil ⟨k, s, r⟩ _).mono ?_
  rintro x w1 ⟨rfl, b1⟩
  have B1 := Lib.hid (b0.trans (b1.mono b0.size))
  clear b0 b1
  go_wp2_with fail
  refine (full_nil w1).mono ?_
  rintro x w2 ⟨rfl, b2⟩
  have B2 := Lib.hid (B1.out.trans (b2.mono B1.out.size))
  clear b2
  go_wp2
  go_ret
  exact ⟨rfl, B2.out⟩
set_option maxHeartbeats 2000000 in
theorem set_any (base g B : Nat) (L : List Mk) (limit : Int) (m : Mk) (w : World) (h : TableAt w base g B L limit) (hm : Ok m) (hbs : base ≤ w.heap.size) :
    Calls Try.prog 10 #[.pointer (some ⟨g, 0, none⟩), .string m.k, .int .i64 m.s, .int .i64 m.r] w (SetPost w base g B (setL L m limit) limit (.int .i64 (setE L m limit))) := by
  obtain ⟨W, hW⟩ : ∃ W, w.alloc (.cells #[.string m.k, .int .i64 m.s, .int .i64 m.r] 48) = W := ⟨_, rfl⟩
  obtain ⟨q, hq⟩ : ∃ q, q = w.heap.size := ⟨_, rfl⟩
  have b0 : Below w.heap.size w W := hW ▸ (Below.refl _ _).alloc (Nat.le_refl _) _
  have x0 : W.heap[q]? = some (.cells #[.string m.k, .int .i64 m.s, .int .i64 m.r] 48 (0, 0)) := by rw [← hW, hq]; exact heap_new _ _
  have H := Lib.hid h
  have HM := Lib.hid hm
  have HS := Lib.hid hbs
  have B0 := Lib.hid b0
  have X0 := Lib.hid x0
  have HW := Lib.hid hW
  have HQ := Lib.hid hq
  clear h hm hbs b0 x0 hW hq
  go_enter Try.func10, Try.ntmps10
  go_wp2_with fail
  rw [← HQ.out, HW.out]
  refine (there_any base g B L limit m W (H.out.below B0.out) HM.out).mono ?_
  rintro x w1 ⟨rfl, b1⟩
  have B1 := Lib.hid (B0.out.trans (b1.mono B0.out.size))
  have X1 : Hid (w1.heap[q]? = some (.cells #[.string m.k, .int .i64 m.s, .int .i64 m.r] 48 (0, 0))) := (b1.block q (lt_of_heap X0.out)).trans X0.out
  clear b1 X0 B0 HW HQ
  by_cases hin : m ∈ L
  · have HE : Hid (SetPost w base g B (setL L m limit) limit (.int .i64 (setE L m limit)) (.returned (.int .i64 0)) w1) := by
      simp only [setL, setE, hin, if_true]
      exact ⟨rfl, H.out.below B1.out, Fr.of_below B1.out HS.out⟩
    simp only [hin, decide_true]
    clear hin
    go_wp2
    go_ret
    exact HE.out
  · simp only [hin, decide_false]
    go_wp2_with fail
    refine (full_any base g B L limit w1 (H.out.below B1.out)).mono ?_
    rintro x w2 ⟨rfl, b2⟩
    have B2 := Lib.hid (B1.out.trans (b2.mono B1.out.size))
    have X2 : Hid (w2.heap[q]? = some (.cells #[.string m.k, .int .i64 m.s, .int .i64 m.r] 48 (0, 0))) := (b2.block q (lt_of_heap X1.out)).trans X1.out
    clear b2 X1 B1
    by_cases hfull : (L.length : Int) ≥ limit
    · have HE : Hid (SetPost w base g B (setL L m limit) limit (.int .i64 (setE L m limit)) (.returned (.int .i64 4)) w2) := by
        simp only [setL, setE, hin, hfull, if_true, if_false]
        exact ⟨rfl, H.out.below B2.out, Fr.of_below B2.out HS.out⟩
      simp only [hfull, decide_true]
      clear hin hfull
      go_wp2
      go_ret
      exact HE.out
    · have T2 := H.out.below B2.out.drew
      obtain ⟨w3, hr, hm3, hg3⟩ := T2.mp.put HM.out hin (T2.len_lt (by omega))
      have hgs : Good (ins L m) limit := by
        have := T2.good.set m
        simp only [setL, hin, hfull, if_false] at this
        exact this
      obtain ⟨t3, f3⟩ := T2.turn hg3 hm3 (fun x hx => by rcases mem_ins.mp hx with rfl | hx; exact HM.out; exact T2.ok x hx) hgs
      have HE : Hid (SetPost w base g B (setL L m limit) limit (.int .i64 (setE L m limit)) (.returned (.int .i64 0)) w3) := by
        simp only [setL, setE, hin, hfull, if_false]
        exact ⟨rfl, t3, (Fr.of_below B2.out.drew HS.out).trans f3⟩
      have c1 := (H.out.below B2.out).box.c1
      obtain ⟨d0, d1, d2⟩ := mk_cells X2.out
      simp only [hfull, decide_false]
      simp only [mv] at hr
      clear hin hfull T2 hm3 hg3 hgs t3 f3
      go_wp2_with fail
      go_region
      all_goals
        go_wp2
        go_ret
        exact HE.out
theorem clear_nil (k : ByteArray) (s r : Int) (w : World) : Calls Try.prog 12 #[.pointer none, .string k, .int .i64 s, .int .i64 r] w fun x w' => x = .returned (.bool false) ∧ Below w.heap.size w w' := by
  have b0 : Below w.heap.size w (w.alloc (.cells #[.string k, .int .i64 s, .int .i64 r] 48)) := (Below.refl _ _).alloc (Nat.le_refl _) _
  go_enter Try.func12, Try.ntmps12
  go_wp2_with fail
  refine (there_nil ⟨k, s, r⟩ _).mono ?_
  rintro x w1 ⟨rfl, b1⟩
  have B1 := Lib.hid (b0.trans (b1.mono b0.size))
  clear b0 b1
  go_wp2
  go_ret
  exact ⟨rfl, B1.out⟩
set_option maxHeartbeats 2000000 in
theorem clear_any (base g B : Nat) (L : List Mk) (limit : Int) (m : Mk) (w : World) (h : TableAt w base g B L limit) (hm : Ok m) (hbs : base ≤ w.heap.size) :
    Calls Try.prog 12 #[.pointer (some ⟨g, 0, none⟩), .string m.k, .int .i64 m.s, .int .i64 m.r] w (SetPost w base g B (out L (isG m)) limit (.bool (decide (m ∈ L)))) := by
  obtain ⟨W, hW⟩ : ∃ W, w.alloc (.cells #[.string m.k, .int .i64 m.s, .int .i64 m.r] 48) = W := ⟨_, rfl⟩
  obtain ⟨q, hq⟩ : ∃ q, q = w.heap.size := ⟨_, rfl⟩
  have b0 : Below w.heap.size w W := hW ▸ (Below.refl _ _).alloc (Nat.le_refl _) _
  have x0 : W.heap[q]? = some (.cells #[.string m.k, .int .i64 m.s, .int .i64 m.r] 48 (0, 0)) := by rw [← hW, hq]; exact heap_new _ _
  have H := Lib.hid h
  have HM := Lib.hid hm
  have HS := Lib.hid hbs
  have B0 := Lib.hid b0
  have X0 := Lib.hid x0
  have HW := Lib.hid hW
  have HQ := Lib.hid hq
  clear h hm hbs b0 x0 hW hq
  go_enter Try.func12, Try.ntmps12
  go_wp2_with fail
  rw [← HQ.out, HW.out]
  refine (there_any base g B L limit m W (H.out.below B0.out) HM.out).mono ?_
  rintro x w1 ⟨rfl, b1⟩
  have B1 := Lib.hid (B0.out.trans (b1.mono B0.out.size))
  have X1 : Hid (w1.heap[q]? = some (.cells #[.string m.k, .int .i64 m.s, .int .i64 m.r] 48 (0, 0))) := (b1.block q (lt_of_heap X0.out)).trans X0.out
  clear b1 X0 B0 HW HQ
  by_cases hin : m ∈ L
  · have T2 := H.out.below B1.out.drew
    obtain ⟨w3, hr, hm3, hg3⟩ := T2.mp.del HM.out T2.good.rs.nodup 0
    obtain ⟨t3, f3⟩ := T2.turn hg3 hm3 (fun x hx => T2.ok x (mem_out.mp hx).1) (T2.good.out _)
    have HE : Hid (SetPost w base g B (out L (isG m)) limit (.bool (decide (m ∈ L))) (.returned (.bool true)) w3) := by
      rw [decide_eq_true hin]
      exact ⟨rfl, t3, (Fr.of_below B1.out.drew HS.out).trans f3⟩
    have c1 := (H.out.below B1.out).box.c1
    obtain ⟨d0, d1, d2⟩ := mk_cells X1.out
    simp only [hin, decide_true]
    simp only [mv] at hr
    clear hin T2 hm3 hg3 t3 f3
    go_wp2_with fail
    go_region
    all_goals
      go_wp2
      go_ret
      exact HE.out
  · have HE : Hid (SetPost w base g B (out L (isG m)) limit (.bool (decide (m ∈ L))) (.returned (.bool false)) w1) := by
      rw [decide_eq_false hin, out_is_none hin]
      exact ⟨rfl, H.out.below B1.out, Fr.of_below B1.out HS.out⟩
    simp only [hin, decide_false]
    clear hin
    go_wp2
    go_ret
    exact HE.out
end Go.Proofs.Ytkonkldcallimaa

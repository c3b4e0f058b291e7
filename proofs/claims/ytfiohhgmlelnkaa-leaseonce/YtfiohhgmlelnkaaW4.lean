/-
  The contract of Grant. Its conditions: the table lies in memory; the next token is a number.
-/
import Derived.Test.YtfiohhgmlelnkaaW3
namespace Go.Proofs.Ytfiohhgmlelnkaa
open Go.RowKit Go.Maps Go.ChangeMaps

def GrantPost (w : World) (base g B : Nat) (L : List Ls) (limit ticks last : Int) (k : ByteArray) (r : Ending) (w' : World) : Prop :=
  r = .returned (.tuple #[.int .i64 (grV L k limit last), .bool (grB L k limit)]) ∧ TableAt w' base g B (grL L k limit ticks last) limit ticks (grT L k limit last) ∧ Fr [] [g, B] base w w'
theorem grant_nil (k : ByteArray) (w : World) : Calls Try.prog 11 #[.pointer none, .string k] w fun x w' => x = .returned (.tuple #[.int .i64 0, .bool false]) ∧ Below w.heap.size w w' := by
  go_enter Try.func11, Try.ntmps11
  go_wp2_with fail
  go_quiet (fail)
  go_wp2
  go_ret2
  exact ⟨rfl, below_drewN _ _⟩
theorem add_one {x : Int} (h1 : -9223372036854775808 ≤ x) (h2 : x < 9223372036854775807) (w : World) : (Op.intArith .add .i64 x 1).run Try.prog w = .ok (.int .i64 (x + 1)) w := by
  have : IntKind.i64.wrap (x + 1) = x + 1 := IntWalk.i64_in _ (by omega)
  simp [go_sem, this]
theorem add_any {g : Nat} {last : Int} {w : World} (c3 : w.cell? ⟨g, 3, none⟩ = some (.int .i64 last)) (fz : w.frozen? ⟨g, 3, none⟩ = false) (hs : (Op.intArith .add .i64 last 1).run Try.prog w = .ok (.int .i64 (last + 1)) w) :
    Calls Try.prog 24 #[.pointer (some ⟨g, 3, none⟩), .int .i64 1] w fun r w' => r = .returned (.int .i64 (last + 1)) ∧ w' = w.setCell ⟨g, 3, none⟩ (.int .i64 (last + 1)) := by
  have had := run_call_add (P := Try.prog) Try.func29 (by kernel_rfl) (by kernel_rfl) (by kernel_rfl) .i64 (by kernel_rfl) c3 fz hs
  go_enter Try.func24, Try.ntmps24
  go_wp2
  go_ret
  exact ⟨rfl, rfl⟩
/-- What Grant lays. -/
theorem grant_lay {X : World} {base g B : Nat} {N : List Nd} {limit ticks last : Int} {k : ByteArray} (h : TableAt X base g B (N.map (·.2)) limit ticks last) (hk : k.size ≤ maxLen) (hn : k ∉ keys (N.map (·.2))) (hl : N.length < maxLen) (hbs : base ≤ X.heap.size) (t : Int) :
    ∃ w2, (Instr.mapUpdate 51 (.map (some B)) (.string k) (.pointer (some ⟨X.heap.size, 0, none⟩))).run Try.prog (X.alloc (.cells #[.int .i64 t, .int .i64 ticks] 63)).drew = .ok () w2 ∧
      TableAt w2 base g B (N.map (·.2) ++ [⟨k, t, ticks⟩]) limit ticks last ∧ Fr [] [B] base X w2 := by
  obtain ⟨N', hc, e, hgd⟩ := h
  rw [← e] at hn hgd ⊢
  have hl' : N'.length < maxLen := by have := congrArg List.length e; simp at this; omega
  have F0 : Fr [] [B] base X (X.alloc (.cells #[.int .i64 t, .int .i64 ticks] 63)).drew := ((Fr.refl _ _ _ _).alloc hbs _).drew
  have b0 : Below X.heap.size X (X.alloc (.cells #[.int .i64 t, .int .i64 ticks] 63)).drew := ((Below.refl _ _).alloc (Nat.le_refl _) _).drew
  have hc0 : Core (X.alloc (.cells #[.int .i64 t, .int .i64 ticks] 63)).drew base g B N' limit ticks last := hc.keep (Fr.of_below (l := []) (ms := []) (base := X.heap.size) b0 (Nat.le_refl _)) (by simp) (by simp) (by simp) (by simp) (by simp) (by simp)
  have hnew : LsAt (X.alloc (.cells #[.int .i64 t, .int .i64 ticks] 63)).drew X.heap.size ⟨k, t, ticks⟩ := heap_new X _
  obtain ⟨w2, hr, hm, hg⟩ := hc0.mp.put (l := ⟨k, t, ticks⟩) X.heap.size hk hn hl'
  obtain ⟨es, c, hb⟩ := hc0.mp.isMap
  have F1 : Fr [] [B] base (X.alloc (.cells #[.int .i64 t, .int .i64 ticks] 63)).drew w2 := (Fr.refl _ _ _ _).grown hg hb (.inr (by simp)) hc.bB
  have hBn : X.heap.size ≠ B := by
    have := lt_of_heap hc.mp.isMap.choose_spec.choose_spec
    omega
  refine ⟨w2, hr, ⟨N' ++ [(X.heap.size, ⟨k, t, ticks⟩)], ⟨hc0.box.fr F1 (by simp) (by simpa using hc.gB), ?_, ?_, ?_, hm, hc.bg, hc.bB, ?_⟩, by simp, hgd.put hn t⟩, F0.trans F1⟩
  · intro x hx
    rcases List.mem_append.mp hx with hx | hx
    · exact (hc0.ls x hx).fr F1 (by simp) (by simpa using hc.not_map hx)
    · simp at hx
      subst hx
      exact hnew.fr F1 (by simp) (by simpa using hBn)
  · intro x hx
    rcases List.mem_append.mp hx with hx | hx
    · exact hc.fr x hx
    · simp at hx
      subst hx
      exact hbs
  · rw [List.map_append]
    refine List.nodup_append.mpr ⟨hc.nd, by simp, ?_⟩
    intro a ha b hb e
    simp at hb
    obtain ⟨x, hx, rfl⟩ := List.mem_map.mp ha
    have := (hc.ls x hx).lt
    omega
  · intro x hx
    rcases List.mem_append.mp hx with hx | hx
    · exact hc.ks x hx
    · simp at hx
      subst hx
      exact hk
set_option maxHeartbeats 4000000 in
theorem grant_any (base g B : Nat) (L : List Ls) (limit ticks last : Int) (k : ByteArray) (w : World) (h : TableAt w base g B L limit ticks last) (hk : k.size ≤ maxLen) (hbs : base ≤ w.heap.size) (h1 : -9223372036854775808 ≤ last) (h2 : last < 9223372036854775807) :
    Calls Try.prog 11 #[.pointer (some ⟨g, 0, none⟩), .string k] w (GrantPost w base g B L limit ticks last k) := by
  have HT := Lib.hid h
  obtain ⟨N, hc, rfl, hgd⟩ := h
  have c0 := hc.box.c0
  have c2 := hc.box.c2
  have hlen : ∀ m, (Builtin.len_ #[51] 3 #[.map (some B)]).run Try.prog (w.drewN m) = .ok (.int .i64 (N.length : Int)) (w.drewN m) := fun m => (hc.mp.keep (w' := w.drewN m) (by rw [(below_drewN w m).block B (lt_of_heap hc.mp.isMap.choose_spec.choose_spec)])).len 3
  obtain ⟨n, hn⟩ : ∃ n, n = N.length := ⟨_, rfl⟩
  rw [← hn] at hlen
  have HS := Lib.hid hbs
  have HN : Hid ((N.map (·.2)).length = n) := by show _ = _; rw [List.length_map, hn]
  by_cases hl : (n : Int) ≥ limit
  · have HE : Hid (∀ w', Below w.heap.size w w' → GrantPost w base g B (N.map (·.2)) limit ticks last k (.returned (.tuple #[.int .i64 0, .bool false])) w') := fun w' hb' => by
      have e : grB (N.map (·.2)) k limit = false := by unfold grB; rw [HN.out]; simp; omega
      simp only [GrantPost, grL, grT, grV, e, Bool.false_eq_true, if_false]
      exact ⟨trivial, HT.out.below hb', Fr.of_below hb' HS.out⟩
    clear hc hgd hn hk hbs h1 h2
    go_enter Try.func11, Try.ntmps11
    go_wp2_with fail
    go_quiet (fail)
    go_wp2
    go_ret2
    exact HE.out _ (below_drewN _ _)
  · have CU : Hid (∀ m, Calls Try.prog 23 #[.pointer (some ⟨g, 0, none⟩), .string k] (w.drewN m) fun r w' => r = .returned (.pointer (ptrOf N k)) ∧ w' = w.drewN m) := fun m =>
      (find_any g B N limit ticks last k (w.drewN m) ((below_drewN w m).block g hc.box.lt |>.trans hc.box) (hc.mp.keep (by rw [(below_drewN w m).block B (lt_of_heap hc.mp.isMap.choose_spec.choose_spec)])) hk).mono fun r w' hh => ⟨hh.1, hh.2.symm⟩
    cases hf : fnd (N.map (·.2)) k with
    | some l =>
      obtain ⟨b, hb, _⟩ := ptr_some hf
      rw [hb] at CU
      have HE : Hid (∀ w', Below w.heap.size w w' → GrantPost w base g B (N.map (·.2)) limit ticks last k (.returned (.tuple #[.int .i64 0, .bool false])) w') := fun w' hb' => by
        have e : grB (N.map (·.2)) k limit = false := by simp [grB, has, hf]
        simp only [GrantPost, grL, grT, grV, e, Bool.false_eq_true, if_false]
        exact ⟨trivial, HT.out.below hb', Fr.of_below hb' HS.out⟩
      clear hc hgd hn hk hbs h1 h2 hf hb
      go_enter Try.func11, Try.ntmps11
      go_wp2_with fail
      go_quiet (first | (go_at_call 23; exact Calls.quiet_of_same (CU.out _)))
      go_wp2
      go_ret2
      exact HE.out _ (below_drewN _ _)
    | none =>
      have hbn := (ptr_none hf).1
      rw [hbn] at CU
      have e : grB (N.map (·.2)) k limit = true := by unfold grB; rw [HN.out]; simp [has, hf]; omega
      have HEQ : Hid (grV (N.map (·.2)) k limit last = last + 1 ∧ grT (N.map (·.2)) k limit last = last + 1 ∧ grL (N.map (·.2)) k limit ticks last = N.map (·.2) ++ [⟨k, last + 1, ticks⟩]) := by
        show _ ∧ _
        simp [grV, grT, grL, e]
      unfold GrantPost
      rw [HEQ.out.1, HEQ.out.2.1, HEQ.out.2.2, e]
      have HC := Lib.hid hc
      have HG := Lib.hid hgd
      have HK := Lib.hid hk
      have HF := Lib.hid (fnd_none.mp hf)
      have HA : Hid (∀ w, (Op.intArith .add .i64 last 1).run Try.prog w = .ok (.int .i64 (last + 1)) w) := fun w => add_one h1 h2 w
      have HL : Hid (N.length < maxLen) := by show _ < _; have := hgd.l2; unfold maxLen; omega
      clear hc hgd hn hk hbs h1 h2 hf hbn e HEQ
      go_enter Try.func11, Try.ntmps11
      go_wp2_with fail
      go_quiet (first | (go_at_call 23; exact Calls.quiet_of_same (CU.out _)))
      obtain ⟨W, hW⟩ : ∃ W, W = w.drewN nq := ⟨_, rfl⟩
      have BW : Hid (Below w.heap.size w W) := by show Below _ _ _; rw [hW]; exact below_drewN _ _
      rw [← hW]
      clear hW CU hlen c0 c2
      have hc : Core W base g B N limit ticks last := HC.out.keep (Fr.of_below (l := []) (ms := []) (base := w.heap.size) BW.out (Nat.le_refl _)) (by simp) (by simp) (by simp) (by simp) (by simp) (by simp)
      have CA := Lib.hid (add_any hc.box.c3 (hc.box.frozen 3) (HA.out W))
      obtain ⟨t1, f1⟩ := TableAt.set3 ⟨N, hc, rfl, HG.out⟩ (last + 1)
      obtain ⟨X, hX⟩ : ∃ X, X = W.setCell ⟨g, 3, none⟩ (.int .i64 (last + 1)) := ⟨_, rfl⟩
      rw [← hX] at t1 f1 CA
      clear hX
      obtain ⟨w2, hr2, t2, f2⟩ := grant_lay t1 HK.out HF.out HL.out (Nat.le_trans HS.out (Nat.le_trans BW.out.size f1.size)) (last + 1)
      have T2 := Lib.hid t2
      have F2 : Hid (Fr [] [g, B] base w w2) := (Fr.of_below BW.out HS.out).trans ((f1.mono (by simp) (by simp)).trans (f2.mono (by simp) (by simp)))
      have d1 := t1.box.c1
      have d2 := t1.box.c2
      have t0 := (t1.below ((Below.refl _ _).alloc (Nat.le_refl _) (.cells #[.int .i64 (last + 1), .int .i64 ticks] 63))).box
      have e1 := t0.c1
      have e2 := t0.c2
      clear hc t1 f1 t2 f2 t0
      go_wp2_with fail
      refine CA.out.mono ?_
      rintro r w1 ⟨rfl, rfl⟩
      clear CA
      go_wp2_with fail
      go_region
      go_wp2
      go_ret2
      exact ⟨rfl, T2.out, F2.out⟩
end Go.Proofs.Ytfiohhgmlelnkaa

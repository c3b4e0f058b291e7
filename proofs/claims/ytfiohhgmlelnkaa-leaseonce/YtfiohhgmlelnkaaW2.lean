/-
  A table of leases in memory. The contracts of find, Len, Granted, Kill, Use, Clear, New, Again. Their conditions: the table lies in memory.
-/
import Derived.Test.YtfiohhgmlelnkaaW1
namespace Go.Proofs.Ytfiohhgmlelnkaa
open Go.RowKit Go.Maps

/-- A table's own block. -/
def Box (w : World) (g B : Nat) (limit ticks last : Int) : Prop := w.heap[g]? = some (.cells #[.int .i64 limit, .int .i64 ticks, .map (some B), .int .i64 last] 58 (0, 0))
section
variable {w : World} {g B : Nat} {limit ticks last : Int}
theorem Box.lt (h : Box w g B limit ticks last) : g < w.heap.size := lt_of_heap h
theorem Box.c0 (h : Box w g B limit ticks last) : w.cell? ⟨g, 0, none⟩ = some (.int .i64 limit) := by simp [World.cell?, show w.heap[g]? = _ from h]
theorem Box.c1 (h : Box w g B limit ticks last) : w.cell? ⟨g, 1, none⟩ = some (.int .i64 ticks) := by simp [World.cell?, show w.heap[g]? = _ from h]
theorem Box.c2 (h : Box w g B limit ticks last) : w.cell? ⟨g, 2, none⟩ = some (.map (some B)) := by simp [World.cell?, show w.heap[g]? = _ from h]
theorem Box.c3 (h : Box w g B limit ticks last) : w.cell? ⟨g, 3, none⟩ = some (.int .i64 last) := by simp [World.cell?, show w.heap[g]? = _ from h]
theorem Box.frozen (h : Box w g B limit ticks last) (o : Nat) : w.frozen? ⟨g, o, none⟩ = false := by simp [World.frozen?, show w.heap[g]? = _ from h]
theorem Box.set3 (h : Box w g B limit ticks last) (x : Int) : Box (w.setCell ⟨g, 3, none⟩ (.int .i64 x)) g B limit ticks x := by
  unfold Box at h ⊢
  simp [World.setCell, Array.getElem?_modify, h]
theorem Box.fr {l ms : List Nat} {base : Nat} {w' : World} (h : Box w g B limit ticks last) (hf : Fr l ms base w w') (hl : 58 ∉ l) (hm : g ∉ ms) : Box w' g B limit ticks last := hf.keep g _ h hl hm
end

/-- A table's parts: its box, its leases, its map. -/
structure Core (w : World) (base g B : Nat) (N : List Nd) (limit ticks last : Int) : Prop where
  box : Box w g B limit ticks last
  ls : ∀ x ∈ N, LsAt w x.1 x.2
  fr : ∀ x ∈ N, base ≤ x.1
  nd : (N.map (·.1)).Nodup
  mp : MapAt w B N
  bg : base ≤ g
  bB : base ≤ B
  ks : ∀ x ∈ N, x.2.k.size ≤ maxLen
/-- A table that lies in block g, its map in block B. -/
def TableAt (w : World) (base g B : Nat) (L : List Ls) (limit ticks last : Int) : Prop := ∃ N, Core w base g B N limit ticks last ∧ N.map (·.2) = L ∧ Good L limit ticks
section
variable {w w' : World} {base base' g B : Nat} {N : List Nd} {L : List Ls} {limit ticks last : Int} {l ms : List Nat}
theorem Core.gB (h : Core w base g B N limit ticks last) : g ≠ B := by
  rintro rfl
  obtain ⟨es, c, hb⟩ := h.mp.isMap
  have := h.box
  unfold Box at this
  rw [hb] at this
  cases this
theorem Core.not_map {x : Nd} (h : Core w base g B N limit ticks last) (hx : x ∈ N) : x.1 ≠ B := by
  intro e
  obtain ⟨es, c, hb⟩ := h.mp.isMap
  have := h.ls x hx
  unfold LsAt at this
  rw [e, hb] at this
  cases this
theorem Core.not_box {x : Nd} (h : Core w base g B N limit ticks last) (hx : x ∈ N) : x.1 ≠ g := by
  intro e
  have h1 := h.box
  have := h.ls x hx
  unfold LsAt at this
  unfold Box at h1
  rw [e, h1] at this
  cases this
/-- What leaves a table as it was. -/
theorem Core.keep (h : Core w base g B N limit ticks last) (hf : Fr l ms base' w w') (h1 : 58 ∉ l) (h2 : 63 ∉ l) (h3 : 1000 ∉ l) (hg : g ∉ ms) (hB : B ∉ ms) (hn : ∀ x ∈ N, x.1 ∉ ms) : Core w' base g B N limit ticks last :=
  ⟨h.box.fr hf h1 hg, fun x hx => (h.ls x hx).fr hf h2 (hn x hx), h.fr, h.nd, h.mp.fr hf h3 hB, h.bg, h.bB, h.ks⟩
theorem TableAt.good (h : TableAt w base g B L limit ticks last) : Good L limit ticks := by obtain ⟨_, _, _, h⟩ := h; exact h
theorem TableAt.box (h : TableAt w base g B L limit ticks last) : Box w g B limit ticks last := by obtain ⟨_, h, _⟩ := h; exact h.box
theorem TableAt.bg (h : TableAt w base g B L limit ticks last) : base ≤ g := by obtain ⟨_, h, _⟩ := h; exact h.bg
theorem TableAt.bB (h : TableAt w base g B L limit ticks last) : base ≤ B := by obtain ⟨_, h, _⟩ := h; exact h.bB
theorem TableAt.isMap (h : TableAt w base g B L limit ticks last) : ∃ es c, w.heap[B]? = some (.map es c) := by obtain ⟨_, h, _⟩ := h; exact h.mp.isMap
theorem TableAt.below (h : TableAt w base g B L limit ticks last) (hf : Below w.heap.size w w') : TableAt w' base g B L limit ticks last := by
  obtain ⟨N, h1, h2⟩ := h
  exact ⟨N, h1.keep (Fr.of_below (l := []) (ms := []) (base := w.heap.size) hf (Nat.le_refl _)) (by simp) (by simp) (by simp) (by simp) (by simp) (by simp), h2⟩
theorem TableAt.drew (h : TableAt w base g B L limit ticks last) : TableAt w.drew base g B L limit ticks last := h.below (Below.refl _ _).drew
/-- What writes other blocks than a table's kinds leaves it as it was. -/
theorem TableAt.keep (h : TableAt w base g B L limit ticks last) (hf : Fr l ms base' w w') (h1 : 58 ∉ l) (h2 : 63 ∉ l) (h3 : 1000 ∉ l) (hm : ∀ i ∈ ms, i ≠ g ∧ i ≠ B ∧ ∃ o, w.heap[i]? = some o ∧ kd o ≠ 63) : TableAt w' base g B L limit ticks last := by
  obtain ⟨N, hc, h4⟩ := h
  refine ⟨N, hc.keep hf h1 h2 h3 (fun h => (hm _ h).1 rfl) (fun h => (hm _ h).2.1 rfl) (fun x hx hi => ?_), h4⟩
  obtain ⟨_, _, o, ho, hk⟩ := hm _ hi
  have := hc.ls x hx
  unfold LsAt at this
  rw [ho] at this
  cases this
  exact hk rfl
end

theorem fnd_map (N : List Nd) (k : ByteArray) : fnd (N.map (·.2)) k = (N.find? fun x => decide (x.2.k = k)).map (·.2) := by
  unfold fnd
  rw [List.find?_map]
  rfl
theorem ptr_none {N : List Nd} {k : ByteArray} (h : fnd (N.map (·.2)) k = none) : ptrOf N k = none ∧ (N.find? fun x => decide (x.2.k = k)) = none := by
  rw [fnd_map] at h
  cases hf : N.find? fun x => decide (x.2.k = k) with
  | none => simp [ptrOf, hf]
  | some x => rw [hf] at h; cases h
theorem ptr_some {N : List Nd} {k : ByteArray} {l : Ls} (h : fnd (N.map (·.2)) k = some l) : ∃ b, ptrOf N k = some ⟨b, 0, none⟩ ∧ (b, l) ∈ N := by
  rw [fnd_map] at h
  cases hf : N.find? fun x => decide (x.2.k = k) with
  | none => rw [hf] at h; cases h
  | some x =>
    rw [hf] at h
    simp at h
    subst h
    exact ⟨x.1, by simp [ptrOf, hf], List.mem_of_find?_eq_some hf⟩

set_option maxHeartbeats 1000000 in
theorem find_any (g B : Nat) (N : List Nd) (limit ticks last : Int) (k : ByteArray) (w : World) (hb : Box w g B limit ticks last) (hm : MapAt w B N) (hk : k.size ≤ maxLen) :
    Calls Try.prog 23 #[.pointer (some ⟨g, 0, none⟩), .string k] w fun x w' => x = .returned (.pointer (ptrOf N k)) ∧ w = w' := by
  have c2 := hb.c2
  have hr := hm.find hk
  clear hb hm hk
  go_enter Try.func23, Try.ntmps23
  go_wp2
  go_ret
  exact ⟨rfl, rfl⟩
theorem find_nil (k : ByteArray) (w : World) : Calls Try.prog 23 #[.pointer none, .string k] w fun x w' => x = .returned (.pointer none) ∧ w = w' := by
  go_enter Try.func23, Try.ntmps23
  go_wp2
  go_ret
  exact ⟨rfl, rfl⟩
theorem len_any (base g B : Nat) (L : List Ls) (limit ticks last : Int) (w : World) (h : TableAt w base g B L limit ticks last) :
    Calls Try.prog 20 #[.pointer (some ⟨g, 0, none⟩)] w fun x w' => x = .returned (.int .i64 (L.length : Int)) ∧ w = w' := by
  obtain ⟨N, hc, rfl, _⟩ := h
  have c2 := hc.box.c2
  have hl := hc.mp.len 3
  rw [List.length_map]
  clear hc
  go_enter Try.func20, Try.ntmps20
  go_wp2
  go_ret
  exact ⟨rfl, rfl⟩
theorem len_nil (w : World) : Calls Try.prog 20 #[.pointer none] w fun x w' => x = .returned (.int .i64 0) ∧ w = w' := by
  go_enter Try.func20, Try.ntmps20
  go_wp2
  go_ret
  exact ⟨rfl, rfl⟩
theorem granted_any (base g B : Nat) (L : List Ls) (limit ticks last : Int) (w : World) (h : TableAt w base g B L limit ticks last) :
    Calls Try.prog 21 #[.pointer (some ⟨g, 0, none⟩)] w fun x w' => x = .returned (.int .i64 last) ∧ w = w' := by
  have c3 := h.box.c3
  have hld := run_call_load (P := Try.prog) Try.func30 (by kernel_rfl) (by kernel_rfl) (by kernel_rfl) .i64 (by kernel_rfl) c3
  clear h
  go_enter Try.func21, Try.ntmps21
  go_wp2
  go_ret
  exact ⟨rfl, rfl⟩
theorem granted_nil (w : World) : Calls Try.prog 21 #[.pointer none] w fun x w' => x = .returned (.int .i64 0) ∧ w = w' := by
  go_enter Try.func21, Try.ntmps21
  go_wp2
  go_ret
  exact ⟨rfl, rfl⟩

/-- A key's lease goes. -/
theorem Core.del {w w' : World} {base g B : Nat} {N : List Nd} {limit ticks last : Int} {k : ByteArray} (h : Core w base g B N limit ticks last) (hm : MapAt w' B (ndrp N k)) (hg : w.grownBy w' (some B)) :
    Core w' base g B (ndrp N k) limit ticks last ∧ Fr [] [B] base w w' := by
  obtain ⟨es, c, hb⟩ := h.mp.isMap
  have hF : Fr [] [B] base w w' := (Fr.refl _ _ _ _).grown hg hb (.inr (by simp)) h.bB
  have hs := ndrp_sub N k
  refine ⟨⟨h.box.fr hF (by simp) (by simpa using h.gB), fun x hx => ?_, fun x hx => h.fr x (hs.subset hx), (hs.map _).nodup h.nd, hm, h.bg, h.bB, fun x hx => h.ks x (hs.subset hx)⟩, hF⟩
  exact (h.ls x (hs.subset hx)).fr hF (by simp) (by simpa using h.not_map (hs.subset hx))
def KillPost (w : World) (base g B : Nat) (L : List Ls) (limit ticks last : Int) (b : Bool) (r : Ending) (w' : World) : Prop :=
  r = .returned (.bool b) ∧ TableAt w' base g B L limit ticks last ∧ Fr [] [B] base w w'
set_option maxHeartbeats 1000000 in
theorem kill_any (base g B : Nat) (L : List Ls) (limit ticks last : Int) (k : ByteArray) (w : World) (h : TableAt w base g B L limit ticks last) (hk : k.size ≤ maxLen) :
    Calls Try.prog 15 #[.pointer (some ⟨g, 0, none⟩), .string k] w (KillPost w base g B (drp L k) limit ticks last (has L k)) := by
  obtain ⟨N, hc, rfl, hgd⟩ := h
  have c2 := hc.box.c2
  have C1 := Lib.hid (find_any g B N limit ticks last k w hc.box hc.mp hk)
  unfold has
  cases hf : fnd (N.map (·.2)) k with
  | none =>
    have HE : Hid (KillPost w base g B (drp (N.map (·.2)) k) limit ticks last false (.returned (.bool false)) w) := by
      rw [drp_none (fnd_none.mp hf)]
      exact ⟨rfl, ⟨N, hc, rfl, hgd⟩, Fr.refl _ _ _ _⟩
    rw [(ptr_none hf).1] at C1
    simp only [Option.isSome_none]
    clear hc hgd hf hk
    go_enter Try.func15, Try.ntmps15
    go_wp2_with fail
    refine C1.out.mono ?_
    rintro r w1 ⟨rfl, rfl⟩
    go_wp2
    go_ret
    exact HE.out
  | some l =>
    obtain ⟨b, hb, hx⟩ := ptr_some hf
    rw [hb] at C1
    obtain ⟨w2, hr, hm2, hg2⟩ := hc.mp.del hk hgd.nd 0
    obtain ⟨c2', f2⟩ := hc.del hm2 hg2
    have HE : Hid (KillPost w base g B (drp (N.map (·.2)) k) limit ticks last true (.returned (.bool true)) w2) := ⟨rfl, ⟨_, c2', ndrp_map N k, hgd.drp k⟩, f2⟩
    simp only [Option.isSome_some]
    clear hc hgd hf hk hb hx hm2 hg2 c2' f2
    go_enter Try.func15, Try.ntmps15
    go_wp2_with fail
    refine C1.out.mono ?_
    rintro r w1 ⟨rfl, rfl⟩
    go_wp2
    go_ret
    exact HE.out
theorem kill_nil (k : ByteArray) (w : World) : Calls Try.prog 15 #[.pointer none, .string k] w fun x w' => x = .returned (.bool false) ∧ w = w' := by
  go_enter Try.func15, Try.ntmps15
  go_wp2_with fail
  refine (find_nil k w).mono ?_
  rintro r w1 ⟨rfl, rfl⟩
  go_wp2
  go_ret
  exact ⟨rfl, rfl⟩
set_option maxHeartbeats 1000000 in
theorem use_any (base g B : Nat) (L : List Ls) (limit ticks last : Int) (k : ByteArray) (t : Int) (w : World) (h : TableAt w base g B L limit ticks last) (hk : k.size ≤ maxLen) :
    Calls Try.prog 13 #[.pointer (some ⟨g, 0, none⟩), .string k, .int .i64 t] w (KillPost w base g B (useL L k t) limit ticks last (useB L k t)) := by
  obtain ⟨N, hc, rfl, hgd⟩ := h
  have c2 := hc.box.c2
  have C1 := Lib.hid (find_any g B N limit ticks last k w hc.box hc.mp hk)
  unfold useL useB
  cases hf : fnd (N.map (·.2)) k with
  | none =>
    have HE : Hid (KillPost w base g B (N.map (·.2)) limit ticks last false (.returned (.bool false)) w) := ⟨rfl, ⟨N, hc, rfl, hgd⟩, Fr.refl _ _ _ _⟩
    rw [(ptr_none hf).1] at C1
    simp only [Bool.false_eq_true, if_false]
    clear hc hgd hf hk
    go_enter Try.func13, Try.ntmps13
    go_wp2_with fail
    refine C1.out.mono ?_
    rintro r w1 ⟨rfl, rfl⟩
    go_wp2
    go_ret
    exact HE.out
  | some l =>
    obtain ⟨b, hb, hx⟩ := ptr_some hf
    rw [hb] at C1
    have d0 := (hc.ls _ hx).c0
    simp only at d0
    by_cases ht : l.t = t
    · obtain ⟨w2, hr, hm2, hg2⟩ := hc.mp.del hk hgd.nd 0
      obtain ⟨c2', f2⟩ := hc.del hm2 hg2
      have HE : Hid (KillPost w base g B (drp (N.map (·.2)) k) limit ticks last true (.returned (.bool true)) w2) := ⟨rfl, ⟨_, c2', ndrp_map N k, hgd.drp k⟩, f2⟩
      subst ht
      simp only [decide_true, if_true]
      clear hc hgd hf hk hb hx hm2 hg2 c2' f2
      go_enter Try.func13, Try.ntmps13
      go_wp2_with fail
      refine C1.out.mono ?_
      rintro r w1 ⟨rfl, rfl⟩
      go_wp2
      go_ret
      exact HE.out
    · have HE : Hid (KillPost w base g B (N.map (·.2)) limit ticks last false (.returned (.bool false)) w) := ⟨rfl, ⟨N, hc, rfl, hgd⟩, Fr.refl _ _ _ _⟩
      simp only [ht, decide_false, Bool.false_eq_true, if_false]
      clear hc hgd hf hk hb hx
      go_enter Try.func13, Try.ntmps13
      go_wp2_with fail
      refine C1.out.mono ?_
      rintro r w1 ⟨rfl, rfl⟩
      go_wp2
      go_ret
      exact HE.out
theorem use_nil (k : ByteArray) (t : Int) (w : World) : Calls Try.prog 13 #[.pointer none, .string k, .int .i64 t] w fun x w' => x = .returned (.bool false) ∧ w = w' := by
  go_enter Try.func13, Try.ntmps13
  go_wp2_with fail
  refine (find_nil k w).mono ?_
  rintro r w1 ⟨rfl, rfl⟩
  go_wp2
  go_ret
  exact ⟨rfl, rfl⟩
end Go.Proofs.Ytfiohhgmlelnkaa

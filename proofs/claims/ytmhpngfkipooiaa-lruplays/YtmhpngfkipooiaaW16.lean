/-
  The contract of the document's Drop. Its conditions: the cache lies in memory, and has no more things than a bound.
-/
import Derived.Test.YtmhpngfkipooiaaW15
namespace Go.Proofs.Ytmhpngfkipooiaa
open Go.RowKit Go.Maps

/-- A key's place, if it has one. -/
structure Hit (L : List Th) (key : ByteArray) (k : Nat) (t : Th) : Prop where
  at_ : L[k]? = some t
  has : t.k = key
  ahead : key ∉ keys (L.take k)
theorem hit_of {L : List Th} {key : ByteArray} {t : Th} (h : fnd L key = some t) : ∃ k, Hit L key k t := by
  obtain ⟨h1, A, B, h2, h3⟩ := List.find?_eq_some_iff_append.mp h
  refine ⟨A.length, ⟨by rw [h2]; simp, by simpa using h1, ?_⟩⟩
  rw [h2]
  simp only [List.take_left]
  intro hx
  obtain ⟨t', ht', e⟩ := List.mem_map.mp hx
  have := h3 t' ht'
  simp [e] at this
theorem Hit.lt {L : List Th} {key : ByteArray} {k : Nat} {t : Th} (h : Hit L key k t) : k < L.length := (List.getElem?_eq_some_iff.mp h.at_).1
theorem Hit.one {L : List Th} {key : ByteArray} {k k' : Nat} {t t' : Th} (h : Hit L key k t) (h' : Hit L key k' t') : k = k' := by
  have hno : ∀ {a b : Nat} {s s' : Th}, Hit L key a s → Hit L key b s' → ¬ a < b := fun {a b s s'} x y hlt => by
    refine y.ahead ?_
    have hm : s ∈ L.take b := List.mem_of_getElem? (i := a) (by rw [List.getElem?_take, if_pos hlt]; exact x.at_)
    exact List.mem_map.mpr ⟨s, hm, x.has⟩
  have h1 := hno h h'
  have h2 := hno h' h
  omega
theorem Hit.drp {L : List Th} {key : ByteArray} {k : Nat} {t : Th} (h : Hit L key k t) (hn : (keys L).Nodup) : drp L key = L.take k ++ L.drop (k + 1) := by
  have hl := h.lt
  have ht : L[k] = t := by have := h.at_; rw [List.getElem?_eq_getElem hl] at this; injection this
  have e : L = L.take k ++ t :: L.drop (k + 1) := by rw [← ht, ← List.drop_eq_getElem_cons hl, List.take_append_drop]
  have e2 : fnd L key = some t := by
    unfold fnd
    rw [List.find?_eq_some_iff_append]
    refine ⟨by simpa using h.has, L.take k, L.drop (k + 1), e, fun s hs => ?_⟩
    simp only [Bool.not_eq_true', decide_eq_false_iff_not]
    intro e
    exact h.ahead (by rw [← e]; exact List.mem_map_of_mem hs)
  obtain ⟨A, B, e1, e3, h3, _⟩ := fnd_split hn e2
  have : A.length = k := Hit.one ⟨by rw [e1]; simp, h.has, by rw [e1]; simpa using h3⟩ h
  rw [e3]
  subst this
  rw [e1]
  simp
theorem find_hit (base h : Nat) (L : List Th) (room kept : Int) (key : ByteArray) (k : Nat) (t : Th) (w : World) (hr : RefAt w base h L room kept) (hh : Hit L key k t) :
    Calls Try.prog 35 #[.pointer (some ⟨h, 0, none⟩), .string key] w fun r w' => r = .returned (.int .i64 (k : Int)) ∧ w = w' := by
  refine (reffind_any base h L room kept key w hr).mono ?_
  rintro r w' ⟨hc, rfl⟩
  rcases hc with ⟨h1, _⟩ | ⟨k', h1, h2, h3, h4, rfl⟩
  · exact absurd (by rw [← hh.has]; exact List.mem_map_of_mem (List.mem_of_getElem? hh.at_)) (fnd_none.mp h1)
  · have : k' = k := Hit.one ⟨List.getElem?_eq_getElem h1, h3, h4⟩ hh
    subst this
    exact ⟨rfl, rfl⟩
theorem find_miss (base h : Nat) (L : List Th) (room kept : Int) (key : ByteArray) (w : World) (hr : RefAt w base h L room kept) (hf : fnd L key = none) :
    Calls Try.prog 35 #[.pointer (some ⟨h, 0, none⟩), .string key] w fun r w' => r = .returned (.int .i64 (-1)) ∧ w = w' := by
  refine (reffind_any base h L room kept key w hr).mono ?_
  rintro r w' ⟨hc, rfl⟩
  rcases hc with ⟨_, rfl⟩ | ⟨k', h1, h2, _⟩
  · exact ⟨rfl, rfl⟩
  · rw [hf] at h2
    cases h2
theorem tgs_end {w : World} {L : List Th} {j : Nat} (A : Option Addr) (h : L.length ≤ j) : Tgs w A (L.drop j) := ⟨by rw [List.drop_of_length_le h]; simp, fun h0 => by rw [List.length_drop] at h0; omega⟩
theorem RowT.down {w : World} {base base' : Nat} {v : Value} {l : List Th} (h : RowT w base v l) (hb : base' ≤ base) : RowT w base' v l := by
  refine ⟨h.1, ?_⟩
  rcases h.2 with h2 | ⟨g, cap, cur, hv, hg, rest⟩
  · exact .inl h2
  · exact .inr ⟨g, cap, cur, hv, by omega, rest⟩
/-- The cache's box is written behind it. -/
theorem ref_store {w W : World} {base h : Nat} {L L' : List Th} {room kept : Int} {v : Value} (hr : RefAt w base h L room kept) (hbs : base ≤ w.heap.size) (hb : Below w.heap.size w W) (ho : RowT W w.heap.size v L') (hl : L'.length ≤ 100000) :
    RefAt (W.setCell ⟨h, 0, none⟩ v) base h L' room kept ∧ Fr rK base w (W.setCell ⟨h, 0, none⟩ v) := by
  obtain ⟨a1, a2, v0, hbox, _⟩ := hr
  have hlt := hbox.lt
  have hbox3 : RBox W h v0 room kept := (hb.block h hlt).trans hbox
  have hF : Fr [29] base W (W.setCell ⟨h, 0, none⟩ v) := (Fr.refl _ _ _).set hbox3 (by simp [kd]) a1 _
  exact ⟨⟨a1, hl, v, hbox3.set0 v, (ho.down hbs).fr hF (by simp)⟩, (Fr.of_below hb hbs).trans (hF.mono (by simp [rK]))⟩
/-- What Drop makes. -/
structure DrUp (w : World) (base h : Nat) (L' : List Th) (room kept : Int) (A A' : Option Addr) (n j c m c' : Nat) (w1 w3 : World) (v1 : Value) (B3 : Option Addr) (l3 c3 : Nat) : Prop where
  r1 : (Builtin.append_ #[27, 27] 27 #[.slice (some ⟨w.heap.size, 0, none⟩) 0 0, .slice A j c]).run Try.prog (w.alloc (.cells #[] 37)) = .ok v1 w1
  r3 : (Builtin.append_ #[27, 27] 27 #[v1, .slice A' m c']).run Try.prog w1 = .ok (.slice B3 l3 c3) w3
  d0 : (w.alloc (.cells #[] 37)).cell? ⟨h, 0, none⟩ = some (.slice A n c)
  d1 : w1.cell? ⟨h, 0, none⟩ = some (.slice A n c)
  d3 : w3.cell? ⟨h, 0, none⟩ = some (.slice A n c)
  f3 : w3.frozen? ⟨h, 0, none⟩ = false
  out : RefAt (w3.setCell ⟨h, 0, none⟩ (.slice B3 l3 c3)) base h L' room kept ∧ Fr rK base w (w3.setCell ⟨h, 0, none⟩ (.slice B3 l3 c3))
theorem dr_up {base h : Nat} {L : List Th} {room kept : Int} {w : World} {A A' : Option Addr} {n j c c' m : Nat} (hr : RefAt w base h L room kept) (hbs : base ≤ w.heap.size) (hl : n ≤ 100000) (hbox : RBox w h (.slice A n c) room kept) (hp : Tgs w A L) (hA : A = none → c = 0) (hn : L.length = n) (hj : j < n)
    (hp' : Tgs w A' (L.drop (j + 1))) (hA' : A' = none → c' = 0) (hm : n - (j + 1) = m) : ∃ w1 w3 v1 B3 l3 c3, DrUp w base h (L.take j ++ L.drop (j + 1)) room kept A A' n j c m c' w1 w3 v1 B3 l3 c3 := by
  have b0 : Below w.heap.size w (w.alloc (.cells #[] 37)) := (Below.refl _ _).alloc (Nat.le_refl _) _
  obtain ⟨v1, w1, r1, o1, b1⟩ := RowT.grow rfl (RowT.empty w) b0 (n := j) (c := c) ((hp.take j).below (Nat.le_refl _) b0) (by rw [List.length_take]; omega) hA (by simp; omega)
  obtain ⟨v3, w3, r3, o3, b3⟩ := RowT.grow rfl o1 b1 (n := m) (c := c') (hp'.below (Nat.le_refl _) b1) (by rw [List.length_drop]; omega) hA' (by simp; omega)
  simp only [List.nil_append] at o3
  obtain ⟨B3, c3, rfl, _⟩ := o3.form
  have hlt := hbox.lt
  exact ⟨w1, w3, v1, B3, _, c3, r1, r3, (b0.cell (p := ⟨h, 0, none⟩) hlt).trans hbox.c0, (b1.cell (p := ⟨h, 0, none⟩) hlt).trans hbox.c0, (b3.cell (p := ⟨h, 0, none⟩) hlt).trans hbox.c0, RBox.frozen ((b3.block h hlt).trans hbox) 0,
    ref_store hr hbs b3 o3 (by rw [List.length_append, List.length_take, List.length_drop]; omega)⟩
set_option maxHeartbeats 2000000 in
theorem refdrop_any (base h : Nat) (L : List Th) (room kept : Int) (key : ByteArray) (w : World) (hr : RefAt w base h L room kept) (hbs : base ≤ w.heap.size) (hnd : (keys L).Nodup) :
    Calls Try.prog 18 #[.pointer (some ⟨h, 0, none⟩), .string key] w (RefPost w base h (drp L key) room kept (.bool (has L key))) := by
  cases hf : fnd L key with
  | none =>
    have C1 := Lib.hid (find_miss base h L room kept key w hr hf)
    have e1 : has L key = false := by simp [has, hf]
    rw [drp_none' hf, e1]
    have H := Lib.hid hr
    clear e1 hf hr hbs hnd
    go_enter Try.func18, Try.ntmps18
    go_wp2_with fail
    refine C1.out.mono ?_
    rintro r w1 ⟨rfl, rfl⟩
    go_wp2
    go_ret
    exact ⟨rfl, H.out, Fr.refl _ _ _⟩
  | some t =>
    obtain ⟨j, hh⟩ := hit_of hf
    have C1 := Lib.hid (find_hit base h L room kept key j t w hr hh)
    have e1 : has L key = true := by simp [has, hf]
    rw [hh.drp hnd, e1]
    have hjl := hh.lt
    obtain ⟨A, c, hbox, hp, hnc, hA, hl⟩ := hr.parts
    have hlt := hbox.lt
    have hne : ¬ h = w.heap.size := by omega
    have c0 := hbox.c0
    obtain ⟨b, off, rfl, hb, e0⟩ := hp.at_ hjl
    clear e0 e1 hf hh hnd hlt
    obtain ⟨n, hn⟩ : ∃ n, L.length = n := ⟨_, rfl⟩
    rw [hn] at c0 hl hjl hnc hbox
    have hbn : ¬ b = w.heap.size := by omega
    have hlti : (j : Int) < (n : Int) := by omega
    have hj0 : (0 : Int) ≤ (j : Int) := by omega
    clear hb
    by_cases hcj : c = j + 1
    · have hnj : n = j + 1 := by omega
      subst hnj
      subst hcj
      obtain ⟨w1, w3, v1, B3, l3, c3, U⟩ := dr_up (c' := 0) (m := 0) (j := j) hr hbs hl hbox hp hA hn (by omega) (tgs_end (some ⟨b, off, none⟩) (by omega)) (fun _ => rfl) (by omega)
      obtain ⟨r1, r3, d0, d1, d3, f3, hout⟩ := U
      have HF := Lib.hid hout
      clear hout hn hbox hp hA hr hbs
      have hln : j < 100000 := by omega
      clear hnc hjl hl hlti
      have R1 := Lib.hid r1
      have R3 := Lib.hid r3
      clear r1 r3
      go_enter Try.func18, Try.ntmps18
      go_wp2_with fail
      refine C1.out.mono ?_
      rintro e wx ⟨rfl, rfl⟩
      go_wp2_with (first | (at_builtin; refine wpList_append_run rfl _ _ 27 27 rfl _ _ rfl rfl _ w1 R1.out ?_) | (at_builtin; refine wpList_append_run rfl _ _ 27 27 rfl _ _ rfl rfl _ w3 R3.out ?_))
      go_ret
      exact ⟨rfl, HF.out.1, HF.out.2⟩
    · obtain ⟨w1, w3, v1, B3, l3, c3, U⟩ := dr_up (c' := c - (j + 1)) (m := n - (j + 1)) (j := j) hr hbs hl hbox hp hA hn hjl (hp.drop (j + 1)) (by intro h; cases h) rfl
      obtain ⟨r1, r3, d0, d1, d3, f3, hout⟩ := U
      have HF := Lib.hid hout
      clear hout hn hbox hp hA hr hbs
      have hjc : (j : Int) + 1 ≤ (c : Int) := by omega
      have hjn : (j : Int) + 1 ≤ (n : Int) := by omega
      have hln : j < 100000 := by omega
      clear hnc hjl hl
      have R1 := Lib.hid r1
      have R3 := Lib.hid r3
      clear r1 r3
      go_enter Try.func18, Try.ntmps18
      go_wp2_with fail
      refine C1.out.mono ?_
      rintro e wx ⟨rfl, rfl⟩
      go_wp2_with (first | (at_builtin; refine wpList_append_run rfl _ _ 27 27 rfl _ _ rfl rfl _ w1 R1.out ?_) | (at_builtin; refine wpList_append_run rfl _ _ 27 27 rfl _ _ rfl rfl _ w3 R3.out ?_))
      go_ret
      exact ⟨rfl, HF.out.1, HF.out.2⟩
end Go.Proofs.Ytmhpngfkipooiaa

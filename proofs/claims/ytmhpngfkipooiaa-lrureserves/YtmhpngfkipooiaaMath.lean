/-
  What a cache is, apart from memory: things in the order of their last use, how many stay when way is made, and rings of links. Its conditions: none.
-/
import Init
namespace Go.Proofs.Ytmhpngfkipooiaa

/-- A thing: its key, its size, its value. -/
structure Th where
  k : ByteArray
  s : Int
  n : Int
def th0 : Th := ⟨⟨#[]⟩, 0, 0⟩
/-- All sizes. -/
def tot : List Th → Int
  | [] => 0
  | t :: r => t.s + tot r
theorem tot_append (l m : List Th) : tot (l ++ m) = tot l + tot m := by
  induction l with
  | nil => simp [tot]
  | cons t r ih => simp [tot, ih]; omega
def keys (L : List Th) : List ByteArray := L.map (·.k)
/-- Without a key. -/
def drp (L : List Th) (k : ByteArray) : List Th := L.filter fun t => decide (t.k ≠ k)
/-- A key's thing. -/
def fnd (L : List Th) (k : ByteArray) : Option Th := L.find? fun t => decide (t.k = k)
def has (L : List Th) (k : ByteArray) : Bool := (fnd L k).isSome
/-- How many of the first j things stay, if no more than b bytes may be used. -/
def wayN (b : Int) (L : List Th) : Nat → Nat
  | 0 => 0
  | j + 1 => if tot (L.take (j + 1)) ≤ b then j + 1 else wayN b L j
def way (b : Int) (L : List Th) : Nat := wayN b L L.length
/-- The keys that go, the last first. -/
def gone (L : List Th) (j : Nat) : List ByteArray := (keys (L.drop j)).reverse

theorem wayN_le (b : Int) (L : List Th) : ∀ j, wayN b L j ≤ j
  | 0 => Nat.le_refl _
  | j + 1 => by
    unfold wayN
    split
    · exact Nat.le_refl _
    · exact Nat.le_succ_of_le (wayN_le b L j)
theorem wayN_fit {b : Int} (hb : 0 ≤ b) (L : List Th) : ∀ j, tot (L.take (wayN b L j)) ≤ b
  | 0 => by simpa [wayN, tot] using hb
  | j + 1 => by
    unfold wayN
    split
    · assumption
    · exact wayN_fit hb L j
theorem wayN_here {b : Int} {L : List Th} {j : Nat} (h : tot (L.take j) ≤ b) : wayN b L j = j := by
  cases j with
  | zero => rfl
  | succ j => simp [wayN, h]
theorem wayN_on {b : Int} {L : List Th} {j : Nat} (h : ¬ tot (L.take (j + 1)) ≤ b) : wayN b L (j + 1) = wayN b L j := by simp [wayN, h]
theorem way_le (b : Int) (L : List Th) : way b L ≤ L.length := wayN_le b L _
theorem way_all {b : Int} {L : List Th} (h : tot L ≤ b) : way b L = L.length := wayN_here (by rw [List.take_length]; exact h)
theorem way_more {b : Int} {L : List Th} (h : way b L < L.length) : b < tot L := by
  apply Int.not_le.mp
  intro h'
  rw [way_all h'] at h
  omega
theorem way_fit {b : Int} (hb : 0 ≤ b) (L : List Th) : tot (L.take (way b L)) ≤ b := wayN_fit hb L _

def Pos (L : List Th) : Prop := ∀ t ∈ L, 0 ≤ t.s
theorem Pos.tot {L : List Th} (h : Pos L) : 0 ≤ tot L := by
  induction L with
  | nil => simp [Ytmhpngfkipooiaa.tot]
  | cons t r ih =>
    have h1 := h t (by simp)
    have h2 := ih fun x hx => h x (by simp [hx])
    simp only [Ytmhpngfkipooiaa.tot]
    omega
theorem Pos.sub {L M : List Th} (h : Pos L) (hs : M.Sublist L) : Pos M := fun t ht => h t (hs.subset ht)
theorem tot_sub {L M : List Th} (h : Pos L) (hs : M.Sublist L) : Ytmhpngfkipooiaa.tot M ≤ Ytmhpngfkipooiaa.tot L := by
  induction hs with
  | slnil => exact Int.le_refl _
  | cons a _ ih =>
    have h1 := h a (by simp)
    have h2 := ih fun x hx => h x (by simp [hx])
    simp only [tot]
    omega
  | cons_cons a _ ih =>
    have h2 := ih fun x hx => h x (by simp [hx])
    simp only [tot]
    omega
theorem drp_sub (L : List Th) (k : ByteArray) : (drp L k).Sublist L := List.filter_sublist

/-- A cache that is as it should be. -/
structure Good (L : List Th) (room kept : Int) : Prop where
  nd : (keys L).Nodup
  pos : Pos L
  kept0 : 0 ≤ kept
  fits : tot L + kept ≤ room
  top : room ≤ 9223372036854775807
theorem keys_sub {L M : List Th} (h : M.Sublist L) : (keys M).Sublist (keys L) := h.map _
theorem Good.sub {L M : List Th} {room kept : Int} (h : Good L room kept) (hs : M.Sublist L) : Good M room kept :=
  ⟨(keys_sub hs).nodup h.nd, h.pos.sub hs, h.kept0, by have := tot_sub h.pos hs; have := h.fits; omega, h.top⟩
theorem Good.tot0 {L : List Th} {room kept : Int} (h : Good L room kept) : 0 ≤ tot L := h.pos.tot
theorem Good.nil {room : Int} (h : 0 ≤ room) (ht : room ≤ 9223372036854775807) : Good [] room 0 := ⟨List.nodup_nil, by intro t ht; simp at ht, Int.le_refl _, by simpa [tot] using h, ht⟩
theorem not_in_drp (L : List Th) (k : ByteArray) : k ∉ keys (drp L k) := by
  intro h
  obtain ⟨t, ht, rfl⟩ := List.mem_map.mp h
  simpa using (List.mem_filter.mp ht).2
theorem Good.put {L : List Th} {room kept : Int} (h : Good L room kept) {t : Th} (hk : t.k ∉ keys L) (hs : 0 ≤ t.s) (hf : tot L + kept + t.s ≤ room) : Good (t :: L) room kept :=
  ⟨List.nodup_cons.mpr ⟨hk, h.nd⟩, by intro x hx; rcases List.mem_cons.mp hx with rfl | hx; exact hs; exact h.pos x hx, h.kept0, by simp only [tot]; omega, h.top⟩

theorem fnd_some {L : List Th} {k : ByteArray} {t : Th} (h : fnd L k = some t) : t ∈ L ∧ t.k = k := ⟨List.mem_of_find?_eq_some h, by simpa using List.find?_some h⟩
theorem fnd_none {L : List Th} {k : ByteArray} : fnd L k = none ↔ k ∉ keys L := by
  unfold fnd keys
  rw [List.find?_eq_none]
  constructor
  · intro h hk
    obtain ⟨t, ht, e⟩ := List.mem_map.mp hk
    exact h t ht (by simpa using e)
  · intro h t ht e
    exact h (List.mem_map.mpr ⟨t, ht, by simpa using e⟩)
theorem drp_none {L : List Th} {k : ByteArray} (h : k ∉ keys L) : drp L k = L := by
  unfold drp
  rw [List.filter_eq_self]
  intro t ht
  simp only [decide_eq_true_eq]
  rintro rfl
  exact h (List.mem_map_of_mem ht)
theorem fnd_split {L : List Th} {k : ByteArray} {t : Th} (hn : (keys L).Nodup) (h : fnd L k = some t) : ∃ A B, L = A ++ t :: B ∧ drp L k = A ++ B ∧ k ∉ keys A ∧ k ∉ keys B ∧ t.k = k := by
  obtain ⟨ht, rfl⟩ := fnd_some h
  obtain ⟨A, B, rfl⟩ := List.append_of_mem ht
  have hn' : (keys A ++ t.k :: keys B).Nodup := by simpa [keys] using hn
  obtain ⟨_, h2, h3⟩ := List.nodup_append.mp hn'
  have hB := (List.nodup_cons.mp h2).1
  have hA : t.k ∉ keys A := fun hx => h3 _ hx _ (by simp) rfl
  refine ⟨A, B, rfl, ?_, hA, hB, rfl⟩
  have e1 : drp (A ++ t :: B) t.k = drp A t.k ++ drp B t.k := by simp [drp]
  rw [e1, drp_none hA, drp_none hB]

/-! ### rings -/
def upd (f : Nat → Nat) (i v : Nat) : Nat → Nat := fun j => if j = i then v else f j
theorem upd_same (f : Nat → Nat) (i v : Nat) : upd f i v i = v := by simp [upd]
theorem upd_other (f : Nat → Nat) {i j : Nat} (v : Nat) (h : j ≠ i) : upd f i v j = f j := by simp [upd, h]
/-- From a on, down along bs, to z, and back. -/
def seg (ol nw : Nat → Nat) : Nat → List Nat → Nat → Prop
  | a, [], z => ol a = z ∧ nw z = a
  | a, b :: bs, z => ol a = b ∧ nw b = a ∧ seg ol nw b bs z
theorem seg_append {ol nw : Nat → Nat} {z y : Nat} {ys : List Nat} : ∀ {xs : List Nat} {a : Nat}, seg ol nw a (xs ++ y :: ys) z ↔ seg ol nw a xs y ∧ seg ol nw y ys z
  | [], a => by simp [seg, and_assoc]
  | b :: xs, a => by simp [seg, seg_append (xs := xs) (a := b), and_assoc]
theorem seg_congr {ol nw ol' nw' : Nat → Nat} {z : Nat} : ∀ {xs : List Nat} {a : Nat}, seg ol nw a xs z → (∀ x ∈ a :: xs, ol' x = ol x) → (∀ x ∈ xs ++ [z], nw' x = nw x) → seg ol' nw' a xs z
  | [], a, h, h1, h2 => ⟨by rw [h1 a (by simp)]; exact h.1, by rw [h2 z (by simp)]; exact h.2⟩
  | b :: xs, a, ⟨e1, e2, h⟩, h1, h2 => ⟨by rw [h1 a (by simp)]; exact e1, by rw [h2 b (by simp)]; exact e2, seg_congr h (fun x hx => h1 x (List.mem_cons_of_mem _ hx)) (fun x hx => h2 x (List.mem_append.mpr (by rcases List.mem_append.mp hx with h | h; exact .inl (List.mem_cons_of_mem _ h); exact .inr h)))⟩
theorem seg_last {ol nw : Nat → Nat} {z : Nat} : ∀ {xs : List Nat} {a : Nat}, seg ol nw a xs z → nw z ∈ a :: xs
  | [], a, h => by simp [h.2]
  | b :: xs, a, ⟨_, _, h⟩ => List.mem_cons_of_mem _ (seg_last h)
theorem seg_first {ol nw : Nat → Nat} {z : Nat} : ∀ {xs : List Nat} {a : Nat}, seg ol nw a xs z → ol a ∈ xs ++ [z]
  | [], a, h => by simp [h.1]
  | b :: xs, a, ⟨e, _, _⟩ => by simp [e]
theorem seg_end {ol nw : Nat → Nat} {l v : Nat} : ∀ {xs : List Nat} {a : Nat}, seg ol nw a xs l → (a :: xs).Nodup → v ∉ xs → seg (upd ol (nw l) v) (upd nw v (nw l)) a xs v
  | [], a, h, _, _ => ⟨by rw [h.2, upd_same], by rw [upd_same]; exact h.2⟩
  | b :: xs, a, ⟨e1, e2, h⟩, hn, hv => by
    have h1 := seg_last h
    obtain ⟨h2, h3⟩ := List.nodup_cons.mp hn
    refine ⟨by rw [upd_other _ _ (fun e => h2 (by rw [e]; exact h1))]; exact e1, by rw [upd_other _ _ (fun e => hv (by simp [e]))]; exact e2, seg_end h h3 (fun e => hv (by simp [e]))⟩
/-- A link leaves. -/
theorem seg_leave {ol nw : Nat → Nat} {e l : Nat} {xs ys : List Nat} (h : seg ol nw e (xs ++ l :: ys) e) (hn : (e :: (xs ++ l :: ys)).Nodup) :
    seg (upd ol (nw l) (ol l)) (upd nw (ol l) (nw l)) e (xs ++ ys) e := by
  obtain ⟨h1, h2⟩ := seg_append.mp h
  obtain ⟨he, hn2⟩ := List.nodup_cons.mp hn
  obtain ⟨n1, n2, n3⟩ := List.nodup_append.mp hn2
  have hx : (e :: xs).Nodup := List.nodup_cons.mpr ⟨fun h => he (by simp [h]), n1⟩
  have hp := seg_last h1
  cases ys with
  | nil =>
    rw [h2.1, List.append_nil]
    exact seg_end h1 hx (fun h => he (by simp [h]))
  | cons y yr =>
    obtain ⟨e1, e2, h3⟩ := h2
    rw [e1]
    obtain ⟨m1, m2⟩ := List.nodup_cons.mp n2
    obtain ⟨m3, m4⟩ := List.nodup_cons.mp m2
    have hyx : y ∉ xs := fun h => n3 y h y (by simp) rfl
    refine seg_append.mpr ⟨seg_end h1 hx hyx, seg_congr h3 (fun x hx' => upd_other _ _ ?_) (fun x hx' => upd_other _ _ ?_)⟩
    · rintro rfl
      rcases List.mem_cons.mp hp with hp | hp
      · exact he (by rw [← hp]; simp only [List.mem_append]; right; exact List.mem_cons_of_mem _ hx')
      · exact n3 _ hp _ (List.mem_cons_of_mem _ hx') rfl
    · rintro rfl
      rcases List.mem_append.mp hx' with h | h
      · exact m3 h
      · rw [List.mem_singleton] at h
        exact he (by rw [← h]; simp)
/-- A link leads. -/
theorem seg_lead {ol nw : Nat → Nat} {e l : Nat} {bs : List Nat} (h : seg ol nw e bs e) (hn : (e :: bs).Nodup) (hl : l ∉ e :: bs) :
    seg (upd (upd ol l (ol e)) e l) (upd (upd nw l e) (ol e) l) e (l :: bs) e := by
  have hle : l ≠ e := fun h => hl (by simp [h])
  obtain ⟨he, hnb⟩ := List.nodup_cons.mp hn
  have hf := seg_first h
  have hlf : l ≠ ol e := by
    rintro rfl
    rcases List.mem_append.mp hf with h | h
    · exact hl (List.mem_cons_of_mem _ h)
    · exact hl (by simp at h; simp [h])
  refine ⟨upd_same _ _ _, by rw [upd_other _ _ hlf, upd_same], ?_⟩
  cases bs with
  | nil => exact ⟨by rw [upd_other _ _ hle, upd_same]; exact h.1, by rw [h.1, upd_same]⟩
  | cons b br =>
    obtain ⟨e1, e2, h3⟩ := h
    obtain ⟨m1, m2⟩ := List.nodup_cons.mp hnb
    refine ⟨by rw [upd_other _ _ hle, upd_same]; exact e1, by rw [e1, upd_same], seg_congr h3 (fun x hx => ?_) (fun x hx => ?_)⟩
    · rw [upd_other _ _ (fun h => he (by rw [← h]; exact hx)), upd_other _ _ (fun h => hl (by rw [← h]; exact List.mem_cons_of_mem _ hx))]
    · have h1 : x ≠ ol e := by
        rw [e1]
        rintro rfl
        rcases List.mem_append.mp hx with h | h
        · exact m1 h
        · rw [List.mem_singleton] at h
          exact he (by rw [← h]; simp)
      have h2 : x ≠ l := by
        rintro rfl
        rcases List.mem_append.mp hx with h | h
        · exact hl (by simp [h])
        · rw [List.mem_singleton] at h
          exact hl (by simp [h])
      rw [upd_other _ _ h1, upd_other _ _ h2]
end Go.Proofs.Ytmhpngfkipooiaa

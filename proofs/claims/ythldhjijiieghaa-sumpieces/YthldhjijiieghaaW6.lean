/-
  Plain mathematics of SumTells: what stands in a text of which some bytes side by side are xored, and that its sum is another just if one of them is. Its conditions: at most four bytes.
-/
import Derived.Test.YthldhjijiieghaaW5
import Derived.OwnWalk
import Derived.Laws.AppendOwn
namespace Go.Proofs.Ythldhjijiieghaa
open Go.RowKit Go.Sort

/-- What stands at place i when j bytes from place k on are xored with ys. -/
def mixAt (l ys : List Nat) (k j i : Nat) : Nat := l.getD i 0 ^^^ (if k ≤ i ∧ i < k + j then ys.getD (i - k) 0 else 0)
def mix (l ys : List Nat) (k j : Nat) : List Nat := (List.range l.length).map (mixAt l ys k j)
def anyNe (ys : List Nat) : Bool := ys.any (· != 0)
theorem mix_length (l ys : List Nat) (k j : Nat) : (mix l ys k j).length = l.length := by simp [mix]
theorem getD_lt (l : List Nat) (h : ∀ c ∈ l, c < 256) (i : Nat) : l.getD i 0 < 256 := by
  rw [List.getD_eq_getElem?_getD]
  by_cases hi : i < l.length
  · rw [List.getElem?_eq_getElem hi]
    exact h _ (List.getElem_mem hi)
  · rw [List.getElem?_eq_none (by omega)]
    show (0 : Nat) < 256
    omega
theorem mixAt_lt (l ys : List Nat) (k j i : Nat) (h1 : ∀ c ∈ l, c < 256) (h2 : ∀ c ∈ ys, c < 256) : mixAt l ys k j i < 256 := by
  unfold mixAt
  refine xor_lt8 _ _ (getD_lt l h1 i) ?_
  split
  · exact getD_lt ys h2 _
  · omega
theorem mix_lt (l ys : List Nat) (k j : Nat) (h1 : ∀ c ∈ l, c < 256) (h2 : ∀ c ∈ ys, c < 256) : ∀ c ∈ mix l ys k j, c < 256 := by
  intro c hc
  obtain ⟨i, _, rfl⟩ := List.mem_map.mp hc
  exact mixAt_lt l ys k j i h1 h2
theorem mixAt_step (l ys : List Nat) (k j : Nat) (i : Nat) : mixAt l ys k (j + 1) i = if i = k + j then mixAt l ys k j (k + j) ^^^ ys.getD j 0 else mixAt l ys k j i := by
  unfold mixAt
  by_cases h : i = k + j
  · subst h
    rw [if_pos rfl, if_pos ⟨by omega, by omega⟩, if_neg (fun h => by omega), Nat.xor_zero, Nat.add_sub_cancel_left]
  · rw [if_neg h]
    by_cases h2 : k ≤ i ∧ i < k + j
    · rw [if_pos h2, if_pos ⟨by omega, by omega⟩]
    · rw [if_neg h2, if_neg (fun h3 => h2 ⟨h3.1, by omega⟩)]
theorem mix_diff (l ys : List Nat) (k j : Nat) (hj : j ≤ ys.length) (hk : k + j ≤ l.length) :
    List.zipWith (· ^^^ ·) (mix l ys k j) l = List.replicate k 0 ++ ys.take j ++ List.replicate (l.length - k - j) 0 := by
  apply List.ext_getElem
  · simp [mix]; omega
  · intro i h1 h2
    have hi : i < l.length := by simp [mix] at h1; omega
    simp only [List.getElem_zipWith, mix, List.getElem_map, List.getElem_range, mixAt]
    have hg : l.getD i 0 = l[i] := by rw [List.getD_eq_getElem?_getD, List.getElem?_eq_getElem hi]; rfl
    rw [hg, Nat.xor_comm, ← Nat.xor_assoc, Nat.xor_self, Nat.zero_xor]
    by_cases a : i < k
    · rw [if_neg (by omega), List.getElem_append_left (by simp; omega), List.getElem_append_left (by simpa using a), List.getElem_replicate]
    · by_cases b : i < k + j
      · rw [if_pos ⟨by omega, b⟩, List.getElem_append_left (by simp; omega), List.getElem_append_right (by simp; omega)]
        simp only [List.length_replicate, List.getElem_take]
        rw [List.getD_eq_getElem?_getD, List.getElem?_eq_getElem (by omega)]
        rfl
      · rw [if_neg (by omega), List.getElem_append_right (by simp; omega), List.getElem_replicate]
theorem mix_tells (l ys : List Nat) (k j : Nat) (hj : j ≤ ys.length) (hy : ys.length = 4) (hk : k + j ≤ l.length) (h2 : ∀ c ∈ ys, c < 256) :
    (((Crc.more 0 (mix l ys k j) : Nat) : Int) != ((Crc.more 0 l : Nat) : Int)) = anyNe (ys.take j) := by
  have h := Crc.more_eq_iff (mix l ys k j) l (mix_length l ys k j)
  rw [mix_diff l ys k j hj hk, Crc.reg_diff _ _ _ (fun c hc => h2 c (List.mem_of_mem_take hc)) (by rw [List.length_take]; omega)] at h
  generalize Crc.more 0 (mix l ys k j) = X at h ⊢
  generalize Crc.more 0 l = Y at h ⊢
  unfold anyNe
  rw [Bool.eq_iff_iff]
  simp only [bne_iff_ne, ne_eq, List.any_eq_true]
  constructor
  · intro hne
    have : ¬ ∀ c ∈ ys.take j, c = 0 := fun hall => hne (by rw [h.mpr hall])
    simpa using this
  · rintro ⟨c, hc, hc0⟩ e
    exact hc0 (h.mp (by omega) c hc)
theorem anyNe_step (ys : List Nat) (j : Nat) (hj : j < ys.length) : anyNe (ys.take (j + 1)) = (anyNe (ys.take j) || ys.getD j 0 != 0) := by
  unfold anyNe
  rw [List.take_succ_eq_append_getElem hj, List.any_append, List.getD_eq_getElem?_getD, List.getElem?_eq_getElem hj]
  simp

/-- A row whose first cells are the bytes of a function. -/
def rowFn (n : Nat) (f : Nat → Nat) (cur : Array Value) (i : Nat) : Value := if i < n then .int .u8 ((f i : Nat) : Int) else cur.getD i undef
end Go.Proofs.Ythldhjijiieghaa

/-
  The contracts of Writer's Text and Bytes, and of the statements' example. Their conditions: the writer is the call's own, and what it has fits memory.
-/
import Derived.Test.YthcmijppemochaaW3
namespace Go.Proofs.Ythcmijppemochaa
open Go.RowKit

/-- A string's bytes. -/
def bytesOf (s : ByteArray) : List Nat := s.data.toList.map UInt8.toNat
theorem bytesOf_length (s : ByteArray) : (bytesOf s).length = s.size := by simp [bytesOf]
theorem bytesOf_lt (s : ByteArray) : ∀ c ∈ bytesOf s, c < 256 := by
  intro c hc
  obtain ⟨b, _, rfl⟩ := List.mem_map.mp hc
  exact UInt8.toNat_lt b
theorem textOf_bytesOf (s : ByteArray) : textOf (bytesOf s) = s := by
  unfold textOf bytesOf
  rw [List.map_map, show (UInt8.ofNat ∘ UInt8.toNat) = id from funext fun b => by simp, List.map_id]
theorem bytesOf_textOf (l : List Nat) (h : ∀ c ∈ l, c < 256) : bytesOf (textOf l) = l := by
  unfold textOf bytesOf
  simp only [List.map_map]
  conv => rhs; rw [← List.map_id l]
  apply List.map_congr_left
  intro c hc
  have := h c hc
  simp [Nat.mod_eq_of_lt this]
theorem drew_size (w : World) : w.drew.heap.size = w.heap.size := rfl
theorem conv_bytes (s : ByteArray) (hs : s.size ≤ maxLen) (w : World) : ∃ c w1, (convert 9 25 (.string s)).run Try.prog w = .ok (.slice (some ⟨w.heap.size, 0, none⟩) s.size c) w1 ∧ Below w.heap.size w w1 ∧ Bytes w1 (some ⟨w.heap.size, 0, none⟩) (bytesOf s) := by
  refine ⟨_, _, run_bytes_of_string w 9 25 5 s Try.underlying9 Try.underlying25 Try.underlying5, ?_, bytesOf_lt s, by rw [bytesOf_length]; exact hs, fun _ => ⟨w.heap.size, 0, rfl, by simp, fun k c hk => ?_⟩⟩
  · exact ((Below.refl _ w).drew).alloc (Nat.le_refl _) _
  · rw [Nat.zero_add, ← drew_size w, World.cell?_alloc_mark]
    have hk' : k < s.data.size := by
      have := (List.getElem?_eq_some_iff.mp hk).1
      rw [bytesOf_length] at this
      exact this
    rw [bytesRow_at s (grownCap w s.size 0 5) k hk']
    unfold bytesOf at hk
    rw [List.getElem?_map, List.getElem?_eq_getElem (by simpa using hk')] at hk
    simp at hk
    rw [← hk]

set_option maxHeartbeats 400000 in
theorem text_any (g r : Nat) (s : Option (List Nat)) (t : ByteArray) (w : World) (h : WS w g r s) (ht : t.size ≤ 1000000) (hm : room s ≤ 1000000000) :
    Calls Try.prog 14 #[.pointer (some ⟨g, 0, none⟩), .string t] w (WPost w g r (Pk.wput s (Pk.digits t.size ++ bytesOf t))) := by
  have hn := num_good g r s (t.size : Int) w h (by omega) (by omega) (by omega)
  rw [show ((t.size : Nat) : Int).toNat = t.size by omega] at hn
  have hl := Pk.digits_length_most (n := t.size) (by unfold Pk.most; omega)
  have hroom := room_wput s (Pk.digits t.size)
  have HC := Lib.hid hn
  have H0 := Lib.hid (show t.size ≤ maxLen by unfold maxLen; omega)
  have H1 := Lib.hid (show room (Pk.wput s (Pk.digits t.size)) + (bytesOf t).length ≤ 140737488355328 by rw [bytesOf_length]; omega)
  clear h hn ht hm hl hroom
  go_enter Try.func14, Try.ntmps14
  go_wp2_with (go_at_call 13; refine HC.out.mono ?_; rintro e w2 ⟨rfl, r2, hw2, hs2⟩; have HW2 := Lib.hid hw2; have HS2 := Lib.hid hs2; clear hw2 hs2; obtain ⟨c3, w3, hr3, hb3, hy3⟩ := conv_bytes t H0.out w2; have HB3 := Lib.hid hb3; have HY3 := Lib.hid hy3; clear hb3 hy3)
  have hput := put_any g r2 _ (bytesOf t) (some ⟨w2.heap.size, 0, none⟩) c3 w3 (HW2.out.below HB3.out) HY3.out (fun h => by cases h) H1.out
  rw [bytesOf_length, wput_wput] at hput
  refine hput.mono ?_
  rintro e w4 ⟨rfl, r4, hw4, hs4⟩
  have HW4 := Lib.hid hw4
  have HS4 := Lib.hid hs4
  clear hw4 hs4 hput hr3
  go_wp2
  go_end0
  exact ⟨rfl, r4, HW4.out, HS2.out.trans (HS4.out.below HB3.out)⟩
theorem text_nil (t : ByteArray) (w : World) : Calls Try.prog 14 #[.pointer none, .string t] w fun e w' => e = .returned (.tuple #[]) ∧ w = w' := by
  go_enter Try.func14, Try.ntmps14
  go_wp2
  refine bodyPost_ret (results_none rfl _ _ _) rfl ?_
  exact ⟨rfl, rfl⟩

/-- A slice in new memory that reads as the bytes L. -/
def Got (w w' : World) (L : List Nat) (v : Value) : Prop :=
  ∃ A c, v = .slice A L.length c ∧ Bytes w' A L ∧ L.length ≤ c ∧ c ≤ maxLen ∧ (A = none → c = 0) ∧ (∀ a, A = some a → w.heap.size ≤ a.block ∧ a.block < w'.heap.size) ∧ Below w.heap.size w w'
theorem owns_empty (w : World) : (w.alloc (.cells #[] 5)).ownsRow 0 5 1 (.slice (some ⟨w.heap.size, 0, none⟩) 0 0) 0 [] :=
  ⟨rfl, .inr ⟨w.heap.size, 0, #[], rfl, Nat.zero_le _, heap_new _ _, Nat.le_refl _, Nat.zero_le _, rfl, rfl⟩⟩
theorem owns_bytes {w : World} {base : Nat} {A : Option Addr} {c : Nat} {l : List Nat} (h : w.ownsRow base 5 1 (.slice A l.length c) l.length (vals l)) (hl : ∀ x ∈ l, x < 256) (hm : l.length ≤ maxLen) : Bytes w A l := by
  refine ⟨hl, hm, fun hp => ?_⟩
  rcases h.2 with ⟨_, hz⟩ | ⟨g, cap, cur, hv, hg, hb, _, _, _, ht⟩
  · omega
  · injection hv with hA _ _
    subst hA
    have hlt : g < w.heap.size := by
      obtain ⟨hlt, _⟩ := Array.getElem?_eq_some_iff.mp hb
      exact hlt
    refine ⟨g, 0, rfl, hlt, fun k x hk => ?_⟩
    have hkl : k < l.length := (List.getElem?_eq_some_iff.mp hk).1
    have h2 : (cur.toList.take (l.length * 1))[k]? = some (.int .u8 (x : Int)) := by rw [ht, vals, List.getElem?_map, hk]; rfl
    rw [List.getElem?_take, if_pos (by omega), Array.getElem?_toList] at h2
    rw [Nat.zero_add]
    simp [World.cell?, hb, h2]
theorem owns_facts {w : World} {base : Nat} {A : Option Addr} {c n : Nat} {xs : List Value} (h : w.ownsRow base 5 1 (.slice A n c) n xs) : n ≤ c ∧ c ≤ maxLen ∧ (A = none → c = 0) := by
  rcases h.2 with ⟨hv, hz⟩ | ⟨g, cap, cur, hv, hg, hb, h1, h2, _⟩
  · injection hv with hA h1 h2
    subst h1 h2
    exact ⟨Nat.le_refl _, Nat.zero_le _, fun _ => rfl⟩
  · injection hv with hA _ hc
    subst hc
    exact ⟨h1, h2, fun h => by rw [hA] at h; cases h⟩
/-- append onto an empty slice that was just made. -/
theorem append_new {w : World} {A : Option Addr} {l : List Nat} {c : Nat} (hb : Bytes w A l) (hA : A = none → c = 0) (hm : l.length ≤ 140737488355328) (ty : TypeId) :
    ∃ v' w', (Builtin.append_ #[25, 25] ty #[.slice (some ⟨w.heap.size, 0, none⟩) 0 0, .slice A l.length c]).run Try.prog (w.alloc (.cells #[] 5)) = .ok v' w' ∧ Got w w' l v' ∧ w'.ownsRow 0 5 1 v' l.length (vals l) := by
  have hbel : Below w.heap.size w (w.alloc (.cells #[] 5)) := (Below.refl _ _).alloc (Nat.le_refl _) _
  obtain ⟨v', w1, hr, ho, hg, hk⟩ := append_own (owns_empty w) (hb.below hbel) hA (by omega) ty
  rw [Nat.zero_add, List.nil_append] at ho
  refine ⟨v', w1, hr, ?_, ho⟩
  obtain ⟨A', c', rfl⟩ := owns_form ho
  obtain ⟨f1, f2, f3⟩ := owns_facts ho
  refine ⟨A', c', rfl, owns_bytes ho hb.1 hb.2.1, f1, f2, f3, fun a ha => ?_, hbel.grown hg (by simp) (fun k hk => by simp [Value.ownBlock] at hk; omega)⟩
  subst ha
  refine ⟨?_, (ho.lt a.block rfl).2⟩
  rcases hk a.block rfl with h | h
  · simp [Value.ownBlock] at h
    omega
  · simp at h
    omega
def Cloned (w : World) (L : List Nat) (e : Ending) (w' : World) : Prop := ∃ v, e = .returned v ∧ Got w w' L v
theorem clone_any (l : List Nat) (A : Option Addr) (c : Nat) (w : World) (hb : Bytes w A l) (hA : A = none → c = 0) (hm : l.length ≤ 140737488355328) :
    Calls Try.prog 37 #[.slice A l.length c] w (Cloned w l) := by
  cases A with
  | none =>
    have hl : l = [] := by
      cases l with
      | nil => rfl
      | cons c l => obtain ⟨b, off, hA, _⟩ := hb.2.2 (by simp); simp at hA
    subst hl
    clear hm hb
    have HA := Lib.hid (hA rfl)
    clear hA
    have kn := Lib.run_eql_slice_nil (P := Try.prog) w 25 5 none 0 c 0 0 Try.underlying25
    go_enter Try.func37, Try.ntmps37
    go_wp2
    go_ret
    exact ⟨_, rfl, none, 0, rfl, Bytes.nil _ _, Nat.zero_le _, Nat.zero_le _, fun _ => rfl, (fun a h => by cases h), Below.refl _ _⟩
  | some a =>
    obtain ⟨v', w1, hr, hg, ho⟩ := append_new hb hA hm 25
    obtain ⟨A', c', rfl⟩ := owns_form ho
    have HR := Lib.hid hr
    have HG := Lib.hid hg
    clear hr hg ho hb hm hA
    have kn := Lib.run_eql_slice_nil (P := Try.prog) w 25 5 (some a) l.length c 0 0 Try.underlying25
    go_enter Try.func37, Try.ntmps37
    go_wp2_with (at_builtin; refine wpList_append_run rfl _ _ 25 25 rfl _ _ rfl rfl _ w1 HR.out ?_)
    go_ret
    exact ⟨_, rfl, HG.out⟩
theorem all_any (g r : Nat) (L : List Nat) (w : World) (h : WS w g r (some L)) (hm : L.length ≤ 140737488355328) :
    Calls Try.prog 33 #[.pointer (some ⟨g, 0, none⟩)] w (Cloned w L) := by
  obtain ⟨_, v, hh, ho, hL, _⟩ := h
  obtain ⟨A', c', rfl⟩ := owns_form ho
  have HC := Lib.hid (clone_any L A' c' w (owns_bytes ho hL (by unfold maxLen; omega)) (owns_facts ho).2.2 hm)
  have c0 := hh.cell0
  clear hh ho hL hm
  go_enter Try.func33, Try.ntmps33
  go_wp2_with (go_at_call 37; refine HC.out.mono ?_; rintro e w2 ⟨v, rfl, hg⟩; have HG := Lib.hid hg; clear hg)
  go_ret
  exact ⟨_, rfl, HG.out⟩
/-- Writer.Bytes. -/
def BPost (w : World) (s : Option (List Nat)) (e : Ending) (w' : World) : Prop :=
  match s with
  | none => e = .returned (.tuple #[.slice none 0 0, .int .i64 1]) ∧ w = w'
  | some L => ∃ v, e = .returned (.tuple #[v, .int .i64 0]) ∧ Got w w' L v
theorem bytes_ok (g r : Nat) (L : List Nat) (w : World) (h : WS w g r (some L)) (hm : L.length ≤ 140737488355328) :
    Calls Try.prog 15 #[.pointer (some ⟨g, 0, none⟩)] w (BPost w (some L)) := by
  have HC := Lib.hid (all_any g r L w h hm)
  obtain ⟨_, v, hh, ho, hL, _⟩ := h
  have c1 := hh.cell1
  clear hh ho hL hm
  go_enter Try.func15, Try.ntmps15
  go_wp2_with (go_at_call 33; refine HC.out.mono ?_; rintro e w2 ⟨v, rfl, hg⟩; have HG := Lib.hid hg; clear hg)
  go_ret2
  exact ⟨_, rfl, HG.out⟩
theorem bytes_spoilt (g r : Nat) (w : World) (h : WS w g r none) : Calls Try.prog 15 #[.pointer (some ⟨g, 0, none⟩)] w (BPost w none) := by
  have c1 := h.1.cell1
  clear h
  go_enter Try.func15, Try.ntmps15
  go_wp2
  go_ret2
  exact ⟨rfl, rfl⟩
theorem bytes_any (g r : Nat) (s : Option (List Nat)) (w : World) (h : WS w g r s) (hm : room s ≤ 140737488355328) : Calls Try.prog 15 #[.pointer (some ⟨g, 0, none⟩)] w (BPost w s) := by
  cases s with
  | none => exact bytes_spoilt g r w h
  | some L => exact bytes_ok g r L w h hm
theorem bytes_nil (w : World) : Calls Try.prog 15 #[.pointer none] w fun e w' => e = .returned (.tuple #[.slice none 0 0, .int .i64 1]) ∧ w = w' := by
  go_enter Try.func15, Try.ntmps15
  go_wp2
  go_ret2
  exact ⟨rfl, rfl⟩

/-- A new writer. -/
theorem ws_new (w : World) (t : TypeId) : WS (w.alloc (.cells #[.slice none 0 0, .bool false] t)) w.heap.size w.heap.size (some []) :=
  ⟨by simp, .slice none 0 0, ⟨t, heap_new _ _⟩, ⟨rfl, .inl ⟨rfl, rfl⟩⟩, by simp, fun k hk => by cases hk⟩
theorem awake_bytes : Pk.wput (Pk.wput (some []) (Pk.digits 300)) (Pk.digits 2 ++ bytesOf ⟨#[97, 98]⟩) = some [172, 2, 2, 97, 98] := by
  rw [Pk.digits_great (n := 300) (by omega), show 300 / 128 = 2 from rfl, Pk.digits_small (n := 2) (by omega)]
  rfl
theorem Got.bytes {w w' : World} {L : List Nat} {v : Value} (h : Got w w' L v) : ∃ A c, v = .slice A L.length c ∧ Bytes w' A L := by
  obtain ⟨A, c, h1, h2, _⟩ := h
  exact ⟨A, c, h1, h2⟩
theorem Got.bel {w w' : World} {L : List Nat} {v : Value} (h : Got w w' L v) : Below w.heap.size w w' := by
  obtain ⟨_, _, _, _, _, _, _, _, h⟩ := h
  exact h
theorem Got.keep {w w' w2 : World} {L : List Nat} {v : Value} (h : Got w w' L v) (hb : Below w'.heap.size w' w2) : Got w w2 L v := by
  obtain ⟨A, c, h1, h2, h3, h4, h5, h6, h7⟩ := h
  exact ⟨A, c, h1, h2.below hb, h3, h4, h5, fun a ha => ⟨(h6 a ha).1, Nat.lt_of_lt_of_le (h6 a ha).2 hb.size⟩, h7.trans (hb.mono h7.size)⟩
theorem textOf_append (a b : List Nat) : textOf (a ++ b) = textOf a ++ textOf b := by
  apply ByteArray.ext
  rw [ByteArray.data_append]
  simp [textOf]
theorem WStep.below_new {w w1 w2 : World} {g r r' B : Nat} (h : WStep w1 w2 g r r') (hb : Below B w w1) (hg : B ≤ g) (hr : B ≤ r) (hB : B ≤ w.heap.size) : Below B w w2 :=
  hb.trans (h.1.below (Nat.le_trans hB hb.size) (fun k _ hk => by rcases hk with rfl | rfl <;> assumption))
theorem step_apart {w w' : World} {g r r' B : Nat} (st : WStep w w' g r r') (h : B ≤ r) (hB : B ≤ w.heap.size) : B ≤ r' := by
  rcases st.2 with rfl | h2
  · exact h
  · omega
set_option maxHeartbeats 400000 in
theorem awake_any (w : World) : Calls Try.prog 9 #[] w fun e w' => e = .returned (.bool true) ∧ Below w.heap.size w w' := by
  have hb0 : Below w.heap.size w (w.alloc (Obj.cells #[Value.slice none 0 0, Value.bool false] 57)) := (Below.refl _ _).alloc (Nat.le_refl _) _
  have HB0 := Lib.hid hb0
  have HC := Lib.hid (num_good w.heap.size w.heap.size (some []) 300 _ (ws_new w 57) (by omega) (by omega) (by decide))
  have HA := Lib.hid awake_bytes
  clear hb0
  go_enter Try.func9, Try.ntmps9
  go_wp2_with fail
  refine HC.out.mono ?_
  rintro e w2 ⟨rfl, r2, hw2, hs2⟩
  have HW2 := Lib.hid hw2
  have HS2 := Lib.hid hs2
  clear hw2 hs2
  go_wp2_with fail
  refine (text_any _ r2 _ ⟨#[97, 98]⟩ w2 HW2.out (by decide) (by have := room_wput (some []) (Pk.digits 300); have := Pk.digits_length_most (n := 300) (by decide); simp [room] at *; omega)).mono ?_
  rintro e w3 ⟨rfl, r3, hw3, hs3⟩
  have hw3' : WS w3 w.heap.size r3 (some [172, 2, 2, 97, 98]) := by rw [← HA.out]; exact hw3
  have HW3 := Lib.hid hw3'
  have HS3 := Lib.hid (HS2.out.trans hs3)
  clear hw3 hs3 hw3'
  go_wp2_with fail
  refine (bytes_ok _ r3 _ w3 HW3.out (by decide)).mono ?_
  rintro e w4 ⟨v, rfl, hg⟩
  obtain ⟨A, c, rfl, hby⟩ := hg.bytes
  obtain ⟨_, _, _, _, _, _, _, _, hbel⟩ := hg
  have HB4 := Lib.hid hbel
  have cv : (convert 25 9 (.slice A 5 c)).run Try.prog w4 = .ok (.string ⟨#[172, 2, 2, 97, 98]⟩) w4 := conv_text w4 A [172, 2, 2, 97, 98] c hby
  clear hby hbel
  go_wp2
  go_ret
  refine ⟨rfl, ?_⟩
  have h3 := HS3.out.below_new HB0.out (Nat.le_refl _) (Nat.le_refl _) (Nat.le_refl _)
  exact h3.trans (HB4.out.mono h3.size)
end Go.Proofs.Ythcmijppemochaa

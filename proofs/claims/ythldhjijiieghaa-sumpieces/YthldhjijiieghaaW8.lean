/-
  A slice of slices of bytes; the walk of SumPieces. Its conditions: none.
-/
import Derived.Test.YthldhjijiieghaaW7
import Derived.Test.YthldhjijiieghaaW4
import Derived.Laws.AppendOwnNone
namespace Go.Proofs.Ythldhjijiieghaa
open Go.RowKit Go.Sort

/-- A slice of n slices of bytes. -/
def Pieces (w : World) (A : Option Addr) (n : Nat) : Prop :=
  0 < n → ∃ b off, A = some ⟨b, off, none⟩ ∧ b < w.heap.size ∧ ∀ i, i < n → ∃ (a : Option Addr) (l : List Nat) (c : Nat), w.cell? ⟨b, off + i, none⟩ = some (.slice a l.length c) ∧ Bytes w a l ∧ (a = none → c = 0)
theorem Pieces.below {w w' : World} {A : Option Addr} {n : Nat} (h : Pieces w A n) (hb : Below w.heap.size w w') : Pieces w' A n := by
  intro hn
  obtain ⟨b, off, hA, hlt, hc⟩ := h hn
  refine ⟨b, off, hA, Nat.lt_of_lt_of_le hlt hb.size, fun i hi => ?_⟩
  obtain ⟨a, l, c, h1, h2, h3⟩ := hc i hi
  exact ⟨a, l, c, by rw [hb.cell (p := ⟨b, off + i, none⟩) hlt]; exact h1, h2.below hb, h3⟩

theorem owns_below {w w' : World} {base : Nat} {v : Value} {n : Nat} {xs : List Value} (h : w.ownsRow base 5 1 v n xs) (hb : Below w.heap.size w w') : w'.ownsRow base 5 1 v n xs := by
  obtain ⟨h1, h2⟩ := h
  refine ⟨h1, ?_⟩
  rcases h2 with h2 | ⟨g, cap, cur, e1, e2, e3, r⟩
  · exact .inl h2
  · refine .inr ⟨g, cap, cur, e1, e2, ?_, r⟩
    have hlt : g < w.heap.size := by
      obtain ⟨hlt, _⟩ := Array.getElem?_eq_some_iff.mp e3
      exact hlt
    rw [hb.block g hlt]
    exact e3
theorem owns_form {w : World} {base : Nat} {v : Value} {n : Nat} {xs : List Value} (h : w.ownsRow base 5 1 v n xs) : ∃ A c, v = .slice A n c := by
  rcases h.2 with ⟨rfl, rfl⟩ | ⟨g, cap, cur, rfl, _⟩
  · exact ⟨none, 0, rfl⟩
  · exact ⟨_, _, rfl⟩
theorem owns_block {w : World} {base : Nat} {v : Value} {n : Nat} {xs : List Value} (h : w.ownsRow base 5 1 v n xs) : ∀ k, v.ownBlock = some k → base ≤ k := by
  intro k hk
  rcases h.2 with ⟨rfl, rfl⟩ | ⟨g, cap, cur, rfl, hg, _⟩
  · simp [Value.ownBlock] at hk
  · simp [Value.ownBlock] at hk
    omega
theorem owns_bytes {w : World} {base : Nat} {A : Option Addr} {c : Nat} {l : List Nat} (h : w.ownsRow base 5 1 (.slice A l.length c) l.length (vals l)) (hl : ∀ x ∈ l, x < 256) (hm : l.length ≤ maxLen) : Bytes w A l := by
  refine ⟨hl, hm, fun hp => ?_⟩
  rcases h.2 with ⟨_, hz⟩ | ⟨g, cap, cur, hv, hg, hb, _, _, _, ht⟩
  · omega
  · injection hv with hA _ _
    subst hA
    have hlt : g < w.heap.size := by
      obtain ⟨hlt, _⟩ := Array.getElem?_eq_some_iff.mp hb
      exact hlt
    refine ⟨g, 0, rfl, hlt, fun k x hk => ?_⟩
    have hkl : k < l.length := (List.getElem?_eq_some_iff.mp hk).1
    have h2 : (cur.toList.take (l.length * 1))[k]? = some (.int .u8 (x : Int)) := by rw [ht, vals, List.getElem?_map, hk]; rfl
    rw [List.getElem?_take, if_pos (by omega), Array.getElem?_toList] at h2
    rw [Nat.zero_add]
    simp [World.cell?, hb, h2]
theorem vals_append (l m : List Nat) : vals (l ++ m) = vals l ++ vals m := by simp [vals]
theorem vals_length (l : List Nat) : (vals l).length = l.length := by simp [vals]
theorem owns_nil (w : World) (base : Nat) : w.ownsRow base 5 1 (.slice none 0 0) 0 [] := ⟨rfl, .inl ⟨rfl, rfl⟩⟩

theorem news_of {w : World} {ad : Addr} {l : List Nat} (h : Bytes w (some ad) l) : ∀ (j : Nat) (u : Value), (vals l)[j]? = some u → w.cell? (ad.add j) = some u := by
  intro j u hj
  have hl : j < l.length := by rw [← vals_length l]; exact (List.getElem?_eq_some_iff.mp hj).1
  obtain ⟨b, off, hA, _, _⟩ := h.2.2 (by omega)
  injection hA with hA
  subst hA
  exact news_of_bytes h (fun _ _ => rfl) j u hj
/-- S is the sum of the bytes L. -/
def SumIs (L : List Nat) (S : Nat) : Prop := Crc.more 0 L = S

set_option maxHeartbeats 1000000 in
theorem pieces_walk (A : Option Addr) (n cap : Nat) (w : World) (h : Pieces w A n) (hn : n ≤ maxLen) :
    Calls Try.prog 6 #[.slice A n cap] w fun e w' => e = .returned (.bool true) ∧ Below w.heap.size w w' := by
  obtain ⟨i, hi, hz0, hz1, hz2⟩ := info5p
  have HI := Lib.hid hi
  have HZ0 := Lib.hid hz0
  have HZ1 := Lib.hid hz1
  have HZ2 := Lib.hid hz2
  have H := Lib.hid h
  clear h hi hz0 hz1 hz2
  unfold maxLen at hn
  have C0 : Hid (∀ W, Calls Try.prog 9 #[.slice none 0 0] W fun e w' => e = .returned (.int .u32 (0 : Int)) ∧ Below W.heap.size W w') :=
    fun W => of_at [] 0 none 0 W rfl ⟨by simp, by simp, by simp⟩ 0 (Crc.more_nil 0)
  go_enter Try.func6, Try.ntmps6
  go_wp2_with (first
    | (go_at_call 8; refine (awake_any _).mono ?_; rintro e w0 ⟨rfl, hb⟩; have HB0 := Lib.hid hb; clear hb)
    | (go_at_call 9; refine (C0.out _).mono ?_; rintro e w1 ⟨rfl, hb⟩; have HB1 := Lib.hid hb; clear hb))
  have HB : Hid (Below w.heap.size w w1) := HB0.out.trans (HB1.out.mono HB0.out.size)
  have HP := Lib.hid (H.out.below HB.out)
  go_loopw [3, 4, 5] (fun s v i wr => ∃ (k S : Nat) (L : List Nat) (Av : Option Addr) (cv : Nat), k ≤ n ∧ i = .int .i64 k ∧ s = .int .u32 (S : Int) ∧ SumIs L S ∧ v = .slice Av L.length cv ∧
      wr.ownsRow w1.heap.size 5 1 (.slice Av L.length cv) L.length (vals L) ∧ (∀ x ∈ L, x < 256) ∧ L.length ≤ 200000 ∧ Below w1.heap.size w1 wr) (fun _ _ i _ => n - (intOf i).toNat)
  case atStart => exact ⟨0, 0, [], none, 0, Nat.zero_le _, rfl, rfl, Crc.more_nil 0, rfl, owns_nil _ _, by simp, by simp, Below.refl _ _⟩
  case round =>
    obtain ⟨k, S, L, Av, cv, hk, rfl, rfl, hS, rfl, hown, hL, hLn, hbel⟩ := hrel
    have HO := Lib.hid hown
    have HL := Lib.hid hL
    have HW := Lib.hid hbel
    clear hown hL hbel
    by_cases hlt : k < n ∧ L.length < 100000
    · obtain ⟨hkn, hLs⟩ := hlt
      have hLi : (L.length : Int) < 100000 := by omega
      have HLn := Lib.hid hLn
      have HLs := Lib.hid hLs
      clear hLn hLs
      obtain ⟨b, off, rfl, hbl, hce⟩ := (HP.out.below HW.out) (by omega)
      obtain ⟨a, l, c, hc1, hby, hac⟩ := hce k hkn
      have HBy := Lib.hid hby
      have HAC := Lib.hid hac
      clear hce hby hac
      by_cases hbig : 100000 < (l.length : Int)
      · go_wp2
        go_ret
        exact ⟨rfl, HB.out.trans (HW.out.mono HB.out.size)⟩
      · have lS : S < 4294967296 := by rw [← hS]; exact Crc.more_lt _ _ (by omega) HL.out
        obtain ⟨S', hS'⟩ : ∃ S', SumIs (L ++ l) S' := ⟨_, rfl⟩
        have HM := Lib.hid (more_at S l l.length a c wr rfl lS HBy.out S' (by rw [← hS, ← hS', Crc.more_append]))
        have HLL : Hid (∀ x ∈ L ++ l, x < 256) := fun x hx => by
          rcases List.mem_append.mp hx with hx | hx
          · exact HL.out x hx
          · exact HBy.out.1 x hx
        have hll : l.length ≤ 100000 := by omega
        have HLl := Lib.hid hll
        clear hll
        go_wp2_with fail
        refine HM.out.mono ?_
        rintro e w4 ⟨rfl, hb4⟩
        have B4 := Lib.hid hb4
        have hc4 : w4.cell? ⟨b, off + k, none⟩ = some (.slice a l.length c) := by rw [hb4.cell (p := ⟨b, off + k, none⟩) hbl]; exact hc1
        have HO4 := Lib.hid (owns_below HO.out hb4)
        have HY4 := Lib.hid (HBy.out.below hb4)
        have HW4 : Hid (Below w1.heap.size w1 w4) := HW.out.trans (hb4.mono HW.out.size)
        clear hb4 hc1
        cases a with
        | none =>
          have hl0 : l = [] := by
            cases l with
            | nil => rfl
            | cons x l => obtain ⟨_, _, hA, _⟩ := HY4.out.2.2 (by simp); simp at hA
          subst hl0
          have hc0 : c = 0 := HAC.out rfl
          subst hc0
          go_wp2_with (at_builtin; refine wpList_append_own_none rfl _ _ 22 rfl w1.heap.size 5 i 1 Try.underlying22 HI.out _ L.length (vals L) rfl HO4.out rfl ?_)
          go_roundw
          case rel => exact ⟨k + 1, S', L, Av, cv, by omega, by go_num, rfl, by rw [List.append_nil] at hS'; exact hS', rfl, HO4.out, HL.out, HLn.out, HW4.out⟩
          case measure => simp [intOf]; omega
        | some ad =>
          go_wp2_with (at_builtin; refine wpList_append_own _ rfl _ _ 22 rfl w1.heap.size 5 i (.int .u8 0) 1 1 Try.underlying22 HI.out HZ0.out HZ1.out HZ2.out rfl (by omega) _ L.length (vals L) rfl HO4.out ad l.length c (vals l) rfl ?hl ?hnews ?h1 ?h63 ?hby ?hbase ?_)
          case hl => rw [vals_length]; omega
          case hnews => exact news_of HY4.out
          case h1 =>
            intro u hu
            obtain ⟨c, _, rfl⟩ := List.mem_map.mp hu
            rfl
          case h63 => have := HLs.out; have := HLl.out; unfold maxLen; omega
          case hby => have := HLs.out; have := HLl.out; omega
          case hbase => exact Nat.le_trans HW.out.size B4.out.size
          intro v' w5 hown5 hgrow5 _
          have HW5 : Hid (Below w1.heap.size w1 w5) := HW4.out.grown hgrow5 (Nat.le_trans HW.out.size B4.out.size) (owns_block HO4.out)
          obtain ⟨A5, c5, hv5⟩ := owns_form hown5
          rw [hv5] at hown5
          rw [hv5]
          have HO5 : Hid (w5.ownsRow w1.heap.size 5 1 (.slice A5 (L ++ l).length c5) (L ++ l).length (vals (L ++ l))) := by rw [List.length_append, vals_append]; exact hown5
          have el : L.length + l.length = (L ++ l).length := by rw [List.length_append]
          rw [el]
          have HLN : Hid ((L ++ l).length ≤ 200000) := by have := HLs.out; have := HLl.out; rw [List.length_append]; show _ ≤ _; omega
          clear hown5 hgrow5 hv5 el
          go_wp2
          go_roundw
          case rel => exact ⟨k + 1, S', L ++ l, A5, c5, by omega, by go_num, rfl, hS', rfl, HO5.out, HLL.out, HLN.out, HW5.out⟩
          case measure => simp [intOf]; omega
    · have FB := Lib.hid (owns_bytes HO.out HL.out (by unfold maxLen; omega))
      have lS : S < 4294967296 := by rw [← hS]; exact Crc.more_lt _ _ (by omega) HL.out
      have lSi : (S : Int) < 4294967296 := by omega
      obtain ⟨X, hX⟩ : ∃ X, textOf L = X := ⟨_, rfl⟩
      have c0 : (convert 22 9 (.slice Av L.length cv)).run Try.prog wr = .ok (.string X) wr := by rw [← hX]; exact conv_text _ Av L cv FB.out
      have K1 := Lib.hid (of_at L L.length Av cv wr rfl FB.out S hS)
      have K2 : Hid (∀ W, Calls Try.prog 11 #[.int .u32 (S : Int), .slice none 0 0] W fun e w' => e = .returned (.int .u32 (S : Int)) ∧ Below W.heap.size W w') :=
        fun W => more_at S [] 0 none 0 W rfl lS ⟨by simp, by simp, by simp⟩ S (Crc.more_nil S)
      have K3 : Hid (∀ W, Below wr.heap.size wr W → (convert 22 9 (.slice Av L.length cv)).run Try.prog W = .ok (.string X) W) :=
        fun W hW => by rw [← hX]; exact conv_text _ Av L cv (FB.out.below hW)
      have hcs : ¬ (k : Int) < (n : Int) ∨ ((k : Int) < (n : Int) ∧ ¬ (L.length : Int) < 100000) := by omega
      have HLn := Lib.hid hLn
      have HS := Lib.hid hS
      clear hLn hX lS hlt hS
      rcases hcs with hk1 | ⟨hk1, hk2⟩
      all_goals
        go_wp2_with fail
        refine K1.out.mono ?_
        rintro e w5 ⟨rfl, hb5⟩
        have B5 := Lib.hid hb5
        clear hb5
        go_wp2_with fail
        refine (K2.out w5).mono ?_
        rintro e w6 ⟨rfl, hb6⟩
        have B6 := Lib.hid hb6
        have c6 := K3.out w6 (B5.out.trans (hb6.mono B5.out.size))
        clear hb6
        go_wp2
        go_ret
        have s1 := HB.out.size
        have s2 := HW.out.size
        have s3 := B5.out.size
        exact ⟨rfl, ((HB.out.trans (HW.out.mono s1)).trans (B5.out.mono (by omega))).trans (B6.out.mono (by omega))⟩
end Go.Proofs.Ythldhjijiieghaa

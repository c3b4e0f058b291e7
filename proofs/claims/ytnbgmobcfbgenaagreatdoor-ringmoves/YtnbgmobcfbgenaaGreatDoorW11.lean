/-
  The contract of Without. Its conditions: the ring lies in memory.
-/
import Derived.Test.YtnbgmobcfbgenaaGreatDoorLayD
import Derived.Test.YtnbgmobcfbgenaaGreatDoorW10
namespace Go.Proofs.YtnbgmobcfbgenaaGreatDoor
open Go.RowKit Go.Maps
open Go.Sort (grow putRow cell?_grow size_putRow cell?_putRow_other)

/-- The closure: is it that text? -/
theorem gives (x : ByteArray) (y : List UInt8) (B : Nat) (W : World) (hc : W.cell? ⟨B, 0, none⟩ = some (.string x)) :
    Go.Proofs.FnGives Tryz.prog 25 #[.pointer (some ⟨B, 0, none⟩)] #[encStr y] (.bool (decide (y = bs x))) W := by
  show Calls Tryz.prog 25 #[.string ⟨y.toArray⟩, .pointer (some ⟨B, 0, none⟩)] W _
  by_cases h : y = bs x
  · have he : (y == x.toList) = true := by rw [h, toList_data]; exact beq_self_eq_true _
    rw [decide_eq_true h]
    clear h
    go_enter Tryz.func25, Tryz.ntmps25
    go_wp2
    go_ret
    exact ⟨rfl, 0, rfl⟩
  · have he : (y == x.toList) = false := by rw [beq_eq_false_iff_ne, toList_data]; exact h
    rw [decide_eq_false h]
    clear h
    go_enter Tryz.func25, Tryz.ntmps25
    go_wp2
    go_ret
    exact ⟨rfl, 0, rfl⟩
theorem pred_at (x : ByteArray) (B : Nat) (w : World) (hB : B < w.heap.size) (hc : w.cell? ⟨B, 0, none⟩ = some (.string x)) :
    Go.Proofs.PredAt Tryz.prog 25 #[.pointer (some ⟨B, 0, none⟩)] encStr (fun y => decide (y = bs x)) w :=
  fun W y hb => gives x y B W ((hb.cell (p := ⟨B, 0, none⟩) hB).trans hc)
theorem pred_over (x : ByteArray) (B blk off size : Nat) (w : World) (hB : B < w.heap.size) (hne : B ≠ blk) (hc : w.cell? ⟨B, 0, none⟩ = some (.string x)) :
    Go.Proofs.PredOver Tryz.prog 25 #[.pointer (some ⟨B, 0, none⟩)] encStr (fun y => decide (y = bs x)) blk off size w :=
  fun n os dk y _ => gives x y B _ (by
    unfold Go.Proofs.sortWorld
    rw [cell?_grow _ _ _ (by show B < (putRow _ _ _ _ _).heap.size; rw [size_putRow]; exact hB), cell?_putRow_other _ _ blk off _ _ (Or.inl hne)]
    exact hc)
theorem enters_closure : ∀ args w, (callFunc 25 args).run Tryz.prog w = .ok (.enter 25 args) w := Go.Proofs.enters_of Tryz.func25 (by kernel_rfl) rfl
theorem filter_bs (S : List ByteArray) (x : ByteArray) : (S.map bs).filter (fun y => !decide (y = bs x)) = (dropN S x).map bs := by
  induction S with
  | nil => rfl
  | cons a r ih =>
    unfold dropN at ih ⊢
    by_cases e : a = x
    · subst e
      rw [List.map_cons, List.filter_cons_of_neg (by simp), List.filter_cons_of_neg (by simp), ih]
    · rw [List.map_cons, List.filter_cons_of_pos (by simp; exact fun h => e (bs_inj h)), List.filter_cons_of_pos (by simp [e]), ih, List.map_cons]
/-- slices.DeleteFunc at a row of the call's own: what is left begins the row. -/
theorem delete_any {w : World} {base B : Nat} {v : Value} {S : List ByteArray} (x : ByteArray) (h : RowT eKy 9 w base v S) (hB : B < base) (hbw : base ≤ w.heap.size) (hc : w.cell? ⟨B, 0, none⟩ = some (.string x)) (h8 : S.length ≤ 1000) (hs : 0 < S.length) :
    Calls Tryz.prog 24 #[v, .func (.func 25) #[] #[.pointer (some ⟨B, 0, none⟩)]] w fun r w' => ∃ A c, r = .returned (.slice A (dropN S x).length c) ∧ Sl eKy w' A (dropN S x) ∧ Fr [9] [] base w w' := by
  obtain ⟨h1, h2⟩ := h
  rcases h2 with ⟨_, hz⟩ | ⟨g, cap, cur, rfl, hb, hg, hle, hcm, hcs, htk⟩
  · have : S.length = 0 := hz
    omega
  rw [vals_ky] at htk
  have hlen : (S.map bs).length = S.length := by simp
  have htk2 : cur.toList.take (S.map bs).length = (S.map bs).map encStr := by
    rw [hlen]
    have := htk
    rwa [show S.length * eKy.wd = S.length from Nat.mul_one _] at this
  have hcon := Go.Proofs.AnyE.slices_DeleteFunc delS encStr (fun _ => rfl) (fun y => decide (y = bs x)) 25 #[.pointer (some ⟨B, 0, none⟩)] enters_closure [] Tryz.zeroValue9 g 0 cap (S.map bs).toArray w
    (pred_at x B w (by omega) hc) (pred_over x B g 0 _ w (by omega) (by omega) hc) (holds_of_block hg htk2) (by simp; omega) (by simp; omega)
  have hsz : (S.map bs).toArray.size = S.length := by simp
  have hfil : (S.map bs).toArray.toList.filter (fun y => !decide (y = bs x)) = (dropN S x).map bs := filter_bs S x
  rw [hfil, hsz] at hcon
  have hdl : (dropN S x).length ≤ S.length := List.length_filter_le _ _
  rw [List.length_map] at hcon
  have hcon' : Calls Tryz.prog 24 #[.slice (some ⟨g, 0, none⟩) S.length cap, .func (.func 25) #[] #[.pointer (some ⟨B, 0, none⟩)]] w fun e w' => e = .returned (.slice (some ⟨g, 0, none⟩) (dropN S x).length cap) ∧ ∃ q, w' = putRow encStr (Go.Sort.ahead w q) g 0 ((dropN S x).map bs ++ List.replicate (S.length - (dropN S x).length) []).toArray := hcon
  refine hcon'.mono ?_
  rintro r w' ⟨rfl, q, hw⟩
  have hts : ((dropN S x).map bs ++ List.replicate (S.length - (dropN S x).length) []).length = (S.map bs).length := by simp; omega
  have hgn : grow w' #[] = w' := by
    cases w'
    simp [grow]
  rw [← hgn, hw]
  have ho := ownsRow_sorted (n := q) (os := #[]) (ss := S.map bs) (ts := (dropN S x).map bs ++ List.replicate (S.length - (dropN S x).length) []) hts hb hg (by rw [hlen]; exact hle) hcm hcs
  rw [hlen] at ho
  obtain ⟨Z, hZ⟩ : ∃ Z : List ByteArray, Z = dropN S x ++ List.replicate (S.length - (dropN S x).length) ⟨#[]⟩ := ⟨_, rfl⟩
  have hZb : Z.map bs = (dropN S x).map bs ++ List.replicate (S.length - (dropN S x).length) [] := by
    rw [hZ, List.map_append, List.map_replicate]
    rfl
  have hZl : Z.length = S.length := by rw [hZ]; simp; omega
  have hrow : RowT eKy 9 (grow (putRow encStr (Go.Sort.ahead w q) g 0 ((dropN S x).map bs ++ List.replicate (S.length - (dropN S x).length) []).toArray) #[]) base (.slice (some ⟨g, 0, none⟩) S.length cap) Z := by
    unfold RowT
    rw [vals_ky, hZl, hZb]
    exact ho
  obtain ⟨A, c, e, sl, _⟩ := hrow.sl (by rw [hZl]; unfold maxLen; omega)
  injection e with e1 _ e3
  subst e1 e3
  have sl2 := sl.take (dropN S x).length
  rw [hZ, List.take_left'] at sl2
  · exact ⟨_, _, rfl, sl2, (Fr.refl _ _ _ _).grown (grownBy_sorted _) hg (.inl (by simp [kd])) hb⟩
  · rfl
theorem index_none (fv : Value) (w : World) : Calls Tryz.prog 34 #[.slice none 0 0, fv] w fun r w' => r = .returned (.int .i64 (-1)) ∧ w = w' := by
  go_enter Tryz.func34, Tryz.ntmps34
  go_wp2
  refine wp_loop_rounds 1 ?_
  rw [rounds_succ]
  go_wp2
  go_ret
  exact ⟨rfl, rfl⟩
theorem delete_none (fv : Value) (w : World) : Calls Tryz.prog 24 #[.slice none 0 0, fv] w fun r w' => r = .returned (.slice none 0 0) ∧ w = w' := by
  go_enter Tryz.func24, Tryz.ntmps24
  go_wp2_with fail
  refine (index_none fv w).mono ?_
  rintro r w1 ⟨rfl, rfl⟩
  go_wp2
  go_ret
  exact ⟨rfl, rfl⟩
/-- What is left of a row is made a ring. -/
theorem drop_new {w W : World} {S : List ByteArray} {A : Option Addr} {n c : Nat} (x : ByteArray) (hb : Below w.heap.size w W) (sl : Sl eKy W A (dropN S x)) (hn : (dropN S x).length = n) (hz : Sized S) :
    Calls Tryz.prog 7 #[.slice A n c] W (MPost w (withoutN S x)) :=
  (new_any _ A n c W sl hn (fun a ha => hz a (mem_dropN.mp ha).1)).mono fun _ _ ⟨g, hr, h1, h2⟩ => ⟨g, hr, h1.down hb.size, hb.trans (h2.mono hb.size)⟩
/-- slices.DeleteFunc at whatever row, then New. -/
theorem without_row {w w1 : World} {v : Value} {S : List ByteArray} (x : ByteArray) (hrow : RowT eKy 9 w1 (w.heap.size + 1) v S) (hb : Below w.heap.size w w1) (hbs : w.heap.size + 1 ≤ w1.heap.size) (hc : w1.cell? ⟨w.heap.size, 0, none⟩ = some (.string x)) (h8 : S.length ≤ 8) (hz : Sized S) :
    Calls Tryz.prog 24 #[v, .func (.func 25) #[] #[.pointer (some ⟨w.heap.size, 0, none⟩)]] w1 fun r W => ∃ A n c, r = .returned (.slice A n c) ∧ Calls Tryz.prog 7 #[.slice A n c] W (MPost w (withoutN S x)) := by
  by_cases hs : 0 < S.length
  · refine (delete_any x hrow (Nat.lt_succ_self _) hbs hc (by omega) hs).mono ?_
    rintro r W ⟨A, c, rfl, sl, f⟩
    exact ⟨A, _, c, rfl, drop_new x (hb.trans (f.below.mono (by omega))) sl rfl hz⟩
  · have hS : S = [] := List.eq_nil_of_length_eq_zero (by omega)
    subst hS
    rcases hrow.2 with ⟨rfl, _⟩ | ⟨g, cap, cur, rfl, hbb, hg, _⟩
    · refine (delete_none _ w1).mono ?_
      rintro r W ⟨rfl, rfl⟩
      exact ⟨none, 0, 0, rfl, drop_new x hb (sl_nil _) rfl hz⟩
    · have hh : Go.Sort.Holds encStr w1 g 0 (([] : List ByteArray).map bs).toArray := fun j hj => absurd hj (by simp)
      have hcon := Go.Proofs.AnyE.slices_DeleteFunc delS encStr (fun _ => rfl) (fun y => decide (y = bs x)) 25 #[.pointer (some ⟨w.heap.size, 0, none⟩)] enters_closure [] Tryz.zeroValue9 g 0 cap (([] : List ByteArray).map bs).toArray w1
        (pred_at x w.heap.size w1 (by omega) hc) (pred_over x w.heap.size g 0 _ w1 (by omega) (by omega) hc) hh (by simp) (by simp)
      have hcon' : Calls Tryz.prog 24 #[.slice (some ⟨g, 0, none⟩) 0 cap, .func (.func 25) #[] #[.pointer (some ⟨w.heap.size, 0, none⟩)]] w1 fun e w' => e = .returned (.slice (some ⟨g, 0, none⟩) 0 cap) ∧ ∃ q, w' = putRow encStr (Go.Sort.ahead w1 q) g 0 #[] := hcon
      refine hcon'.mono ?_
      rintro r W ⟨rfl, q, hW⟩
      have hgn : grow W #[] = W := by
        cases W
        simp [grow]
      have hG : w1.grownBy W (some g) := by
        rw [← hgn, hW]
        exact grownBy_sorted _
      have f : Fr [9] [] (w.heap.size + 1) w1 W := (Fr.refl _ _ _ _).grown hG hg (.inl (by simp [kd])) hbb
      exact ⟨_, 0, cap, rfl, drop_new x (hb.trans (f.below.mono (by omega))) (sl_nil _) rfl hz⟩
set_option maxHeartbeats 2000000 in
theorem without_any (base g : Nat) (S : List ByteArray) (x : ByteArray) (w : World) (h : RingAt w base g S) :
    Calls Tryz.prog 12 #[.pointer (some ⟨g, 0, none⟩), .string x] w (MPost w (withoutN S x)) := by
  have hmf : ∀ (fn : Fn) (first cap : Array Value) (w : World), (Instr.makeFunc fn first cap).run Tryz.prog w = .ok (.func fn first cap) w := fun _ _ _ _ => rfl
  have b0 : Below w.heap.size w (w.alloc (.cells #[.string x] 9)) := (Below.refl _ _).alloc (Nat.le_refl _) _
  have hc0 : (w.alloc (.cells #[.string x] 9)).heap[w.heap.size]? = some (.cells #[.string x] 9 (0, 0)) := heap_new _ _
  have C := Lib.hid (nodes_any base g S _ (h.below b0))
  have H := Lib.hid h
  have HB0 := Lib.hid b0
  have HC0 := Lib.hid hc0
  clear h b0 hc0
  go_enter Tryz.func12, Tryz.ntmps12
  go_wp2_with fail
  refine C.out.mono ?_
  rintro r w1 ⟨v, rfl, hrow, hb⟩
  have hsz : (w.alloc (.cells #[.string x] 9)).heap.size = w.heap.size + 1 := World.size_alloc _ _
  rw [hsz] at hrow
  have hb1 : w1.heap[w.heap.size]? = some (.cells #[.string x] 9 (0, 0)) := (hb.block _ (by omega)).trans HC0.out
  have hbs := hb.size
  rw [hsz] at hbs
  have CW := Lib.hid (without_row x hrow (HB0.out.trans (hb.mono (by omega))) hbs (by rw [cell_of hb1]; rfl) H.out.len H.out.sz)
  obtain ⟨A1, m1, c1, e1⟩ : ∃ A1 m1 c1, v = .slice A1 m1 c1 := by
    obtain ⟨A1, c1, e1, _⟩ := hrow.form
    exact ⟨_, _, _, e1⟩
  subst e1
  clear hrow hb hsz hb1 hbs C
  go_wp2_with fail
  refine CW.out.mono ?_
  rintro r w2 ⟨A, n, c, rfl, hn⟩
  have CN := Lib.hid hn
  clear hn CW
  go_wp2_with fail
  refine CN.out.mono ?_
  rintro r w3 ⟨g2, rfl, h1, h2⟩
  have H1 := Lib.hid h1
  have H2 := Lib.hid h2
  clear h1 h2 CN
  go_wp2
  go_ret
  exact ⟨g2, rfl, H1.out, H2.out⟩
set_option maxHeartbeats 2000000 in
theorem without_nil (x : ByteArray) (w : World) :
    Calls Tryz.prog 12 #[.pointer none, .string x] w (MPost w (withoutN [] x)) := by
  have hmf : ∀ (fn : Fn) (first cap : Array Value) (w : World), (Instr.makeFunc fn first cap).run Tryz.prog w = .ok (.func fn first cap) w := fun _ _ _ _ => rfl
  have b0 : Below w.heap.size w (w.alloc (.cells #[.string x] 9)) := (Below.refl _ _).alloc (Nat.le_refl _) _
  have CN := Lib.hid (drop_new (S := []) (A := none) (n := 0) (c := 0) x b0 (sl_nil _) rfl (by intro a ha; cases ha))
  clear b0
  go_enter Tryz.func12, Tryz.ntmps12
  go_wp2_with fail
  refine (nodes_nil _).mono ?_
  rintro r w1 ⟨rfl, rfl⟩
  go_wp2_with fail
  refine (delete_none _ _).mono ?_
  rintro r w2 ⟨rfl, rfl⟩
  go_wp2_with fail
  refine CN.out.mono ?_
  rintro r w3 ⟨g2, rfl, h1, h2⟩
  have H1 := Lib.hid h1
  have H2 := Lib.hid h2
  clear h1 h2 CN
  go_wp2
  go_ret
  exact ⟨g2, rfl, H1.out, H2.out⟩
end Go.Proofs.YtnbgmobcfbgenaaGreatDoor

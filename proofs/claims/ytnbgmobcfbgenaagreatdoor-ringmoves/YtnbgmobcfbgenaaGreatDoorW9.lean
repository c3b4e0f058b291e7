/-
  The contracts of Owners and Owner. Their conditions: the ring lies in memory.
-/
import Derived.Test.YtnbgmobcfbgenaaGreatDoorW8
namespace Go.Proofs.YtnbgmobcfbgenaaGreatDoor
open Go.RowKit Go.Maps
open Go.Sort (grow)

/-- The points' nodes from H on. -/
def nod (S : List ByteArray) (H : Nat) : List ByteArray := (rot (cnt H (laidP S)) (laidP S)).map (·.n)
theorem nod_ord (S : List ByteArray) (H : Nat) : firsts (nod S H) = ordS S H := rfl
theorem nod_length {S : List ByteArray} {H : Nat} (hs : Splits H (laidP S) (cnt H (laidP S))) : (nod S H).length = (laidP S).length := by
  unfold nod
  rw [List.length_map, rot_length hs.le]
theorem nod_get {S : List ByteArray} {H : Nat} (hs : Splits H (laidP S) (cnt H (laidP S))) {k : Nat} (hk : k < (laidP S).length) (hq : (cnt H (laidP S) + k) % (laidP S).length < (laidP S).length) :
    (laidP S)[(cnt H (laidP S) + k) % (laidP S).length].n = (nod S H)[k]'(by rw [nod_length hs]; exact hk) := by
  have h := rot_get hs.le hk
  have e : (nod S H)[k]? = some ((laidP S)[(cnt H (laidP S) + k) % (laidP S).length].n) := by
    unfold nod
    rw [List.getElem?_map, h, List.getElem?_eq_getElem hq]
    rfl
  rw [List.getElem?_eq_getElem (by rw [nod_length hs]; exact hk)] at e
  injection e with e
  exact e.symm
theorem nod_len {S : List ByteArray} {H : Nat} (hH : H < 18446744073709551616) (hn : S.Nodup) (k : Nat) : (firsts ((nod S H).take k)).length ≤ S.length := by
  obtain ⟨r, hr⟩ := firsts_prefix (nod S H) k
  have h1 : (firsts (nod S H)).length = S.length := ordS_length hH hn
  rw [hr, List.length_append] at h1
  omega
/-- Owners under way. -/
structure OwI (w2 : World) (S : List ByteArray) (H : Nat) (n : Int) (k : Nat) (v : Value) (wr : World) : Prop where
  row : RowT eKy 9 wr w2.heap.size v (firsts ((nod S H).take k))
  bel : Below w2.heap.size w2 wr
  few : ((firsts ((nod S H).take k)).length : Int) ≤ max n 0
theorem OwI.add {w2 wr : World} {S : List ByteArray} {H : Nat} {n : Int} {k : Nat} {v : Value} (h : OwI w2 S H n k v wr) {x : ByteArray} (hx : firsts ((nod S H).take (k + 1)) = firsts ((nod S H).take k) ++ [x]) (h8 : (firsts ((nod S H).take k)).length ≤ 8) (hf : ((firsts ((nod S H).take k)).length : Int) < n) :
    ∃ v' W', (Builtin.append_ #[22, 22] 22 #[v, .slice (some ⟨wr.heap.size, 0, none⟩) 1 1]).run Tryz.prog (wr.alloc (.cells #[.string x] 9)) = .ok v' W' ∧ OwI w2 S H n (k + 1) v' W' := by
  have b3 : Below wr.heap.size wr (wr.alloc (.cells #[.string x] 9)) := (Below.refl _ _).alloc (Nat.le_refl _) _
  have hbs := h.bel.size
  have row3 := h.row.below b3
  obtain ⟨v', W', hrun, ho', hg'⟩ := row3.app elS (Nat.le_trans hbs b3.size) (sl_one (E := eKy) wr x 9) (n := 1) (c := 1) rfl (by simp) (by omega)
  have F1 := Fr.own row3 hg' (Nat.le_trans hbs b3.size)
  refine ⟨v', W', hrun, by rw [hx]; exact ho', (h.bel.trans (b3.mono hbs)).trans F1.below, ?_⟩
  rw [hx, List.length_append]
  simp
  omega
set_option maxRecDepth 100000 in
set_option maxHeartbeats 8000000 in
theorem owners_any (base g : Nat) (S : List ByteArray) (key : ByteArray) (n : Int) (w : World) (h : RingAt w base g S) (hbs : base ≤ w.heap.size) (hk : key.size ≤ maxLen) :
    Calls Tryz.prog 10 #[.pointer (some ⟨g, 0, none⟩), .string key, .int .i64 n] w fun r w' => ∃ v, r = .returned v ∧ RowT eKy 9 w' base v ((ordS S (hsh key)).take n.toNat) ∧ RingAt w' base g S ∧ Fr [] [g] base w w' := by
  have C1 := Lib.hid (laid_any base g S w h hbs)
  have CH := Lib.hid (fun W => hash_any key W hk)
  have HHL := Lib.hid (hsh_lt key)
  have H8 := Lib.hid h.len
  have HND := Lib.hid h.rs.nodup
  have HBS := Lib.hid hbs
  generalize hsh key = H at CH HHL ⊢
  clear h hbs hk
  go_enter Tryz.func10, Tryz.ntmps10
  go_wp2_with fail
  refine C1.out.mono ?_
  rintro r w1 ⟨p, rfl, hrow, hring, hfr⟩
  have hpl : (laidP S).length ≤ 128 := by rw [laidP_length]; have := H8.out; omega
  obtain ⟨A, c, rfl, sl, x1, x2, x3⟩ := hrow.sl (by unfold maxLen; omega)
  obtain ⟨np, hnp⟩ : ∃ np, np = (laidP S).length := ⟨_, rfl⟩
  rw [← hnp] at hpl ⊢
  have CF := Lib.hid (first_any (laidP S) A np c H w1 sl hnp.symm (laidP_sorted S) (by omega))
  have HNP := Lib.hid hnp
  have HPL := Lib.hid hpl
  have HSL := Lib.hid sl
  have HRG := Lib.hid hring
  have HFR := Lib.hid hfr
  have hnI : (np : Int) ≤ 128 := by omega
  clear hrow hring hfr hpl sl x1 x2 x3 hnp C1
  go_wp2_with fail
  refine (CH.out _).mono ?_
  rintro r wh ⟨rfl, rfl⟩
  go_wp2_with fail
  refine CF.out.mono ?_
  rintro r w2 ⟨rfl, hsp, hb2⟩
  have HSP := Lib.hid hsp
  have HB2 := Lib.hid hb2
  obtain ⟨f, hf⟩ : ∃ f, f = cnt H (laidP S) := ⟨_, rfl⟩
  have hfn : (f : Int) ≤ (np : Int) := by rw [hf]; have := hsp.le; have := HNP.out; omega
  rw [← hf]
  have HF := Lib.hid hf
  clear hsp hb2 hf CF
  go_wp2
  go_loopw [9, 20] (fun s9 s20 wr => ∃ k : Nat, k ≤ np ∧ s20 = .int .i64 (k : Int) ∧ OwI w2 S H n k s9 wr) (fun _ i _ => np - (intOf i).toNat)
  case atStart => exact ⟨0, Nat.zero_le _, rfl, RowT.nil _, Below.refl _ _, by simp [firsts]; omega⟩
  case round =>
    obtain ⟨k, hkn, rfl, hi⟩ := hrel
    have HI := Lib.hid hi
    have hm8 := nod_len HHL.out HND.out k
    obtain ⟨A', c', hv, hform⟩ := hi.row.form
    have HV := Lib.hid hv
    have HDONE : Hid (∀ v, OwI w2 S H n k v wr → firsts ((nod S H).take k) = (ordS S H).take n.toNat → RowT eKy 9 wr base v ((ordS S H).take n.toNat) ∧ RingAt wr base g S ∧ Fr [] [g] base w wr) := by
      intro v hi he
      have b12 := HB2.out.trans (hi.bel.mono HB2.out.size)
      have hs1 : base ≤ w1.heap.size := Nat.le_trans HBS.out HFR.out.size
      refine ⟨?_, HRG.out.below b12, HFR.out.trans (Fr.of_below b12 hs1)⟩
      rw [← he]
      exact hi.row.down (Nat.le_trans hs1 HB2.out.size)
    obtain ⟨m, hm⟩ : ∃ m, m = (firsts ((nod S H).take k)).length := ⟨_, rfl⟩
    rw [← hm] at hv hm8
    have HM := Lib.hid hm
    have HM8 : Hid (m ≤ 8) := by show _ ≤ _; have := H8.out; omega
    subst hv
    clear hi hform hm hm8
    by_cases hlt : k < np
    · by_cases hmn : (m : Int) ≥ n
      · have HE := Lib.hid (firsts_enough (l := nod S H) (k := k) (by rw [← HM.out]; exact hmn) HI.out.few)
        have hlti : (k : Int) < (np : Int) := by omega
        clear hlt hkn
        go_wp2
        go_ret
        exact ⟨_, rfl, HDONE.out _ HI.out HE.out⟩
      · have hlti : (k : Int) < (np : Int) := by omega
        have hk0 : (0 : Int) ≤ (k : Int) := by omega
        have HK : Hid (k + 1 ≤ np) := hlt
        have HMN := Lib.hid hmn
        have hkl : k < (laidP S).length := by rw [← HNP.out]; exact hlt
        have hql : (cnt H (laidP S) + k) % (laidP S).length < (laidP S).length := Nat.mod_lt _ (by omega)
        have hget := nod_get HSP.out hkl hql
        have hkd : k < (nod S H).length := by rw [nod_length HSP.out]; exact hkl
        obtain ⟨b, off, rfl, _, d0, d1⟩ := at_pt (HSL.out.below (Nat.le_refl _) (HB2.out.trans (HI.out.bel.mono HB2.out.size))) hql
        rw [hget] at d1
        have HT := Lib.hid (firsts_take hkd)
        generalize (nod S H)[k] = x at d1 HT
        clear d0
        rw [← HNP.out, ← HF.out] at d1 hql
        obtain ⟨q, hq⟩ : ∃ q, q = (f + k) % np := ⟨_, rfl⟩
        rw [← hq] at d1 hql
        have hqn : (q : Int) < (np : Int) := by omega
        have hq0 : (0 : Int) ≤ (q : Int) := by omega
        have hqi : ((f : Int) + (k : Int)) % (np : Int) = (q : Int) := by rw [hq, Int.natCast_emod, Int.natCast_add]
        have hqt : ((f : Int) + (k : Int)).tmod (np : Int) = (q : Int) := by rw [Int.tmod_eq_emod_of_nonneg (by omega)]; exact hqi
        have hnz : ¬ (np : Int) = 0 := by omega
        have hnz2 : ((np : Int) == 0) = false := by rw [beq_eq_false_iff_ne]; omega
        have hw1 : wrap64 ((f : Int) + (k : Int)) = (f : Int) + (k : Int) := by unfold wrap64; omega
        obtain ⟨A2, c2, e2, sl2, _⟩ := HI.out.row.sl (by unfold maxLen; have := HM.out; have := HM8.out; omega)
        have e3 : A2 = A' ∧ c2 = c' := by
          rw [← HM.out] at e2
          cases e2
          exact ⟨rfl, rfl⟩
        obtain ⟨rfl, rfl⟩ := e3
        have CC := Lib.hid (contains_any _ A2 m c2 x wr sl2 HM.out.symm)
        clear hlt hkn hkl hql hget hkd hq e2 sl2
        obtain ⟨bx, hbx⟩ : ∃ bx, bx = decide (x ∈ firsts ((nod S H).take k)) := ⟨_, rfl⟩
        rw [← hbx] at CC
        have HBX := Lib.hid hbx
        clear hbx
        go_wp2_with fail
        refine CC.out.mono ?_
        rintro r w3 ⟨rfl, rfl⟩
        clear d1 hqi hqt hw1 hnz hnz2 CC
        by_cases hx : x ∈ firsts ((nod S H).take k)
        · have hbt : bx = true := by rw [HBX.out, decide_eq_true hx]
          subst hbt
          have HX : Hid (firsts ((nod S H).take (k + 1)) = firsts ((nod S H).take k)) := by
            show _ = _
            rw [HT.out]
            unfold fst1
            rw [if_pos hx]
          clear hx
          go_wp2
          go_roundw
          case rel => exact ⟨k + 1, HK.out, by go_num, by have h := HI.out; exact ⟨by rw [HX.out]; exact h.row, h.bel, by rw [HX.out]; exact h.few⟩⟩
          case measure => simp [intOf]; omega
        · have hbt : bx = false := by rw [HBX.out, decide_eq_false hx]
          subst hbt
          have HX : Hid (firsts ((nod S H).take (k + 1)) = firsts ((nod S H).take k) ++ [x]) := by
            show _ = _
            rw [HT.out]
            unfold fst1
            rw [if_neg hx]
          clear hx
          obtain ⟨v', W', hrun, hi'⟩ := HI.out.add HX.out (by rw [← HM.out]; exact HM8.out) (by rw [← HM.out]; have := HMN.out; omega)
          obtain ⟨A3, m3, c3, e4⟩ : ∃ A3 m3 c3, v' = .slice A3 m3 c3 := by
            obtain ⟨A3, c3, e4, _⟩ := hi'.row.form
            exact ⟨_, _, _, e4⟩
          subst e4
          have HI' := Lib.hid hi'
          have R1 := Lib.hid hrun
          clear hrun hi'
          go_wp2_with (at_builtin; refine wpList_append_run rfl _ _ 22 22 rfl _ _ rfl rfl _ W' R1.out ?_)
          go_roundw
          case rel => exact ⟨k + 1, HK.out, by go_num, HI'.out⟩
          case measure => simp [intOf]; omega
    · have hlti : ¬ (k : Int) < (np : Int) := by omega
      have HE : Hid (firsts ((nod S H).take k) = (ordS S H).take n.toNat) := by
        show _ = _
        have hall : (nod S H).take k = nod S H := List.take_of_length_le (by rw [nod_length HSP.out, ← HNP.out]; omega)
        have h := HI.out.few
        rw [hall] at h ⊢
        exact firsts_all h
      clear hlt hkn
      go_wp2
      go_ret
      exact ⟨_, rfl, HDONE.out _ HI.out HE.out⟩
end Go.Proofs.YtnbgmobcfbgenaaGreatDoor

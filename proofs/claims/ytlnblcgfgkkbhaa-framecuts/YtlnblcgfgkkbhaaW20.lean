/-
  The walk of FrameCuts. Its conditions: none.
-/
import Derived.Test.YtlnblcgfgkkbhaaW19
namespace Go.Proofs.Ytlnblcgfgkkbhaa
open Go.RowKit Go.Sort

/-- Where each of the frames ends. -/
def Fr.ends (K : List (List Nat)) : List Int := (List.range K.length).map fun j => ((Fr.flat (K.take (j + 1))).length : Int)
theorem Fr.ends_length (K : List (List Nat)) : (Fr.ends K).length = K.length := by simp [Fr.ends]
theorem Fr.ends_snoc (K : List (List Nat)) (p : List Nat) : Fr.ends (K ++ [p]) = Fr.ends K ++ [((Fr.flat (K ++ [p])).length : Int)] := by
  unfold Fr.ends
  rw [List.length_append, List.length_singleton, List.range_succ, List.map_append, List.map_singleton]
  congr 1
  · apply List.map_congr_left
    intro j hj
    have := List.mem_range.mp hj
    rw [List.take_append_of_le_length (by omega)]
  · rw [List.take_of_length_le (by simp)]
theorem Fr.ends_get (K : List (List Nat)) {j : Nat} (h : j < K.length) : (Fr.ends K)[j]? = some ((Fr.flat (K.take (j + 1))).length : Int) := by
  unfold Fr.ends
  rw [List.getElem?_map, List.getElem?_range h]
  rfl
theorem Fr.flat_oct {K : List (List Nat)} (h : ∀ p ∈ K, Fr.Oct p) : Fr.Oct (Fr.flat K) := by
  induction K with
  | nil => intro c hc; simp [Fr.flat] at hc
  | cons p K ih =>
    rw [Fr.flat_cons]
    intro c hc
    rcases List.mem_append.mp hc with hc | hc
    · exact Fr.frame_oct p (h p (by simp)) c hc
    · exact ih (fun q hq => h q (by simp [hq])) c hc
/-- Frames one behind the other, cut off at k: the first j are whole. -/
theorem Fr.cut_at {K : List (List Nat)} {j k : Nat} (hg : ∀ p ∈ K, Fr.Good p) (ho : ∀ p ∈ K, Fr.Oct p) (hj : j ≤ K.length) (h1 : (Fr.flat (K.take j)).length ≤ k) (h2 : j = K.length ∨ k < (Fr.flat (K.take (j + 1))).length) :
    Fr.CutIs ((Fr.flat K).take k) (K.take j) (Fr.flat (K.take j)).length := by
  have e0 : Fr.flat K = Fr.flat (K.take j) ++ Fr.flat (K.drop j) := by rw [← Fr.flat_append, List.take_append_drop]
  have e1 : (Fr.flat K).take k = Fr.flat (K.take j) ++ (Fr.flat (K.drop j)).take (k - (Fr.flat (K.take j)).length) := by
    rw [e0, List.take_append, List.take_of_length_le h1]
  rw [e1]
  refine Fr.CutIs.mk' (fun p hp => hg p (List.mem_of_mem_take hp)) ?_
  by_cases hlt : j < K.length
  · rcases h2 with h2 | h2
    · omega
    · rw [List.drop_eq_getElem_cons hlt, Fr.flat_cons]
      rw [List.take_succ_eq_append_getElem hlt, Fr.flat_snoc, List.length_append] at h2
      rw [List.take_append_of_le_length (by omega)]
      exact Fr.first_part (hg _ (List.getElem_mem hlt)) (ho _ (List.getElem_mem hlt)) (by omega)
  · rw [List.drop_of_length_le (by omega)]
    exact Fr.first_short (by simp [Fr.flat])
theorem Fr.flat_short {K : List (List Nat)} (h : ∀ p ∈ K, p.length ≤ 5000) : (Fr.flat K).length ≤ 5008 * K.length := by
  induction K with
  | nil => simp [Fr.flat]
  | cons p K ih =>
    have h1 := h p (by simp)
    have h2 := ih (fun q hq => h q (by simp [hq]))
    rw [Fr.flat_cons, List.length_append, Fr.frame_length, List.length_cons]
    omega
/-- What is kept: payloads that have frames, none of them long. -/
def Kept (K : List (List Nat)) : Prop := ∀ p ∈ K, Fr.Good p ∧ p.length ≤ 5000 ∧ Fr.Oct p
def CutsRel (w1 : World) (n : Nat) (va ve vk i : Value) (wr : World) : Prop :=
  ∃ (K : List (List Nat)) (xs : List Value) (j : Nat) (Aa Ae Ak : Option Addr) (ma mk ca ce ck : Nat), i = .int .i64 (j : Int) ∧ j ≤ n ∧ j ≤ 50 ∧ mk ≤ j ∧ K.length = mk ∧ Kept K ∧ va = .slice Aa ma ca ∧ (Fr.flat K).length = ma ∧
    ve = .slice Ae mk ce ∧ vk = .slice Ak mk ck ∧ xs.length = mk ∧ Elems w1 xs K ∧ Trio w1 wr (Fr.flat K) (Fr.ends K) xs (.slice Aa ma ca) (.slice Ae mk ce) (.slice Ak mk ck)
theorem Parts.take {w : World} {A : Option Addr} {ps : List (List Nat)} (h : Parts w A ps) (t : Nat) : Parts w A (ps.take t) := by
  intro hp
  rw [List.length_take] at hp
  obtain ⟨b, off, h1, h2, h3⟩ := h (by omega)
  refine ⟨b, off, h1, h2, fun k p hk => h3 k p ?_⟩
  rw [List.getElem?_take] at hk
  split at hk
  · exact hk
  · simp at hk
theorem Trio.parts {w0 w : World} {LA : List Nat} {LE : List Int} {xs : List Value} {va ve : Value} {Ak : Option Addr} {mk ck : Nat} {K : List (List Nat)} (h : Trio w0 w LA LE xs va ve (.slice Ak mk ck)) (hx : xs.length = K.length) (he : Elems w0 xs K) : Parts w Ak K := by
  intro hp
  rcases h.rowK.2 with ⟨_, hz⟩ | ⟨g, cap, cur, hv, _, hb, _⟩
  · omega
  · injection hv with hA _ _
    subst hA
    refine ⟨g, 0, rfl, (Array.getElem?_eq_some_iff.mp hb).1, fun k p hk => ?_⟩
    obtain ⟨a, c, e1, e2, e3⟩ := he k p hk
    have := h.rowK.cells (g := g) rfl k _ e1
    rw [addr_add] at this
    exact ⟨a, c, this, e2.below h.bel, e3⟩
theorem Trio.ends_at {w0 w : World} {LA : List Nat} {xs : List Value} {va vk : Value} {Ae : Option Addr} {mk ce : Nat} {K : List (List Nat)} (h : Trio w0 w LA (Fr.ends K) xs va (.slice Ae mk ce) vk) {t : Nat} (ht : t < K.length) :
    ∃ ge, Ae = some ⟨ge, 0, none⟩ ∧ w.cell? ⟨ge, t, none⟩ = some (.int .i64 ((Fr.flat (K.take (t + 1))).length : Int)) := by
  rcases h.rowE.2 with ⟨_, hz⟩ | ⟨g, cap, cur, hv, _, hb, _⟩
  · rw [Fr.ends_length] at hz
    omega
  · injection hv with hA _ _
    subst hA
    refine ⟨g, rfl, ?_⟩
    have := h.rowE.cells (g := g) rfl t (.int .i64 ((Fr.flat (K.take (t + 1))).length : Int)) (by unfold iVals; rw [List.getElem?_map, Fr.ends_get K ht]; rfl)
    rw [addr_add, Nat.zero_add] at this
    exact this
set_option maxHeartbeats 4000000 in
theorem cuts_walk (ls : List (List Nat)) (A : Option Addr) (n c : Nat) (z : Int) (w : World) (h : Parts w A ls) (hn : ls.length = n) :
    Calls Try.prog 5 #[.slice A n c, .int .i64 z] w fun e w' => e = .returned (.bool true) ∧ Below w.heap.size w w' := by
  have H := Lib.hid h
  have HN := Lib.hid hn
  clear h hn
  go_enter Try.func5, Try.ntmps5
  go_wp2_with fail
  refine (awake_any w).mono ?_
  rintro e w1 ⟨rfl, b1⟩
  have B1 := Lib.hid b1
  have HP1 := Lib.hid (H.out.below b1)
  have HT0 := Lib.hid (trio_empty w1)
  clear b1
  go_wp2
  go_loopw [5, 6, 7, 8] (CutsRel w1 n) (fun _ _ _ i _ => n - (intOf i).toNat)
  case atStart => exact ⟨[], [], 0, _, _, _, 0, 0, 0, 0, 0, rfl, Nat.zero_le _, by omega, Nat.le_refl _, rfl, by simp [Kept], rfl, rfl, rfl, rfl, rfl, by simp [Elems], HT0.out⟩
  case round =>
    obtain ⟨K, xs, j, Aa, Ae, Ak, ma, mk, ca, ce, ck, rfl, hjn, hj50, hmk, hKl, hKept, rfl, hma, rfl, rfl, hxs, hel, htr⟩ := hrel
    have HKL := Lib.hid hKl
    have HK := Lib.hid hKept
    have HMA := Lib.hid hma
    have HXS := Lib.hid hxs
    have HEL := Lib.hid hel
    have HT := Lib.hid htr
    have HJ50 := Lib.hid hj50
    have HMK := Lib.hid hmk
    clear hKl hKept hma hxs hel htr hj50 hmk
    by_cases hgo : j < n ∧ j < 50
    · obtain ⟨hg1, hg2⟩ := hgo
      have i1 : (j : Int) < (n : Int) := by omega
      have i2 : (j : Int) < 50 := by omega
      have hjl : j < ls.length := by have := HN.out; omega
      obtain ⟨rb, ro, ra, rc, rn, rfl, hrb, hrn, hcell1, hy1, hra⟩ := HP1.out.at_ hjl
      have hcell : wr.cell? ⟨rb, ro + j, none⟩ = some (.slice ra rn rc) := by
        rw [HT.out.bel.cell (p := ⟨rb, ro + j, none⟩) hrb]
        exact hcell1
      obtain ⟨q, hq⟩ : ∃ q, ls[j] = q := ⟨_, rfl⟩
      rw [hq] at hrn hy1
      have HY1 := Lib.hid hy1
      have HRN := Lib.hid hrn
      have HRA := Lib.hid hra
      have HC1 := Lib.hid hcell1
      have HRB := Lib.hid hrb
      clear hrn hy1 hra hcell1 hrb hq
      by_cases hlong : 5000 < (rn : Int)
      · have BW : Hid (Below w.heap.size w wr) := B1.out.trans (HT.out.bel.mono B1.out.size)
        go_wp2
        go_ret
        exact ⟨rfl, BW.out⟩
      · have HS := Lib.hid (seal_any q ra rn rc wr (HY1.out.below HT.out.bel) HRN.out.symm HRA.out)
        go_wp2_with fail
        refine HS.out.mono ?_
        rintro e w3 ⟨As, ns, er, Ls, rfl, hls, ys, bs, sa, hs⟩
        have HT3 := HT.out.keep bs
        rcases hs with ⟨hg, rfl, rfl⟩ | ⟨hg, rfl, rfl⟩
        · obtain ⟨sb, so, rfl, _, _⟩ := ys.2.2 (by rw [Fr.frame_length]; omega)
          have hql : q.length ≤ 5000 := by have := HRN.out; omega
          have hbig : (Fr.flat K).length + (Fr.frame q).length ≤ 1000000 := by
            have h1 := Fr.flat_short (fun p hp => (HK.out p hp).2.1)
            rw [HKL.out] at h1
            rw [Fr.frame_length]
            have := HMK.out
            omega
          obtain ⟨v4, w4, hr4, t4⟩ := HT3.a ns ys hbig 22
          obtain ⟨A4, c4, rfl⟩ := owns_form t4.rowA
          rw [hls] at hr4
          rw [← Fr.flat_snoc] at hr4 t4
          obtain ⟨m4, hm4⟩ : ∃ m4, (Fr.flat (K ++ [q])).length = m4 := ⟨_, rfl⟩
          rw [hm4] at hr4 t4
          obtain ⟨v5, w5, hr5, t5⟩ := t4.e (m4 : Int) (by rw [Fr.ends_length, HKL.out]; have := HMK.out; omega) 39
          obtain ⟨A5, c5, rfl⟩ := owns_form t5.rowE
          have he5 : Fr.ends K ++ [(m4 : Int)] = Fr.ends (K ++ [q]) := by rw [Fr.ends_snoc, hm4]
          have hk1 : (K ++ [q]).length = mk + 1 := by rw [List.length_append, HKL.out]; rfl
          rw [he5, Fr.ends_length, hk1] at hr5 t5
          obtain ⟨v6, w6, hr6, t6⟩ := t5.k ra rn rc (by rw [HXS.out]; have := HMK.out; omega) 30
          obtain ⟨A6, c6, rfl⟩ := owns_form t6.rowK
          rw [show (xs ++ [Value.slice ra rn rc]).length = mk + 1 by rw [List.length_append, HXS.out]; rfl] at hr6 t6
          have hc5 : w5.cell? ⟨rb, ro + j, none⟩ = some (.slice ra rn rc) := by
            rw [t5.bel.cell (p := ⟨rb, ro + j, none⟩) HRB.out]
            exact HC1.out
          have HR4 := Lib.hid hr4
          have HR5 := Lib.hid hr5
          have HR6 := Lib.hid hr6
          have HK1 := Lib.hid hk1
          have HM4 := Lib.hid hm4
          have HT6 := Lib.hid t6
          have HKN : Hid (Kept (K ++ [q])) := fun p hp => (List.mem_append.mp hp).elim (HK.out p) (fun h => by simp at h; subst h; exact ⟨hg, hql, HY1.out.1⟩)
          have HXL : Hid ((xs ++ [Value.slice ra rn rc]).length = mk + 1) := by rw [List.length_append, HXS.out]; exact rfl
          have HEN : Hid (Elems w1 (xs ++ [Value.slice ra rn rc]) (K ++ [q])) := HEL.out.snoc (by rw [HXS.out, HKL.out]) HRN.out.symm HY1.out HRA.out
          clear hls ys bs sa HT3 hg hql hbig hr4 t4 hm4 hr5 t5 he5 hk1 hr6 t6 hcell
          go_wp2_with (at_builtin; first | refine wpList_append_run rfl _ _ 22 22 rfl _ _ rfl rfl _ w4 HR4.out ?_ | refine wpList_append_run rfl _ _ 39 39 rfl _ _ rfl rfl _ w5 HR5.out ?_ | refine wpList_append_run rfl _ _ 30 30 rfl _ _ rfl rfl _ w6 HR6.out ?_)
          go_roundw
          case rel => exact ⟨K ++ [q], xs ++ [.slice ra rn rc], j + 1, A4, A5, A6, m4, mk + 1, c4, c5, c6, by go_num, by omega, by omega, by have := HMK.out; omega, HK1.out, HKN.out, rfl, HM4.out, rfl, rfl, HXL.out, HEN.out, HT6.out⟩
          case measure => simp [intOf]; omega
        · have HT33 := Lib.hid HT3
          clear hls ys bs sa HT3 hg hcell
          go_wp2
          go_roundw
          case rel => exact ⟨K, xs, j + 1, Aa, Ae, Ak, ma, mk, ca, ce, ck, by go_num, by omega, by omega, by have := HMK.out; omega, HKL.out, HK.out, rfl, HMA.out, rfl, rfl, HXS.out, HEL.out, HT33.out⟩
          case measure => simp [intOf]; omega
    · have hcs : (decide ((j : Int) < (n : Int)) = false ∧ decide (j < n) = false) ∨ ((decide ((j : Int) < (n : Int)) = true ∧ decide (j < n) = true) ∧ (decide ((j : Int) < 50) = false ∧ decide (j < 50) = false)) := by
        by_cases hjn' : j < n
        · refine .inr ⟨⟨by simpa using hjn', by simpa using hjn'⟩, ?_, ?_⟩ <;> simp <;> omega
        · refine .inl ⟨?_, ?_⟩ <;> simp <;> omega
      have BW : Hid (Below w.heap.size w wr) := B1.out.trans (HT.out.bel.mono B1.out.size)
      have hfl : (Fr.flat K).length ≤ 250400 := by
        have h1 := Fr.flat_short (fun p hp => (HK.out p hp).2.1)
        rw [HKL.out] at h1
        have := HMK.out
        have := HJ50.out
        omega
      have HFL := Lib.hid hfl
      have HMC : Hid (ma ≤ ca) := by
        have h1 := HT.out.rowA
        rw [HMA.out] at h1
        exact (owns_facts h1).1
      have HKC : Hid (mk ≤ ck) := by
        have h1 := HT.out.rowK
        rw [HXS.out] at h1
        rcases h1.2 with ⟨hv, hz⟩ | ⟨g, cap, cur, hv, _, _, hn, _⟩
        · show _ ≤ _; omega
        · injection hv with _ _ hc; subst hc; exact hn
      have YA := Lib.hid (owns_bytes (w := wr) (A := Aa) (c := ca) (by have h1 := HT.out.rowA; rw [← HMA.out] at h1; exact h1) HT.out.oct (by have := HFL.out; unfold maxLen; omega))
      have HPK := Lib.hid (HT.out.parts (by rw [HXS.out, HKL.out]) HEL.out)
      have HEA := Lib.hid (fun (t : Nat) (ht : t < K.length) => HT.out.ends_at ht)
      obtain ⟨k, hzc⟩ : ∃ k : Nat, (decide (z < 0) = true ∧ k = ma) ∨ ((decide (z < 0) = false ∧ decide ((ma : Int) < z) = true) ∧ k = ma) ∨ (z = (k : Int) ∧ k ≤ ma) := by
        by_cases h1 : z < 0
        · exact ⟨ma, .inl ⟨by simpa using h1, rfl⟩⟩
        · by_cases h2 : (ma : Int) < z
          · exact ⟨ma, .inr (.inl ⟨⟨by simp; omega, by simpa using h2⟩, rfl⟩)⟩
          · exact ⟨z.toNat, .inr (.inr ⟨by omega, by omega⟩)⟩
      have hmk50 : (mk : Int) ≤ 50 := by have := HMK.out; have := HJ50.out; omega
      clear hgo hfl
      rcases hcs with ⟨hc1, hc2⟩ | ⟨⟨hc1, hc2⟩, hc3, hc4⟩ <;> rcases hzc with ⟨hz1, rfl⟩ | ⟨⟨hz1, hz2⟩, rfl⟩ | ⟨rfl, hkm⟩
      all_goals
        have HKF : Hid (k ≤ (Fr.flat K).length) := by have := HMA.out; show _ ≤ _; omega
        have hkc : k ≤ ca := by have := HMC.out; omega
        try
          have dk0 : decide ((k : Int) < 0) = false := by simp
          have dk1 : decide ((ma : Int) < (k : Int)) = false := by simp; omega
          have dk2 : decide (ma < k) = false := by simp; omega
        go_wp2
        go_loop [11, 12] (fun vn vt => ∃ t E : Nat, t ≤ mk ∧ vn = .int .i64 (t : Int) ∧ vt = .int .i64 (E : Int) ∧ (Fr.flat (K.take t)).length = E ∧ E ≤ k) (fun vn _ => mk - (intOf vn).toNat)
        case atStart => exact ⟨0, 0, Nat.zero_le _, rfl, rfl, rfl, Nat.zero_le _⟩
        case round =>
          obtain ⟨t, E, ht, rfl, rfl, hE, hEk⟩ := hrel
          have HE := Lib.hid hE
          clear hE
          by_cases htm : t < mk
          · obtain ⟨ge, rfl, hce⟩ := HEA.out t (by have := HKL.out; omega)
            obtain ⟨F, hF⟩ : ∃ F, (Fr.flat (K.take (t + 1))).length = F := ⟨_, rfl⟩
            rw [hF] at hce
            have HF := Lib.hid hF
            clear hF
            by_cases hFk : F ≤ k
            · go_wp2
              go_round
              case rel => exact ⟨t + 1, F, by omega, by go_num, rfl, HF.out, hFk⟩
              case measure => simp [intOf]; omega
            · have HCI := Lib.hid (Fr.cut_at (K := K) (j := t) (k := k) (fun p hp => (HK.out p hp).1) (fun p hp => (HK.out p hp).2.2) (by have := HKL.out; omega) (by rw [HE.out]; exact hEk) (.inr (by rw [HF.out]; omega)))
              have dF1 : decide ((F : Int) ≤ (k : Int)) = false := by simp; omega
              have dF2 : decide (F ≤ k) = false := by simp; omega
              clear hFk
              rw [HE.out] at HCI
              have HLT : Hid (((Fr.flat K).take k).length = k) := by rw [List.length_take]; have := HKF.out; show _ = _; omega
              have HTL : Hid ((K.take t).length = t) := by rw [List.length_take, HKL.out]; show _ = _; omega
              have htck : t ≤ ck := by have := HKC.out; omega
              go_wp2_with fail
              refine (cut_any ((Fr.flat K).take k) Aa k ca wr (YA.out.take k) HLT.out hkc (by have := HKF.out; have := HFL.out; omega)).mono ?_
              rintro e w5 ⟨ps, kc, Ac, mc, cc, ec, hcut, hpsl, hec, rfl, oc⟩
              obtain ⟨rfl, rfl⟩ := Fr.CutIs.unique (fun x hx => YA.out.1 x (List.mem_of_mem_take hx)) hcut HCI.out
              rw [HTL.out] at hpsl
              obtain rfl := hpsl
              rw [HLT.out] at hec
              have B5 : Hid (Below w.heap.size w w5) := BW.out.trans (oc.bel.mono BW.out.size)
              have HLI := Lib.hid (lists_yes (K.take t) Ac Ak t t cc ck w5 oc.parts.1 ((HPK.out.below oc.bel).take t) HTL.out HTL.out (by have := HTL.out; have := HMK.out; have := HJ50.out; unfold maxLen; omega))
              clear hcut oc
              by_cases hkk : kc = k
              · rw [if_pos hkk] at hec
                subst hec
                have dk : ((kc : Int) == (k : Int)) = true := by simp [hkk]
                clear hkk
                go_wp2_with fail
                refine HLI.out.mono ?_
                rintro e w6 ⟨rfl, b6⟩
                have B6 : Hid (Below w.heap.size w w6) := B5.out.trans (b6.mono B5.out.size)
                clear b6
                go_wp2
                go_ret
                exact ⟨rfl, B6.out⟩
              · rw [if_neg hkk] at hec
                subst hec
                have dk : ((kc : Int) == (k : Int)) = false := by simp; omega
                clear hkk
                go_wp2_with fail
                refine HLI.out.mono ?_
                rintro e w6 ⟨rfl, b6⟩
                have B6 : Hid (Below w.heap.size w w6) := B5.out.trans (b6.mono B5.out.size)
                clear b6
                go_wp2
                go_ret
                exact ⟨rfl, B6.out⟩
          · have HCI := Lib.hid (Fr.cut_at (K := K) (j := t) (k := k) (fun p hp => (HK.out p hp).1) (fun p hp => (HK.out p hp).2.2) (by have := HKL.out; omega) (by rw [HE.out]; exact hEk) (.inl (by have := HKL.out; omega)))
            rw [HE.out] at HCI
            have HLT : Hid (((Fr.flat K).take k).length = k) := by rw [List.length_take]; have := HKF.out; show _ = _; omega
            have HTL : Hid ((K.take t).length = t) := by rw [List.length_take, HKL.out]; show _ = _; omega
            have htck : t ≤ ck := by have := HKC.out; omega
            go_wp2_with fail
            refine (cut_any ((Fr.flat K).take k) Aa k ca wr (YA.out.take k) HLT.out hkc (by have := HKF.out; have := HFL.out; omega)).mono ?_
            rintro e w5 ⟨ps, kc, Ac, mc, cc, ec, hcut, hpsl, hec, rfl, oc⟩
            obtain ⟨rfl, rfl⟩ := Fr.CutIs.unique (fun x hx => YA.out.1 x (List.mem_of_mem_take hx)) hcut HCI.out
            rw [HTL.out] at hpsl
            obtain rfl := hpsl
            rw [HLT.out] at hec
            have B5 : Hid (Below w.heap.size w w5) := BW.out.trans (oc.bel.mono BW.out.size)
            have HLI := Lib.hid (lists_yes (K.take t) Ac Ak t t cc ck w5 oc.parts.1 ((HPK.out.below oc.bel).take t) HTL.out HTL.out (by have := HTL.out; have := HMK.out; have := HJ50.out; unfold maxLen; omega))
            clear hcut oc
            by_cases hkk : kc = k
            · rw [if_pos hkk] at hec
              subst hec
              have dk : ((kc : Int) == (k : Int)) = true := by simp [hkk]
              clear hkk
              go_wp2_with fail
              refine HLI.out.mono ?_
              rintro e w6 ⟨rfl, b6⟩
              have B6 : Hid (Below w.heap.size w w6) := B5.out.trans (b6.mono B5.out.size)
              clear b6
              go_wp2
              go_ret
              exact ⟨rfl, B6.out⟩
            · rw [if_neg hkk] at hec
              subst hec
              have dk : ((kc : Int) == (k : Int)) = false := by simp; omega
              clear hkk
              go_wp2_with fail
              refine HLI.out.mono ?_
              rintro e w6 ⟨rfl, b6⟩
              have B6 : Hid (Below w.heap.size w w6) := B5.out.trans (b6.mono B5.out.size)
              clear b6
              go_wp2
              go_ret
              exact ⟨rfl, B6.out⟩
end Go.Proofs.Ytlnblcgfgkkbhaa

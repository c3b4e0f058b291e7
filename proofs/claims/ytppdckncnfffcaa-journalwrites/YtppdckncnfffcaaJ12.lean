/-
  The contract of the iterator over a record's parts. Its conditions: the record's bytes lie in memory.
-/
import Derived.Test.YtppdckncnfffcaaJ11
namespace Go.Proofs.Ytppdckncnfffcaa
open Go.RowKit Go.Shelf
set_option maxRecDepth 100000
attribute [local go_sem] Oper.semAt_some

theorem Kq.mono {l l' ms ms' : List Nat} {n₀ n₁ : Nat} {A B : World} (h : Kq l ms n₀ n₁ A B) (hl : ∀ x ∈ l, x ∈ l') (hm : ∀ x ∈ ms, x ∈ ms') : Kq l' ms' n₀ n₁ A B :=
  ⟨h.1, fun b o hb hx h1 h2 => h.2 b o hb hx (fun hk => h1 (hl _ hk)) (fun hk => h2 (hm _ hk))⟩
def fromO (A : Option Addr) (c k : Nat) : Option Addr := if c = k then A else A.map (·.add k)
theorem slice38 (A : Option Addr) (n c lo hi : Nat) (h1 : lo ≤ hi) (h2 : hi ≤ c) (w : World) : (Instr.sliceAt 38 (.slice A n c) (some (.int .i64 (lo : Int))) (some (.int .i64 (hi : Int))) none).run Try.prog w = .ok (.slice (fromO A c lo) (hi - lo) (c - lo)) w := by
  have h3 : (hi : Int) ≤ (c : Int) := by omega
  have h4 : (0 : Int) ≤ (hi : Int) := by omega
  have h5 : (lo : Int) ≤ (hi : Int) := by omega
  have h6 : (0 : Int) ≤ (lo : Int) := by omega
  simp [go_sem, h3, h5, fromO]
theorem Sl.part {w : World} {A : Option Addr} {l : List UInt8} {n c lo hi : Nat} (h : Sl eBy w A l) (hn : l.length = n) (hc : n ≤ c) (h1 : lo ≤ hi) (h2 : hi ≤ n) : Sl eBy w (fromO A c lo) ((l.drop lo).take (hi - lo)) := by
  unfold fromO
  by_cases e : c = lo
  · have : hi - lo = 0 := by omega
    rw [if_pos e, this]
    simp only [List.take_zero]
    exact sl_nil _
  · rw [if_neg e]
    cases A with
    | none =>
      have hl : l = [] := by
        cases l with
        | nil => rfl
        | cons x r => obtain ⟨b, off, hA, _⟩ := h.2 (by simp); simp at hA
      subst hl
      simp only [List.drop_nil, List.take_nil]
      exact sl_nil _
    | some ad =>
      by_cases h0 : 0 < l.length
      · obtain ⟨b, off, hA, _⟩ := h.2 h0
        injection hA with hA
        subst hA
        have := (h.drop lo).take (hi - lo)
        rw [show eBy.wd = 1 from rfl, Nat.mul_one] at this
        simpa [addr_at] using this
      · have hl : l = [] := List.eq_nil_of_length_eq_zero (by omega)
        subst hl
        simp only [List.drop_nil, List.take_nil]
        exact sl_nil _
theorem fromO_none {A : Option Addr} {c k : Nat} (hA : A = none → c = 0) (h : fromO A c k = none) : c - k = 0 := by
  unfold fromO at h
  split at h
  · omega
  · cases A with
    | none => have := hA rfl; omega
    | some a => simp at h
/-- A record's parts. -/
def partsOf (lap k : Nat) (r : List UInt8) : List Pt := (List.range (partsN r.length)).map (ptOf lap k r)
theorem partsOf_take (lap k : Nat) (r : List UInt8) {i : Nat} (h : i < partsN r.length) : (partsOf lap k r).take (i + 1) = (partsOf lap k r).take i ++ [ptOf lap k r i] := by
  have hl : i < (partsOf lap k r).length := by simp [partsOf, h]
  rw [List.take_succ_eq_append_getElem hl]
  simp [partsOf]
/-- What the iterator stands on. -/
structure PdI (W : World) (br bl bn : Nat) (A : Option Addr) (n c lap k : Nat) : Prop where
  r : W.heap[br]? = some (.cells #[.slice A n c] 38 (0, 0))
  l : W.heap[bl]? = some (.cells #[.int .i64 (lap : Int)] 3 (0, 0))
  k : W.heap[bn]? = some (.cells #[.int .i64 (k : Int)] 3 (0, 0))
theorem PdI.kq {W W' : World} {br bl bn : Nat} {A : Option Addr} {n c lap k : Nat} {l ms : List Nat} {n₀ n₁ : Nat} (h : PdI W br bl bn A n c lap k) (hk : Kq l ms n₀ n₁ W W') (h1 : 38 ∉ l) (h2 : 3 ∉ l) (h3 : br ∉ ms) (h4 : bl ∉ ms) (h5 : bn ∉ ms) : PdI W' br bl bn A n c lap k :=
  ⟨hk.cell h.r h1 h3, hk.cell h.l h2 h4, hk.cell h.k h2 h5⟩
set_option maxHeartbeats 8000000 in
theorem parted_tells (w : World) (br bl bn n₀ n₁ n c lap k : Nat) (A : Option Addr) (r : List UInt8) (l ms : List Nat) (hp : PdI w br bl bn A n c lap k) (hn : r.length = n) (hc : n ≤ c) (hA : A = none → c = 0) (hn0 : n₀ ≤ w.heap.size)
    (hl : 38 ∉ l ∧ 3 ∉ l) (hm : br ∉ ms ∧ bl ∉ ms ∧ bn ∉ ms) (hr : n ≤ 1000000) (hSl : ∀ W', Kq (101 :: l) ms n₀ n₁ w W' → Sl eBy W' A r) :
    Tells2 Try.prog 53 #[.pointer (some ⟨br, 0, none⟩), .pointer (some ⟨bl, 0, none⟩), .pointer (some ⟨bn, 0, none⟩)] EvP (Kq l ms n₀ n₁) [101] (partsOf lap k r) w := by
  intro ly J Jx W hW hJ hJx hJf hY hJ0
  have hdd : ∀ k : Nat, (Fence.wide.depth.isSome = true → 1 ≤ k) := fun k h => by cases h
  have hf26 : Fence.wide.fn 26 := trivial
  have HK0 : Hid (Kq (101 :: l) ms n₀ n₁ w W) := Kq.below hW hn0
  have HPK : Hid (∀ V, Kq (101 :: l) ms n₀ n₁ w V → PdI V br bl bn A n c lap k) := fun V hV => hp.kq hV (by simp [hl.1]) (by simp [hl.2]) hm.1 hm.2.1 hm.2.2
  have q0 := one_cell (HPK.out W HK0.out).r
  have CP := Lib.hid (parts_any (n : Int) W (by omega))
  have e0 : partsI (n : Int) = (partsN n : Int) := by simp [partsI]; omega
  rw [e0] at CP
  obtain ⟨N, hN⟩ : ∃ N, N = partsN n := ⟨_, rfl⟩
  rw [← hN] at CP
  have HN := Lib.hid hN
  have HRL := Lib.hid hn
  have HSL := Lib.hid hSl
  have HC := Lib.hid hc
  have HAN := Lib.hid hA
  have HN0 := Lib.hid (Nat.le_trans hn0 hW.size)
  have HY := Lib.hid hY
  have HJF := Lib.hid hJf
  have HJ0 := Lib.hid hJ0
  have hNle : N ≤ 30000 := by rw [hN]; unfold partsN; omega
  have hni : (n : Int) ≤ 1000000 := by omega
  clear hp hn hc hA hn0 hl hm hr hSl hW hJ hJx hJf hY hJ0 hN e0
  refine callsIn_of_wp Try.func53 rfl trivial ?_ rfl
  simp only [Try.ntmps53, List.size_toArray, List.length_cons, List.length_nil, Nat.reduceAdd, Nat.reduceSub, Array.replicate_succ, Array.replicate_zero, List.push_toArray, List.append_toArray, List.nil_append, List.cons_append]
  gi_wp2_with ((try refine ⟨hdd _, ?_⟩); gi_at_call 26; refine (callsIn_wide.2 CP.out).mono ?_; rintro e w1 ⟨rfl, rfl⟩)
  gi_loopw [12] (fun s12 wr => ∃ i : Nat, i ≤ N ∧ s12 = .int .i64 (i : Int) ∧ J ((partsOf lap k r).take i) wr ∧ Kq (101 :: l) ms n₀ n₁ w wr ∧ W.heap.size ≤ wr.heap.size) (fun s _ => N - (intOf s).toNat)
  case atStart => exact ⟨0, Nat.zero_le _, rfl, HJ0.out, HK0.out, Nat.le_refl _⟩
  case round =>
    obtain ⟨i, hi, rfl, hj, hk, hsz⟩ := hrel
    have HJ := Lib.hid hj
    have HK := Lib.hid hk
    have HSZ := Lib.hid hsz
    have HPD := Lib.hid (HPK.out wr hk)
    clear hj hk hsz q0
    by_cases hlt : i < N
    · have hlti : (i : Int) < (N : Int) := by omega
      have hi0 : (0 : Int) ≤ (i : Int) := by omega
      have hii : (i : Int) ≤ 30000 := by omega
      have q1 := one_cell HPD.out.l
      have q2 := one_cell HPD.out.k
      obtain ⟨h, hh⟩ : ∃ h, h = min ((i + 1) * 47) n := ⟨_, rfl⟩
      have hpl := partsN_lt n i
      have hlo : i * 47 ≤ h := by
        have h1 := HN.out
        by_cases hz : i = 0
        · omega
        · have := partsN_lt n (i - 1) (by omega)
          rw [show i - 1 + 1 = i by omega] at this
          omega
      have hhn : h ≤ n := by omega
      obtain ⟨m, hm⟩ : ∃ m, m = h - i * 47 := ⟨_, rfl⟩
      have hmin : ∀ w, (Builtin.min_ #[3, 3] 3 #[.int .i64 (((i : Int) + 1) * 47), .int .i64 (n : Int)]).run Try.prog w = .ok (.int .i64 (h : Int)) w := fun w => run_min2 w _ _ _ _ _ (by omega)
      have hsl : ∀ w, (Instr.sliceAt 38 (.slice A n c) (some (.int .i64 ((i : Int) * 47))) (some (.int .i64 (h : Int))) none).run Try.prog w = .ok (.slice (fromO A c (i * 47)) m (c - i * 47)) w := by
        intro w
        have := slice38 A n c (i * 47) h hlo (Nat.le_trans hhn HC.out) w
        rw [← hm] at this
        push_cast at this
        exact this
      obtain ⟨A2, hA2⟩ : ∃ A2, A2 = fromO A c (i * 47) := ⟨_, rfl⟩
      obtain ⟨c2, hc2⟩ : ∃ c2, c2 = c - i * 47 := ⟨_, rfl⟩
      have hpc : (r.drop (i * 47)).take (h - i * 47) = piece r i := by
        unfold piece
        by_cases hbig : (i + 1) * 47 ≤ n
        · rw [show h - i * 47 = 47 by omega]
        · rw [show h - i * 47 = n - i * 47 by omega, List.take_of_length_le (by rw [List.length_drop, HRL.out]; omega), List.take_of_length_le (by rw [List.length_drop, HRL.out]; omega)]
      have hpm : (piece r i).length = m := by rw [← hpc, List.length_take, List.length_drop, HRL.out]; omega
      obtain ⟨W2, hW2⟩ : ∃ W2, W2 = wr.alloc (.cells #[.int .i64 (lap : Int), .int .i64 (k : Int), .int .i64 ((i : Int) + 1), .int .i64 (N : Int), .slice A2 m c2] 101) := ⟨_, rfl⟩
      have b2 : Below wr.heap.size wr W2 := by rw [hW2]; exact Below.alloc (Below.refl _ _) (Nat.le_refl _) _
      have HK2 : Hid (Kq (101 :: l) ms n₀ n₁ w W2) := HK.out.t (Kq.below b2 (Nat.le_trans HN0.out HSZ.out))
      have hs2 : Sl eBy W2 A2 (piece r i) := by
        rw [hA2, ← hpc]
        exact (HSL.out W2 HK2.out).part HRL.out HC.out hlo hhn
      have hev : EvP W2 (ptOf lap k r i) #[.agg #[.int .i64 (lap : Int), .int .i64 (k : Int), .int .i64 ((i : Int) + 1), .int .i64 (N : Int), .slice A2 m c2]] := by
        refine ⟨A2, c2, ?_, hs2, fun e => ?_⟩
        · have h1 := HN.out
          have h2 := HRL.out
          simp only [ptV, ptC, ptOf, hpm, h2, ← h1]
          push_cast
          rfl
        · rw [hc2]
          exact fromO_none HAN.out (by rw [← hA2]; exact e)
      have htk : (partsOf lap k r).take (i + 1) = (partsOf lap k r).take i ++ [ptOf lap k r i] := partsOf_take lap k r (by rw [HRL.out, ← HN.out]; exact hlt)
      have J2 := HJF.out _ wr W2 HJ.out (Fr.of_below b2 HSZ.out)
      obtain ⟨fn, tmps, assign, body, hy, hR⟩ := HY.out _ _ _ W2 J2 hev (by rw [← htk]; exact List.take_prefix _ _)
      rw [← htk] at hR
      have hR2 : RoundIn Fence.wide 9 Try.prog ly fn tmps assign body W2 (fun e W' => (e = .returned (.bool true) ∧ J ((partsOf lap k r).take (i + 1)) W' ∧ Kq (101 :: l) ms n₀ n₁ w W' ∧ W.heap.size ≤ W'.heap.size) ∨ (e = .returned (.bool false) ∧ Jx ((partsOf lap k r).take (i + 1)) W')) :=
        hR.mono fun e W' h => h.elim (fun ⟨h1, h2, h3, _⟩ => .inl ⟨h1, h2, HK2.out.t (h3.mono (by simp; exact fun x hx => .inr hx) (fun _ h => h)), Nat.le_trans HSZ.out (Nat.le_trans b2.size h3.1.size)⟩) (fun ⟨h1, h2, _⟩ => .inr ⟨h1, h2⟩)
      have HR2 := Lib.hid hR2
      have HKI : Hid (i + 1 ≤ N) := hlt
      rw [← hA2, ← hc2] at hsl
      have q3 : (wr.alloc (.cells #[.int .i64 (lap : Int), .int .i64 (k : Int), .int .i64 ((i : Int) + 1), .int .i64 (N : Int), .slice none 0 0] 101)).cell? ⟨br, 0, none⟩ = some (.slice A n c) := by
        have hh2 : (wr.alloc (.cells #[.int .i64 (lap : Int), .int .i64 (k : Int), .int .i64 ((i : Int) + 1), .int .i64 (N : Int), .slice none 0 0] 101)).heap[br]? = some (.cells #[.slice A n c] 38 (0, 0)) := (heap_old _ _ (lt_of_heap HPD.out.r)).trans HPD.out.r
        exact one_cell hh2
      have HW2 := Lib.hid hW2
      clear hR hR2 hev htk J2 hs2 hpm hpc b2 hA2 hc2 hm hh hlo hhn hpl hlt hi
      subst hW2
      gi_wp2_with ((try refine ⟨hdd _, ?_⟩); refine (round_any HR2.out).mono ?_; rintro e W3 (⟨rfl, hj3, hk3, hs3⟩ | ⟨rfl, hx3⟩))
      · go_roundw
        case rel => exact ⟨i + 1, HKI.out, by go_num, hj3, hk3, hs3⟩
        case measure => simp [intOf]; have := HKI.out; omega
      · refine bodyPost_ret (results_none rfl _ _ _) rfl ?_
        exact ⟨⟨_, rfl⟩, .inr ⟨_, List.take_prefix _ _, hx3⟩⟩
    · have hlti : ¬ (i : Int) < (N : Int) := by omega
      have hin : i = N := by omega
      have HE : Hid (J (partsOf lap k r) wr) := by
        have h1 := HJ.out
        rw [hin, List.take_of_length_le (by simp [partsOf, HRL.out, ← HN.out])] at h1
        exact h1
      clear hin hlt hi
      gi_wp2
      go_end0
      exact ⟨⟨_, rfl⟩, .inl HE.out⟩
end Go.Proofs.Ytppdckncnfffcaa

/-
  The walk of LruLast. Its conditions: the keys read as such.
-/
import Derived.Test.YtmhpngfkipooiaaW11
namespace Go.Proofs.Ytmhpngfkipooiaa
open Go.RowKit Go.Maps

theorem mask_i64 (a : Int) (m : Nat) (hm : m ≤ 255) : ∃ r : Nat, bits .and .i64 a (m : Int) = (r : Int) ∧ r ≤ m := by
  have h2 : (BitVec.ofInt 64 (m : Int)).toNat = m := by
    rw [BitVec.ofInt_natCast, BitVec.toNat_ofNat]; exact Nat.mod_eq_of_lt (by omega)
  have hx : (BitVec.ofInt 64 a &&& BitVec.ofInt 64 (m : Int)).toNat ≤ m := by
    rw [BitVec.toNat_and, h2]
    exact Nat.and_le_right
  refine ⟨(BitVec.ofInt 64 a &&& BitVec.ofInt 64 (m : Int)).toNat, ?_, hx⟩
  show IntKind.i64.wrap ((BitVec.ofInt 64 a &&& BitVec.ofInt 64 (m : Int)).toNat : Int) = _
  exact IntWalk.i64_in _ (by omega)

/-! ### uses, and things of one size -/
/-- The latest first, each once. -/
def usn (U : List ByteArray) (x : ByteArray) : List ByteArray := x :: U.filter fun y => decide (y ≠ x)
theorem filt_not {U : List ByteArray} {x : ByteArray} (h : x ∉ U) : (U.filter fun y => decide (y ≠ x)) = U := by
  rw [List.filter_eq_self]
  intro y hy
  simp only [decide_eq_true_eq]
  rintro rfl
  exact h hy
theorem filt_take_not {U : List ByteArray} {x : ByteArray} {c : Nat} (h : x ∉ U.take c) : (U.filter fun y => decide (y ≠ x)).take c = U.take c := by
  have e : U = U.take c ++ U.drop c := (List.take_append_drop c U).symm
  by_cases hl : U.length ≤ c
  · rw [List.take_of_length_le hl] at h ⊢
    rw [filt_not h, List.take_of_length_le hl]
  · conv => lhs; rw [e, List.filter_append, filt_not h]
    rw [List.take_append_of_le_length (by rw [List.length_take]; omega), List.take_take, Nat.min_self]
theorem filt_take_mem {U : List ByteArray} {x : ByteArray} {c : Nat} (hn : U.Nodup) (h : x ∈ U.take c) : (U.filter fun y => decide (y ≠ x)).take (c - 1) = (U.take c).filter fun y => decide (y ≠ x) := by
  induction U generalizing c with
  | nil => simp at h
  | cons u U ih =>
    cases c with
    | zero => simp at h
    | succ c =>
      obtain ⟨h1, h2⟩ := List.nodup_cons.mp hn
      simp only [List.take_succ_cons, Nat.add_sub_cancel] at h ⊢
      by_cases e : u = x
      · subst e
        have hx : u ∉ U.take c := fun hx => h1 (List.mem_of_mem_take hx)
        simp only [List.filter_cons, ne_eq, not_true_eq_false, decide_false, Bool.false_eq_true, if_false]
        have e1 := filt_take_not hx
        have e2 := filt_not hx
        simp only [ne_eq] at e1 e2
        rw [e1, e2]
      · rcases List.mem_cons.mp h with h | h
        · exact absurd h.symm e
        · have hc : 0 < c := by
            cases c with
            | zero => simp at h
            | succ c => omega
          have := ih h2 h
          simp only [List.filter_cons, ne_eq, e, not_false_eq_true, decide_true, if_true]
          obtain ⟨d, rfl⟩ : ∃ d, c = d + 1 := ⟨c - 1, by omega⟩
          simp only [List.take_succ_cons]
          simp only [Nat.add_sub_cancel, ne_eq] at this
          rw [this]
theorem usn_nodup {U : List ByteArray} {x : ByteArray} (hn : U.Nodup) : (usn U x).Nodup :=
  List.nodup_cons.mpr ⟨fun h => by simpa using (List.mem_filter.mp h).2, hn.sublist List.filter_sublist⟩
theorem usn_len (U : List ByteArray) (x : ByteArray) : (usn U x).length ≤ U.length + 1 := by
  have := List.length_filter_le (fun y => decide (y ≠ x)) U
  simp [usn] at *
  omega
/-- All things are of one size. -/
def Szd (s : Int) (L : List Th) : Prop := ∀ t ∈ L, t.s = s
theorem Szd.tot {s : Int} {L : List Th} (h : Szd s L) : tot L = s * (L.length : Int) := by
  induction L with
  | nil => simp [Ytmhpngfkipooiaa.tot]
  | cons t r ih =>
    have h1 := h t (by simp)
    have h2 := ih fun x hx => h x (by simp [hx])
    simp only [Ytmhpngfkipooiaa.tot, List.length_cons, h1, h2]
    rw [show ((r.length + 1 : Nat) : Int) = (r.length : Int) + 1 by omega, Int.mul_add]
    omega
theorem Szd.sub {s : Int} {L M : List Th} (h : Szd s L) (hs : M.Sublist L) : Szd s M := fun t ht => h t (hs.subset ht)
theorem wayN_szd {r s : Nat} {L : List Th} (hs : 0 < s) (h : Szd (s : Int) L) (hr : s ≤ r) : ∀ j, j ≤ L.length → wayN ((r : Int) - 0 - (s : Int)) L j = min j (r / s - 1)
  | 0, _ => by simp [wayN]
  | j + 1, hj => by
    have ih := wayN_szd hs h hr j (by omega)
    have ht : Ytmhpngfkipooiaa.tot (L.take (j + 1)) = (s : Int) * ((j + 1 : Nat) : Int) := by
      rw [(h.sub (List.take_sublist _ _)).tot, List.length_take, Nat.min_eq_left hj]
    have hq : 1 ≤ r / s := (Nat.one_le_div_iff hs).mpr hr
    unfold wayN
    by_cases hc : Ytmhpngfkipooiaa.tot (L.take (j + 1)) ≤ (r : Int) - 0 - (s : Int)
    · rw [if_pos hc]
      rw [ht] at hc
      have : s * (j + 1) + s ≤ r := by
        have : ((s * (j + 1) : Nat) : Int) = (s : Int) * ((j + 1 : Nat) : Int) := Int.natCast_mul _ _
        omega
      have h2 : j + 2 ≤ r / s := by
        rw [Nat.le_div_iff_mul_le hs]
        have e : (j + 2) * s = s * (j + 1) + s := by rw [Nat.mul_comm]; rfl
        omega
      omega
    · rw [if_neg hc, ih]
      rw [ht] at hc
      have : ¬ s * (j + 1) + s ≤ r := by
        have : ((s * (j + 1) : Nat) : Int) = (s : Int) * ((j + 1 : Nat) : Int) := Int.natCast_mul _ _
        omega
      have h2 : ¬ j + 2 ≤ r / s := by
        rw [Nat.le_div_iff_mul_le hs]
        have e : (j + 2) * s = s * (j + 1) + s := by rw [Nat.mul_comm]; rfl
        omega
      omega
/-- What holds behind each key. -/
structure Inv (r s : Nat) (U : List ByteArray) (L : List Th) : Prop where
  nd : U.Nodup
  sz : Szd (s : Int) L
  eq : keys L = U.take (r / s)
theorem keys_drp (L : List Th) (k : ByteArray) : keys (drp L k) = (keys L).filter fun y => decide (y ≠ k) := by
  unfold keys drp
  rw [List.filter_map]
  rfl
theorem Inv.got {r s : Nat} {U : List ByteArray} {L : List Th} {x : ByteArray} {t : Th} (h : Inv r s U L) (hf : fnd L x = some t) : Inv r s (usn U x) (t :: drp L x) := by
  obtain ⟨ht, hk⟩ := fnd_some hf
  have hx : x ∈ U.take (r / s) := by rw [← h.eq, ← hk]; exact List.mem_map_of_mem ht
  refine ⟨usn_nodup h.nd, ?_, ?_⟩
  · intro y hy
    rcases List.mem_cons.mp hy with rfl | hy
    · exact h.sz _ ht
    · exact h.sz _ ((drp_sub L x).subset hy)
  · show t.k :: keys (drp L x) = _
    rw [keys_drp, h.eq, ← filt_take_mem h.nd hx, hk]
    have hc : 0 < r / s := by
      cases hq : r / s with
      | zero => rw [hq] at hx; simp at hx
      | succ q => omega
    obtain ⟨d, hd⟩ : ∃ d, r / s = d + 1 := ⟨r / s - 1, by omega⟩
    rw [hd]
    simp [usn]
theorem Inv.put {r s : Nat} {U : List ByteArray} {L : List Th} {x : ByteArray} {n : Int} (h : Inv r s U L) (hs : 0 < s) (hf : fnd L x = none) : Inv r s (usn U x) (putL (r : Int) 0 L ⟨x, (s : Int), n⟩) := by
  have hx : x ∉ U.take (r / s) := by rw [← h.eq]; exact fnd_none.mp hf
  have hd : drp L x = L := drp_none (fnd_none.mp hf)
  by_cases hr : s ≤ r
  · have hok : wayOk (r : Int) 0 (s : Int) = true := wayOk_iff.mpr ⟨by omega, by omega⟩
    have e : putL (r : Int) 0 L ⟨x, (s : Int), n⟩ = ⟨x, (s : Int), n⟩ :: L.take (min L.length (r / s - 1)) := by
      simp only [putL, hok, if_true, wL, hd, way]
      rw [wayN_szd hs h.sz hr _ (Nat.le_refl _)]
    have hq : 1 ≤ r / s := (Nat.one_le_div_iff hs).mpr hr
    rw [e]
    refine ⟨usn_nodup h.nd, ?_, ?_⟩
    · intro y hy
      rcases List.mem_cons.mp hy with rfl | hy
      · rfl
      · exact h.sz _ (List.mem_of_mem_take hy)
    · show x :: keys (L.take (min L.length (r / s - 1))) = _
      have e2 : L.take (min L.length (r / s - 1)) = L.take (r / s - 1) := by
        by_cases hl : L.length ≤ r / s - 1
        · rw [Nat.min_eq_left hl, List.take_length, List.take_of_length_le hl]
        · rw [Nat.min_eq_right (by omega)]
      have e3 := filt_take_not hx
      obtain ⟨d, hd⟩ : ∃ d, r / s = d + 1 := ⟨r / s - 1, by omega⟩
      rw [hd] at e3
      have h4 := congrArg (List.take d) e3
      rw [List.take_take, List.take_take, show min d (d + 1) = d by omega] at h4
      rw [e2, take_keys, h.eq, hd]
      simp only [usn, List.take_succ_cons, Nat.add_sub_cancel]
      rw [List.take_take, show min d (d + 1) = d by omega, h4]
  · have hok : wayOk (r : Int) 0 (s : Int) = false := by simp [wayOk]; omega
    have hq : r / s = 0 := Nat.div_eq_of_lt (by omega)
    have e : putL (r : Int) 0 L ⟨x, (s : Int), n⟩ = L := by simp [putL, hok, hd]
    rw [e]
    refine ⟨usn_nodup h.nd, h.sz, ?_⟩
    have := h.eq
    rw [hq] at this ⊢
    simpa using this
theorem Row.one (w : World) (base : Nat) (x : ByteArray) (hb : base ≤ w.heap.size) : Row (w.alloc (.cells #[.string x] 9)) base (.slice (some ⟨w.heap.size, 0, none⟩) 1 1) [x] :=
  ⟨rfl, .inr ⟨w.heap.size, 1, #[.string x], rfl, hb, heap_new _ _, Nat.le_refl _, by unfold maxLen; omega, rfl, rfl⟩⟩

theorem usd_hit {L : List Th} {k : ByteArray} {t : Th} (h : fnd L k = some t) : usd L k = t :: drp L k := by simp [usd, h]
theorem usd_miss {L : List Th} {k : ByteArray} (h : fnd L k = none) : usd L k = L := by simp [usd, h]
theorem row_strs {w : World} {base : Nat} {A : Option Addr} {n c : Nat} {l : List ByteArray} (h : Row w base (.slice A n c) l) (hm : l.length ≤ maxLen) : Strs w A l := by
  obtain ⟨A', c', e, hs⟩ := h.strs hm
  injection e with e1 e2 e3
  subst e1
  exact hs
def LsRel (l : List ByteArray) (g r s : Nat) (w : World) (s8 s9 : Value) (wr : World) : Prop :=
  ∃ (k : Nat) (U : List ByteArray) (L : List Th) (A : Option Addr) (c : Nat), k ≤ 200 ∧ k ≤ l.length ∧ s9 = .int .i64 (k : Int) ∧ s8 = .slice A U.length c ∧ Row wr w.heap.size s8 U ∧ CacheAt wr w.heap.size g L (r : Int) 0 ∧ Below w.heap.size w wr ∧ Inv r s U L ∧ U.length ≤ k ∧ L.length ≤ k
def InRel (U : List ByteArray) (x : ByteArray) (W : World) (s12 s62 : Value) (wr : World) : Prop :=
  ∃ (j : Nat) (A : Option Addr) (c : Nat), j ≤ U.length ∧ s62 = .int .i64 (j : Int) ∧ s12 = .slice A (usn (U.take j) x).length c ∧ Row wr W.heap.size s12 (usn (U.take j) x) ∧ Below W.heap.size W wr
theorem usn_step {U : List ByteArray} {x : ByteArray} {j : Nat} (hj : j < U.length) : usn (U.take (j + 1)) x = if U[j] = x then usn (U.take j) x else usn (U.take j) x ++ [U[j]] := by
  unfold usn
  rw [List.take_succ_eq_append_getElem hj, List.filter_append]
  split
  · rename_i e
    simp [e]
  · rename_i e
    simp [e]
set_option maxRecDepth 100000 in
set_option maxHeartbeats 8000000 in
theorem last_walk (a z : Int) (l : List ByteArray) (A : Option Addr) (n c : Nat) (w : World) (hs : Kys w A l) (hn : l.length = n) :
    Calls Try.prog 5 #[.int .i64 a, .int .i64 z, .slice A n c] w fun e w' => e = .returned (.bool true) ∧ Below w.heap.size w w' := by
  have H := Lib.hid hs
  have HE := Lib.hid hn
  clear hs hn
  obtain ⟨r0, hr0, hr1⟩ := mask_i64 a 255 (by omega)
  obtain ⟨s0, hs0, hs1⟩ := mask_i64 z 15 (by omega)
  obtain ⟨r, hr⟩ : ∃ r, r = r0 + 1 := ⟨_, rfl⟩
  obtain ⟨s, hs⟩ : ∃ s, s = s0 + 1 := ⟨_, rfl⟩
  have er : wrap64 (1 + (r0 : Int)) = (r : Int) := by unfold wrap64; omega
  have es : wrap64 (1 + (s0 : Int)) = (s : Int) := by unfold wrap64; omega
  have HRS : Hid (1 ≤ r ∧ r ≤ 256 ∧ 1 ≤ s ∧ s ≤ 16) := ⟨by omega, by omega, by omega, by omega⟩
  have hr0' : bits .and .i64 a 255 = (r0 : Int) := hr0
  have hs0' : bits .and .i64 z 15 = (s0 : Int) := hs0
  clear hr0 hs0 hr1 hs1 hr hs
  go_enter Try.func5, Try.ntmps5
  go_wp2_with fail
  refine (awake_any w).mono ?_
  rintro e w1 ⟨rfl, b1⟩
  have B1 := Lib.hid b1
  clear b1
  go_wp2_with fail
  refine (new_any w.heap.size (r : Int) (r : Int) w1 B1.out.size (by omega) (by have := HRS.out; omega)).mono ?_
  rintro e w2 ⟨g, rfl, _, c2, b2⟩
  have C2 := Lib.hid c2
  have B2 := Lib.hid (B1.out.trans (b2.mono B1.out.size))
  clear c2 b2 B1
  go_wp2
  go_loopw [8, 9] (LsRel l g r s w) (fun _ i _ => 201 - (intOf i).toNat)
  case atStart => exact ⟨0, [], [], none, 0, Nat.zero_le _, Nat.zero_le _, rfl, rfl, Row.nil _ _, C2.out, B2.out, ⟨List.nodup_nil, fun t ht => by simp at ht, by simp [keys]⟩, Nat.le_refl _, Nat.le_refl _⟩
  case round =>
    obtain ⟨k, U, L, Au, cu, hk2, hkl, rfl, rfl, ho, hm, hb, hi, hul, hlen⟩ := hrel
    have HO := Lib.hid ho
    have HM := Lib.hid hm
    have HB := Lib.hid hb
    have HI := Lib.hid hi
    clear ho hm hb hi C2 B2
    rw [HE.out] at hkl
    by_cases hlt : k < n ∧ k < 200
    · obtain ⟨hlt1, hlt2⟩ := hlt
      have hkl2 : k < l.length := by rw [HE.out]; exact hlt1
      obtain ⟨b, off, rfl, hbs, c0⟩ := (H.out.1.below (Nat.le_refl _) HB.out).at_ hkl2
      have HKS := Lib.hid (H.out.2 l[k] (List.getElem_mem hkl2))
      have CD : Hid (∀ W', Below w.heap.size w W' → W'.cell? ⟨b, off + k, none⟩ = some (.string l[k])) := fun W' hW' => by
        obtain ⟨b', off', e1, _, c1⟩ := (H.out.1.below (Nat.le_refl _) hW').at_ hkl2
        injection e1 with e1
        injection e1 with e1 e2 _
        subst e1 e2
        exact c1
      generalize l[k] = x at c0 HKS CD
      have hlti : (k : Int) < (n : Int) := by omega
      have hlti2 : (k : Int) < 200 := by omega
      have hk0 : (0 : Int) ≤ (k : Int) := by omega
      have HL : Hid (U.length ≤ k ∧ L.length ≤ k ∧ k ≤ 200) := ⟨hul, hlen, hk2⟩
      clear hkl2 hlen hbs hul
      have C5 := Lib.hid (get_any _ g L (r : Int) 0 x wr HM.out HKS.out)
      have C6 : Hid (∀ W, CacheAt W w.heap.size g L (r : Int) 0 → w.heap.size ≤ W.heap.size → Calls Try.prog 11 #[.pointer (some ⟨g, 0, none⟩), .string x, .int .i64 (s : Int), .int .i64 (k : Int)] W (WayPost W w.heap.size g (putL (r : Int) 0 L ⟨x, (s : Int), (k : Int)⟩) (r : Int) 0 (wayOk (r : Int) 0 (s : Int)) (wG (r : Int) 0 (s : Int) (drp L x)))) :=
        fun W hW hs => put_any _ g L (r : Int) 0 ⟨x, (s : Int), (k : Int)⟩ W hW hs (by have := HL.out; omega) HKS.out
      cases hf : fnd L x with
      | some t =>
        have HINV := Lib.hid (HI.out.got hf)
        rw [usd_hit hf, hf] at C5
        have HLN : Hid ((t :: drp L x).length ≤ k + 1) := by
          show _ ≤ _
          have := drp_len L x
          have := HL.out
          simp
          omega
        clear hf
        go_wp2_with fail
        refine C5.out.mono ?_
        rintro e' W1 ⟨rfl, cc, ff⟩
        simp only [getV]
        have M1 := Lib.hid cc
        have O1 := Lib.hid (HO.out.fr ff (by simp [cK]))
        have B1 := Lib.hid (HB.out.trans ff.below)
        have d0 := CD.out _ B1.out
        clear cc ff C5
        generalize t :: drp L x = L2 at HINV HLN M1
        have SU := Lib.hid (row_strs O1.out (by have := HL.out; unfold maxLen; omega))
        obtain ⟨nU, hnU⟩ : ∃ nU, nU = U.length := ⟨_, rfl⟩
        rw [← hnU]
        have HNU := Lib.hid hnU
        have hU2 : (nU : Int) ≤ 200 := by have := HL.out; omega
        clear hnU O1 HO HM HB HI c0 C6
        go_wp2
        go_loopw [12, 62] (InRel U x W1) (fun _ i _ => nU - (intOf i).toNat)
        case atStart => exact ⟨0, some ⟨W1.heap.size, 0, none⟩, 1, Nat.zero_le _, rfl, rfl, Row.one W1 W1.heap.size x (Nat.le_refl _), (Below.refl _ _).alloc (Nat.le_refl _) _⟩
        case round =>
          obtain ⟨j, A2, c2, hj, rfl, rfl, ho2, hb2⟩ := hrel
          have HO2 := Lib.hid ho2
          have HB2 := Lib.hid hb2
          have HBW := Lib.hid (B1.out.trans (hb2.mono B1.out.size))
          have e0 := CD.out _ HBW.out
          obtain ⟨m, hm⟩ : ∃ m, m = (usn (U.take j) x).length := ⟨_, rfl⟩
          rw [← hm]
          rw [← hm] at HO2
          have HMM := Lib.hid hm
          have HM2 : Hid (m ≤ 201) := by
            show m ≤ 201
            have h1 := usn_len (U.take j) x
            have h2 := HL.out
            rw [List.length_take] at h1
            omega
          clear ho2 hb2 hm
          by_cases hju : j < U.length
          · obtain ⟨b2, o2, rfl, k2⟩ := SU.out.get HB2.out (k := j) (s := U[j]) (List.getElem?_eq_getElem hju)
            have hjn : (j : Int) < (nU : Int) := by have := HNU.out; omega
            have hj0 : (0 : Int) ≤ (j : Int) := by omega
            by_cases hxy : U[j] = x
            · have HST : Hid (usn (U.take (j + 1)) x = usn (U.take j) x) := by show _ = _; rw [usn_step hju, if_pos hxy]
              rw [hxy] at k2
              clear hxy
              go_wp2
              go_roundw
              case rel => exact ⟨j + 1, A2, c2, by omega, by go_num, by rw [HST.out, HMM.out], by rw [HST.out]; exact HO2.out, HB2.out⟩
              case measure => simp [intOf]; have := HNU.out; omega
            · have HST : Hid (usn (U.take (j + 1)) x = usn (U.take j) x ++ [U[j]]) := by show _ = _; rw [usn_step hju, if_neg hxy]
              have hxy' : (U[j].toList == x.toList) = false := toList_ne hxy
              obtain ⟨A3, c3, w3, hr3, o3, f3⟩ := HO2.out.append U[j] HB2.out.size (by rw [← HMM.out]; have := HM2.out; omega)
              rw [← HMM.out] at hr3 o3
              have R3 := Lib.hid hr3
              have O3 := Lib.hid o3
              have B3 := Lib.hid (HB2.out.trans f3.below)
              have HLN3 : Hid ((usn (U.take (j + 1)) x).length = m + 1) := by show _ = _; rw [HST.out, List.length_append, ← HMM.out]; rfl
              generalize U[j] = y at k2 hxy' R3 O3 HST
              clear hr3 o3 f3 hxy
              go_wp2_with (at_builtin; refine wpList_append_run rfl _ _ 32 32 rfl _ _ rfl rfl _ w3 R3.out ?_)
              go_roundw
              case rel => exact ⟨j + 1, A3, c3, by omega, by go_num, by rw [HLN3.out], by rw [HST.out]; exact O3.out, B3.out⟩
              case measure => simp [intOf]; have := HNU.out; omega
          · have hje : j = U.length := by omega
            have hjn : ¬ (j : Int) < (nU : Int) := by have := HNU.out; omega
            have HST : Hid (usn (U.take j) x = usn U x) := by show _ = _; rw [hje, List.take_length]
            have HLN3 : Hid ((usn U x).length = m) := by show _ = _; rw [← HST.out, ← HMM.out]
            have HUL := Lib.hid (usn_len U x)
            have M2 := Lib.hid (M1.out.below HB2.out)
            have O2 : Hid (Row wr w.heap.size (.slice A2 m c2) (usn U x)) := by
              show Row _ _ _ _
              rw [← HST.out]
              exact HO2.out.down B1.out.size
            clear hje
            go_wp2
            go_roundw
            case rel => exact ⟨k + 1, usn U x, L2, A2, c2, by omega, by have := HE.out; omega, by go_num, by rw [HLN3.out], O2.out, M2.out, HBW.out, HINV.out, by have := HUL.out; have := HL.out; omega, HLN.out⟩
            case measure => simp [intOf]; omega
      | none =>
        have HINV := Lib.hid (HI.out.put (n := (k : Int)) (by have := HRS.out; omega) hf)
        rw [usd_miss hf, hf] at C5
        have HLN := Lib.hid (Nat.le_trans (putL_len (r : Int) 0 L ⟨x, (s : Int), (k : Int)⟩) (Nat.succ_le_succ HL.out.2.1))
        clear hf
        go_wp2_with fail
        refine C5.out.mono ?_
        rintro e' W0 ⟨rfl, cc, ff⟩
        simp only [getV]
        have M0 := Lib.hid cc
        have O0 := Lib.hid (HO.out.fr ff (by simp [cK]))
        have B0 := Lib.hid (HB.out.trans ff.below)
        have d0' := CD.out _ B0.out
        clear cc ff C5
        go_wp2_with fail
        refine (C6.out _ M0.out B0.out.size).mono ?_
        rintro e' W1 ⟨v1, rfl, _, cc, ff⟩
        have M1 := Lib.hid cc
        have O1 := Lib.hid (O0.out.fr ff (by simp [cK]))
        have B1 := Lib.hid (B0.out.trans ff.below)
        have d0 := CD.out _ B1.out
        clear cc ff M0 O0 B0 d0'
        generalize putL (r : Int) 0 L ⟨x, (s : Int), (k : Int)⟩ = L2 at HINV HLN M1
        have SU := Lib.hid (row_strs O1.out (by have := HL.out; unfold maxLen; omega))
        obtain ⟨nU, hnU⟩ : ∃ nU, nU = U.length := ⟨_, rfl⟩
        rw [← hnU]
        have HNU := Lib.hid hnU
        have hU2 : (nU : Int) ≤ 200 := by have := HL.out; omega
        clear hnU O1 HO HM HB HI c0 C6
        go_wp2
        go_loopw [12, 62] (InRel U x W1) (fun _ i _ => nU - (intOf i).toNat)
        case atStart => exact ⟨0, some ⟨W1.heap.size, 0, none⟩, 1, Nat.zero_le _, rfl, rfl, Row.one W1 W1.heap.size x (Nat.le_refl _), (Below.refl _ _).alloc (Nat.le_refl _) _⟩
        case round =>
          obtain ⟨j, A2, c2, hj, rfl, rfl, ho2, hb2⟩ := hrel
          have HO2 := Lib.hid ho2
          have HB2 := Lib.hid hb2
          have HBW := Lib.hid (B1.out.trans (hb2.mono B1.out.size))
          have e0 := CD.out _ HBW.out
          obtain ⟨m, hm⟩ : ∃ m, m = (usn (U.take j) x).length := ⟨_, rfl⟩
          rw [← hm]
          rw [← hm] at HO2
          have HMM := Lib.hid hm
          have HM2 : Hid (m ≤ 201) := by
            show m ≤ 201
            have h1 := usn_len (U.take j) x
            have h2 := HL.out
            rw [List.length_take] at h1
            omega
          clear ho2 hb2 hm
          by_cases hju : j < U.length
          · obtain ⟨b2, o2, rfl, k2⟩ := SU.out.get HB2.out (k := j) (s := U[j]) (List.getElem?_eq_getElem hju)
            have hjn : (j : Int) < (nU : Int) := by have := HNU.out; omega
            have hj0 : (0 : Int) ≤ (j : Int) := by omega
            by_cases hxy : U[j] = x
            · have HST : Hid (usn (U.take (j + 1)) x = usn (U.take j) x) := by show _ = _; rw [usn_step hju, if_pos hxy]
              rw [hxy] at k2
              clear hxy
              go_wp2
              go_roundw
              case rel => exact ⟨j + 1, A2, c2, by omega, by go_num, by rw [HST.out, HMM.out], by rw [HST.out]; exact HO2.out, HB2.out⟩
              case measure => simp [intOf]; have := HNU.out; omega
            · have HST : Hid (usn (U.take (j + 1)) x = usn (U.take j) x ++ [U[j]]) := by show _ = _; rw [usn_step hju, if_neg hxy]
              have hxy' : (U[j].toList == x.toList) = false := toList_ne hxy
              obtain ⟨A3, c3, w3, hr3, o3, f3⟩ := HO2.out.append U[j] HB2.out.size (by rw [← HMM.out]; have := HM2.out; omega)
              rw [← HMM.out] at hr3 o3
              have R3 := Lib.hid hr3
              have O3 := Lib.hid o3
              have B3 := Lib.hid (HB2.out.trans f3.below)
              have HLN3 : Hid ((usn (U.take (j + 1)) x).length = m + 1) := by show _ = _; rw [HST.out, List.length_append, ← HMM.out]; rfl
              generalize U[j] = y at k2 hxy' R3 O3 HST
              clear hr3 o3 f3 hxy
              go_wp2_with (at_builtin; refine wpList_append_run rfl _ _ 32 32 rfl _ _ rfl rfl _ w3 R3.out ?_)
              go_roundw
              case rel => exact ⟨j + 1, A3, c3, by omega, by go_num, by rw [HLN3.out], by rw [HST.out]; exact O3.out, B3.out⟩
              case measure => simp [intOf]; have := HNU.out; omega
          · have hje : j = U.length := by omega
            have hjn : ¬ (j : Int) < (nU : Int) := by have := HNU.out; omega
            have HST : Hid (usn (U.take j) x = usn U x) := by show _ = _; rw [hje, List.take_length]
            have HLN3 : Hid ((usn U x).length = m) := by show _ = _; rw [← HST.out, ← HMM.out]
            have HUL := Lib.hid (usn_len U x)
            have M2 := Lib.hid (M1.out.below HB2.out)
            have O2 : Hid (Row wr w.heap.size (.slice A2 m c2) (usn U x)) := by
              show Row _ _ _ _
              rw [← HST.out]
              exact HO2.out.down B1.out.size
            clear hje
            go_wp2
            go_roundw
            case rel => exact ⟨k + 1, usn U x, L2, A2, c2, by omega, by have := HE.out; omega, by go_num, by rw [HLN3.out], O2.out, M2.out, HBW.out, HINV.out, by have := HUL.out; have := HL.out; omega, HLN.out⟩
            case measure => simp [intOf]; omega
    · skip
      have hcase : ¬ (k : Int) < (n : Int) ∨ ((k : Int) < (n : Int) ∧ ¬ (k : Int) < 200) := by omega
      have hsp : ¬ (s : Int) = 0 := by have := HRS.out; omega
      obtain ⟨q, hq⟩ : ∃ q, q = r / s := ⟨_, rfl⟩
      obtain ⟨m, hm⟩ : ∃ m, m = min U.length q := ⟨_, rfl⟩
      clear er es hr0' hs0'
      have hq2 : q ≤ 256 := by
        have h1 := HRS.out
        have h2 : r / s ≤ r := Nat.div_le_self _ _
        omega
      have HWQ : Hid (wrap64 (q : Int) = (q : Int)) := by
        show wrap64 (q : Int) = (q : Int)
        unfold wrap64
        omega
      have hdiv : Int.tdiv (r : Int) (s : Int) = (q : Int) := by rw [hq]; rfl
      have hmin : ∀ w, (Builtin.min_ #[3, 3] 3 #[.int .i64 (U.length : Int), .int .i64 (q : Int)]).run Try.prog w = .ok (.int .i64 (m : Int)) w := fun w => run_min2 w _ _ _ _ _ (by omega)
      have hcu : U.length ≤ cu := by
        obtain ⟨A', c', e, _⟩ := HO.out.strs (by unfold maxLen; omega)
        rcases HO.out.2 with ⟨e2, e3⟩ | ⟨g', cap, cur, e2, _, _, hle, _⟩
        · have hU : U = [] := by simpa using e3
          rw [hU]
          exact Nat.zero_le _
        · injection e2 with _ e4 e5
          omega
      have CK : Hid (∀ W, CacheAt W w.heap.size g L (r : Int) 0 → Calls Try.prog 27 #[.pointer (some ⟨g, 0, none⟩)] W fun r w' => ∃ A c, r = .returned (.slice A m c) ∧ Strs w' A (U.take m) ∧ Below W.heap.size W w') := fun W hW => by
        refine (keys_any _ g L (r : Int) 0 W hW (by omega)).mono ?_
        rintro r' w' ⟨v, rfl, ho, hb⟩
        obtain ⟨A, c, rfl, hs⟩ := ho.strs (by rw [keys_length]; unfold maxLen; omega)
        have e1 : keys L = U.take m := by
          rw [HI.out.eq, ← hq, hm]
          by_cases hl : U.length ≤ q
          · rw [Nat.min_eq_left hl, List.take_length, List.take_of_length_le hl]
          · rw [Nat.min_eq_right (by omega)]
        have e2 : (keys L).length = m := by rw [e1, List.length_take]; omega
        rw [e2]
        rw [e1] at hs
        exact ⟨A, c, rfl, hs, hb⟩
      have CS : Hid (∀ W A c, Strs W A (U.take m) → Strs W Au (U.take m) → Calls Try.prog 13 #[.slice A m c, .slice Au m cu] W fun e w' => e = .returned (.bool true) ∧ Below W.heap.size W w') := fun W A c h1 h2 => by
        have := same_any (U.take m) (U.take m) A Au m m c cu W h1 h2 (by rw [List.length_take]; omega) (by rw [List.length_take]; omega)
        rw [show decide (U.take m = U.take m) = true by simp] at this
        exact this
      have SU : Hid (∀ W, Below wr.heap.size wr W → Strs W Au (U.take m)) := fun W hW => by
        have hst := row_strs (HO.out.below hW) (by unfold maxLen; omega)
        refine ⟨by rw [List.length_take]; have := hst.1; omega, fun h0 => ?_⟩
        obtain ⟨b, off, e1, e2, e3⟩ := hst.2 (by rw [List.length_take] at h0; omega)
        exact ⟨b, off, e1, e2, fun i s hi => e3 i s (by rw [List.getElem?_take] at hi; split at hi; exact hi; cases hi)⟩
      have hmc : (m : Int) ≤ (cu : Int) := by omega
      have hm0 : (0 : Int) ≤ (m : Int) := by omega
      have hmU : (m : Int) ≤ (U.length : Int) := by omega
      have BD : Hid (Below wr.heap.size wr wr.drew) := (Below.refl _ _).drew
      obtain ⟨e1, B1, hbox⟩ := HM.out.box
      have x0 := hbox.c0
      have XC : Hid (∀ W, Below wr.heap.size wr W → W.cell? ⟨g, 0, none⟩ = some (.pointer (some ⟨e1, 0, none⟩))) := fun W hW => (hW.cell (p := ⟨g, 0, none⟩) hbox.lt).trans hbox.c0
      obtain ⟨nU, hnU⟩ : ∃ nU, nU = U.length := ⟨_, rfl⟩
      rw [← hnU]
      rw [← hnU] at hmin hmU
      clear hlt hk2 hkl hlen hul HO HI hq hm hcu hnU hbox hq2
      have hwq := HWQ.out
      rcases hcase with hc1 | ⟨hc1, hc2⟩
      all_goals
        go_wp2_with fail
        go_region_held3 (fun w' => w'.cell? ⟨g, 0, none⟩ = some (.pointer (some ⟨e1, 0, none⟩))) (first | go_keep | exact xa | exact xb)
          (first
            | (go_at_call 27; (with_reducible refine (CK.out _ ?hh).mono ?_); (case hh => exact HM.out.below BD.out); rintro r' wa ⟨Aa, ca, rfl, sa, ba⟩; have BA := Lib.hid (BD.out.trans (ba.mono BD.out.size)); have SA := Lib.hid sa; have xa := XC.out _ BA.out; clear sa ba)
            | (go_at_call 13; (with_reducible refine (CS.out _ _ _ SA.out (SU.out _ BA.out)).mono ?_); rintro r' wb ⟨rfl, bb⟩; have BB := Lib.hid (BA.out.trans (bb.mono BA.out.size)); have xb := XC.out _ BB.out; clear bb))
        go_wp2
        go_ret
        exact ⟨rfl, HB.out.trans (BB.out.mono HB.out.size)⟩
end Go.Proofs.Ytmhpngfkipooiaa

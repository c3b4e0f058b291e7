/-
  The walk of PackReads. Its conditions: the bytes take at most 2^47 bytes, as every slice that is read does.
-/
import Derived.Test.YthcmijppemochaaW27
import Derived.Deep.RegionWith
namespace Go.Proofs.Ythcmijppemochaa
open Go.RowKit

theorem rr_new {w : World} {A : Option Addr} {c : Nat} {b : List Nat} {t : TypeId} : RR (w.alloc (.cells #[.slice A b.length c, .int .i64 0, .bool false] t)) w.heap.size A c b (some b) :=
  ⟨0, false, Nat.zero_le _, ⟨t, heap_new _ _⟩, .inr ⟨rfl, rfl⟩⟩
theorem in_new {w : World} {B g n : Nat} {v : Value} {A : Option Addr} {ci : Nat} {l : List Nat} (h : w.ownsRow 0 5 1 v l.length (vals l)) (hv : v = .slice A l.length ci) (hl : ∀ x ∈ l, x < 256) (hn : l.length = n) (hB : ∀ a, A = some a → B ≤ a.block ∧ a.block < g) : InRow w B g A n := by
  subst hn hv
  intro hp
  rcases h.2 with ⟨_, hz⟩ | ⟨q, cap, cur, hv, _, hqq, h1, _, h3, h4⟩
  · omega
  · injection hv with hA _ _
    subst hA
    have hb := hB _ rfl
    refine ⟨q, rfl, hb.1, hb.2, cur, hqq, fun i hi => ⟨l[i], hl _ (List.getElem_mem hi), ?_⟩⟩
    have h2 : (cur.toList.take (l.length * 1))[i]? = some (.int .u8 (l[i] : Int)) := by rw [h4, vals, List.getElem?_map, List.getElem?_eq_getElem hi]; rfl
    rw [List.getElem?_take, if_pos (by omega), Array.getElem?_toList] at h2
    exact h2
theorem got_slice {w w' : World} {L : List Nat} {A : Option Addr} {n c : Nat} (h : Got w w' L (.slice A n c)) : Bytes w' A L ∧ (A = none → c = 0) ∧ (∀ a, A = some a → w.heap.size ≤ a.block ∧ a.block < w'.heap.size) ∧ Below w.heap.size w w' := by
  obtain ⟨A', c', h1, h2, h3, h4, h5, h6, h7⟩ := h
  injection h1 with e1 e2 e3
  subst e1 e3
  exact ⟨h2, h5, h6, h7⟩
theorem St.bytes {w w1 w' : World} {g r h : Nat} {A Ai : Option Addr} {c : Nat} {b : List Nat} {s t : Option (List Nat)} (st : St w1 g r h A Ai c b s t w') (ha : Bytes w A b) (hb : Below w.heap.size w w1) : Bytes w' A b := ha.below (hb.trans (st.2.2.2.1.mono hb.size))
theorem St.bel {w w1 w' : World} {g r h : Nat} {A Ai : Option Addr} {c : Nat} {b : List Nat} {s t : Option (List Nat)} (st : St w1 g r h A Ai c b s t w') (hb : Below w.heap.size w w1) : Below w.heap.size w w' := hb.trans (st.2.2.2.1.mono hb.size)
theorem new_ask {w : World} {a b : Value} {t : TypeId} : ∀ w3 {g : Nat}, Only (fun k => k = g) (w.alloc (.cells #[a, b] t)) w3 → g ≠ w.heap.size → w3.cell? ⟨w.heap.size, 1, none⟩ = some b := by
  intro w3 g ho hg
  have hb : w3.heap[w.heap.size]? = some (.cells #[a, b] t (0, 0)) := by
    rw [ho.block w.heap.size (by simp) (fun e => hg e.symm)]
    exact heap_new _ _
  simp [World.cell?, hb]
set_option maxHeartbeats 6000000 in
set_option maxRecDepth 100000 in
theorem reads_walk (b : List Nat) (asks : List Aq) (A B : Option Addr) (c d : Nat) (w : World) (hb : Bytes w A b) (hA : A = none → c = 0) (hc : b.length ≤ c) (hm : b.length ≤ 140737488355328) (hq : Asks w B asks) :
    Calls Try.prog 4 #[.slice A b.length c, .slice B asks.length d] w fun e w' => e = .returned (.bool true) ∧ Below w.heap.size w w' := by
  have HA := Lib.hid hb
  have HN := Lib.hid hA
  have HC := Lib.hid hc
  have HM := Lib.hid hm
  have HQ := Lib.hid hq
  clear hb hA hc hm hq
  go_enter Try.func4, Try.ntmps4
  go_wp2_with (first
    | (go_at_call 9; refine (awake_any _).mono ?_; rintro e w1 ⟨rfl, hb⟩; have HB := Lib.hid hb; clear hb; obtain ⟨vi, w2, hri, hgi, hoi⟩ := append_new (HA.out.below HB.out) HN.out HM.out 25; obtain ⟨Ai, ci, rfl⟩ := owns_form hoi; have HRI := Lib.hid hri; have HGI := Lib.hid hgi; have HOI := Lib.hid hoi; clear hri hgi hoi)
    | (at_builtin; refine wpList_append_run rfl _ _ 25 25 rfl _ _ rfl rfl _ w2 HRI.out ?_))
  obtain ⟨y1, y2, y3, y4⟩ := got_slice HGI.out
  have HY3 := Lib.hid y3
  have HB2 := Lib.hid y4
  have KR := Lib.hid (read_any b Ai ci w2 y1 y2 HM.out)
  clear y1 y2 y3 y4
  refine KR.out.mono ?_
  rintro e w3 ⟨r, rfl, hs3, hb3, hr3⟩
  have ST0 : Hid (St w1 w2.heap.size r w3.heap.size A Ai c b (some b) (some b) (w3.alloc (.cells #[.slice A b.length c, .int .i64 0, .bool false] 41))) := by
    have hb4 : Below w3.heap.size w3 (w3.alloc (.cells #[.slice A b.length c, .int .i64 0, .bool false] 41)) := (Below.refl _ _).alloc (Nat.le_refl _) _
    have hin : InRow w2 w1.heap.size w2.heap.size Ai b.length := in_new HOI.out rfl HA.out.1 rfl HY3.out
    have hin3 : InRow w3 w1.heap.size w2.heap.size Ai b.length := hin.only (S := fun _ => False) (Only.of_below hb3) (fun _ h => h.elim)
    refine ⟨hs3.below hb4, rr_new, hin3.only (S := fun _ => False) (Only.of_below hb4) (fun _ h => h.elim), (HB2.out.trans (hb3.mono HB2.out.size)).alloc (Nat.le_trans HB2.out.size hb3.size) _, hr3, hs3.1, hs3.lt, HB2.out.size⟩
  clear hs3 hb3 hr3
  go_wp2
  go_loopw [9] (ReadsRel w1 w2.heap.size r w3.heap.size A Ai c b asks.length) (fun i _ => 100 - (intOf i).toNat)
  case atStart => exact ⟨0, some b, rfl, Nat.zero_le _, by omega, ST0.out⟩
  case round =>
    obtain ⟨k, s, rfl, hk, hk1, hst⟩ := hrel
    have HST := Lib.hid hst
    have HWR : Hid (Below w.heap.size w wr) := HB.out.trans (hst.2.2.2.1.mono HB.out.size)
    have HHO : Hid (0 < b.length → ∀ ad, A = some ad → ad.block ≠ w3.heap.size) := by
      intro hp ad had
      obtain ⟨b9, o9, e9, h9, _⟩ := HA.out.2.2 hp
      rw [e9] at had
      injection had with had
      subst had
      have h1 := HB.out.size
      have h2 := hst.2.2.2.2
      show b9 ≠ _
      omega
    clear hst
    by_cases hlt : k < asks.length ∧ (k : Int) < 100
    · obtain ⟨h1, h2⟩ := hlt
      obtain ⟨bb, off, rfl, hbl, hq0, hq1⟩ := (HQ.out.below HWR.out).at_ h1
      obtain ⟨x, hx⟩ : ∃ x, asks[k] = x := ⟨_, rfl⟩
      rw [hx] at hq0 hq1
      have hz0 : (0 : Int) ≤ (k : Int) := by omega
      clear hx
      have HBB : Hid (bb < w1.heap.size) := by
        obtain ⟨b9, o9, e9, h9, _⟩ := HQ.out.2 (by omega)
        injection e9 with e9
        injection e9 with e9 _
        subst e9
        have := HB.out.size
        show _ < _
        omega
      by_cases hK0 : x.K = 0
      · rw [hK0] at hq0
        clear hK0
        by_cases hkn : k < b.length
        · skip
          obtain ⟨q, v, hAi, hqB, hqg, hv, hvc, hvf⟩ := HST.out.2.2.1.at_ hkn
          subst hAi
          have hne : ¬ bb = q := by
            have h1 := HBB.out
            omega
          have hST1 := HST.out.inc hkn ((v + 1) % 256) (Nat.mod_lt _ (by omega))
          rw [show (((v + 1) % 256 : Nat) : Int) = ((v : Int) + 1) % 256 by omega] at hST1
          have S2 := Lib.hid (hST1.alloc (.cells #[.int .i64 0, .int .i64 x.M] 43))
          have hX : (wr.setCell ⟨q, k, none⟩ (.int .u8 (((v : Int) + 1) % 256))).heap.size = wr.heap.size := set_size _ _ _
          have HXS := Lib.hid hX
          clear hST1 hX hqB hqg
          have K1 := rnum_any w2.heap.size r s ((wr.setCell ⟨q, k, none⟩ (.int .u8 (((v : Int) + 1) % 256))).alloc (.cells #[.int .i64 0, .int .i64 x.M] 43)) S2.out.1
          obtain ⟨y, hy⟩ : ∃ y : Int, (((Pk.rcount s 9007199254740992).1 : Nat) : Int) = y := ⟨_, rfl⟩
          rw [hy] at K1
          have KH := Lib.hid K1
          have HY := Lib.hid hy
          clear K1 hy
          go_wp2_with fail
          refine KH.out.mono ?_
          rintro e w5 ⟨rfl, hs5, ho5⟩
          have S5 := Lib.hid (S2.out.read ho5 hs5)
          have K2 := refnum_any w3.heap.size A c b s 9007199254740992 w5 S5.out.2.1 (S5.out.bytes HA.out HB.out) HC.out HM.out
          rw [HY.out] at K2
          have KH2 := Lib.hid K2
          clear hs5 ho5 K2
          go_wp2_with fail
          refine KH2.out.mono ?_
          rintro e w6 ⟨rfl, hr6, ho6⟩
          have S6 := Lib.hid (S5.out.ref ho6 hr6)
          clear hr6 ho6
          go_wp2_with fail
          refine (rnum_nil w6).mono ?_
          rintro e w7 ⟨rfl, rfl⟩
          go_wp2
          go_roundw
          case rel => exact ⟨k + 1, _, by go_num, by omega, by omega, S6.out⟩
          case measure => simp [intOf]; omega
        · skip
          have S2 := Lib.hid (HST.out.alloc (.cells #[.int .i64 0, .int .i64 x.M] 43))
          have K1 := rnum_any w2.heap.size r s (wr.alloc (.cells #[.int .i64 0, .int .i64 x.M] 43)) S2.out.1
          obtain ⟨y, hy⟩ : ∃ y : Int, (((Pk.rcount s 9007199254740992).1 : Nat) : Int) = y := ⟨_, rfl⟩
          rw [hy] at K1
          have KH := Lib.hid K1
          have HY := Lib.hid hy
          clear K1 hy
          go_wp2_with fail
          refine KH.out.mono ?_
          rintro e w5 ⟨rfl, hs5, ho5⟩
          have S5 := Lib.hid (S2.out.read ho5 hs5)
          have K2 := refnum_any w3.heap.size A c b s 9007199254740992 w5 S5.out.2.1 (S5.out.bytes HA.out HB.out) HC.out HM.out
          rw [HY.out] at K2
          have KH2 := Lib.hid K2
          clear hs5 ho5 K2
          go_wp2_with fail
          refine KH2.out.mono ?_
          rintro e w6 ⟨rfl, hr6, ho6⟩
          have S6 := Lib.hid (S5.out.ref ho6 hr6)
          clear hr6 ho6
          go_wp2_with fail
          refine (rnum_nil w6).mono ?_
          rintro e w7 ⟨rfl, rfl⟩
          go_wp2
          go_roundw
          case rel => exact ⟨k + 1, _, by go_num, by omega, by omega, S6.out⟩
          case measure => simp [intOf]; omega
      · by_cases hK1 : x.K = 1
        · rw [hK1] at hq0
          clear hK0 hK1
          by_cases hkn : k < b.length
          · skip
            obtain ⟨q, v, hAi, hqB, hqg, hv, hvc, hvf⟩ := HST.out.2.2.1.at_ hkn
            subst hAi
            have hne : ¬ bb = q := by
              have h1 := HBB.out
              omega
            have hST1 := HST.out.inc hkn ((v + 1) % 256) (Nat.mod_lt _ (by omega))
            rw [show (((v + 1) % 256 : Nat) : Int) = ((v : Int) + 1) % 256 by omega] at hST1
            have S2 := Lib.hid (hST1.alloc (.cells #[.int .i64 1, .int .i64 x.M] 43))
            have hX : (wr.setCell ⟨q, k, none⟩ (.int .u8 (((v : Int) + 1) % 256))).heap.size = wr.heap.size := set_size _ _ _
            have HXS := Lib.hid hX
            clear hST1 hX hqB hqg
            have K1 := rflag_any w2.heap.size r s ((wr.setCell ⟨q, k, none⟩ (.int .u8 (((v : Int) + 1) % 256))).alloc (.cells #[.int .i64 1, .int .i64 x.M] 43)) S2.out.1
            obtain ⟨y, hy⟩ : ∃ y, rflagB s = y := ⟨_, rfl⟩
            rw [hy] at K1
            have KH := Lib.hid K1
            have HY := Lib.hid hy
            clear K1 hy
            go_wp2_with fail
            refine KH.out.mono ?_
            rintro e w5 ⟨rfl, hs5, ho5⟩
            have S5 := Lib.hid (S2.out.read ho5 hs5)
            have K2 := refflag_any w3.heap.size A c b s w5 S5.out.2.1 (S5.out.bytes HA.out HB.out) HHO.out HM.out
            rw [HY.out] at K2
            have KH2 := Lib.hid K2
            clear hs5 ho5 K2
            go_wp2_with fail
            refine KH2.out.mono ?_
            rintro e w6 ⟨rfl, hr6, ho6⟩
            have S6 := Lib.hid (S5.out.ref ho6 hr6)
            clear hr6 ho6
            go_wp2_with fail
            refine (rflag_nil w6).mono ?_
            rintro e w7 ⟨rfl, rfl⟩
            go_wp2
            go_roundw
            case rel => exact ⟨k + 1, _, by go_num, by omega, by omega, S6.out⟩
            case measure => simp [intOf]; omega
          · skip
            have S2 := Lib.hid (HST.out.alloc (.cells #[.int .i64 1, .int .i64 x.M] 43))
            have K1 := rflag_any w2.heap.size r s (wr.alloc (.cells #[.int .i64 1, .int .i64 x.M] 43)) S2.out.1
            obtain ⟨y, hy⟩ : ∃ y, rflagB s = y := ⟨_, rfl⟩
            rw [hy] at K1
            have KH := Lib.hid K1
            have HY := Lib.hid hy
            clear K1 hy
            go_wp2_with fail
            refine KH.out.mono ?_
            rintro e w5 ⟨rfl, hs5, ho5⟩
            have S5 := Lib.hid (S2.out.read ho5 hs5)
            have K2 := refflag_any w3.heap.size A c b s w5 S5.out.2.1 (S5.out.bytes HA.out HB.out) HHO.out HM.out
            rw [HY.out] at K2
            have KH2 := Lib.hid K2
            clear hs5 ho5 K2
            go_wp2_with fail
            refine KH2.out.mono ?_
            rintro e w6 ⟨rfl, hr6, ho6⟩
            have S6 := Lib.hid (S5.out.ref ho6 hr6)
            clear hr6 ho6
            go_wp2_with fail
            refine (rflag_nil w6).mono ?_
            rintro e w7 ⟨rfl, rfl⟩
            go_wp2
            go_roundw
            case rel => exact ⟨k + 1, _, by go_num, by omega, by omega, S6.out⟩
            case measure => simp [intOf]; omega
        · by_cases hK2 : x.K = 2
          · rw [hK2] at hq0
            clear hK0 hK1 hK2
            by_cases hkn : k < b.length
            · skip
              obtain ⟨q, v, hAi, hqB, hqg, hv, hvc, hvf⟩ := HST.out.2.2.1.at_ hkn
              subst hAi
              have hne : ¬ bb = q := by
                have h1 := HBB.out
                omega
              have hST1 := HST.out.inc hkn ((v + 1) % 256) (Nat.mod_lt _ (by omega))
              rw [show (((v + 1) % 256 : Nat) : Int) = ((v : Int) + 1) % 256 by omega] at hST1
              have S2 := Lib.hid (hST1.alloc (.cells #[.int .i64 2, .int .i64 x.M] 43))
              have hX : (wr.setCell ⟨q, k, none⟩ (.int .u8 (((v : Int) + 1) % 256))).heap.size = wr.heap.size := set_size _ _ _
              have HXS := Lib.hid hX
              clear hST1 hX hqB hqg
              have K1 : ∀ w', St w1 w2.heap.size r w3.heap.size A (some ⟨q, 0, none⟩) c b s s w' → Calls Try.prog 22 #[.pointer (some ⟨w2.heap.size, 0, none⟩), .int .i64 x.M] w' (RPost w' w2.heap.size r (.string (textOf (Pk.rtext s x.M).1)) (Pk.rtext s x.M).2) := fun w' st => rtext_any w2.heap.size r s x.M w' st.1
              have K2 : ∀ w', St w1 w2.heap.size r w3.heap.size A (some ⟨q, 0, none⟩) c b (Pk.rtext s x.M).2 s w' → Calls Try.prog 23 #[.pointer (some ⟨w3.heap.size, 0, none⟩), .int .i64 x.M] w' (RfPost w' w3.heap.size A c b (.string (textOf (Pk.rtext s x.M).1)) (Pk.rtext s x.M).2) := fun w' st => reftext_any w3.heap.size A c b s x.M w' st.2.1 (st.bytes HA.out HB.out) HHO.out HC.out HM.out
              have K3 : Hid (∀ w', St w1 w2.heap.size r w3.heap.size A (some ⟨q, 0, none⟩) c b (Pk.rtext s x.M).2 s w' → ∀ w2', RR w2' w3.heap.size A c b (Pk.rtext s x.M).2 → Only (fun k => k = w3.heap.size) w' w2' → St w1 w2.heap.size r w3.heap.size A (some ⟨q, 0, none⟩) c b (Pk.rtext s x.M).2 (Pk.rtext s x.M).2 w2') := fun w' st w2' h1 h2 => st.ref h2 h1
              obtain ⟨y, hy⟩ : ∃ y, textOf (Pk.rtext s x.M).1 = y := ⟨_, rfl⟩
              rw [hy] at K1 K2
              have KH1 := Lib.hid K1
              have KH2 := Lib.hid K2
              obtain ⟨s2, hs2⟩ : ∃ s2, (Pk.rtext s x.M).2 = s2 := ⟨_, rfl⟩
              rw [hs2] at KH1 KH2 K3
              have hX0 := new_ask (w := (wr.setCell ⟨q, k, none⟩ (.int .u8 (((v : Int) + 1) % 256)))) (a := .int .i64 2) (b := .int .i64 x.M) (t := 43)
              rw [HXS.out] at hX0
              have HX0 := Lib.hid hX0
              have HGX : Hid (w2.heap.size ≠ wr.heap.size) := by have h1 := HST.out.1.lt; show _ ≠ _; omega
              clear K1 K2 hy hs2 hX0
              go_wp2
              go_region_with (first
                | (go_at_call_of 22 (Value.pointer none); refine (rtext_nil 5 _).mono ?_; rintro e w7 ⟨rfl, rfl⟩)
                | (go_at_call 22; refine (KH1.out _ ?_).mono ?_; exact S2.out.drew; rintro e w5 ⟨rfl, hs5, ho5⟩; have S5 := Lib.hid (S2.out.drew.read ho5 hs5); have c5 := HX0.out w5 (((Only.refl (fun k => k = w2.heap.size) _).drew).same ho5) HGX.out; clear hs5 ho5)
                | (go_at_call 23; refine (KH2.out _ ?_).mono ?_; exact S5.out; rintro e w6 ⟨rfl, hr6, ho6⟩; have S6 := Lib.hid (K3.out _ S5.out _ hr6 ho6); clear hr6 ho6))
              all_goals
                go_wp2
                go_roundw
                case rel => exact ⟨k + 1, s2, by go_num, by omega, by omega, S6.out⟩
                case measure => simp [intOf]; omega
            · skip
              have S2 := Lib.hid (HST.out.alloc (.cells #[.int .i64 2, .int .i64 x.M] 43))
              have K1 : ∀ w', St w1 w2.heap.size r w3.heap.size A Ai c b s s w' → Calls Try.prog 22 #[.pointer (some ⟨w2.heap.size, 0, none⟩), .int .i64 x.M] w' (RPost w' w2.heap.size r (.string (textOf (Pk.rtext s x.M).1)) (Pk.rtext s x.M).2) := fun w' st => rtext_any w2.heap.size r s x.M w' st.1
              have K2 : ∀ w', St w1 w2.heap.size r w3.heap.size A Ai c b (Pk.rtext s x.M).2 s w' → Calls Try.prog 23 #[.pointer (some ⟨w3.heap.size, 0, none⟩), .int .i64 x.M] w' (RfPost w' w3.heap.size A c b (.string (textOf (Pk.rtext s x.M).1)) (Pk.rtext s x.M).2) := fun w' st => reftext_any w3.heap.size A c b s x.M w' st.2.1 (st.bytes HA.out HB.out) HHO.out HC.out HM.out
              have K3 : Hid (∀ w', St w1 w2.heap.size r w3.heap.size A Ai c b (Pk.rtext s x.M).2 s w' → ∀ w2', RR w2' w3.heap.size A c b (Pk.rtext s x.M).2 → Only (fun k => k = w3.heap.size) w' w2' → St w1 w2.heap.size r w3.heap.size A Ai c b (Pk.rtext s x.M).2 (Pk.rtext s x.M).2 w2') := fun w' st w2' h1 h2 => st.ref h2 h1
              obtain ⟨y, hy⟩ : ∃ y, textOf (Pk.rtext s x.M).1 = y := ⟨_, rfl⟩
              rw [hy] at K1 K2
              have KH1 := Lib.hid K1
              have KH2 := Lib.hid K2
              obtain ⟨s2, hs2⟩ : ∃ s2, (Pk.rtext s x.M).2 = s2 := ⟨_, rfl⟩
              rw [hs2] at KH1 KH2 K3
              have hX0 := new_ask (w := wr) (a := .int .i64 2) (b := .int .i64 x.M) (t := 43)
              skip
              have HX0 := Lib.hid hX0
              have HGX : Hid (w2.heap.size ≠ wr.heap.size) := by have h1 := HST.out.1.lt; show _ ≠ _; omega
              clear K1 K2 hy hs2 hX0
              go_wp2
              go_region_with (first
                | (go_at_call_of 22 (Value.pointer none); refine (rtext_nil 5 _).mono ?_; rintro e w7 ⟨rfl, rfl⟩)
                | (go_at_call 22; refine (KH1.out _ ?_).mono ?_; exact S2.out.drew; rintro e w5 ⟨rfl, hs5, ho5⟩; have S5 := Lib.hid (S2.out.drew.read ho5 hs5); have c5 := HX0.out w5 (((Only.refl (fun k => k = w2.heap.size) _).drew).same ho5) HGX.out; clear hs5 ho5)
                | (go_at_call 23; refine (KH2.out _ ?_).mono ?_; exact S5.out; rintro e w6 ⟨rfl, hr6, ho6⟩; have S6 := Lib.hid (K3.out _ S5.out _ hr6 ho6); clear hr6 ho6))
              all_goals
                go_wp2
                go_roundw
                case rel => exact ⟨k + 1, s2, by go_num, by omega, by omega, S6.out⟩
                case measure => simp [intOf]; omega
          · by_cases hK3 : x.K = 3
            · rw [hK3] at hq0
              clear hK0 hK1 hK2 hK3
              by_cases hkn : k < b.length
              · skip
                obtain ⟨q, v, hAi, hqB, hqg, hv, hvc, hvf⟩ := HST.out.2.2.1.at_ hkn
                subst hAi
                have hne : ¬ bb = q := by
                  have h1 := HBB.out
                  omega
                have hST1 := HST.out.inc hkn ((v + 1) % 256) (Nat.mod_lt _ (by omega))
                rw [show (((v + 1) % 256 : Nat) : Int) = ((v : Int) + 1) % 256 by omega] at hST1
                have S2 := Lib.hid (hST1.alloc (.cells #[.int .i64 3, .int .i64 x.M] 43))
                have hX : (wr.setCell ⟨q, k, none⟩ (.int .u8 (((v : Int) + 1) % 256))).heap.size = wr.heap.size := set_size _ _ _
                have HXS := Lib.hid hX
                clear hST1 hX hqB hqg
                have K1 : ∀ w', St w1 w2.heap.size r w3.heap.size A (some ⟨q, 0, none⟩) c b s s w' → Calls Try.prog 24 #[.pointer (some ⟨w2.heap.size, 0, none⟩), .int .i64 x.M] w' (RPost w' w2.heap.size r (.int .i64 (((Pk.rcount s x.M).1 : Nat) : Int)) (Pk.rcount s x.M).2) := fun w' st => count_any w2.heap.size r s x.M w' st.1
                have K2 : ∀ w', St w1 w2.heap.size r w3.heap.size A (some ⟨q, 0, none⟩) c b (Pk.rcount s x.M).2 s w' → Calls Try.prog 19 #[.pointer (some ⟨w3.heap.size, 0, none⟩), .int .i64 x.M] w' (RfPost w' w3.heap.size A c b (.int .i64 (((Pk.rcount s x.M).1 : Nat) : Int)) (Pk.rcount s x.M).2) := fun w' st => refnum_any w3.heap.size A c b s x.M w' st.2.1 (st.bytes HA.out HB.out) HC.out HM.out
                have K3 : Hid (∀ w', St w1 w2.heap.size r w3.heap.size A (some ⟨q, 0, none⟩) c b (Pk.rcount s x.M).2 s w' → ∀ w2', RR w2' w3.heap.size A c b (Pk.rcount s x.M).2 → Only (fun k => k = w3.heap.size) w' w2' → St w1 w2.heap.size r w3.heap.size A (some ⟨q, 0, none⟩) c b (Pk.rcount s x.M).2 (Pk.rcount s x.M).2 w2') := fun w' st w2' h1 h2 => st.ref h2 h1
                obtain ⟨y, hy⟩ : ∃ y : Int, (((Pk.rcount s x.M).1 : Nat) : Int) = y := ⟨_, rfl⟩
                rw [hy] at K1 K2
                have KH1 := Lib.hid K1
                have KH2 := Lib.hid K2
                obtain ⟨s2, hs2⟩ : ∃ s2, (Pk.rcount s x.M).2 = s2 := ⟨_, rfl⟩
                rw [hs2] at KH1 KH2 K3
                have hX0 := new_ask (w := (wr.setCell ⟨q, k, none⟩ (.int .u8 (((v : Int) + 1) % 256)))) (a := .int .i64 3) (b := .int .i64 x.M) (t := 43)
                rw [HXS.out] at hX0
                have HX0 := Lib.hid hX0
                have HGX : Hid (w2.heap.size ≠ wr.heap.size) := by have h1 := HST.out.1.lt; show _ ≠ _; omega
                clear K1 K2 hy hs2 hX0
                go_wp2
                go_region_with (first
                  | (go_at_call_of 24 (Value.pointer none); refine (count_nil 5 _).mono ?_; rintro e w7 ⟨rfl, rfl⟩)
                  | (go_at_call 24; refine (KH1.out _ ?_).mono ?_; exact S2.out.drew; rintro e w5 ⟨rfl, hs5, ho5⟩; have S5 := Lib.hid (S2.out.drew.read ho5 hs5); have c5 := HX0.out w5 (((Only.refl (fun k => k = w2.heap.size) _).drew).same ho5) HGX.out; clear hs5 ho5)
                  | (go_at_call 19; refine (KH2.out _ ?_).mono ?_; exact S5.out; rintro e w6 ⟨rfl, hr6, ho6⟩; have S6 := Lib.hid (K3.out _ S5.out _ hr6 ho6); clear hr6 ho6))
                all_goals
                  go_wp2
                  go_roundw
                  case rel => exact ⟨k + 1, s2, by go_num, by omega, by omega, S6.out⟩
                  case measure => simp [intOf]; omega
              · skip
                have S2 := Lib.hid (HST.out.alloc (.cells #[.int .i64 3, .int .i64 x.M] 43))
                have K1 : ∀ w', St w1 w2.heap.size r w3.heap.size A Ai c b s s w' → Calls Try.prog 24 #[.pointer (some ⟨w2.heap.size, 0, none⟩), .int .i64 x.M] w' (RPost w' w2.heap.size r (.int .i64 (((Pk.rcount s x.M).1 : Nat) : Int)) (Pk.rcount s x.M).2) := fun w' st => count_any w2.heap.size r s x.M w' st.1
                have K2 : ∀ w', St w1 w2.heap.size r w3.heap.size A Ai c b (Pk.rcount s x.M).2 s w' → Calls Try.prog 19 #[.pointer (some ⟨w3.heap.size, 0, none⟩), .int .i64 x.M] w' (RfPost w' w3.heap.size A c b (.int .i64 (((Pk.rcount s x.M).1 : Nat) : Int)) (Pk.rcount s x.M).2) := fun w' st => refnum_any w3.heap.size A c b s x.M w' st.2.1 (st.bytes HA.out HB.out) HC.out HM.out
                have K3 : Hid (∀ w', St w1 w2.heap.size r w3.heap.size A Ai c b (Pk.rcount s x.M).2 s w' → ∀ w2', RR w2' w3.heap.size A c b (Pk.rcount s x.M).2 → Only (fun k => k = w3.heap.size) w' w2' → St w1 w2.heap.size r w3.heap.size A Ai c b (Pk.rcount s x.M).2 (Pk.rcount s x.M).2 w2') := fun w' st w2' h1 h2 => st.ref h2 h1
                obtain ⟨y, hy⟩ : ∃ y : Int, (((Pk.rcount s x.M).1 : Nat) : Int) = y := ⟨_, rfl⟩
                rw [hy] at K1 K2
                have KH1 := Lib.hid K1
                have KH2 := Lib.hid K2
                obtain ⟨s2, hs2⟩ : ∃ s2, (Pk.rcount s x.M).2 = s2 := ⟨_, rfl⟩
                rw [hs2] at KH1 KH2 K3
                have hX0 := new_ask (w := wr) (a := .int .i64 3) (b := .int .i64 x.M) (t := 43)
                skip
                have HX0 := Lib.hid hX0
                have HGX : Hid (w2.heap.size ≠ wr.heap.size) := by have h1 := HST.out.1.lt; show _ ≠ _; omega
                clear K1 K2 hy hs2 hX0
                go_wp2
                go_region_with (first
                  | (go_at_call_of 24 (Value.pointer none); refine (count_nil 5 _).mono ?_; rintro e w7 ⟨rfl, rfl⟩)
                  | (go_at_call 24; refine (KH1.out _ ?_).mono ?_; exact S2.out.drew; rintro e w5 ⟨rfl, hs5, ho5⟩; have S5 := Lib.hid (S2.out.drew.read ho5 hs5); have c5 := HX0.out w5 (((Only.refl (fun k => k = w2.heap.size) _).drew).same ho5) HGX.out; clear hs5 ho5)
                  | (go_at_call 19; refine (KH2.out _ ?_).mono ?_; exact S5.out; rintro e w6 ⟨rfl, hr6, ho6⟩; have S6 := Lib.hid (K3.out _ S5.out _ hr6 ho6); clear hr6 ho6))
                all_goals
                  go_wp2
                  go_roundw
                  case rel => exact ⟨k + 1, s2, by go_num, by omega, by omega, S6.out⟩
                  case measure => simp [intOf]; omega
            · have n0 : (x.K == 0) = false := by simpa using hK0
              have n1 : (x.K == 1) = false := by simpa using hK1
              have n2 : (x.K == 2) = false := by simpa using hK2
              have n3 : (x.K == 3) = false := by simpa using hK3
              clear hK0 hK1 hK2 hK3
              by_cases hkn : k < b.length
              · skip
                obtain ⟨q, v, hAi, hqB, hqg, hv, hvc, hvf⟩ := HST.out.2.2.1.at_ hkn
                subst hAi
                have hne : ¬ bb = q := by
                  have h1 := HBB.out
                  omega
                have hST1 := HST.out.inc hkn ((v + 1) % 256) (Nat.mod_lt _ (by omega))
                rw [show (((v + 1) % 256 : Nat) : Int) = ((v : Int) + 1) % 256 by omega] at hST1
                have S2 := Lib.hid (hST1.alloc (.cells #[.int .i64 x.K, .int .i64 x.M] 43))
                have hX : (wr.setCell ⟨q, k, none⟩ (.int .u8 (((v : Int) + 1) % 256))).heap.size = wr.heap.size := set_size _ _ _
                have HXS := Lib.hid hX
                clear hST1 hX hqB hqg
                by_cases hs : s = some []
                · subst hs
                  have KE : Hid (∀ w', RS w' w2.heap.size r (some []) → Calls Try.prog 25 #[.pointer (some ⟨w2.heap.size, 0, none⟩)] w' fun e w'' => e = .returned (.int .i64 0) ∧ w' = w'') := fun w' h => rend_any w2.heap.size r (some []) w' h
                  have KW : Hid (∀ w', RR w' w3.heap.size A c b (some []) → Calls Try.prog 26 #[.pointer (some ⟨w3.heap.size, 0, none⟩)] w' fun e w'' => e = .returned (.bool true) ∧ Below w'.heap.size w' w'') := fun w' h => whole_any w3.heap.size A c b (some []) w' h
                  go_wp2_with fail
                  refine (KE.out _ S2.out.1).mono ?_
                  rintro e w5 ⟨rfl, rfl⟩
                  go_wp2_with fail
                  refine (KW.out _ S2.out.2.1).mono ?_
                  rintro e w5 ⟨rfl, hb5⟩
                  have S5 := Lib.hid (S2.out.later hb5)
                  clear hb5
                  go_wp2_with fail
                  refine (KW.out _ S5.out.2.1).mono ?_
                  rintro e w6 ⟨rfl, hb6⟩
                  have S6 := Lib.hid (S5.out.later hb6)
                  clear hb6
                  go_wp2
                  go_roundw
                  case rel => exact ⟨k + 1, _, by go_num, by omega, by omega, S6.out⟩
                  case measure => simp [intOf]; omega
                · have KE0 := rend_any w2.heap.size r s
                  have KW0 := whole_any w3.heap.size A c b s
                  rw [show Pk.rend s = 2 from if_neg hs] at KE0
                  rw [show wholeB s = false from decide_eq_false hs] at KW0
                  have KE := Lib.hid KE0
                  have KW := Lib.hid KW0
                  clear KE0 KW0 hs
                  go_wp2_with fail
                  refine (KE.out _ S2.out.1).mono ?_
                  rintro e w5 ⟨rfl, rfl⟩
                  go_wp2_with fail
                  refine (KW.out _ S2.out.2.1).mono ?_
                  rintro e w5 ⟨rfl, hb5⟩
                  have S5 := Lib.hid (S2.out.later hb5)
                  clear hb5
                  go_wp2_with fail
                  refine (KW.out _ S5.out.2.1).mono ?_
                  rintro e w6 ⟨rfl, hb6⟩
                  have S6 := Lib.hid (S5.out.later hb6)
                  clear hb6
                  go_wp2_with fail
                  refine (KE.out _ S6.out.1).mono ?_
                  rintro e w7 ⟨rfl, rfl⟩
                  go_wp2
                  go_roundw
                  case rel => exact ⟨k + 1, _, by go_num, by omega, by omega, S6.out⟩
                  case measure => simp [intOf]; omega
              · skip
                have S2 := Lib.hid (HST.out.alloc (.cells #[.int .i64 x.K, .int .i64 x.M] 43))
                by_cases hs : s = some []
                · subst hs
                  have KE : Hid (∀ w', RS w' w2.heap.size r (some []) → Calls Try.prog 25 #[.pointer (some ⟨w2.heap.size, 0, none⟩)] w' fun e w'' => e = .returned (.int .i64 0) ∧ w' = w'') := fun w' h => rend_any w2.heap.size r (some []) w' h
                  have KW : Hid (∀ w', RR w' w3.heap.size A c b (some []) → Calls Try.prog 26 #[.pointer (some ⟨w3.heap.size, 0, none⟩)] w' fun e w'' => e = .returned (.bool true) ∧ Below w'.heap.size w' w'') := fun w' h => whole_any w3.heap.size A c b (some []) w' h
                  go_wp2_with fail
                  refine (KE.out _ S2.out.1).mono ?_
                  rintro e w5 ⟨rfl, rfl⟩
                  go_wp2_with fail
                  refine (KW.out _ S2.out.2.1).mono ?_
                  rintro e w5 ⟨rfl, hb5⟩
                  have S5 := Lib.hid (S2.out.later hb5)
                  clear hb5
                  go_wp2_with fail
                  refine (KW.out _ S5.out.2.1).mono ?_
                  rintro e w6 ⟨rfl, hb6⟩
                  have S6 := Lib.hid (S5.out.later hb6)
                  clear hb6
                  go_wp2
                  go_roundw
                  case rel => exact ⟨k + 1, _, by go_num, by omega, by omega, S6.out⟩
                  case measure => simp [intOf]; omega
                · have KE0 := rend_any w2.heap.size r s
                  have KW0 := whole_any w3.heap.size A c b s
                  rw [show Pk.rend s = 2 from if_neg hs] at KE0
                  rw [show wholeB s = false from decide_eq_false hs] at KW0
                  have KE := Lib.hid KE0
                  have KW := Lib.hid KW0
                  clear KE0 KW0 hs
                  go_wp2_with fail
                  refine (KE.out _ S2.out.1).mono ?_
                  rintro e w5 ⟨rfl, rfl⟩
                  go_wp2_with fail
                  refine (KW.out _ S2.out.2.1).mono ?_
                  rintro e w5 ⟨rfl, hb5⟩
                  have S5 := Lib.hid (S2.out.later hb5)
                  clear hb5
                  go_wp2_with fail
                  refine (KW.out _ S5.out.2.1).mono ?_
                  rintro e w6 ⟨rfl, hb6⟩
                  have S6 := Lib.hid (S5.out.later hb6)
                  clear hb6
                  go_wp2_with fail
                  refine (KE.out _ S6.out.1).mono ?_
                  rintro e w7 ⟨rfl, rfl⟩
                  go_wp2
                  go_roundw
                  case rel => exact ⟨k + 1, _, by go_num, by omega, by omega, S6.out⟩
                  case measure => simp [intOf]; omega
    · have hcs : ¬ k < asks.length ∨ (k < asks.length ∧ ¬ (k : Int) < 100) := by omega
      clear hlt
      by_cases hs : s = some []
      · have KE0 := rend_any w2.heap.size r s wr HST.out.1
        have KW0 := whole_any w3.heap.size A c b s wr HST.out.2.1
        rw [show Pk.rend s = 0 from if_pos hs] at KE0
        rw [show wholeB s = true from decide_eq_true hs] at KW0
        have KE := Lib.hid KE0
        have KW := Lib.hid KW0
        clear KE0 KW0 hs
        rcases hcs with h1 | ⟨h1, h2⟩
        all_goals
          go_wp2_with fail
          refine KE.out.mono ?_
          rintro e w5 ⟨rfl, rfl⟩
          go_wp2_with fail
          refine KW.out.mono ?_
          rintro e w5 ⟨rfl, hb5⟩
          have HB5 : Hid (Below w.heap.size w w5) := HWR.out.trans (hb5.mono HWR.out.size)
          clear hb5
          go_wp2_with fail
          refine (rend_nil w5).mono ?_
          rintro e w6 ⟨rfl, rfl⟩
          go_wp2
          go_ret
          exact ⟨rfl, HB5.out⟩
      · have KE0 := rend_any w2.heap.size r s wr HST.out.1
        have KW0 := whole_any w3.heap.size A c b s wr HST.out.2.1
        rw [show Pk.rend s = 2 from if_neg hs] at KE0
        rw [show wholeB s = false from decide_eq_false hs] at KW0
        have KE := Lib.hid KE0
        have KW := Lib.hid KW0
        clear KE0 KW0 hs
        rcases hcs with h1 | ⟨h1, h2⟩
        all_goals
          go_wp2_with fail
          refine KE.out.mono ?_
          rintro e w5 ⟨rfl, rfl⟩
          go_wp2_with fail
          refine KW.out.mono ?_
          rintro e w5 ⟨rfl, hb5⟩
          have HB5 : Hid (Below w.heap.size w w5) := HWR.out.trans (hb5.mono HWR.out.size)
          clear hb5
          go_wp2_with fail
          refine (rend_nil w5).mono ?_
          rintro e w6 ⟨rfl, rfl⟩
          go_wp2
          go_ret
          exact ⟨rfl, HB5.out⟩
end Go.Proofs.Ythcmijppemochaa

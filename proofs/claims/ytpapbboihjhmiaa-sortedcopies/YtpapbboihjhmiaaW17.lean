/-
  The walk of SortedOrder. Its conditions: the slices read as texts.
-/
import Derived.Test.YtpapbboihjhmiaaW16
namespace Go.Proofs.Ytpapbboihjhmiaa
open Go.RowKit

/-- What told leaves. -/
def ToldPost (w : World) (ks : List ByteArray) (e : Ending) (w' : World) : Prop := ∃ A cap, e = .returned (.slice A ks.length cap) ∧ RowS w' (.slice A ks.length cap) ks ∧ Strs w' A ks ∧ Below w.heap.size w w'
theorem told_row (g : Nat) (L : List KV) (w : World) (hM : MapAt w g L) (hlen : L.length ≤ 100000) : Calls Try.prog 28 #[.pointer (some ⟨g, 0, none⟩)] w (ToldPost w (keysOf L)) := by
  refine (told_any g L w hM hlen).mono ?_
  rintro e w' ⟨v, rfl, hrow, hb⟩
  have hr : RowS w' v (keysOf L) := ⟨_, hrow⟩
  obtain ⟨A, cap, rfl, hs⟩ := hr.strs (by have := keysOf_len L; unfold maxLen; omega)
  exact ⟨A, cap, rfl, hr, hs, hb⟩
theorem drop_more {l : List ByteArray} {k : Nat} (hk : k < l.length) (x : ByteArray) : x ∈ l.drop k ↔ (x ∈ l.drop (k + 1) ∨ x = l[k]) := by
  rw [List.drop_eq_getElem_cons hk, List.mem_cons]
  exact or_comm

/-- The first loop of SortedOrder: keys are set from the last one on. -/
def OrdRel1 (l m : List ByteArray) (g1 g2 : Nat) (L1 : List KV) (w : World) (s7 : Value) (wr : World) : Prop :=
  ∃ (k : Nat) (L : List KV), k ≤ l.length ∧ s7 = .int .i64 ((k : Int) - 1) ∧ MapAt wr g1 L1 ∧ MapAt wr g2 L ∧ Holds L (fun x => x ∈ m ∨ x ∈ l.drop k) ∧ L.length + k ≤ 600 ∧ Below w.heap.size w wr
/-- The second loop: what m doesn't have goes. -/
def OrdRel2 (l m : List ByteArray) (g1 g2 : Nat) (L1 : List KV) (w : World) (_ _ _ s45 : Value) (wr : World) : Prop :=
  ∃ (k : Nat) (L : List KV), k ≤ m.length ∧ s45 = .int .i64 (k : Int) ∧ MapAt wr g1 L1 ∧ MapAt wr g2 L ∧ Holds L (fun x => x ∈ l ∨ (x ∈ m ∧ x ∉ m.take k)) ∧ L.length ≤ 600 ∧ Below w.heap.size w wr
theorem ord_keep {l m : List ByteArray} {k : Nat} (hk : k < m.length) (h : m[k] ∈ l) (x : ByteArray) : (x ∈ l ∨ (x ∈ m ∧ x ∉ m.take k)) ↔ (x ∈ l ∨ (x ∈ m ∧ x ∉ m.take (k + 1))) := by
  rw [mem_take_succ hk]
  constructor
  · rintro (h1 | ⟨h1, h2⟩)
    · exact .inl h1
    · by_cases e : x = m[k]
      · subst e; exact .inl h
      · exact .inr ⟨h1, fun h3 => h3.elim h2 e⟩
  · rintro (h1 | ⟨h1, h2⟩)
    · exact .inl h1
    · exact .inr ⟨h1, fun h3 => h2 (.inl h3)⟩
theorem ord_drop {l m : List ByteArray} {k : Nat} (hk : k < m.length) (h : m[k] ∉ l) (x : ByteArray) : ((x ∈ l ∨ (x ∈ m ∧ x ∉ m.take k)) ∧ x ≠ m[k]) ↔ (x ∈ l ∨ (x ∈ m ∧ x ∉ m.take (k + 1))) := by
  rw [mem_take_succ hk]
  constructor
  · rintro ⟨h1 | ⟨h1, h2⟩, h3⟩
    · exact .inl h1
    · exact .inr ⟨h1, fun h4 => h4.elim h2 h3⟩
  · rintro (h1 | ⟨h1, h2⟩)
    · exact ⟨.inl h1, fun e => h (e ▸ h1)⟩
    · exact ⟨.inr ⟨h1, fun h3 => h2 (.inl h3)⟩, fun e => h2 (.inr e)⟩

set_option maxRecDepth 100000 in
set_option maxHeartbeats 4000000 in
theorem order_walk (l m : List ByteArray) (A B : Option Addr) (n n' c c' : Nat) (w : World) (h : Strs w A l) (h' : Strs w B m) (hn : l.length = n) (hn' : m.length = n') :
    Calls Try.prog 7 #[.slice A n c, .slice B n' c'] w fun e w' => e = .returned (.bool true) ∧ Below w.heap.size w w' := by
  have H := Lib.hid h
  have H' := Lib.hid h'
  have HN := Lib.hid hn
  have HN' := Lib.hid hn'
  clear h h' hn hn'
  by_cases hbig : 300 < n ∨ 300 < n'
  · rcases (show (300 : Int) < (n : Int) ∨ (¬ (300 : Int) < (n : Int) ∧ (300 : Int) < (n' : Int)) by omega) with h1 | ⟨h1, h2⟩
    all_goals
      clear hbig
      go_enter Try.func7, Try.ntmps7
      go_wp2_with fail
      refine (awake_any w).mono ?_
      rintro e w1 ⟨rfl, b1⟩
      have B1 := Lib.hid b1
      clear b1
      go_wp2
      go_ret
      exact ⟨rfl, B1.out⟩
  · have h1 : ¬ (300 : Int) < (n : Int) := by omega
    have h2 : ¬ (300 : Int) < (n' : Int) := by omega
    have hl1 : n ≤ 300 := by omega
    have hl2 : n' ≤ 300 := by omega
    clear hbig
    go_enter Try.func7, Try.ntmps7
    go_wp2_with fail
    refine (awake_any w).mono ?_
    rintro e w1 ⟨rfl, b1⟩
    have B1 := Lib.hid b1
    have C1 := Lib.hid (filled_any l A n c w1 (H.out.below (Nat.le_refl _) b1) HN.out hl1)
    clear b1
    go_wp2_with fail
    refine C1.out.mono ?_
    rintro e w2 ⟨g1, L1, rfl, hg1, m2, h2', l2, b2⟩
    have M2 := Lib.hid m2
    have P2 := Lib.hid h2'
    have B2 := Lib.hid (B1.out.trans (b2.mono B1.out.size))
    have C2 := Lib.hid (filled_any m B n' c' w2 (H'.out.below (Nat.le_refl _) B2.out) HN'.out hl2)
    have LL1 := Lib.hid l2
    have G1 := Lib.hid hg1
    clear m2 h2' b2 C1 l2 hg1
    go_wp2_with fail
    refine C2.out.mono ?_
    rintro e w3 ⟨g2, L2, rfl, hg2, m3, h3', l3, b3⟩
    have M3 := Lib.hid (M2.out.below b3)
    have N3 := Lib.hid m3
    have P3 := Lib.hid h3'
    have B3 := Lib.hid (B2.out.trans (b3.mono B2.out.size))
    have LL2 := Lib.hid l3
    have hne : g1 ≠ g2 := by have := M2.out.lt; omega
    have NE := Lib.hid hne
    have G2 : Hid (w.heap.size ≤ g2) := by show _ ≤ _; have := B2.out.size; omega
    clear m3 h3' b3 C2 l3 hg2 hne
    go_wp2
    go_loopw [7] (OrdRel1 l m g1 g2 L1 w) (fun i _ => (intOf i + 1).toNat)
    case atStart => exact ⟨n, L2, by rw [HN.out]; exact Nat.le_refl _, rfl, M3.out, N3.out, P3.out.iff (fun x => by rw [← HN.out, List.drop_length]; simp), by have := LL2.out; have := HN'.out; omega, B3.out⟩
    case round =>
      obtain ⟨k, L, hk, rfl, hm1, hm2, hh, hlen, hb⟩ := hrel
      have HM1 := Lib.hid hm1
      have HM2 := Lib.hid hm2
      have HH := Lib.hid hh
      have HB := Lib.hid hb
      rw [HN.out] at hk
      clear hm1 hm2 hh hb
      by_cases hz : k = 0
      · subst hz
        have HF : Hid (Holds L (fun x => x ∈ l ∨ (x ∈ m ∧ x ∉ m.take 0))) := HH.out.iff (fun x => by simp; exact or_comm)
        clear HH
        go_wp2
        go_loopw [8, 9, 10, 45] (OrdRel2 l m g1 g2 L1 w) (fun _ _ _ i _ => n' - (intOf i).toNat)
        case atStart => exact ⟨0, L, Nat.zero_le _, rfl, HM1.out, HM2.out, HF.out, by omega, HB.out⟩
        case round =>
          clear HM1 HM2 HF HB hlen
          obtain ⟨k, L, hk, rfl, hm1, hm2, hh, hlen, hb⟩ := hrel
          have HM1 := Lib.hid hm1
          have HM2 := Lib.hid hm2
          have HH := Lib.hid hh
          have HB := Lib.hid hb
          rw [HN'.out] at hk
          clear hm1 hm2 hh hb
          by_cases hlt : k < n'
          · have hkl : k < m.length := by have := HN'.out; omega
            obtain ⟨b, off, rfl, hbs, c0⟩ := (H'.out.below (Nat.le_refl _) HB.out).at_ hkl
            have CG := Lib.hid (get_any g1 L1 m[k] wr HM1.out)
            have CD : Hid (∀ W, Below wr.heap.size wr W → Calls Try.prog 13 #[.pointer (some ⟨g2, 0, none⟩), .string m[k]] W (MapPost W g2 (ldel L m[k]) (lhas L m[k]))) := fun W hW => del_any g2 L m[k] W (HM2.out.below hW) (by omega)
            have CK : Hid (∀ W, Below wr.heap.size wr W → W.cell? ⟨b, off + k, none⟩ = some (.string m[k])) := fun W hW => by rw [hW.cell (p := ⟨b, _, none⟩) hbs]; exact c0
            have hlti : (k : Int) < (n' : Int) := by omega
            have HLE := Lib.hid (len_del_le L m[k])
            cases hg : lget L1 m[k] with
            | some v =>
              have hmem : m[k] ∈ l := by
                refine (P2.out.has _).mp ?_
                cases hh : lhas L1 m[k] with
                | true => rfl
                | false => rw [lget_none.mpr hh] at hg; cases hg
              have HS := Lib.hid (HH.out.iff (ord_keep hkl hmem))
              rw [hg] at CG
              generalize m[k] = x at c0 CG CD CK HLE
              clear hkl hg hmem
              go_wp2_with fail
              refine CG.out.mono ?_
              rintro e w4 ⟨rfl, b4⟩
              simp only [getV]
              have B4 := Lib.hid b4
              have c4 := CK.out _ b4
              clear b4
              go_wp2
              go_roundw
              case rel => exact ⟨k + 1, L, by rw [HN'.out]; omega, by go_num, HM1.out.below B4.out, HM2.out.below B4.out, HS.out, hlen, HB.out.trans (B4.out.mono HB.out.size)⟩
              case measure => simp [intOf]; omega
            | none =>
              have hmem : m[k] ∉ l := by
                intro hc
                have := (P2.out.has _).mpr hc
                rw [lget_none.mp hg] at this
                cases this
              have HS := Lib.hid ((HH.out.del m[k]).iff (ord_drop hkl hmem))
              rw [hg] at CG
              generalize m[k] = x at c0 CG CD CK HLE HS
              clear hkl hg hmem
              go_wp2_with fail
              refine CG.out.mono ?_
              rintro e w4 ⟨rfl, b4⟩
              simp only [getV]
              have B4 := Lib.hid b4
              have c4 := CK.out _ b4
              clear b4
              go_wp2_with fail
              refine (CD.out w4 B4.out).mono ?_
              rintro e w5 ⟨rfl, m5, o5⟩
              have M5 := Lib.hid m5
              have O5 := Lib.hid o5
              clear m5 o5
              go_wp2
              go_roundw
              case rel =>
                have hm2 := HM2.out.below B4.out
                have hrel : ∀ a b c s, s = .int .i64 ((k + 1 : Nat) : Int) → OrdRel2 l m g1 g2 L1 w a b c s w5 := fun _ _ _ _ hs => ⟨k + 1, _, by rw [HN'.out]; omega, hs, (HM1.out.below B4.out).other hm2 O5.out NE.out, M5.out, HS.out, by have := HLE.out; omega,
                  (HB.out.trans (B4.out.mono HB.out.size)).trans (O5.out.below (Nat.le_trans HB.out.size B4.out.size) G2.out)⟩
                (repeat apply Exists.intro)
                refine ⟨?_, rfl⟩
                exact hrel _ _ _ _ (by go_num)
              case measure => simp [intOf]; omega
          · have hkn : k = m.length := by have := HN'.out; omega
            have HE : Hid (L = L1) := by
              show _ = _
              refine (HH.out.iff (Q := fun x => x ∈ l) (fun x => ?_)).one P2.out
              rw [hkn, List.take_length]
              exact ⟨fun h => h.elim id (fun h => absurd h.1 h.2), .inl⟩
            rw [HE.out] at HM2
            have LB : Hid (L1.length ≤ 100000) := by show _ ≤ _; have := LL1.out; have := HN.out; omega
            clear hkn HH HE hlen
            have T1 := Lib.hid (told_row g1 L1 wr HM1.out LB.out)
            go_wp2_with fail
            refine T1.out.mono ?_
            rintro e w4 ⟨A4, c4, rfl, r4, s4, b4⟩
            have B4 := Lib.hid b4
            have S4 := Lib.hid s4
            have T2 := Lib.hid (told_row g2 L1 w4 (HM2.out.below b4) LB.out)
            have MA := Lib.hid (HM1.out.below b4)
            have MB := Lib.hid (HM2.out.below b4)
            clear r4 s4 b4 T1
            go_wp2_with fail
            refine T2.out.mono ?_
            rintro e w5 ⟨A5, c5, rfl, r5, s5, b5⟩
            have B5 := Lib.hid (B4.out.trans (b5.mono B4.out.size))
            have T3 := Lib.hid (alike_any _ _ A4 A5 _ _ c4 c5 w5 (S4.out.below (Nat.le_refl _) b5) s5 rfl rfl)
            rw [show decide (keysOf L1 = keysOf L1) = true by simp] at T3
            have MA5 := Lib.hid (MA.out.below b5)
            have MB5 := Lib.hid (MB.out.below b5)
            clear r5 s5 b5 T2 MA MB S4
            go_wp2_with fail
            refine T3.out.mono ?_
            rintro e w6 ⟨rfl, b6⟩
            have B6 := Lib.hid (B5.out.trans (b6.mono B5.out.size))
            have T4 := Lib.hid (len_any g1 L1 w6 (MA5.out.below b6))
            have T5 := Lib.hid (len_any g2 L1 w6 (MB5.out.below b6))
            have T6 := Lib.hid (told_row g1 L1 w6 (MA5.out.below b6) LB.out)
            have MA6 := Lib.hid (MA5.out.below b6)
            clear b6 T3
            go_wp2_with fail
            refine T4.out.mono ?_
            rintro e w7 ⟨rfl, rfl⟩
            go_wp2_with fail
            refine T5.out.mono ?_
            rintro e w7 ⟨rfl, rfl⟩
            go_wp2_with fail
            refine T6.out.mono ?_
            rintro e w7 ⟨A7, c7, rfl, r7, s7, b7⟩
            have B7 := Lib.hid (B6.out.trans (b7.mono B6.out.size))
            have T8 := Lib.hid (len_any g1 L1 w7 (MA6.out.below b7))
            rw [P2.out.keys_len]
            clear r7 s7 b7 T6
            go_wp2_with fail
            refine T8.out.mono ?_
            rintro e w8 ⟨rfl, rfl⟩
            go_wp2
            go_ret
            exact ⟨rfl, HB.out.trans (B7.out.mono HB.out.size)⟩
      · obtain ⟨q, rfl⟩ : ∃ q, k = q + 1 := ⟨k - 1, by omega⟩
        have hq : ((q + 1 : Nat) : Int) - 1 = (q : Int) := by omega
        rw [hq]
        have hkl : q < l.length := by have := HN.out; omega
        obtain ⟨b, off, rfl, hbs, c0⟩ := (H.out.below (Nat.le_refl _) HB.out).at_ hkl
        have HST := Lib.hid ((HH.out.set l[q]).iff (Q := fun x => x ∈ m ∨ x ∈ l.drop q) (fun x => by rw [drop_more hkl, or_assoc]))
        have HLE := Lib.hid (len_set_le L l[q] (l[q].size : Int) HM2.out.rises)
        have CS : Hid (∀ W, W = wr.drew → Calls Try.prog 11 #[.pointer (some ⟨g2, 0, none⟩), .string l[q], .int .i64 (l[q].size : Int)] W (MapPost W g2 (lset L l[q] (l[q].size : Int)) (!lhas L l[q]))) :=
          fun W hW => set_any g2 L l[q] _ W (by rw [hW]; exact HM2.out.below (Below.refl _ _).drew) (by omega)
        have CK : Hid (∀ w', Only g2 wr.drew w' → w'.cell? ⟨b, off + q, none⟩ = some (.string l[q])) := fun w' ho => by
          have hbel : Below w.heap.size w w' := (HB.out.drew).trans (ho.below HB.out.size G2.out)
          obtain ⟨b', off', e1, _, c1⟩ := (H.out.below (Nat.le_refl _) hbel).at_ hkl
          injection e1 with e1
          injection e1 with e1 e2 _
          subst e1 e2
          exact c1
        generalize l[q] = x at c0 CS HST HLE CK
        clear hkl hz hq
        have hlti : (q : Int) < (n : Int) := by omega
        have hq0 : (0 : Int) ≤ (q : Int) := by omega
        go_wp2_with fail
        go_region_held3 (fun w' => w'.cell? ⟨b, off + q, none⟩ = some (.string x)) (first | go_keep | assumption)
          (first | (go_at_call 11; (with_reducible refine (CS.out _ ?hh).mono ?_); (case hh => exact rfl); rintro e w2 ⟨rfl, m2, o2⟩; have M2' := Lib.hid m2; have O2 := Lib.hid o2; have c2 := CK.out _ o2; clear m2 o2))
        go_wp2
        go_roundw
        case rel =>
          have hm2 := HM2.out.below (Below.refl _ _).drew
          exact ⟨q, _, by rw [HN.out]; omega, rfl, (HM1.out.below (Below.refl _ _).drew).other hm2 O2.out NE.out, M2'.out, HST.out, by have := HLE.out; omega, HB.out.drew.trans (O2.out.below HB.out.size G2.out)⟩
        case measure => simp [intOf]
end Go.Proofs.Ytpapbboihjhmiaa

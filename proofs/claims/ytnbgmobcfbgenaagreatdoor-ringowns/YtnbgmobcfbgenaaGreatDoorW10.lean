/-
  The contracts of Owner and With, of the calls of a nil ring, and of the document's Same at texts. Their conditions: the rings, and what is handed in, lie in memory.
-/
import Derived.Test.YtnbgmobcfbgenaaGreatDoorW9
namespace Go.Proofs.YtnbgmobcfbgenaaGreatDoor
open Go.RowKit Go.Maps
open Go.Sort (grow)

theorem take_one {L : List ByteArray} {n : Nat} (h : n = (L.take 1).length) : (n = 0 ∧ L = []) ∨ (n = 1 ∧ ∃ r, L = L.headD ⟨#[]⟩ :: r) := by
  cases L with
  | nil => exact .inl ⟨h, rfl⟩
  | cons a r => exact .inr ⟨by simpa using h, r, rfl⟩
def OPost (w : World) (base g : Nat) (S : List ByteArray) (x : ByteArray) (b : Bool) (r : Ending) (w' : World) : Prop :=
  r = .returned (.tuple #[.string x, .bool b]) ∧ RingAt w' base g S ∧ Fr [] [g] base w w'
set_option maxHeartbeats 4000000 in
theorem owner_any (base g : Nat) (S : List ByteArray) (key : ByteArray) (w : World) (h : RingAt w base g S) (hbs : base ≤ w.heap.size) (hk : key.size ≤ maxLen) :
    Calls Tryz.prog 9 #[.pointer (some ⟨g, 0, none⟩), .string key] w (OPost w base g S (own S (hsh key)) (has S)) := by
  have C := Lib.hid (owners_any base g S key 1 w h hbs hk)
  have hH := hsh_lt key
  have hL : (ordS S (hsh key)) = [] ↔ S = [] := by
    have := ordS_ne (S := S) hH
    constructor
    · intro e
      exact Classical.byContradiction fun hn => this.mpr hn e
    · intro e
      subst e
      exact ordS_nil _
  have HL := Lib.hid hL
  have e0 : own S (hsh key) = (ordS S (hsh key)).headD ⟨#[]⟩ := rfl
  rw [e0]
  clear e0 h hbs hk hH hL
  rw [show (1 : Int).toNat = 1 from rfl] at C
  generalize ordS S (hsh key) = L at C HL ⊢
  obtain ⟨x, hx⟩ : ∃ x, x = L.headD ⟨#[]⟩ := ⟨_, rfl⟩
  rw [← hx]
  have HX := Lib.hid hx
  clear hx
  go_enter Tryz.func9, Tryz.ntmps9
  go_wp2_with fail
  refine C.out.mono ?_
  rintro r w1 ⟨v, rfl, hrow, hring, hfr⟩
  have hl1 : (L.take 1).length ≤ 1 := by rw [List.length_take]; omega
  obtain ⟨A, c, hv, sl, _⟩ := hrow.sl (by unfold maxLen; omega)
  have HD : Hid (RingAt w1 base g S ∧ Fr [] [g] base w w1) := ⟨hring, hfr⟩
  obtain ⟨m, hm⟩ : ∃ m, m = (L.take 1).length := ⟨_, rfl⟩
  rw [← hm] at hv
  have ht := take_one hm
  have HM := Lib.hid hm
  subst hv
  clear hrow hring hfr hl1 hm C
  rcases ht with ⟨rfl, hnil⟩ | ⟨rfl, r, hcons⟩
  · have HS := Lib.hid (HL.out.mp hnil)
    have HN := Lib.hid hnil
    clear hnil sl
    go_wp2
    go_ret2
    refine ⟨?_, HD.out.1, HD.out.2⟩
    rw [HX.out, HN.out, HS.out]
    rfl
  · rw [← HX.out] at hcons
    have HS : Hid (has S = true) := by
      show _ = _
      rw [has_true]
      intro e
      have := HL.out.mpr e
      rw [this] at hcons
      cases hcons
    have hlt : 0 < (L.take 1).length := by rw [← HM.out]; omega
    obtain ⟨b, off, rfl, _, d0⟩ := at_ky sl hlt
    have e1 : (L.take 1)[0] = x := by simp [hcons]
    rw [e1, Nat.add_zero] at d0
    clear hlt e1 sl hcons
    go_wp2
    go_ret2
    refine ⟨?_, HD.out.1, HD.out.2⟩
    rw [HS.out]
    rfl

/-! ### A nil ring -/
theorem owners_nil (key : ByteArray) (n : Int) (w : World) (hk : key.size ≤ maxLen) : Calls Tryz.prog 10 #[.pointer none, .string key, .int .i64 n] w fun r w' => r = .returned (.slice none 0 0) ∧ Below w.heap.size w w' := by
  have CH := Lib.hid (fun W => hash_any key W hk)
  have CF := Lib.hid (fun W => first_any [] none 0 0 (hsh key) W (sl_nil _) rfl List.Pairwise.nil (by omega))
  generalize hsh key = H at CH CF
  have HZ : Hid (cnt H [] = 0) := rfl
  rw [HZ.out] at CF
  clear hk
  go_enter Tryz.func10, Tryz.ntmps10
  go_wp2_with fail
  refine (laid_nil _).mono ?_
  rintro r w1 ⟨rfl, rfl⟩
  go_wp2_with fail
  refine (CH.out _).mono ?_
  rintro r wh ⟨rfl, rfl⟩
  go_wp2_with fail
  refine (CF.out _).mono ?_
  rintro r w2 ⟨rfl, _, hb2⟩
  have HB2 := Lib.hid hb2
  clear hb2 CF CH
  go_wp2
  refine wp_loop_rounds 1 ?_
  rw [rounds_succ]
  go_wp2
  go_ret
  exact ⟨rfl, HB2.out⟩
def ONil (w : World) (r : Ending) (w' : World) : Prop := r = .returned (.tuple #[.string ⟨#[]⟩, .bool false]) ∧ Below w.heap.size w w'
theorem owner_nil (key : ByteArray) (w : World) (hk : key.size ≤ maxLen) : Calls Tryz.prog 9 #[.pointer none, .string key] w (ONil w) := by
  have C := Lib.hid (owners_nil key 1 w hk)
  clear hk
  go_enter Tryz.func9, Tryz.ntmps9
  go_wp2_with fail
  refine C.out.mono ?_
  rintro r w1 ⟨rfl, hb⟩
  have HB := Lib.hid hb
  clear hb C
  go_wp2
  go_ret2
  exact ⟨rfl, HB.out⟩

/-! ### With -/
/-- What a call that makes a ring leaves. -/
def MPost (w : World) (S : List ByteArray) (r : Ending) (w' : World) : Prop := ∃ g, r = .returned (.pointer (some ⟨g, 0, none⟩)) ∧ RingAt w' w.heap.size g S ∧ Below w.heap.size w w'
theorem with_row {w w1 : World} {v : Value} {S : List ByteArray} (x : ByteArray) (hrow : RowT eKy 9 w1 w.heap.size v S) (hb : Below w.heap.size w w1) (h8 : S.length ≤ 8) (hz : Sized S) (hx : x.size ≤ 140737488351232) :
    ∃ A m c W', (Builtin.append_ #[22, 22] 22 #[v, .slice (some ⟨w1.heap.size, 0, none⟩) 1 1]).run Tryz.prog (w1.alloc (.cells #[.string x] 9)) = .ok (.slice A m c) W' ∧
      Calls Tryz.prog 7 #[.slice A m c] W' (MPost w (withN S x)) := by
  have b3 : Below w1.heap.size w1 (w1.alloc (.cells #[.string x] 9)) := (Below.refl _ _).alloc (Nat.le_refl _) _
  have hbs := hb.size
  have row3 := hrow.below b3
  obtain ⟨v', W', hrun, ho', hg'⟩ := row3.app elS (Nat.le_trans hbs b3.size) (sl_one (E := eKy) w1 x 9) (n := 1) (c := 1) rfl (by simp) (by omega)
  have F1 := Fr.own row3 hg' (Nat.le_trans hbs b3.size)
  obtain ⟨A, c, rfl, sl, _⟩ := ho'.sl (by unfold maxLen; simp; omega)
  have bW := (hb.trans (b3.mono hbs)).trans F1.below
  refine ⟨A, _, c, W', hrun, (new_any _ A _ c W' sl rfl ?_).mono ?_⟩
  · intro a ha
    rcases List.mem_append.mp ha with ha | ha
    · exact hz a ha
    · rw [List.mem_singleton.mp ha]
      exact hx
  · rintro r w' ⟨g, rfl, h1, h2⟩
    exact ⟨g, rfl, h1.down bW.size, bW.trans (h2.mono bW.size)⟩
set_option maxHeartbeats 2000000 in
theorem with_any (base g : Nat) (S : List ByteArray) (x : ByteArray) (w : World) (h : RingAt w base g S) (hx : x.size ≤ 140737488351232) :
    Calls Tryz.prog 14 #[.pointer (some ⟨g, 0, none⟩), .string x] w (MPost w (withN S x)) := by
  have C := Lib.hid (nodes_any base g S w h)
  have H := Lib.hid h
  have HX := Lib.hid hx
  clear h hx
  go_enter Tryz.func14, Tryz.ntmps14
  go_wp2_with fail
  refine C.out.mono ?_
  rintro r w1 ⟨v, rfl, hrow, hb⟩
  obtain ⟨A, m, c, W', hrun, hn⟩ := with_row x hrow hb H.out.len H.out.sz HX.out
  obtain ⟨A1, m1, c1, e1⟩ : ∃ A1 m1 c1, v = .slice A1 m1 c1 := by
    obtain ⟨A1, c1, e1, _⟩ := hrow.form
    exact ⟨_, _, _, e1⟩
  subst e1
  have R1 := Lib.hid hrun
  have CN := Lib.hid hn
  clear hrow hb hrun hn C
  go_wp2_with (at_builtin; refine wpList_append_run rfl _ _ 22 22 rfl _ _ rfl rfl _ W' R1.out ?_)
  refine CN.out.mono ?_
  rintro r w2 ⟨g2, rfl, h1, h2⟩
  have H1 := Lib.hid h1
  have H2 := Lib.hid h2
  clear h1 h2 CN
  go_wp2
  go_ret
  exact ⟨g2, rfl, H1.out, H2.out⟩
set_option maxHeartbeats 2000000 in
theorem with_nil (x : ByteArray) (w : World) (hx : x.size ≤ 140737488351232) : Calls Tryz.prog 14 #[.pointer none, .string x] w (MPost w (withN [] x)) := by
  obtain ⟨A, m, c, W', hrun, hn⟩ := with_row (w := w) (w1 := w) (S := []) x (RowT.nil _) (Below.refl _ _) (by simp) (by intro a ha; cases ha) hx
  have R1 := Lib.hid hrun
  have CN := Lib.hid hn
  clear hrun hn hx
  go_enter Tryz.func14, Tryz.ntmps14
  go_wp2_with fail
  refine (nodes_nil _).mono ?_
  rintro r w1 ⟨rfl, rfl⟩
  go_wp2_with (at_builtin; refine wpList_append_run rfl _ _ 22 22 rfl _ _ rfl rfl _ W' R1.out ?_)
  refine CN.out.mono ?_
  rintro r w2 ⟨g2, rfl, h1, h2⟩
  have H1 := Lib.hid h1
  have H2 := Lib.hid h2
  clear h1 h2 CN
  go_wp2
  go_ret
  exact ⟨g2, rfl, H1.out, H2.out⟩

/-! ### Same -/
theorem take_ext {l m : List ByteArray} {k : Nat} (h1 : k < l.length) (h2 : k < m.length) (h : l.take k = m.take k) (e : l[k] = m[k]) : l.take (k + 1) = m.take (k + 1) := by
  rw [List.take_succ_eq_append_getElem h1, List.take_succ_eq_append_getElem h2, h, e]
set_option maxHeartbeats 4000000 in
theorem same_any (l m : List ByteArray) (A B : Option Addr) (n c p d : Nat) (w : World) (hl : Sl eKy w A l) (hm : Sl eKy w B m) (hn : l.length = n) (hp : m.length = p) (h8 : n ≤ 1000) :
    Calls Tryz.prog 13 #[.slice A n c, .slice B p d] w fun r w' => r = .returned (.bool (decide (l = m))) ∧ Below w.heap.size w w' := by
  have hnI : (n : Int) ≤ 1000 := by omega
  have HL := Lib.hid hl
  have HM := Lib.hid hm
  have HN := Lib.hid hn
  have HP := Lib.hid hp
  clear hl hm hn hp h8
  by_cases e : n = p
  · subst e
    obtain ⟨bb, hbb⟩ : ∃ bb, bb = decide (l = m) := ⟨_, rfl⟩
    rw [← hbb]
    have HB := Lib.hid hbb
    clear hbb
    go_enter Tryz.func13, Tryz.ntmps13
    go_wp2
    go_loopw [5] (fun s5 wr => ∃ k : Nat, k ≤ n ∧ s5 = .int .i64 (k : Int) ∧ l.take k = m.take k ∧ Below w.heap.size w wr) (fun i _ => n - (intOf i).toNat)
    case atStart => exact ⟨0, Nat.zero_le _, rfl, by simp, Below.refl _ _⟩
    case round =>
      obtain ⟨k, hk, rfl, ht, hb⟩ := hrel
      have HT := Lib.hid ht
      have HW := Lib.hid hb
      clear ht hb
      by_cases hlt : k < n
      · have hkl : k < l.length := by rw [HN.out]; exact hlt
        have hkm : k < m.length := by rw [HP.out]; exact hlt
        obtain ⟨b1, o1, rfl, _, d0⟩ := at_ky (HL.out.below (Nat.le_refl _) HW.out) hkl
        obtain ⟨b2, o2, rfl, _, d1⟩ := at_ky (HM.out.below (Nat.le_refl _) HW.out) hkm
        have HE := Lib.hid (take_ext hkl hkm HT.out)
        have HF : Hid (l = m → l[k] = m[k]) := by
          intro e
          subst e
          rfl
        generalize l[k] = x at d0 HE HF
        generalize m[k] = y at d1 HE HF
        have hlti : (k : Int) < (n : Int) := by omega
        have hk0 : (0 : Int) ≤ (k : Int) := by omega
        have HK : Hid (k + 1 ≤ n) := hlt
        clear hkl hkm hlt hk
        by_cases hxy : x = y
        · have he := toList_eq hxy
          have he2 : (x.toList != y.toList) = false := by rw [bne, he]; rfl
          have HX := Lib.hid (HE.out hxy)
          clear hxy HE HF
          go_wp2_with fail
          go_quiet (fail)
          go_wp2
          go_roundw
          case rel => exact ⟨k + 1, HK.out, by go_num, HX.out, HW.out.trans ((below_drewN _ _).mono HW.out.size)⟩
          case measure => simp [intOf]; omega
        · have he := toList_ne hxy
          have he2 : (x.toList != y.toList) = true := by rw [bne, he]; rfl
          have HX : Hid (bb = false) := by
            show _ = _
            rw [HB.out]
            exact decide_eq_false fun e => hxy (HF.out e)
          clear hxy HE HF
          go_wp2_with fail
          go_quiet (fail)
          go_wp2
          go_ret
          exact ⟨by rw [HX.out]; rfl, HW.out.trans ((below_drewN _ _).mono HW.out.size)⟩
      · have hlti : ¬ (k : Int) < (n : Int) := by omega
        have HX : Hid (bb = true) := by
          show _ = _
          rw [HB.out]
          have h := HT.out
          rw [List.take_of_length_le (by rw [HN.out]; omega), List.take_of_length_le (by rw [HP.out]; omega)] at h
          exact decide_eq_true h
        clear hlt hk
        go_wp2
        go_ret
        exact ⟨by rw [HX.out]; rfl, HW.out⟩
  · have hd : decide (l = m) = false := decide_eq_false fun h => by
      apply e
      rw [← HN.out, ← HP.out, h]
    rw [hd]
    have hne : ((n : Int) == (p : Int)) = false := by rw [beq_eq_false_iff_ne]; omega
    have hne2 : ((n : Int) != (p : Int)) = true := by rw [bne, hne]; rfl
    have hne3 : decide ((n : Int) = (p : Int)) = false := decide_eq_false (by omega)
    clear hd e
    go_enter Tryz.func13, Tryz.ntmps13
    go_wp2
    go_ret
    exact ⟨rfl, Below.refl _ _⟩
end Go.Proofs.YtnbgmobcfbgenaaGreatDoor

/-
  Plain mathematics: a life of a journal: a call on a disk with a fuse, and the crash behind it. Its conditions: laps below 256.
-/
import Derived.Test.YtppdckncnfffcaaM4
namespace Go.Proofs.Ytppdckncnfffcaa
set_option maxRecDepth 100000

theorem wrP_fuse (ss : List Sec) : ∀ (d : Dk) (p : Nat), 0 ≤ d.fuse → d.down = false →
    ((ss.length : Int) ≤ d.fuse → wrP d p ss = ({ d with ps := d.ps ++ pend p ss, fuse := d.fuse - ss.length, steps := d.steps + ss.length }, true)) ∧
    (d.fuse < ss.length → wrP d p ss = ({ d with ps := d.ps ++ pend p (ss.take d.fuse.toNat), fuse := 0, down := true, steps := d.steps + d.fuse }, false)) := by
  induction ss with
  | nil =>
    intro d p h1 h2
    refine ⟨fun _ => by simp [wrP, pend], fun h => ?_⟩
    simp at h
    omega
  | cons s r ih =>
    intro d p h1 h2
    by_cases h0 : d.fuse = 0
    · refine ⟨fun h => ?_, fun _ => ?_⟩
      · simp at h
        omega
      · have a : stepB d = false := by simp [stepB, h0]
        have b : stepD d = { d with down := true } := by simp [stepD, h0, h2]
        rw [wrP, a, if_neg (by decide), b, h0]
        cases d
        simp at h0
        subst h0
        simp [pend]
    · have a : stepB d = true := by simp [stepB, h0, h2]
      have b : putD d p s = { d with ps := d.ps ++ [⟨p, s⟩], fuse := d.fuse - 1, steps := d.steps + 1 } := by
        have hf : 0 < d.fuse := by omega
        simp [putD, stepD, h2, h0, hf]
      obtain ⟨c1, c2⟩ := ih { d with ps := d.ps ++ [⟨p, s⟩], fuse := d.fuse - 1, steps := d.steps + 1 } (p + 1) (by show 0 ≤ d.fuse - 1; omega) h2
      rw [wrP, if_pos a, b]
      refine ⟨fun h => ?_, fun h => ?_⟩
      · rw [c1 (by show (r.length : Int) ≤ d.fuse - 1; simp at h; omega)]
        simp [pend]
        constructor <;> omega
      · rw [c2 (by show d.fuse - 1 < (r.length : Int); simp at h; omega)]
        obtain ⟨f, hf⟩ : ∃ f : Nat, d.fuse = (f : Int) + 1 := ⟨(d.fuse - 1).toNat, by omega⟩
        have e1 : d.fuse.toNat = f + 1 := by omega
        have e2 : (d.fuse - 1).toNat = f := by omega
        simp only [e1, e2, List.take_succ_cons, pend]
        simp
        omega
/-- A disk with a fuse set. -/
def fz (d : Dk) (f : Int) : Dk := { d with fuse := f }
/-- What is written on a disk with a fuse. -/
theorem wrA_fuse {d : Dk} (h : Qt d) (f : Int) (hf : -1 ≤ f) (p : Nat) (ss : List Sec) :
    ((wrA (fz d f) p ss).2 = true ∧ fuseD (wrA (fz d f) p ss).1 (-1) = laidD d p ss) ∨
    ((wrA (fz d f) p ss).2 = false ∧ ∃ t, t ≤ ss.length ∧ (wrA (fz d f) p ss).1 = { d with ps := pend p (ss.take t), fuse := 0, down := true, steps := d.steps + t }) := by
  by_cases hm : f = -1
  · subst hm
    have e : fz d (-1) = d := by unfold fz; rw [← h.fu]
    rw [e, wrA_quiet h]
    refine .inl ⟨rfl, ?_⟩
    have := (h.laid p ss).fu
    unfold fuseD
    show ({ laidD d p ss with fuse := max (-1) (-1) } : Dk) = _
    have e2 : (laidD d p ss).fuse = -1 := this
    rw [show (max (-1) (-1) : Int) = (laidD d p ss).fuse by rw [e2]; rfl]
  · obtain ⟨c1, c2⟩ := wrP_fuse ss (fz d f) p (by show 0 ≤ f; omega) h.dn
    by_cases hlt : f < (ss.length : Int)
    · right
      have e := c2 hlt
      unfold wrA
      rw [e, if_neg Bool.false_ne_true]
      refine ⟨rfl, f.toNat, by omega, ?_⟩
      simp [fz, h.ps]
      omega
    · have e := c1 (by show (ss.length : Int) ≤ f; omega)
      by_cases heq : f = (ss.length : Int)
      · right
        unfold wrA
        rw [e, if_pos rfl]
        have a : stepB { fz d f with ps := (fz d f).ps ++ pend p ss, fuse := (fz d f).fuse - ss.length, steps := (fz d f).steps + ss.length } = false := by simp [stepB, fz, heq]
        rw [a, if_neg (by decide)]
        refine ⟨rfl, ss.length, Nat.le_refl _, ?_⟩
        have h0 : f - (ss.length : Int) = 0 := by omega
        simp [stepD, fz, h.ps, h.dn, h0]
      · left
        unfold wrA
        rw [e, if_pos rfl]
        have hne : ¬ f - (ss.length : Int) = 0 := by omega
        have a : stepB { fz d f with ps := (fz d f).ps ++ pend p ss, fuse := (fz d f).fuse - ss.length, steps := (fz d f).steps + ss.length } = true := by simp [stepB, fz, h.dn, hne]
        rw [a, if_pos rfl]
        refine ⟨rfl, ?_⟩
        simp [keepD, stepD, fz, h.ps, h.dn, hne, seen_pend, laidD, fuseD, h.fu]

/-! ### A life -/
/-- A journal ahead of a call: its records are what is opened; it may be started. -/
structure Wh (d : Dk) (j : Jn) (n L : Nat) (st : Bool) (rs : List (List UInt8)) : Prop where
  qt : Qt d
  ov : j.over = false
  sz : j.size = n
  n1 : 2 ≤ n
  n2 : n ≤ 17
  len : 2 * n ≤ d.K.length
  sm : SmK d.K
  la : lastU d.K (2 * n) ≤ L
  lk : lookL d.K n = rs
  fr : j.free ≤ n
  us : j.used ≤ n
  ct : rs.length ≤ L
  led : st = true → Led d j rs
theorem Led.look_again {d : Dk} {j : Jn} {rs : List (List UInt8)} (h : Led d j rs) (K : List Sec) : Led d (lookJ K j) rs := by
  refine ⟨h.qt, h.ov, h.sz, h.s2, h.len, h.f, ?_, h.l0, h.l1, h.rc, h.ne, h.us, h.le, h.rp, h.half, h.oth, h.last⟩
  show lookF K j.size ≤ j.size
  rcases lookF_or K j.size with h | h <;> rw [h]
  · exact Nat.zero_le _
  · exact Nat.le_refl _
/-- A journal that is opened anew. -/
theorem Wh.opened {d : Dk} {n L : Nat} {rs : List (List UInt8)} (hq : Qt d) (h1 : 2 ≤ n) (h2 : n ≤ 17) (hlen : 2 * n ≤ d.K.length) (hsm : SmK d.K) (hla : lastU d.K (2 * n) ≤ L) (hct : rs.length ≤ L) (hlk : lookL d.K n = rs) : Wh d (lookJ d.K (j0 n)) n L false rs := by
  refine ⟨hq, rfl, rfl, h1, h2, hlen, hsm, hla, hlk, ?_, Nat.zero_le _, hct, fun h => by cases h⟩
  show lookF d.K n ≤ n
  rcases lookF_or d.K n with h | h <;> rw [h]
  · exact Nat.zero_le _
  · exact Nat.le_refl _
/-- What a call of a life leaves: it is done, refused, or broken off. -/
inductive Gone (d : Dk) (n L : Nat) (st : Bool) (rs may : List (List UInt8)) : Dk × Jn × Int → Prop where
  | done {d1 : Dk} {j1 : Jn} : Wh (fuseD d1 (-1)) j1 n (L + 1) true may → d1.K.length = d.K.length → d1.steps ≤ d.steps + 100 → Gone d n L st rs may (d1, j1, 0)
  | full {d1 : Dk} {j1 : Jn} : Wh (fuseD d1 (-1)) j1 n (L + 1) st rs → d1.K.length = d.K.length → d1.steps ≤ d.steps + 100 → Gone d n L st rs may (d1, j1, 5)
  | broken {d1 : Dk} {j1 : Jn} : j1.over = true → j1.size = n → j1.used ≤ n → d1.K.length = d.K.length → d1.steps ≤ d.steps + 100 → d1.ps.length ≤ 100 →
      (∀ cs, (lookL (crashD d1 cs).K n = rs ∨ lookL (crashD d1 cs).K n = may) ∧ Wh (crashD d1 cs) (lookJ (crashD d1 cs).K (j0 n)) n (L + 1) false (lookL (crashD d1 cs).K n)) → Gone d n L st rs may (d1, j1, 7)
theorem Wh.more {d : Dk} {j : Jn} {n L : Nat} {st : Bool} {rs : List (List UInt8)} (h : Wh d j n L st rs) : Wh d j n (L + 1) st rs := ⟨h.qt, h.ov, h.sz, h.n1, h.n2, h.len, h.sm, Nat.le_succ_of_le h.la, h.lk, h.fr, h.us, Nat.le_succ_of_le h.ct, h.led⟩
theorem fuse_fz {d : Dk} (h : Qt d) (f : Int) : fuseD (fz d f) (-1) = d := by
  have h1 := h.fu
  cases d
  simp at h1
  subst h1
  rfl
theorem lookD_fz {d : Dk} (h : Qt d) (f : Int) (j : Jn) : lookD (fz d f) j = lookJ d.K j := by
  unfold lookD
  show (if d.down then j else lookJ (seen d.K d.ps) j) = _
  rw [h.dn, h.ps, seen_nil]
  rfl
theorem secs_ne (lap k : Nat) (r : List UInt8) : 0 < (secsOf lap k r).length := by rw [secsOf_length]; exact partsN_pos _
/-- What a crash leaves where t sectors are pending. -/
theorem crash_wh {d : Dk} {n L p t l k : Nat} {r cs : List UInt8} (h1 : 2 ≤ n) (h2 : n ≤ 17) (hlen : 2 * n ≤ d.K.length) (hsm : SmK d.K) (hla : lastU d.K (2 * n) ≤ L) (hl : l ≤ L + 1) (hL : L < 200) (hp : p + partsN r.length ≤ 2 * n) (ht : t ≤ partsN r.length)
    (d1 : Dk) (hd1 : d1 = { d with ps := pend p ((secsOf l k r).take t), fuse := 0, down := true, steps := d.steps + t }) :
    (crashD d1 cs).K = ovw d.K p (torn d.K p cs 0 ((secsOf l k r).take t)) ∧ (∀ rs : List (List UInt8), rs.length ≤ L + 1 → lookL (crashD d1 cs).K n = rs → Wh (crashD d1 cs) (lookJ (crashD d1 cs).K (j0 n)) n (L + 1) false rs) := by
  have hsl : ((secsOf l k r).take t).length = t := by rw [List.length_take, secsOf_length]; omega
  have hmem : ∀ s ∈ (secsOf l k r).take t, s ∈ secsOf l k r := fun s hs => List.mem_of_mem_take hs
  have hssm : ∀ s ∈ (secsOf l k r).take t, Sm s := fun s hs => secs_sm (by omega) s (hmem s hs)
  have e : (crashD d1 cs).K = ovw d.K p (torn d.K p cs 0 ((secsOf l k r).take t)) := by
    rw [hd1]
    show crashN d.K (pend p ((secsOf l k r).take t)) cs (pend p ((secsOf l k r).take t)).length = _
    rw [pend_length]
    exact crash_torn _ _ _ _ (by rw [hsl]; omega)
  refine ⟨e, fun rs hct hlk => Wh.opened ⟨rfl, rfl, rfl⟩ h1 h2 ?_ ?_ ?_ hct hlk⟩
  · rw [e, ovw_length]; exact hlen
  · rw [e]
    exact hsm.ovw (by rw [torn_length, hsl]; omega) (torn_sm hsm hssm)
  · rw [e]
    refine lastU_new hlen (by rw [torn_length, hsl]; omega) (fun i hi => ?_) (Nat.le_succ_of_le hla)
    rw [torn_length] at hi
    rcases torn_lapE (p := p) (cs := cs) hsm hssm hi with h | ⟨_, h⟩
    · rw [h, secs_lap (by omega) _ (hmem _ (at_mem2 hi))]
      exact hl
    · rw [h]
      exact Nat.le_succ_of_le (Nat.le_trans (lastU_ge d.K (2 * n) (p + i) (by omega)) hla)
/-- Start in a life. -/
theorem start_gone {d : Dk} {j : Jn} {n L : Nat} {st : Bool} {rs : List (List UInt8)} (h : Wh d j n L st rs) (hL : L < 200) (f : Int) (hf : -1 ≤ f) (r : List UInt8) : Gone d n L st rs [r] (startF (fz d f) j r) := by
  have hsz := h.sz
  have hn1 := h.n1
  have hn2 := h.n2
  have hla := h.la
  have hlen := h.len
  have hFor := lookF_or d.K n
  by_cases hfull : partsN r.length ≤ n
  · have hsl := start_led (r := r) h.qt h.ov (by omega) (by omega) (by omega) (by omega) (by rw [hsz]; omega)
    have e3 : startF (fz d f) j r = wrF (fz d f) (lookJ d.K j) (lastU d.K (2 * n) + 1) (lookF d.K n) 0 0 r := by
      have e2 : fullJ (lookJ d.K j) r = false := by
        unfold fullJ
        simp only [Bool.or_eq_false_iff, decide_eq_false_iff_not]
        refine ⟨by show ¬ j.size < _; omega, ?_⟩
        show ¬ 2147483647 ≤ lastU d.K (2 * j.size)
        rw [hsz]
        omega
      unfold startF
      rw [h.ov, lookD_fz h.qt, e2]
      show wrF (fz d f) (lookJ d.K j) (lastU d.K (2 * j.size) + 1) (lookF d.K j.size) 0 0 r = _
      rw [hsz]
    have e4 : startF d j r = wrF d (lookJ d.K j) (lastU d.K (2 * n) + 1) (lookF d.K n) 0 0 r := by
      have e2 : fullJ (lookJ d.K j) r = false := by
        unfold fullJ
        simp only [Bool.or_eq_false_iff, decide_eq_false_iff_not]
        refine ⟨by show ¬ j.size < _; omega, ?_⟩
        show ¬ 2147483647 ≤ lastU d.K (2 * j.size)
        rw [hsz]
        omega
      have e5 := lookD_fz h.qt (-1) j
      have e6 : fz d (-1) = d := by unfold fz; rw [← h.qt.fu]
      rw [e6] at e5
      unfold startF
      rw [h.ov, e5, e2]
      show wrF d (lookJ d.K j) (lastU d.K (2 * j.size) + 1) (lookF d.K j.size) 0 0 r = _
      rw [hsz]
    obtain ⟨F, hF⟩ : ∃ F, F = lookF d.K n := ⟨_, rfl⟩
    obtain ⟨l, hl⟩ : ∃ l, l = lastU d.K (2 * n) + 1 := ⟨_, rfl⟩
    have hFF : lookF d.K j.size = F := by rw [hsz, hF]
    rw [hsz, ← hl] at hsl
    rw [e3, ← hF, ← hl]
    rw [← hF, ← hl] at e4
    rw [← hF] at hsl hFor
    obtain ⟨led, ez, el, eu, es, eK, est, _, eKK⟩ := hsl
    rcases wrA_fuse h.qt f hf F (secsOf l 0 r) with ⟨a, b⟩ | ⟨a, t, ht, b⟩
    · have e5 : wrF (fz d f) (lookJ d.K j) l F 0 0 r = ((wrA (fz d f) F (secsOf l 0 r)).1, (startF d j r).2.1, 0) := by
        rw [e4]
        unfold wrF
        rw [Nat.add_zero, a, wrA_quiet h.qt]
        rfl
      have e6 : fuseD (wrA (fz d f) F (secsOf l 0 r)).1 (-1) = (startF d j r).1 := by
        rw [b, e4]
        unfold wrF
        rw [Nat.add_zero, wrA_quiet h.qt]
      have eK2 : (wrA (fz d f) F (secsOf l 0 r)).1.K = (startF d j r).1.K := by rw [← e6]; rfl
      have est2 : (wrA (fz d f) F (secsOf l 0 r)).1.steps = (startF d j r).1.steps := by rw [← e6]; rfl
      rw [e5]
      refine .done ?_ (by rw [eK2, eK]) (by rw [est2, est]; omega)
      rw [e6]
      refine ⟨led.qt, led.ov, es, hn1, hn2, by rw [eK]; exact hlen, ?_, ?_, ?_, ?_, ?_, ?_, fun _ => led⟩
      · rw [eKK]
        exact h.sm.ovw (by rw [secsOf_length]; omega) (secs_sm (by omega))
      · have := led.last
        rw [es] at this
        rw [this, el]
        omega
      · have := led.look.1
        rw [es] at this
        exact this
      · have := led.fr
        rw [es] at this
        exact this
      · have := led.le
        rw [es] at this
        exact this
      · show 1 ≤ L + 1
        omega
    · have e5 : wrF (fz d f) (lookJ d.K j) l F 0 0 r = ((wrA (fz d f) F (secsOf l 0 r)).1, { lookJ d.K j with over := true }, 7) := by
        unfold wrF wrJ
        rw [Nat.add_zero, a]
        rfl
      rw [e5]
      rw [secsOf_length] at ht
      refine .broken rfl hsz ?_ (by rw [b]) (by rw [b]; show d.steps + (t : Int) ≤ _; omega) (by rw [b]; show (pend _ _).length ≤ _; rw [pend_length, List.length_take]; omega) (fun cs => ?_)
      · exact h.us
      · obtain ⟨e7, e8⟩ := crash_wh (cs := cs) (k := 0) hn1 hn2 hlen h.sm hla (l := l) (by omega) hL (p := F) (by omega) ht _ b
        have e9 := crash_start (cs := cs) (t := t) (l := l) (r := r) h.sm (by omega) (by omega) hlen (by omega) (by omega) hfull ht
        rw [← hF, ← e7, h.lk] at e9
        refine ⟨e9, e8 _ ?_ rfl⟩
        rcases e9 with e | e <;> rw [e]
        · exact Nat.le_succ_of_le h.ct
        · show 1 ≤ L + 1
          omega
  · have e3 : startF (fz d f) j r = (fz d f, lookJ d.K j, 5) := by
      have e2 : fullJ (lookJ d.K j) r = true := by
        unfold fullJ
        simp only [Bool.or_eq_true, decide_eq_true_eq]
        left
        show j.size < _
        omega
      unfold startF
      rw [h.ov, lookD_fz h.qt, e2]
      rfl
    rw [e3]
    refine .full ?_ rfl (by show d.steps ≤ _; omega)
    rw [fuse_fz h.qt]
    have h' := h.more
    refine ⟨h.qt, h.ov, h.sz, hn1, hn2, hlen, h.sm, h'.la, h.lk, ?_, h.us, h'.ct, fun hs => (h.led hs).look_again _⟩
    show lookF d.K j.size ≤ n
    rw [hsz]
    omega
/-- Append in a life. -/
theorem append_gone {d : Dk} {j : Jn} {n L : Nat} {rs : List (List UInt8)} (h : Wh d j n L true rs) (hL : L < 200) (f : Int) (hf : -1 ≤ f) (r : List UInt8) : Gone d n L true rs (rs ++ [r]) (appendF (fz d f) j r) := by
  have hsz := h.sz
  have hn1 := h.n1
  have hn2 := h.n2
  have hla := h.la
  have hlen := h.len
  have hld := h.led rfl
  have h0 := hld.l0
  have hff := hld.f
  have hle := hld.le
  have hll : j.lap ≤ L := by
    have := hld.last
    rw [hsz] at this
    omega
  by_cases hfull : partsN r.length ≤ n - j.used
  · have hal := append_led (r := r) hld (by omega)
    have e3 : appendF (fz d f) j r = wrF (fz d f) j j.lap j.first j.recs j.used r := by
      unfold appendF
      rw [h.ov, if_neg (by decide), if_neg (by omega), hld.room, if_neg (by omega)]
    have e4 : appendF d j r = wrF d j j.lap j.first j.recs j.used r := by
      unfold appendF
      rw [h.ov, if_neg (by decide), if_neg (by omega), hld.room, if_neg (by omega)]
    rw [hsz] at hal
    rw [e3]
    obtain ⟨led, ez, el, eu, es, eK, est, _, eKK⟩ := hal
    rcases wrA_fuse h.qt f hf (j.first + j.used) (secsOf j.lap j.recs r) with ⟨a, b⟩ | ⟨a, t, ht, b⟩
    · have e5 : wrF (fz d f) j j.lap j.first j.recs j.used r = ((wrA (fz d f) (j.first + j.used) (secsOf j.lap j.recs r)).1, (appendF d j r).2.1, 0) := by
        rw [e4]
        unfold wrF
        rw [a, wrA_quiet h.qt]
        rfl
      have e6 : fuseD (wrA (fz d f) (j.first + j.used) (secsOf j.lap j.recs r)).1 (-1) = (appendF d j r).1 := by
        rw [b, e4]
        unfold wrF
        rw [wrA_quiet h.qt]
      have eK2 : (wrA (fz d f) (j.first + j.used) (secsOf j.lap j.recs r)).1.K = (appendF d j r).1.K := by rw [← e6]; rfl
      have est2 : (wrA (fz d f) (j.first + j.used) (secsOf j.lap j.recs r)).1.steps = (appendF d j r).1.steps := by rw [← e6]; rfl
      rw [e5]
      refine .done ?_ (by rw [eK2, eK]) (by rw [est2, est]; omega)
      rw [e6]
      refine ⟨led.qt, led.ov, es, hn1, hn2, by rw [eK]; exact hlen, ?_, ?_, ?_, ?_, ?_, ?_, fun _ => led⟩
      · rw [eKK]
        exact h.sm.ovw (by rw [secsOf_length]; omega) (secs_sm (by omega))
      · have := led.last
        rw [es] at this
        rw [this, el]
        omega
      · have := led.look.1
        rw [es] at this
        exact this
      · have := led.fr
        rw [es] at this
        exact this
      · have := led.le
        rw [es] at this
        exact this
      · have := h.ct
        simp
        omega
    · have e5 : wrF (fz d f) j j.lap j.first j.recs j.used r = ((wrA (fz d f) (j.first + j.used) (secsOf j.lap j.recs r)).1, { j with over := true }, 7) := by
        unfold wrF wrJ
        rw [a]
        rfl
      rw [e5]
      rw [secsOf_length] at ht
      refine .broken rfl hsz ?_ (by rw [b]) (by rw [b]; show d.steps + (t : Int) ≤ _; omega) (by rw [b]; show (pend _ _).length ≤ _; rw [pend_length, List.length_take]; omega) (fun cs => ?_)
      · exact h.us
      · obtain ⟨e7, e8⟩ := crash_wh (cs := cs) (k := j.recs) hn1 hn2 hlen h.sm hla (l := j.lap) (by omega) hL (p := j.first + j.used) (by omega) ht _ b
        have e9 := crash_append (cs := cs) (t := t) (r := r) hld h.sm (by omega) (by omega) ht
        rw [← e7, hsz] at e9
        refine ⟨e9, e8 _ ?_ rfl⟩
        have := h.ct
        rcases e9 with e | e <;> rw [e]
        · omega
        · simp
          omega
  · have e3 : appendF (fz d f) j r = (fz d f, j, 5) := by
      unfold appendF
      rw [h.ov, if_neg (by decide), if_neg (by omega), hld.room, if_pos (by omega)]
    rw [e3]
    refine .full ?_ rfl (by show d.steps ≤ _; omega)
    rw [fuse_fz h.qt]
    exact h.more
end Go.Proofs.Ytppdckncnfffcaa

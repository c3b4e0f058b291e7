/-
  What JournalWrites holds the document to, step by step (mathematics), and where it lies in memory. Their conditions: as said.
-/
import Derived.Test.YtppdckncnfffcaaN6
import Derived.Test.YtppdckncnfffcaaG6
namespace Go.Proofs.Ytppdckncnfffcaa
open Go.RowKit
set_option maxRecDepth 100000

/-- The journal, its disk, and where the document says that it stands. -/
structure Wt (d : Dk) (j : Jn) (N n i : Nat) (st : Bool) (a m : Nat) (H : Int) (lap : Nat) : Prop where
  qt : Qt d
  len : d.K.length = N
  sz : j.size = n
  ov : j.over = false
  fr : j.free ≤ n
  us : j.used ≤ n
  hh : lookF d.K n = if H = 0 then n else 0
  hr : H = -1 ∨ H = 0 ∨ H = 1
  ll : lap < 4294967296
  sp : d.steps ≤ 200 * (i : Int)
  on : st = true → ∃ rs, Led d j rs ∧ a = j.used ∧ m = j.recs ∧ m ≤ i ∧ H * (n : Int) = (j.first : Int) ∧ lap = j.lap
  off : st = false → j.lap = 0 ∧ a = 0 ∧ m = 0 ∧ j.first = 0 ∧ j.recs = 0
theorem Wt.of_led {d : Dk} {j : Jn} {N n i a m lap : Nat} {H : Int} {rs : List (List UInt8)} (h : Led d j rs) (hN : d.K.length = N) (hn : j.size = n) (hst : d.steps ≤ 200 * (i : Int)) (h1 : a = j.used) (h2 : m = j.recs) (hm : m ≤ i) (hH : H = 0 ∨ H = 1) (hf : H * (n : Int) = (j.first : Int)) (hl : lap = j.lap) : Wt d j N n i true a m H lap := by
  have hsz := h.sz
  refine ⟨h.qt, hN, hn, h.ov, hn ▸ h.fr, hn ▸ h.le, ?_, .inr hH, by rw [hl]; have := h.l1; omega, hst, fun _ => ⟨rs, h, h1, h2, hm, hf, hl⟩, fun e => by cases e⟩
  have hk := h.look.2
  rw [hn] at hk hsz
  rw [hk]
  rcases hH with rfl | rfl
  · rw [if_pos rfl]; omega
  · rw [if_neg (by decide)]; omega
section
variable {d : Dk} {j : Jn} {N n i a m lap : Nat} {st : Bool} {H : Int}
theorem Wt.room (h : Wt d j N n i st a m H lap) : roomN j = if st then n - a else 0 := by
  cases st with
  | true =>
    obtain ⟨rs, hl, h1, _⟩ := h.on rfl
    rw [hl.room, h1, h.sz]
    rfl
  | false =>
    unfold roomN
    rw [(h.off rfl).1]
    rfl
theorem Wt.more (h : Wt d j N n i st a m H lap) : Wt d j N n (i + 1) st a m H lap :=
  ⟨h.qt, h.len, h.sz, h.ov, h.fr, h.us, h.hh, h.hr, h.ll, by have := h.sp; push_cast; omega, fun e => by
    obtain ⟨rs, h1, h2, h3, h4, h5, h6⟩ := h.on e
    exact ⟨rs, h1, h2, h3, by omega, h5, h6⟩, h.off⟩
theorem Wt.a_le (h : Wt d j N n i st a m H lap) : a ≤ n ∧ m ≤ i := by
  cases st with
  | true =>
    obtain ⟨rs, _, h1, _, h3, _⟩ := h.on rfl
    exact ⟨by rw [h1]; exact h.us, h3⟩
  | false =>
    obtain ⟨_, h1, h2, _⟩ := h.off rfl
    omega
theorem Wt.fits (h : Wt d j N n i st a m H lap) (h2 : 2 * n ≤ N) : j.first + j.size ≤ d.K.length ∧ j.recs ≤ i := by
  rw [h.len, h.sz]
  cases st with
  | true =>
    obtain ⟨rs, hl, _, h3, h4, _⟩ := h.on rfl
    have hf := hl.f
    rw [h.sz] at hf
    rw [← h3]
    exact ⟨by rcases hf with e | e <;> omega, h4⟩
  | false =>
    obtain ⟨_, _, _, h3, h4⟩ := h.off rfl
    omega
/-- Append, of a journal that wasn't started. -/
theorem Wt.app_off (h : Wt d j N n i false a m H lap) (r : List UInt8) : appendF d j r = (d, j, 1) := by
  unfold appendF
  rw [h.ov, if_neg (by decide), if_pos (h.off rfl).1]
/-- .. with too much. -/
theorem Wt.app_full (h : Wt d j N n i true a m H lap) {r : List UInt8} (hp : n - a < partsN r.length) : appendF d j r = (d, j, 5) := by
  obtain ⟨rs, hl, h1, _⟩ := h.on rfl
  exact append_full hl (by rw [h.sz, ← h1]; exact hp)
/-- .. as it goes on. -/
theorem Wt.app (h : Wt d j N n i true a m H lap) {r : List UInt8} (hp : partsN r.length ≤ n - a) (hn : n ≤ 100) : ∃ (d' : Dk) (j' : Jn) (f : Nat), appendF d j r = (d', j', 0) ∧ Wt d' j' N n (i + 1) true (a + partsN r.length) (m + 1) H lap ∧ H * (n : Int) = (f : Int) ∧ f + a + partsN r.length ≤ N ∧ d'.K = ovw d.K (f + a) (secsOf lap m r) ∧ (H = 0 ∨ H = 1) := by
  obtain ⟨rs, hl, h1, h2, h3, h4, h5⟩ := h.on rfl
  have hsz := h.sz
  have hlen := hl.len
  have hle := hl.le
  have hf := hl.f
  have hpo := hl.sz
  obtain ⟨led, ez, el, eu, es, eK, est, ef, eS⟩ := append_led (r := r) hl (by rw [hsz, ← h1]; exact hp)
  obtain ⟨X, hX⟩ : ∃ X, X = appendF d j r := ⟨_, rfl⟩
  rw [← hX] at led ez el eu es eK est ef eS ⊢
  obtain ⟨d', j', e'⟩ := X
  dsimp only at led ez el eu es eK est ef eS
  subst ez
  have hH : H = 0 ∨ H = 1 := by
    rcases h.hr with rfl | rfl | rfl
    · rcases hf with e | e <;> omega
    · exact .inl rfl
    · exact .inr rfl
  refine ⟨d', j', j.first, rfl, ?_, h4, ?_, by rw [eS, h5, h2, h1], hH⟩
  · refine Wt.of_led led (by rw [eK, h.len]) (by rw [es, hsz]) ?_ (by rw [eu, h1]) ?_ (by omega) hH (by rw [ef]; exact h4) (by rw [el]; exact h5)
    · have := h.sp
      rw [est]
      push_cast
      omega
    · rw [led.rc, h2, hl.rc]
      simp
  · rw [← h.len]
    rcases hf with e | e <;> omega
theorem lookJ_free (K : List Sec) (j : Jn) : (lookJ K j).free ≤ j.size := by
  show lookF K j.size ≤ j.size
  rcases lookF_or K j.size with h | h <;> rw [h]
  · exact Nat.zero_le _
  · exact Nat.le_refl _
/-- Start, with too much. -/
theorem Wt.start_full (h : Wt d j N n i st a m H lap) {r : List UInt8} (hp : n < partsN r.length ∨ 2147483647 ≤ lastU d.K (2 * n)) : startF d j r = (d, lookJ d.K j, 5) ∧ Wt d (lookJ d.K j) N n (i + 1) st a m H lap := by
  have hm := h.more
  refine ⟨Go.Proofs.Ytppdckncnfffcaa.start_full h.qt h.ov (by rw [h.sz]; exact hp), hm.qt, hm.len, hm.sz, hm.ov, by rw [← h.sz]; exact lookJ_free _ _, hm.us, hm.hh, hm.hr, hm.ll, hm.sp, fun e => ?_, hm.off⟩
  obtain ⟨rs, h1, h2, h3, h4, h5, h6⟩ := hm.on e
  exact ⟨rs, h1.look_again _, h2, h3, h4, h5, h6⟩
/-- .. as it goes on. -/
theorem Wt.begin (h : Wt d j N n i st a m H lap) {r : List UInt8} (hp : partsN r.length ≤ n) (hl : lastU d.K (2 * n) < 2147483647) (hn : n ≤ 100) (hn0 : 0 < n) (h2 : 2 * n ≤ N) :
    ∃ d' j', startF d j r = (d', j', 0) ∧ Wt d' j' N n (i + 1) true (partsN r.length) 1 (if H = 0 then 1 else 0) (lastU d.K (2 * n) + 1) ∧ d'.K = ovw d.K (if H = 0 then n else 0) (secsOf (lastU d.K (2 * n) + 1) 0 r) := by
  have hsz := h.sz
  obtain ⟨led, ez, el, eu, es, eK, est, ef, eS⟩ := start_led (r := r) h.qt h.ov (by omega) (by omega) (by rw [hsz, h.len]; exact h2) (by rw [hsz]; exact hp) (by rw [hsz]; exact hl)
  obtain ⟨X, hX⟩ : ∃ X, X = startF d j r := ⟨_, rfl⟩
  rw [← hX] at led ez el eu es eK est ef eS ⊢
  obtain ⟨d', j', e'⟩ := X
  dsimp only at led ez el eu es eK est ef eS
  subst ez
  rw [hsz, h.hh] at ef eS
  rw [hsz] at el
  refine ⟨d', j', rfl, Wt.of_led led (by rw [eK, h.len]) (by rw [es, hsz]) ?_ eu.symm (by rw [led.rc]; rfl) (by omega) ?_ ?_ el.symm, eS⟩
  · have := h.sp
    rw [est]
    push_cast
    omega
  · by_cases e : H = 0
    · rw [if_pos e]; exact .inr rfl
    · rw [if_neg e]; exact .inl rfl
  · rw [ef]
    by_cases e : H = 0
    · rw [if_pos e, if_pos e]; omega
    · rw [if_neg e, if_neg e]; omega
theorem oAt_H (S : List Sec) (n : Nat) (h : Nat) : (oAt S n h).H = -1 ∨ ∃ k : Nat, k < h ∧ (oAt S n h).H = (k : Int) := by
  induction h with
  | zero => exact .inl rfl
  | succ h ih =>
    rw [oAt]
    split
    · exact .inr ⟨h, by omega, rfl⟩
    · rcases ih with e | ⟨k, h1, h2⟩
      · exact .inl e
      · exact .inr ⟨k, by omega, h2⟩
/-- Opened anew. -/
theorem Wt.opened {d : Dk} (hq : Qt d) (hN : d.K.length = N) (h2 : 2 * n ≤ N) (hn : 0 < n) (hst : d.steps ≤ 200 * (i : Int)) : Wt d (lookJ d.K (j0 n)) N n i false 0 0 (openO d.K n).H (openO d.K n).lap := by
  refine ⟨hq, hN, rfl, rfl, lookJ_free _ _, Nat.zero_le _, (open_is hn (by omega)).2, ?_, oAt_lap _ _ _, hst, fun e => (by cases e), fun _ => ⟨rfl, rfl, rfl, rfl, rfl⟩⟩
  rcases oAt_H d.K n 2 with e | ⟨k, h1, e⟩
  · exact .inl e
  · have e' : (openO d.K n).H = (k : Int) := e
    rw [e']
    omega
theorem write_run {d : Dk} {k : Nat} {l : List UInt8} (hj : k < d.K.length) (hl : l.length = 64) (hd : d.down = false) (hf : d.fuse = -1) :
    writeR d (k : Int) l = 0 ∧ writeD d (k : Int) l = ⟨d.K, d.ps ++ [⟨k, secOf l⟩], -1, false, d.steps + 1⟩ := by
  have h1 : fits d (k : Int) l.length = true := by simp [fits, hl]; omega
  have h2 : stepB d = true := by simp [stepB, hd, hf]
  unfold writeR writeD putD stepD
  rw [h1, h2]
  simp [hd, hf]
/-- A sector written from without, and synced. -/
theorem wrote {d : Dk} (hq : Qt d) {k : Nat} {l : List UInt8} (hk : k < d.K.length) (hl : l.length = 64) :
    writeR d (k : Int) l = 0 ∧ stepB (writeD d (k : Int) l) = true ∧ keepD (writeD d (k : Int) l) = ⟨d.K.set k (secOf l), [], -1, false, d.steps + 2⟩ ∧ (writeD d (k : Int) l).steps = d.steps + 1 := by
  obtain ⟨h1, h2⟩ := write_run hk hl hq.dn hq.fu
  rw [h2, hq.ps]
  refine ⟨h1, rfl, ?_, rfl⟩
  unfold keepD stepD seen
  simp
  omega
end
end Go.Proofs.Ytppdckncnfffcaa

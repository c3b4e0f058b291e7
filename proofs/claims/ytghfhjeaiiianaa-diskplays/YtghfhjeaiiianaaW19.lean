/-
  The contracts of the document's Read, Write, Sync. Their conditions: its disk lies in memory, its steps and its pending writes are below a bound.
-/
import Derived.Test.YtghfhjeaiiianaaW18
namespace Go.Proofs.Ytghfhjeaiiianaa
open Go.RowKit
open Go.Sort (grow)

set_option maxHeartbeats 2000000 in
theorem rread_any (base h : Nat) (d : Dk) (i : Int) (w : World) (r : RefAt w base h d) : Calls Try.prog 20 #[.pointer (some ⟨h, 0, none⟩), .int .i64 i] w fun e w' => e = .returned (.tuple #[.string (txt (readL d i)), .int .i64 (readR d i)]) ∧ w = w' := by
  obtain ⟨kv, sv, av, wv, b, r3⟩ := r.ex
  obtain ⟨A0, k0, rfl⟩ := r3.k.len
  obtain ⟨A1, k1, rfl, sl1, _⟩ := r3.s.sl (by rw [List.length_map, seen_length]; have := r.good.len; unfold maxLen; omega)
  have c0 := b.c0
  have c1 := b.c1
  have c5 := b.c5
  rw [List.length_map] at c0 c1
  rw [seen_length] at c1
  obtain ⟨n, hn⟩ : ∃ n, n = d.K.length := ⟨_, rfl⟩
  rw [← hn] at c0 c1
  by_cases h0 : i < 0
  · have hh : has d i = false := by
      have : ¬ 0 ≤ i := by omega
      simp [has, this]
    have e1 : readR d i = 1 := by simp [readR, hh]
    have e2 : txt (readL d i) = ⟨#[]⟩ := by simp [readL, hh, txt]
    rw [e1, e2]
    have hd0 : decide (i < 0) = true := decide_eq_true h0
    clear b r3 r hn sl1 c5 e1 e2 hh
    go_enter Try.func20, Try.ntmps20
    go_wp2
    go_ret2
    exact ⟨rfl, rfl⟩
  · have hd0 : decide (i < 0) = false := decide_eq_false h0
    by_cases h1 : (n : Int) ≤ i
    · have hh : has d i = false := by
        have : ¬ i < (d.K.length : Int) := by omega
        simp [has, this]
      have e1 : readR d i = 1 := by simp [readR, hh]
      have e2 : txt (readL d i) = ⟨#[]⟩ := by simp [readL, hh, txt]
      rw [e1, e2]
      clear b r3 r hn sl1 c5 e1 e2 hh
      go_enter Try.func20, Try.ntmps20
      go_wp2
      go_ret2
      exact ⟨rfl, rfl⟩
    · have hh : has d i = true := by simp [has]; omega
      have h1' : ¬ (n : Int) ≤ i := h1
      cases hd : d.down with
      | true =>
        rw [hd] at c5
        have e1 : readR d i = 7 := by simp [readR, hh, hd]
        have e2 : txt (readL d i) = ⟨#[]⟩ := by simp [readL, hd, txt]
        rw [e1, e2]
        clear b r3 r hn sl1 e1 e2 hh hd
        go_enter Try.func20, Try.ntmps20
        go_wp2
        go_ret2
        exact ⟨rfl, rfl⟩
      | false =>
        rw [hd] at c5
        obtain ⟨k, rfl⟩ : ∃ k : Nat, i = (k : Int) := ⟨i.toNat, by omega⟩
        have hk : k < (seen d.K d.ps).length := by rw [seen_length]; omega
        obtain ⟨b1, o1, rfl, _, dk⟩ := at_ky sl1 (k := k) (by rw [List.length_map]; exact hk)
        have e1 : readR d (k : Int) = 0 := by simp [readR, hh, hd]
        have e2 : readL d (k : Int) = (at_ (seen d.K d.ps) k).v := by simp [readL, hh, hd]
        have e3 : ((seen d.K d.ps).map tx)[k]'(by rw [List.length_map]; exact hk) = txt (at_ (seen d.K d.ps) k).v := by
          have := at_get hk
          rw [List.getElem?_eq_getElem hk] at this
          simp only [List.getElem_map, tx]
          rw [Option.some.inj this]
        rw [e1, e2]
        rw [e3] at dk
        generalize txt (at_ (seen d.K d.ps) k).v = s at dk ⊢
        have hki : (k : Int) < (n : Int) := by omega
        have hk0 : (0 : Int) ≤ (k : Int) := by omega
        clear b r3 r hn sl1 e1 e2 e3 hh hd hk
        go_enter Try.func20, Try.ntmps20
        go_wp2
        go_ret2
        exact ⟨rfl, rfl⟩
set_option maxHeartbeats 4000000 in
theorem rwrite_arg (base h : Nat) (d : Dk) (i : Int) (s : ByteArray) (w : World) (r : RefAt w base h d) (hf : fits d i s.size = false) :
    Calls Try.prog 17 #[.pointer (some ⟨h, 0, none⟩), .int .i64 i, .string s] w fun e w' => e = .returned (.int .i64 1) ∧ w = w' := by
  obtain ⟨kv, sv, av, wv, b, r3⟩ := r.ex
  obtain ⟨A0, k0, rfl⟩ := r3.k.len
  have c0 := b.c0
  rw [List.length_map] at c0
  obtain ⟨n, hn⟩ : ∃ n, n = d.K.length := ⟨_, rfl⟩
  unfold fits at hf
  rw [← hn] at c0 hf
  by_cases h0 : i < 0
  · have hd0 : decide (i < 0) = true := decide_eq_true h0
    clear b r3 r hn hf
    go_enter Try.func17, Try.ntmps17
    go_wp2
    go_ret
    exact ⟨rfl, rfl⟩
  · have hd0 : decide (i < 0) = false := decide_eq_false h0
    by_cases h1 : (n : Int) ≤ i
    · clear b r3 r hn hf
      go_enter Try.func17, Try.ntmps17
      go_wp2
      go_ret
      exact ⟨rfl, rfl⟩
    · have h2 : ¬ s.size = 64 := by
        have h3 : 0 ≤ i := by omega
        have h4 : i < (n : Int) := by omega
        simpa [h3, h4] using hf
      have h2i : ¬ (s.size : Int) = 64 := by omega
      clear b r3 r hn hf h2
      go_enter Try.func17, Try.ntmps17
      go_wp2
      go_ret
      exact ⟨rfl, rfl⟩
set_option maxHeartbeats 4000000 in
theorem rwrite_down (base h : Nat) (d : Dk) (k : Nat) (s : ByteArray) (w : World) (r : RefAt w base h d) (hs : d.steps ≤ 1000000) (hk : k < d.K.length) (h64 : s.size = 64) (hb : stepB d = false) :
    Calls Try.prog 17 #[.pointer (some ⟨h, 0, none⟩), .int .i64 (k : Int), .string s] w (RPost w base h (stepD d) (.int .i64 7)) := by
  have CS := Lib.hid (rstep_any base h d w r hs)
  rw [hb] at CS
  obtain ⟨kv, sv, av, wv, b, r3⟩ := r.ex
  obtain ⟨A0, k0, rfl⟩ := r3.k.len
  have c0 := b.c0
  rw [List.length_map] at c0
  obtain ⟨n, hn⟩ : ∃ n, n = d.K.length := ⟨_, rfl⟩
  rw [← hn] at c0 hk
  have hk0 : ¬ (k : Int) < 0 := by omega
  have hd0 : decide ((k : Int) < 0) = false := decide_eq_false hk0
  have hk1 : ¬ (n : Int) ≤ (k : Int) := by omega
  have hs64 : (s.size : Int) = 64 := by omega
  clear b r3 r hn hk h64 hb hs
  go_enter Try.func17, Try.ntmps17
  go_wp2_with fail
  refine CS.out.mono ?_
  rintro e w1 ⟨rfl, hd, hf⟩
  have HE : Hid (RPost w base h (stepD d) (.int .i64 7) (.returned (.int .i64 7)) w1) := ⟨rfl, hd, hf⟩
  clear hd hf
  go_wp2
  go_ret
  exact HE.out
end Go.Proofs.Ytghfhjeaiiianaa

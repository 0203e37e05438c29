/-
  When entries are sound, by the program and by the reference: fields.Within, SoundPlace, entry.Sound; in, Entry.
-/
import Derived.Test.YtdgpbdedaafdiaaWalksV3
import Derived.Test.YtdgpbdedaafdiaaEnt
import Derived.Test.YtdgpbdedaafdiaaArgI
namespace Go.Proofs.Ytdgpbdedaafdiaa
open Go.RowKit

def win2 (n l m : Int) : Bool := decide (l ≤ n) && decide (n ≤ m)


set_option maxHeartbeats 400000 in
theorem within2_any (n l m : Int) (w : World) :
    Calls Try.prog 68 #[.int .i64 n, .int .i64 l, .int .i64 m] w fun e w' => e = .returned (.bool (win2 n l m)) ∧ w = w' := by
  have HW : Hid (win2 n l m = (decide (l ≤ n) && decide (n ≤ m))) := rfl
  by_cases h : l ≤ n
  · have hd : decide (l ≤ n) = true := by simp; exact h
    go_enter Try.func68, Try.ntmps68
    go_wp2
    go_ret
    exact ⟨ret_boolean (by rw [HW.out, hd]; simp), rfl⟩
  · have hd : decide (l ≤ n) = false := by simp; omega
    go_enter Try.func68, Try.ntmps68
    go_wp2
    go_ret
    exact ⟨ret_boolean (by rw [HW.out, hd]; simp), rfl⟩

theorem within_any (n m : Int) (w : World) : Calls Try.prog 68 #[.int .i64 n, .int .i64 0, .int .i64 m] w fun e w' => e = .returned (.bool (win n m)) ∧ w = w' := within2_any n 0 m w

set_option maxHeartbeats 400000 in
theorem place_any (n : Int) (w : World) : Calls Try.prog 70 #[.int .i64 n] w fun e w' => e = .returned (.bool (win n 15)) ∧ w = w' := by
  go_enter Try.func70, Try.ntmps70
  go_wp2_with fail
  refine (within_any _ _ _).mono ?_
  rintro e w' ⟨rfl, rfl⟩
  go_wp2
  go_ret
  exact ⟨rfl, rfl⟩

/-- An entry's value: its bytes lie at x. -/
def eval8 (a b c d : Int) (k : ByteArray) (f s : Int) (x : Option Addr) (l cap : Nat) : Value := .agg #[.int .i64 a, .int .i64 b, .int .i64 c, .int .i64 d, .string k, .int .i64 f, .int .u32 s, .slice x l cap]

def sndRaw (a b c d : Int) (k : ByteArray) (f : Int) (l : Nat) : Bool := win a 1099511627776 && win b 3 && win c 1099511627776 && win d 5 && decide (k.size ≤ 16) && win f 256 && decide (l ≤ 256)




set_option maxRecDepth 100000 in
set_option maxHeartbeats 2000000 in
theorem sound_raw (a b c d f s : Int) (k : ByteArray) (x : Option Addr) (l cap : Nat) (w : World) :
    Calls Try.prog 72 #[.agg #[.int .i64 a, .int .i64 b, .int .i64 c, .int .i64 d, .string k, .int .i64 f, .int .u32 s, .slice x l cap]] w fun e w' => e = .returned (.bool (sndRaw a b c d k f l)) ∧ Below w.heap.size w w' := by
  have HB : Hid (Below w.heap.size w (w.alloc (.cells #[.int .i64 a, .int .i64 b, .int .i64 c, .int .i64 d, .string k, .int .i64 f, .int .u32 s, .slice x l cap] 32))) := below_one w _
  obtain ⟨kz, hkz⟩ : ∃ q, k.size = q := ⟨_, rfl⟩
  cases h1 : win a 1099511627776
  · have HF : Hid (false = sndRaw a b c d k f l) := by show _ = _; simp [sndRaw, h1]
    have H1 := Lib.hid h1
    clear h1
    go_enter Try.func72, Try.ntmps72
    go_wp2_with fail
    refine (within_any _ _ _).mono ?_
    rintro e w' ⟨rfl, rfl⟩
    rw [(H1).out]
    go_wp2
    go_ret
    exact ⟨ret_boolean HF.out, HB.out⟩
  · have H1 := Lib.hid h1
    cases h2 : win b 3
    · have HF : Hid (false = sndRaw a b c d k f l) := by show _ = _; simp [sndRaw, h2]
      have H2 := Lib.hid h2
      clear h1 h2
      go_enter Try.func72, Try.ntmps72
      go_wp2_with fail
      refine (within_any _ _ _).mono ?_
      rintro e w' ⟨rfl, rfl⟩
      rw [(H1).out]
      go_wp2_with fail
      refine (within_any _ _ _).mono ?_
      rintro e w' ⟨rfl, rfl⟩
      rw [(H2).out]
      go_wp2
      go_ret
      exact ⟨ret_boolean HF.out, HB.out⟩
    · have H2 := Lib.hid h2
      cases h3 : win c 1099511627776
      · have HF : Hid (false = sndRaw a b c d k f l) := by show _ = _; simp [sndRaw, h3]
        have H3 := Lib.hid h3
        clear h1 h2 h3
        go_enter Try.func72, Try.ntmps72
        go_wp2_with fail
        refine (within_any _ _ _).mono ?_
        rintro e w' ⟨rfl, rfl⟩
        rw [(H1).out]
        go_wp2_with fail
        refine (within_any _ _ _).mono ?_
        rintro e w' ⟨rfl, rfl⟩
        rw [(H2).out]
        go_wp2_with fail
        refine (within_any _ _ _).mono ?_
        rintro e w' ⟨rfl, rfl⟩
        rw [(H3).out]
        go_wp2
        go_ret
        exact ⟨ret_boolean HF.out, HB.out⟩
      · have H3 := Lib.hid h3
        cases h4 : win d 5
        · have HF : Hid (false = sndRaw a b c d k f l) := by show _ = _; simp [sndRaw, h4]
          have H4 := Lib.hid h4
          clear h1 h2 h3 h4
          go_enter Try.func72, Try.ntmps72
          go_wp2_with fail
          refine (within_any _ _ _).mono ?_
          rintro e w' ⟨rfl, rfl⟩
          rw [(H1).out]
          go_wp2_with fail
          refine (within_any _ _ _).mono ?_
          rintro e w' ⟨rfl, rfl⟩
          rw [(H2).out]
          go_wp2_with fail
          refine (within_any _ _ _).mono ?_
          rintro e w' ⟨rfl, rfl⟩
          rw [(H3).out]
          go_wp2_with fail
          refine (within_any _ _ _).mono ?_
          rintro e w' ⟨rfl, rfl⟩
          rw [(H4).out]
          go_wp2
          go_ret
          exact ⟨ret_boolean HF.out, HB.out⟩
        · have H4 := Lib.hid h4
          by_cases h5 : k.size ≤ 16
          · have d5 : decide ((k.size : Int) ≤ 16) = true := by simp; omega
            have d5' : decide (k.size ≤ 16) = true := by simp; omega
            cases h6 : win f 256
            · have HF : Hid (false = sndRaw a b c d k f l) := by show _ = _; simp [sndRaw, h6]
              have H6 := Lib.hid h6
              clear h1 h2 h3 h4 h6
              go_enter Try.func72, Try.ntmps72
              go_wp2_with fail
              refine (within_any _ _ _).mono ?_
              rintro e w' ⟨rfl, rfl⟩
              rw [(H1).out]
              go_wp2_with fail
              refine (within_any _ _ _).mono ?_
              rintro e w' ⟨rfl, rfl⟩
              rw [(H2).out]
              go_wp2_with fail
              refine (within_any _ _ _).mono ?_
              rintro e w' ⟨rfl, rfl⟩
              rw [(H3).out]
              go_wp2_with fail
              refine (within_any _ _ _).mono ?_
              rintro e w' ⟨rfl, rfl⟩
              rw [(H4).out]
              go_wp2_with fail
              refine (within_any _ _ _).mono ?_
              rintro e w' ⟨rfl, rfl⟩
              rw [(H6).out]
              go_wp2
              go_ret
              exact ⟨ret_boolean HF.out, HB.out⟩
            · have H6 := Lib.hid h6
              have HF : Hid (decide (l ≤ 256) = sndRaw a b c d k f l) := by show _ = _; simp [sndRaw, h1, h2, h3, h4, h5, h6]
              have hl : decide ((l : Int) ≤ 256) = decide (l ≤ 256) := by rw [Bool.eq_iff_iff]; simp; omega
              rw [← hl] at HF
              clear h1 h2 h3 h4 h6
              go_enter Try.func72, Try.ntmps72
              go_wp2_with fail
              refine (within_any _ _ _).mono ?_
              rintro e w' ⟨rfl, rfl⟩
              rw [(H1).out]
              go_wp2_with fail
              refine (within_any _ _ _).mono ?_
              rintro e w' ⟨rfl, rfl⟩
              rw [(H2).out]
              go_wp2_with fail
              refine (within_any _ _ _).mono ?_
              rintro e w' ⟨rfl, rfl⟩
              rw [(H3).out]
              go_wp2_with fail
              refine (within_any _ _ _).mono ?_
              rintro e w' ⟨rfl, rfl⟩
              rw [(H4).out]
              go_wp2_with fail
              refine (within_any _ _ _).mono ?_
              rintro e w' ⟨rfl, rfl⟩
              rw [(H6).out]
              clear hl
              go_wp2
              go_ret
              exact ⟨ret_boolean HF.out, HB.out⟩
          · have d5 : decide ((k.size : Int) ≤ 16) = false := by simp; omega
            have d5' : decide (k.size ≤ 16) = false := by simp; omega
            have HF : Hid (false = sndRaw a b c d k f l) := by show _ = _; unfold sndRaw; rw [d5']; simp
            clear h1 h2 h3 h4
            go_enter Try.func72, Try.ntmps72
            go_wp2_with fail
            refine (within_any _ _ _).mono ?_
            rintro e w' ⟨rfl, rfl⟩
            rw [(H1).out]
            go_wp2_with fail
            refine (within_any _ _ _).mono ?_
            rintro e w' ⟨rfl, rfl⟩
            rw [(H2).out]
            go_wp2_with fail
            refine (within_any _ _ _).mono ?_
            rintro e w' ⟨rfl, rfl⟩
            rw [(H3).out]
            go_wp2_with fail
            refine (within_any _ _ _).mono ?_
            rintro e w' ⟨rfl, rfl⟩
            rw [(H4).out]
            go_wp2
            go_ret
            exact ⟨ret_boolean HF.out, HB.out⟩

end Go.Proofs.Ytdgpbdedaafdiaa

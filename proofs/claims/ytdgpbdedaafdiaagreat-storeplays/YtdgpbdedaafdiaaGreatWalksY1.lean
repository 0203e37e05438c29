/-
  When entries are sound, by the program and by the reference: fields.Within, SoundPlace, entry.Sound; in, Entry.
  Slices of entries in memory ('EnsAt'); when members, entries and records are sound, by the program and by the reference.
  The bytes of entries and records, by the program: packedNumbers, packedEntry, Encode.
-/
import Derived.Test.YtdgpbdedaafdiaaGreatWalksV3
import Derived.Test.YtdgpbdedaafdiaaGreatEnt
import Derived.Test.YtdgpbdedaafdiaaGreatArgI
import Derived.Laws.IdiomStrings
namespace Go.Proofs.YtdgpbdedaafdiaaGreat
open Go.RowKit

def win2 (n l m : Int) : Bool := decide (l ≤ n) && decide (n ≤ m)

set_option maxHeartbeats 400000 in
theorem in_any (n l m : Int) (w : World) :
    Calls Tryz.prog 24 #[.int .i64 n, .int .i64 l, .int .i64 m] w fun e w' => e = .returned (.bool (win2 n l m)) ∧ w = w' := by
  have HW : Hid (win2 n l m = (decide (l ≤ n) && decide (n ≤ m))) := rfl
  by_cases h : l ≤ n
  · have hd : decide (l ≤ n) = true := by simp; exact h
    go_enter Tryz.func24, Tryz.ntmps24
    go_wp2
    go_ret
    exact ⟨ret_boolean (by rw [HW.out, hd]; simp), rfl⟩
  · have hd : decide (l ≤ n) = false := by simp; omega
    go_enter Tryz.func24, Tryz.ntmps24
    go_wp2
    go_ret
    exact ⟨ret_boolean (by rw [HW.out, hd]; simp), rfl⟩


set_option maxHeartbeats 400000 in
theorem within2_any (n l m : Int) (w : World) :
    Calls Tryz.prog 76 #[.int .i64 n, .int .i64 l, .int .i64 m] w fun e w' => e = .returned (.bool (win2 n l m)) ∧ w = w' := by
  have HW : Hid (win2 n l m = (decide (l ≤ n) && decide (n ≤ m))) := rfl
  by_cases h : l ≤ n
  · have hd : decide (l ≤ n) = true := by simp; exact h
    go_enter Tryz.func76, Tryz.ntmps76
    go_wp2
    go_ret
    exact ⟨ret_boolean (by rw [HW.out, hd]; simp), rfl⟩
  · have hd : decide (l ≤ n) = false := by simp; omega
    go_enter Tryz.func76, Tryz.ntmps76
    go_wp2
    go_ret
    exact ⟨ret_boolean (by rw [HW.out, hd]; simp), rfl⟩

theorem within_any (n m : Int) (w : World) : Calls Tryz.prog 76 #[.int .i64 n, .int .i64 0, .int .i64 m] w fun e w' => e = .returned (.bool (win n m)) ∧ w = w' := within2_any n 0 m w

set_option maxHeartbeats 400000 in
theorem place_any (n : Int) (w : World) : Calls Tryz.prog 78 #[.int .i64 n] w fun e w' => e = .returned (.bool (win n 15)) ∧ w = w' := by
  go_enter Tryz.func78, Tryz.ntmps78
  go_wp2_with fail
  refine (within_any _ _ _).mono ?_
  rintro e w' ⟨rfl, rfl⟩
  go_wp2
  go_ret
  exact ⟨rfl, rfl⟩

theorem in0_any (n m : Int) (w : World) : Calls Tryz.prog 24 #[.int .i64 n, .int .i64 0, .int .i64 m] w fun e w' => e = .returned (.bool (win n m)) ∧ w = w' := in_any n 0 m w

/-- An entry's value: its bytes lie at x. -/
def eval8 (a b c d : Int) (k : ByteArray) (f s : Int) (x : Option Addr) (l cap : Nat) : Value := .agg #[.int .i64 a, .int .i64 b, .int .i64 c, .int .i64 d, .string k, .int .i64 f, .int .u32 s, .slice x l cap]

def sndRaw (a b c d : Int) (k : ByteArray) (f : Int) (l : Nat) : Bool := win a 1099511627776 && win b 3 && win c 1099511627776 && win d 5 && decide (k.size ≤ 16) && win f 256 && decide (l ≤ 256)




set_option maxRecDepth 100000 in
set_option maxHeartbeats 2000000 in
theorem sound_raw (a b c d f s : Int) (k : ByteArray) (x : Option Addr) (l cap : Nat) (w : World) :
    Calls Tryz.prog 80 #[.agg #[.int .i64 a, .int .i64 b, .int .i64 c, .int .i64 d, .string k, .int .i64 f, .int .u32 s, .slice x l cap]] w fun e w' => e = .returned (.bool (sndRaw a b c d k f l)) ∧ Below w.heap.size w w' := by
  have HB : Hid (Below w.heap.size w (w.alloc (.cells #[.int .i64 a, .int .i64 b, .int .i64 c, .int .i64 d, .string k, .int .i64 f, .int .u32 s, .slice x l cap] 41))) := below_one w _
  obtain ⟨kz, hkz⟩ : ∃ q, k.size = q := ⟨_, rfl⟩
  cases h1 : win a 1099511627776
  · have HF : Hid (false = sndRaw a b c d k f l) := by show _ = _; simp [sndRaw, h1]
    have H1 := Lib.hid h1
    clear h1
    go_enter Tryz.func80, Tryz.ntmps80
    go_wp2_with fail
    refine (within_any _ _ _).mono ?_
    rintro e w' ⟨rfl, rfl⟩
    rw [(H1).out]
    go_wp2
    go_ret
    exact ⟨ret_boolean HF.out, HB.out⟩
  · have H1 := Lib.hid h1
    cases h2 : win b 3
    · have HF : Hid (false = sndRaw a b c d k f l) := by show _ = _; simp [sndRaw, h2]
      have H2 := Lib.hid h2
      clear h1 h2
      go_enter Tryz.func80, Tryz.ntmps80
      go_wp2_with fail
      refine (within_any _ _ _).mono ?_
      rintro e w' ⟨rfl, rfl⟩
      rw [(H1).out]
      go_wp2_with fail
      refine (within_any _ _ _).mono ?_
      rintro e w' ⟨rfl, rfl⟩
      rw [(H2).out]
      go_wp2
      go_ret
      exact ⟨ret_boolean HF.out, HB.out⟩
    · have H2 := Lib.hid h2
      cases h3 : win c 1099511627776
      · have HF : Hid (false = sndRaw a b c d k f l) := by show _ = _; simp [sndRaw, h3]
        have H3 := Lib.hid h3
        clear h1 h2 h3
        go_enter Tryz.func80, Tryz.ntmps80
        go_wp2_with fail
        refine (within_any _ _ _).mono ?_
        rintro e w' ⟨rfl, rfl⟩
        rw [(H1).out]
        go_wp2_with fail
        refine (within_any _ _ _).mono ?_
        rintro e w' ⟨rfl, rfl⟩
        rw [(H2).out]
        go_wp2_with fail
        refine (within_any _ _ _).mono ?_
        rintro e w' ⟨rfl, rfl⟩
        rw [(H3).out]
        go_wp2
        go_ret
        exact ⟨ret_boolean HF.out, HB.out⟩
      · have H3 := Lib.hid h3
        cases h4 : win d 5
        · have HF : Hid (false = sndRaw a b c d k f l) := by show _ = _; simp [sndRaw, h4]
          have H4 := Lib.hid h4
          clear h1 h2 h3 h4
          go_enter Tryz.func80, Tryz.ntmps80
          go_wp2_with fail
          refine (within_any _ _ _).mono ?_
          rintro e w' ⟨rfl, rfl⟩
          rw [(H1).out]
          go_wp2_with fail
          refine (within_any _ _ _).mono ?_
          rintro e w' ⟨rfl, rfl⟩
          rw [(H2).out]
          go_wp2_with fail
          refine (within_any _ _ _).mono ?_
          rintro e w' ⟨rfl, rfl⟩
          rw [(H3).out]
          go_wp2_with fail
          refine (within_any _ _ _).mono ?_
          rintro e w' ⟨rfl, rfl⟩
          rw [(H4).out]
          go_wp2
          go_ret
          exact ⟨ret_boolean HF.out, HB.out⟩
        · have H4 := Lib.hid h4
          by_cases h5 : k.size ≤ 16
          · have d5 : decide ((k.size : Int) ≤ 16) = true := by simp; omega
            have d5' : decide (k.size ≤ 16) = true := by simp; omega
            cases h6 : win f 256
            · have HF : Hid (false = sndRaw a b c d k f l) := by show _ = _; simp [sndRaw, h6]
              have H6 := Lib.hid h6
              clear h1 h2 h3 h4 h6
              go_enter Tryz.func80, Tryz.ntmps80
              go_wp2_with fail
              refine (within_any _ _ _).mono ?_
              rintro e w' ⟨rfl, rfl⟩
              rw [(H1).out]
              go_wp2_with fail
              refine (within_any _ _ _).mono ?_
              rintro e w' ⟨rfl, rfl⟩
              rw [(H2).out]
              go_wp2_with fail
              refine (within_any _ _ _).mono ?_
              rintro e w' ⟨rfl, rfl⟩
              rw [(H3).out]
              go_wp2_with fail
              refine (within_any _ _ _).mono ?_
              rintro e w' ⟨rfl, rfl⟩
              rw [(H4).out]
              go_wp2_with fail
              refine (within_any _ _ _).mono ?_
              rintro e w' ⟨rfl, rfl⟩
              rw [(H6).out]
              go_wp2
              go_ret
              exact ⟨ret_boolean HF.out, HB.out⟩
            · have H6 := Lib.hid h6
              have HF : Hid (decide (l ≤ 256) = sndRaw a b c d k f l) := by show _ = _; simp [sndRaw, h1, h2, h3, h4, h5, h6]
              have hl : decide ((l : Int) ≤ 256) = decide (l ≤ 256) := by rw [Bool.eq_iff_iff]; simp; omega
              rw [← hl] at HF
              clear h1 h2 h3 h4 h6
              go_enter Tryz.func80, Tryz.ntmps80
              go_wp2_with fail
              refine (within_any _ _ _).mono ?_
              rintro e w' ⟨rfl, rfl⟩
              rw [(H1).out]
              go_wp2_with fail
              refine (within_any _ _ _).mono ?_
              rintro e w' ⟨rfl, rfl⟩
              rw [(H2).out]
              go_wp2_with fail
              refine (within_any _ _ _).mono ?_
              rintro e w' ⟨rfl, rfl⟩
              rw [(H3).out]
              go_wp2_with fail
              refine (within_any _ _ _).mono ?_
              rintro e w' ⟨rfl, rfl⟩
              rw [(H4).out]
              go_wp2_with fail
              refine (within_any _ _ _).mono ?_
              rintro e w' ⟨rfl, rfl⟩
              rw [(H6).out]
              clear hl
              go_wp2
              go_ret
              exact ⟨ret_boolean HF.out, HB.out⟩
          · have d5 : decide ((k.size : Int) ≤ 16) = false := by simp; omega
            have d5' : decide (k.size ≤ 16) = false := by simp; omega
            have HF : Hid (false = sndRaw a b c d k f l) := by show _ = _; unfold sndRaw; rw [d5']; simp
            clear h1 h2 h3 h4
            go_enter Tryz.func80, Tryz.ntmps80
            go_wp2_with fail
            refine (within_any _ _ _).mono ?_
            rintro e w' ⟨rfl, rfl⟩
            rw [(H1).out]
            go_wp2_with fail
            refine (within_any _ _ _).mono ?_
            rintro e w' ⟨rfl, rfl⟩
            rw [(H2).out]
            go_wp2_with fail
            refine (within_any _ _ _).mono ?_
            rintro e w' ⟨rfl, rfl⟩
            rw [(H3).out]
            go_wp2_with fail
            refine (within_any _ _ _).mono ?_
            rintro e w' ⟨rfl, rfl⟩
            rw [(H4).out]
            go_wp2
            go_ret
            exact ⟨ret_boolean HF.out, HB.out⟩

set_option maxRecDepth 100000 in
set_option maxHeartbeats 2000000 in
theorem refEntry_raw (a b c d f s : Int) (k : ByteArray) (x : Option Addr) (l cap : Nat) (w : World) :
    Calls Tryz.prog 43 #[.agg #[.int .i64 a, .int .i64 b, .int .i64 c, .int .i64 d, .string k, .int .i64 f, .int .u32 s, .slice x l cap]] w fun e w' => e = .returned (.bool (sndRaw a b c d k f l)) ∧ Below w.heap.size w w' := by
  have HB : Hid (Below w.heap.size w (w.alloc (.cells #[.int .i64 a, .int .i64 b, .int .i64 c, .int .i64 d, .string k, .int .i64 f, .int .u32 s, .slice x l cap] 41))) := below_one w _
  obtain ⟨kz, hkz⟩ : ∃ q, k.size = q := ⟨_, rfl⟩
  cases h1 : win a 1099511627776
  · have HF : Hid (false = sndRaw a b c d k f l) := by show _ = _; simp [sndRaw, h1]
    have H1 := Lib.hid h1
    clear h1
    go_enter Tryz.func43, Tryz.ntmps43
    go_wp2_with fail
    refine (in0_any _ _ _).mono ?_
    rintro e w' ⟨rfl, rfl⟩
    rw [(H1).out]
    go_wp2
    go_ret
    exact ⟨ret_boolean HF.out, HB.out⟩
  · have H1 := Lib.hid h1
    cases h2 : win c 1099511627776
    · have HF : Hid (false = sndRaw a b c d k f l) := by show _ = _; simp [sndRaw, h2]
      have H2 := Lib.hid h2
      clear h1 h2
      go_enter Tryz.func43, Tryz.ntmps43
      go_wp2_with fail
      refine (in0_any _ _ _).mono ?_
      rintro e w' ⟨rfl, rfl⟩
      rw [(H1).out]
      go_wp2_with fail
      refine (in0_any _ _ _).mono ?_
      rintro e w' ⟨rfl, rfl⟩
      rw [(H2).out]
      go_wp2
      go_ret
      exact ⟨ret_boolean HF.out, HB.out⟩
    · have H2 := Lib.hid h2
      cases h3 : win b 3
      · have HF : Hid (false = sndRaw a b c d k f l) := by show _ = _; simp [sndRaw, h3]
        have H3 := Lib.hid h3
        clear h1 h2 h3
        go_enter Tryz.func43, Tryz.ntmps43
        go_wp2_with fail
        refine (in0_any _ _ _).mono ?_
        rintro e w' ⟨rfl, rfl⟩
        rw [(H1).out]
        go_wp2_with fail
        refine (in0_any _ _ _).mono ?_
        rintro e w' ⟨rfl, rfl⟩
        rw [(H2).out]
        go_wp2_with fail
        refine (in0_any _ _ _).mono ?_
        rintro e w' ⟨rfl, rfl⟩
        rw [(H3).out]
        go_wp2
        go_ret
        exact ⟨ret_boolean HF.out, HB.out⟩
      · have H3 := Lib.hid h3
        cases h4 : win d 5
        · have HF : Hid (false = sndRaw a b c d k f l) := by show _ = _; simp [sndRaw, h4]
          have H4 := Lib.hid h4
          clear h1 h2 h3 h4
          go_enter Tryz.func43, Tryz.ntmps43
          go_wp2_with fail
          refine (in0_any _ _ _).mono ?_
          rintro e w' ⟨rfl, rfl⟩
          rw [(H1).out]
          go_wp2_with fail
          refine (in0_any _ _ _).mono ?_
          rintro e w' ⟨rfl, rfl⟩
          rw [(H2).out]
          go_wp2_with fail
          refine (in0_any _ _ _).mono ?_
          rintro e w' ⟨rfl, rfl⟩
          rw [(H3).out]
          go_wp2_with fail
          refine (in0_any _ _ _).mono ?_
          rintro e w' ⟨rfl, rfl⟩
          rw [(H4).out]
          go_wp2
          go_ret
          exact ⟨ret_boolean HF.out, HB.out⟩
        · have H4 := Lib.hid h4
          by_cases h5 : k.size ≤ 16
          · have d5 : decide ((k.size : Int) ≤ 16) = true := by simp; omega
            have d5' : decide (k.size ≤ 16) = true := by simp; omega
            cases h6 : win f 256
            · have HF : Hid (false = sndRaw a b c d k f l) := by show _ = _; simp [sndRaw, h6]
              have H6 := Lib.hid h6
              clear h1 h2 h3 h4 h6
              go_enter Tryz.func43, Tryz.ntmps43
              go_wp2_with fail
              refine (in0_any _ _ _).mono ?_
              rintro e w' ⟨rfl, rfl⟩
              rw [(H1).out]
              go_wp2_with fail
              refine (in0_any _ _ _).mono ?_
              rintro e w' ⟨rfl, rfl⟩
              rw [(H2).out]
              go_wp2_with fail
              refine (in0_any _ _ _).mono ?_
              rintro e w' ⟨rfl, rfl⟩
              rw [(H3).out]
              go_wp2_with fail
              refine (in0_any _ _ _).mono ?_
              rintro e w' ⟨rfl, rfl⟩
              rw [(H4).out]
              go_wp2_with fail
              refine (in0_any _ _ _).mono ?_
              rintro e w' ⟨rfl, rfl⟩
              rw [(H6).out]
              go_wp2
              go_ret
              exact ⟨ret_boolean HF.out, HB.out⟩
            · have H6 := Lib.hid h6
              have HF : Hid (decide (l ≤ 256) = sndRaw a b c d k f l) := by show _ = _; simp [sndRaw, h1, h2, h3, h4, h5, h6]
              have hl : decide ((l : Int) ≤ 256) = decide (l ≤ 256) := by rw [Bool.eq_iff_iff]; simp; omega
              rw [← hl] at HF
              clear h1 h2 h3 h4 h6
              go_enter Tryz.func43, Tryz.ntmps43
              go_wp2_with fail
              refine (in0_any _ _ _).mono ?_
              rintro e w' ⟨rfl, rfl⟩
              rw [(H1).out]
              go_wp2_with fail
              refine (in0_any _ _ _).mono ?_
              rintro e w' ⟨rfl, rfl⟩
              rw [(H2).out]
              go_wp2_with fail
              refine (in0_any _ _ _).mono ?_
              rintro e w' ⟨rfl, rfl⟩
              rw [(H3).out]
              go_wp2_with fail
              refine (in0_any _ _ _).mono ?_
              rintro e w' ⟨rfl, rfl⟩
              rw [(H4).out]
              go_wp2_with fail
              refine (in0_any _ _ _).mono ?_
              rintro e w' ⟨rfl, rfl⟩
              rw [(H6).out]
              clear hl
              go_wp2
              go_ret
              exact ⟨ret_boolean HF.out, HB.out⟩
          · have d5 : decide ((k.size : Int) ≤ 16) = false := by simp; omega
            have d5' : decide (k.size ≤ 16) = false := by simp; omega
            have HF : Hid (false = sndRaw a b c d k f l) := by show _ = _; unfold sndRaw; rw [d5']; simp
            clear h1 h2 h3 h4
            go_enter Tryz.func43, Tryz.ntmps43
            go_wp2_with fail
            refine (in0_any _ _ _).mono ?_
            rintro e w' ⟨rfl, rfl⟩
            rw [(H1).out]
            go_wp2_with fail
            refine (in0_any _ _ _).mono ?_
            rintro e w' ⟨rfl, rfl⟩
            rw [(H2).out]
            go_wp2_with fail
            refine (in0_any _ _ _).mono ?_
            rintro e w' ⟨rfl, rfl⟩
            rw [(H3).out]
            go_wp2_with fail
            refine (in0_any _ _ _).mono ?_
            rintro e w' ⟨rfl, rfl⟩
            rw [(H4).out]
            go_wp2
            go_ret
            exact ⟨ret_boolean HF.out, HB.out⟩

end Go.Proofs.YtdgpbdedaafdiaaGreat

namespace Go.Proofs.YtdgpbdedaafdiaaGreat
open Go.RowKit

/-- The cells from place o of block b on hold the entry e. -/
structure EnCells (w : World) (b o : Nat) (e : Pe) (loc : Option Addr) (c : Nat) : Prop where
  c0 : w.cell? ⟨b, o, none⟩ = some (.int .i64 e.seq)
  c1 : w.cell? ⟨b, o + 1, none⟩ = some (.int .i64 e.client)
  c2 : w.cell? ⟨b, o + 2, none⟩ = some (.int .i64 e.num)
  c3 : w.cell? ⟨b, o + 3, none⟩ = some (.int .i64 e.op)
  c4 : w.cell? ⟨b, o + 4, none⟩ = some (.string (strB e.key))
  c5 : w.cell? ⟨b, o + 5, none⟩ = some (.int .i64 e.size)
  c6 : w.cell? ⟨b, o + 6, none⟩ = some (.int .u32 (e.sum : Int))
  c7 : w.cell? ⟨b, o + 7, none⟩ = some (.slice loc e.frag.length c)
  seen : SeenAt w loc c e.frag

theorem EnCells.below {w w' : World} {b o : Nat} {e : Pe} {loc : Option Addr} {c : Nat} (h : EnCells w b o e loc c) (hb : Below w.heap.size w w') : EnCells w' b o e loc c :=
  ⟨cell_later hb h.c0, cell_later hb h.c1, cell_later hb h.c2, cell_later hb h.c3, cell_later hb h.c4, cell_later hb h.c5, cell_later hb h.c6, cell_later hb h.c7, h.seen.below hb⟩

/-- The cells behind the address a hold the entries es. -/
structure EnsAt (w : World) (a : Option Addr) (cap : Nat) (es : List Pe) : Prop where
  le : es.length ≤ cap
  max : cap ≤ maxLen
  el : ∀ i, i < es.length → ∃ b off loc c, a = some ⟨b, off, none⟩ ∧ EnCells w b (off + i * 8) (es.getD i pe0) loc c
  wf : ∀ e ∈ es, e.Wf

theorem EnsAt.below {w w' : World} {a : Option Addr} {cap : Nat} {es : List Pe} (h : EnsAt w a cap es) (hb : Below w.heap.size w w') : EnsAt w' a cap es :=
  ⟨h.le, h.max, fun i hi => by obtain ⟨b, off, loc, c, e, h1⟩ := h.el i hi; exact ⟨b, off, loc, c, e, h1.below hb⟩, h.wf⟩

theorem EnsAt.nil {w : World} {a : Option Addr} {cap : Nat} (h : cap ≤ maxLen) : EnsAt w a cap [] := ⟨Nat.zero_le _, h, fun i hi => by simp at hi, by simp⟩

theorem IntsAt.nil {w : World} {a : Option Addr} {cap : Nat} (h : cap ≤ maxLen) : IntsAt w a cap [] := ⟨Nat.zero_le _, h, fun i => by simp, fun i hi => by simp at hi⟩

/-- The value of an entry. -/
def Pe.val (e : Pe) (loc : Option Addr) (c : Nat) : Value := .agg #[.int .i64 e.seq, .int .i64 e.client, .int .i64 e.num, .int .i64 e.op, .string (strB e.key), .int .i64 e.size, .int .u32 (e.sum : Int), .slice loc e.frag.length c]

theorem sndRaw_eq (e : Pe) : sndRaw e.seq e.client e.num e.op (strB e.key) e.size e.frag.length = sndE e := by unfold sndRaw sndE; rw [strB_size]

theorem sound_any (e : Pe) (loc : Option Addr) (c : Nat) (w : World) :
    Calls Tryz.prog 80 #[.agg #[.int .i64 e.seq, .int .i64 e.client, .int .i64 e.num, .int .i64 e.op, .string (strB e.key), .int .i64 e.size, .int .u32 (e.sum : Int), .slice loc e.frag.length c]] w fun x w' => x = .returned (.bool (sndE e)) ∧ Below w.heap.size w w' :=
  (sound_raw _ _ _ _ _ _ _ _ _ _ w).mono fun x w' h => by rw [sndRaw_eq] at h; exact h

theorem refEntry_any (e : Pe) (loc : Option Addr) (c : Nat) (w : World) :
    Calls Tryz.prog 43 #[.agg #[.int .i64 e.seq, .int .i64 e.client, .int .i64 e.num, .int .i64 e.op, .string (strB e.key), .int .i64 e.size, .int .u32 (e.sum : Int), .slice loc e.frag.length c]] w fun x w' => x = .returned (.bool (sndE e)) ∧ Below w.heap.size w w' :=
  (refEntry_raw _ _ _ _ _ _ _ _ _ _ w).mono fun x w' h => by rw [sndRaw_eq] at h; exact h

theorem all_no {α : Type} (m : List α) (p : α → Bool) (d : α) (k : Nat) (h : k < m.length) (hp : p (m.getD k d) = false) : m.all p = false := by
  rw [List.all_eq_false]
  exact ⟨m.getD k d, getD_mem m k d h, by rw [hp]; simp⟩

theorem all_yes {α : Type} (m : List α) (p : α → Bool) (d : α) (h : ∀ k, k < m.length → p (m.getD k d) = true) : m.all p = true := by
  rw [List.all_eq_true]
  intro x hx
  obtain ⟨k, hk, rfl⟩ := List.mem_iff_getElem.mp hx
  have := h k hk
  rwa [List.getD_eq_getElem?_getD, List.getElem?_eq_getElem hk] at this

/-- The first k are all right. -/
def UpTo {α : Type} (m : List α) (p : α → Bool) (d : α) (k : Nat) : Prop := ∀ j, j < k → p (m.getD j d) = true

theorem UpTo.step {α : Type} {m : List α} {p : α → Bool} {d : α} {k : Nat} (h : UpTo m p d k) (hk : p (m.getD k d) = true) : UpTo m p d (k + 1) := fun j hj => by
  by_cases e : j = k
  · rw [e]; exact hk
  · exact h j (by omega)

theorem upTo_zero {α : Type} (m : List α) (p : α → Bool) (d : α) : UpTo m p d 0 := fun j hj => by omega

/-- Is there one that is not sound, and where. -/
def IdxA (w : World) (b : Bool) (e : Ending) (w' : World) : Prop :=
  ((b = true ∧ e = .returned (.int .i64 (-1))) ∨ (b = false ∧ ∃ j : Nat, e = .returned (.int .i64 (j : Int)))) ∧ Below w.heap.size w w'

set_option maxHeartbeats 400000 in
theorem allc_int (p : Int) (cp : Addr) (w : World) (hc : w.cell? cp = some (.func (.func 78) #[] #[])) :
    Calls Tryz.prog 101 #[.int .i64 p, .pointer (some cp)] w fun e w' => e = .returned (.bool (!(win p 15))) ∧ Below w.heap.size w w' := by
  go_enter Tryz.func101, Tryz.ntmps101
  go_wp2_with fail
  refine (place_any _ _).mono ?_
  rintro e w1 ⟨rfl, hb1⟩
  have HB1 : Hid (Below w.heap.size w w1) := (by subst hb1; exact Below.refl _ _)
  clear hb1
  generalize hq : win p 15 = ans at *
  have HQ := Lib.hid hq
  clear hq
  go_wp2
  go_ret
  exact ⟨ret_boolean (by rw [HQ.out]), HB1.out⟩

set_option maxRecDepth 100000 in
set_option maxHeartbeats 1000000 in
theorem idxf_int (a : Option Addr) (cap l : Nat) (cp : Addr) (xs : List Int) (w : World) (hl : xs.length = l) (h : IntsAt w a cap xs) (hc : w.cell? cp = some (.func (.func 78) #[] #[])) :
    Calls Tryz.prog 106 #[.slice a l cap, .func (.func 101) #[] #[.pointer (some cp)]] w (IdxA w (xs.all (fun z => win z 15))) := by
  have hm : l ≤ maxLen := by have := h.le; have := h.max; omega
  unfold maxLen at hm
  have HE := Lib.hid h
  have HL := Lib.hid hl
  have HCP := Lib.hid hc
  clear h hl hc
  go_enter Tryz.func106, Tryz.ntmps106
  go_wp2
  go_loopw [5, 8] (fun _ i ws => ∃ k : Nat, k ≤ l ∧ i = .int .i64 k ∧ Hid (UpTo xs (fun z => win z 15) 0 k) ∧ Hid (Below w.heap.size w ws)) (fun _ i _ => l - (intOf i).toNat)
  case atStart => exact ⟨0, Nat.zero_le _, rfl, upTo_zero _ _ _, Below.refl _ _⟩
  case round =>
    obtain ⟨k, hk, rfl, HU, HB⟩ := hrel
    by_cases hlt : k < l
    · have HCK := Lib.hid (cell_later HB.out HCP.out)
      obtain ⟨b, off, rfl, hcel⟩ := (HE.out.below HB.out).cell k (by rw [HL.out]; exact hlt)
      have HNO : Hid ((fun z => win z 15) (xs.getD k 0) = false → xs.all (fun z => win z 15) = false) := all_no xs (fun z => win z 15) 0 k (by rw [HL.out]; exact hlt)
      have HYES : Hid ((fun z => win z 15) (xs.getD k 0) = true → UpTo xs (fun z => win z 15) 0 (k + 1)) := fun hw => HU.out.step (p := (fun z => win z 15)) hw
      generalize xs.getD k 0 = p at *
      go_wp2_with fail
      refine (allc_int p _ _ HCK.out).mono ?_
      rintro e w1 ⟨rfl, hb1⟩
      have HB1 := Lib.hid (HB.out.trans (hb1.mono HB.out.size))
      clear hb1
      cases hw : win p 15
      · have HF := Lib.hid (HNO.out ( hw))
        clear hw
        go_wp2
        go_ret
        exact ⟨.inr ⟨HF.out, k, rfl⟩, HB1.out⟩
      · have HU' := Lib.hid (HYES.out ( hw))
        clear hw
        go_wp2
        go_roundw
        case rel => exact ⟨k + 1, by omega, by go_num, HU', HB1⟩
        case measure => simp [intOf]; omega
    · obtain rfl : k = l := by omega
      have HF : Hid (xs.all (fun z => win z 15) = true) := all_yes xs (fun z => win z 15) 0 (by rw [HL.out]; exact HU.out)
      go_wp2
      go_ret
      exact ⟨.inl ⟨HF.out, rfl⟩, HB.out⟩

set_option maxRecDepth 100000 in
set_option maxHeartbeats 1000000 in
theorem hasf_int (a : Option Addr) (cap l : Nat) (cp : Addr) (xs : List Int) (w : World) (hl : xs.length = l) (h : IntsAt w a cap xs) (hc : w.cell? cp = some (.func (.func 78) #[] #[])) :
    Calls Tryz.prog 102 #[.slice a l cap, .func (.func 101) #[] #[.pointer (some cp)]] w fun e w' => e = .returned (.bool (!(xs.all (fun z => win z 15)))) ∧ Below w.heap.size w w' := by
  have HE := Lib.hid h
  have HL := Lib.hid hl
  have HCP := Lib.hid hc
  clear h hl hc
  go_enter Tryz.func102, Tryz.ntmps102
  go_wp2_with fail
  refine (idxf_int _ _ _ _ xs _ HL.out HE.out HCP.out).mono ?_
  rintro e w' ⟨⟨hq, rfl⟩ | ⟨hq, j, rfl⟩, hb⟩
  · have HB := Lib.hid hb
    have HQ := Lib.hid hq
    clear hq hb
    go_wp2
    go_ret
    exact ⟨ret_boolean (by rw [HQ.out]; rfl), HB.out⟩
  · have h0 : (0 : Int) ≤ (j : Int) := by omega
    have HB := Lib.hid hb
    have HQ := Lib.hid hq
    clear hq hb
    go_wp2
    go_ret
    exact ⟨ret_boolean (by rw [HQ.out]; rfl), HB.out⟩

set_option maxRecDepth 100000 in
set_option maxHeartbeats 1000000 in
theorem all_int (a : Option Addr) (cap l : Nat) (most : Int) (xs : List Int) (w : World) (hl : xs.length = l) (h : IntsAt w a cap xs) :
    Calls Tryz.prog 93 #[.slice a l cap, .int .i64 most, .func (.func 78) #[] #[]] w fun e w' => e = .returned (.bool (decide ((l : Int) ≤ most) && xs.all (fun z => win z 15))) ∧ Below w.heap.size w w' := by
  have hm : l ≤ maxLen := by have := h.le; have := h.max; omega
  unfold maxLen at hm
  have hmf : ∀ (fn : Fn) (first cap : Array Value) (w : World), (Instr.makeFunc fn first cap).run Tryz.prog w = .ok (.func fn first cap) w := fun _ _ _ _ => rfl
  have HB0 : Hid (Below w.heap.size w (w.alloc (.cells #[.func (.func 78) #[] #[]] 117))) := below_one w _
  have HCP : Hid ((w.alloc (.cells #[.func (.func 78) #[] #[]] 117)).cell? ⟨w.heap.size, 0, none⟩ = some (.func (.func 78) #[] #[])) := by show _ = _; rw [World.cell?_alloc_at (hn := rfl)]; rfl
  have HE := Lib.hid (h.below HB0.out)
  have HL := Lib.hid hl
  clear h hl
  cases hd : decide ((l : Int) ≤ most)
  · have HF : Hid (false = (false && xs.all (fun z => win z 15))) := by show _ = _; simp
    go_enter Tryz.func93, Tryz.ntmps93
    go_wp2
    go_ret
    exact ⟨ret_boolean HF.out, HB0.out⟩
  · go_enter Tryz.func93, Tryz.ntmps93
    go_wp2_with fail
    refine (hasf_int _ _ _ _ xs _ HL.out HE.out HCP.out).mono ?_
    rintro e w1 ⟨rfl, hb1⟩
    have HB1 := Lib.hid (HB0.out.trans (hb1.mono HB0.out.size))
    clear hb1
    generalize hq : xs.all (fun z => win z 15) = ans at *
    have HQ := Lib.hid hq
    clear hq
    go_wp2
    go_ret
    exact ⟨ret_boolean (by rw [HQ.out]; simp), HB1.out⟩

set_option maxHeartbeats 400000 in
theorem allc_ent (p : Pe) (loc : Option Addr) (c : Nat) (cp : Addr) (w : World) (hc : w.cell? cp = some (.func (.func 80) #[] #[])) :
    Calls Tryz.prog 94 #[.agg #[.int .i64 p.seq, .int .i64 p.client, .int .i64 p.num, .int .i64 p.op, .string (strB p.key), .int .i64 p.size, .int .u32 (p.sum : Int), .slice loc p.frag.length c], .pointer (some cp)] w fun e w' => e = .returned (.bool (!(sndE p))) ∧ Below w.heap.size w w' := by
  have hc := cell_later (below_one w (.cells #[.int .i64 p.seq, .int .i64 p.client, .int .i64 p.num, .int .i64 p.op, .string (strB p.key), .int .i64 p.size, .int .u32 (p.sum : Int), .slice loc p.frag.length c] 41)) hc
  go_enter Tryz.func94, Tryz.ntmps94
  go_wp2_with fail
  refine (sound_any p loc c _).mono ?_
  rintro e w1 ⟨rfl, hb1⟩
  have HB1 : Hid (Below w.heap.size w w1) := (below_one w _).trans (hb1.mono (by simp))
  clear hb1
  generalize hq : sndE p = ans at *
  have HQ := Lib.hid hq
  clear hq
  go_wp2
  go_ret
  exact ⟨ret_boolean (by rw [HQ.out]), HB1.out⟩

set_option maxRecDepth 100000 in
set_option maxHeartbeats 1000000 in
theorem idxf_ent (a : Option Addr) (cap l : Nat) (cp : Addr) (xs : List Pe) (w : World) (hl : xs.length = l) (h : EnsAt w a cap xs) (hc : w.cell? cp = some (.func (.func 80) #[] #[])) :
    Calls Tryz.prog 48 #[.slice a l cap, .func (.func 94) #[] #[.pointer (some cp)]] w (IdxA w (xs.all sndE)) := by
  have hm : l ≤ maxLen := by have := h.le; have := h.max; omega
  unfold maxLen at hm
  have HE := Lib.hid h
  have HL := Lib.hid hl
  have HCP := Lib.hid hc
  clear h hl hc
  go_enter Tryz.func48, Tryz.ntmps48
  go_wp2
  go_loopw [5, 8] (fun _ i ws => ∃ k : Nat, k ≤ l ∧ i = .int .i64 k ∧ Hid (UpTo xs sndE pe0 k) ∧ Hid (Below w.heap.size w ws)) (fun _ i _ => l - (intOf i).toNat)
  case atStart => exact ⟨0, Nat.zero_le _, rfl, upTo_zero _ _ _, Below.refl _ _⟩
  case round =>
    obtain ⟨k, hk, rfl, HU, HB⟩ := hrel
    by_cases hlt : k < l
    · have HCK := Lib.hid (cell_later HB.out HCP.out)
      obtain ⟨b, off, loc, c, rfl, hc⟩ := (HE.out.below HB.out).el k (by rw [HL.out]; exact hlt)
      have c0 := hc.c0
      have c1 := hc.c1
      have c2 := hc.c2
      have c3 := hc.c3
      have c4 := hc.c4
      have c5 := hc.c5
      have c6 := hc.c6
      have c7 := hc.c7
      clear hc
      have HNO : Hid (sndE (xs.getD k pe0) = false → xs.all sndE = false) := all_no xs sndE pe0 k (by rw [HL.out]; exact hlt)
      have HYES : Hid (sndE (xs.getD k pe0) = true → UpTo xs sndE pe0 (k + 1)) := fun hw => HU.out.step (p := sndE) hw
      generalize xs.getD k pe0 = p at *
      go_wp2_with fail
      refine (allc_ent p loc c _ _ HCK.out).mono ?_
      rintro e w1 ⟨rfl, hb1⟩
      have HB1 := Lib.hid (HB.out.trans (hb1.mono HB.out.size))
      clear hb1
      cases hw : sndE p
      · have HF := Lib.hid (HNO.out ( hw))
        clear hw
        go_wp2
        go_ret
        exact ⟨.inr ⟨HF.out, k, rfl⟩, HB1.out⟩
      · have HU' := Lib.hid (HYES.out ( hw))
        clear hw
        go_wp2
        go_roundw
        case rel => exact ⟨k + 1, by omega, by go_num, HU', HB1⟩
        case measure => simp [intOf]; omega
    · obtain rfl : k = l := by omega
      have HF : Hid (xs.all sndE = true) := all_yes xs sndE pe0 (by rw [HL.out]; exact HU.out)
      go_wp2
      go_ret
      exact ⟨.inl ⟨HF.out, rfl⟩, HB.out⟩

set_option maxRecDepth 100000 in
set_option maxHeartbeats 1000000 in
theorem hasf_ent (a : Option Addr) (cap l : Nat) (cp : Addr) (xs : List Pe) (w : World) (hl : xs.length = l) (h : EnsAt w a cap xs) (hc : w.cell? cp = some (.func (.func 80) #[] #[])) :
    Calls Tryz.prog 95 #[.slice a l cap, .func (.func 94) #[] #[.pointer (some cp)]] w fun e w' => e = .returned (.bool (!(xs.all sndE))) ∧ Below w.heap.size w w' := by
  have HE := Lib.hid h
  have HL := Lib.hid hl
  have HCP := Lib.hid hc
  clear h hl hc
  go_enter Tryz.func95, Tryz.ntmps95
  go_wp2_with fail
  refine (idxf_ent _ _ _ _ xs _ HL.out HE.out HCP.out).mono ?_
  rintro e w' ⟨⟨hq, rfl⟩ | ⟨hq, j, rfl⟩, hb⟩
  · have HB := Lib.hid hb
    have HQ := Lib.hid hq
    clear hq hb
    go_wp2
    go_ret
    exact ⟨ret_boolean (by rw [HQ.out]; rfl), HB.out⟩
  · have h0 : (0 : Int) ≤ (j : Int) := by omega
    have HB := Lib.hid hb
    have HQ := Lib.hid hq
    clear hq hb
    go_wp2
    go_ret
    exact ⟨ret_boolean (by rw [HQ.out]; rfl), HB.out⟩

set_option maxRecDepth 100000 in
set_option maxHeartbeats 1000000 in
theorem all_ent (a : Option Addr) (cap l : Nat) (most : Int) (xs : List Pe) (w : World) (hl : xs.length = l) (h : EnsAt w a cap xs) :
    Calls Tryz.prog 79 #[.slice a l cap, .int .i64 most, .func (.func 80) #[] #[]] w fun e w' => e = .returned (.bool (decide ((l : Int) ≤ most) && xs.all sndE)) ∧ Below w.heap.size w w' := by
  have hm : l ≤ maxLen := by have := h.le; have := h.max; omega
  unfold maxLen at hm
  have hmf : ∀ (fn : Fn) (first cap : Array Value) (w : World), (Instr.makeFunc fn first cap).run Tryz.prog w = .ok (.func fn first cap) w := fun _ _ _ _ => rfl
  have HB0 : Hid (Below w.heap.size w (w.alloc (.cells #[.func (.func 80) #[] #[]] 89))) := below_one w _
  have HCP : Hid ((w.alloc (.cells #[.func (.func 80) #[] #[]] 89)).cell? ⟨w.heap.size, 0, none⟩ = some (.func (.func 80) #[] #[])) := by show _ = _; rw [World.cell?_alloc_at (hn := rfl)]; rfl
  have HE := Lib.hid (h.below HB0.out)
  have HL := Lib.hid hl
  clear h hl
  cases hd : decide ((l : Int) ≤ most)
  · have HF : Hid (false = (false && xs.all sndE)) := by show _ = _; simp
    go_enter Tryz.func79, Tryz.ntmps79
    go_wp2
    go_ret
    exact ⟨ret_boolean HF.out, HB0.out⟩
  · go_enter Tryz.func79, Tryz.ntmps79
    go_wp2_with fail
    refine (hasf_ent _ _ _ _ xs _ HL.out HE.out HCP.out).mono ?_
    rintro e w1 ⟨rfl, hb1⟩
    have HB1 := Lib.hid (HB0.out.trans (hb1.mono HB0.out.size))
    clear hb1
    generalize hq : xs.all sndE = ans at *
    have HQ := Lib.hid hq
    clear hq
    go_wp2
    go_ret
    exact ⟨ret_boolean (by rw [HQ.out]; simp), HB1.out⟩

set_option maxRecDepth 100000 in
set_option maxHeartbeats 1000000 in
theorem refEntries_any (a : Option Addr) (cap l : Nat) (es : List Pe) (w : World) (hl : es.length = l) (h : EnsAt w a cap es) :
    Calls Tryz.prog 26 #[.slice a l cap] w fun e w' => e = .returned (.bool (sndEs es)) ∧ Below w.heap.size w w' := by
  have hm : l ≤ maxLen := by have := h.le; have := h.max; omega
  unfold maxLen at hm
  have HE := Lib.hid h
  have HL := Lib.hid hl
  clear h hl
  by_cases h16 : 4096 < l
  · have hd : decide ((4096 : Int) < (l : Int)) = true := by simp; omega
    have HF : Hid (false = sndEs es) := by show _ = _; unfold sndEs; rw [HL.out]; simp; omega
    go_enter Tryz.func26, Tryz.ntmps26
    go_wp2
    go_ret
    exact ⟨ret_boolean HF.out, Below.refl _ _⟩
  · have hd : decide ((4096 : Int) < (l : Int)) = false := by simp; omega
    go_enter Tryz.func26, Tryz.ntmps26
    go_wp2
    go_loopw [3] (fun i ws => ∃ k : Nat, k ≤ l ∧ i = .int .i64 k ∧ Hid (UpTo es sndE pe0 k) ∧ Hid (Below w.heap.size w ws)) (fun i _ => l - (intOf i).toNat)
    case atStart => exact ⟨0, Nat.zero_le _, rfl, upTo_zero _ _ _, Below.refl _ _⟩
    case round =>
      obtain ⟨k, hk, rfl, HU, HB⟩ := hrel
      by_cases hlt : k < l
      · obtain ⟨b, off, loc, c, rfl, hc⟩ := (HE.out.below HB.out).el k (by rw [HL.out]; exact hlt)
        have c0 := hc.c0
        have c1 := hc.c1
        have c2 := hc.c2
        have c3 := hc.c3
        have c4 := hc.c4
        have c5 := hc.c5
        have c6 := hc.c6
        have c7 := hc.c7
        clear hc
        cases hw : sndE (es.getD k pe0)
        · have HF : Hid (false = sndEs es) := by show _ = _; unfold sndEs; rw [all_no es _ pe0 k (by rw [HL.out]; exact hlt) hw]; simp
          have HW := Lib.hid hw
          clear hw
          generalize es.getD k pe0 = p at *
          go_wp2_with fail
          refine (refEntry_any p loc c _).mono ?_
          rintro e w1 ⟨rfl, hb1⟩
          have HB1 := Lib.hid (HB.out.trans (hb1.mono HB.out.size))
          clear hb1
          rw [HW.out]
          go_wp2
          go_ret
          exact ⟨ret_boolean HF.out, HB1.out⟩
        · have HU' := Lib.hid (HU.out.step hw)
          have HW := Lib.hid hw
          clear hw
          generalize es.getD k pe0 = p at *
          go_wp2_with fail
          refine (refEntry_any p loc c _).mono ?_
          rintro e w1 ⟨rfl, hb1⟩
          have HB1 := Lib.hid (HB.out.trans (hb1.mono HB.out.size))
          clear hb1
          rw [HW.out]
          go_wp2
          go_roundw
          case rel => exact ⟨k + 1, by omega, by go_num, HU', HB1⟩
          case measure => simp [intOf]; omega
      · obtain rfl : k = l := by omega
        have HF : Hid (true = sndEs es) := by
          show _ = _
          unfold sndEs
          rw [all_yes es _ pe0 (by rw [HL.out]; exact HU.out), HL.out]
          simp
          omega
        go_wp2
        go_ret
        exact ⟨ret_boolean HF.out, HB.out⟩

def cnfB (n : Int) (zs : List Int) : Bool := zs.all (fun z => win z 15) && win n 1099511627776 && decide (zs.length ≤ 16)

set_option maxRecDepth 100000 in
set_option maxHeartbeats 1000000 in
theorem refConf_any (n : Int) (a : Option Addr) (cap l : Nat) (zs : List Int) (w : World) (hl : zs.length = l) (h : IntsAt w a cap zs) :
    Calls Tryz.prog 25 #[.agg #[.int .i64 n, .slice a l cap]] w fun e w' => e = .returned (.bool (cnfB n zs)) ∧ Below w.heap.size w w' := by
  have hm : l ≤ maxLen := by have := h.le; have := h.max; omega
  unfold maxLen at hm
  have HB : Hid (Below w.heap.size w (w.alloc (.cells #[.int .i64 n, .slice a l cap] 32))) := below_one w _
  have HC := Lib.hid (h.below HB.out).cell
  have HL := Lib.hid hl
  clear h hl
  go_enter Tryz.func25, Tryz.ntmps25
  go_wp2
  go_loop [3] (fun i => ∃ k : Nat, k ≤ l ∧ i = .int .i64 k ∧ Hid (UpTo zs (fun z => win z 15) 0 k)) (fun i => l - (intOf i).toNat)
  case atStart => exact ⟨0, Nat.zero_le _, rfl, upTo_zero _ _ _⟩
  case round =>
    obtain ⟨k, hk, rfl, HU⟩ := hrel
    by_cases hlt : k < l
    · obtain ⟨b, off, rfl, hc⟩ := HC.out k (by rw [HL.out]; exact hlt)
      cases hw : win (zs.getD k 0) 15
      · have HF : Hid (false = cnfB n zs) := by show _ = _; unfold cnfB; rw [all_no zs _ 0 k (by rw [HL.out]; exact hlt) hw]; simp
        have HW := Lib.hid hw
        clear hw
        generalize zs.getD k 0 = z at *
        go_wp2_with fail
        refine (in0_any _ _ _).mono ?_
        rintro e w' ⟨rfl, rfl⟩
        rw [HW.out]
        go_wp2
        go_ret
        exact ⟨ret_boolean HF.out, HB.out⟩
      · have HU' := Lib.hid (HU.out.step (p := fun z => win z 15) hw)
        have HW := Lib.hid hw
        clear hw
        generalize zs.getD k 0 = z at *
        go_wp2_with fail
        refine (in0_any _ _ _).mono ?_
        rintro e w' ⟨rfl, rfl⟩
        rw [HW.out]
        go_wp2
        go_round
        case rel => exact ⟨k + 1, by omega, by go_num, HU'⟩
        case measure => simp [intOf]; omega
    · obtain rfl : k = l := by omega
      have ha := all_yes zs (fun z => win z 15) 0 (by rw [HL.out]; exact HU.out)
      cases hw : win n 1099511627776
      · have HF : Hid (false = cnfB n zs) := by show _ = _; unfold cnfB; rw [hw]; simp
        have HW := Lib.hid hw
        clear hw ha
        go_wp2_with fail
        refine (in0_any _ _ _).mono ?_
        rintro e w' ⟨rfl, rfl⟩
        rw [HW.out]
        go_wp2
        go_ret
        exact ⟨ret_boolean HF.out, HB.out⟩
      · have HF : Hid (decide ((k : Int) ≤ 16) = cnfB n zs) := by
          show _ = _
          unfold cnfB
          rw [hw, ha, HL.out, Bool.eq_iff_iff]
          simp
          omega
        have HW := Lib.hid hw
        clear hw ha
        go_wp2_with fail
        refine (in0_any _ _ _).mono ?_
        rintro e w' ⟨rfl, rfl⟩
        rw [HW.out]
        go_wp2
        go_ret
        exact ⟨ret_boolean HF.out, HB.out⟩

/-- What a new block holds it holds later too. -/
theorem box_later {w w1 : World} {C : Array Value} {t : TypeId} (hb : Below (w.alloc (.cells C t)).heap.size (w.alloc (.cells C t)) w1) (i : Nat) (v : Value) (h : C[i]? = some v) : w1.cell? ⟨w.heap.size, i, none⟩ = some v :=
  cell_later hb (by rw [World.cell?_alloc_mark]; exact h)

/-- A record whose members lie at ma, and its entries at ea. -/
structure RecAt (w : World) (ma : Option Addr) (mc : Nat) (ea : Option Addr) (ec : Nat) (r : Pr) : Prop where
  mem : IntsAt w ma mc r.mem
  ents : EnsAt w ea ec r.ents
  wf : r.Wf

theorem RecAt.below {w w' : World} {ma ea : Option Addr} {mc ec : Nat} {r : Pr} (h : RecAt w ma mc ea ec r) (hb : Below w.heap.size w w') : RecAt w' ma mc ea ec r := ⟨h.mem.below hb, h.ents.below hb, h.wf⟩






theorem win2_14 (n : Int) : win2 n 1 4 = (decide (1 ≤ n) && decide (n ≤ 4)) := rfl

set_option maxRecDepth 100000 in
set_option maxHeartbeats 4000000 in
theorem refRec_any (ma ea : Option Addr) (mc ec lm le : Nat) (r : Pr) (w : World) (h : RecAt w ma mc ea ec r) (hlm : r.mem.length = lm) (hle : r.ents.length = le) :
    Calls Tryz.prog 10 #[.agg #[.int .i64 r.kind, .int .i64 r.epoch, .slice ma lm mc, .int .i64 r.pos, .int .i64 r.last, .slice ea le ec]] w fun e w' => e = .returned (.bool (sndR r)) ∧ Below w.heap.size w w' := by
  have HB : Hid (Below w.heap.size w (w.alloc (.cells #[.int .i64 r.kind, .int .i64 r.epoch, .slice ma lm mc, .int .i64 r.pos, .int .i64 r.last, .slice ea le ec] 35))) := below_one w _
  have HM := Lib.hid (h.mem.below HB.out)
  have HE := Lib.hid (h.ents.below HB.out)
  have HLM := Lib.hid hlm
  have HLE := Lib.hid hle
  have HS : Hid (sndR r = (win2 r.kind 1 4 && cnfB r.epoch r.mem && win r.pos 15 && win r.last 1099511627776 && sndEs r.ents)) := by
    show _ = _
    unfold sndR sndM cnfB win2
    ac_rfl
  clear h hlm hle
  cases h1 : win2 r.kind 1 4
  · have HF : Hid (false = sndR r) := by show _ = _; rw [HS.out, h1]; simp
    have H1 := Lib.hid h1
    clear h1
    go_enter Tryz.func10, Tryz.ntmps10
    go_wp2_with fail
    refine (in_any _ _ _ _).mono ?_
    rintro e w' ⟨rfl, rfl⟩
    rw [(H1).out]
    go_wp2
    go_ret
    exact ⟨ret_boolean HF.out, HB.out⟩
  · have H1 := Lib.hid h1
    cases h2 : cnfB r.epoch r.mem
    · have HF : Hid (false = sndR r) := by show _ = _; rw [HS.out, h2]; simp
      have H2 := Lib.hid h2
      clear h1 h2
      go_enter Tryz.func10, Tryz.ntmps10
      go_wp2_with fail
      refine (in_any _ _ _ _).mono ?_
      rintro e w' ⟨rfl, rfl⟩
      rw [(H1).out]
      go_wp2_with fail
      refine (refConf_any _ _ _ _ r.mem _ HLM.out HM.out).mono ?_
      rintro e w1 ⟨rfl, hb1⟩
      rw [H2.out]
      have HE1 := Lib.hid (HE.out.below hb1)
      have HB1 := Lib.hid (HB.out.trans (hb1.mono (by simp)))
      have b2 := box_later hb1 2 _ rfl
      have b3 := box_later hb1 3 _ rfl
      have b4 := box_later hb1 4 _ rfl
      have b5 := box_later hb1 5 _ rfl
      clear hb1
      go_wp2
      go_ret
      exact ⟨ret_boolean HF.out, HB1.out⟩
    · have H2 := Lib.hid h2
      cases h3 : win r.pos 15
      · have HF : Hid (false = sndR r) := by show _ = _; rw [HS.out, h3]; simp
        have H3 := Lib.hid h3
        clear h1 h2 h3
        go_enter Tryz.func10, Tryz.ntmps10
        go_wp2_with fail
        refine (in_any _ _ _ _).mono ?_
        rintro e w' ⟨rfl, rfl⟩
        rw [(H1).out]
        go_wp2_with fail
        refine (refConf_any _ _ _ _ r.mem _ HLM.out HM.out).mono ?_
        rintro e w1 ⟨rfl, hb1⟩
        rw [H2.out]
        have HE1 := Lib.hid (HE.out.below hb1)
        have HB1 := Lib.hid (HB.out.trans (hb1.mono (by simp)))
        have b2 := box_later hb1 2 _ rfl
        have b3 := box_later hb1 3 _ rfl
        have b4 := box_later hb1 4 _ rfl
        have b5 := box_later hb1 5 _ rfl
        clear hb1
        go_wp2_with fail
        refine (in0_any _ _ _).mono ?_
        rintro e w' ⟨rfl, rfl⟩
        rw [(H3).out]
        go_wp2
        go_ret
        exact ⟨ret_boolean HF.out, HB1.out⟩
      · have H3 := Lib.hid h3
        cases h4 : win r.last 1099511627776
        · have HF : Hid (false = sndR r) := by show _ = _; rw [HS.out, h4]; simp
          have H4 := Lib.hid h4
          clear h1 h2 h3 h4
          go_enter Tryz.func10, Tryz.ntmps10
          go_wp2_with fail
          refine (in_any _ _ _ _).mono ?_
          rintro e w' ⟨rfl, rfl⟩
          rw [(H1).out]
          go_wp2_with fail
          refine (refConf_any _ _ _ _ r.mem _ HLM.out HM.out).mono ?_
          rintro e w1 ⟨rfl, hb1⟩
          rw [H2.out]
          have HE1 := Lib.hid (HE.out.below hb1)
          have HB1 := Lib.hid (HB.out.trans (hb1.mono (by simp)))
          have b2 := box_later hb1 2 _ rfl
          have b3 := box_later hb1 3 _ rfl
          have b4 := box_later hb1 4 _ rfl
          have b5 := box_later hb1 5 _ rfl
          clear hb1
          go_wp2_with fail
          refine (in0_any _ _ _).mono ?_
          rintro e w' ⟨rfl, rfl⟩
          rw [(H3).out]
          go_wp2_with fail
          refine (in0_any _ _ _).mono ?_
          rintro e w' ⟨rfl, rfl⟩
          rw [(H4).out]
          go_wp2
          go_ret
          exact ⟨ret_boolean HF.out, HB1.out⟩
        · have H4 := Lib.hid h4
          have HF : Hid (sndEs r.ents = sndR r) := by show _ = _; rw [HS.out, h1, h2, h3, h4]; simp
          clear h1 h2 h3 h4
          go_enter Tryz.func10, Tryz.ntmps10
          go_wp2_with fail
          refine (in_any _ _ _ _).mono ?_
          rintro e w' ⟨rfl, rfl⟩
          rw [(H1).out]
          go_wp2_with fail
          refine (refConf_any _ _ _ _ r.mem _ HLM.out HM.out).mono ?_
          rintro e w1 ⟨rfl, hb1⟩
          rw [H2.out]
          have HE1 := Lib.hid (HE.out.below hb1)
          have HB1 := Lib.hid (HB.out.trans (hb1.mono (by simp)))
          have b2 := box_later hb1 2 _ rfl
          have b3 := box_later hb1 3 _ rfl
          have b4 := box_later hb1 4 _ rfl
          have b5 := box_later hb1 5 _ rfl
          clear hb1
          go_wp2_with fail
          refine (in0_any _ _ _).mono ?_
          rintro e w' ⟨rfl, rfl⟩
          rw [(H3).out]
          go_wp2_with fail
          refine (in0_any _ _ _).mono ?_
          rintro e w' ⟨rfl, rfl⟩
          rw [(H4).out]
          go_wp2_with fail
          refine (refEntries_any _ _ _ _ _ HLE.out HE1.out).mono ?_
          rintro e w2 ⟨rfl, hb2⟩
          have HB2 := Lib.hid (HB1.out.trans (hb2.mono HB1.out.size))
          clear hb2
          go_wp2
          go_ret
          exact ⟨ret_boolean HF.out, HB2.out⟩

theorem sndEs_int (es : List Pe) : (decide ((es.length : Int) ≤ 4096) && es.all sndE) = sndEs es := by
  unfold sndEs
  rw [Bool.eq_iff_iff]
  simp
  omega

set_option maxRecDepth 100000 in
set_option maxHeartbeats 1000000 in
theorem soundConf_any (n : Int) (a : Option Addr) (cap l : Nat) (zs : List Int) (w : World) (hl : zs.length = l) (h : IntsAt w a cap zs) :
    Calls Tryz.prog 77 #[.agg #[.int .i64 n, .slice a l cap]] w fun e w' => e = .returned (.bool (cnfB n zs)) ∧ Below w.heap.size w w' := by
  have HB : Hid (Below w.heap.size w (w.alloc (.cells #[.int .i64 n, .slice a l cap] 32))) := below_one w _
  have HC := Lib.hid (h.below HB.out)
  have HL := Lib.hid hl
  clear h hl
  have HW : Hid (cnfB n zs = (win n 1099511627776 && (decide ((l : Int) ≤ 16) && zs.all (fun z => win z 15)))) := by
    show _ = _
    unfold cnfB
    rw [HL.out, show decide ((l : Int) ≤ 16) = decide (l ≤ 16) by rw [Bool.eq_iff_iff]; simp; omega]
    ac_rfl
  go_enter Tryz.func77, Tryz.ntmps77
  go_wp2_with fail
  refine (within_any _ _ _).mono ?_
  rintro e w' ⟨rfl, rfl⟩
  cases hw : win n 1099511627776
  · have HF : Hid (false = cnfB n zs) := by show _ = _; rw [HW.out, hw]; simp
    go_wp2
    go_ret
    exact ⟨ret_boolean HF.out, HB.out⟩
  · have HF : Hid ((decide ((l : Int) ≤ 16) && zs.all (fun z => win z 15)) = cnfB n zs) := by show _ = _; rw [HW.out, hw]; simp
    clear hw
    go_wp2_with fail
    refine (all_int _ _ _ 16 zs _ HL.out HC.out).mono ?_
    rintro e w1 ⟨rfl, hb1⟩
    have HB1 := Lib.hid (HB.out.trans (hb1.mono (by simp)))
    clear hb1
    rw [HF.out]
    go_wp2
    go_ret
    exact ⟨rfl, HB1.out⟩

set_option maxRecDepth 100000 in
set_option maxHeartbeats 4000000 in
theorem soundRecord_any (ma ea : Option Addr) (mc ec lm le : Nat) (r : Pr) (w : World) (h : RecAt w ma mc ea ec r) (hlm : r.mem.length = lm) (hle : r.ents.length = le) :
    Calls Tryz.prog 58 #[.agg #[.int .i64 r.kind, .int .i64 r.epoch, .slice ma lm mc, .int .i64 r.pos, .int .i64 r.last, .slice ea le ec]] w fun e w' => e = .returned (.bool (sndR r)) ∧ Below w.heap.size w w' := by
  have HB : Hid (Below w.heap.size w (w.alloc (.cells #[.int .i64 r.kind, .int .i64 r.epoch, .slice ma lm mc, .int .i64 r.pos, .int .i64 r.last, .slice ea le ec] 35))) := below_one w _
  have HM := Lib.hid (h.mem.below HB.out)
  have HE := Lib.hid (h.ents.below HB.out)
  have HLM := Lib.hid hlm
  have HLE := Lib.hid hle
  have HS : Hid (sndR r = (win2 r.kind 1 4 && cnfB r.epoch r.mem && win r.pos 15 && win r.last 1099511627776 && sndEs r.ents)) := by
    show _ = _
    unfold sndR sndM cnfB win2
    ac_rfl
  clear h hlm hle
  cases h1 : win2 r.kind 1 4
  · have HF : Hid (false = sndR r) := by show _ = _; rw [HS.out, h1]; simp
    have H1 := Lib.hid h1
    clear h1
    go_enter Tryz.func58, Tryz.ntmps58
    go_wp2_with fail
    refine (within2_any _ _ _ _).mono ?_
    rintro e w' ⟨rfl, rfl⟩
    rw [(H1).out]
    go_wp2
    go_ret
    exact ⟨ret_boolean HF.out, HB.out⟩
  · have H1 := Lib.hid h1
    cases h2 : cnfB r.epoch r.mem
    · have HF : Hid (false = sndR r) := by show _ = _; rw [HS.out, h2]; simp
      have H2 := Lib.hid h2
      clear h1 h2
      go_enter Tryz.func58, Tryz.ntmps58
      go_wp2_with fail
      refine (within2_any _ _ _ _).mono ?_
      rintro e w' ⟨rfl, rfl⟩
      rw [(H1).out]
      go_wp2_with fail
      refine (soundConf_any _ _ _ _ r.mem _ HLM.out HM.out).mono ?_
      rintro e w1 ⟨rfl, hb1⟩
      rw [H2.out]
      have HE1 := Lib.hid (HE.out.below hb1)
      have HB1 := Lib.hid (HB.out.trans (hb1.mono (by simp)))
      have b2 := box_later hb1 2 _ rfl
      have b3 := box_later hb1 3 _ rfl
      have b4 := box_later hb1 4 _ rfl
      have b5 := box_later hb1 5 _ rfl
      clear hb1
      go_wp2
      go_ret
      exact ⟨ret_boolean HF.out, HB1.out⟩
    · have H2 := Lib.hid h2
      cases h3 : win r.pos 15
      · have HF : Hid (false = sndR r) := by show _ = _; rw [HS.out, h3]; simp
        have H3 := Lib.hid h3
        clear h1 h2 h3
        go_enter Tryz.func58, Tryz.ntmps58
        go_wp2_with fail
        refine (within2_any _ _ _ _).mono ?_
        rintro e w' ⟨rfl, rfl⟩
        rw [(H1).out]
        go_wp2_with fail
        refine (soundConf_any _ _ _ _ r.mem _ HLM.out HM.out).mono ?_
        rintro e w1 ⟨rfl, hb1⟩
        rw [H2.out]
        have HE1 := Lib.hid (HE.out.below hb1)
        have HB1 := Lib.hid (HB.out.trans (hb1.mono (by simp)))
        have b2 := box_later hb1 2 _ rfl
        have b3 := box_later hb1 3 _ rfl
        have b4 := box_later hb1 4 _ rfl
        have b5 := box_later hb1 5 _ rfl
        clear hb1
        go_wp2_with fail
        refine (place_any _ _).mono ?_
        rintro e w' ⟨rfl, rfl⟩
        rw [(H3).out]
        go_wp2
        go_ret
        exact ⟨ret_boolean HF.out, HB1.out⟩
      · have H3 := Lib.hid h3
        cases h4 : win r.last 1099511627776
        · have HF : Hid (false = sndR r) := by show _ = _; rw [HS.out, h4]; simp
          have H4 := Lib.hid h4
          clear h1 h2 h3 h4
          go_enter Tryz.func58, Tryz.ntmps58
          go_wp2_with fail
          refine (within2_any _ _ _ _).mono ?_
          rintro e w' ⟨rfl, rfl⟩
          rw [(H1).out]
          go_wp2_with fail
          refine (soundConf_any _ _ _ _ r.mem _ HLM.out HM.out).mono ?_
          rintro e w1 ⟨rfl, hb1⟩
          rw [H2.out]
          have HE1 := Lib.hid (HE.out.below hb1)
          have HB1 := Lib.hid (HB.out.trans (hb1.mono (by simp)))
          have b2 := box_later hb1 2 _ rfl
          have b3 := box_later hb1 3 _ rfl
          have b4 := box_later hb1 4 _ rfl
          have b5 := box_later hb1 5 _ rfl
          clear hb1
          go_wp2_with fail
          refine (place_any _ _).mono ?_
          rintro e w' ⟨rfl, rfl⟩
          rw [(H3).out]
          go_wp2_with fail
          refine (within_any _ _ _).mono ?_
          rintro e w' ⟨rfl, rfl⟩
          rw [(H4).out]
          go_wp2
          go_ret
          exact ⟨ret_boolean HF.out, HB1.out⟩
        · have H4 := Lib.hid h4
          have HF : Hid ((decide ((le : Int) ≤ 4096) && r.ents.all sndE) = sndR r) := by show _ = _; rw [HS.out, h1, h2, h3, h4, ← HLE.out, sndEs_int]; simp
          clear h1 h2 h3 h4
          go_enter Tryz.func58, Tryz.ntmps58
          go_wp2_with fail
          refine (within2_any _ _ _ _).mono ?_
          rintro e w' ⟨rfl, rfl⟩
          rw [(H1).out]
          go_wp2_with fail
          refine (soundConf_any _ _ _ _ r.mem _ HLM.out HM.out).mono ?_
          rintro e w1 ⟨rfl, hb1⟩
          rw [H2.out]
          have HE1 := Lib.hid (HE.out.below hb1)
          have HB1 := Lib.hid (HB.out.trans (hb1.mono (by simp)))
          have b2 := box_later hb1 2 _ rfl
          have b3 := box_later hb1 3 _ rfl
          have b4 := box_later hb1 4 _ rfl
          have b5 := box_later hb1 5 _ rfl
          clear hb1
          go_wp2_with fail
          refine (place_any _ _).mono ?_
          rintro e w' ⟨rfl, rfl⟩
          rw [(H3).out]
          go_wp2_with fail
          refine (within_any _ _ _).mono ?_
          rintro e w' ⟨rfl, rfl⟩
          rw [(H4).out]
          go_wp2_with fail
          refine (all_ent _ _ _ 4096 r.ents _ HLE.out HE1.out).mono ?_
          rintro e w2 ⟨rfl, hb2⟩
          have HB2 := Lib.hid (HB1.out.trans (hb2.mono HB1.out.size))
          clear hb2
          go_wp2
          go_ret
          exact ⟨ret_boolean HF.out, HB2.out⟩

end Go.Proofs.YtdgpbdedaafdiaaGreat

namespace Go.Proofs.YtdgpbdedaafdiaaGreat
open Go.RowKit

/-- Integers as the cells hold them. -/
def ivals (zs : List Int) : List Value := zs.map fun z => .int .i64 z

theorem ints_lit (w : World) (zs : List Int) (cs : Array Value) (n B : Nat) (hB : w.heap.size = B) (hcs : cs.toList = ivals zs) (hn : zs.length = n) (hw : ∀ z ∈ zs, I64 z) (hm : n ≤ maxLen) :
    IntsAt (w.alloc (.cells cs 3)) (some ⟨B, 0, none⟩) n zs where
  le := by omega
  max := hm
  wf i := by
    rw [List.getD_eq_getElem?_getD]
    by_cases hi : i < zs.length
    · rw [List.getElem?_eq_getElem hi]; exact hw _ (List.getElem_mem hi)
    · rw [List.getElem?_eq_none (by omega)]; simp
  cell i hi := ⟨B, 0, rfl, by
    rw [Nat.zero_add, ← hB, World.cell?_alloc_mark, ← Array.getElem?_toList, hcs, List.getD_eq_getElem?_getD, List.getElem?_eq_getElem hi]
    simp [ivals, hi]⟩

theorem IntsAt.each {w : World} {a : Option Addr} {cap : Nat} {zs : List Int} (h : IntsAt w a cap zs) : ∀ z ∈ zs, I64 z := by
  intro z hz
  obtain ⟨i, hi, rfl⟩ := List.mem_iff_getElem.mp hz
  have := h.wf i
  rwa [List.getD_eq_getElem?_getD, List.getElem?_eq_getElem hi] at this

/-- []byte(s) of a string of these bytes: a new block. -/
theorem conv_str (w : World) (ps : List Nat) (hB : Gf.Bytes ps) (hl : ps.length ≤ 1000000000) :
    ∃ c w', (convert 9 39 (.string (strB ps))).run Tryz.prog w = .ok (.slice (some ⟨w.heap.size, 0, none⟩) ps.length c) w' ∧ SeenAt w' (some ⟨w.heap.size, 0, none⟩) c ps ∧ Below w.heap.size w w' := by
  have h := run_bytes_of_string (P := Tryz.prog) w 9 39 5 (strB ps) Tryz.underlying9 Tryz.underlying39 Tryz.underlying5
  rw [strB_size] at h
  refine ⟨_, _, h, ⟨grownCap_ge w _ _ _, grownCap_le_maxLen w _ _ _ (by unfold maxLen; omega), hB, fun i hi => ⟨w.heap.size, 0, rfl, ?_⟩⟩, (Below.refl _ _).drew.trans ((below_one _ _).mono (Nat.le_refl _))⟩
  rw [Nat.zero_add]
  have := World.cell?_alloc_mark w.drew (bytesRow (strB ps) (grownCap w ps.length 0 5)) 5 ((bytesRow (strB ps) (grownCap w ps.length 0 5)).size, (bytesRow (strB ps) (grownCap w ps.length 0 5)).size + 1) i
  have hz : i < (strB ps).data.size := by
    have := strB_size ps
    show i < (strB ps).size
    omega
  rw [bytesRow_at _ _ _ hz] at this
  refine this.trans ?_
  have e : (strB ps).data[i].toNat = ps.getD i 0 := by
    have h1 : (strB ps).data.toList[i]? = some (UInt8.ofNat ps[i]) := by rw [strB_list]; simp [hi]
    have h2 : (strB ps).data[i] = UInt8.ofNat ps[i] := by
      rw [Array.getElem?_toList, Array.getElem?_eq_getElem hz] at h1
      exact Option.some.inj h1
    rw [h2, UInt8.toNat_ofNat', List.getD_eq_getElem?_getD, List.getElem?_eq_getElem hi, Nat.mod_eq_of_lt (hB _ (List.getElem_mem hi))]
    rfl
  rw [e]

theorem RowB.at_ {w : World} {base n cap : Nat} {a : Option Addr} {ps : List Nat} (h : RowB w base (.slice a n cap) ps) : ps.length = n ∧ SeenAt w a cap ps := by
  rcases h.own.2 with ⟨hv, h0⟩ | ⟨g, cap', cur, hv, _, hg, hnc, hcm, _⟩
  · have : ps = [] := List.length_eq_zero_iff.mp h0
    subst this
    cases hv
    exact ⟨rfl, SeenAt.nil (Nat.zero_le _)⟩
  · cases hv
    exact ⟨rfl, OwnB.seenAt ⟨h.own, h.byte⟩⟩

theorem RowB.own_ {w : World} {base n cap : Nat} {a : Option Addr} {ps : List Nat} (h : RowB w base (.slice a n cap) ps) (h0 : 0 < ps.length) : ∃ g, a = some ⟨g, 0, Option.none⟩ ∧ OwnB w base g cap ps := by
  have hl := h.at_.1
  subst hl
  rcases h.own.2 with ⟨hv, h0'⟩ | ⟨g, cap', cur, hv, _, hg, hnc, hcm, _⟩
  · cases ps with
    | nil => simp at h0
    | cons c p => cases hv
  · cases hv
    exact ⟨g, rfl, h.own, h.byte⟩

/-- Bytes handed back, in memory of the call's own, or none. -/
def RetW (w : World) (ps : List Nat) (e : Ending) (w' : World) : Prop :=
  ∃ a cap, e = .returned (.slice a ps.length cap) ∧ RowB w' w.heap.size (.slice a ps.length cap) ps ∧ Below w.heap.size w w'

theorem RetW.toO {w w' : World} {ps : List Nat} {e : Ending} (h : RetW w ps e w') (h0 : 0 < ps.length) : RetO w ps e w' := by
  obtain ⟨a, cap, rfl, hr, hb⟩ := h
  obtain ⟨g, rfl, ho⟩ := hr.own_ h0
  exact ⟨g, cap, rfl, ho, hb⟩

set_option maxRecDepth 100000 in
set_option maxHeartbeats 1000000 in
theorem packedNumbers_row (a : Option Addr) (cap l : Nat) (zs : List Int) (w : World) (hl : zs.length = l) (h : IntsAt w a cap zs) (hm : l ≤ 1000000) :
    Calls Tryz.prog 96 #[.slice a l cap] w (RetW w (encs zs)) := by
  have HI := Lib.hid h
  have HL := Lib.hid hl
  clear h hl
  go_enter Tryz.func96, Tryz.ntmps96
  go_wp2
  go_loopw [3, 5, 8] (fun v _ i ws => ∃ (k c : Nat) (x : Option Addr), k ≤ l ∧ i = .int .i64 k ∧ v = .slice x (encs (zs.take k)).length c ∧ Hid (RowB ws w.heap.size (.slice x (encs (zs.take k)).length c) (encs (zs.take k))) ∧ Hid (Below w.heap.size w ws)) (fun _ _ i _ => l - (intOf i).toNat)
  case atStart => exact ⟨0, 0, none, Nat.zero_le _, rfl, rfl, RowB.none _ _, Below.refl _ _⟩
  case round =>
    obtain ⟨k, c, x, hk, rfl, rfl, HR, HB⟩ := hrel
    by_cases hlt : k < l
    · obtain ⟨b, off, rfl, hc⟩ := (HI.out.below HB.out).cell k (by rw [HL.out]; exact hlt)
      have hz := HI.out.wf k
      have HN := Lib.hid (encs_snoc zs k (by rw [HL.out]; exact hlt))
      have HLN : Hid ((encs (zs.take k)).length ≤ 10000000) := by
        have := encs_len (zs.take k)
        have : (zs.take k).length ≤ k := List.length_take_le _ _
        show _ ≤ _
        omega
      have HS := Lib.hid HR.out.at_.2
      generalize hq : (encs (zs.take k)).length = q at *
      have HQ := Lib.hid hq
      clear hq
      generalize zs.getD k 0 = z at *
      go_wp2_with fail
      refine (packNum_own _ _ _ (encs (zs.take k)) z _ HQ.out (by have := HLN.out; omega) HS.out hz.1 hz.2).mono ?_
      rintro e w2 ⟨g2, y2, rfl, ho2, hb2⟩
      have HR2 : Hid (RowB w2 w.heap.size (.slice (some ⟨g2, 0, none⟩) (encs (zs.take (k + 1))).length y2) (encs (zs.take (k + 1)))) := by
        show RowB _ _ _ _
        rw [HN.out]
        exact (ho2.base HB.out.size).row
      have HB2 := Lib.hid (HB.out.trans (hb2.mono HB.out.size))
      rw [← HN.out]
      clear ho2 hb2
      go_wp2
      go_roundw
      case rel => exact ⟨k + 1, y2, some ⟨g2, 0, none⟩, by omega, by go_num, rfl, HR2, HB2⟩
      case measure => simp [intOf]; omega
    · obtain rfl : k = l := by omega
      have HT : Hid (zs.take k = zs) := List.take_of_length_le (by rw [HL.out]; omega)
      rw [HT.out] at HR ⊢
      have HF : Hid (RetW w (encs zs) (.returned (.slice x (encs zs).length c)) wr) := ⟨x, c, rfl, HR.out, HB.out⟩
      generalize (encs zs).length = q at *
      go_wp2
      go_ret
      exact HF.out

theorem packedNumbers_own (a : Option Addr) (cap l : Nat) (zs : List Int) (w : World) (hl : zs.length = l) (h : IntsAt w a cap zs) (hm : l ≤ 1000000) (h0 : 0 < l) :
    Calls Tryz.prog 96 #[.slice a l cap] w (RetO w (encs zs)) :=
  (packedNumbers_row a cap l zs w hl h hm).mono fun _ _ hr => hr.toO (by
    cases zs with
    | nil => simp at hl; omega
    | cons z zs =>
      have := (Pk.num_len z).1
      show 0 < (Pk.num z ++ encs zs).length
      rw [List.length_append]
      omega)

theorem packedNumbers_any (a : Option Addr) (cap l : Nat) (zs : List Int) (w : World) (hl : zs.length = l) (h : IntsAt w a cap zs) (hm : l ≤ 1000000) :
    Calls Tryz.prog 96 #[.slice a l cap] w fun e w' => ∃ x c, e = .returned (.slice x (encs zs).length c) ∧ SeenAt w' x c (encs zs) ∧ Below w.heap.size w w' :=
  (packedNumbers_row a cap l zs w hl h hm).mono fun _ _ ⟨x, c, h1, h2, h3⟩ => ⟨x, c, h1, h2.at_.2, h3⟩

theorem Pe.Wf.six {e : Pe} (h : e.Wf) : ∀ z ∈ [e.seq, e.client, e.num, e.op, e.size, (e.sum : Int)], I64 z := by
  intro z hz
  simp at hz
  have hs := h.sum
  rcases hz with rfl | rfl | rfl | rfl | rfl | rfl
  · exact h.seq
  · exact h.client
  · exact h.num
  · exact h.op
  · exact h.size
  · exact ⟨by omega, by omega⟩

theorem Pr.Wf.five {r : Pr} (h : r.Wf) (hl : r.mem.length ≤ 1000000) : ∀ z ∈ [r.kind, r.epoch, r.pos, r.last, (r.mem.length : Int)], I64 z := by
  intro z hz
  simp at hz
  rcases hz with rfl | rfl | rfl | rfl | rfl
  · exact h.kind
  · exact h.epoch
  · exact h.pos
  · exact h.last
  · exact ⟨by omega, by omega⟩

end Go.Proofs.YtdgpbdedaafdiaaGreat

/-
  What disk's methods do.
-/
import Derived.Test.YtdgpbdedaafdiaaGreatDk
namespace Go.Proofs.YtdgpbdedaafdiaaGreat
open Go.RowKit

theorem slice_toD (b off q c l : Nat) (h : l ≤ c) (w : World) : (Instr.slice 39 (.slice (some ⟨b, off, none⟩) q c) none (some (.int .i64 (l : Int))) none).run Tryz.prog w = .ok (.slice (some ⟨b, off, none⟩) l c) w := by
  rw [run_slice_h w 39 (some ⟨b, off, none⟩) q c (by kernel_rfl) .i64 (l : Int) (by omega) (by omega)]
  have hs : (sizeOf (Tryz.prog.elem 39)).run Tryz.prog w = .ok 1 w := by kernel_rfl
  rw [hs]
  simp [Result.andThen, sliced, Addr.add]

theorem slice_toD' (b off q c l : Nat) (h : l ≤ c) (w : World) : (Instr.sliceAt 39 (.slice (some ⟨b, off, none⟩) q c) none (some (.int .i64 (l : Int))) none).run Tryz.prog w = .ok (.slice (some ⟨b, off, none⟩) l c) w := by
  rw [run_sliceAt_slice w 39 _ _ _ _ (by kernel_rfl)]
  exact slice_toD b off q c l h w

/-- What a method without results leaves. -/
def DoneD (w : World) (base R : Nat) (a : Option Addr) (s : DS) (e : Ending) (w' : World) : Prop :=
  e = .returned (.tuple #[]) ∧ Dsk w' base R a s ∧ Chg [R] w w'

set_option maxHeartbeats 1000000 in
theorem disk_crash (base R : Nat) (a : Option Addr) (s : DS) (w : World) (h : Dsk w base R a s) :
    Calls Tryz.prog 71 #[.pointer (some ⟨R, 0, none⟩)] w (DoneD w base R a { s with off := true }) := by
  have hc := h.off
  have hf := h.free 2
  have HD := Lib.hid (h.setOff true)
  clear h
  go_enter Tryz.func71, Tryz.ntmps71
  go_wp2
  go_end0
  exact ⟨rfl, HD.out, chg_set1 _ _ _ _⟩

set_option maxHeartbeats 1000000 in
theorem disk_start (base R : Nat) (a : Option Addr) (s : DS) (w : World) (h : Dsk w base R a s) :
    Calls Tryz.prog 12 #[.pointer (some ⟨R, 0, none⟩)] w (DoneD w base R a { s with off := false, torn := false }) := by
  have hc := h.off
  have hc3 := h.torn
  have hf := h.free 2
  have hf3 := h.free 3
  have HD := Lib.hid ((h.setOff false).setTorn false)
  clear h
  go_enter Tryz.func12, Tryz.ntmps12
  go_wp2
  go_end0
  exact ⟨rfl, HD.out, (chg_set1 _ _ _ _).trans (chg_set1 _ _ _ _)⟩

set_option maxHeartbeats 1000000 in
theorem disk_tear (base R : Nat) (a : Option Addr) (s : DS) (n : Int) (w : World) (h : Dsk w base R a s) :
    Calls Tryz.prog 11 #[.pointer (some ⟨R, 0, none⟩), .int .i64 n] w (DoneD w base R a { s with torn := true, lim := n.toNat }) := by
  have hc := h.lim
  have hc3 := h.torn
  have hf := h.free 4
  have hf3 := h.free 3
  have HD := Lib.hid ((h.setTorn true).setLim n.toNat)
  clear h
  by_cases h0 : n < 0
  · have e : n.toNat = 0 := by omega
    rw [e] at HD ⊢
    clear e
    go_enter Tryz.func11, Tryz.ntmps11
    go_wp2
    go_end0
    exact ⟨rfl, HD.out, (chg_set1 _ _ _ _).trans (chg_set1 _ _ _ _)⟩
  · obtain ⟨m, rfl⟩ : ∃ m : Nat, n = (m : Int) := ⟨n.toNat, by omega⟩
    rw [Int.toNat_natCast] at HD ⊢
    go_enter Tryz.func11, Tryz.ntmps11
    go_wp2
    go_end0
    exact ⟨rfl, HD.out, (chg_set1 _ _ _ _).trans (chg_set1 _ _ _ _)⟩

set_option maxHeartbeats 1000000 in
theorem disk_read_off (base R : Nat) (a : Option Addr) (s : DS) (w : World) (h : Dsk w base R a s) (ho : s.off = true) :
    Calls Tryz.prog 37 #[.pointer (some ⟨R, 0, none⟩)] w fun e w' => e = .returned (.tuple #[.slice none 0 0, .int .i64 6]) ∧ w = w' := by
  have hc := h.off
  rw [ho] at hc
  clear h ho
  go_enter Tryz.func37, Tryz.ntmps37
  go_wp2
  go_ret2
  exact ⟨rfl, rfl⟩

/-- The content handed back, in new memory. -/
def RdOn (w : World) (ps : List Nat) (e : Ending) (w' : World) : Prop :=
  ∃ a cap, e = .returned (.tuple #[.slice a ps.length cap, .int .i64 0]) ∧ SeenAt w' a cap ps ∧ Fresh w w' a ∧ Below w.heap.size w w'

set_option maxHeartbeats 1000000 in
theorem disk_read_on (base R : Nat) (a : Option Addr) (s : DS) (w : World) (h : Dsk w base R a s) (ho : s.off = false) :
    Calls Tryz.prog 37 #[.pointer (some ⟨R, 0, none⟩)] w (RdOn w s.ps) := by
  have hc := h.off
  rw [ho] at hc
  obtain ⟨cap, hc0, hcon⟩ := h.con
  have hle : s.ps.length ≤ 1000000000 := by have := h.fits; have := h.most; omega
  have HS := Lib.hid hcon.seenAt
  clear h ho hcon
  go_enter Tryz.func37, Tryz.ntmps37
  go_wp2_with fail
  refine (clone_any _ _ _ s.ps _ rfl hle HS.out).mono ?_
  rintro e w1 ⟨a1, c1, rfl, hs1, hn1, hb1⟩
  have HF : Hid (RdOn w s.ps (.returned (.tuple #[.slice a1 s.ps.length c1, .int .i64 0])) w1) := ⟨a1, c1, rfl, hs1, hn1, hb1⟩
  clear hs1 hn1 hb1
  go_wp2
  go_ret2
  exact HF.out

theorem Dsk.put' {gs : List Nat} {w w2 : World} {base R : Nat} {a : Option Addr} {s : DS} (h : Dsk w base R a s) (hb : Chg gs w w2) (hR : R ∉ gs) {a' : Option Addr} {cap' : Nat} {ps : List Nat} (ho : Con w2 base a' cap' ps) (hne : R ∉ blk a') (hf : ps.length ≤ s.room) :
    Dsk (w2.setCell ⟨R, 0, none⟩ (.slice a' ps.length cap')) base R a' { s with ps := ps } := by
  obtain ⟨cap, hc, _⟩ := h.con
  refine ⟨⟨cap', World.cell?_setCell_same _ _ _ (hb.cell hc hR), ho.chg (chg_set1 w2 R 0 _) (fun g hg e => hne (by simpa using (by simpa using e : g = R) ▸ hg))⟩, ?_, ?_, ?_, ?_, fun k => by rw [World.frozen?_setCell, World.frozen?_of_block (hb.block R h.lt hR)]; exact h.free k, hne, h.base, h.most, hf⟩
  all_goals rw [World.cell?_setCell_other _ _ _ _ (by simp)]
  · exact hb.cell h.room hR
  · exact hb.cell h.off hR
  · exact hb.cell h.torn hR
  · exact hb.cell h.lim hR

/-- What a write leaves. -/
def WrP (w : World) (base R : Nat) (a : Option Addr) (p : Int × DS) (e : Ending) (w' : World) : Prop :=
  e = .returned (.int .i64 p.1) ∧ ∃ a', Dsk w' base R a' p.2 ∧ Chg (R :: blk a) w w' ∧ Went w a a'

theorem WrP.same {w : World} {base R : Nat} {a : Option Addr} {s : DS} {n : Int} {p : Int × DS} (h : Dsk w base R a s) (e : p = (n, s)) : WrP w base R a p (.returned (.int .i64 n)) w := by
  subst e
  exact ⟨rfl, a, h, Chg.refl _ _, .inl rfl⟩

theorem Went.ne {w : World} {a a' : Option Addr} {R : Nat} (h : Went w a a') (hR : R < w.heap.size) (hne : R ∉ blk a) : R ∉ blk a' := by
  rcases h with rfl | rfl | ⟨g, rfl, hg⟩
  · exact hne
  · simp [blk]
  · simp [blk]; omega

/-- The bytes are laid, the disk is set. -/
theorem WrP.set {w w1 w2 : World} {base R : Nat} {a a0 a' : Option Addr} {s : DS} {n : Int} {cap' : Nat} {ps : List Nat} {p : Int × DS} (h : Dsk w1 base R a s) (h01 : Chg [R] w w1) (ha0 : a0 = a ∨ a0 = none) (hb : Chg (blk a0) w1 w2) (ho : Con w2 base a' cap' ps) (hw : Went w1 a0 a')
    (hf : ps.length ≤ s.room) (e : p = (n, { s with ps := ps })) (q : Nat) (hq : ps.length = q) : WrP w base R a p (.returned (.int .i64 n)) (w2.setCell ⟨R, 0, none⟩ (.slice a' q cap')) := by
  subst e hq
  have hR0 : R ∉ blk a0 := by
    rcases ha0 with rfl | rfl
    · exact h.ne
    · simp [blk]
  refine ⟨rfl, a', h.put' hb hR0 ho (hw.ne h.lt hR0) hf, ?_, ?_⟩
  · refine (h01.mono (by simp)).trans ((hb.mono ?_).trans ((chg_set1 _ _ _ _).mono (by simp)))
    rcases ha0 with rfl | rfl
    · intro g hg; exact List.mem_cons_of_mem _ hg
    · simp [blk]
  · rcases hw with rfl | rfl | ⟨g, rfl, hg⟩
    · rcases ha0 with rfl | rfl
      · exact .inl rfl
      · exact .inr (.inl rfl)
    · exact .inr (.inl rfl)
    · exact .inr (.inr ⟨g, rfl, Nat.le_trans h01.size hg⟩)

theorem seen_apart {w w' : World} {R : Nat} {xa : Option Addr} {xc : Nat} {ps : List Nat} (h : SeenAt w xa xc ps) (hb : Chg [R] w w') (hn : ps ≠ [] → ∀ g ∈ blk xa, g ≠ R) : SeenAt w' xa xc ps := by
  by_cases h0 : ps = []
  · subst h0
    exact SeenAt.nil h.max
  · refine h.chg hb fun b off e => ?_
    subst e
    have := hn h0 b (by simp [blk])
    simpa using this

set_option maxRecDepth 100000 in
set_option maxHeartbeats 1000000 in
theorem disk_write_no (base R : Nat) (a : Option Addr) (s : DS) (xa : Option Addr) (xc l : Nat) (b : List Nat) (rep : Bool) (w : World) (h : Dsk w base R a s) (hl : b.length = l) (hs : SeenAt w xa xc b)
    (hno : s.off = true ∨ s.room < (if rep then 0 else s.ps.length) + b.length) :
    Calls Tryz.prog 54 #[.pointer (some ⟨R, 0, none⟩), .slice xa l xc, .bool rep] w (WrP w base R a (wrt s b rep)) := by
  have hc2 := h.off
  have hc1 := h.room
  obtain ⟨cap, hc0, _⟩ := h.con
  have h1 := h.fits
  have h2 := h.most
  have h3 : l ≤ maxLen := by have := hs.le; have := hs.max; omega
  unfold maxLen at h3
  have HH := Lib.hid h
  clear h hs
  cases ho : s.off with
  | true =>
    rw [ho] at hc2
    have HF : Hid (wrt s b rep = (6, s)) := by show _ = _; unfold wrt; rw [if_pos ho]
    clear hno ho hl
    go_enter Tryz.func54, Tryz.ntmps54
    go_wp2
    go_ret
    exact WrP.same HH.out HF.out
  | false =>
    rw [ho] at hc2
    have hx : s.room < (if rep then 0 else s.ps.length) + b.length := by
      rcases hno with e | e
      · rw [ho] at e; cases e
      · exact e
    have HF : Hid (wrt s b rep = (5, s)) := by show _ = _; unfold wrt; rw [if_neg (by rw [ho]; simp), if_pos hx]
    rw [hl] at hx
    clear hno ho hl
    cases rep with
    | true =>
      simp only [if_pos] at hx
      have hd : decide ((s.room : Int) < (l : Int)) = true := by simp; omega
      have hd' : decide (s.room < l) = true := by simp; omega
      go_enter Tryz.func54, Tryz.ntmps54
      go_wp2
      go_ret
      exact WrP.same HH.out HF.out
    | false =>
      simp only [Bool.false_eq_true, if_false] at hx
      have hd : decide ((s.room : Int) - (s.ps.length : Int) < (l : Int)) = true := by simp; omega
      go_enter Tryz.func54, Tryz.ntmps54
      go_wp2
      go_ret
      exact WrP.same HH.out HF.out

theorem cell_far {gs : List Nat} {w w' : World} {R k : Nat} {v : Value} (hb : Chg gs w w') (hR : R ∉ gs) (hc : w.cell? ⟨R, k, none⟩ = some v) : w'.cell? ⟨R, k, none⟩ = some v := hb.cell hc hR

theorem free_far {gs : List Nat} {w w' : World} {R k : Nat} (hb : Chg gs w w') (hR : R ∉ gs) (hlt : R < w.heap.size) (hc : w.frozen? ⟨R, k, none⟩ = false) : w'.frozen? ⟨R, k, none⟩ = false := by
  rw [World.frozen?_of_block (hb.block R hlt hR)]; exact hc

set_option maxRecDepth 100000 in
set_option maxHeartbeats 1000000 in
theorem disk_write_ok (base R : Nat) (a : Option Addr) (s : DS) (xa : Option Addr) (xc l : Nat) (b : List Nat) (rep : Bool) (w : World) (h : Dsk w base R a s) (hl : b.length = l) (hs : SeenAt w xa xc b)
    (ho : s.off = false) (ht : s.torn = false) (hr : ¬ s.room < (if rep then 0 else s.ps.length) + b.length) :
    Calls Tryz.prog 54 #[.pointer (some ⟨R, 0, none⟩), .slice xa l xc, .bool rep] w (WrP w base R a (wrt s b rep)) := by
  have hc2 := h.off
  have hc1 := h.room
  have hc3 := h.torn
  rw [ho] at hc2
  rw [ht] at hc3
  obtain ⟨cap, hc0, hcon⟩ := h.con
  have h1 := h.fits
  have h2 := h.most
  have hf0 := h.free 0
  have HF : Hid (wrt s b rep = (0, { s with ps := (if rep then [] else s.ps) ++ b })) := by
    show _ = _
    unfold wrt
    rw [if_neg (by rw [ho]; simp), if_neg hr, if_neg (by rw [ht]; simp)]
  have HBASE : Hid (base ≤ w.heap.size) := by have := h.base; have := h.lt; show _ ≤ _; omega
  have HH := Lib.hid h
  have HS := Lib.hid hs
  have HC := Lib.hid hcon
  have HL := Lib.hid hl
  have HNE := Lib.hid h.ne
  have HLT := Lib.hid h.lt
  have HC0 := Lib.hid hc0
  have HF0 := Lib.hid hf0
  clear h hs ho ht hcon
  cases rep with
  | true =>
    simp only [if_pos] at hr HF
    rw [List.nil_append] at HF
    rw [hl] at hr
    have hd : decide ((s.room : Int) < (l : Int)) = false := by simp; omega
    have hd' : decide (s.room < l) = false := by simp; omega
    have hlb : b.length = l := hl
    clear hl
    go_enter Tryz.func54, Tryz.ntmps54
    go_wp2_with (at_builtin; refine wpList_appC rfl (.tmp 35) (.tmp 36) rfl base none 0 [] b rfl (Con.nil _ _) _ _ (by rw [HL.out]; rfl) HS.out (by rw [HL.out]; simp; omega) HBASE.out ?_; intro a2 cap2 w2 own2 chg2 went2; rw [List.nil_append] at own2 ⊢; have HO2 := Lib.hid own2; have HG2 := Lib.hid chg2; have HW2 := Lib.hid went2; clear own2 chg2 went2; have hcw := cell_far HG2.out (by simp [blk]) HC0.out; have hfw := free_far HG2.out (by simp [blk]) HLT.out HF0.out)
    go_ret
    exact WrP.set HH.out (Chg.refl _ _) (.inr rfl) HG2.out HO2.out HW2.out (by omega) HF.out _ HL.out
  | false =>
    simp only [Bool.false_eq_true, if_false] at hr HF
    rw [hl] at hr
    have hd : decide ((s.room : Int) - (s.ps.length : Int) < (l : Int)) = false := by simp; omega
    have hlb : (s.ps ++ b).length ≤ s.room := by rw [List.length_append, hl]; omega
    clear hl
    go_enter Tryz.func54, Tryz.ntmps54
    go_wp2_with (at_builtin; refine wpList_appC rfl (.tmp 35) (.tmp 36) rfl base a cap s.ps b rfl HC.out _ _ (by rw [HL.out]; rfl) HS.out (by rw [HL.out]; omega) HBASE.out ?_; intro a2 cap2 w2 own2 chg2 went2; have HO2 := Lib.hid own2; have HG2 := Lib.hid chg2; have HW2 := Lib.hid went2; clear own2 chg2 went2; have hcw := cell_far HG2.out HNE.out HC0.out; have hfw := free_far HG2.out HNE.out HLT.out HF0.out)
    go_ret
    exact WrP.set HH.out (Chg.refl _ _) (.inl rfl) HG2.out HO2.out HW2.out hlb HF.out _ List.length_append


/-- The bytes that a torn write leaves. -/
theorem wr_torn (s : DS) (b : List Nat) (rep : Bool) (ho : s.off = false) (ht : s.torn = true) (hr : ¬ s.room < (if rep then 0 else s.ps.length) + b.length) :
    wrt s b rep = (6, { s with off := true, ps := if b.length ≤ s.lim then (if rep then [] else s.ps) ++ b else if rep then s.ps else s.ps ++ b.take s.lim }) := by
  unfold wrt
  rw [if_neg (by rw [ho]; simp), if_neg hr, if_pos ht]

set_option maxRecDepth 100000 in
set_option maxHeartbeats 1000000 in
theorem disk_write_torn (base R : Nat) (a : Option Addr) (s : DS) (xa : Option Addr) (xc l : Nat) (b : List Nat) (rep : Bool) (w : World) (h : Dsk w base R a s) (hl : b.length = l) (hs : SeenAt w xa xc b) (hxa : b ≠ [] → ∀ g ∈ blk xa, g ≠ R)
    (ho : s.off = false) (ht : s.torn = true) (hr : ¬ s.room < (if rep then 0 else s.ps.length) + b.length) :
    Calls Tryz.prog 54 #[.pointer (some ⟨R, 0, none⟩), .slice xa l xc, .bool rep] w (WrP w base R a (wrt s b rep)) := by
  have hc2 := h.off
  have hc1 := h.room
  have hc3 := h.torn
  rw [ho] at hc2
  rw [ht] at hc3
  obtain ⟨cap, hc0, hcon⟩ := h.con
  have h1 := h.fits
  have h2 := h.most
  have HF := Lib.hid (wr_torn s b rep ho ht hr)
  have HBASE : Hid (base ≤ w.heap.size) := by have := h.base; have := h.lt; show _ ≤ _; omega
  have HH := Lib.hid h
  have HS := Lib.hid hs
  have HL := Lib.hid hl
  have HNE := Lib.hid h.ne
  have HXA := Lib.hid hxa
  have hxc : l ≤ xc := by have := hs.le; omega
  clear h hs ho ht hcon hxa
  by_cases hlim : l ≤ s.lim
  · rw [if_pos (by rw [hl]; exact hlim)] at HF
    have hdl : decide ((l : Int) ≤ (s.lim : Int)) = true := by simp; omega
    have hdl' : decide (l ≤ s.lim) = true := by simp; omega
    cases rep with
    | true =>
      simp only [if_pos] at hr HF
      rw [List.nil_append] at HF
      rw [hl] at hr
      have hd : decide ((s.room : Int) < (l : Int)) = false := by simp; omega
      have hd' : decide (s.room < l) = false := by simp; omega
      have hlb : b.length ≤ s.room := by omega
      clear hl
      go_enter Tryz.func54, Tryz.ntmps54
      go_wp2_with fail
      refine (disk_crash base R a s _ HH.out).mono ?_
      rintro e w1 ⟨rfl, hd1, hg1⟩
      have hk4 := hd1.lim
      have hk0 := hd1.free 0
      obtain ⟨cap1, hk1, hcon1⟩ := hd1.con
      have HS1 := Lib.hid (seen_apart HS.out hg1 HXA.out)
      have HB1 : Hid (base ≤ w1.heap.size) := by have := HBASE.out; have := hg1.size; show _ ≤ _; omega
      have HD1 := Lib.hid hd1
      have HG1 := Lib.hid hg1
      have HK0 := Lib.hid hk0
      have HK1 := Lib.hid hk1
      clear hd1 hg1 hcon1
      dsimp only at hk4
      go_wp2_with (at_builtin; refine wpList_appC rfl (.tmp 50) (.tmp 51) rfl base none 0 [] b rfl (Con.nil _ _) _ _ (by rw [HL.out]; rfl) HS1.out (by rw [HL.out]; simp; omega) HB1.out ?_; intro a2 cap2 w2 own2 chg2 went2; rw [List.nil_append] at own2 ⊢; have HO2 := Lib.hid own2; have HG2 := Lib.hid chg2; have HW2 := Lib.hid went2; clear own2 chg2 went2; have hcw := cell_far HG2.out (by simp [blk]) HK1.out; have hfw := free_far HG2.out (by simp [blk]) HD1.out.lt HK0.out)
      go_ret
      exact WrP.set HD1.out HG1.out (.inr rfl) HG2.out HO2.out HW2.out hlb HF.out _ rfl
    | false =>
      simp only [Bool.false_eq_true, if_false] at hr HF
      rw [hl] at hr
      have hd : decide ((s.room : Int) - (s.ps.length : Int) < (l : Int)) = false := by simp; omega
      have hlb : (s.ps ++ b).length ≤ s.room := by rw [List.length_append, hl]; omega
      clear hl
      go_enter Tryz.func54, Tryz.ntmps54
      go_wp2_with fail
      refine (disk_crash base R a s _ HH.out).mono ?_
      rintro e w1 ⟨rfl, hd1, hg1⟩
      have hk4 := hd1.lim
      have hk0 := hd1.free 0
      have HC1 : Hid (Con w1 base a cap s.ps) := by
        obtain ⟨c', hc', hcon'⟩ := HH.out.con
        rw [hc0] at hc'
        injection hc' with e1
        injection e1 with _ _ e3
        subst e3
        exact hcon'.chg hg1 (fun g hg e => HNE.out (by simpa using (by simpa using e : g = R) ▸ hg))
      obtain ⟨cap1, hk1, _⟩ := hd1.con
      have HS1 := Lib.hid (seen_apart HS.out hg1 HXA.out)
      have HB1 : Hid (base ≤ w1.heap.size) := by have := HBASE.out; have := hg1.size; show _ ≤ _; omega
      have HD1 := Lib.hid hd1
      have HG1 := Lib.hid hg1
      have HK0 := Lib.hid hk0
      have HK1 := Lib.hid hk1
      clear hd1 hg1
      dsimp only at hk4
      go_wp2_with (at_builtin; refine wpList_appC rfl (.tmp 50) (.tmp 51) rfl base a cap s.ps b rfl HC1.out _ _ (by rw [HL.out]; rfl) HS1.out (by rw [HL.out]; omega) HB1.out ?_; intro a2 cap2 w2 own2 chg2 went2; have HO2 := Lib.hid own2; have HG2 := Lib.hid chg2; have HW2 := Lib.hid went2; clear own2 chg2 went2; have hcw := cell_far HG2.out HNE.out HK1.out; have hfw := free_far HG2.out HNE.out HD1.out.lt HK0.out)
      go_ret
      exact WrP.set HD1.out HG1.out (.inl rfl) HG2.out HO2.out HW2.out hlb HF.out _ List.length_append
  · rw [if_neg (by rw [hl]; exact hlim)] at HF
    have hdl : decide ((l : Int) ≤ (s.lim : Int)) = false := by simp; omega
    have hdl' : decide (l ≤ s.lim) = false := by simp; omega
    cases rep with
    | true =>
      simp only [if_pos] at hr HF
      rw [hl] at hr
      have hd : decide ((s.room : Int) < (l : Int)) = false := by simp; omega
      have hd' : decide (s.room < l) = false := by simp; omega
      clear hl
      go_enter Tryz.func54, Tryz.ntmps54
      go_wp2_with fail
      refine (disk_crash base R a s _ HH.out).mono ?_
      rintro e w1 ⟨rfl, hd1, hg1⟩
      have hk4 := hd1.lim
      have HD1 := Lib.hid hd1
      have HG1 := Lib.hid hg1
      clear hd1 hg1
      dsimp only at hk4
      go_wp2
      go_ret
      rw [HF.out]
      exact ⟨rfl, a, HD1.out, HG1.out.mono (by simp), .inl rfl⟩
    | false =>
      simp only [Bool.false_eq_true, if_false] at hr HF
      rw [hl] at hr
      have hd : decide ((s.room : Int) - (s.ps.length : Int) < (l : Int)) = false := by simp; omega
      have HTK : Hid ((b.take s.lim).length = s.lim) := by show _ = _; rw [List.length_take, hl]; omega
      have hlb : (s.ps ++ b.take s.lim).length ≤ s.room := by rw [List.length_append, HTK.out]; omega
      obtain ⟨xb, xo, rfl, _⟩ := HS.out.cell 0 (by rw [hl]; omega)
      have hsl := slice_toD xb xo l xc s.lim (by omega)
      have hsl' := slice_toD' xb xo l xc s.lim (by omega)
      clear hl
      go_enter Tryz.func54, Tryz.ntmps54
      go_wp2_with fail
      refine (disk_crash base R a s _ HH.out).mono ?_
      rintro e w1 ⟨rfl, hd1, hg1⟩
      have hk4 := hd1.lim
      have hk0 := hd1.free 0
      have HC1 : Hid (Con w1 base a cap s.ps) := by
        obtain ⟨c', hc', hcon'⟩ := HH.out.con
        rw [hc0] at hc'
        injection hc' with e1
        injection e1 with _ _ e3
        subst e3
        exact hcon'.chg hg1 (fun g hg e => HNE.out (by simpa using (by simpa using e : g = R) ▸ hg))
      obtain ⟨cap1, hk1, _⟩ := hd1.con
      have HS1 := Lib.hid ((seen_apart HS.out hg1 HXA.out).take s.lim)
      have HB1 : Hid (base ≤ w1.heap.size) := by have := HBASE.out; have := hg1.size; show _ ≤ _; omega
      have HD1 := Lib.hid hd1
      have HG1 := Lib.hid hg1
      have HK0 := Lib.hid hk0
      have HK1 := Lib.hid hk1
      clear hd1 hg1
      dsimp only at hk4
      go_wp2_with (at_builtin; refine wpList_appC rfl (.tmp 58) (.tmp 64) rfl base a cap s.ps (b.take s.lim) rfl HC1.out _ _ (by rw [HTK.out]; rfl) HS1.out (by rw [HTK.out]; omega) HB1.out ?_; intro a2 cap2 w2 own2 chg2 went2; rw [List.length_append, HTK.out]; have HO2 := Lib.hid own2; have HG2 := Lib.hid chg2; have HW2 := Lib.hid went2; clear own2 chg2 went2; have hcw := cell_far HG2.out HNE.out HK1.out; have hfw := free_far HG2.out HNE.out HD1.out.lt HK0.out)
      go_ret
      exact WrP.set HD1.out HG1.out (.inl rfl) HG2.out HO2.out HW2.out hlb HF.out _ (by rw [List.length_append, HTK.out])

theorem disk_write (base R : Nat) (a : Option Addr) (s : DS) (xa : Option Addr) (xc l : Nat) (b : List Nat) (rep : Bool) (w : World) (h : Dsk w base R a s) (hl : b.length = l) (hs : SeenAt w xa xc b) (hxa : b ≠ [] → ∀ g ∈ blk xa, g ≠ R) :
    Calls Tryz.prog 54 #[.pointer (some ⟨R, 0, none⟩), .slice xa l xc, .bool rep] w (WrP w base R a (wrt s b rep)) := by
  by_cases hr : s.room < (if rep then 0 else s.ps.length) + b.length
  · exact disk_write_no base R a s xa xc l b rep w h hl hs (.inr hr)
  · cases ho : s.off with
    | true => exact disk_write_no base R a s xa xc l b rep w h hl hs (.inl ho)
    | false =>
      cases ht : s.torn with
      | true => exact disk_write_torn base R a s xa xc l b rep w h hl hs hxa ho ht hr
      | false => exact disk_write_ok base R a s xa xc l b rep w h hl hs ho ht hr

set_option maxHeartbeats 1000000 in
theorem disk_append (base R : Nat) (a : Option Addr) (s : DS) (xa : Option Addr) (xc l : Nat) (b : List Nat) (w : World) (h : Dsk w base R a s) (hl : b.length = l) (hs : SeenAt w xa xc b) (hxa : b ≠ [] → ∀ g ∈ blk xa, g ≠ R) :
    Calls Tryz.prog 82 #[.pointer (some ⟨R, 0, none⟩), .slice xa l xc] w (WrP w base R a (wrt s b false)) := by
  have HW := Lib.hid (disk_write base R a s xa xc l b false w h hl hs hxa)
  clear h hs hxa hl
  go_enter Tryz.func82, Tryz.ntmps82
  go_wp2_with fail
  refine HW.out.mono ?_
  rintro e w1 ⟨rfl, hx⟩
  have HX := Lib.hid hx
  clear hx
  go_wp2
  go_ret
  exact ⟨rfl, HX.out⟩

set_option maxHeartbeats 1000000 in
theorem disk_replace (base R : Nat) (a : Option Addr) (s : DS) (xa : Option Addr) (xc l : Nat) (b : List Nat) (w : World) (h : Dsk w base R a s) (hl : b.length = l) (hs : SeenAt w xa xc b) (hxa : b ≠ [] → ∀ g ∈ blk xa, g ≠ R) :
    Calls Tryz.prog 39 #[.pointer (some ⟨R, 0, none⟩), .slice xa l xc] w (WrP w base R a (wrt s b true)) := by
  have HW := Lib.hid (disk_write base R a s xa xc l b true w h hl hs hxa)
  clear h hs hxa hl
  go_enter Tryz.func39, Tryz.ntmps39
  go_wp2_with fail
  refine HW.out.mono ?_
  rintro e w1 ⟨rfl, hx⟩
  have HX := Lib.hid hx
  clear hx
  go_wp2
  go_ret
  exact ⟨rfl, HX.out⟩

/-- A disk that was made behind w0. -/
structure DW (w0 w : World) (R : Nat) (a : Option Addr) (s : DS) : Prop where
  dsk : Dsk w w0.heap.size R a s
  bel : Below w0.heap.size w0 w

theorem DW.alloc {w0 w : World} {R : Nat} {a : Option Addr} {s : DS} (h : DW w0 w R a s) (o : Obj) : DW w0 (w.alloc o) R a s := ⟨h.dsk.below (below_one _ _), h.bel.trans ((below_one _ _).mono h.bel.size)⟩

theorem DW.below {w0 w w' : World} {R : Nat} {a : Option Addr} {s : DS} (h : DW w0 w R a s) (hb : Below w.heap.size w w') : DW w0 w' R a s := ⟨h.dsk.below hb, h.bel.trans (hb.mono h.bel.size)⟩

theorem DW.done {w0 w w' : World} {R : Nat} {a : Option Addr} {s s' : DS} (h : DW w0 w R a s) (hd : Dsk w' w0.heap.size R a s') (hb : Chg [R] w w') : DW w0 w' R a s' :=
  ⟨hd, hb.below h.bel h.bel.size (by intro g hg; simp at hg; subst hg; exact h.dsk.base)⟩

theorem DW.wrote {w0 w w' : World} {R : Nat} {a a' : Option Addr} {s s' : DS} (h : DW w0 w R a s) (hd : Dsk w' w0.heap.size R a' s') (hb : Chg (R :: blk a) w w') : DW w0 w' R a' s' := by
  refine ⟨hd, hb.below h.bel h.bel.size ?_⟩
  intro g hg
  obtain ⟨cap, _, hc⟩ := h.dsk.con
  rcases List.mem_cons.mp hg with rfl | hg
  · exact h.dsk.base
  · exact (hc.lt hg).1

/-- What lies below a world's end is not the disk that was made behind it. -/
theorem DW.far {w0 w : World} {R : Nat} {a xa : Option Addr} {s : DS} (h : DW w0 w R a s) {xc : Nat} {b : List Nat} (hs : SeenAt w0 xa xc b) (hb : b ≠ []) : ∀ g ∈ blk xa, g ≠ R := by
  intro g hg
  obtain ⟨b', off, rfl, hc⟩ := hs.cell 0 (by cases b with | nil => exact absurd rfl hb | cons c q => simp)
  simp [blk] at hg
  subst hg
  have := World.block_lt_of_cell? w0 _ hc
  have := h.dsk.base
  simp at *
  omega

/-! No disk. -/
set_option maxHeartbeats 1000000 in
theorem write_nil (xa : Option Addr) (l xc : Nat) (rep : Bool) (w : World) :
    Calls Tryz.prog 54 #[.pointer none, .slice xa l xc, .bool rep] w fun e w' => e = .returned (.int .i64 1) ∧ w = w' := by
  go_enter Tryz.func54, Tryz.ntmps54
  go_wp2
  go_ret
  exact ⟨rfl, rfl⟩

set_option maxHeartbeats 1000000 in
theorem append_nil (xa : Option Addr) (l xc : Nat) (w : World) :
    Calls Tryz.prog 82 #[.pointer none, .slice xa l xc] w fun e w' => e = .returned (.int .i64 1) ∧ w = w' := by
  go_enter Tryz.func82, Tryz.ntmps82
  go_wp2_with fail
  refine (write_nil _ _ _ _ _).mono ?_
  rintro e w1 ⟨rfl, rfl⟩
  go_wp2
  go_ret
  exact ⟨rfl, rfl⟩

set_option maxHeartbeats 1000000 in
theorem replace_nil (xa : Option Addr) (l xc : Nat) (w : World) :
    Calls Tryz.prog 39 #[.pointer none, .slice xa l xc] w fun e w' => e = .returned (.int .i64 1) ∧ w = w' := by
  go_enter Tryz.func39, Tryz.ntmps39
  go_wp2_with fail
  refine (write_nil _ _ _ _ _).mono ?_
  rintro e w1 ⟨rfl, rfl⟩
  go_wp2
  go_ret
  exact ⟨rfl, rfl⟩

set_option maxHeartbeats 1000000 in
theorem tear_nil (n : Int) (w : World) : Calls Tryz.prog 11 #[.pointer none, .int .i64 n] w fun e w' => e = .returned (.tuple #[]) ∧ w = w' := by
  go_enter Tryz.func11, Tryz.ntmps11
  go_wp2
  (try simp only [Exit.inBlock, Exit.then])
  refine bodyPost_ret (results_none rfl _ _ _) rfl ?_
  exact ⟨rfl, rfl⟩

set_option maxHeartbeats 1000000 in
theorem crash_nil (w : World) : Calls Tryz.prog 71 #[.pointer none] w fun e w' => e = .returned (.tuple #[]) ∧ w = w' := by
  go_enter Tryz.func71, Tryz.ntmps71
  go_wp2
  (try simp only [Exit.inBlock, Exit.then])
  refine bodyPost_ret (results_none rfl _ _ _) rfl ?_
  exact ⟨rfl, rfl⟩

set_option maxHeartbeats 1000000 in
theorem start_nil (w : World) : Calls Tryz.prog 12 #[.pointer none] w fun e w' => e = .returned (.tuple #[]) ∧ w = w' := by
  go_enter Tryz.func12, Tryz.ntmps12
  go_wp2
  (try simp only [Exit.inBlock, Exit.then])
  refine bodyPost_ret (results_none rfl _ _ _) rfl ?_
  exact ⟨rfl, rfl⟩

set_option maxHeartbeats 1000000 in
theorem read_nil (w : World) : Calls Tryz.prog 37 #[.pointer none] w fun e w' => e = .returned (.tuple #[.slice none 0 0, .int .i64 1]) ∧ w = w' := by
  go_enter Tryz.func37, Tryz.ntmps37
  go_wp2
  go_ret2
  exact ⟨rfl, rfl⟩

end Go.Proofs.YtdgpbdedaafdiaaGreat

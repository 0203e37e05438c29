/-
  When messages are sound, by the program: soundParty, soundFrag, soundKey, soundSource, fields.All of them, msg.Sound; by the reference: Msg.
-/
import Derived.Test.YtggjpjpemgpeeaaGreatMgM
import Derived.Test.YtggjpjpemgpeeaaGreatWalksY4
namespace Go.Proofs.YtggjpjpemgpeeaaGreat
open Go.RowKit

theorem party_any (n : Int) (w : World) : Calls Tryz.prog 49 #[.int .i64 n] w fun e w' => e = .returned (.bool (win2 n (-5) 15)) ∧ w = w' := by
  go_enter Tryz.func49, Tryz.ntmps49
  go_wp2_with fail
  refine (within2_any _ _ _ _).mono ?_
  rintro e w' ⟨rfl, rfl⟩
  go_wp2
  go_ret
  exact ⟨rfl, rfl⟩

theorem soundKey_any (p : List Nat) (w : World) : Calls Tryz.prog 60 #[.string (strB p)] w fun e w' => e = .returned (.bool (sndK p)) ∧ Below w.heap.size w w' := by
  have HF : Hid (decide (((strB p).size : Int) ≤ 16) = sndK p) := by
    show _ = _
    unfold sndK
    rw [strB_size, Bool.eq_iff_iff]
    simp
    omega
  generalize strB p = s at *
  obtain ⟨kz, hkz⟩ : ∃ q, s.size = q := ⟨_, rfl⟩
  rw [hkz] at HF
  go_enter Tryz.func60, Tryz.ntmps60
  go_wp2
  go_ret
  exact ⟨ret_boolean HF.out, Below.refl _ _⟩

theorem soundFrag_any (p : Fr) (w : World) : Calls Tryz.prog 58 #[.agg #[.int .i64 p.pos, .slice p.loc p.data.length p.cap]] w fun e w' => e = .returned (.bool (sndF (p.pos, p.data))) ∧ Below w.heap.size w w' := by
  have HB : Hid (Below w.heap.size w (w.alloc (.cells #[.int .i64 p.pos, .slice p.loc p.data.length p.cap] 70))) := below_one w _
  have HW : Hid (sndF (p.pos, p.data) = (win p.pos 15 && decide ((p.data.length : Int) ≤ 256))) := by
    show _ = _
    unfold sndF
    rw [show decide ((p.data.length : Int) ≤ 256) = decide (p.data.length ≤ 256) by rw [Bool.eq_iff_iff]; simp; omega]
    rfl
  go_enter Tryz.func58, Tryz.ntmps58
  go_wp2_with fail
  refine (place_any _ _).mono ?_
  rintro e w' ⟨rfl, rfl⟩
  cases h1 : win p.pos 15
  · have HF : Hid (false = sndF (p.pos, p.data)) := by show _ = _; rw [HW.out, h1]; simp
    go_wp2
    go_ret
    exact ⟨ret_boolean HF.out, HB.out⟩
  · have HF : Hid (decide ((p.data.length : Int) ≤ 256) = sndF (p.pos, p.data)) := by show _ = _; rw [HW.out, h1]; simp
    go_wp2
    go_ret
    exact ⟨ret_boolean HF.out, HB.out⟩

theorem soundSource_any (a b : Int) (w : World) : Calls Tryz.prog 62 #[.agg #[.int .i64 a, .int .i64 b]] w fun e w' => e = .returned (.bool (sndS (a, b))) ∧ Below w.heap.size w w' := by
  have HB : Hid (Below w.heap.size w (w.alloc (.cells #[.int .i64 a, .int .i64 b] 72))) := below_one w _
  have HW : Hid (sndS (a, b) = (win a 15 && win b 15)) := rfl
  go_enter Tryz.func62, Tryz.ntmps62
  go_wp2_with fail
  refine (place_any _ _).mono ?_
  rintro e w' ⟨rfl, rfl⟩
  cases h1 : win a 15
  · have HF : Hid (false = sndS (a, b)) := by show _ = _; rw [HW.out, h1]; simp
    go_wp2
    go_ret
    exact ⟨ret_boolean HF.out, HB.out⟩
  · have HF : Hid (win b 15 = sndS (a, b)) := by show _ = _; rw [HW.out, h1]; simp
    go_wp2_with fail
    refine (place_any _ _).mono ?_
    rintro e w' ⟨rfl, rfl⟩
    go_wp2
    go_ret
    exact ⟨ret_boolean HF.out, HB.out⟩

set_option maxHeartbeats 400000 in
theorem allc_frg (p : Fr) (cp : Addr) (w : World) (hc : w.cell? cp = some (.func (.func 58) #[] #[])) :
    Calls Tryz.prog 86 #[.agg #[.int .i64 p.pos, .slice p.loc p.data.length p.cap], .pointer (some cp)] w fun e w' => e = .returned (.bool (!(sndF (p.pos, p.data)))) ∧ Below w.heap.size w w' := by
  have hc := cell_later (below_one w (.cells #[.int .i64 p.pos, .slice p.loc p.data.length p.cap] 70)) hc
  go_enter Tryz.func86, Tryz.ntmps86
  go_wp2_with fail
  refine (soundFrag_any p _).mono ?_
  rintro e w1 ⟨rfl, hb1⟩
  have HB1 : Hid (Below w.heap.size w w1) := (below_one w _).trans (hb1.mono (by simp))
  clear hb1
  generalize hq : sndF (p.pos, p.data) = ans at *
  have HQ := Lib.hid hq
  clear hq
  go_wp2
  go_ret
  exact ⟨ret_boolean (by rw [HQ.out]), HB1.out⟩

set_option maxRecDepth 100000 in
set_option maxHeartbeats 1000000 in
theorem idxf_frg (a : Option Addr) (cap l : Nat) (cp : Addr) (xs : List Fr) (w : World) (hl : xs.length = l) (h : FrsAt w a cap xs) (hc : w.cell? cp = some (.func (.func 58) #[] #[])) :
    Calls Tryz.prog 104 #[.slice a l cap, .func (.func 86) #[] #[.pointer (some cp)]] w (IdxA w (xs.all (fun (f : Fr) => sndF (f.pos, f.data)))) := by
  have hm : l ≤ maxLen := by have := h.le; have := h.max; omega
  unfold maxLen at hm
  have HE := Lib.hid h
  have HL := Lib.hid hl
  have HCP := Lib.hid hc
  clear h hl hc
  go_enter Tryz.func104, Tryz.ntmps104
  go_wp2
  go_loopw [5, 8] (fun _ i ws => ∃ k : Nat, k ≤ l ∧ i = .int .i64 k ∧ Hid (UpTo xs (fun (f : Fr) => sndF (f.pos, f.data)) fr0 k) ∧ Hid (Below w.heap.size w ws)) (fun _ i _ => l - (intOf i).toNat)
  case atStart => exact ⟨0, Nat.zero_le _, rfl, upTo_zero _ _ _, Below.refl _ _⟩
  case round =>
    obtain ⟨k, hk, rfl, HU, HB⟩ := hrel
    by_cases hlt : k < l
    · have HCK := Lib.hid (cell_later HB.out HCP.out)
      obtain ⟨b, off, rfl, hc0, hc1, _⟩ := (HE.out.below HB.out).el k (by rw [HL.out]; exact hlt)
      have HNO : Hid ((fun (f : Fr) => sndF (f.pos, f.data)) (xs.getD k fr0) = false → xs.all (fun (f : Fr) => sndF (f.pos, f.data)) = false) := all_no xs (fun (f : Fr) => sndF (f.pos, f.data)) fr0 k (by rw [HL.out]; exact hlt)
      have HYES : Hid ((fun (f : Fr) => sndF (f.pos, f.data)) (xs.getD k fr0) = true → UpTo xs (fun (f : Fr) => sndF (f.pos, f.data)) fr0 (k + 1)) := fun hw => HU.out.step (p := (fun (f : Fr) => sndF (f.pos, f.data))) hw
      generalize xs.getD k fr0 = p at *
      go_wp2_with fail
      refine (allc_frg p _ _ HCK.out).mono ?_
      rintro e w1 ⟨rfl, hb1⟩
      have HB1 := Lib.hid (HB.out.trans (hb1.mono HB.out.size))
      clear hb1
      cases hw : sndF (p.pos, p.data)
      · have HF := Lib.hid (HNO.out ( hw))
        clear hw
        go_wp2
        go_ret
        exact ⟨.inr ⟨HF.out, k, rfl⟩, HB1.out⟩
      · have HU' := Lib.hid (HYES.out ( hw))
        clear hw
        go_wp2
        go_roundw
        case rel => exact ⟨k + 1, by omega, by go_num, HU', HB1⟩
        case measure => simp [intOf]; omega
    · obtain rfl : k = l := by omega
      have HF : Hid (xs.all (fun (f : Fr) => sndF (f.pos, f.data)) = true) := all_yes xs (fun (f : Fr) => sndF (f.pos, f.data)) fr0 (by rw [HL.out]; exact HU.out)
      go_wp2
      go_ret
      exact ⟨.inl ⟨HF.out, rfl⟩, HB.out⟩

set_option maxRecDepth 100000 in
set_option maxHeartbeats 1000000 in
theorem hasf_frg (a : Option Addr) (cap l : Nat) (cp : Addr) (xs : List Fr) (w : World) (hl : xs.length = l) (h : FrsAt w a cap xs) (hc : w.cell? cp = some (.func (.func 58) #[] #[])) :
    Calls Tryz.prog 87 #[.slice a l cap, .func (.func 86) #[] #[.pointer (some cp)]] w fun e w' => e = .returned (.bool (!(xs.all (fun (f : Fr) => sndF (f.pos, f.data))))) ∧ Below w.heap.size w w' := by
  have HE := Lib.hid h
  have HL := Lib.hid hl
  have HCP := Lib.hid hc
  clear h hl hc
  go_enter Tryz.func87, Tryz.ntmps87
  go_wp2_with fail
  refine (idxf_frg _ _ _ _ xs _ HL.out HE.out HCP.out).mono ?_
  rintro e w' ⟨⟨hq, rfl⟩ | ⟨hq, j, rfl⟩, hb⟩
  · have HB := Lib.hid hb
    have HQ := Lib.hid hq
    clear hq hb
    go_wp2
    go_ret
    exact ⟨ret_boolean (by rw [HQ.out]; rfl), HB.out⟩
  · have h0 : (0 : Int) ≤ (j : Int) := by omega
    have HB := Lib.hid hb
    have HQ := Lib.hid hq
    clear hq hb
    go_wp2
    go_ret
    exact ⟨ret_boolean (by rw [HQ.out]; rfl), HB.out⟩

set_option maxRecDepth 100000 in
set_option maxHeartbeats 1000000 in
theorem all_frg (a : Option Addr) (cap l : Nat) (most : Int) (xs : List Fr) (w : World) (hl : xs.length = l) (h : FrsAt w a cap xs) :
    Calls Tryz.prog 57 #[.slice a l cap, .int .i64 most, .func (.func 58) #[] #[]] w fun e w' => e = .returned (.bool (decide ((l : Int) ≤ most) && xs.all (fun (f : Fr) => sndF (f.pos, f.data)))) ∧ Below w.heap.size w w' := by
  have hm : l ≤ maxLen := by have := h.le; have := h.max; omega
  unfold maxLen at hm
  have hmf : ∀ (fn : Fn) (first cap : Array Value) (w : World), (Instr.makeFunc fn first cap).run Tryz.prog w = .ok (.func fn first cap) w := fun _ _ _ _ => rfl
  have HB0 : Hid (Below w.heap.size w (w.alloc (.cells #[.func (.func 58) #[] #[]] 105))) := below_one w _
  have HCP : Hid ((w.alloc (.cells #[.func (.func 58) #[] #[]] 105)).cell? ⟨w.heap.size, 0, none⟩ = some (.func (.func 58) #[] #[])) := by show _ = _; rw [World.cell?_alloc_at (hn := rfl)]; rfl
  have HE := Lib.hid (h.below HB0.out)
  have HL := Lib.hid hl
  clear h hl
  cases hd : decide ((l : Int) ≤ most)
  · have HF : Hid (false = (false && xs.all (fun (f : Fr) => sndF (f.pos, f.data)))) := by show _ = _; simp
    go_enter Tryz.func57, Tryz.ntmps57
    go_wp2
    go_ret
    exact ⟨ret_boolean HF.out, HB0.out⟩
  · go_enter Tryz.func57, Tryz.ntmps57
    go_wp2_with fail
    refine (hasf_frg _ _ _ _ xs _ HL.out HE.out HCP.out).mono ?_
    rintro e w1 ⟨rfl, hb1⟩
    have HB1 := Lib.hid (HB0.out.trans (hb1.mono HB0.out.size))
    clear hb1
    generalize hq : xs.all (fun (f : Fr) => sndF (f.pos, f.data)) = ans at *
    have HQ := Lib.hid hq
    clear hq
    go_wp2
    go_ret
    exact ⟨ret_boolean (by rw [HQ.out]; simp), HB1.out⟩

set_option maxHeartbeats 400000 in
theorem allc_str (p : List Nat) (cp : Addr) (w : World) (hc : w.cell? cp = some (.func (.func 60) #[] #[])) :
    Calls Tryz.prog 88 #[.string (strB p), .pointer (some cp)] w fun e w' => e = .returned (.bool (!(sndK p))) ∧ Below w.heap.size w w' := by
  go_enter Tryz.func88, Tryz.ntmps88
  go_wp2_with fail
  refine (soundKey_any p _).mono ?_
  rintro e w1 ⟨rfl, hb1⟩
  have HB1 : Hid (Below w.heap.size w w1) := hb1
  clear hb1
  generalize hq : sndK p = ans at *
  have HQ := Lib.hid hq
  clear hq
  go_wp2
  go_ret
  exact ⟨ret_boolean (by rw [HQ.out]), HB1.out⟩

set_option maxRecDepth 100000 in
set_option maxHeartbeats 1000000 in
theorem idxf_str (a : Option Addr) (cap l : Nat) (cp : Addr) (xs : List (List Nat)) (w : World) (hl : xs.length = l) (h : StrAt w a cap xs) (hc : w.cell? cp = some (.func (.func 60) #[] #[])) :
    Calls Tryz.prog 105 #[.slice a l cap, .func (.func 88) #[] #[.pointer (some cp)]] w (IdxA w (xs.all sndK)) := by
  have hm : l ≤ maxLen := by have := h.le; have := h.max; omega
  unfold maxLen at hm
  have HE := Lib.hid h
  have HL := Lib.hid hl
  have HCP := Lib.hid hc
  clear h hl hc
  go_enter Tryz.func105, Tryz.ntmps105
  go_wp2
  go_loopw [5, 8] (fun _ i ws => ∃ k : Nat, k ≤ l ∧ i = .int .i64 k ∧ Hid (UpTo xs sndK [] k) ∧ Hid (Below w.heap.size w ws)) (fun _ i _ => l - (intOf i).toNat)
  case atStart => exact ⟨0, Nat.zero_le _, rfl, upTo_zero _ _ _, Below.refl _ _⟩
  case round =>
    obtain ⟨k, hk, rfl, HU, HB⟩ := hrel
    by_cases hlt : k < l
    · have HCK := Lib.hid (cell_later HB.out HCP.out)
      obtain ⟨b, off, rfl, hcel⟩ := (HE.out.below HB.out).cell k (by rw [HL.out]; exact hlt)
      have HNO : Hid (sndK (xs.getD k []) = false → xs.all sndK = false) := all_no xs sndK [] k (by rw [HL.out]; exact hlt)
      have HYES : Hid (sndK (xs.getD k []) = true → UpTo xs sndK [] (k + 1)) := fun hw => HU.out.step (p := sndK) hw
      generalize xs.getD k [] = p at *
      go_wp2_with fail
      refine (allc_str p _ _ HCK.out).mono ?_
      rintro e w1 ⟨rfl, hb1⟩
      have HB1 := Lib.hid (HB.out.trans (hb1.mono HB.out.size))
      clear hb1
      cases hw : sndK p
      · have HF := Lib.hid (HNO.out ( hw))
        clear hw
        go_wp2
        go_ret
        exact ⟨.inr ⟨HF.out, k, rfl⟩, HB1.out⟩
      · have HU' := Lib.hid (HYES.out ( hw))
        clear hw
        go_wp2
        go_roundw
        case rel => exact ⟨k + 1, by omega, by go_num, HU', HB1⟩
        case measure => simp [intOf]; omega
    · obtain rfl : k = l := by omega
      have HF : Hid (xs.all sndK = true) := all_yes xs sndK [] (by rw [HL.out]; exact HU.out)
      go_wp2
      go_ret
      exact ⟨.inl ⟨HF.out, rfl⟩, HB.out⟩

set_option maxRecDepth 100000 in
set_option maxHeartbeats 1000000 in
theorem hasf_str (a : Option Addr) (cap l : Nat) (cp : Addr) (xs : List (List Nat)) (w : World) (hl : xs.length = l) (h : StrAt w a cap xs) (hc : w.cell? cp = some (.func (.func 60) #[] #[])) :
    Calls Tryz.prog 89 #[.slice a l cap, .func (.func 88) #[] #[.pointer (some cp)]] w fun e w' => e = .returned (.bool (!(xs.all sndK))) ∧ Below w.heap.size w w' := by
  have HE := Lib.hid h
  have HL := Lib.hid hl
  have HCP := Lib.hid hc
  clear h hl hc
  go_enter Tryz.func89, Tryz.ntmps89
  go_wp2_with fail
  refine (idxf_str _ _ _ _ xs _ HL.out HE.out HCP.out).mono ?_
  rintro e w' ⟨⟨hq, rfl⟩ | ⟨hq, j, rfl⟩, hb⟩
  · have HB := Lib.hid hb
    have HQ := Lib.hid hq
    clear hq hb
    go_wp2
    go_ret
    exact ⟨ret_boolean (by rw [HQ.out]; rfl), HB.out⟩
  · have h0 : (0 : Int) ≤ (j : Int) := by omega
    have HB := Lib.hid hb
    have HQ := Lib.hid hq
    clear hq hb
    go_wp2
    go_ret
    exact ⟨ret_boolean (by rw [HQ.out]; rfl), HB.out⟩

set_option maxRecDepth 100000 in
set_option maxHeartbeats 1000000 in
theorem all_str (a : Option Addr) (cap l : Nat) (most : Int) (xs : List (List Nat)) (w : World) (hl : xs.length = l) (h : StrAt w a cap xs) :
    Calls Tryz.prog 59 #[.slice a l cap, .int .i64 most, .func (.func 60) #[] #[]] w fun e w' => e = .returned (.bool (decide ((l : Int) ≤ most) && xs.all sndK)) ∧ Below w.heap.size w w' := by
  have hm : l ≤ maxLen := by have := h.le; have := h.max; omega
  unfold maxLen at hm
  have hmf : ∀ (fn : Fn) (first cap : Array Value) (w : World), (Instr.makeFunc fn first cap).run Tryz.prog w = .ok (.func fn first cap) w := fun _ _ _ _ => rfl
  have HB0 : Hid (Below w.heap.size w (w.alloc (.cells #[.func (.func 60) #[] #[]] 107))) := below_one w _
  have HCP : Hid ((w.alloc (.cells #[.func (.func 60) #[] #[]] 107)).cell? ⟨w.heap.size, 0, none⟩ = some (.func (.func 60) #[] #[])) := by show _ = _; rw [World.cell?_alloc_at (hn := rfl)]; rfl
  have HE := Lib.hid (h.below HB0.out)
  have HL := Lib.hid hl
  clear h hl
  cases hd : decide ((l : Int) ≤ most)
  · have HF : Hid (false = (false && xs.all sndK)) := by show _ = _; simp
    go_enter Tryz.func59, Tryz.ntmps59
    go_wp2
    go_ret
    exact ⟨ret_boolean HF.out, HB0.out⟩
  · go_enter Tryz.func59, Tryz.ntmps59
    go_wp2_with fail
    refine (hasf_str _ _ _ _ xs _ HL.out HE.out HCP.out).mono ?_
    rintro e w1 ⟨rfl, hb1⟩
    have HB1 := Lib.hid (HB0.out.trans (hb1.mono HB0.out.size))
    clear hb1
    generalize hq : xs.all sndK = ans at *
    have HQ := Lib.hid hq
    clear hq
    go_wp2
    go_ret
    exact ⟨ret_boolean (by rw [HQ.out]; simp), HB1.out⟩

set_option maxHeartbeats 400000 in
theorem allc_src (p : Int × Int) (cp : Addr) (w : World) (hc : w.cell? cp = some (.func (.func 62) #[] #[])) :
    Calls Tryz.prog 90 #[.agg #[.int .i64 p.1, .int .i64 p.2], .pointer (some cp)] w fun e w' => e = .returned (.bool (!(sndS p))) ∧ Below w.heap.size w w' := by
  have hc := cell_later (below_one w (.cells #[.int .i64 p.1, .int .i64 p.2] 72)) hc
  go_enter Tryz.func90, Tryz.ntmps90
  go_wp2_with fail
  refine (soundSource_any p.1 p.2 _).mono ?_
  rintro e w1 ⟨rfl, hb1⟩
  have HB1 : Hid (Below w.heap.size w w1) := (below_one w _).trans (hb1.mono (by simp))
  clear hb1
  generalize hq : sndS p = ans at *
  have HQ := Lib.hid hq
  clear hq
  go_wp2
  go_ret
  exact ⟨ret_boolean (by rw [HQ.out]), HB1.out⟩

set_option maxRecDepth 100000 in
set_option maxHeartbeats 1000000 in
theorem idxf_src (a : Option Addr) (cap l : Nat) (cp : Addr) (xs : List (Int × Int)) (w : World) (hl : xs.length = l) (h : SrcAt w a cap xs) (hc : w.cell? cp = some (.func (.func 62) #[] #[])) :
    Calls Tryz.prog 106 #[.slice a l cap, .func (.func 90) #[] #[.pointer (some cp)]] w (IdxA w (xs.all sndS)) := by
  have hm : l ≤ maxLen := by have := h.le; have := h.max; omega
  unfold maxLen at hm
  have HE := Lib.hid h
  have HL := Lib.hid hl
  have HCP := Lib.hid hc
  clear h hl hc
  go_enter Tryz.func106, Tryz.ntmps106
  go_wp2
  go_loopw [5, 8] (fun _ i ws => ∃ k : Nat, k ≤ l ∧ i = .int .i64 k ∧ Hid (UpTo xs sndS (0, 0) k) ∧ Hid (Below w.heap.size w ws)) (fun _ i _ => l - (intOf i).toNat)
  case atStart => exact ⟨0, Nat.zero_le _, rfl, upTo_zero _ _ _, Below.refl _ _⟩
  case round =>
    obtain ⟨k, hk, rfl, HU, HB⟩ := hrel
    by_cases hlt : k < l
    · have HCK := Lib.hid (cell_later HB.out HCP.out)
      obtain ⟨b, off, rfl, hc0, hc1⟩ := (HE.out.below HB.out).cell k (by rw [HL.out]; exact hlt)
      have HNO : Hid (sndS (xs.getD k (0, 0)) = false → xs.all sndS = false) := all_no xs sndS (0, 0) k (by rw [HL.out]; exact hlt)
      have HYES : Hid (sndS (xs.getD k (0, 0)) = true → UpTo xs sndS (0, 0) (k + 1)) := fun hw => HU.out.step (p := sndS) hw
      generalize xs.getD k (0, 0) = p at *
      go_wp2_with fail
      refine (allc_src p _ _ HCK.out).mono ?_
      rintro e w1 ⟨rfl, hb1⟩
      have HB1 := Lib.hid (HB.out.trans (hb1.mono HB.out.size))
      clear hb1
      cases hw : sndS p
      · have HF := Lib.hid (HNO.out ( hw))
        clear hw
        go_wp2
        go_ret
        exact ⟨.inr ⟨HF.out, k, rfl⟩, HB1.out⟩
      · have HU' := Lib.hid (HYES.out ( hw))
        clear hw
        go_wp2
        go_roundw
        case rel => exact ⟨k + 1, by omega, by go_num, HU', HB1⟩
        case measure => simp [intOf]; omega
    · obtain rfl : k = l := by omega
      have HF : Hid (xs.all sndS = true) := all_yes xs sndS (0, 0) (by rw [HL.out]; exact HU.out)
      go_wp2
      go_ret
      exact ⟨.inl ⟨HF.out, rfl⟩, HB.out⟩

set_option maxRecDepth 100000 in
set_option maxHeartbeats 1000000 in
theorem hasf_src (a : Option Addr) (cap l : Nat) (cp : Addr) (xs : List (Int × Int)) (w : World) (hl : xs.length = l) (h : SrcAt w a cap xs) (hc : w.cell? cp = some (.func (.func 62) #[] #[])) :
    Calls Tryz.prog 91 #[.slice a l cap, .func (.func 90) #[] #[.pointer (some cp)]] w fun e w' => e = .returned (.bool (!(xs.all sndS))) ∧ Below w.heap.size w w' := by
  have HE := Lib.hid h
  have HL := Lib.hid hl
  have HCP := Lib.hid hc
  clear h hl hc
  go_enter Tryz.func91, Tryz.ntmps91
  go_wp2_with fail
  refine (idxf_src _ _ _ _ xs _ HL.out HE.out HCP.out).mono ?_
  rintro e w' ⟨⟨hq, rfl⟩ | ⟨hq, j, rfl⟩, hb⟩
  · have HB := Lib.hid hb
    have HQ := Lib.hid hq
    clear hq hb
    go_wp2
    go_ret
    exact ⟨ret_boolean (by rw [HQ.out]; rfl), HB.out⟩
  · have h0 : (0 : Int) ≤ (j : Int) := by omega
    have HB := Lib.hid hb
    have HQ := Lib.hid hq
    clear hq hb
    go_wp2
    go_ret
    exact ⟨ret_boolean (by rw [HQ.out]; rfl), HB.out⟩

set_option maxRecDepth 100000 in
set_option maxHeartbeats 1000000 in
theorem all_src (a : Option Addr) (cap l : Nat) (most : Int) (xs : List (Int × Int)) (w : World) (hl : xs.length = l) (h : SrcAt w a cap xs) :
    Calls Tryz.prog 61 #[.slice a l cap, .int .i64 most, .func (.func 62) #[] #[]] w fun e w' => e = .returned (.bool (decide ((l : Int) ≤ most) && xs.all sndS)) ∧ Below w.heap.size w w' := by
  have hm : l ≤ maxLen := by have := h.le; have := h.max; omega
  unfold maxLen at hm
  have hmf : ∀ (fn : Fn) (first cap : Array Value) (w : World), (Instr.makeFunc fn first cap).run Tryz.prog w = .ok (.func fn first cap) w := fun _ _ _ _ => rfl
  have HB0 : Hid (Below w.heap.size w (w.alloc (.cells #[.func (.func 62) #[] #[]] 109))) := below_one w _
  have HCP : Hid ((w.alloc (.cells #[.func (.func 62) #[] #[]] 109)).cell? ⟨w.heap.size, 0, none⟩ = some (.func (.func 62) #[] #[])) := by show _ = _; rw [World.cell?_alloc_at (hn := rfl)]; rfl
  have HE := Lib.hid (h.below HB0.out)
  have HL := Lib.hid hl
  clear h hl
  cases hd : decide ((l : Int) ≤ most)
  · have HF : Hid (false = (false && xs.all sndS)) := by show _ = _; simp
    go_enter Tryz.func61, Tryz.ntmps61
    go_wp2
    go_ret
    exact ⟨ret_boolean HF.out, HB0.out⟩
  · go_enter Tryz.func61, Tryz.ntmps61
    go_wp2_with fail
    refine (hasf_src _ _ _ _ xs _ HL.out HE.out HCP.out).mono ?_
    rintro e w1 ⟨rfl, hb1⟩
    have HB1 := Lib.hid (HB0.out.trans (hb1.mono HB0.out.size))
    clear hb1
    generalize hq : xs.all sndS = ans at *
    have HQ := Lib.hid hq
    clear hq
    go_wp2
    go_ret
    exact ⟨ret_boolean (by rw [HQ.out]; simp), HB1.out⟩

theorem sndMg_cut {w : World} {r : Rm} (h : MsgAt w r) : sndMg r.m = (win2 r.m.kind 1 15 && win2 r.m.frm (-5) 15 && win2 r.m.to (-5) 15 && win r.m.epoch 1099511627776 && sndRaw r.m.ent.seq r.m.ent.client r.m.ent.num r.m.ent.op (strB r.m.ent.key) r.m.ent.size r.el && win r.m.e 13 && cnfB r.m.cep r.m.mem && (decide ((r.fl : Int) ≤ 16) && r.fs.all (fun (f : Fr) => sndF (f.pos, f.data))) && (decide ((r.kl : Int) ≤ 4096) && r.m.keys.all sndK) && (decide ((r.sl : Int) ≤ 16) && r.m.srcs.all sndS) && (decide ((r.nl : Int) ≤ 4096) && r.m.ents.all sndE)) := by
  have e1 : sndRaw r.m.ent.seq r.m.ent.client r.m.ent.num r.m.ent.op (strB r.m.ent.key) r.m.ent.size r.el = sndE r.m.ent := by rw [← h.el, sndRaw_eq]
  have e2 : r.m.frags.all sndF = r.fs.all (fun (f : Fr) => sndF (f.pos, f.data)) := by rw [h.hf, List.all_map]; rfl
  have e3 : decide (r.m.frags.length ≤ 16) = decide ((r.fl : Int) ≤ 16) := by rw [h.hf, List.length_map, h.fl, Bool.eq_iff_iff]; simp; omega
  have e4 : decide (r.m.keys.length ≤ 4096) = decide ((r.kl : Int) ≤ 4096) := by rw [h.kl, Bool.eq_iff_iff]; simp; omega
  have e5 : decide (r.m.srcs.length ≤ 16) = decide ((r.sl : Int) ≤ 16) := by rw [h.sl, Bool.eq_iff_iff]; simp; omega
  have e6 : sndEs r.m.ents = (decide ((r.nl : Int) ≤ 4096) && r.m.ents.all sndE) := by rw [← h.nl, sndEs_int]
  have e7 : sndC r.m.cep r.m.mem = cnfB r.m.cep r.m.mem := rfl
  have e8 : ∀ n l m, rng n l m = win2 n l m := fun _ _ _ => rfl
  have e9 : ∀ n m, win2 n 0 m = win n m := fun _ _ => rfl
  unfold sndMg sndA sndL
  rw [e1, e2, e3, e4, e5, e6, e7, e8, e8, e8, e8, e8, e9, e9]
  ac_rfl

set_option maxRecDepth 100000 in
set_option maxHeartbeats 4000000 in
theorem msgSound_any (r : Rm) (w : World) (h : MsgAt w r) : Calls Tryz.prog 32 #[.agg r.cells] w fun e w' => e = .returned (.bool (sndMg r.m)) ∧ Below w.heap.size w w' := by
  show Calls Tryz.prog 32 #[.agg #[.int .i64 r.m.kind, .int .i64 r.m.frm, .int .i64 r.m.to, .int .i64 r.m.epoch, .int .i64 r.m.ent.seq, .int .i64 r.m.ent.client, .int .i64 r.m.ent.num, .int .i64 r.m.ent.op, .string (strB r.m.ent.key), .int .i64 r.m.ent.size, .int .u32 (r.m.ent.sum : Int), .slice r.loc r.el r.c, .int .i64 r.m.e, .slice r.fa r.fl r.fc, .slice r.ka r.kl r.kc, .int .i64 r.m.cep, .slice r.ma r.ml r.mc, .slice r.sa r.sl r.sc, .slice r.na r.nl r.nc]] w _
  have HB0 : Hid (Below w.heap.size w (w.alloc (.cells #[.int .i64 r.m.kind, .int .i64 r.m.frm, .int .i64 r.m.to, .int .i64 r.m.epoch, .int .i64 r.m.ent.seq, .int .i64 r.m.ent.client, .int .i64 r.m.ent.num, .int .i64 r.m.ent.op, .string (strB r.m.ent.key), .int .i64 r.m.ent.size, .int .u32 (r.m.ent.sum : Int), .slice r.loc r.el r.c, .int .i64 r.m.e, .slice r.fa r.fl r.fc, .slice r.ka r.kl r.kc, .int .i64 r.m.cep, .slice r.ma r.ml r.mc, .slice r.sa r.sl r.sc, .slice r.na r.nl r.nc] 40))) := below_one w _
  have HX0 : Hid (Box (w.alloc (.cells #[.int .i64 r.m.kind, .int .i64 r.m.frm, .int .i64 r.m.to, .int .i64 r.m.epoch, .int .i64 r.m.ent.seq, .int .i64 r.m.ent.client, .int .i64 r.m.ent.num, .int .i64 r.m.ent.op, .string (strB r.m.ent.key), .int .i64 r.m.ent.size, .int .u32 (r.m.ent.sum : Int), .slice r.loc r.el r.c, .int .i64 r.m.e, .slice r.fa r.fl r.fc, .slice r.ka r.kl r.kc, .int .i64 r.m.cep, .slice r.ma r.ml r.mc, .slice r.sa r.sl r.sc, .slice r.na r.nl r.nc] 40)) w.heap.size #[.int .i64 r.m.kind, .int .i64 r.m.frm, .int .i64 r.m.to, .int .i64 r.m.epoch, .int .i64 r.m.ent.seq, .int .i64 r.m.ent.client, .int .i64 r.m.ent.num, .int .i64 r.m.ent.op, .string (strB r.m.ent.key), .int .i64 r.m.ent.size, .int .u32 (r.m.ent.sum : Int), .slice r.loc r.el r.c, .int .i64 r.m.e, .slice r.fa r.fl r.fc, .slice r.ka r.kl r.kc, .int .i64 r.m.cep, .slice r.ma r.ml r.mc, .slice r.sa r.sl r.sc, .slice r.na r.nl r.nc]) := box_new w _ _ _ rfl
  have HM0 := Lib.hid (h.below HB0.out)
  have HS := Lib.hid (sndMg_cut h)
  clear h
  obtain ⟨x0, x1, x2, x3, x4, x5, x6, x7, x8, x9, x10, x11, x12, x13, x14, x15, x16, x17, x18⟩ := box19 HX0.out
  go_enter Tryz.func32, Tryz.ntmps32
  go_wp2_with fail
  generalize w.alloc (.cells #[.int .i64 r.m.kind, .int .i64 r.m.frm, .int .i64 r.m.to, .int .i64 r.m.epoch, .int .i64 r.m.ent.seq, .int .i64 r.m.ent.client, .int .i64 r.m.ent.num, .int .i64 r.m.ent.op, .string (strB r.m.ent.key), .int .i64 r.m.ent.size, .int .u32 (r.m.ent.sum : Int), .slice r.loc r.el r.c, .int .i64 r.m.e, .slice r.fa r.fl r.fc, .slice r.ka r.kl r.kc, .int .i64 r.m.cep, .slice r.ma r.ml r.mc, .slice r.sa r.sl r.sc, .slice r.na r.nl r.nc] 40) = w0 at *
  refine (within2_any _ _ _ _).mono ?_
  rintro e w' ⟨rfl, rfl⟩
  cases h0 : win2 r.m.kind 1 15
  · have HF : Hid (false = sndMg r.m) := by show _ = _; rw [HS.out, h0]; simp
    go_wp2
    go_ret
    exact ⟨ret_boolean HF.out, HB0.out⟩
  · have H0 := Lib.hid h0
    clear h0
    go_wp2_with fail
    refine (party_any _ _).mono ?_
    rintro e w' ⟨rfl, rfl⟩
    cases h1 : win2 r.m.frm (-5) 15
    · have HF : Hid (false = sndMg r.m) := by show _ = _; rw [HS.out, h1]; simp
      go_wp2
      go_ret
      exact ⟨ret_boolean HF.out, HB0.out⟩
    · have H1 := Lib.hid h1
      clear h1
      go_wp2_with fail
      refine (party_any _ _).mono ?_
      rintro e w' ⟨rfl, rfl⟩
      cases h2 : win2 r.m.to (-5) 15
      · have HF : Hid (false = sndMg r.m) := by show _ = _; rw [HS.out, h2]; simp
        go_wp2
        go_ret
        exact ⟨ret_boolean HF.out, HB0.out⟩
      · have H2 := Lib.hid h2
        clear h2
        go_wp2_with fail
        refine (within_any _ _ _).mono ?_
        rintro e w' ⟨rfl, rfl⟩
        cases h3 : win r.m.epoch 1099511627776
        · have HF : Hid (false = sndMg r.m) := by show _ = _; rw [HS.out, h3]; simp
          go_wp2
          go_ret
          exact ⟨ret_boolean HF.out, HB0.out⟩
        · have H3 := Lib.hid h3
          clear h3
          go_wp2_with fail
          refine (sound_raw _ _ _ _ _ _ _ _ _ _ _).mono ?_
          rintro e w1 ⟨rfl, hb⟩
          have HX1 := Lib.hid (HX0.out.below hb)
          have HM1 := Lib.hid (HM0.out.below hb)
          have HB1 := Lib.hid (HB0.out.trans (hb.mono HB0.out.size))
          clear hb x0 x1 x2 x3 x4 x5 x6 x7 x8 x9 x10 x11 x12 x13 x14 x15 x16 x17 x18 HX0 HM0 HB0
          obtain ⟨x0, x1, x2, x3, x4, x5, x6, x7, x8, x9, x10, x11, x12, x13, x14, x15, x16, x17, x18⟩ := box19 HX1.out
          cases h4 : sndRaw r.m.ent.seq r.m.ent.client r.m.ent.num r.m.ent.op (strB r.m.ent.key) r.m.ent.size r.el
          · have HF : Hid (false = sndMg r.m) := by show _ = _; rw [HS.out, h4]; simp
            go_wp2
            go_ret
            exact ⟨ret_boolean HF.out, HB1.out⟩
          · have H4 := Lib.hid h4
            clear h4
            go_wp2_with fail
            refine (within_any _ _ _).mono ?_
            rintro e w' ⟨rfl, rfl⟩
            cases h5 : win r.m.e 13
            · have HF : Hid (false = sndMg r.m) := by show _ = _; rw [HS.out, h5]; simp
              go_wp2
              go_ret
              exact ⟨ret_boolean HF.out, HB1.out⟩
            · have H5 := Lib.hid h5
              clear h5
              go_wp2_with fail
              refine (soundConf_any _ _ _ _ r.m.mem _ HM1.out.ml HM1.out.mem).mono ?_
              rintro e w2 ⟨rfl, hb⟩
              have HX2 := Lib.hid (HX1.out.below hb)
              have HM2 := Lib.hid (HM1.out.below hb)
              have HB2 := Lib.hid (HB1.out.trans (hb.mono HB1.out.size))
              clear hb x0 x1 x2 x3 x4 x5 x6 x7 x8 x9 x10 x11 x12 x13 x14 x15 x16 x17 x18 HX1 HM1 HB1
              obtain ⟨x0, x1, x2, x3, x4, x5, x6, x7, x8, x9, x10, x11, x12, x13, x14, x15, x16, x17, x18⟩ := box19 HX2.out
              cases h6 : cnfB r.m.cep r.m.mem
              · have HF : Hid (false = sndMg r.m) := by show _ = _; rw [HS.out, h6]; simp
                go_wp2
                go_ret
                exact ⟨ret_boolean HF.out, HB2.out⟩
              · have H6 := Lib.hid h6
                clear h6
                go_wp2_with fail
                refine (all_frg _ _ _ 16 r.fs _ HM2.out.fl HM2.out.frs).mono ?_
                rintro e w3 ⟨rfl, hb⟩
                have HX3 := Lib.hid (HX2.out.below hb)
                have HM3 := Lib.hid (HM2.out.below hb)
                have HB3 := Lib.hid (HB2.out.trans (hb.mono HB2.out.size))
                clear hb x0 x1 x2 x3 x4 x5 x6 x7 x8 x9 x10 x11 x12 x13 x14 x15 x16 x17 x18 HX2 HM2 HB2
                obtain ⟨x0, x1, x2, x3, x4, x5, x6, x7, x8, x9, x10, x11, x12, x13, x14, x15, x16, x17, x18⟩ := box19 HX3.out
                cases h7 : (decide ((r.fl : Int) ≤ 16) && r.fs.all (fun (f : Fr) => sndF (f.pos, f.data)))
                · have HF : Hid (false = sndMg r.m) := by show _ = _; rw [HS.out, h7]; simp
                  go_wp2
                  go_ret
                  exact ⟨ret_boolean HF.out, HB3.out⟩
                · have H7 := Lib.hid h7
                  clear h7
                  go_wp2_with fail
                  refine (all_str _ _ _ 4096 r.m.keys _ HM3.out.kl HM3.out.keys).mono ?_
                  rintro e w4 ⟨rfl, hb⟩
                  have HX4 := Lib.hid (HX3.out.below hb)
                  have HM4 := Lib.hid (HM3.out.below hb)
                  have HB4 := Lib.hid (HB3.out.trans (hb.mono HB3.out.size))
                  clear hb x0 x1 x2 x3 x4 x5 x6 x7 x8 x9 x10 x11 x12 x13 x14 x15 x16 x17 x18 HX3 HM3 HB3
                  obtain ⟨x0, x1, x2, x3, x4, x5, x6, x7, x8, x9, x10, x11, x12, x13, x14, x15, x16, x17, x18⟩ := box19 HX4.out
                  cases h8 : (decide ((r.kl : Int) ≤ 4096) && r.m.keys.all sndK)
                  · have HF : Hid (false = sndMg r.m) := by show _ = _; rw [HS.out, h8]; simp
                    go_wp2
                    go_ret
                    exact ⟨ret_boolean HF.out, HB4.out⟩
                  · have H8 := Lib.hid h8
                    clear h8
                    go_wp2_with fail
                    refine (all_src _ _ _ 16 r.m.srcs _ HM4.out.sl HM4.out.srcs).mono ?_
                    rintro e w5 ⟨rfl, hb⟩
                    have HX5 := Lib.hid (HX4.out.below hb)
                    have HM5 := Lib.hid (HM4.out.below hb)
                    have HB5 := Lib.hid (HB4.out.trans (hb.mono HB4.out.size))
                    clear hb x0 x1 x2 x3 x4 x5 x6 x7 x8 x9 x10 x11 x12 x13 x14 x15 x16 x17 x18 HX4 HM4 HB4
                    obtain ⟨x0, x1, x2, x3, x4, x5, x6, x7, x8, x9, x10, x11, x12, x13, x14, x15, x16, x17, x18⟩ := box19 HX5.out
                    cases h9 : (decide ((r.sl : Int) ≤ 16) && r.m.srcs.all sndS)
                    · have HF : Hid (false = sndMg r.m) := by show _ = _; rw [HS.out, h9]; simp
                      go_wp2
                      go_ret
                      exact ⟨ret_boolean HF.out, HB5.out⟩
                    · have H9 := Lib.hid h9
                      clear h9
                      go_wp2_with fail
                      refine (all_ent _ _ _ 4096 r.m.ents _ HM5.out.nl HM5.out.ents).mono ?_
                      rintro e w6 ⟨rfl, hb⟩
                      have HX6 := Lib.hid (HX5.out.below hb)
                      have HM6 := Lib.hid (HM5.out.below hb)
                      have HB6 := Lib.hid (HB5.out.trans (hb.mono HB5.out.size))
                      clear hb x0 x1 x2 x3 x4 x5 x6 x7 x8 x9 x10 x11 x12 x13 x14 x15 x16 x17 x18 HX5 HM5 HB5
                      have HF : Hid ((decide ((r.nl : Int) ≤ 4096) && r.m.ents.all sndE) = sndMg r.m) := by show _ = _; rw [HS.out, H0.out, H1.out, H2.out, H3.out, H4.out, H5.out, H6.out, H7.out, H8.out, H9.out]; simp
                      generalize (decide ((r.nl : Int) ≤ 4096) && r.m.ents.all sndE) = ans at *
                      go_wp2
                      go_ret
                      exact ⟨ret_boolean HF.out, HB6.out⟩

end Go.Proofs.YtggjpjpemgpeeaaGreat

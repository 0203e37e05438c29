/-
  What pack's Reader does.
-/
import Derived.Test.YtdgpbdedaafdiaaGreatWalksV1
namespace Go.Proofs.YtdgpbdedaafdiaaGreat
open Go.RowKit

theorem ret_two {a b c d : Int} (h : a = c) (h' : b = d) : Ending.returned (.tuple #[.int .u64 a, .int .i64 b]) = .returned (.tuple #[.int .u64 c, .int .i64 d]) := by rw [h, h']

theorem ret_boolean {a b : Bool} (h : a = b) : Ending.returned (.bool a) = .returned (.bool b) := by rw [h]

theorem drop_at (ps : List Nat) (k : Nat) (h : k < ps.length) : ps.drop k = ps.getD k 0 :: ps.drop (k + 1) := by
  rw [List.drop_eq_getElem_cons h, List.getD_eq_getElem?_getD, List.getElem?_eq_getElem h]; rfl

theorem or_step (U c k : Nat) (hU : U < 2 ^ (7 * k)) (hk : k ≤ 9) (h9 : k = 9 → c % 128 ≤ 1) :
    bits BinOp.or IntKind.u64 (U : Int) (IntKind.u64.wrap (((c : Int) % 128) * 2 ^ (7 * k))) = ((U + c % 128 * 2 ^ (7 * k) : Nat) : Int) := by
  have hp : (2 : Nat) ^ (7 * k) ≤ 2 ^ 63 := Nat.pow_le_pow_right (by omega) (by omega)
  have hs : c % 128 * 2 ^ (7 * k) < 18446744073709551616 := by
    by_cases e : k = 9
    · have := Nat.mul_le_mul_right (2 ^ (7 * k)) (h9 e); omega
    · have h1 : c % 128 * 2 ^ (7 * k) ≤ 127 * 2 ^ (7 * k) := Nat.mul_le_mul_right _ (by omega)
      have h2 : (2 : Nat) ^ (7 * k) ≤ 2 ^ 56 := Nat.pow_le_pow_right (by omega) (by omega)
      omega
  have e : ((c : Int) % 128) * 2 ^ (7 * k) = ((c % 128 * 2 ^ (7 * k) : Nat) : Int) := by simp
  rw [e, IntWalk.u64_in _ (by omega), u64_or_nat _ _ (by omega) hs]
  have := Nat.shiftLeft_add_eq_or_of_lt (i := 7 * k) (b := U) hU (c % 128)
  rw [Nat.shiftLeft_eq] at this
  rw [Nat.or_comm, ← this, Nat.add_comm]

set_option maxRecDepth 100000 in
set_option maxHeartbeats 1000000 in
theorem leading_any (a : Option Addr) (cap l : Nat) (ps : List Nat) (w : World) (hl : ps.length = l) (h : SeenAt w a cap ps) :
    Calls Tryz.prog 88 #[.slice a l cap] w fun e w' => e = .returned (.tuple #[.int .u64 (((Pk.rd ps).1 : Nat) : Int), .int .i64 (((Pk.rd ps).2 : Nat) : Int)]) ∧ w = w' := by
  have hm : l ≤ maxLen := by have := h.le; have := h.max; omega
  unfold maxLen at hm
  have HC := Lib.hid h.cell
  have HB := Lib.hid h.byte
  have HL := Lib.hid hl
  clear h hl
  go_enter Tryz.func88, Tryz.ntmps88
  go_wp2
  go_loop [4, 5, 6, 9] (fun u _ _ i => ∃ k U : Nat, k ≤ l ∧ k ≤ 9 ∧ U < 18446744073709551616 ∧ i = .int .i64 k ∧ u = .int .u64 (U : Int) ∧ Hid (U < 2 ^ (7 * k)) ∧ Hid (Pk.rd ps = Pk.rdA k U (ps.drop k))) (fun _ _ _ i => l - (intOf i).toNat)
  case atStart => exact ⟨0, 0, Nat.zero_le _, Nat.zero_le _, by omega, rfl, rfl, (by show (0 : Nat) < 2 ^ (7 * 0); decide), rfl⟩
  case round =>
    obtain ⟨k, U, hk, hk9, hU64, rfl, rfl, HU, HR⟩ := hrel
    by_cases hlt : k < l
    · obtain ⟨b, off, rfl, hck⟩ := HC.out k (by rw [HL.out]; exact hlt)
      have hc := bytes_get ps k HB.out
      have HD := Lib.hid (drop_at ps k (by rw [HL.out]; exact hlt))
      rw [HD.out] at HR
      generalize ps.getD k 0 = c at *
      have e9 : ((k : Int) == 9) = decide (k = 9) := by rw [Bool.eq_iff_iff]; simp; omega
      by_cases h9 : k = 9 ∧ 1 < c
      · obtain ⟨rfl, h1⟩ := h9
        have HV := Lib.hid (Pk.rdA_over 9 U c (ps.drop 10) ⟨rfl, h1⟩)
        have hd : decide ((1 : Int) < (c : Int)) = true := by simp; omega
        have HF : Hid (Pk.rd ps = (0, 0)) := HR.out.trans HV.out
        clear e9
        go_wp2
        go_ret2
        exact ⟨ret_two (by rw [HF.out]; rfl) (by rw [HF.out]; rfl), rfl⟩
      · have HX := Lib.hid (or_step U c k HU.out hk9 (by omega))
        have t9 : ((k : Int) == 9) = true ∧ decide ((1 : Int) < (c : Int)) = false ∨ ((k : Int) == 9) = false := by
          by_cases e : k = 9
          · left; simp [e]; omega
          · right; simp; omega
        clear e9
        by_cases hx : 128 ≤ c
        · have hd : decide ((128 : Int) ≤ (c : Int)) = true := by simp; omega
          have t9' : ((k : Int) == 9) = false := by simp; omega
          clear t9
          have HV := Lib.hid (Pk.rdA_on k U c (ps.drop (k + 1)) h9 hx)
          have HF : Hid (Pk.rd ps = Pk.rdA (k + 1) (U + c % 128 * 2 ^ (7 * k)) (ps.drop (k + 1))) := HR.out.trans HV.out
          have HW := Lib.hid (Pk.step_lt k U c HU.out)
          have hW64 : U + c % 128 * 2 ^ (7 * k) < 18446744073709551616 := by
            have h1 := HW.out
            have h2 : (2 : Nat) ^ (7 * (k + 1)) ≤ 2 ^ 63 := Nat.pow_le_pow_right (by omega) (by omega)
            omega
          go_wp2
          go_round
          case rel => exact ⟨k + 1, U + c % 128 * 2 ^ (7 * k), by omega, by omega, hW64, by go_num, by rw [HX.out], HW, HF⟩
          case measure => simp [intOf]; omega
        · have hd : decide ((128 : Int) ≤ (c : Int)) = false := by simp; omega
          by_cases hz : c = 0 ∧ 0 < k
          · obtain ⟨rfl, hk0⟩ := hz
            have HF : Hid (Pk.rd ps = (0, 0)) := HR.out.trans (Pk.rdA_long k U 0 (ps.drop (k + 1)) h9 hx ⟨rfl, hk0⟩)
            have hd0 : decide ((0 : Int) < (k : Int)) = true := by simp; omega
            have hd0' : decide (0 < k) = true := by simp; omega
            rcases t9 with ⟨t1, t2⟩ | t1
            all_goals
              go_wp2
              go_ret2
              exact ⟨ret_two (by rw [HF.out]; rfl) (by rw [HF.out]; rfl), rfl⟩
          · have HF : Hid (Pk.rd ps = (U + c % 128 * 2 ^ (7 * k), k + 1)) := HR.out.trans (Pk.rdA_end k U c (ps.drop (k + 1)) h9 hx hz)
            have tz : ((c : Int) == 0) = true ∧ decide ((0 : Int) < (k : Int)) = false ∧ decide (0 < k) = false ∨ ((c : Int) == 0) = false := by
              by_cases e : c = 0
              · left; simp [e]; omega
              · right; simp; omega
            rcases tz with ⟨z1, z2, z3⟩ | z1
            all_goals
              rcases t9 with ⟨t1, t2⟩ | t1
              all_goals
                go_wp2
                go_ret2
                exact ⟨ret_two (by rw [HF.out]; exact HX.out) (by rw [HF.out]; exact (by omega : (k : Int) + 1 = ((k + 1 : Nat) : Int))), rfl⟩
    · obtain rfl : k = l := by omega
      have HF : Hid (Pk.rd ps = (0, 0)) := by
        show _ = _
        rw [HR.out, ← HL.out, List.drop_length]
        rfl
      go_wp2
      go_ret2
      exact ⟨ret_two (by rw [HF.out]; rfl) (by rw [HF.out]; rfl), rfl⟩

set_option maxHeartbeats 400000 in
theorem unfolded_any (u : Nat) (w : World) (h : u < 18446744073709551616) :
    Calls Tryz.prog 90 #[.int .u64 (u : Int)] w fun e w' => e = .returned (.int .i64 (Pk.unf u)) ∧ w = w' := by
  have hh : IntKind.i64.wrap ((u : Int) / 2) = (u : Int) / 2 := IntWalk.i64_in _ (by omega)
  by_cases h2 : u % 2 = 1
  · have t : ((u : Int) % 2 != 0) = true := by simp; omega
    have HF : Hid (-1 - (u : Int) / 2 = Pk.unf u) := by show _ = _; rw [Pk.unf_odd u h2]; omega
    go_enter Tryz.func90, Tryz.ntmps90
    go_wp2
    go_ret
    exact ⟨ret_i64 HF.out, rfl⟩
  · have t : ((u : Int) % 2 != 0) = false := by simp; omega
    have HF : Hid ((u : Int) / 2 = Pk.unf u) := by show _ = _; rw [Pk.unf_even u h2]; omega
    go_enter Tryz.func90, Tryz.ntmps90
    go_wp2
    go_ret
    exact ⟨ret_i64 HF.out, rfl⟩

/-- An address in another block than R, or none. -/
def Off (R : Nat) (a : Option Addr) : Prop := a = none ∨ ∃ b off, a = some ⟨b, off, none⟩ ∧ b ≠ R

/-- An address in block H, which is not R, or none. -/
def OffH (H R : Nat) (a : Option Addr) : Prop := a = none ∨ ∃ b off, a = some ⟨b, off, none⟩ ∧ b ≠ R ∧ b = H

theorem OffH.off {H R : Nat} {a : Option Addr} (h : OffH H R a) : Off R a := by
  rcases h with e | ⟨b, off, e, h1, _⟩
  · exact .inl e
  · exact .inr ⟨b, off, e, h1⟩

section
variable {H : Nat}

/-- A Reader at block R, its bytes in block H: what is left, and whether it is invalid. -/
structure RdrH (H : Nat) (w : World) (R : Nat) (s : Pk.St) : Prop where
  rest : ∃ a cap, w.cell? ⟨R, 0, none⟩ = some (.slice a s.1.length cap) ∧ SeenAt w a cap s.1 ∧ OffH H R a
  flag : w.cell? ⟨R, 1, none⟩ = some (.bool s.2)
  free : ∀ k, w.frozen? ⟨R, k, none⟩ = false
  home : H < w.heap.size

theorem RdrH.lt {w : World} {R : Nat} {s : Pk.St} (h : RdrH H w R s) : R < w.heap.size := World.block_lt_of_cell? w ⟨R, 1, none⟩ h.flag

theorem RdrH.below {w w' : World} {R : Nat} {s : Pk.St} (h : RdrH H w R s) (hb : Below w.heap.size w w') : RdrH H w' R s := by
  obtain ⟨a, cap, hc, hs, hn⟩ := h.rest
  exact ⟨⟨a, cap, cell_later hb hc, hs.below hb, hn⟩, cell_later hb h.flag, fun k => by rw [hb.frozen (p := ⟨R, k, none⟩) h.lt]; exact h.free k, Nat.lt_of_lt_of_le h.home hb.size⟩

theorem RdrH.alike {w w' : World} {R : Nat} {s : Pk.St} (h : RdrH H w R s) (e : w'.heap = w.heap) : RdrH H w' R s := by
  obtain ⟨a, cap, hc, hs, hn⟩ := h.rest
  exact ⟨⟨a, cap, by rw [← hc]; simp [World.cell?, e], hs.alike e, hn⟩, by rw [← h.flag]; simp [World.cell?, e], fun k => by rw [← h.free k]; simp [World.frozen?, e], by rw [e]; exact h.home⟩

theorem chg_set (w : World) (R k : Nat) (v : Value) : Chg [R] w (w.setCell ⟨R, k, none⟩ v) :=
  let h := (Below.refl 0 w).setCell (p := ⟨R, k, none⟩) (Nat.zero_le _) v
  ⟨h.os, h.tape, h.output, h.size, fun i _ hn => Below.heap_setCell w _ _ i (by simpa using hn)⟩

theorem SeenAt.apart {w w' : World} {R : Nat} {a : Option Addr} {cap : Nat} {ps : List Nat} (h : SeenAt w a cap ps) (hb : Chg [R] w w') (hn : Off R a) : SeenAt w' a cap ps :=
  h.chg hb fun b off e => by
    rcases hn with e' | ⟨b', off', e', h'⟩
    · rw [e'] at e; cases e
    · rw [e'] at e; cases e; simpa using h'

theorem RdrH.put {w : World} {R : Nat} {s : Pk.St} (h : RdrH H w R s) {a : Option Addr} {cap : Nat} {bs : List Nat} (hs : SeenAt w a cap bs) (hn : OffH H R a) :
    RdrH H (w.setCell ⟨R, 0, none⟩ (.slice a bs.length cap)) R (bs, s.2) := by
  obtain ⟨a0, c0, hc, _, _⟩ := h.rest
  refine ⟨⟨a, cap, World.cell?_setCell_same _ _ _ hc, hs.apart (chg_set w R 0 _) hn.off, hn⟩, ?_, fun k => by rw [World.frozen?_setCell]; exact h.free k, by simpa using h.home⟩
  rw [World.cell?_setCell_other _ _ _ _ (by simp)]
  exact h.flag

theorem RdrH.bad {w : World} {R : Nat} {s : Pk.St} (h : RdrH H w R s) : RdrH H (w.setCell ⟨R, 1, none⟩ (.bool true)) R (s.1, true) := by
  obtain ⟨a, cap, hc, hs, hn⟩ := h.rest
  refine ⟨⟨a, cap, ?_, hs.apart (chg_set w R 1 _) hn.off, hn⟩, World.cell?_setCell_same _ _ _ h.flag, fun k => by rw [World.frozen?_setCell]; exact h.free k, by simpa using h.home⟩
  rw [World.cell?_setCell_other _ _ _ _ (by simp)]
  exact hc

/-- The bytes behind the first k. -/
theorem SeenAt.drop {w : World} {b off cap : Nat} {ps : List Nat} (h : SeenAt w (some ⟨b, off, none⟩) cap ps) (k : Nat) (hk : k ≤ ps.length) : SeenAt w (some ⟨b, off + k, none⟩) (cap - k) (ps.drop k) :=
  ⟨by have := h.le; simp; omega, by have := h.max; omega, fun c hc => h.byte c (List.mem_of_mem_drop hc), fun i hi => by
    rw [List.length_drop] at hi
    obtain ⟨b', off', e, hc⟩ := h.cell (k + i) (by omega)
    cases e
    refine ⟨b, off + k, rfl, ?_⟩
    rw [Nat.add_assoc, hc, List.getD_eq_getElem?_getD, List.getD_eq_getElem?_getD, List.getElem?_drop]⟩

/-- A Reader handed back, in new memory. -/
def RetRH (w : World) (s : Pk.St) (e : Ending) (w' : World) : Prop :=
  ∃ R H, e = .returned (.pointer (some ⟨R, 0, none⟩)) ∧ w.heap.size ≤ R ∧ RdrH H w' R s ∧ Below w.heap.size w w'

set_option maxHeartbeats 1000000 in
theorem newH (a : Option Addr) (cap l : Nat) (ps : List Nat) (w : World) (hl : ps.length = l) (hm : l ≤ 1000000000) (h : SeenAt w a cap ps) :
    Calls Tryz.prog 55 #[.slice a l cap] w (RetRH w (ps, false)) := by
  have HS := Lib.hid h
  have HL := Lib.hid hl
  clear h hl
  go_enter Tryz.func55, Tryz.ntmps55
  go_wp2_with fail
  refine (clone_any _ _ _ ps _ HL.out hm HS.out).mono ?_
  rintro e w1 ⟨a1, c1, rfl, hs1, hn1, hb1⟩
  have HS1 := Lib.hid hs1
  have HN1 := Lib.hid hn1
  have HB1 := Lib.hid hb1
  clear hs1 hn1 hb1
  go_wp2
  go_ret
  rcases HN1.out with e | ⟨b, off, e, h1, h2⟩
  · exact ⟨w1.heap.size, w1.heap.size, rfl, HB1.out.size, ⟨⟨a1, c1, by simp, HS1.out.lit _, .inl e⟩, by simp, fun k => by simp, by simp⟩, HB1.out.alloc HB1.out.size _⟩
  · exact ⟨w1.heap.size, b, rfl, HB1.out.size, ⟨⟨a1, c1, by simp, HS1.out.lit _, .inr ⟨b, off, e, Nat.ne_of_lt h2, rfl⟩⟩, by simp, fun k => by simp, by simp; omega⟩, HB1.out.alloc HB1.out.size _⟩

set_option maxHeartbeats 1000000 in
theorem failH (R : Nat) (s : Pk.St) (w : World) (h : RdrH H w R s) :
    Calls Tryz.prog 89 #[.pointer (some ⟨R, 0, none⟩)] w fun e w' => e = .returned (.tuple #[]) ∧ RdrH H w' R ([], true) ∧ Chg [R] w w' := by
  obtain ⟨a, cap, hc, hs, hn⟩ := h.rest
  have hf := h.flag
  have hz0 := h.free 0
  have hz1 := h.free 1
  have HR : Hid (RdrH H ((w.setCell ⟨R, 0, none⟩ (.slice none 0 0)).setCell ⟨R, 1, none⟩ (.bool true)) R ([], true)) :=
    RdrH.bad (s := ([], s.2)) (h.put (a := none) (cap := 0) (bs := []) (SeenAt.nil (Nat.zero_le _)) (.inl rfl))
  have HB : Hid (Chg [R] w ((w.setCell ⟨R, 0, none⟩ (.slice none 0 0)).setCell ⟨R, 1, none⟩ (.bool true))) := (chg_set w R 0 _).trans (chg_set _ R 1 _)
  clear hs hn h
  go_enter Tryz.func89, Tryz.ntmps89
  go_wp2
  go_end0
  exact ⟨rfl, HR.out, HB.out⟩

/-- A number read by the Reader at R, and what the Reader is then. -/
def RIntH (H : Nat) (w : World) (R : Nat) (v : Int) (s : Pk.St) (e : Ending) (w' : World) : Prop := e = .returned (.int .i64 v) ∧ RdrH H w' R s ∧ Chg [R] w w'

set_option maxRecDepth 100000 in
set_option maxHeartbeats 1000000 in
theorem rNumH (R : Nat) (s : Pk.St) (w : World) (h : RdrH H w R s) :
    Calls Tryz.prog 72 #[.pointer (some ⟨R, 0, none⟩)] w (RIntH H w R (Pk.vN s) (Pk.nN s)) := by
  obtain ⟨a, cap, hc, hs, hn⟩ := h.rest
  have hz0 := h.free 0
  have HS := Lib.hid hs
  have HH := Lib.hid h
  have HN := Lib.hid hn
  obtain ⟨hk, hu, _⟩ := Pk.rd_bound s.1
  have hcap : s.1.length ≤ cap := hs.le
  have hm : cap ≤ maxLen := hs.max
  unfold maxLen at hm
  clear hs h hn
  by_cases h0 : (Pk.rd s.1).2 = 0
  · have HV := Lib.hid (Pk.vN_none s h0)
    have HW := Lib.hid (Pk.nN_none s h0)
    have t : (((Pk.rd s.1).2 : Int) == 0) = true := by simp; omega
    clear h0
    go_enter Tryz.func72, Tryz.ntmps72
    go_wp2_with fail
    refine (leading_any _ _ _ s.1 _ rfl HS.out).mono ?_
    rintro e w' ⟨rfl, rfl⟩
    go_wp2_with fail
    refine (failH R s _ HH.out).mono ?_
    rintro e w' ⟨rfl, hr, hb⟩
    go_wp2
    go_ret
    refine ⟨ret_i64 HV.out.symm, ?_, hb⟩
    rw [HW.out]
    exact hr
  · have hl0 : 0 < s.1.length := by omega
    obtain ⟨b, off, rfl, hbR⟩ : ∃ b off, a = some ⟨b, off, none⟩ ∧ b ≠ R ∧ b = H := by
      rcases HN.out with e | h'
      · obtain ⟨b, off, e', _⟩ := HS.out.cell 0 hl0
        rw [e'] at e; cases e
      · exact h'
    have HBR := Lib.hid hbR
    have hne0 := hbR.1
    clear hbR
    have HW := Lib.hid (Pk.nN_some s h0)
    have HV : Hid (Pk.unf (Pk.rd s.1).1 = Pk.vN s) := rfl
    have t : (((Pk.rd s.1).2 : Int) == 0) = false := by simp; omega
    have HLD := Lib.hid (leading_any (some ⟨b, off, none⟩) cap _ s.1 w rfl HS.out)
    have HD := Lib.hid (HS.out.drop _ hk)
    have hld : (s.1.drop (Pk.rd s.1).2).length = s.1.length - (Pk.rd s.1).2 := by simp
    generalize hK : (Pk.rd s.1).2 = K at *
    generalize hL : s.1.length = L at *
    generalize (Pk.rd s.1).1 = U at *
    by_cases he : cap = K
    · subst he
      obtain rfl : L = cap := by omega
      have e0 : s.1.drop L = [] := by rw [← hL, List.drop_length]
      rw [e0] at HW
      have HP : Hid (RdrH H (w.setCell ⟨R, 0, none⟩ (.slice (some ⟨b, off, none⟩) 0 0)) R ([], s.2)) :=
        HH.out.put (a := some ⟨b, off, none⟩) (cap := 0) (bs := []) (SeenAt.nil (Nat.zero_le _)) (.inr ⟨b, off, rfl, HBR.out⟩)
      clear hK hL hld e0 HD
      go_enter Tryz.func72, Tryz.ntmps72
      go_wp2_with fail
      refine HLD.out.mono ?_
      rintro e w' ⟨rfl, rfl⟩
      go_wp2_with fail
      refine (unfolded_any U _ hu).mono ?_
      rintro e w' ⟨rfl, rfl⟩
      go_wp2
      go_ret
      refine ⟨ret_i64 HV.out, ?_, chg_set w R 0 _⟩
      rw [HW.out]
      exact HP.out
    · have HP : Hid (RdrH H (w.setCell ⟨R, 0, none⟩ (.slice (some ⟨b, off + K, none⟩) (L - K) (cap - K))) R (s.1.drop K, s.2)) := by
        have := HH.out.put (a := some ⟨b, off + K, none⟩) (cap := cap - K) (bs := s.1.drop K) HD.out (.inr ⟨b, off + K, rfl, HBR.out⟩)
        rw [hld] at this
        exact this
      clear hK hL hld HD
      have hne : ¬ K = cap := fun e => he e.symm
      go_enter Tryz.func72, Tryz.ntmps72
      go_wp2_with fail
      refine HLD.out.mono ?_
      rintro e w' ⟨rfl, rfl⟩
      go_wp2_with fail
      refine (unfolded_any U _ hu).mono ?_
      rintro e w' ⟨rfl, rfl⟩
      go_wp2
      go_ret
      refine ⟨ret_i64 HV.out, ?_, chg_set w R 0 _⟩
      rw [HW.out]
      exact HP.out

theorem Fresh.widen {w1 w2 w w' : World} {a : Option Addr} (h : Fresh w1 w2 a) (h1 : w.heap.size ≤ w1.heap.size) (h2 : w2.heap.size ≤ w'.heap.size) : Fresh w w' a := by
  rcases h with e | ⟨b, off, e, k1, k2⟩
  · exact .inl e
  · exact .inr ⟨b, off, e, by omega, by omega⟩

/-- A text read by the Reader at R, in new memory, and what the Reader is then. -/
def RTxtH (H : Nat) (w : World) (R : Nat) (ps : List Nat) (s : Pk.St) (e : Ending) (w' : World) : Prop :=
  ∃ a cap, e = .returned (.slice a ps.length cap) ∧ SeenAt w' a cap ps ∧ RdrH H w' R s ∧ Chg [R] w w' ∧ Fresh w w' a

set_option maxRecDepth 100000 in
set_option maxHeartbeats 1000000 in
theorem rText_bad (R : Nat) (s : Pk.St) (w : World) (h : RdrH H w R s) (hbad : Pk.badT s = true) :
    Calls Tryz.prog 92 #[.pointer (some ⟨R, 0, none⟩)] w (RTxtH H w R (Pk.vT s) (Pk.nT s)) := by
  have HH := Lib.hid h
  have hv := Pk.vN_range s
  have hy := Pk.badT_yes s hbad
  have HV := Lib.hid (Pk.vT_bad s hbad)
  have HW := Lib.hid (Pk.nT_bad s hbad)
  have HNU := Lib.hid (rNumH R s w h)
  clear h hbad
  generalize hn : Pk.vN s = n at *
  generalize hs1 : Pk.nN s = s1 at *
  clear hn hs1
  by_cases hneg : n < 0
  · have hd : decide (n < 0) = true := by simp; omega
    clear hy
    go_enter Tryz.func92, Tryz.ntmps92
    go_wp2_with fail
    refine HNU.out.mono ?_
    rintro e w1 ⟨rfl, hr1, hb1⟩
    have HR1 := Lib.hid hr1
    have HB1 := Lib.hid hb1
    clear hr1 hb1
    go_wp2_with fail
    refine (failH R s1 _ HR1.out).mono ?_
    rintro e w2 ⟨rfl, hr2, hb2⟩
    have HR2 := Lib.hid hr2
    have HB2 := Lib.hid (HB1.out.trans hb2)
    clear hr2 hb2
    go_wp2
    go_ret
    exact ⟨none, 0, by rw [HV.out]; rfl, by rw [HV.out]; exact SeenAt.nil (Nat.zero_le _), by rw [HW.out]; exact HR2.out, HB2.out, .inl rfl⟩
  · have hd : decide (n < 0) = false := by simp; omega
    have hd2 : decide ((s1.1.length : Int) < n) = true := by simp; omega
    clear hy
    go_enter Tryz.func92, Tryz.ntmps92
    go_wp2_with fail
    refine HNU.out.mono ?_
    rintro e w1 ⟨rfl, hr1, hb1⟩
    obtain ⟨a1, c1, hc1, _, _⟩ := hr1.rest
    have HR1 := Lib.hid hr1
    have HB1 := Lib.hid hb1
    clear hr1 hb1
    go_wp2_with fail
    refine (failH R s1 _ HR1.out).mono ?_
    rintro e w2 ⟨rfl, hr2, hb2⟩
    have HR2 := Lib.hid hr2
    have HB2 := Lib.hid (HB1.out.trans hb2)
    clear hr2 hb2
    go_wp2
    go_ret
    exact ⟨none, 0, by rw [HV.out]; rfl, by rw [HV.out]; exact SeenAt.nil (Nat.zero_le _), by rw [HW.out]; exact HR2.out, HB2.out, .inl rfl⟩

set_option maxRecDepth 100000 in
set_option maxHeartbeats 1000000 in
theorem rText_good (R : Nat) (s : Pk.St) (w : World) (h : RdrH H w R s) (hm : s.1.length ≤ 100000000) (hgood : Pk.badT s = false) :
    Calls Tryz.prog 92 #[.pointer (some ⟨R, 0, none⟩)] w (RTxtH H w R (Pk.vT s) (Pk.nT s)) := by
  have HH := Lib.hid h
  have hy := Pk.badT_no s hgood
  have HV := Lib.hid (Pk.vT_good s hgood)
  have HW := Lib.hid (Pk.nT_good s hgood)
  have HNU := Lib.hid (rNumH R s w h)
  have hlen := Pk.nN_len s
  clear h hgood
  generalize hn : Pk.vN s = n at *
  generalize hs1 : Pk.nN s = s1 at *
  clear hn hs1
  obtain ⟨N, rfl⟩ : ∃ N : Nat, n = (N : Int) := ⟨n.toNat, by omega⟩
  rw [Int.toNat_natCast] at HV HW
  have hN : N ≤ s1.1.length := by omega
  have hd : decide ((N : Int) < 0) = false := by simp
  have hd2 : decide ((s1.1.length : Int) < (N : Int)) = false := by simp; omega
  have hd3 : decide (s1.1.length < N) = false := by simp; omega
  have HTK : Hid ((s1.1.take N).length = N) := by show _ = _; rw [List.length_take]; omega
  have HDR : Hid ((s1.1.drop N).length = s1.1.length - N) := by show _ = _; rw [List.length_drop]
  clear hy
  go_enter Tryz.func92, Tryz.ntmps92
  go_wp2_with fail
  refine HNU.out.mono ?_
  rintro e w1 ⟨rfl, hr1, hb1⟩
  obtain ⟨a1, c1, hc1, hs1, hn1⟩ := hr1.rest
  have hz0 := hr1.free 0
  have hcl := hs1.le
  have hcm := hs1.max
  unfold maxLen at hcm
  have HS1 := Lib.hid hs1
  have HN1 := Lib.hid hn1
  have HR1 := Lib.hid hr1
  have HB1 := Lib.hid hb1
  clear hr1 hb1 hs1 hn1
  generalize hL : s1.1.length = L at *
  have HL := Lib.hid hL
  clear hL
  rcases HN1.out with rfl | ⟨b, off, rfl, hbR⟩
  · have hL0 : L = 0 := by
      rcases Nat.eq_zero_or_pos L with h0 | h0
      · exact h0
      · obtain ⟨_, _, e, _⟩ := HS1.out.cell 0 (by rw [HL.out]; exact h0)
        cases e
    subst hL0
    obtain rfl : N = 0 := by omega
    go_wp2_with fail
    refine (clone_any _ _ _ (s1.1.take 0) _ HTK.out (by omega) (HS1.out.take 0)).mono ?_
    rintro e w2 ⟨a2, c2, rfl, hs2, hn2, hb2⟩
    have HR2 := Lib.hid (HR1.out.below hb2)
    have hc2 := cell_later hb2 hc1
    have hz2 := HR2.out.free 0
    have HS2 := Lib.hid hs2
    have HF2 : Hid (Fresh w w2 a2) := Fresh.widen hn2 HB1.out.size (Nat.le_refl _)
    have HO2 : Hid (Off R a2) := by
      rcases hn2 with e | ⟨b', off', e, h1, h2⟩
      · exact .inl e
      · exact .inr ⟨b', off', e, by have := HR1.out.lt; omega⟩
    have HB2 := Lib.hid (HB1.out.trans (Chg.of_below hb2))
    rw [HTK.out]
    clear hs2 hn2 hb2 hc1 hz0
    have HP : Hid (RdrH H (w2.setCell ⟨R, 0, none⟩ (.slice none 0 c1)) R (s1.1.drop 0, s1.2)) := by
      have e : s1.1.drop 0 = [] := List.length_eq_zero_iff.mp (by rw [HDR.out])
      rw [e]
      exact HR2.out.put (a := none) (cap := c1) (bs := []) (SeenAt.nil (by unfold maxLen; omega)) (.inl rfl)
    go_wp2
    go_ret
    refine ⟨a2, c2, by rw [HV.out, HTK.out]; rfl, by rw [HV.out]; exact HS2.out.apart (chg_set w2 R 0 _) HO2.out, by rw [HW.out]; exact HP.out, HB2.out.trans (chg_set w2 R 0 _), HF2.out.widen (Nat.le_refl _) (chg_set w2 R 0 _).size⟩
  · have HBR := Lib.hid hbR
    have hne0 := hbR.1
    clear hbR
    go_wp2_with fail
    refine (clone_any _ _ _ (s1.1.take N) _ HTK.out (by omega) (HS1.out.take N)).mono ?_
    rintro e w2 ⟨a2, c2, rfl, hs2, hn2, hb2⟩
    have HR2 := Lib.hid (HR1.out.below hb2)
    have hc2 := cell_later hb2 hc1
    have hz2 := HR2.out.free 0
    have HS2 := Lib.hid hs2
    have HD2 := Lib.hid ((HS1.out.below hb2).drop N (by rw [HL.out]; exact hN))
    have HF2 : Hid (Fresh w w2 a2) := Fresh.widen hn2 HB1.out.size (Nat.le_refl _)
    have HO2 : Hid (Off R a2) := by
      rcases hn2 with e | ⟨b', off', e, h1, h2⟩
      · exact .inl e
      · exact .inr ⟨b', off', e, by have := HR1.out.lt; omega⟩
    have HB2 := Lib.hid (HB1.out.trans (Chg.of_below hb2))
    rw [HTK.out]
    clear hs2 hn2 hb2 hc1 hz0
    by_cases he : c1 = N
    · subst he
      obtain rfl : L = c1 := by omega
      have e0 : Hid (s1.1.drop L = []) := by show _ = _; rw [← HL.out, List.drop_length]
      rw [e0.out] at HW
      have HP : Hid (RdrH H (w2.setCell ⟨R, 0, none⟩ (.slice (some ⟨b, off, none⟩) 0 0)) R ([], s1.2)) :=
        HR2.out.put (a := some ⟨b, off, none⟩) (cap := 0) (bs := []) (SeenAt.nil (Nat.zero_le _)) (.inr ⟨b, off, rfl, HBR.out⟩)
      clear HD2
      go_wp2
      go_ret
      refine ⟨a2, c2, by rw [HV.out, HTK.out]; rfl, by rw [HV.out]; exact HS2.out.apart (chg_set w2 R 0 _) HO2.out, by rw [HW.out]; exact HP.out, HB2.out.trans (chg_set w2 R 0 _), HF2.out.widen (Nat.le_refl _) (chg_set w2 R 0 _).size⟩
    · have HP : Hid (RdrH H (w2.setCell ⟨R, 0, none⟩ (.slice (some ⟨b, off + N, none⟩) (L - N) (c1 - N))) R (s1.1.drop N, s1.2)) := by
        have := HR2.out.put (a := some ⟨b, off + N, none⟩) (cap := c1 - N) (bs := s1.1.drop N) HD2.out (.inr ⟨b, off + N, rfl, HBR.out⟩)
        rw [HDR.out] at this
        exact this
      clear HD2
      have hne : ¬ N = c1 := fun e => he e.symm
      go_wp2
      go_ret
      refine ⟨a2, c2, by rw [HV.out, HTK.out]; rfl, by rw [HV.out]; exact HS2.out.apart (chg_set w2 R 0 _) HO2.out, by rw [HW.out]; exact HP.out, HB2.out.trans (chg_set w2 R 0 _), HF2.out.widen (Nat.le_refl _) (chg_set w2 R 0 _).size⟩

theorem rTextH (R : Nat) (s : Pk.St) (w : World) (h : RdrH H w R s) (hm : s.1.length ≤ 100000000) :
    Calls Tryz.prog 92 #[.pointer (some ⟨R, 0, none⟩)] w (RTxtH H w R (Pk.vT s) (Pk.nT s)) := by
  by_cases hb : Pk.badT s = true
  · exact rText_bad R s w h hb
  · exact rText_good R s w h hm (by simpa using hb)

set_option maxRecDepth 100000 in
set_option maxHeartbeats 1000000 in
theorem rCountH (R : Nat) (m : Int) (s : Pk.St) (w : World) (h : RdrH H w R s) :
    Calls Tryz.prog 91 #[.pointer (some ⟨R, 0, none⟩), .int .i64 m] w (RIntH H w R (Pk.vC s m) (Pk.nC s m)) := by
  have hv := Pk.vN_range s
  have HNU := Lib.hid (rNumH R s w h)
  clear h
  by_cases hb : Pk.badC s m = true
  · have HV := Lib.hid (Pk.vC_bad s m hb)
    have HW := Lib.hid (Pk.nC_bad s m hb)
    have hy : Pk.vN s < 0 ∨ m < Pk.vN s := by unfold Pk.badC at hb; simpa using hb
    clear hb
    generalize hn : Pk.vN s = n at *
    generalize hs1 : Pk.nN s = s1 at *
    clear hn hs1
    have t : decide (n < 0) = true ∨ (decide (n < 0) = false ∧ decide (m < n) = true) := by simp; omega
    clear hy
    rcases t with t | ⟨t, t'⟩
    all_goals
      go_enter Tryz.func91, Tryz.ntmps91
      go_wp2_with fail
      refine HNU.out.mono ?_
      rintro e w1 ⟨rfl, hr1, hb1⟩
      have HR1 := Lib.hid hr1
      have HB1 := Lib.hid hb1
      clear hr1 hb1
      go_wp2_with fail
      refine (failH R s1 _ HR1.out).mono ?_
      rintro e w2 ⟨rfl, hr2, hb2⟩
      have HR2 := Lib.hid hr2
      have HB2 := Lib.hid (HB1.out.trans hb2)
      clear hr2 hb2
      go_wp2
      go_ret
      exact ⟨ret_i64 HV.out.symm, by rw [HW.out]; exact HR2.out, HB2.out⟩
  · have hb' : Pk.badC s m = false := by simpa using hb
    have HV := Lib.hid (Pk.vC_good s m hb')
    have HW := Lib.hid (Pk.nC_good s m hb')
    have hy : 0 ≤ Pk.vN s ∧ Pk.vN s ≤ m := by unfold Pk.badC at hb'; simp at hb'; omega
    clear hb hb'
    generalize hn : Pk.vN s = n at *
    generalize hs1 : Pk.nN s = s1 at *
    clear hn hs1
    have t : decide (n < 0) = false := by simp; omega
    have t' : decide (m < n) = false := by simp; omega
    go_enter Tryz.func91, Tryz.ntmps91
    go_wp2_with fail
    refine HNU.out.mono ?_
    rintro e w1 ⟨rfl, hr1, hb1⟩
    have HR1 := Lib.hid hr1
    have HB1 := Lib.hid hb1
    clear hr1 hb1
    go_wp2
    go_ret
    exact ⟨ret_i64 HV.out.symm, by rw [HW.out]; exact HR1.out, HB1.out⟩

/-- Valid, and nothing is left. -/
def Pk.fin (s : Pk.St) : Bool := !s.2 && decide (s.1.length = 0)

set_option maxRecDepth 100000 in
set_option maxHeartbeats 1000000 in
theorem rEndH (R : Nat) (s : Pk.St) (w : World) (h : RdrH H w R s) :
    Calls Tryz.prog 57 #[.pointer (some ⟨R, 0, none⟩)] w fun e w' => e = .returned (.bool (Pk.fin s)) ∧ w = w' := by
  obtain ⟨a, cap, hc, hs, _⟩ := h.rest
  have hf := h.flag
  clear hs h
  obtain ⟨bs, f⟩ := s
  cases f
  · have HE : Hid (((bs.length : Int) == 0) = Pk.fin (bs, false)) := by show _ = _; unfold Pk.fin; rw [Bool.eq_iff_iff]; simp
    go_enter Tryz.func57, Tryz.ntmps57
    go_wp2
    go_ret
    exact ⟨ret_boolean HE.out, rfl⟩
  · have HE : Hid (false = Pk.fin (bs, true)) := by show _ = _; unfold Pk.fin; simp
    go_enter Tryz.func57, Tryz.ntmps57
    go_wp2
    go_ret
    exact ⟨ret_boolean HE.out, rfl⟩

end

/-- A Reader at block R: what is left, and whether it is invalid. -/
def Rdr (w : World) (R : Nat) (s : Pk.St) : Prop := ∃ H, RdrH H w R s

theorem Rdr.lt {w : World} {R : Nat} {s : Pk.St} (h : Rdr w R s) : R < w.heap.size := by obtain ⟨H, h⟩ := h; exact h.lt

theorem Rdr.below {w w' : World} {R : Nat} {s : Pk.St} (h : Rdr w R s) (hb : Below w.heap.size w w') : Rdr w' R s := by obtain ⟨H, h⟩ := h; exact ⟨H, h.below hb⟩

theorem Rdr.alike {w w' : World} {R : Nat} {s : Pk.St} (h : Rdr w R s) (e : w'.heap = w.heap) : Rdr w' R s := by obtain ⟨H, h⟩ := h; exact ⟨H, h.alike e⟩

/-- A Reader handed back, in new memory. -/
def RetR (w : World) (s : Pk.St) (e : Ending) (w' : World) : Prop :=
  ∃ R, e = .returned (.pointer (some ⟨R, 0, none⟩)) ∧ w.heap.size ≤ R ∧ Rdr w' R s ∧ Below w.heap.size w w'

/-- A number read by the Reader at R, and what the Reader is then. -/
def RInt (w : World) (R : Nat) (v : Int) (s : Pk.St) (e : Ending) (w' : World) : Prop := e = .returned (.int .i64 v) ∧ Rdr w' R s ∧ Chg [R] w w'

/-- A text read by the Reader at R, and what the Reader is then. -/
def RTxt (w : World) (R : Nat) (ps : List Nat) (s : Pk.St) (e : Ending) (w' : World) : Prop :=
  ∃ a cap, e = .returned (.slice a ps.length cap) ∧ SeenAt w' a cap ps ∧ Rdr w' R s ∧ Chg [R] w w'

theorem new_any (a : Option Addr) (cap l : Nat) (ps : List Nat) (w : World) (hl : ps.length = l) (hm : l ≤ 1000000000) (h : SeenAt w a cap ps) :
    Calls Tryz.prog 55 #[.slice a l cap] w (RetR w (ps, false)) :=
  (newH a cap l ps w hl hm h).mono fun _ _ ⟨R, H, h1, h2, h3, h4⟩ => ⟨R, h1, h2, ⟨H, h3⟩, h4⟩

theorem rNum_any (R : Nat) (s : Pk.St) (w : World) (h : Rdr w R s) :
    Calls Tryz.prog 72 #[.pointer (some ⟨R, 0, none⟩)] w (RInt w R (Pk.vN s) (Pk.nN s)) := by
  obtain ⟨H, h⟩ := h
  exact (rNumH R s w h).mono fun _ _ ⟨h1, h2, h3⟩ => ⟨h1, ⟨H, h2⟩, h3⟩

theorem rText_any (R : Nat) (s : Pk.St) (w : World) (h : Rdr w R s) (hm : s.1.length ≤ 100000000) :
    Calls Tryz.prog 92 #[.pointer (some ⟨R, 0, none⟩)] w (RTxt w R (Pk.vT s) (Pk.nT s)) := by
  obtain ⟨H, h⟩ := h
  exact (rTextH R s w h hm).mono fun _ _ ⟨a, c, h1, h2, h3, h4, _⟩ => ⟨a, c, h1, h2, ⟨H, h3⟩, h4⟩

theorem rCount_any (R : Nat) (m : Int) (s : Pk.St) (w : World) (h : Rdr w R s) :
    Calls Tryz.prog 91 #[.pointer (some ⟨R, 0, none⟩), .int .i64 m] w (RInt w R (Pk.vC s m) (Pk.nC s m)) := by
  obtain ⟨H, h⟩ := h
  exact (rCountH R m s w h).mono fun _ _ ⟨h1, h2, h3⟩ => ⟨h1, ⟨H, h2⟩, h3⟩

theorem rEnd_any (R : Nat) (s : Pk.St) (w : World) (h : Rdr w R s) :
    Calls Tryz.prog 57 #[.pointer (some ⟨R, 0, none⟩)] w fun e w' => e = .returned (.bool (Pk.fin s)) ∧ w = w' := by
  obtain ⟨H, h⟩ := h
  exact rEndH R s w h

set_option maxHeartbeats 400000 in
theorem rNum_nil (w : World) : Calls Tryz.prog 72 #[.pointer none] w fun e w' => e = .returned (.int .i64 0) ∧ w = w' := by
  go_enter Tryz.func72, Tryz.ntmps72
  go_wp2
  go_ret
  exact ⟨rfl, rfl⟩

set_option maxHeartbeats 400000 in
theorem rText_nil (w : World) : Calls Tryz.prog 92 #[.pointer none] w fun e w' => e = .returned (.slice none 0 0) ∧ w = w' := by
  go_enter Tryz.func92, Tryz.ntmps92
  go_wp2
  go_ret
  exact ⟨rfl, rfl⟩

set_option maxHeartbeats 400000 in
theorem rCount_nil (m : Int) (w : World) : Calls Tryz.prog 91 #[.pointer none, .int .i64 m] w fun e w' => e = .returned (.int .i64 0) ∧ w = w' := by
  go_enter Tryz.func91, Tryz.ntmps91
  go_wp2
  go_ret
  exact ⟨rfl, rfl⟩

set_option maxHeartbeats 400000 in
theorem rEnd_nil (w : World) : Calls Tryz.prog 57 #[.pointer none] w fun e w' => e = .returned (.bool false) ∧ w = w' := by
  go_enter Tryz.func57, Tryz.ntmps57
  go_wp2
  go_ret
  exact ⟨rfl, rfl⟩

end Go.Proofs.YtdgpbdedaafdiaaGreat

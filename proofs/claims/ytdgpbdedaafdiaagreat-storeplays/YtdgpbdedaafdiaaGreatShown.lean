/-
  The law's shown.
-/
import Derived.Test.YtdgpbdedaafdiaaGreatDeed
import Derived.Deep.DeepCutAuto
namespace Go.Proofs.YtdgpbdedaafdiaaGreat
open Go.RowKit



theorem RowE.kp {w : World} {lo : Nat} {M : List Nat} {a : Option Addr} {c : Nat} {es : List Pe} (h : RowE w lo w.heap.size a c es) (hw : ∀ e ∈ es, e.Wf) (hM : ∀ g ∈ M, g < lo) : Kp M w fun x => EnsAt x a c es := by
  have hlo : ∀ g ∈ blk a, lo ≤ g := fun g hg => by
    obtain ⟨xs, _, hE, _, ho⟩ := h
    exact (World.ownsRow.lt hE.own g (blk_own hg)).1
  refine (er_of (base := 0) (M := blk a ++ M) h hw (Nat.zero_le _) fun g hg => ?_).kp fun g hg hm => ?_
  · rcases List.mem_append.mp hg with e | e
    · exact .inr (.inr e)
    · exact .inl (hM g e)
  · have := hlo g hg
    have := hM g hm
    omega

theorem num_cancel {a b : Int} {x y : List Nat} (ha : I64 a) (hb : I64 b) (h : Pk.num a ++ x = Pk.num b ++ y) : a = b ∧ x = y := by
  have h1 := Pk.vN_num a x false ha.1 ha.2
  have h2 := Pk.vN_num b y false hb.1 hb.2
  rw [h] at h1
  refine ⟨h1.1.symm.trans h2.1, ?_⟩
  have := h1.2.symm.trans h2.2
  exact congrArg Prod.fst this

theorem encs_cons (z : Int) (zs : List Int) : encs (z :: zs) = Pk.num z ++ encs zs := rfl

theorem len_i64 {n : Nat} (h : n ≤ 1000000) : I64 (n : Int) := ⟨by omega, by omega⟩

theorem encR_inj {r r' : Pr} (hw : r.Wf) (hw' : r'.Wf) (hm : r.mem.length ≤ 1000000) (hm' : r'.mem.length ≤ 1000000) (he : r.ents.length ≤ 1000000) (he' : r'.ents.length ≤ 1000000) (h : encR r = encR r') : r.epoch = r'.epoch ∧ (r.mem = r'.mem → r.ents.length = r'.ents.length) := by
  unfold encR at h
  simp only [encs_cons, List.append_assoc] at h
  obtain ⟨_, h⟩ := num_cancel hw.kind hw'.kind h
  obtain ⟨h1, h⟩ := num_cancel hw.epoch hw'.epoch h
  obtain ⟨_, h⟩ := num_cancel hw.pos hw'.pos h
  obtain ⟨_, h⟩ := num_cancel hw.last hw'.last h
  obtain ⟨_, h⟩ := num_cancel (len_i64 hm) (len_i64 hm') h
  refine ⟨h1, fun e => ?_⟩
  rw [e] at h
  have h := List.append_cancel_left h
  have h := List.append_cancel_left h
  have := (num_cancel (len_i64 he) (len_i64 he') h).1
  omega

/-- Two states that are shown to differ. -/
def Dif (t m : Ss) : Prop := t.now.epoch ≠ m.now.epoch ∨ (t.now.mem = m.now.mem ∧ t.now.ents.length ≠ m.now.ents.length) ∨ t.sealed ≠ m.sealed ∨ t.staged.epoch ≠ m.staged.epoch

/-- What the law knows of a state. -/
structure Fit (s : Ss) : Prop where
  wf : s.Wf
  mem : s.now.mem.length ≤ 16
  ents : s.now.ents.length ≤ 60
  each : ∀ e ∈ s.now.ents, e.key.length ≤ 16 ∧ e.frag.length ≤ 256

theorem Fit.small {s : Ss} (h : Fit s) (k : Int) : Small { s.now with kind := k } := ⟨h.mem, by show s.now.ents.length ≤ 4096; have := h.ents; omega, h.each⟩
theorem Fit.frag {s : Ss} (h : Fit s) : ∀ e ∈ s.now.ents, e.frag.length ≤ 1000000000 := fun e he => by have := (h.each e he).2; omega

section
variable {M : List Nat} {w : World} {B SB : Nat} {t m : Ss} {bp : Value} {L : Lay}

set_option maxRecDepth 100000 in
set_option maxHeartbeats 8000000 in
theorem shown_any (hT : SomeV (.pointer (some ⟨SB, 0, none⟩)) w bp t L) (hO : Mo M w B m) (hf : Fit t) (hg : Fit m) (bb : Bool) (hb : (bb = true ∧ m = t) ∨ (bb = false ∧ Dif t m)) :
    Calls Tryz.prog 13 #[.pointer (some ⟨SB, 0, none⟩), .pointer (some ⟨B, 0, none⟩)] w fun x w' => x = .returned (.bool bb) ∧ Below w.heap.size w w' := by
  have HWE := Lib.hid hf.wf.now.ents
  have HFR := Lib.hid hf.frag
  have HML := Lib.hid hf.mem
  have HEL := Lib.hid hf.ents
  have HF := Lib.hid hf
  have HG := Lib.hid hg
  have HMO := Lib.hid hO
  obtain ⟨lm, hlm⟩ : ∃ q, t.now.mem.length = q := ⟨_, rfl⟩
  obtain ⟨le, hle⟩ : ∃ q, t.now.ents.length = q := ⟨_, rfl⟩
  have HLM := Lib.hid hlm
  have HLE := Lib.hid hle
  have HT0 := Lib.hid hT
  clear hf hg hlm hle
  go_enter Tryz.func13, Tryz.ntmps13
  go_upto_region 1 with fail
  obtain ⟨y, z, h1, h2, h3⟩ := hO
  have HMB := Lib.hid h1.now
  have HMR := Lib.hid h2.at_.now
  clear h1 h2 h3
  go_cut [5] (fun s wx => ∃ (A : Nat) (a3 : Option Addr) (k3 : Nat) (a5 : Option Addr) (k5 : Nat), s = .pointer (some ⟨A, 0, none⟩) ∧ Hid (Bx wx A 35 #[.int .i64 m.now.kind, .int .i64 t.now.epoch, .slice a3 lm k3, .int .i64 t.now.pos, .int .i64 t.now.last, .slice a5 le k5]) ∧ Hid (IntsAt wx a3 k3 t.now.mem) ∧ Hid (EnsAt wx a5 k5 t.now.ents) ∧ Hid (Ext w wx))
  case first =>
    rename_i JJ KK hJJ hKK
    have hc0 : w.drew.cell? ⟨B, 0, none⟩ = some (.int .i64 m.now.kind) := HMB.out.cell 0 _ rfl
    refine wp_region_S2 (Ext w.drew) (by kernel_rfl) ?_
    have hSw := Ext.refl w.drew
    have HWB : Hid (Ext w w.drew) := Below.drew (Below.refl _ w)
    have HT := Lib.hid (hT.below HWB.out)
    have E := Lib.hid (Ext.refl w.drew)
    generalize w.drew = W at *
    refine wpAnyH_tkS2 (i := 0) 12 (v := ?_) rfl rfl (by kernel_rfl) (by kernel_rfl) (by kernel_rfl) (by rfl) hSw (fun wq hwq => ?_) ?_
    rotate_left
    · (have hx := True.intro; go_simp <;> with_reducible rfl)
    simp only [List.setIfInBounds_toArray, List.set_cons_zero, List.set_cons_succ]
    refine wpAnyH_tkS2 (i := 1) 13 (v := ?_) rfl rfl (by kernel_rfl) (by kernel_rfl) (by kernel_rfl) (by rfl) hSw (fun wq hwq => ?_) ?_
    rotate_left
    · (have hx := True.intro; go_simp <;> with_reducible rfl)
    simp only [List.setIfInBounds_toArray, List.set_cons_zero, List.set_cons_succ]
    refine wpAnyH_tkS2 (i := 2) 14 (v := ?_) rfl rfl (by kernel_rfl) (by kernel_rfl) (by kernel_rfl) (by rfl) hSw (fun wq hwq => ?_) ?_
    rotate_left
    · (have hx := True.intro; go_simp <;> with_reducible rfl)
    simp only [List.setIfInBounds_toArray, List.set_cons_zero, List.set_cons_succ]
    refine wpAnyH_tkS2 (i := 3) 15 (v := ?_) rfl rfl (by kernel_rfl) (by kernel_rfl) (by kernel_rfl) (by rfl) hSw (fun wq hwq => ?_) ?_
    rotate_left
    · (have hx := True.intro; go_simp <;> with_reducible rfl)
    simp only [List.setIfInBounds_toArray, List.set_cons_zero, List.set_cons_succ]
    refine wpAnyH_tkS2 (i := 4) 16 (v := ?_) rfl rfl (by kernel_rfl) (by kernel_rfl) (by kernel_rfl) (by rfl) hSw (fun wq hwq => ?_) ?_
    rotate_left
    · (have hx := cell_later hwq hc0; go_simp <;> with_reducible rfl)
    simp only [List.setIfInBounds_toArray, List.set_cons_zero, List.set_cons_succ]
    refine wpAnyH_tkS2 (i := 5) 17 (v := ?_) rfl rfl (by kernel_rfl) (by kernel_rfl) (by kernel_rfl) (by rfl) hSw (fun wq hwq => ?_) ?_
    rotate_left
    · (have hx := True.intro; go_simp <;> with_reducible rfl)
    simp only [List.setIfInBounds_toArray, List.set_cons_zero, List.set_cons_succ]
    refine wpAnyH_tkS2 (i := 7) 19 (v := ?_) rfl rfl (by kernel_rfl) (by kernel_rfl) (by kernel_rfl) (by rfl) hSw (fun wq hwq => ?_) ?_
    rotate_left
    · (have hx := True.intro; go_simp <;> with_reducible rfl)
    simp only [List.setIfInBounds_toArray, List.set_cons_zero, List.set_cons_succ]
    refine wpAnyH_tkS2 (i := 9) 21 (v := ?_) rfl rfl (by kernel_rfl) (by kernel_rfl) (by kernel_rfl) (by rfl) hSw (fun wq hwq => ?_) ?_
    rotate_left
    · (have hx := True.intro; go_simp <;> with_reducible rfl)
    simp only [List.setIfInBounds_toArray, List.set_cons_zero, List.set_cons_succ]
    refine wpAnyH_tkS2 (i := 11) 23 (v := ?_) rfl rfl (by kernel_rfl) (by kernel_rfl) (by kernel_rfl) (by rfl) hSw (fun wq hwq => ?_) ?_
    rotate_left
    · (have hx := True.intro; go_simp <;> with_reducible rfl)
    simp only [List.setIfInBounds_toArray, List.set_cons_zero, List.set_cons_succ]
    refine wpAnyH_twoS2 (i := 6) (j := 14) rfl rfl (by kernel_rfl) (by rfl) (by rfl) (fun K hK => ?_) (fun K hK => ?_)
    · skip
      go_simp
      refine (stConf_any _ (HT.out.below E.out) (by have := HML.out; omega)).mono ?_
      rintro x wx ⟨a3, k3, rfl, hr, hb⟩
      rw [HLM.out]
      have HI' : Hid (Kp [] wx fun x => IntsAt x a3 k3 t.now.mem) := kp_rob hr (by simp) (Nat.le_refl _)
      have E' := Lib.hid (Ext.trans E.out hb)
      refine hK.out _ _ (Ext W) (fun _ h => h) (E'.out) ?_
      clear hK K
      clear hb E hSw hr
      have E := E'
      have hSw := E.out
      have HI := HI'
      clear E' HI'
      refine wpAnyH_twoS2 (i := 8) (j := 14) rfl rfl (by kernel_rfl) (by rfl) (by rfl) (fun K hK => ?_) (fun K hK => ?_)
      · skip
        go_simp
        refine (stPos_any _ (HT.out.below E.out)).mono ?_
        rintro x wx ⟨rfl, hb⟩
        have HI' : Hid (Kp [] wx fun x => IntsAt x a3 k3 t.now.mem) := HI.out.below hb
        have E' := Lib.hid (Ext.trans E.out hb)
        refine hK.out _ _ (Ext W) (fun _ h => h) (E'.out) ?_
        clear hK K
        clear hb E hSw HI
        have E := E'
        have hSw := E.out
        have HI := HI'
        clear E' HI'
        refine wpAnyH_twoS2 (i := 10) (j := 14) rfl rfl (by kernel_rfl) (by rfl) (by rfl) (fun K hK => ?_) (fun K hK => ?_)
        · skip
          go_simp
          refine (stBase_any _ (HT.out.below E.out)).mono ?_
          rintro x wx ⟨rfl, hb⟩
          have HI' : Hid (Kp [] wx fun x => IntsAt x a3 k3 t.now.mem) := HI.out.below hb
          have E' := Lib.hid (Ext.trans E.out hb)
          refine hK.out _ _ (Ext W) (fun _ h => h) (E'.out) ?_
          clear hK K
          clear hb E hSw HI
          have E := E'
          have hSw := E.out
          have HI := HI'
          clear E' HI'
          refine wpAnyH_twoS2 (i := 12) (j := 14) rfl rfl (by kernel_rfl) (by rfl) (by rfl) (fun K hK => ?_) (fun K hK => ?_)
          · skip
            go_simp
            refine (stEntries_any _ (HT.out.below E.out) (by have := HEL.out; omega) HFR.out).mono ?_
            rintro x wx ⟨a5, k5, rfl, hr, hb⟩
            rw [HLE.out]
            have HN' : Hid (Kp [] wx fun x => EnsAt x a5 k5 t.now.ents) := hr.kp HWE.out (by simp)
            have HI' : Hid (Kp [] wx fun x => IntsAt x a3 k3 t.now.mem) := HI.out.below hb
            have E' := Lib.hid (Ext.trans E.out hb)
            refine hK.out _ _ (Ext W) (fun _ h => h) (E'.out) ?_
            clear hK K
            clear hb E hSw hr HI
            have E := E'
            have hSw := E.out
            have HI := HI'
            clear E' HI'
            have HN := HN'
            clear HN'
            refine wpAnyH_tkS2 (i := 13) 25 (v := ?_) rfl rfl (by kernel_rfl) (by kernel_rfl) (by kernel_rfl) (by rfl) hSw (fun wq hwq => ?_) ?_
            rotate_left
            · (have hx := True.intro; go_simp <;> with_reducible rfl)
            simp only [List.setIfInBounds_toArray, List.set_cons_zero, List.set_cons_succ]
            refine wpAnyH_oneS2 (i := 14) rfl (by kernel_rfl) (by rfl) (fun K hK => ?_)
            go_simp
            have hba := below_one wx (.cells #[.int .i64 0, .int .i64 0, .slice none 0 0, .int .i64 0, .int .i64 0, .slice none 0 0] 35)
            have HA : Hid (Bx (wx.alloc (.cells #[.int .i64 0, .int .i64 0, .slice none 0 0, .int .i64 0, .int .i64 0, .slice none 0 0] 35)) wx.heap.size 35 #[.int .i64 0, .int .i64 0, .slice none 0 0, .int .i64 0, .int .i64 0, .slice none 0 0]) := bx_new8 _ _ _
            have HAL0 : Hid (W.heap.size ≤ wx.heap.size) := E.out.size
            have E' := Lib.hid (Ext.trans E.out hba)
            have HI' := Lib.hid (HI.out.mv (⟨Chg.mono (Chg.of_below hba) (fun g hg => absurd hg List.not_mem_nil), fun g hg => .inr (by rw [List.mem_singleton.mp hg]; exact Nat.le_refl _)⟩ : Mv wx (wx.alloc (.cells #[.int .i64 0, .int .i64 0, .slice none 0 0, .int .i64 0, .int .i64 0, .slice none 0 0] 35)) [] [wx.heap.size]))
            have HN' := Lib.hid (HN.out.mv (⟨Chg.mono (Chg.of_below hba) (fun g hg => absurd hg List.not_mem_nil), fun g hg => .inr (by rw [List.mem_singleton.mp hg]; exact Nat.le_refl _)⟩ : Mv wx (wx.alloc (.cells #[.int .i64 0, .int .i64 0, .slice none 0 0, .int .i64 0, .int .i64 0, .slice none 0 0] 35)) [] [wx.heap.size]))
            refine hK.out _ _ (Ext W) (fun _ h => h) (E'.out) ?_
            clear hK K
            clear hba E hSw HI HN
            have E := E'
            have hSw := E.out
            clear E'
            have HI := HI'
            clear HI'
            have HN := HN'
            clear HN'
            obtain ⟨A, hAe⟩ : ∃ A, A = wx.heap.size := ⟨_, rfl⟩
            rw [← hAe]
            have HAL : Hid (W.heap.size ≤ A) := by show _ ≤ _; rw [hAe]; exact HAL0.out
            rw [← hAe] at HA HI HN
            clear hAe HAL0
            generalize (wx.alloc (.cells #[.int .i64 0, .int .i64 0, .slice none 0 0, .int .i64 0, .int .i64 0, .slice none 0 0] 35)) = wa at *
            refine wpAnyH_oneS2 (i := 15) rfl (by kernel_rfl) (by rfl) (fun K hK => ?_)
            refine wp_stS 35 6 A 0 35 #[.int .i64 m.now.kind, .int .i64 t.now.epoch, .slice a3 lm k3, .int .i64 t.now.pos, .int .i64 t.now.last, .slice a5 le k5] #[.int .i64 0, .int .i64 0, .slice none 0 0, .int .i64 0, .int .i64 0, .slice none 0 0] #[.int .i64 m.now.kind, .int .i64 t.now.epoch, .slice a3 lm k3, .int .i64 t.now.pos, .int .i64 t.now.last, .slice a5 le k5] _ _ rfl rfl rfl rfl (by kernel_rfl) rfl HA.out (by show 6 ≤ 6; omega) (by simp [Value.oneCell']) rfl ?_
            intro w9 hb9 hc9
            have hmv9 : ∀ w0 : World, Chg [A] w0 w9 → Mv w0 w9 [A] [A] := fun _ h => ⟨h, fun _ hg => .inl hg⟩
            have HI9 := Lib.hid (HI.out.mv (hmv9 _ hc9)).now
            have HN9 := Lib.hid (HN.out.mv (hmv9 _ hc9)).now
            have HB9 := Lib.hid hb9
            have E9 : Hid (Ext W w9) := hc9.below E.out E.out.size (fun g hg => by rw [List.mem_singleton.mp hg]; exact HAL.out)
            clear hb9 hc9 hmv9
            refine hK.out _ _ (Ext W) (fun _ h => h) (E9.out) ?_
            clear hK K
            refine wpAnyH_done (by kernel_rfl) ?_ _
            refine NoPanic.normal ?_
            have EXF := Lib.hid (Ext.trans HWB.out E9.out)
            refine hKK _ _ (Met.intro (hJJ _ _ ?_))
            (repeat apply Exists.intro)
            exact ⟨⟨A, a3, k3, a5, k5, rfl, HB9, HI9, HN9, EXF⟩, rfl⟩
          · skip
            go_simp
            have hba := below_one wx (.cells #[.int .i64 0, .int .i64 0, .slice none 0 0, .int .i64 0, .int .i64 0, .slice none 0 0] 35)
            have HA : Hid (Bx (wx.alloc (.cells #[.int .i64 0, .int .i64 0, .slice none 0 0, .int .i64 0, .int .i64 0, .slice none 0 0] 35)) wx.heap.size 35 #[.int .i64 0, .int .i64 0, .slice none 0 0, .int .i64 0, .int .i64 0, .slice none 0 0]) := bx_new8 _ _ _
            have HAL0 : Hid (W.heap.size ≤ wx.heap.size) := E.out.size
            have E' := Lib.hid (Ext.trans E.out hba)
            have HI' := Lib.hid (HI.out.mv (⟨Chg.mono (Chg.of_below hba) (fun g hg => absurd hg List.not_mem_nil), fun g hg => .inr (by rw [List.mem_singleton.mp hg]; exact Nat.le_refl _)⟩ : Mv wx (wx.alloc (.cells #[.int .i64 0, .int .i64 0, .slice none 0 0, .int .i64 0, .int .i64 0, .slice none 0 0] 35)) [] [wx.heap.size]))
            refine hK.out _ _ (Ext W) (fun _ h => h) (E'.out) ?_
            clear hK K
            clear hba E hSw HI
            have E := E'
            have hSw := E.out
            clear E'
            have HI := HI'
            clear HI'
            obtain ⟨A, hAe⟩ : ∃ A, A = wx.heap.size := ⟨_, rfl⟩
            rw [← hAe]
            have HAL : Hid (W.heap.size ≤ A) := by show _ ≤ _; rw [hAe]; exact HAL0.out
            rw [← hAe] at HA HI
            clear hAe HAL0
            generalize (wx.alloc (.cells #[.int .i64 0, .int .i64 0, .slice none 0 0, .int .i64 0, .int .i64 0, .slice none 0 0] 35)) = wa at *
            refine wpAnyH_oneS2 (i := 12) rfl (by kernel_rfl) (by rfl) (fun K hK => ?_)
            go_simp
            refine (stEntries_any _ (HT.out.below E.out) (by have := HEL.out; omega) HFR.out).mono ?_
            rintro x wx ⟨a5, k5, rfl, hr, hb⟩
            rw [HLE.out]
            have HN' : Hid (Kp [A] wx fun x => EnsAt x a5 k5 t.now.ents) := hr.kp HWE.out (fun g hg => by rw [List.mem_singleton.mp hg]; exact bx_lt HA.out)
            have HI' : Hid (Kp [A] wx fun x => IntsAt x a3 k3 t.now.mem) := HI.out.below hb
            have HA' := Lib.hid (HA.out.chg (gs := []) (Chg.of_below hb) (by simp))
            have HAL' := HAL
            have E' := Lib.hid (Ext.trans E.out hb)
            refine hK.out _ _ (Ext W) (fun _ h => h) (E'.out) ?_
            clear hK K
            clear hb E hSw hr HI HA HAL
            have E := E'
            have hSw := E.out
            have HI := HI'
            clear E' HI'
            have HN := HN'
            clear HN'
            have HA := HA'
            have HAL := HAL'
            clear HA' HAL'
            refine wpAnyH_tkS2 (i := 13) 25 (v := ?_) rfl rfl (by kernel_rfl) (by kernel_rfl) (by kernel_rfl) (by rfl) hSw (fun wq hwq => ?_) ?_
            rotate_left
            · (have hx := True.intro; go_simp <;> with_reducible rfl)
            simp only [List.setIfInBounds_toArray, List.set_cons_zero, List.set_cons_succ]
            refine wpAnyH_oneS2 (i := 15) rfl (by kernel_rfl) (by rfl) (fun K hK => ?_)
            refine wp_stS 35 6 A 0 35 #[.int .i64 m.now.kind, .int .i64 t.now.epoch, .slice a3 lm k3, .int .i64 t.now.pos, .int .i64 t.now.last, .slice a5 le k5] #[.int .i64 0, .int .i64 0, .slice none 0 0, .int .i64 0, .int .i64 0, .slice none 0 0] #[.int .i64 m.now.kind, .int .i64 t.now.epoch, .slice a3 lm k3, .int .i64 t.now.pos, .int .i64 t.now.last, .slice a5 le k5] _ _ rfl rfl rfl rfl (by kernel_rfl) rfl HA.out (by show 6 ≤ 6; omega) (by simp [Value.oneCell']) rfl ?_
            intro w9 hb9 hc9
            have hmv9 : ∀ w0 : World, Chg [A] w0 w9 → Mv w0 w9 [A] [A] := fun _ h => ⟨h, fun _ hg => .inl hg⟩
            have HI9 := Lib.hid (HI.out.mv (hmv9 _ hc9)).now
            have HN9 := Lib.hid (HN.out.mv (hmv9 _ hc9)).now
            have HB9 := Lib.hid hb9
            have E9 : Hid (Ext W w9) := hc9.below E.out E.out.size (fun g hg => by rw [List.mem_singleton.mp hg]; exact HAL.out)
            clear hb9 hc9 hmv9
            refine hK.out _ _ (Ext W) (fun _ h => h) (E9.out) ?_
            clear hK K
            refine wpAnyH_done (by kernel_rfl) ?_ _
            refine NoPanic.normal ?_
            have EXF := Lib.hid (Ext.trans HWB.out E9.out)
            refine hKK _ _ (Met.intro (hJJ _ _ ?_))
            (repeat apply Exists.intro)
            exact ⟨⟨A, a3, k3, a5, k5, rfl, HB9, HI9, HN9, EXF⟩, rfl⟩
        · skip
          go_simp
          have hba := below_one wx (.cells #[.int .i64 0, .int .i64 0, .slice none 0 0, .int .i64 0, .int .i64 0, .slice none 0 0] 35)
          have HA : Hid (Bx (wx.alloc (.cells #[.int .i64 0, .int .i64 0, .slice none 0 0, .int .i64 0, .int .i64 0, .slice none 0 0] 35)) wx.heap.size 35 #[.int .i64 0, .int .i64 0, .slice none 0 0, .int .i64 0, .int .i64 0, .slice none 0 0]) := bx_new8 _ _ _
          have HAL0 : Hid (W.heap.size ≤ wx.heap.size) := E.out.size
          have E' := Lib.hid (Ext.trans E.out hba)
          have HI' := Lib.hid (HI.out.mv (⟨Chg.mono (Chg.of_below hba) (fun g hg => absurd hg List.not_mem_nil), fun g hg => .inr (by rw [List.mem_singleton.mp hg]; exact Nat.le_refl _)⟩ : Mv wx (wx.alloc (.cells #[.int .i64 0, .int .i64 0, .slice none 0 0, .int .i64 0, .int .i64 0, .slice none 0 0] 35)) [] [wx.heap.size]))
          refine hK.out _ _ (Ext W) (fun _ h => h) (E'.out) ?_
          clear hK K
          clear hba E hSw HI
          have E := E'
          have hSw := E.out
          clear E'
          have HI := HI'
          clear HI'
          obtain ⟨A, hAe⟩ : ∃ A, A = wx.heap.size := ⟨_, rfl⟩
          rw [← hAe]
          have HAL : Hid (W.heap.size ≤ A) := by show _ ≤ _; rw [hAe]; exact HAL0.out
          rw [← hAe] at HA HI
          clear hAe HAL0
          generalize (wx.alloc (.cells #[.int .i64 0, .int .i64 0, .slice none 0 0, .int .i64 0, .int .i64 0, .slice none 0 0] 35)) = wa at *
          refine wpAnyH_oneS2 (i := 10) rfl (by kernel_rfl) (by rfl) (fun K hK => ?_)
          go_simp
          refine (stBase_any _ (HT.out.below E.out)).mono ?_
          rintro x wx ⟨rfl, hb⟩
          have HI' : Hid (Kp [A] wx fun x => IntsAt x a3 k3 t.now.mem) := HI.out.below hb
          have HA' := Lib.hid (HA.out.chg (gs := []) (Chg.of_below hb) (by simp))
          have HAL' := HAL
          have E' := Lib.hid (Ext.trans E.out hb)
          refine hK.out _ _ (Ext W) (fun _ h => h) (E'.out) ?_
          clear hK K
          clear hb E hSw HI HA HAL
          have E := E'
          have hSw := E.out
          have HI := HI'
          clear E' HI'
          have HA := HA'
          have HAL := HAL'
          clear HA' HAL'
          refine wpAnyH_oneS2 (i := 12) rfl (by kernel_rfl) (by rfl) (fun K hK => ?_)
          go_simp
          refine (stEntries_any _ (HT.out.below E.out) (by have := HEL.out; omega) HFR.out).mono ?_
          rintro x wx ⟨a5, k5, rfl, hr, hb⟩
          rw [HLE.out]
          have HN' : Hid (Kp [A] wx fun x => EnsAt x a5 k5 t.now.ents) := hr.kp HWE.out (fun g hg => by rw [List.mem_singleton.mp hg]; exact bx_lt HA.out)
          have HI' : Hid (Kp [A] wx fun x => IntsAt x a3 k3 t.now.mem) := HI.out.below hb
          have HA' := Lib.hid (HA.out.chg (gs := []) (Chg.of_below hb) (by simp))
          have HAL' := HAL
          have E' := Lib.hid (Ext.trans E.out hb)
          refine hK.out _ _ (Ext W) (fun _ h => h) (E'.out) ?_
          clear hK K
          clear hb E hSw hr HI HA HAL
          have E := E'
          have hSw := E.out
          have HI := HI'
          clear E' HI'
          have HN := HN'
          clear HN'
          have HA := HA'
          have HAL := HAL'
          clear HA' HAL'
          refine wpAnyH_tkS2 (i := 13) 25 (v := ?_) rfl rfl (by kernel_rfl) (by kernel_rfl) (by kernel_rfl) (by rfl) hSw (fun wq hwq => ?_) ?_
          rotate_left
          · (have hx := True.intro; go_simp <;> with_reducible rfl)
          simp only [List.setIfInBounds_toArray, List.set_cons_zero, List.set_cons_succ]
          refine wpAnyH_oneS2 (i := 15) rfl (by kernel_rfl) (by rfl) (fun K hK => ?_)
          refine wp_stS 35 6 A 0 35 #[.int .i64 m.now.kind, .int .i64 t.now.epoch, .slice a3 lm k3, .int .i64 t.now.pos, .int .i64 t.now.last, .slice a5 le k5] #[.int .i64 0, .int .i64 0, .slice none 0 0, .int .i64 0, .int .i64 0, .slice none 0 0] #[.int .i64 m.now.kind, .int .i64 t.now.epoch, .slice a3 lm k3, .int .i64 t.now.pos, .int .i64 t.now.last, .slice a5 le k5] _ _ rfl rfl rfl rfl (by kernel_rfl) rfl HA.out (by show 6 ≤ 6; omega) (by simp [Value.oneCell']) rfl ?_
          intro w9 hb9 hc9
          have hmv9 : ∀ w0 : World, Chg [A] w0 w9 → Mv w0 w9 [A] [A] := fun _ h => ⟨h, fun _ hg => .inl hg⟩
          have HI9 := Lib.hid (HI.out.mv (hmv9 _ hc9)).now
          have HN9 := Lib.hid (HN.out.mv (hmv9 _ hc9)).now
          have HB9 := Lib.hid hb9
          have E9 : Hid (Ext W w9) := hc9.below E.out E.out.size (fun g hg => by rw [List.mem_singleton.mp hg]; exact HAL.out)
          clear hb9 hc9 hmv9
          refine hK.out _ _ (Ext W) (fun _ h => h) (E9.out) ?_
          clear hK K
          refine wpAnyH_done (by kernel_rfl) ?_ _
          refine NoPanic.normal ?_
          have EXF := Lib.hid (Ext.trans HWB.out E9.out)
          refine hKK _ _ (Met.intro (hJJ _ _ ?_))
          (repeat apply Exists.intro)
          exact ⟨⟨A, a3, k3, a5, k5, rfl, HB9, HI9, HN9, EXF⟩, rfl⟩
      · skip
        go_simp
        have hba := below_one wx (.cells #[.int .i64 0, .int .i64 0, .slice none 0 0, .int .i64 0, .int .i64 0, .slice none 0 0] 35)
        have HA : Hid (Bx (wx.alloc (.cells #[.int .i64 0, .int .i64 0, .slice none 0 0, .int .i64 0, .int .i64 0, .slice none 0 0] 35)) wx.heap.size 35 #[.int .i64 0, .int .i64 0, .slice none 0 0, .int .i64 0, .int .i64 0, .slice none 0 0]) := bx_new8 _ _ _
        have HAL0 : Hid (W.heap.size ≤ wx.heap.size) := E.out.size
        have E' := Lib.hid (Ext.trans E.out hba)
        have HI' := Lib.hid (HI.out.mv (⟨Chg.mono (Chg.of_below hba) (fun g hg => absurd hg List.not_mem_nil), fun g hg => .inr (by rw [List.mem_singleton.mp hg]; exact Nat.le_refl _)⟩ : Mv wx (wx.alloc (.cells #[.int .i64 0, .int .i64 0, .slice none 0 0, .int .i64 0, .int .i64 0, .slice none 0 0] 35)) [] [wx.heap.size]))
        refine hK.out _ _ (Ext W) (fun _ h => h) (E'.out) ?_
        clear hK K
        clear hba E hSw HI
        have E := E'
        have hSw := E.out
        clear E'
        have HI := HI'
        clear HI'
        obtain ⟨A, hAe⟩ : ∃ A, A = wx.heap.size := ⟨_, rfl⟩
        rw [← hAe]
        have HAL : Hid (W.heap.size ≤ A) := by show _ ≤ _; rw [hAe]; exact HAL0.out
        rw [← hAe] at HA HI
        clear hAe HAL0
        generalize (wx.alloc (.cells #[.int .i64 0, .int .i64 0, .slice none 0 0, .int .i64 0, .int .i64 0, .slice none 0 0] 35)) = wa at *
        refine wpAnyH_oneS2 (i := 8) rfl (by kernel_rfl) (by rfl) (fun K hK => ?_)
        go_simp
        refine (stPos_any _ (HT.out.below E.out)).mono ?_
        rintro x wx ⟨rfl, hb⟩
        have HI' : Hid (Kp [A] wx fun x => IntsAt x a3 k3 t.now.mem) := HI.out.below hb
        have HA' := Lib.hid (HA.out.chg (gs := []) (Chg.of_below hb) (by simp))
        have HAL' := HAL
        have E' := Lib.hid (Ext.trans E.out hb)
        refine hK.out _ _ (Ext W) (fun _ h => h) (E'.out) ?_
        clear hK K
        clear hb E hSw HI HA HAL
        have E := E'
        have hSw := E.out
        have HI := HI'
        clear E' HI'
        have HA := HA'
        have HAL := HAL'
        clear HA' HAL'
        refine wpAnyH_oneS2 (i := 10) rfl (by kernel_rfl) (by rfl) (fun K hK => ?_)
        go_simp
        refine (stBase_any _ (HT.out.below E.out)).mono ?_
        rintro x wx ⟨rfl, hb⟩
        have HI' : Hid (Kp [A] wx fun x => IntsAt x a3 k3 t.now.mem) := HI.out.below hb
        have HA' := Lib.hid (HA.out.chg (gs := []) (Chg.of_below hb) (by simp))
        have HAL' := HAL
        have E' := Lib.hid (Ext.trans E.out hb)
        refine hK.out _ _ (Ext W) (fun _ h => h) (E'.out) ?_
        clear hK K
        clear hb E hSw HI HA HAL
        have E := E'
        have hSw := E.out
        have HI := HI'
        clear E' HI'
        have HA := HA'
        have HAL := HAL'
        clear HA' HAL'
        refine wpAnyH_oneS2 (i := 12) rfl (by kernel_rfl) (by rfl) (fun K hK => ?_)
        go_simp
        refine (stEntries_any _ (HT.out.below E.out) (by have := HEL.out; omega) HFR.out).mono ?_
        rintro x wx ⟨a5, k5, rfl, hr, hb⟩
        rw [HLE.out]
        have HN' : Hid (Kp [A] wx fun x => EnsAt x a5 k5 t.now.ents) := hr.kp HWE.out (fun g hg => by rw [List.mem_singleton.mp hg]; exact bx_lt HA.out)
        have HI' : Hid (Kp [A] wx fun x => IntsAt x a3 k3 t.now.mem) := HI.out.below hb
        have HA' := Lib.hid (HA.out.chg (gs := []) (Chg.of_below hb) (by simp))
        have HAL' := HAL
        have E' := Lib.hid (Ext.trans E.out hb)
        refine hK.out _ _ (Ext W) (fun _ h => h) (E'.out) ?_
        clear hK K
        clear hb E hSw hr HI HA HAL
        have E := E'
        have hSw := E.out
        have HI := HI'
        clear E' HI'
        have HN := HN'
        clear HN'
        have HA := HA'
        have HAL := HAL'
        clear HA' HAL'
        refine wpAnyH_tkS2 (i := 13) 25 (v := ?_) rfl rfl (by kernel_rfl) (by kernel_rfl) (by kernel_rfl) (by rfl) hSw (fun wq hwq => ?_) ?_
        rotate_left
        · (have hx := True.intro; go_simp <;> with_reducible rfl)
        simp only [List.setIfInBounds_toArray, List.set_cons_zero, List.set_cons_succ]
        refine wpAnyH_oneS2 (i := 15) rfl (by kernel_rfl) (by rfl) (fun K hK => ?_)
        refine wp_stS 35 6 A 0 35 #[.int .i64 m.now.kind, .int .i64 t.now.epoch, .slice a3 lm k3, .int .i64 t.now.pos, .int .i64 t.now.last, .slice a5 le k5] #[.int .i64 0, .int .i64 0, .slice none 0 0, .int .i64 0, .int .i64 0, .slice none 0 0] #[.int .i64 m.now.kind, .int .i64 t.now.epoch, .slice a3 lm k3, .int .i64 t.now.pos, .int .i64 t.now.last, .slice a5 le k5] _ _ rfl rfl rfl rfl (by kernel_rfl) rfl HA.out (by show 6 ≤ 6; omega) (by simp [Value.oneCell']) rfl ?_
        intro w9 hb9 hc9
        have hmv9 : ∀ w0 : World, Chg [A] w0 w9 → Mv w0 w9 [A] [A] := fun _ h => ⟨h, fun _ hg => .inl hg⟩
        have HI9 := Lib.hid (HI.out.mv (hmv9 _ hc9)).now
        have HN9 := Lib.hid (HN.out.mv (hmv9 _ hc9)).now
        have HB9 := Lib.hid hb9
        have E9 : Hid (Ext W w9) := hc9.below E.out E.out.size (fun g hg => by rw [List.mem_singleton.mp hg]; exact HAL.out)
        clear hb9 hc9 hmv9
        refine hK.out _ _ (Ext W) (fun _ h => h) (E9.out) ?_
        clear hK K
        refine wpAnyH_done (by kernel_rfl) ?_ _
        refine NoPanic.normal ?_
        have EXF := Lib.hid (Ext.trans HWB.out E9.out)
        refine hKK _ _ (Met.intro (hJJ _ _ ?_))
        (repeat apply Exists.intro)
        exact ⟨⟨A, a3, k3, a5, k5, rfl, HB9, HI9, HN9, EXF⟩, rfl⟩
    · skip
      go_simp
      have hba := below_one W (.cells #[.int .i64 0, .int .i64 0, .slice none 0 0, .int .i64 0, .int .i64 0, .slice none 0 0] 35)
      have HA : Hid (Bx (W.alloc (.cells #[.int .i64 0, .int .i64 0, .slice none 0 0, .int .i64 0, .int .i64 0, .slice none 0 0] 35)) W.heap.size 35 #[.int .i64 0, .int .i64 0, .slice none 0 0, .int .i64 0, .int .i64 0, .slice none 0 0]) := bx_new8 _ _ _
      have HAL0 : Hid (W.heap.size ≤ W.heap.size) := E.out.size
      have E' := Lib.hid (Ext.trans E.out hba)
      refine hK.out _ _ (Ext W) (fun _ h => h) (E'.out) ?_
      clear hK K
      clear hba E hSw
      have E := E'
      have hSw := E.out
      clear E'
      obtain ⟨A, hAe⟩ : ∃ A, A = W.heap.size := ⟨_, rfl⟩
      rw [← hAe]
      have HAL : Hid (W.heap.size ≤ A) := by show _ ≤ _; rw [hAe]; exact HAL0.out
      rw [← hAe] at HA
      clear hAe HAL0
      generalize (W.alloc (.cells #[.int .i64 0, .int .i64 0, .slice none 0 0, .int .i64 0, .int .i64 0, .slice none 0 0] 35)) = wa at *
      refine wpAnyH_oneS2 (i := 6) rfl (by kernel_rfl) (by rfl) (fun K hK => ?_)
      go_simp
      refine (stConf_any _ (HT.out.below E.out) (by have := HML.out; omega)).mono ?_
      rintro x wx ⟨a3, k3, rfl, hr, hb⟩
      rw [HLM.out]
      have HI' : Hid (Kp [A] wx fun x => IntsAt x a3 k3 t.now.mem) := kp_rob hr (fun g hg => .inl (by rw [List.mem_singleton.mp hg]; exact bx_lt HA.out)) (Nat.le_refl _)
      have HA' := Lib.hid (HA.out.chg (gs := []) (Chg.of_below hb) (by simp))
      have HAL' := HAL
      have E' := Lib.hid (Ext.trans E.out hb)
      refine hK.out _ _ (Ext W) (fun _ h => h) (E'.out) ?_
      clear hK K
      clear hb E hSw hr HA HAL
      have E := E'
      have hSw := E.out
      have HI := HI'
      clear E' HI'
      have HA := HA'
      have HAL := HAL'
      clear HA' HAL'
      refine wpAnyH_oneS2 (i := 8) rfl (by kernel_rfl) (by rfl) (fun K hK => ?_)
      go_simp
      refine (stPos_any _ (HT.out.below E.out)).mono ?_
      rintro x wx ⟨rfl, hb⟩
      have HI' : Hid (Kp [A] wx fun x => IntsAt x a3 k3 t.now.mem) := HI.out.below hb
      have HA' := Lib.hid (HA.out.chg (gs := []) (Chg.of_below hb) (by simp))
      have HAL' := HAL
      have E' := Lib.hid (Ext.trans E.out hb)
      refine hK.out _ _ (Ext W) (fun _ h => h) (E'.out) ?_
      clear hK K
      clear hb E hSw HI HA HAL
      have E := E'
      have hSw := E.out
      have HI := HI'
      clear E' HI'
      have HA := HA'
      have HAL := HAL'
      clear HA' HAL'
      refine wpAnyH_oneS2 (i := 10) rfl (by kernel_rfl) (by rfl) (fun K hK => ?_)
      go_simp
      refine (stBase_any _ (HT.out.below E.out)).mono ?_
      rintro x wx ⟨rfl, hb⟩
      have HI' : Hid (Kp [A] wx fun x => IntsAt x a3 k3 t.now.mem) := HI.out.below hb
      have HA' := Lib.hid (HA.out.chg (gs := []) (Chg.of_below hb) (by simp))
      have HAL' := HAL
      have E' := Lib.hid (Ext.trans E.out hb)
      refine hK.out _ _ (Ext W) (fun _ h => h) (E'.out) ?_
      clear hK K
      clear hb E hSw HI HA HAL
      have E := E'
      have hSw := E.out
      have HI := HI'
      clear E' HI'
      have HA := HA'
      have HAL := HAL'
      clear HA' HAL'
      refine wpAnyH_oneS2 (i := 12) rfl (by kernel_rfl) (by rfl) (fun K hK => ?_)
      go_simp
      refine (stEntries_any _ (HT.out.below E.out) (by have := HEL.out; omega) HFR.out).mono ?_
      rintro x wx ⟨a5, k5, rfl, hr, hb⟩
      rw [HLE.out]
      have HN' : Hid (Kp [A] wx fun x => EnsAt x a5 k5 t.now.ents) := hr.kp HWE.out (fun g hg => by rw [List.mem_singleton.mp hg]; exact bx_lt HA.out)
      have HI' : Hid (Kp [A] wx fun x => IntsAt x a3 k3 t.now.mem) := HI.out.below hb
      have HA' := Lib.hid (HA.out.chg (gs := []) (Chg.of_below hb) (by simp))
      have HAL' := HAL
      have E' := Lib.hid (Ext.trans E.out hb)
      refine hK.out _ _ (Ext W) (fun _ h => h) (E'.out) ?_
      clear hK K
      clear hb E hSw hr HI HA HAL
      have E := E'
      have hSw := E.out
      have HI := HI'
      clear E' HI'
      have HN := HN'
      clear HN'
      have HA := HA'
      have HAL := HAL'
      clear HA' HAL'
      refine wpAnyH_tkS2 (i := 13) 25 (v := ?_) rfl rfl (by kernel_rfl) (by kernel_rfl) (by kernel_rfl) (by rfl) hSw (fun wq hwq => ?_) ?_
      rotate_left
      · (have hx := True.intro; go_simp <;> with_reducible rfl)
      simp only [List.setIfInBounds_toArray, List.set_cons_zero, List.set_cons_succ]
      refine wpAnyH_oneS2 (i := 15) rfl (by kernel_rfl) (by rfl) (fun K hK => ?_)
      refine wp_stS 35 6 A 0 35 #[.int .i64 m.now.kind, .int .i64 t.now.epoch, .slice a3 lm k3, .int .i64 t.now.pos, .int .i64 t.now.last, .slice a5 le k5] #[.int .i64 0, .int .i64 0, .slice none 0 0, .int .i64 0, .int .i64 0, .slice none 0 0] #[.int .i64 m.now.kind, .int .i64 t.now.epoch, .slice a3 lm k3, .int .i64 t.now.pos, .int .i64 t.now.last, .slice a5 le k5] _ _ rfl rfl rfl rfl (by kernel_rfl) rfl HA.out (by show 6 ≤ 6; omega) (by simp [Value.oneCell']) rfl ?_
      intro w9 hb9 hc9
      have hmv9 : ∀ w0 : World, Chg [A] w0 w9 → Mv w0 w9 [A] [A] := fun _ h => ⟨h, fun _ hg => .inl hg⟩
      have HI9 := Lib.hid (HI.out.mv (hmv9 _ hc9)).now
      have HN9 := Lib.hid (HN.out.mv (hmv9 _ hc9)).now
      have HB9 := Lib.hid hb9
      have E9 : Hid (Ext W w9) := hc9.below E.out E.out.size (fun g hg => by rw [List.mem_singleton.mp hg]; exact HAL.out)
      clear hb9 hc9 hmv9
      refine hK.out _ _ (Ext W) (fun _ h => h) (E9.out) ?_
      clear hK K
      refine wpAnyH_done (by kernel_rfl) ?_ _
      refine NoPanic.normal ?_
      have EXF := Lib.hid (Ext.trans HWB.out E9.out)
      refine hKK _ _ (Met.intro (hJJ _ _ ?_))
      (repeat apply Exists.intro)
      exact ⟨⟨A, a3, k3, a5, k5, rfl, HB9, HI9, HN9, EXF⟩, rfl⟩
  case rest =>
  obtain ⟨A, a3, k3, a5, k5, rfl, HRB, HRI, HRE, HEX⟩ := hcut
  rcases hb with ⟨rfl, rfl⟩ | ⟨rfl, hd⟩
  · skip
    go_upto_region 2 with fail
    have HMO1 := Lib.hid (HMO.out.below HEX.out)
    obtain ⟨y2, z2, h1, h2, h3⟩ := HMO1.out
    have HMB := Lib.hid h1.now
    have HMR := Lib.hid h2.at_.now
    clear h1 h2 h3 HMO
    obtain ⟨lm2, hlm2⟩ : ∃ q, m.now.mem.length = q := ⟨_, rfl⟩
    obtain ⟨le2, hle2⟩ : ∃ q, m.now.ents.length = q := ⟨_, rfl⟩
    have HLM2 := Lib.hid hlm2
    have HLE2 := Lib.hid hle2
    have HT := Lib.hid (HT0.out.below HEX.out)
    have HR1 : Hid (RecAt wc a3 k3 a5 k5 { m.now with kind := m.now.kind }) := ⟨HRI.out, HRE.out, ⟨HMR.out.wf.kind, HF.out.wf.now.epoch, HF.out.wf.now.mem, HF.out.wf.now.pos, HF.out.wf.now.last, HF.out.wf.now.ents⟩⟩
    have HCM : Hid ((mcells y2 z2 m)[2]? = some (.slice y2.ma lm2 y2.mc) ∧ (mcells y2 z2 m)[5]? = some (.slice y2.ea le2 y2.ec)) := ⟨by rw [← hlm2]; rfl, by rw [← hle2]; rfl⟩
    clear hlm2 hle2
    refine wp_region_ext (by kernel_rfl) ?_
    have hbd : Below wc.heap.size wc wc.drew := Below.drew (Below.refl _ wc)
    have HRB1 := Lib.hid (HRB.out.chg (gs := []) (Chg.of_below hbd) (by simp))
    have HMB1 := Lib.hid (HMB.out.chg (gs := []) (Chg.of_below hbd) (by simp))
    have HMR1 := Lib.hid (HMR.out.below hbd)
    have HR2 := Lib.hid (HR1.out.below hbd)
    have HT1 := Lib.hid (HT.out.below hbd)
    have HMO := Lib.hid (HMO1.out.below hbd)
    have HEX1 := Lib.hid (HEX.out.drew)
    clear hbd HRB HMB HMR HR1 HT HMO1 HEX HRI HRE
    have HRB := HRB1
    have HMB := HMB1
    have HMR := HMR1
    have HT := HT1
    have HEX : Hid (Ext w wc.drew) := HEX1
    clear HRB1 HMB1 HMR1 HT1 HEX1
    generalize wc.drew = wd at *
    refine wpAnyH_tk (i := 0) 26 (v := ?_) rfl rfl (by kernel_rfl) (by kernel_rfl) (by kernel_rfl) (by rfl) (fun wq hwq => ?_) ?_
    rotate_left
    · (have hx := HRB.out.chg (gs := []) (Chg.of_below hwq) (by simp); have cc0 : wq.cell? ⟨_, 0, none⟩ = some (.int .i64 m.now.kind) := hx.cell 0 _ rfl; have cc1 : wq.cell? ⟨_, 1, none⟩ = some (.int .i64 m.now.epoch) := hx.cell 1 _ rfl; have cc2 : wq.cell? ⟨_, 2, none⟩ = some (.slice a3 lm k3) := hx.cell 2 _ rfl; have cc3 : wq.cell? ⟨_, 3, none⟩ = some (.int .i64 m.now.pos) := hx.cell 3 _ rfl; have cc4 : wq.cell? ⟨_, 4, none⟩ = some (.int .i64 m.now.last) := hx.cell 4 _ rfl; have cc5 : wq.cell? ⟨_, 5, none⟩ = some (.slice a5 le k5) := hx.cell 5 _ rfl; go_simp <;> with_reducible rfl)
    simp only [List.setIfInBounds_toArray, List.set_cons_zero, List.set_cons_succ]
    refine wpAnyH_tk (i := 1) 27 (v := ?_) rfl rfl (by kernel_rfl) (by kernel_rfl) (by kernel_rfl) (by rfl) (fun wq hwq => ?_) ?_
    rotate_left
    · (go_simp <;> with_reducible rfl)
    simp only [List.setIfInBounds_toArray, List.set_cons_zero, List.set_cons_succ]
    refine wpAnyH_tk (i := 2) 28 (v := ?_) rfl rfl (by kernel_rfl) (by kernel_rfl) (by kernel_rfl) (by rfl) (fun wq hwq => ?_) ?_
    rotate_left
    · (go_simp <;> with_reducible rfl)
    simp only [List.setIfInBounds_toArray, List.set_cons_zero, List.set_cons_succ]
    refine wpAnyH_tk (i := 3) 29 (v := ?_) rfl rfl (by kernel_rfl) (by kernel_rfl) (by kernel_rfl) (by rfl) (fun wq hwq => ?_) ?_
    rotate_left
    · (go_simp <;> with_reducible rfl)
    simp only [List.setIfInBounds_toArray, List.set_cons_zero, List.set_cons_succ]
    refine wpAnyH_tk (i := 4) 30 (v := ?_) rfl rfl (by kernel_rfl) (by kernel_rfl) (by kernel_rfl) (by rfl) (fun wq hwq => ?_) ?_
    rotate_left
    · (have hx := HMB.out.chg (gs := []) (Chg.of_below hwq) (by simp); have cc0 : wq.cell? ⟨_, 0, none⟩ = some (.int .i64 m.now.kind) := hx.cell 0 _ rfl; have cc1 : wq.cell? ⟨_, 1, none⟩ = some (.int .i64 m.now.epoch) := hx.cell 1 _ rfl; have cc2 : wq.cell? ⟨_, 2, none⟩ = some (.slice y2.ma lm2 y2.mc) := hx.cell 2 _ HCM.out.1; have cc3 : wq.cell? ⟨_, 3, none⟩ = some (.int .i64 m.now.pos) := hx.cell 3 _ rfl; have cc4 : wq.cell? ⟨_, 4, none⟩ = some (.int .i64 m.now.last) := hx.cell 4 _ rfl; have cc5 : wq.cell? ⟨_, 5, none⟩ = some (.slice y2.ea le2 y2.ec) := hx.cell 5 _ HCM.out.2; go_simp <;> with_reducible rfl)
    simp only [List.setIfInBounds_toArray, List.set_cons_zero, List.set_cons_succ]
    refine wpAnyH_one (i := 5) rfl (by kernel_rfl) (by rfl) (fun K hK => ?_)
    go_simp
    refine (sameRec_any a3 a5 k3 k5 lm le { m.now with kind := m.now.kind } y2.ma y2.ea y2.mc y2.ec lm2 le2 m.now _ HR2.out HLM.out HLE.out (HF.out.small _) HMR.out HLM2.out HLE2.out (HG.out.small m.now.kind)).mono ?_
    rintro x wx ⟨rfl, hb⟩
    have HT' := Lib.hid (HT.out.below hb)
    have HMB' := Lib.hid (HMB.out.chg (gs := []) (Chg.of_below hb) (by simp))
    have HMO' := Lib.hid (HMO.out.below hb)
    have HEX' := Lib.hid (Ext.trans HEX.out hb)
    rw [decide_eq_true (rfl : encR { m.now with kind := m.now.kind } = encR m.now)]
    refine hK.out _ _ hb ?_
    clear hK K
    clear hb HT HMB HMO HEX
    have HT := HT'
    have HMB := HMB'
    have HMO := HMO'
    have HEX := HEX'
    clear HT' HMB' HMO' HEX'
    refine wpAnyH_tk (i := 6) 32 (v := ?_) rfl rfl (by kernel_rfl) (by kernel_rfl) (by kernel_rfl) (by rfl) (fun wq hwq => ?_) ?_
    rotate_left
    · (go_simp <;> with_reducible rfl)
    simp only [List.setIfInBounds_toArray, List.set_cons_zero, List.set_cons_succ]
    refine wpAnyH_tk (i := 7) 33 (v := ?_) rfl rfl (by kernel_rfl) (by kernel_rfl) (by kernel_rfl) (by rfl) (fun wq hwq => ?_) ?_
    rotate_left
    · (go_simp <;> with_reducible rfl)
    simp only [List.setIfInBounds_toArray, List.set_cons_zero, List.set_cons_succ]
    refine wpAnyH_tk (i := 8) 34 (v := ?_) rfl rfl (by kernel_rfl) (by kernel_rfl) (by kernel_rfl) (by rfl) (fun wq hwq => ?_) ?_
    rotate_left
    · (go_simp <;> with_reducible rfl)
    simp only [List.setIfInBounds_toArray, List.set_cons_zero, List.set_cons_succ]
    refine wpAnyH_tk (i := 10) 36 (v := ?_) rfl rfl (by kernel_rfl) (by kernel_rfl) (by kernel_rfl) (by rfl) (fun wq hwq => ?_) ?_
    rotate_left
    · (go_simp <;> with_reducible rfl)
    simp only [List.setIfInBounds_toArray, List.set_cons_zero, List.set_cons_succ]
    refine wpAnyH_tk (i := 11) 37 (v := ?_) rfl rfl (by kernel_rfl) (by kernel_rfl) (by kernel_rfl) (by rfl) (fun wq hwq => ?_) ?_
    rotate_left
    · (go_simp <;> with_reducible rfl)
    simp only [List.setIfInBounds_toArray, List.set_cons_zero, List.set_cons_succ]
    refine wpAnyH_tk (i := 12) 38 (v := ?_) rfl rfl (by kernel_rfl) (by kernel_rfl) (by kernel_rfl) (by rfl) (fun wq hwq => ?_) ?_
    rotate_left
    · (go_simp <;> with_reducible rfl)
    simp only [List.setIfInBounds_toArray, List.set_cons_zero, List.set_cons_succ]
    refine wpAnyH_tk (i := 13) 39 (v := ?_) rfl rfl (by kernel_rfl) (by kernel_rfl) (by kernel_rfl) (by rfl) (fun wq hwq => ?_) ?_
    rotate_left
    · (have hx := cell_later hwq (HMB.out.cell 6 (.bool m.sealed) rfl); go_simp <;> with_reducible rfl)
    simp only [List.setIfInBounds_toArray, List.set_cons_zero, List.set_cons_succ]
    refine wpAnyH_one (i := 9) rfl (by kernel_rfl) (by rfl) (fun K hK => ?_)
    go_simp
    refine (stSealed_any _ HT.out).mono ?_
    rintro x wx ⟨rfl, hb⟩
    have HT' := Lib.hid (HT.out.below hb)
    have HMB' := Lib.hid (HMB.out.chg (gs := []) (Chg.of_below hb) (by simp))
    have HMO' := Lib.hid (HMO.out.below hb)
    have HEX' := Lib.hid (Ext.trans HEX.out hb)
    refine hK.out _ _ hb ?_
    clear hK K
    clear hb HT HMB HMO HEX
    have HT := HT'
    have HMB := HMB'
    have HMO := HMO'
    have HEX := HEX'
    clear HT' HMB' HMO' HEX'
    refine wpAnyH_tk (i := 14) 40 (v := ?_) rfl rfl (by kernel_rfl) (by kernel_rfl) (by kernel_rfl) (by rfl) (fun wq hwq => ?_) ?_
    rotate_left
    · (go_simp <;> with_reducible rfl)
    simp only [List.setIfInBounds_toArray, List.set_cons_zero, List.set_cons_succ]
    refine wpAnyH_tk (i := 15) 41 (v := ?_) rfl rfl (by kernel_rfl) (by kernel_rfl) (by kernel_rfl) (by rfl) (fun wq hwq => ?_) ?_
    rotate_left
    · (go_simp <;> with_reducible rfl)
    simp only [List.setIfInBounds_toArray, List.set_cons_zero, List.set_cons_succ]
    refine wpAnyH_tk (i := 16) 42 (v := ?_) rfl rfl (by kernel_rfl) (by kernel_rfl) (by kernel_rfl) (by rfl) (fun wq hwq => ?_) ?_
    rotate_left
    · (go_simp <;> with_reducible rfl)
    simp only [List.setIfInBounds_toArray, List.set_cons_zero, List.set_cons_succ]
    refine wpAnyH_tk (i := 17) 43 (v := ?_) rfl rfl (by kernel_rfl) (by kernel_rfl) (by kernel_rfl) (by rfl) (fun wq hwq => ?_) ?_
    rotate_left
    · (go_simp <;> with_reducible rfl)
    simp only [List.setIfInBounds_toArray, List.set_cons_zero, List.set_cons_succ]
    refine wpAnyH_tk (i := 19) 45 (v := ?_) rfl rfl (by kernel_rfl) (by kernel_rfl) (by kernel_rfl) (by rfl) (fun wq hwq => ?_) ?_
    rotate_left
    · (go_simp <;> with_reducible rfl)
    simp only [List.setIfInBounds_toArray, List.set_cons_zero, List.set_cons_succ]
    refine wpAnyH_tk (i := 20) 46 (v := ?_) rfl rfl (by kernel_rfl) (by kernel_rfl) (by kernel_rfl) (by rfl) (fun wq hwq => ?_) ?_
    rotate_left
    · (go_simp <;> with_reducible rfl)
    simp only [List.setIfInBounds_toArray, List.set_cons_zero, List.set_cons_succ]
    refine wpAnyH_tk (i := 21) 47 (v := ?_) rfl rfl (by kernel_rfl) (by kernel_rfl) (by kernel_rfl) (by rfl) (fun wq hwq => ?_) ?_
    rotate_left
    · (go_simp <;> with_reducible rfl)
    simp only [List.setIfInBounds_toArray, List.set_cons_zero, List.set_cons_succ]
    refine wpAnyH_tk (i := 22) 48 (v := ?_) rfl rfl (by kernel_rfl) (by kernel_rfl) (by kernel_rfl) (by rfl) (fun wq hwq => ?_) ?_
    rotate_left
    · (go_simp <;> with_reducible rfl)
    simp only [List.setIfInBounds_toArray, List.set_cons_zero, List.set_cons_succ]
    refine wpAnyH_tk (i := 23) 49 (v := ?_) rfl rfl (by kernel_rfl) (by kernel_rfl) (by kernel_rfl) (by rfl) (fun wq hwq => ?_) ?_
    rotate_left
    · (go_simp <;> with_reducible rfl)
    simp only [List.setIfInBounds_toArray, List.set_cons_zero, List.set_cons_succ]
    refine wpAnyH_tk (i := 24) 50 (v := ?_) rfl rfl (by kernel_rfl) (by kernel_rfl) (by kernel_rfl) (by rfl) (fun wq hwq => ?_) ?_
    rotate_left
    · (have hx := cell_later hwq (HMB.out.cell 8 (.int .i64 m.staged.epoch) rfl); go_simp <;> with_reducible rfl)
    simp only [List.setIfInBounds_toArray, List.set_cons_zero, List.set_cons_succ]
    refine wpAnyH_one (i := 18) rfl (by kernel_rfl) (by rfl) (fun K hK => ?_)
    go_simp
    refine (stStaged_any _ HT.out).mono ?_
    rintro x wx ⟨rfl, hb⟩
    have HT' := Lib.hid (HT.out.below hb)
    have HMB' := Lib.hid (HMB.out.chg (gs := []) (Chg.of_below hb) (by simp))
    have HMO' := Lib.hid (HMO.out.below hb)
    have HEX' := Lib.hid (Ext.trans HEX.out hb)
    refine hK.out _ _ hb ?_
    clear hK K
    clear hb HT HMB HMO HEX
    have HT := HT'
    have HMB := HMB'
    have HMO := HMO'
    have HEX := HEX'
    clear HT' HMB' HMO' HEX'
    refine wpAnyH_tk (i := 25) 51 (v := ?_) rfl rfl (by kernel_rfl) (by kernel_rfl) (by kernel_rfl) (by rfl) (fun wq hwq => ?_) ?_
    rotate_left
    · (go_simp <;> with_reducible rfl)
    simp only [List.setIfInBounds_toArray, List.set_cons_zero, List.set_cons_succ]
    refine wpAnyH_tk (i := 26) 52 (v := ?_) rfl rfl (by kernel_rfl) (by kernel_rfl) (by kernel_rfl) (by rfl) (fun wq hwq => ?_) ?_
    rotate_left
    · (go_simp <;> with_reducible rfl)
    simp only [List.setIfInBounds_toArray, List.set_cons_zero, List.set_cons_succ]
    refine wpAnyH_tk (i := 27) 53 (v := ?_) rfl rfl (by kernel_rfl) (by kernel_rfl) (by kernel_rfl) (by rfl) (fun wq hwq => ?_) ?_
    rotate_left
    · (go_simp <;> with_reducible rfl)
    simp only [List.setIfInBounds_toArray, List.set_cons_zero, List.set_cons_succ]
    refine wpAnyH_tk (i := 28) 54 (v := ?_) rfl rfl (by kernel_rfl) (by kernel_rfl) (by kernel_rfl) (by rfl) (fun wq hwq => ?_) ?_
    rotate_left
    · (go_simp <;> with_reducible rfl)
    simp only [List.setIfInBounds_toArray, List.set_cons_zero, List.set_cons_succ]
    refine wpAnyH_tk (i := 30) 56 (v := ?_) rfl rfl (by kernel_rfl) (by kernel_rfl) (by kernel_rfl) (by rfl) (fun wq hwq => ?_) ?_
    rotate_left
    · (go_simp <;> with_reducible rfl)
    simp only [List.setIfInBounds_toArray, List.set_cons_zero, List.set_cons_succ]
    refine wpAnyH_one (i := 29) rfl (by kernel_rfl) (by rfl) (fun K hK => ?_)
    go_simp
    refine (stLast_any _ HT.out (by have := HEL.out; omega)).mono ?_
    rintro x wx ⟨rfl, hb⟩
    have HT' := Lib.hid (HT.out.below hb)
    have HMB' := Lib.hid (HMB.out.chg (gs := []) (Chg.of_below hb) (by simp))
    have HMO' := Lib.hid (HMO.out.below hb)
    have HEX' := Lib.hid (Ext.trans HEX.out hb)
    refine hK.out _ _ hb ?_
    clear hK K
    clear hb HT HMB HMO HEX
    have HT := HT'
    have HMB := HMB'
    have HMO := HMO'
    have HEX := HEX'
    clear HT' HMB' HMO' HEX'
    refine wpAnyH_one (i := 31) rfl (by kernel_rfl) (by rfl) (fun K hK => ?_)
    go_simp
    refine (refLast_any HMO.out (by have := HG.out.ents; omega)).mono ?_
    rintro x _ ⟨rfl, rfl⟩
    have hb := Ext.refl wx
    have HT' := Lib.hid (HT.out.below hb)
    have HMB' := Lib.hid (HMB.out.chg (gs := []) (Chg.of_below hb) (by simp))
    have HMO' := Lib.hid (HMO.out.below hb)
    have HEX' := Lib.hid (Ext.trans HEX.out hb)
    refine hK.out _ _ hb ?_
    clear hK K
    clear hb HT HMB HMO HEX
    have HT := HT'
    have HMB := HMB'
    have HMO := HMO'
    have HEX := HEX'
    clear HT' HMB' HMO' HEX'
    refine wpAnyH_tk (i := 32) 58 (v := ?_) rfl rfl (by kernel_rfl) (by kernel_rfl) (by kernel_rfl) (by rfl) (fun wq hwq => ?_) ?_
    rotate_left
    · (go_simp <;> with_reducible rfl)
    simp only [List.setIfInBounds_toArray, List.set_cons_zero, List.set_cons_succ]
    refine wpAnyH_tk (i := 33) 59 (v := ?_) rfl rfl (by kernel_rfl) (by kernel_rfl) (by kernel_rfl) (by rfl) (fun wq hwq => ?_) ?_
    rotate_left
    · (go_simp <;> with_reducible rfl)
    simp only [List.setIfInBounds_toArray, List.set_cons_zero, List.set_cons_succ]
    refine wpAnyH_done (by kernel_rfl) ?_ _
    refine NoPanic.normal ?_
    clear HR2 HRB HMR HMB
    have HTW := HT
    have HMOW := HMO
    have HEXW := HEX
    clear HT HMO HEX
    go_wp2
    go_loopw [6] (fun i ws => ∃ k : Nat, k ≤ le2 ∧ i = .int .i64 k ∧ Hid (Ext wx ws)) (fun i _ => le2 - (intOf i).toNat)
    case atStart => exact ⟨0, Nat.zero_le _, rfl, Ext.refl _⟩
    case round =>
      obtain ⟨k, hk, rfl, HE⟩ := hrel
      obtain ⟨y3, z3, h1, h2, h3⟩ := HMOW.out.below HE.out
      have c5 : wr.cell? ⟨B, 5, none⟩ = some (.slice y3.ea le2 y3.ec) := h1.now.cell 5 _ (by rw [← HLE2.out]; rfl)
      have HEN : Hid (EnsAt wr y3.ea y3.ec m.now.ents) := h2.at_.now.ents
      clear h1 h2 h3
      have hle60 : le2 ≤ 60 := by rw [← HLE2.out]; exact HG.out.ents
      by_cases hlt : k < le2
      · obtain ⟨b, off, loc, c, e0, hc⟩ := HEN.out.el k (by rw [HLE2.out]; exact hlt)
        have HE0 := Lib.hid e0
        rw [e0] at c5
        have HC5 := Lib.hid c5
        have c0 := hc.c0
        obtain ⟨sq, hsq⟩ : ∃ q, (m.now.ents.getD k pe0).seq = q := ⟨_, rfl⟩
        rw [hsq] at c0
        have HSQ := Lib.hid hsq
        have j0 : (0 : Int) ≤ (k : Int) := by omega
        have j1 : (k : Int) < (le2 : Int) := by omega
        clear hc hsq e0
        go_wp2
        go_loopw [8, 9] (fun f q ws => ∃ (u v : Nat), u ≤ v ∧ v ≤ k ∧ f = .int .i64 v ∧ q = .int .i64 ((u : Int) - 1) ∧ Hid ((m.now.ents.getD v pe0).seq = sq) ∧ Hid (∀ p, u ≤ p → p < v → (m.now.ents.getD p pe0).seq ≠ sq) ∧ ws = wr) (fun _ q _ => (intOf q + 1).toNat)
        case atStart => exact ⟨k, k, Nat.le_refl _, Nat.le_refl _, rfl, by go_num, HSQ, fun p h1 h2 => by omega, rfl⟩
        case round =>
          obtain ⟨u, v, hu, hv, rfl, rfl, HF1, HF2, hws⟩ := hrel
          subst hws
          by_cases h0 : u = 0
          · subst h0
            clear c0
            go_wp2_with fail
            refine (stEntry_any sq _ (HTW.out.below HE.out) HG.out.frag).mono ?_
            rintro x w3 ⟨hcase, hb3⟩
            rcases hcase with ⟨hno, rfl⟩ | ⟨j, p, loc3, c3, hj, hp, hps, hpf, hseen, rfl⟩
            · exact absurd HF1.out (hno v (by rw [HLE2.out]; omega))
            · obtain rfl : j = v := by
                rcases Nat.lt_trichotomy j v with h | h | h
                · exact absurd (by rw [hp]; exact hps) (HF2.out j (Nat.zero_le _) h)
                · exact h
                · exact absurd HF1.out (hpf v h)
              obtain ⟨b2, off2, loc2, c2, eb2, hcv⟩ := HEN.out.el j (by rw [HLE2.out]; omega)
              rw [hp] at hcv
              have HPW : Hid (p.Wf) := by rw [← hp]; exact HEN.out.wf _ (getD_mem _ _ _ hj)
              have HPS : Hid (p.key.length ≤ 16 ∧ p.frag.length ≤ 256) := by rw [← hp]; exact HG.out.each _ (getD_mem _ _ _ hj)
              have hbl := below_one w3 (.cells #[.int .i64 p.seq, .int .i64 p.client, .int .i64 p.num, .int .i64 p.op, .string (strB p.key), .int .i64 p.size, .int .u32 (p.sum : Int), .slice loc3 p.frag.length c3] 41)
              have hb4 := hb3.trans (hbl.mono hb3.size)
              have HBE : Hid (Bx (w3.alloc (.cells #[.int .i64 p.seq, .int .i64 p.client, .int .i64 p.num, .int .i64 p.op, .string (strB p.key), .int .i64 p.size, .int .u32 (p.sum : Int), .slice loc3 p.frag.length c3] 41)) w3.heap.size 41 #[.int .i64 p.seq, .int .i64 p.client, .int .i64 p.num, .int .i64 p.op, .string (strB p.key), .int .i64 p.size, .int .u32 (p.sum : Int), .slice loc3 p.frag.length c3]) := bx_new8 _ _ _
              have HC4 : Hid ((w3.alloc (.cells #[.int .i64 p.seq, .int .i64 p.client, .int .i64 p.num, .int .i64 p.op, .string (strB p.key), .int .i64 p.size, .int .u32 (p.sum : Int), .slice loc3 p.frag.length c3] 41)).cell? ⟨B, 5, none⟩ = some (.slice (some ⟨b, off, none⟩) le2 y3.ec)) := cell_later hb4 HC5.out
              have HCV4 := Lib.hid (hcv.below hb4)
              have HSN4 := Lib.hid (hseen.below hbl)
              have HE4' := Lib.hid (Ext.trans HE.out hb4)
              obtain ⟨rfl, rfl⟩ : b2 = b ∧ off2 = off := by
                have h := HE0.out.symm.trans eb2
                injection h with h
                injection h with h1 h2
                exact ⟨h1.symm, h2.symm⟩
              have i0 : (0 : Int) ≤ (j : Int) := by omega
              have i1 : (j : Int) < (le2 : Int) := by omega
              clear hcv hseen hb3 hbl hb4 hp hps hpf hj eb2 c5 HF1 HF2
              go_upto_region 15 with fail
              generalize (w3.alloc (.cells #[.int .i64 p.seq, .int .i64 p.client, .int .i64 p.num, .int .i64 p.op, .string (strB p.key), .int .i64 p.size, .int .u32 (p.sum : Int), .slice loc3 p.frag.length c3] 41)) = w4 at *
              refine wp_region_ext (by kernel_rfl) ?_
              have hbd : Below w4.heap.size w4 w4.drew := Below.drew (Below.refl _ w4)
              have HBE5 := Lib.hid (HBE.out.chg (gs := []) (Chg.of_below hbd) (by simp))
              have HC54 := Lib.hid (cell_later hbd HC4.out)
              have HCV := Lib.hid (HCV4.out.below hbd)
              have HSN3 := Lib.hid (HSN4.out.below hbd)
              have HE4 := Lib.hid (Ext.trans HE4'.out hbd)
              clear hbd HBE HC4 HCV4 HSN4 HE4'
              have HBE := HBE5
              clear HBE5
              generalize w4.drew = wd4 at *
              refine wpAnyH_tk (i := 0) 104 (v := ?_) rfl rfl (by kernel_rfl) (by kernel_rfl) (by kernel_rfl) (by rfl) (fun wq hwq => ?_) ?_
              rotate_left
              · (go_simp <;> with_reducible rfl)
              simp only [List.setIfInBounds_toArray, List.set_cons_zero, List.set_cons_succ]
              refine wpAnyH_tk (i := 1) 105 (v := ?_) rfl rfl (by kernel_rfl) (by kernel_rfl) (by kernel_rfl) (by rfl) (fun wq hwq => ?_) ?_
              rotate_left
              · (go_simp <;> with_reducible rfl)
              simp only [List.setIfInBounds_toArray, List.set_cons_zero, List.set_cons_succ]
              refine wpAnyH_tk (i := 2) 106 (v := ?_) rfl rfl (by kernel_rfl) (by kernel_rfl) (by kernel_rfl) (by rfl) (fun wq hwq => ?_) ?_
              rotate_left
              · (go_simp <;> with_reducible rfl)
              simp only [List.setIfInBounds_toArray, List.set_cons_zero, List.set_cons_succ]
              refine wpAnyH_tk (i := 3) 107 (v := ?_) rfl rfl (by kernel_rfl) (by kernel_rfl) (by kernel_rfl) (by rfl) (fun wq hwq => ?_) ?_
              rotate_left
              · (have hx := HBE.out.chg (gs := []) (Chg.of_below hwq) (by simp); have cc0 : wq.cell? ⟨_, 0, none⟩ = some (.int .i64 p.seq) := hx.cell 0 _ rfl; have cc1 : wq.cell? ⟨_, 1, none⟩ = some (.int .i64 p.client) := hx.cell 1 _ rfl; have cc2 : wq.cell? ⟨_, 2, none⟩ = some (.int .i64 p.num) := hx.cell 2 _ rfl; have cc3 : wq.cell? ⟨_, 3, none⟩ = some (.int .i64 p.op) := hx.cell 3 _ rfl; have cc4 : wq.cell? ⟨_, 4, none⟩ = some (.string (strB p.key)) := hx.cell 4 _ rfl; have cc5 : wq.cell? ⟨_, 5, none⟩ = some (.int .i64 p.size) := hx.cell 5 _ rfl; have cc6 : wq.cell? ⟨_, 6, none⟩ = some (.int .u32 (p.sum : Int)) := hx.cell 6 _ rfl; have cc7 : wq.cell? ⟨_, 7, none⟩ = some (.slice loc3 p.frag.length c3) := hx.cell 7 _ rfl; go_simp <;> with_reducible rfl)
              simp only [List.setIfInBounds_toArray, List.set_cons_zero, List.set_cons_succ]
              refine wpAnyH_tk (i := 4) 108 (v := ?_) rfl rfl (by kernel_rfl) (by kernel_rfl) (by kernel_rfl) (by rfl) (fun wq hwq => ?_) ?_
              rotate_left
              · (go_simp <;> with_reducible rfl)
              simp only [List.setIfInBounds_toArray, List.set_cons_zero, List.set_cons_succ]
              refine wpAnyH_tk (i := 5) 109 (v := ?_) rfl rfl (by kernel_rfl) (by kernel_rfl) (by kernel_rfl) (by rfl) (fun wq hwq => ?_) ?_
              rotate_left
              · (go_simp <;> with_reducible rfl)
              simp only [List.setIfInBounds_toArray, List.set_cons_zero, List.set_cons_succ]
              refine wpAnyH_tk (i := 6) 110 (v := ?_) rfl rfl (by kernel_rfl) (by kernel_rfl) (by kernel_rfl) (by rfl) (fun wq hwq => ?_) ?_
              rotate_left
              · (go_simp <;> with_reducible rfl)
              simp only [List.setIfInBounds_toArray, List.set_cons_zero, List.set_cons_succ]
              refine wpAnyH_tk (i := 7) 111 (v := ?_) rfl rfl (by kernel_rfl) (by kernel_rfl) (by kernel_rfl) (by rfl) (fun wq hwq => ?_) ?_
              rotate_left
              · (go_simp <;> with_reducible rfl)
              simp only [List.setIfInBounds_toArray, List.set_cons_zero, List.set_cons_succ]
              refine wpAnyH_tk (i := 8) 112 (v := ?_) rfl rfl (by kernel_rfl) (by kernel_rfl) (by kernel_rfl) (by rfl) (fun wq hwq => ?_) ?_
              rotate_left
              · (have hx := cell_later hwq HC54.out; go_simp <;> with_reducible rfl)
              simp only [List.setIfInBounds_toArray, List.set_cons_zero, List.set_cons_succ]
              refine wpAnyH_tk (i := 9) 113 (v := ?_) rfl rfl (by kernel_rfl) (by kernel_rfl) (by kernel_rfl) (by rfl) (fun wq hwq => ?_) ?_
              rotate_left
              · (go_simp <;> with_reducible rfl)
              simp only [List.setIfInBounds_toArray, List.set_cons_zero, List.set_cons_succ]
              refine wpAnyH_tk (i := 10) 114 (v := ?_) rfl rfl (by kernel_rfl) (by kernel_rfl) (by kernel_rfl) (by rfl) (fun wq hwq => ?_) ?_
              rotate_left
              · (go_simp <;> with_reducible rfl)
              simp only [List.setIfInBounds_toArray, List.set_cons_zero, List.set_cons_succ]
              refine wpAnyH_tk (i := 11) 115 (v := ?_) rfl rfl (by kernel_rfl) (by kernel_rfl) (by kernel_rfl) (by rfl) (fun wq hwq => ?_) ?_
              rotate_left
              · (have hx := HCV.out.below hwq; have cc0 := hx.c0; have cc1 := hx.c1; have cc2 := hx.c2; have cc3 := hx.c3; have cc4 := hx.c4; have cc5 := hx.c5; have cc6 := hx.c6; have cc7 := hx.c7; go_simp <;> with_reducible rfl)
              simp only [List.setIfInBounds_toArray, List.set_cons_zero, List.set_cons_succ]
              refine wpAnyH_one (i := 12) rfl (by kernel_rfl) (by rfl) (fun K hK => ?_)
              go_simp
              refine (refSame_any p p loc3 loc2 c3 c2 _ HPW.out HPW.out HSN3.out HCV.out.seen (by have := HPS.out; omega) (by have := HPS.out; omega) (by have := HPS.out; omega) (by have := HPS.out; omega)).mono ?_
              rintro x w5 ⟨rfl, hb5⟩
              rw [decide_eq_true (rfl : encE p = encE p)]
              have HE5 := Lib.hid (Ext.trans HE4.out hb5)
              refine hK.out _ _ hb5 ?_
              clear hK K
              clear hb5
              refine wpAnyH_tk (i := 13) 117 (v := ?_) rfl rfl (by kernel_rfl) (by kernel_rfl) (by kernel_rfl) (by rfl) (fun wq hwq => ?_) ?_
              rotate_left
              · (go_simp <;> with_reducible rfl)
              simp only [List.setIfInBounds_toArray, List.set_cons_zero, List.set_cons_succ]
              refine wpAnyH_tk (i := 14) 118 (v := ?_) rfl rfl (by kernel_rfl) (by kernel_rfl) (by kernel_rfl) (by rfl) (fun wq hwq => ?_) ?_
              rotate_left
              · (go_simp <;> with_reducible rfl)
              simp only [List.setIfInBounds_toArray, List.set_cons_zero, List.set_cons_succ]
              refine wpAnyH_done (by kernel_rfl) ?_ _
              refine NoPanic.normal ?_
              go_wp2
              go_roundw
              case rel => exact ⟨k + 1, by omega, by go_num, HE5⟩
              case measure => simp [intOf]; omega
          · obtain ⟨j, rfl⟩ : ∃ j, u = j + 1 := ⟨u - 1, by omega⟩
            have e1 : ((j + 1 : Nat) : Int) - 1 = (j : Int) := by omega
            rw [e1]
            obtain ⟨b2, off2, loc2, c2, eb2, hcv⟩ := HEN.out.el j (by rw [HLE2.out]; omega)
            obtain ⟨rfl, rfl⟩ : b2 = b ∧ off2 = off := by
              have h := HE0.out.symm.trans eb2
              injection h with h
              injection h with h1 h2
              exact ⟨h1.symm, h2.symm⟩
            have x0 := hcv.c0
            have i0 : (0 : Int) ≤ (j : Int) := by omega
            have i1 : (j : Int) < (le2 : Int) := by omega
            have HNX : Hid ((m.now.ents.getD j pe0).seq ≠ sq → ∀ p, j ≤ p → p < v → (m.now.ents.getD p pe0).seq ≠ sq) := fun hne p hp1 hp2 => by
              by_cases e : p = j
              · rw [e]; exact hne
              · exact HF2.out p (by omega) hp2
            obtain ⟨sj, hsj⟩ : ∃ q, (m.now.ents.getD j pe0).seq = q := ⟨_, rfl⟩
            rw [hsj] at x0 HNX
            have HSJ := Lib.hid hsj
            clear hcv eb2 hsj h0 e1
            by_cases hq : sj = sq
            · have HQ := Lib.hid hq
              have d : (sj == sq) = true := by simp [hq]
              clear hq
              go_wp2
              go_roundw
              case rel => exact ⟨j, j, Nat.le_refl _, by omega, by go_num, by go_num, (by show _ = _; rw [HSJ.out]; exact HQ.out), fun p h1 h2 => by omega, trivial⟩
              case measure => simp [intOf]
            · have HQ := Lib.hid (HNX.out hq)
              have d : (sj == sq) = false := by simp [hq]
              clear hq
              go_wp2
              go_roundw
              case rel => exact ⟨j, v, by omega, hv, rfl, by go_num, HF1, HQ, trivial⟩
              case measure => simp [intOf]
      · obtain rfl : k = le2 := by omega
        have HFIN := Lib.hid (Ext.trans HEXW.out HE.out)
        go_wp2
        go_ret
        exact ⟨rfl, HFIN.out⟩
  · skip
    go_upto_region 2 with fail
    have HMO1 := Lib.hid (HMO.out.below HEX.out)
    obtain ⟨y2, z2, h1, h2, h3⟩ := HMO1.out
    have HMB := Lib.hid h1.now
    have HMR := Lib.hid h2.at_.now
    clear h1 h2 h3 HMO
    obtain ⟨lm2, hlm2⟩ : ∃ q, m.now.mem.length = q := ⟨_, rfl⟩
    obtain ⟨le2, hle2⟩ : ∃ q, m.now.ents.length = q := ⟨_, rfl⟩
    have HLM2 := Lib.hid hlm2
    have HLE2 := Lib.hid hle2
    have HT := Lib.hid (HT0.out.below HEX.out)
    have HR1 : Hid (RecAt wc a3 k3 a5 k5 { t.now with kind := m.now.kind }) := ⟨HRI.out, HRE.out, ⟨HMR.out.wf.kind, HF.out.wf.now.epoch, HF.out.wf.now.mem, HF.out.wf.now.pos, HF.out.wf.now.last, HF.out.wf.now.ents⟩⟩
    have HCM : Hid ((mcells y2 z2 m)[2]? = some (.slice y2.ma lm2 y2.mc) ∧ (mcells y2 z2 m)[5]? = some (.slice y2.ea le2 y2.ec)) := ⟨by rw [← hlm2]; rfl, by rw [← hle2]; rfl⟩
    clear hlm2 hle2
    refine wp_region_ext (by kernel_rfl) ?_
    have hbd : Below wc.heap.size wc wc.drew := Below.drew (Below.refl _ wc)
    have HRB1 := Lib.hid (HRB.out.chg (gs := []) (Chg.of_below hbd) (by simp))
    have HMB1 := Lib.hid (HMB.out.chg (gs := []) (Chg.of_below hbd) (by simp))
    have HMR1 := Lib.hid (HMR.out.below hbd)
    have HR2 := Lib.hid (HR1.out.below hbd)
    have HT1 := Lib.hid (HT.out.below hbd)
    have HMO := Lib.hid (HMO1.out.below hbd)
    have HEX1 := Lib.hid (HEX.out.drew)
    clear hbd HRB HMB HMR HR1 HT HMO1 HEX HRI HRE
    have HRB := HRB1
    have HMB := HMB1
    have HMR := HMR1
    have HT := HT1
    have HEX : Hid (Ext w wc.drew) := HEX1
    clear HRB1 HMB1 HMR1 HT1 HEX1
    generalize wc.drew = wd at *
    by_cases hq : encR { t.now with kind := m.now.kind } = encR m.now
    · have hqt := decide_eq_true hq
      have HINJ := Lib.hid (encR_inj HR2.out.wf HMR.out.wf (by have := HF.out.mem; show t.now.mem.length ≤ _; omega) (by have := HG.out.mem; omega) (by have := HF.out.ents; show t.now.ents.length ≤ _; omega) (by have := HG.out.ents; omega) hq)
      have hq1 : t.now.epoch = m.now.epoch := HINJ.out.1
      have hq2 : t.now.mem = m.now.mem → t.now.ents.length = m.now.ents.length := HINJ.out.2
      have HD2 : Hid (t.sealed ≠ m.sealed ∨ (t.sealed = m.sealed ∧ t.staged.epoch ≠ m.staged.epoch)) := by
        show _ ∨ _
        rcases hd with h | h | h | h
        · exact absurd hq1 h
        · exact absurd (hq2 h.1) h.2
        · exact .inl h
        · by_cases hs : t.sealed = m.sealed
          · exact .inr ⟨hs, h⟩
          · exact .inl hs
      clear hq1 hq2 hd hq HINJ
      rcases HD2.out with hs | ⟨hs, he⟩
      · have HSN := Lib.hid hs
        clear hs
        refine wpAnyH_tk (i := 0) 26 (v := ?_) rfl rfl (by kernel_rfl) (by kernel_rfl) (by kernel_rfl) (by rfl) (fun wq hwq => ?_) ?_
        rotate_left
        · (have hx := HRB.out.chg (gs := []) (Chg.of_below hwq) (by simp); have cc0 : wq.cell? ⟨_, 0, none⟩ = some (.int .i64 m.now.kind) := hx.cell 0 _ rfl; have cc1 : wq.cell? ⟨_, 1, none⟩ = some (.int .i64 t.now.epoch) := hx.cell 1 _ rfl; have cc2 : wq.cell? ⟨_, 2, none⟩ = some (.slice a3 lm k3) := hx.cell 2 _ rfl; have cc3 : wq.cell? ⟨_, 3, none⟩ = some (.int .i64 t.now.pos) := hx.cell 3 _ rfl; have cc4 : wq.cell? ⟨_, 4, none⟩ = some (.int .i64 t.now.last) := hx.cell 4 _ rfl; have cc5 : wq.cell? ⟨_, 5, none⟩ = some (.slice a5 le k5) := hx.cell 5 _ rfl; go_simp <;> with_reducible rfl)
        simp only [List.setIfInBounds_toArray, List.set_cons_zero, List.set_cons_succ]
        refine wpAnyH_tk (i := 1) 27 (v := ?_) rfl rfl (by kernel_rfl) (by kernel_rfl) (by kernel_rfl) (by rfl) (fun wq hwq => ?_) ?_
        rotate_left
        · (go_simp <;> with_reducible rfl)
        simp only [List.setIfInBounds_toArray, List.set_cons_zero, List.set_cons_succ]
        refine wpAnyH_tk (i := 2) 28 (v := ?_) rfl rfl (by kernel_rfl) (by kernel_rfl) (by kernel_rfl) (by rfl) (fun wq hwq => ?_) ?_
        rotate_left
        · (go_simp <;> with_reducible rfl)
        simp only [List.setIfInBounds_toArray, List.set_cons_zero, List.set_cons_succ]
        refine wpAnyH_tk (i := 3) 29 (v := ?_) rfl rfl (by kernel_rfl) (by kernel_rfl) (by kernel_rfl) (by rfl) (fun wq hwq => ?_) ?_
        rotate_left
        · (go_simp <;> with_reducible rfl)
        simp only [List.setIfInBounds_toArray, List.set_cons_zero, List.set_cons_succ]
        refine wpAnyH_tk (i := 4) 30 (v := ?_) rfl rfl (by kernel_rfl) (by kernel_rfl) (by kernel_rfl) (by rfl) (fun wq hwq => ?_) ?_
        rotate_left
        · (have hx := HMB.out.chg (gs := []) (Chg.of_below hwq) (by simp); have cc0 : wq.cell? ⟨_, 0, none⟩ = some (.int .i64 m.now.kind) := hx.cell 0 _ rfl; have cc1 : wq.cell? ⟨_, 1, none⟩ = some (.int .i64 m.now.epoch) := hx.cell 1 _ rfl; have cc2 : wq.cell? ⟨_, 2, none⟩ = some (.slice y2.ma lm2 y2.mc) := hx.cell 2 _ HCM.out.1; have cc3 : wq.cell? ⟨_, 3, none⟩ = some (.int .i64 m.now.pos) := hx.cell 3 _ rfl; have cc4 : wq.cell? ⟨_, 4, none⟩ = some (.int .i64 m.now.last) := hx.cell 4 _ rfl; have cc5 : wq.cell? ⟨_, 5, none⟩ = some (.slice y2.ea le2 y2.ec) := hx.cell 5 _ HCM.out.2; go_simp <;> with_reducible rfl)
        simp only [List.setIfInBounds_toArray, List.set_cons_zero, List.set_cons_succ]
        refine wpAnyH_one (i := 5) rfl (by kernel_rfl) (by rfl) (fun K hK => ?_)
        go_simp
        refine (sameRec_any a3 a5 k3 k5 lm le { t.now with kind := m.now.kind } y2.ma y2.ea y2.mc y2.ec lm2 le2 m.now _ HR2.out HLM.out HLE.out (HF.out.small _) HMR.out HLM2.out HLE2.out (HG.out.small m.now.kind)).mono ?_
        rintro x wx ⟨rfl, hb⟩
        have HT' := Lib.hid (HT.out.below hb)
        have HMB' := Lib.hid (HMB.out.chg (gs := []) (Chg.of_below hb) (by simp))
        have HMO' := Lib.hid (HMO.out.below hb)
        have HEX' := Lib.hid (Ext.trans HEX.out hb)
        rw [hqt]
        refine hK.out _ _ hb ?_
        clear hK K
        clear hb HT HMB HMO HEX
        have HT := HT'
        have HMB := HMB'
        have HMO := HMO'
        have HEX := HEX'
        clear HT' HMB' HMO' HEX'
        refine wpAnyH_tk (i := 6) 32 (v := ?_) rfl rfl (by kernel_rfl) (by kernel_rfl) (by kernel_rfl) (by rfl) (fun wq hwq => ?_) ?_
        rotate_left
        · (go_simp <;> with_reducible rfl)
        simp only [List.setIfInBounds_toArray, List.set_cons_zero, List.set_cons_succ]
        refine wpAnyH_tk (i := 7) 33 (v := ?_) rfl rfl (by kernel_rfl) (by kernel_rfl) (by kernel_rfl) (by rfl) (fun wq hwq => ?_) ?_
        rotate_left
        · (go_simp <;> with_reducible rfl)
        simp only [List.setIfInBounds_toArray, List.set_cons_zero, List.set_cons_succ]
        refine wpAnyH_tk (i := 8) 34 (v := ?_) rfl rfl (by kernel_rfl) (by kernel_rfl) (by kernel_rfl) (by rfl) (fun wq hwq => ?_) ?_
        rotate_left
        · (go_simp <;> with_reducible rfl)
        simp only [List.setIfInBounds_toArray, List.set_cons_zero, List.set_cons_succ]
        refine wpAnyH_tk (i := 10) 36 (v := ?_) rfl rfl (by kernel_rfl) (by kernel_rfl) (by kernel_rfl) (by rfl) (fun wq hwq => ?_) ?_
        rotate_left
        · (go_simp <;> with_reducible rfl)
        simp only [List.setIfInBounds_toArray, List.set_cons_zero, List.set_cons_succ]
        refine wpAnyH_tk (i := 11) 37 (v := ?_) rfl rfl (by kernel_rfl) (by kernel_rfl) (by kernel_rfl) (by rfl) (fun wq hwq => ?_) ?_
        rotate_left
        · (go_simp <;> with_reducible rfl)
        simp only [List.setIfInBounds_toArray, List.set_cons_zero, List.set_cons_succ]
        refine wpAnyH_tk (i := 12) 38 (v := ?_) rfl rfl (by kernel_rfl) (by kernel_rfl) (by kernel_rfl) (by rfl) (fun wq hwq => ?_) ?_
        rotate_left
        · (go_simp <;> with_reducible rfl)
        simp only [List.setIfInBounds_toArray, List.set_cons_zero, List.set_cons_succ]
        refine wpAnyH_tk (i := 13) 39 (v := ?_) rfl rfl (by kernel_rfl) (by kernel_rfl) (by kernel_rfl) (by rfl) (fun wq hwq => ?_) ?_
        rotate_left
        · (have hx := cell_later hwq (HMB.out.cell 6 (.bool m.sealed) rfl); go_simp <;> with_reducible rfl)
        simp only [List.setIfInBounds_toArray, List.set_cons_zero, List.set_cons_succ]
        refine wpAnyH_one (i := 9) rfl (by kernel_rfl) (by rfl) (fun K hK => ?_)
        go_simp
        refine (stSealed_any _ HT.out).mono ?_
        rintro x wx ⟨rfl, hb⟩
        have HT' := Lib.hid (HT.out.below hb)
        have HMB' := Lib.hid (HMB.out.chg (gs := []) (Chg.of_below hb) (by simp))
        have HMO' := Lib.hid (HMO.out.below hb)
        have HEX' := Lib.hid (Ext.trans HEX.out hb)
        refine hK.out _ _ hb ?_
        clear hK K
        clear hb HT HMB HMO HEX
        have HT := HT'
        have HMB := HMB'
        have HMO := HMO'
        have HEX := HEX'
        clear HT' HMB' HMO' HEX'
        refine wpAnyH_tk (i := 14) 40 (v := .bool true) rfl rfl (by kernel_rfl) (by kernel_rfl) (by kernel_rfl) (by rfl) (fun wq hwq => ?_) ?_
        · go_simp
          have hsn := HSN.out
          revert hsn
          cases t.sealed <;> cases m.sealed <;> simp
        simp only [List.setIfInBounds_toArray, List.set_cons_zero, List.set_cons_succ]
        refine wpAnyH_tk (i := 15) 41 (v := ?_) rfl rfl (by kernel_rfl) (by kernel_rfl) (by kernel_rfl) (by rfl) (fun wq hwq => ?_) ?_
        rotate_left
        · (go_simp <;> with_reducible rfl)
        simp only [List.setIfInBounds_toArray, List.set_cons_zero, List.set_cons_succ]
        refine wpAnyH_tk (i := 16) 42 (v := ?_) rfl rfl (by kernel_rfl) (by kernel_rfl) (by kernel_rfl) (by rfl) (fun wq hwq => ?_) ?_
        rotate_left
        · (go_simp <;> with_reducible rfl)
        simp only [List.setIfInBounds_toArray, List.set_cons_zero, List.set_cons_succ]
        refine wpAnyH_not (i := 17) 43 rfl rfl (by kernel_rfl) (by kernel_rfl) (by kernel_rfl) (by rfl) ?_
        simp only [List.setIfInBounds_toArray, List.set_cons_zero, List.set_cons_succ]
        refine wpAnyH_not (i := 19) 45 rfl rfl (by kernel_rfl) (by kernel_rfl) (by kernel_rfl) (by rfl) ?_
        simp only [List.setIfInBounds_toArray, List.set_cons_zero, List.set_cons_succ]
        refine wpAnyH_not (i := 20) 46 rfl rfl (by kernel_rfl) (by kernel_rfl) (by kernel_rfl) (by rfl) ?_
        simp only [List.setIfInBounds_toArray, List.set_cons_zero, List.set_cons_succ]
        refine wpAnyH_not (i := 21) 47 rfl rfl (by kernel_rfl) (by kernel_rfl) (by kernel_rfl) (by rfl) ?_
        simp only [List.setIfInBounds_toArray, List.set_cons_zero, List.set_cons_succ]
        refine wpAnyH_not (i := 22) 48 rfl rfl (by kernel_rfl) (by kernel_rfl) (by kernel_rfl) (by rfl) ?_
        simp only [List.setIfInBounds_toArray, List.set_cons_zero, List.set_cons_succ]
        refine wpAnyH_not (i := 23) 49 rfl rfl (by kernel_rfl) (by kernel_rfl) (by kernel_rfl) (by rfl) ?_
        simp only [List.setIfInBounds_toArray, List.set_cons_zero, List.set_cons_succ]
        refine wpAnyH_not (i := 24) 50 rfl rfl (by kernel_rfl) (by kernel_rfl) (by kernel_rfl) (by rfl) ?_
        simp only [List.setIfInBounds_toArray, List.set_cons_zero, List.set_cons_succ]
        refine wpAnyH_not (i := 18) 44 rfl rfl (by kernel_rfl) (by kernel_rfl) (by kernel_rfl) (by rfl) ?_
        simp only [List.setIfInBounds_toArray, List.set_cons_zero, List.set_cons_succ]
        refine wpAnyH_not (i := 25) 51 rfl rfl (by kernel_rfl) (by kernel_rfl) (by kernel_rfl) (by rfl) ?_
        simp only [List.setIfInBounds_toArray, List.set_cons_zero, List.set_cons_succ]
        refine wpAnyH_tk (i := 26) 52 (v := ?_) rfl rfl (by kernel_rfl) (by kernel_rfl) (by kernel_rfl) (by rfl) (fun wq hwq => ?_) ?_
        rotate_left
        · (go_simp <;> with_reducible rfl)
        simp only [List.setIfInBounds_toArray, List.set_cons_zero, List.set_cons_succ]
        refine wpAnyH_tk (i := 27) 53 (v := ?_) rfl rfl (by kernel_rfl) (by kernel_rfl) (by kernel_rfl) (by rfl) (fun wq hwq => ?_) ?_
        rotate_left
        · (go_simp <;> with_reducible rfl)
        simp only [List.setIfInBounds_toArray, List.set_cons_zero, List.set_cons_succ]
        refine wpAnyH_not (i := 28) 54 rfl rfl (by kernel_rfl) (by kernel_rfl) (by kernel_rfl) (by rfl) ?_
        simp only [List.setIfInBounds_toArray, List.set_cons_zero, List.set_cons_succ]
        refine wpAnyH_not (i := 30) 56 rfl rfl (by kernel_rfl) (by kernel_rfl) (by kernel_rfl) (by rfl) ?_
        simp only [List.setIfInBounds_toArray, List.set_cons_zero, List.set_cons_succ]
        refine wpAnyH_not (i := 29) 55 rfl rfl (by kernel_rfl) (by kernel_rfl) (by kernel_rfl) (by rfl) ?_
        simp only [List.setIfInBounds_toArray, List.set_cons_zero, List.set_cons_succ]
        refine wpAnyH_not (i := 31) 57 rfl rfl (by kernel_rfl) (by kernel_rfl) (by kernel_rfl) (by rfl) ?_
        simp only [List.setIfInBounds_toArray, List.set_cons_zero, List.set_cons_succ]
        refine wpAnyH_not (i := 32) 58 rfl rfl (by kernel_rfl) (by kernel_rfl) (by kernel_rfl) (by rfl) ?_
        simp only [List.setIfInBounds_toArray, List.set_cons_zero, List.set_cons_succ]
        refine wpAnyH_tk (i := 33) 59 (v := ?_) rfl rfl (by kernel_rfl) (by kernel_rfl) (by kernel_rfl) (by rfl) (fun wq hwq => ?_) ?_
        rotate_left
        · (go_simp <;> with_reducible rfl)
        simp only [List.setIfInBounds_toArray, List.set_cons_zero, List.set_cons_succ]
        refine wpAnyH_done (by kernel_rfl) ?_ _
        refine NoPanic.normal ?_
        go_wp2
        go_ret
        exact ⟨rfl, HEX.out⟩
      · have HSN := Lib.hid hs
        have f2 : (t.staged.epoch != m.staged.epoch) = true := by simp [he]
        clear hs he
        refine wpAnyH_tk (i := 0) 26 (v := ?_) rfl rfl (by kernel_rfl) (by kernel_rfl) (by kernel_rfl) (by rfl) (fun wq hwq => ?_) ?_
        rotate_left
        · (have hx := HRB.out.chg (gs := []) (Chg.of_below hwq) (by simp); have cc0 : wq.cell? ⟨_, 0, none⟩ = some (.int .i64 m.now.kind) := hx.cell 0 _ rfl; have cc1 : wq.cell? ⟨_, 1, none⟩ = some (.int .i64 t.now.epoch) := hx.cell 1 _ rfl; have cc2 : wq.cell? ⟨_, 2, none⟩ = some (.slice a3 lm k3) := hx.cell 2 _ rfl; have cc3 : wq.cell? ⟨_, 3, none⟩ = some (.int .i64 t.now.pos) := hx.cell 3 _ rfl; have cc4 : wq.cell? ⟨_, 4, none⟩ = some (.int .i64 t.now.last) := hx.cell 4 _ rfl; have cc5 : wq.cell? ⟨_, 5, none⟩ = some (.slice a5 le k5) := hx.cell 5 _ rfl; go_simp <;> with_reducible rfl)
        simp only [List.setIfInBounds_toArray, List.set_cons_zero, List.set_cons_succ]
        refine wpAnyH_tk (i := 1) 27 (v := ?_) rfl rfl (by kernel_rfl) (by kernel_rfl) (by kernel_rfl) (by rfl) (fun wq hwq => ?_) ?_
        rotate_left
        · (go_simp <;> with_reducible rfl)
        simp only [List.setIfInBounds_toArray, List.set_cons_zero, List.set_cons_succ]
        refine wpAnyH_tk (i := 2) 28 (v := ?_) rfl rfl (by kernel_rfl) (by kernel_rfl) (by kernel_rfl) (by rfl) (fun wq hwq => ?_) ?_
        rotate_left
        · (go_simp <;> with_reducible rfl)
        simp only [List.setIfInBounds_toArray, List.set_cons_zero, List.set_cons_succ]
        refine wpAnyH_tk (i := 3) 29 (v := ?_) rfl rfl (by kernel_rfl) (by kernel_rfl) (by kernel_rfl) (by rfl) (fun wq hwq => ?_) ?_
        rotate_left
        · (go_simp <;> with_reducible rfl)
        simp only [List.setIfInBounds_toArray, List.set_cons_zero, List.set_cons_succ]
        refine wpAnyH_tk (i := 4) 30 (v := ?_) rfl rfl (by kernel_rfl) (by kernel_rfl) (by kernel_rfl) (by rfl) (fun wq hwq => ?_) ?_
        rotate_left
        · (have hx := HMB.out.chg (gs := []) (Chg.of_below hwq) (by simp); have cc0 : wq.cell? ⟨_, 0, none⟩ = some (.int .i64 m.now.kind) := hx.cell 0 _ rfl; have cc1 : wq.cell? ⟨_, 1, none⟩ = some (.int .i64 m.now.epoch) := hx.cell 1 _ rfl; have cc2 : wq.cell? ⟨_, 2, none⟩ = some (.slice y2.ma lm2 y2.mc) := hx.cell 2 _ HCM.out.1; have cc3 : wq.cell? ⟨_, 3, none⟩ = some (.int .i64 m.now.pos) := hx.cell 3 _ rfl; have cc4 : wq.cell? ⟨_, 4, none⟩ = some (.int .i64 m.now.last) := hx.cell 4 _ rfl; have cc5 : wq.cell? ⟨_, 5, none⟩ = some (.slice y2.ea le2 y2.ec) := hx.cell 5 _ HCM.out.2; go_simp <;> with_reducible rfl)
        simp only [List.setIfInBounds_toArray, List.set_cons_zero, List.set_cons_succ]
        refine wpAnyH_one (i := 5) rfl (by kernel_rfl) (by rfl) (fun K hK => ?_)
        go_simp
        refine (sameRec_any a3 a5 k3 k5 lm le { t.now with kind := m.now.kind } y2.ma y2.ea y2.mc y2.ec lm2 le2 m.now _ HR2.out HLM.out HLE.out (HF.out.small _) HMR.out HLM2.out HLE2.out (HG.out.small m.now.kind)).mono ?_
        rintro x wx ⟨rfl, hb⟩
        have HT' := Lib.hid (HT.out.below hb)
        have HMB' := Lib.hid (HMB.out.chg (gs := []) (Chg.of_below hb) (by simp))
        have HMO' := Lib.hid (HMO.out.below hb)
        have HEX' := Lib.hid (Ext.trans HEX.out hb)
        rw [hqt]
        refine hK.out _ _ hb ?_
        clear hK K
        clear hb HT HMB HMO HEX
        have HT := HT'
        have HMB := HMB'
        have HMO := HMO'
        have HEX := HEX'
        clear HT' HMB' HMO' HEX'
        refine wpAnyH_tk (i := 6) 32 (v := ?_) rfl rfl (by kernel_rfl) (by kernel_rfl) (by kernel_rfl) (by rfl) (fun wq hwq => ?_) ?_
        rotate_left
        · (go_simp <;> with_reducible rfl)
        simp only [List.setIfInBounds_toArray, List.set_cons_zero, List.set_cons_succ]
        refine wpAnyH_tk (i := 7) 33 (v := ?_) rfl rfl (by kernel_rfl) (by kernel_rfl) (by kernel_rfl) (by rfl) (fun wq hwq => ?_) ?_
        rotate_left
        · (go_simp <;> with_reducible rfl)
        simp only [List.setIfInBounds_toArray, List.set_cons_zero, List.set_cons_succ]
        refine wpAnyH_tk (i := 8) 34 (v := ?_) rfl rfl (by kernel_rfl) (by kernel_rfl) (by kernel_rfl) (by rfl) (fun wq hwq => ?_) ?_
        rotate_left
        · (go_simp <;> with_reducible rfl)
        simp only [List.setIfInBounds_toArray, List.set_cons_zero, List.set_cons_succ]
        refine wpAnyH_tk (i := 10) 36 (v := ?_) rfl rfl (by kernel_rfl) (by kernel_rfl) (by kernel_rfl) (by rfl) (fun wq hwq => ?_) ?_
        rotate_left
        · (go_simp <;> with_reducible rfl)
        simp only [List.setIfInBounds_toArray, List.set_cons_zero, List.set_cons_succ]
        refine wpAnyH_tk (i := 11) 37 (v := ?_) rfl rfl (by kernel_rfl) (by kernel_rfl) (by kernel_rfl) (by rfl) (fun wq hwq => ?_) ?_
        rotate_left
        · (go_simp <;> with_reducible rfl)
        simp only [List.setIfInBounds_toArray, List.set_cons_zero, List.set_cons_succ]
        refine wpAnyH_tk (i := 12) 38 (v := ?_) rfl rfl (by kernel_rfl) (by kernel_rfl) (by kernel_rfl) (by rfl) (fun wq hwq => ?_) ?_
        rotate_left
        · (go_simp <;> with_reducible rfl)
        simp only [List.setIfInBounds_toArray, List.set_cons_zero, List.set_cons_succ]
        refine wpAnyH_tk (i := 13) 39 (v := ?_) rfl rfl (by kernel_rfl) (by kernel_rfl) (by kernel_rfl) (by rfl) (fun wq hwq => ?_) ?_
        rotate_left
        · (have hx := cell_later hwq (HMB.out.cell 6 (.bool m.sealed) rfl); go_simp <;> with_reducible rfl)
        simp only [List.setIfInBounds_toArray, List.set_cons_zero, List.set_cons_succ]
        refine wpAnyH_one (i := 9) rfl (by kernel_rfl) (by rfl) (fun K hK => ?_)
        go_simp
        refine (stSealed_any _ HT.out).mono ?_
        rintro x wx ⟨rfl, hb⟩
        have HT' := Lib.hid (HT.out.below hb)
        have HMB' := Lib.hid (HMB.out.chg (gs := []) (Chg.of_below hb) (by simp))
        have HMO' := Lib.hid (HMO.out.below hb)
        have HEX' := Lib.hid (Ext.trans HEX.out hb)
        rw [HSN.out]
        refine hK.out _ _ hb ?_
        clear hK K
        clear hb HT HMB HMO HEX
        have HT := HT'
        have HMB := HMB'
        have HMO := HMO'
        have HEX := HEX'
        clear HT' HMB' HMO' HEX'
        refine wpAnyH_tk (i := 14) 40 (v := ?_) rfl rfl (by kernel_rfl) (by kernel_rfl) (by kernel_rfl) (by rfl) (fun wq hwq => ?_) ?_
        rotate_left
        · (go_simp <;> with_reducible rfl)
        simp only [List.setIfInBounds_toArray, List.set_cons_zero, List.set_cons_succ]
        refine wpAnyH_tk (i := 15) 41 (v := ?_) rfl rfl (by kernel_rfl) (by kernel_rfl) (by kernel_rfl) (by rfl) (fun wq hwq => ?_) ?_
        rotate_left
        · (go_simp <;> with_reducible rfl)
        simp only [List.setIfInBounds_toArray, List.set_cons_zero, List.set_cons_succ]
        refine wpAnyH_tk (i := 16) 42 (v := ?_) rfl rfl (by kernel_rfl) (by kernel_rfl) (by kernel_rfl) (by rfl) (fun wq hwq => ?_) ?_
        rotate_left
        · (go_simp <;> with_reducible rfl)
        simp only [List.setIfInBounds_toArray, List.set_cons_zero, List.set_cons_succ]
        refine wpAnyH_tk (i := 17) 43 (v := ?_) rfl rfl (by kernel_rfl) (by kernel_rfl) (by kernel_rfl) (by rfl) (fun wq hwq => ?_) ?_
        rotate_left
        · (go_simp <;> with_reducible rfl)
        simp only [List.setIfInBounds_toArray, List.set_cons_zero, List.set_cons_succ]
        refine wpAnyH_tk (i := 19) 45 (v := ?_) rfl rfl (by kernel_rfl) (by kernel_rfl) (by kernel_rfl) (by rfl) (fun wq hwq => ?_) ?_
        rotate_left
        · (go_simp <;> with_reducible rfl)
        simp only [List.setIfInBounds_toArray, List.set_cons_zero, List.set_cons_succ]
        refine wpAnyH_tk (i := 20) 46 (v := ?_) rfl rfl (by kernel_rfl) (by kernel_rfl) (by kernel_rfl) (by rfl) (fun wq hwq => ?_) ?_
        rotate_left
        · (go_simp <;> with_reducible rfl)
        simp only [List.setIfInBounds_toArray, List.set_cons_zero, List.set_cons_succ]
        refine wpAnyH_tk (i := 21) 47 (v := ?_) rfl rfl (by kernel_rfl) (by kernel_rfl) (by kernel_rfl) (by rfl) (fun wq hwq => ?_) ?_
        rotate_left
        · (go_simp <;> with_reducible rfl)
        simp only [List.setIfInBounds_toArray, List.set_cons_zero, List.set_cons_succ]
        refine wpAnyH_tk (i := 22) 48 (v := ?_) rfl rfl (by kernel_rfl) (by kernel_rfl) (by kernel_rfl) (by rfl) (fun wq hwq => ?_) ?_
        rotate_left
        · (go_simp <;> with_reducible rfl)
        simp only [List.setIfInBounds_toArray, List.set_cons_zero, List.set_cons_succ]
        refine wpAnyH_tk (i := 23) 49 (v := ?_) rfl rfl (by kernel_rfl) (by kernel_rfl) (by kernel_rfl) (by rfl) (fun wq hwq => ?_) ?_
        rotate_left
        · (go_simp <;> with_reducible rfl)
        simp only [List.setIfInBounds_toArray, List.set_cons_zero, List.set_cons_succ]
        refine wpAnyH_tk (i := 24) 50 (v := ?_) rfl rfl (by kernel_rfl) (by kernel_rfl) (by kernel_rfl) (by rfl) (fun wq hwq => ?_) ?_
        rotate_left
        · (have hx := cell_later hwq (HMB.out.cell 8 (.int .i64 m.staged.epoch) rfl); go_simp <;> with_reducible rfl)
        simp only [List.setIfInBounds_toArray, List.set_cons_zero, List.set_cons_succ]
        refine wpAnyH_one (i := 18) rfl (by kernel_rfl) (by rfl) (fun K hK => ?_)
        go_simp
        refine (stStaged_any _ HT.out).mono ?_
        rintro x wx ⟨rfl, hb⟩
        have HT' := Lib.hid (HT.out.below hb)
        have HMB' := Lib.hid (HMB.out.chg (gs := []) (Chg.of_below hb) (by simp))
        have HMO' := Lib.hid (HMO.out.below hb)
        have HEX' := Lib.hid (Ext.trans HEX.out hb)
        refine hK.out _ _ hb ?_
        clear hK K
        clear hb HT HMB HMO HEX
        have HT := HT'
        have HMB := HMB'
        have HMO := HMO'
        have HEX := HEX'
        clear HT' HMB' HMO' HEX'
        refine wpAnyH_tk (i := 25) 51 (v := ?_) rfl rfl (by kernel_rfl) (by kernel_rfl) (by kernel_rfl) (by rfl) (fun wq hwq => ?_) ?_
        rotate_left
        · (have hx := f2; go_simp <;> with_reducible rfl)
        simp only [List.setIfInBounds_toArray, List.set_cons_zero, List.set_cons_succ]
        refine wpAnyH_tk (i := 26) 52 (v := ?_) rfl rfl (by kernel_rfl) (by kernel_rfl) (by kernel_rfl) (by rfl) (fun wq hwq => ?_) ?_
        rotate_left
        · (go_simp <;> with_reducible rfl)
        simp only [List.setIfInBounds_toArray, List.set_cons_zero, List.set_cons_succ]
        refine wpAnyH_tk (i := 27) 53 (v := ?_) rfl rfl (by kernel_rfl) (by kernel_rfl) (by kernel_rfl) (by rfl) (fun wq hwq => ?_) ?_
        rotate_left
        · (go_simp <;> with_reducible rfl)
        simp only [List.setIfInBounds_toArray, List.set_cons_zero, List.set_cons_succ]
        refine wpAnyH_not (i := 28) 54 rfl rfl (by kernel_rfl) (by kernel_rfl) (by kernel_rfl) (by rfl) ?_
        simp only [List.setIfInBounds_toArray, List.set_cons_zero, List.set_cons_succ]
        refine wpAnyH_not (i := 30) 56 rfl rfl (by kernel_rfl) (by kernel_rfl) (by kernel_rfl) (by rfl) ?_
        simp only [List.setIfInBounds_toArray, List.set_cons_zero, List.set_cons_succ]
        refine wpAnyH_not (i := 29) 55 rfl rfl (by kernel_rfl) (by kernel_rfl) (by kernel_rfl) (by rfl) ?_
        simp only [List.setIfInBounds_toArray, List.set_cons_zero, List.set_cons_succ]
        refine wpAnyH_not (i := 31) 57 rfl rfl (by kernel_rfl) (by kernel_rfl) (by kernel_rfl) (by rfl) ?_
        simp only [List.setIfInBounds_toArray, List.set_cons_zero, List.set_cons_succ]
        refine wpAnyH_not (i := 32) 58 rfl rfl (by kernel_rfl) (by kernel_rfl) (by kernel_rfl) (by rfl) ?_
        simp only [List.setIfInBounds_toArray, List.set_cons_zero, List.set_cons_succ]
        refine wpAnyH_tk (i := 33) 59 (v := ?_) rfl rfl (by kernel_rfl) (by kernel_rfl) (by kernel_rfl) (by rfl) (fun wq hwq => ?_) ?_
        rotate_left
        · (go_simp <;> with_reducible rfl)
        simp only [List.setIfInBounds_toArray, List.set_cons_zero, List.set_cons_succ]
        refine wpAnyH_done (by kernel_rfl) ?_ _
        refine NoPanic.normal ?_
        go_wp2
        go_ret
        exact ⟨rfl, HEX.out⟩
    · have hqf := decide_eq_false hq
      clear hq hd
      refine wpAnyH_tk (i := 0) 26 (v := ?_) rfl rfl (by kernel_rfl) (by kernel_rfl) (by kernel_rfl) (by rfl) (fun wq hwq => ?_) ?_
      rotate_left
      · (have hx := HRB.out.chg (gs := []) (Chg.of_below hwq) (by simp); have cc0 : wq.cell? ⟨_, 0, none⟩ = some (.int .i64 m.now.kind) := hx.cell 0 _ rfl; have cc1 : wq.cell? ⟨_, 1, none⟩ = some (.int .i64 t.now.epoch) := hx.cell 1 _ rfl; have cc2 : wq.cell? ⟨_, 2, none⟩ = some (.slice a3 lm k3) := hx.cell 2 _ rfl; have cc3 : wq.cell? ⟨_, 3, none⟩ = some (.int .i64 t.now.pos) := hx.cell 3 _ rfl; have cc4 : wq.cell? ⟨_, 4, none⟩ = some (.int .i64 t.now.last) := hx.cell 4 _ rfl; have cc5 : wq.cell? ⟨_, 5, none⟩ = some (.slice a5 le k5) := hx.cell 5 _ rfl; go_simp <;> with_reducible rfl)
      simp only [List.setIfInBounds_toArray, List.set_cons_zero, List.set_cons_succ]
      refine wpAnyH_tk (i := 1) 27 (v := ?_) rfl rfl (by kernel_rfl) (by kernel_rfl) (by kernel_rfl) (by rfl) (fun wq hwq => ?_) ?_
      rotate_left
      · (go_simp <;> with_reducible rfl)
      simp only [List.setIfInBounds_toArray, List.set_cons_zero, List.set_cons_succ]
      refine wpAnyH_tk (i := 2) 28 (v := ?_) rfl rfl (by kernel_rfl) (by kernel_rfl) (by kernel_rfl) (by rfl) (fun wq hwq => ?_) ?_
      rotate_left
      · (go_simp <;> with_reducible rfl)
      simp only [List.setIfInBounds_toArray, List.set_cons_zero, List.set_cons_succ]
      refine wpAnyH_tk (i := 3) 29 (v := ?_) rfl rfl (by kernel_rfl) (by kernel_rfl) (by kernel_rfl) (by rfl) (fun wq hwq => ?_) ?_
      rotate_left
      · (go_simp <;> with_reducible rfl)
      simp only [List.setIfInBounds_toArray, List.set_cons_zero, List.set_cons_succ]
      refine wpAnyH_tk (i := 4) 30 (v := ?_) rfl rfl (by kernel_rfl) (by kernel_rfl) (by kernel_rfl) (by rfl) (fun wq hwq => ?_) ?_
      rotate_left
      · (have hx := HMB.out.chg (gs := []) (Chg.of_below hwq) (by simp); have cc0 : wq.cell? ⟨_, 0, none⟩ = some (.int .i64 m.now.kind) := hx.cell 0 _ rfl; have cc1 : wq.cell? ⟨_, 1, none⟩ = some (.int .i64 m.now.epoch) := hx.cell 1 _ rfl; have cc2 : wq.cell? ⟨_, 2, none⟩ = some (.slice y2.ma lm2 y2.mc) := hx.cell 2 _ HCM.out.1; have cc3 : wq.cell? ⟨_, 3, none⟩ = some (.int .i64 m.now.pos) := hx.cell 3 _ rfl; have cc4 : wq.cell? ⟨_, 4, none⟩ = some (.int .i64 m.now.last) := hx.cell 4 _ rfl; have cc5 : wq.cell? ⟨_, 5, none⟩ = some (.slice y2.ea le2 y2.ec) := hx.cell 5 _ HCM.out.2; go_simp <;> with_reducible rfl)
      simp only [List.setIfInBounds_toArray, List.set_cons_zero, List.set_cons_succ]
      refine wpAnyH_one (i := 5) rfl (by kernel_rfl) (by rfl) (fun K hK => ?_)
      go_simp
      refine (sameRec_any a3 a5 k3 k5 lm le { t.now with kind := m.now.kind } y2.ma y2.ea y2.mc y2.ec lm2 le2 m.now _ HR2.out HLM.out HLE.out (HF.out.small _) HMR.out HLM2.out HLE2.out (HG.out.small m.now.kind)).mono ?_
      rintro x wx ⟨rfl, hb⟩
      have HT' := Lib.hid (HT.out.below hb)
      have HMB' := Lib.hid (HMB.out.chg (gs := []) (Chg.of_below hb) (by simp))
      have HMO' := Lib.hid (HMO.out.below hb)
      have HEX' := Lib.hid (Ext.trans HEX.out hb)
      rw [hqf]
      refine hK.out _ _ hb ?_
      clear hK K
      clear hb HT HMB HMO HEX
      have HT := HT'
      have HMB := HMB'
      have HMO := HMO'
      have HEX := HEX'
      clear HT' HMB' HMO' HEX'
      refine wpAnyH_tk (i := 6) 32 (v := ?_) rfl rfl (by kernel_rfl) (by kernel_rfl) (by kernel_rfl) (by rfl) (fun wq hwq => ?_) ?_
      rotate_left
      · (go_simp <;> with_reducible rfl)
      simp only [List.setIfInBounds_toArray, List.set_cons_zero, List.set_cons_succ]
      refine wpAnyH_tk (i := 7) 33 (v := ?_) rfl rfl (by kernel_rfl) (by kernel_rfl) (by kernel_rfl) (by rfl) (fun wq hwq => ?_) ?_
      rotate_left
      · (go_simp <;> with_reducible rfl)
      simp only [List.setIfInBounds_toArray, List.set_cons_zero, List.set_cons_succ]
      refine wpAnyH_not (i := 8) 34 rfl rfl (by kernel_rfl) (by kernel_rfl) (by kernel_rfl) (by rfl) ?_
      simp only [List.setIfInBounds_toArray, List.set_cons_zero, List.set_cons_succ]
      refine wpAnyH_not (i := 10) 36 rfl rfl (by kernel_rfl) (by kernel_rfl) (by kernel_rfl) (by rfl) ?_
      simp only [List.setIfInBounds_toArray, List.set_cons_zero, List.set_cons_succ]
      refine wpAnyH_not (i := 11) 37 rfl rfl (by kernel_rfl) (by kernel_rfl) (by kernel_rfl) (by rfl) ?_
      simp only [List.setIfInBounds_toArray, List.set_cons_zero, List.set_cons_succ]
      refine wpAnyH_not (i := 12) 38 rfl rfl (by kernel_rfl) (by kernel_rfl) (by kernel_rfl) (by rfl) ?_
      simp only [List.setIfInBounds_toArray, List.set_cons_zero, List.set_cons_succ]
      refine wpAnyH_not (i := 13) 39 rfl rfl (by kernel_rfl) (by kernel_rfl) (by kernel_rfl) (by rfl) ?_
      simp only [List.setIfInBounds_toArray, List.set_cons_zero, List.set_cons_succ]
      refine wpAnyH_not (i := 9) 35 rfl rfl (by kernel_rfl) (by kernel_rfl) (by kernel_rfl) (by rfl) ?_
      simp only [List.setIfInBounds_toArray, List.set_cons_zero, List.set_cons_succ]
      refine wpAnyH_not (i := 14) 40 rfl rfl (by kernel_rfl) (by kernel_rfl) (by kernel_rfl) (by rfl) ?_
      simp only [List.setIfInBounds_toArray, List.set_cons_zero, List.set_cons_succ]
      refine wpAnyH_tk (i := 15) 41 (v := ?_) rfl rfl (by kernel_rfl) (by kernel_rfl) (by kernel_rfl) (by rfl) (fun wq hwq => ?_) ?_
      rotate_left
      · (go_simp <;> with_reducible rfl)
      simp only [List.setIfInBounds_toArray, List.set_cons_zero, List.set_cons_succ]
      refine wpAnyH_tk (i := 16) 42 (v := ?_) rfl rfl (by kernel_rfl) (by kernel_rfl) (by kernel_rfl) (by rfl) (fun wq hwq => ?_) ?_
      rotate_left
      · (go_simp <;> with_reducible rfl)
      simp only [List.setIfInBounds_toArray, List.set_cons_zero, List.set_cons_succ]
      refine wpAnyH_not (i := 17) 43 rfl rfl (by kernel_rfl) (by kernel_rfl) (by kernel_rfl) (by rfl) ?_
      simp only [List.setIfInBounds_toArray, List.set_cons_zero, List.set_cons_succ]
      refine wpAnyH_not (i := 19) 45 rfl rfl (by kernel_rfl) (by kernel_rfl) (by kernel_rfl) (by rfl) ?_
      simp only [List.setIfInBounds_toArray, List.set_cons_zero, List.set_cons_succ]
      refine wpAnyH_not (i := 20) 46 rfl rfl (by kernel_rfl) (by kernel_rfl) (by kernel_rfl) (by rfl) ?_
      simp only [List.setIfInBounds_toArray, List.set_cons_zero, List.set_cons_succ]
      refine wpAnyH_not (i := 21) 47 rfl rfl (by kernel_rfl) (by kernel_rfl) (by kernel_rfl) (by rfl) ?_
      simp only [List.setIfInBounds_toArray, List.set_cons_zero, List.set_cons_succ]
      refine wpAnyH_not (i := 22) 48 rfl rfl (by kernel_rfl) (by kernel_rfl) (by kernel_rfl) (by rfl) ?_
      simp only [List.setIfInBounds_toArray, List.set_cons_zero, List.set_cons_succ]
      refine wpAnyH_not (i := 23) 49 rfl rfl (by kernel_rfl) (by kernel_rfl) (by kernel_rfl) (by rfl) ?_
      simp only [List.setIfInBounds_toArray, List.set_cons_zero, List.set_cons_succ]
      refine wpAnyH_not (i := 24) 50 rfl rfl (by kernel_rfl) (by kernel_rfl) (by kernel_rfl) (by rfl) ?_
      simp only [List.setIfInBounds_toArray, List.set_cons_zero, List.set_cons_succ]
      refine wpAnyH_not (i := 18) 44 rfl rfl (by kernel_rfl) (by kernel_rfl) (by kernel_rfl) (by rfl) ?_
      simp only [List.setIfInBounds_toArray, List.set_cons_zero, List.set_cons_succ]
      refine wpAnyH_not (i := 25) 51 rfl rfl (by kernel_rfl) (by kernel_rfl) (by kernel_rfl) (by rfl) ?_
      simp only [List.setIfInBounds_toArray, List.set_cons_zero, List.set_cons_succ]
      refine wpAnyH_tk (i := 26) 52 (v := ?_) rfl rfl (by kernel_rfl) (by kernel_rfl) (by kernel_rfl) (by rfl) (fun wq hwq => ?_) ?_
      rotate_left
      · (go_simp <;> with_reducible rfl)
      simp only [List.setIfInBounds_toArray, List.set_cons_zero, List.set_cons_succ]
      refine wpAnyH_tk (i := 27) 53 (v := ?_) rfl rfl (by kernel_rfl) (by kernel_rfl) (by kernel_rfl) (by rfl) (fun wq hwq => ?_) ?_
      rotate_left
      · (go_simp <;> with_reducible rfl)
      simp only [List.setIfInBounds_toArray, List.set_cons_zero, List.set_cons_succ]
      refine wpAnyH_not (i := 28) 54 rfl rfl (by kernel_rfl) (by kernel_rfl) (by kernel_rfl) (by rfl) ?_
      simp only [List.setIfInBounds_toArray, List.set_cons_zero, List.set_cons_succ]
      refine wpAnyH_not (i := 30) 56 rfl rfl (by kernel_rfl) (by kernel_rfl) (by kernel_rfl) (by rfl) ?_
      simp only [List.setIfInBounds_toArray, List.set_cons_zero, List.set_cons_succ]
      refine wpAnyH_not (i := 29) 55 rfl rfl (by kernel_rfl) (by kernel_rfl) (by kernel_rfl) (by rfl) ?_
      simp only [List.setIfInBounds_toArray, List.set_cons_zero, List.set_cons_succ]
      refine wpAnyH_not (i := 31) 57 rfl rfl (by kernel_rfl) (by kernel_rfl) (by kernel_rfl) (by rfl) ?_
      simp only [List.setIfInBounds_toArray, List.set_cons_zero, List.set_cons_succ]
      refine wpAnyH_not (i := 32) 58 rfl rfl (by kernel_rfl) (by kernel_rfl) (by kernel_rfl) (by rfl) ?_
      simp only [List.setIfInBounds_toArray, List.set_cons_zero, List.set_cons_succ]
      refine wpAnyH_tk (i := 33) 59 (v := ?_) rfl rfl (by kernel_rfl) (by kernel_rfl) (by kernel_rfl) (by rfl) (fun wq hwq => ?_) ?_
      rotate_left
      · (go_simp <;> with_reducible rfl)
      simp only [List.setIfInBounds_toArray, List.set_cons_zero, List.set_cons_succ]
      refine wpAnyH_done (by kernel_rfl) ?_ _
      refine NoPanic.normal ?_
      go_wp2
      go_ret
      exact ⟨rfl, HEX.out⟩


end

end Go.Proofs.YtdgpbdedaafdiaaGreat

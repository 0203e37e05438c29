/-
  Slices of entries in memory ('EnsAt'); when members, entries and records are sound, by the program and by the reference.
-/
import Derived.Test.YthnjohjcekelpaaWalksY1
namespace Go.Proofs.Ythnjohjcekelpaa
open Go.RowKit

/-- The cells from place o of block b on hold the entry e. -/
structure EnCells (w : World) (b o : Nat) (e : Pe) (loc : Option Addr) (c : Nat) : Prop where
  c0 : w.cell? ⟨b, o, none⟩ = some (.int .i64 e.seq)
  c1 : w.cell? ⟨b, o + 1, none⟩ = some (.int .i64 e.client)
  c2 : w.cell? ⟨b, o + 2, none⟩ = some (.int .i64 e.num)
  c3 : w.cell? ⟨b, o + 3, none⟩ = some (.int .i64 e.op)
  c4 : w.cell? ⟨b, o + 4, none⟩ = some (.string (strB e.key))
  c5 : w.cell? ⟨b, o + 5, none⟩ = some (.int .i64 e.size)
  c6 : w.cell? ⟨b, o + 6, none⟩ = some (.int .u32 (e.sum : Int))
  c7 : w.cell? ⟨b, o + 7, none⟩ = some (.slice loc e.frag.length c)
  seen : SeenAt w loc c e.frag

theorem EnCells.below {w w' : World} {b o : Nat} {e : Pe} {loc : Option Addr} {c : Nat} (h : EnCells w b o e loc c) (hb : Below w.heap.size w w') : EnCells w' b o e loc c :=
  ⟨cell_later hb h.c0, cell_later hb h.c1, cell_later hb h.c2, cell_later hb h.c3, cell_later hb h.c4, cell_later hb h.c5, cell_later hb h.c6, cell_later hb h.c7, h.seen.below hb⟩

/-- The cells behind the address a hold the entries es. -/
structure EnsAt (w : World) (a : Option Addr) (cap : Nat) (es : List Pe) : Prop where
  le : es.length ≤ cap
  max : cap ≤ maxLen
  el : ∀ i, i < es.length → ∃ b off loc c, a = some ⟨b, off, none⟩ ∧ EnCells w b (off + i * 8) (es.getD i pe0) loc c
  wf : ∀ e ∈ es, e.Wf

theorem EnsAt.below {w w' : World} {a : Option Addr} {cap : Nat} {es : List Pe} (h : EnsAt w a cap es) (hb : Below w.heap.size w w') : EnsAt w' a cap es :=
  ⟨h.le, h.max, fun i hi => by obtain ⟨b, off, loc, c, e, h1⟩ := h.el i hi; exact ⟨b, off, loc, c, e, h1.below hb⟩, h.wf⟩

theorem EnsAt.nil {w : World} {a : Option Addr} {cap : Nat} (h : cap ≤ maxLen) : EnsAt w a cap [] := ⟨Nat.zero_le _, h, fun i hi => by simp at hi, by simp⟩

theorem IntsAt.nil {w : World} {a : Option Addr} {cap : Nat} (h : cap ≤ maxLen) : IntsAt w a cap [] := ⟨Nat.zero_le _, h, fun i => by simp, fun i hi => by simp at hi⟩

/-- The value of an entry. -/
def Pe.val (e : Pe) (loc : Option Addr) (c : Nat) : Value := .agg #[.int .i64 e.seq, .int .i64 e.client, .int .i64 e.num, .int .i64 e.op, .string (strB e.key), .int .i64 e.size, .int .u32 (e.sum : Int), .slice loc e.frag.length c]

theorem sndRaw_eq (e : Pe) : sndRaw e.seq e.client e.num e.op (strB e.key) e.size e.frag.length = sndE e := by unfold sndRaw sndE; rw [strB_size]

theorem sound_any (e : Pe) (loc : Option Addr) (c : Nat) (w : World) :
    Calls Try.prog 119 #[.agg #[.int .i64 e.seq, .int .i64 e.client, .int .i64 e.num, .int .i64 e.op, .string (strB e.key), .int .i64 e.size, .int .u32 (e.sum : Int), .slice loc e.frag.length c]] w fun x w' => x = .returned (.bool (sndE e)) ∧ Below w.heap.size w w' :=
  (sound_raw _ _ _ _ _ _ _ _ _ _ w).mono fun x w' h => by rw [sndRaw_eq] at h; exact h

theorem refEntry_any (e : Pe) (loc : Option Addr) (c : Nat) (w : World) :
    Calls Try.prog 72 #[.agg #[.int .i64 e.seq, .int .i64 e.client, .int .i64 e.num, .int .i64 e.op, .string (strB e.key), .int .i64 e.size, .int .u32 (e.sum : Int), .slice loc e.frag.length c]] w fun x w' => x = .returned (.bool (sndE e)) ∧ Below w.heap.size w w' :=
  (refEntry_raw _ _ _ _ _ _ _ _ _ _ w).mono fun x w' h => by rw [sndRaw_eq] at h; exact h

theorem all_no {α : Type} (m : List α) (p : α → Bool) (d : α) (k : Nat) (h : k < m.length) (hp : p (m.getD k d) = false) : m.all p = false := by
  rw [List.all_eq_false]
  exact ⟨m.getD k d, getD_mem m k d h, by rw [hp]; simp⟩

theorem all_yes {α : Type} (m : List α) (p : α → Bool) (d : α) (h : ∀ k, k < m.length → p (m.getD k d) = true) : m.all p = true := by
  rw [List.all_eq_true]
  intro x hx
  obtain ⟨k, hk, rfl⟩ := List.mem_iff_getElem.mp hx
  have := h k hk
  rwa [List.getD_eq_getElem?_getD, List.getElem?_eq_getElem hk] at this

/-- The first k are all right. -/
def UpTo {α : Type} (m : List α) (p : α → Bool) (d : α) (k : Nat) : Prop := ∀ j, j < k → p (m.getD j d) = true

theorem UpTo.step {α : Type} {m : List α} {p : α → Bool} {d : α} {k : Nat} (h : UpTo m p d k) (hk : p (m.getD k d) = true) : UpTo m p d (k + 1) := fun j hj => by
  by_cases e : j = k
  · rw [e]; exact hk
  · exact h j (by omega)

theorem upTo_zero {α : Type} (m : List α) (p : α → Bool) (d : α) : UpTo m p d 0 := fun j hj => by omega

set_option maxRecDepth 100000 in
set_option maxHeartbeats 1000000 in
theorem soundMembers_any (a : Option Addr) (cap l : Nat) (zs : List Int) (w : World) (hl : zs.length = l) (h : IntsAt w a cap zs) :
    Calls Try.prog 88 #[.slice a l cap] w fun e w' => e = .returned (.bool (sndM zs)) ∧ w = w' := by
  have hm : l ≤ maxLen := by have := h.le; have := h.max; omega
  unfold maxLen at hm
  have HC := Lib.hid h.cell
  have HL := Lib.hid hl
  clear h hl
  by_cases h16 : 16 < l
  · have hd : decide ((16 : Int) < (l : Int)) = true := by simp; omega
    have HF : Hid (false = sndM zs) := by show _ = _; unfold sndM; rw [HL.out]; simp; omega
    go_enter Try.func88, Try.ntmps88
    go_wp2
    go_ret
    exact ⟨ret_boolean HF.out, rfl⟩
  · have hd : decide ((16 : Int) < (l : Int)) = false := by simp; omega
    go_enter Try.func88, Try.ntmps88
    go_wp2
    go_loop [4, 10] (fun _ i => ∃ k : Nat, k ≤ l ∧ i = .int .i64 k ∧ Hid (UpTo zs (fun z => win z 15) 0 k)) (fun _ i => l - (intOf i).toNat)
    case atStart => exact ⟨0, Nat.zero_le _, rfl, upTo_zero _ _ _⟩
    case round =>
      obtain ⟨k, hk, rfl, HU⟩ := hrel
      by_cases hlt : k < l
      · obtain ⟨b, off, rfl, hc⟩ := HC.out k (by rw [HL.out]; exact hlt)
        cases hw : win (zs.getD k 0) 15
        · have HF : Hid (false = sndM zs) := by show _ = _; unfold sndM; rw [all_no zs _ 0 k (by rw [HL.out]; exact hlt) hw]; simp
          have HW := Lib.hid hw
          clear hw
          generalize zs.getD k 0 = z at *
          go_wp2_with fail
          refine (within_any _ _ _).mono ?_
          rintro e w' ⟨rfl, rfl⟩
          rw [HW.out]
          go_wp2
          go_ret
          exact ⟨ret_boolean HF.out, rfl⟩
        · have HU' := Lib.hid (HU.out.step (p := fun z => win z 15) hw)
          have HW := Lib.hid hw
          clear hw
          generalize zs.getD k 0 = z at *
          go_wp2_with fail
          refine (within_any _ _ _).mono ?_
          rintro e w' ⟨rfl, rfl⟩
          rw [HW.out]
          go_wp2
          go_round
          case rel => exact ⟨k + 1, by omega, by go_num, HU'⟩
          case measure => simp [intOf]; omega
      · obtain rfl : k = l := by omega
        have HF : Hid (true = sndM zs) := by
          show _ = _
          unfold sndM
          rw [all_yes zs _ 0 (by rw [HL.out]; exact HU.out), HL.out]
          simp
          omega
        go_wp2
        go_ret
        exact ⟨ret_boolean HF.out, rfl⟩

set_option maxRecDepth 100000 in
set_option maxHeartbeats 1000000 in
theorem soundEntries_any (a : Option Addr) (cap l : Nat) (es : List Pe) (w : World) (hl : es.length = l) (h : EnsAt w a cap es) :
    Calls Try.prog 89 #[.slice a l cap] w fun e w' => e = .returned (.bool (sndEs es)) ∧ Below w.heap.size w w' := by
  have hm : l ≤ maxLen := by have := h.le; have := h.max; omega
  unfold maxLen at hm
  have HE := Lib.hid h
  have HL := Lib.hid hl
  clear h hl
  by_cases h16 : 4096 < l
  · have hd : decide ((4096 : Int) < (l : Int)) = true := by simp; omega
    have HF : Hid (false = sndEs es) := by show _ = _; unfold sndEs; rw [HL.out]; simp; omega
    go_enter Try.func89, Try.ntmps89
    go_wp2
    go_ret
    exact ⟨ret_boolean HF.out, Below.refl _ _⟩
  · have hd : decide ((4096 : Int) < (l : Int)) = false := by simp; omega
    go_enter Try.func89, Try.ntmps89
    go_wp2
    go_loopw [4, 10] (fun _ i ws => ∃ k : Nat, k ≤ l ∧ i = .int .i64 k ∧ Hid (UpTo es sndE pe0 k) ∧ Hid (Below w.heap.size w ws)) (fun _ i _ => l - (intOf i).toNat)
    case atStart => exact ⟨0, Nat.zero_le _, rfl, upTo_zero _ _ _, Below.refl _ _⟩
    case round =>
      obtain ⟨k, hk, rfl, HU, HB⟩ := hrel
      by_cases hlt : k < l
      · obtain ⟨b, off, loc, c, rfl, hc⟩ := (HE.out.below HB.out).el k (by rw [HL.out]; exact hlt)
        have c0 := hc.c0
        have c1 := hc.c1
        have c2 := hc.c2
        have c3 := hc.c3
        have c4 := hc.c4
        have c5 := hc.c5
        have c6 := hc.c6
        have c7 := hc.c7
        clear hc
        cases hw : sndE (es.getD k pe0)
        · have HF : Hid (false = sndEs es) := by show _ = _; unfold sndEs; rw [all_no es _ pe0 k (by rw [HL.out]; exact hlt) hw]; simp
          have HW := Lib.hid hw
          clear hw
          generalize es.getD k pe0 = p at *
          go_wp2_with fail
          refine (sound_any p loc c _).mono ?_
          rintro e w1 ⟨rfl, hb1⟩
          have HB1 := Lib.hid ((HB.out.alloc HB.out.size _).trans (hb1.mono (by have := HB.out.size; simp; omega)))
          clear hb1
          rw [HW.out]
          go_wp2
          go_ret
          exact ⟨ret_boolean HF.out, HB1.out⟩
        · have HU' := Lib.hid (HU.out.step hw)
          have HW := Lib.hid hw
          clear hw
          generalize es.getD k pe0 = p at *
          go_wp2_with fail
          refine (sound_any p loc c _).mono ?_
          rintro e w1 ⟨rfl, hb1⟩
          have HB1 := Lib.hid ((HB.out.alloc HB.out.size _).trans (hb1.mono (by have := HB.out.size; simp; omega)))
          clear hb1
          rw [HW.out]
          go_wp2
          go_roundw
          case rel => exact ⟨k + 1, by omega, by go_num, HU', HB1⟩
          case measure => simp [intOf]; omega
      · obtain rfl : k = l := by omega
        have HF : Hid (true = sndEs es) := by
          show _ = _
          unfold sndEs
          rw [all_yes es _ pe0 (by rw [HL.out]; exact HU.out), HL.out]
          simp
          omega
        go_wp2
        go_ret
        exact ⟨ret_boolean HF.out, HB.out⟩

set_option maxRecDepth 100000 in
set_option maxHeartbeats 1000000 in
theorem refEntries_any (a : Option Addr) (cap l : Nat) (es : List Pe) (w : World) (hl : es.length = l) (h : EnsAt w a cap es) :
    Calls Try.prog 44 #[.slice a l cap] w fun e w' => e = .returned (.bool (sndEs es)) ∧ Below w.heap.size w w' := by
  have hm : l ≤ maxLen := by have := h.le; have := h.max; omega
  unfold maxLen at hm
  have HE := Lib.hid h
  have HL := Lib.hid hl
  clear h hl
  by_cases h16 : 4096 < l
  · have hd : decide ((4096 : Int) < (l : Int)) = true := by simp; omega
    have HF : Hid (false = sndEs es) := by show _ = _; unfold sndEs; rw [HL.out]; simp; omega
    go_enter Try.func44, Try.ntmps44
    go_wp2
    go_ret
    exact ⟨ret_boolean HF.out, Below.refl _ _⟩
  · have hd : decide ((4096 : Int) < (l : Int)) = false := by simp; omega
    go_enter Try.func44, Try.ntmps44
    go_wp2
    go_loopw [3] (fun i ws => ∃ k : Nat, k ≤ l ∧ i = .int .i64 k ∧ Hid (UpTo es sndE pe0 k) ∧ Hid (Below w.heap.size w ws)) (fun i _ => l - (intOf i).toNat)
    case atStart => exact ⟨0, Nat.zero_le _, rfl, upTo_zero _ _ _, Below.refl _ _⟩
    case round =>
      obtain ⟨k, hk, rfl, HU, HB⟩ := hrel
      by_cases hlt : k < l
      · obtain ⟨b, off, loc, c, rfl, hc⟩ := (HE.out.below HB.out).el k (by rw [HL.out]; exact hlt)
        have c0 := hc.c0
        have c1 := hc.c1
        have c2 := hc.c2
        have c3 := hc.c3
        have c4 := hc.c4
        have c5 := hc.c5
        have c6 := hc.c6
        have c7 := hc.c7
        clear hc
        cases hw : sndE (es.getD k pe0)
        · have HF : Hid (false = sndEs es) := by show _ = _; unfold sndEs; rw [all_no es _ pe0 k (by rw [HL.out]; exact hlt) hw]; simp
          have HW := Lib.hid hw
          clear hw
          generalize es.getD k pe0 = p at *
          go_wp2_with fail
          refine (refEntry_any p loc c _).mono ?_
          rintro e w1 ⟨rfl, hb1⟩
          have HB1 := Lib.hid (HB.out.trans (hb1.mono HB.out.size))
          clear hb1
          rw [HW.out]
          go_wp2
          go_ret
          exact ⟨ret_boolean HF.out, HB1.out⟩
        · have HU' := Lib.hid (HU.out.step hw)
          have HW := Lib.hid hw
          clear hw
          generalize es.getD k pe0 = p at *
          go_wp2_with fail
          refine (refEntry_any p loc c _).mono ?_
          rintro e w1 ⟨rfl, hb1⟩
          have HB1 := Lib.hid (HB.out.trans (hb1.mono HB.out.size))
          clear hb1
          rw [HW.out]
          go_wp2
          go_roundw
          case rel => exact ⟨k + 1, by omega, by go_num, HU', HB1⟩
          case measure => simp [intOf]; omega
      · obtain rfl : k = l := by omega
        have HF : Hid (true = sndEs es) := by
          show _ = _
          unfold sndEs
          rw [all_yes es _ pe0 (by rw [HL.out]; exact HU.out), HL.out]
          simp
          omega
        go_wp2
        go_ret
        exact ⟨ret_boolean HF.out, HB.out⟩

def cnfB (n : Int) (zs : List Int) : Bool := zs.all (fun z => win z 15) && win n 1099511627776 && decide (zs.length ≤ 16)

set_option maxRecDepth 100000 in
set_option maxHeartbeats 1000000 in
theorem refConf_any (n : Int) (a : Option Addr) (cap l : Nat) (zs : List Int) (w : World) (hl : zs.length = l) (h : IntsAt w a cap zs) :
    Calls Try.prog 43 #[.agg #[.int .i64 n, .slice a l cap]] w fun e w' => e = .returned (.bool (cnfB n zs)) ∧ Below w.heap.size w w' := by
  have hm : l ≤ maxLen := by have := h.le; have := h.max; omega
  unfold maxLen at hm
  have HB : Hid (Below w.heap.size w (w.alloc (.cells #[.int .i64 n, .slice a l cap] 33))) := below_one w _
  have HC := Lib.hid (h.below HB.out).cell
  have HL := Lib.hid hl
  clear h hl
  go_enter Try.func43, Try.ntmps43
  go_wp2
  go_loop [3] (fun i => ∃ k : Nat, k ≤ l ∧ i = .int .i64 k ∧ Hid (UpTo zs (fun z => win z 15) 0 k)) (fun i => l - (intOf i).toNat)
  case atStart => exact ⟨0, Nat.zero_le _, rfl, upTo_zero _ _ _⟩
  case round =>
    obtain ⟨k, hk, rfl, HU⟩ := hrel
    by_cases hlt : k < l
    · obtain ⟨b, off, rfl, hc⟩ := HC.out k (by rw [HL.out]; exact hlt)
      cases hw : win (zs.getD k 0) 15
      · have HF : Hid (false = cnfB n zs) := by show _ = _; unfold cnfB; rw [all_no zs _ 0 k (by rw [HL.out]; exact hlt) hw]; simp
        have HW := Lib.hid hw
        clear hw
        generalize zs.getD k 0 = z at *
        go_wp2_with fail
        refine (in0_any _ _ _).mono ?_
        rintro e w' ⟨rfl, rfl⟩
        rw [HW.out]
        go_wp2
        go_ret
        exact ⟨ret_boolean HF.out, HB.out⟩
      · have HU' := Lib.hid (HU.out.step (p := fun z => win z 15) hw)
        have HW := Lib.hid hw
        clear hw
        generalize zs.getD k 0 = z at *
        go_wp2_with fail
        refine (in0_any _ _ _).mono ?_
        rintro e w' ⟨rfl, rfl⟩
        rw [HW.out]
        go_wp2
        go_round
        case rel => exact ⟨k + 1, by omega, by go_num, HU'⟩
        case measure => simp [intOf]; omega
    · obtain rfl : k = l := by omega
      have ha := all_yes zs (fun z => win z 15) 0 (by rw [HL.out]; exact HU.out)
      cases hw : win n 1099511627776
      · have HF : Hid (false = cnfB n zs) := by show _ = _; unfold cnfB; rw [hw]; simp
        have HW := Lib.hid hw
        clear hw ha
        go_wp2_with fail
        refine (in0_any _ _ _).mono ?_
        rintro e w' ⟨rfl, rfl⟩
        rw [HW.out]
        go_wp2
        go_ret
        exact ⟨ret_boolean HF.out, HB.out⟩
      · have HF : Hid (decide ((k : Int) ≤ 16) = cnfB n zs) := by
          show _ = _
          unfold cnfB
          rw [hw, ha, HL.out, Bool.eq_iff_iff]
          simp
          omega
        have HW := Lib.hid hw
        clear hw ha
        go_wp2_with fail
        refine (in0_any _ _ _).mono ?_
        rintro e w' ⟨rfl, rfl⟩
        rw [HW.out]
        go_wp2
        go_ret
        exact ⟨ret_boolean HF.out, HB.out⟩

/-- What a new block holds it holds later too. -/
theorem box_later {w w1 : World} {C : Array Value} {t : TypeId} (hb : Below (w.alloc (.cells C t)).heap.size (w.alloc (.cells C t)) w1) (i : Nat) (v : Value) (h : C[i]? = some v) : w1.cell? ⟨w.heap.size, i, none⟩ = some v :=
  cell_later hb (by rw [World.cell?_alloc_mark]; exact h)

/-- A record whose members lie at ma, and its entries at ea. -/
structure RecAt (w : World) (ma : Option Addr) (mc : Nat) (ea : Option Addr) (ec : Nat) (r : Pr) : Prop where
  mem : IntsAt w ma mc r.mem
  ents : EnsAt w ea ec r.ents
  wf : r.Wf

theorem RecAt.below {w w' : World} {ma ea : Option Addr} {mc ec : Nat} {r : Pr} (h : RecAt w ma mc ea ec r) (hb : Below w.heap.size w w') : RecAt w' ma mc ea ec r := ⟨h.mem.below hb, h.ents.below hb, h.wf⟩





set_option maxRecDepth 100000 in
set_option maxHeartbeats 4000000 in
theorem soundRecord_any (ma ea : Option Addr) (mc ec lm le : Nat) (r : Pr) (w : World) (h : RecAt w ma mc ea ec r) (hlm : r.mem.length = lm) (hle : r.ents.length = le) :
    Calls Try.prog 66 #[.agg #[.int .i64 r.kind, .int .i64 r.epoch, .slice ma lm mc, .int .i64 r.pos, .int .i64 r.last, .slice ea le ec]] w fun e w' => e = .returned (.bool (sndR r)) ∧ Below w.heap.size w w' := by
  have HB : Hid (Below w.heap.size w (w.alloc (.cells #[.int .i64 r.kind, .int .i64 r.epoch, .slice ma lm mc, .int .i64 r.pos, .int .i64 r.last, .slice ea le ec] 36))) := below_one w _
  have HM := Lib.hid (h.mem.below HB.out)
  have HE := Lib.hid (h.ents.below HB.out)
  have HLM := Lib.hid hlm
  have HLE := Lib.hid hle
  have HS : Hid (sndR r = (decide (1 ≤ r.kind) && decide (r.kind ≤ 4) && win r.epoch 1099511627776 && sndM r.mem && win r.pos 15 && win r.last 1099511627776 && sndEs r.ents)) := rfl
  clear h hlm hle
  by_cases h1 : 1 ≤ r.kind
  · have d1 : decide (1 ≤ r.kind) = true := by simp; exact h1
    by_cases h2 : r.kind ≤ 4
    · have d2 : decide (r.kind ≤ 4) = true := by simp; exact h2
      cases h3 : win r.epoch 1099511627776
      · have HF : Hid (false = sndR r) := by show _ = _; rw [HS.out, h3]; simp
        have H3 := Lib.hid h3
        clear h3
        go_enter Try.func66, Try.ntmps66
        go_wp2_with fail
        refine (within_any _ _ _).mono ?_
        rintro e w' ⟨rfl, rfl⟩
        rw [(H3).out]
        go_wp2
        go_ret
        exact ⟨ret_boolean HF.out, HB.out⟩
      · have H3 := Lib.hid h3
        cases h4 : sndM r.mem
        · have HF : Hid (false = sndR r) := by show _ = _; rw [HS.out, h4]; simp
          have H4 := Lib.hid h4
          clear h3 h4
          go_enter Try.func66, Try.ntmps66
          go_wp2_with fail
          refine (within_any _ _ _).mono ?_
          rintro e w' ⟨rfl, rfl⟩
          rw [(H3).out]
          go_wp2_with fail
          refine (soundMembers_any _ _ _ _ _ HLM.out HM.out).mono ?_
          rintro e w' ⟨rfl, rfl⟩
          rw [(H4).out]
          go_wp2
          go_ret
          exact ⟨ret_boolean HF.out, HB.out⟩
        · have H4 := Lib.hid h4
          cases h5 : win r.pos 15
          · have HF : Hid (false = sndR r) := by show _ = _; rw [HS.out, h5]; simp
            have H5 := Lib.hid h5
            clear h3 h4 h5
            go_enter Try.func66, Try.ntmps66
            go_wp2_with fail
            refine (within_any _ _ _).mono ?_
            rintro e w' ⟨rfl, rfl⟩
            rw [(H3).out]
            go_wp2_with fail
            refine (soundMembers_any _ _ _ _ _ HLM.out HM.out).mono ?_
            rintro e w' ⟨rfl, rfl⟩
            rw [(H4).out]
            go_wp2_with fail
            refine (within_any _ _ _).mono ?_
            rintro e w' ⟨rfl, rfl⟩
            rw [(H5).out]
            go_wp2
            go_ret
            exact ⟨ret_boolean HF.out, HB.out⟩
          · have H5 := Lib.hid h5
            cases h6 : win r.last 1099511627776
            · have HF : Hid (false = sndR r) := by show _ = _; rw [HS.out, h6]; simp
              have H6 := Lib.hid h6
              clear h3 h4 h5 h6
              go_enter Try.func66, Try.ntmps66
              go_wp2_with fail
              refine (within_any _ _ _).mono ?_
              rintro e w' ⟨rfl, rfl⟩
              rw [(H3).out]
              go_wp2_with fail
              refine (soundMembers_any _ _ _ _ _ HLM.out HM.out).mono ?_
              rintro e w' ⟨rfl, rfl⟩
              rw [(H4).out]
              go_wp2_with fail
              refine (within_any _ _ _).mono ?_
              rintro e w' ⟨rfl, rfl⟩
              rw [(H5).out]
              go_wp2_with fail
              refine (within_any _ _ _).mono ?_
              rintro e w' ⟨rfl, rfl⟩
              rw [(H6).out]
              go_wp2
              go_ret
              exact ⟨ret_boolean HF.out, HB.out⟩
            · have H6 := Lib.hid h6
              have HF : Hid (sndEs r.ents = sndR r) := by show _ = _; rw [HS.out, d1, d2, h3, h4, h5, h6]; simp
              clear h3 h4 h5 h6
              go_enter Try.func66, Try.ntmps66
              go_wp2_with fail
              refine (within_any _ _ _).mono ?_
              rintro e w' ⟨rfl, rfl⟩
              rw [(H3).out]
              go_wp2_with fail
              refine (soundMembers_any _ _ _ _ _ HLM.out HM.out).mono ?_
              rintro e w' ⟨rfl, rfl⟩
              rw [(H4).out]
              go_wp2_with fail
              refine (within_any _ _ _).mono ?_
              rintro e w' ⟨rfl, rfl⟩
              rw [(H5).out]
              go_wp2_with fail
              refine (within_any _ _ _).mono ?_
              rintro e w' ⟨rfl, rfl⟩
              rw [(H6).out]
              go_wp2_with fail
              refine (soundEntries_any _ _ _ _ _ HLE.out HE.out).mono ?_
              rintro e w1 ⟨rfl, hb1⟩
              have HB1 := Lib.hid (HB.out.trans (hb1.mono (by simp)))
              clear hb1
              go_wp2
              go_ret
              exact ⟨ret_boolean HF.out, HB1.out⟩
    · have d2 : decide (r.kind ≤ 4) = false := by simp; omega
      have HF : Hid (false = sndR r) := by show _ = _; rw [HS.out, d2]; simp
      go_enter Try.func66, Try.ntmps66
      go_wp2
      go_ret
      exact ⟨ret_boolean HF.out, HB.out⟩
  · have d1 : decide (1 ≤ r.kind) = false := by simp; omega
    have HF : Hid (false = sndR r) := by show _ = _; rw [HS.out, d1]; simp
    go_enter Try.func66, Try.ntmps66
    go_wp2
    go_ret
    exact ⟨ret_boolean HF.out, HB.out⟩

theorem win2_14 (n : Int) : win2 n 1 4 = (decide (1 ≤ n) && decide (n ≤ 4)) := rfl

set_option maxRecDepth 100000 in
set_option maxHeartbeats 4000000 in
theorem refRec_any (ma ea : Option Addr) (mc ec lm le : Nat) (r : Pr) (w : World) (h : RecAt w ma mc ea ec r) (hlm : r.mem.length = lm) (hle : r.ents.length = le) :
    Calls Try.prog 16 #[.agg #[.int .i64 r.kind, .int .i64 r.epoch, .slice ma lm mc, .int .i64 r.pos, .int .i64 r.last, .slice ea le ec]] w fun e w' => e = .returned (.bool (sndR r)) ∧ Below w.heap.size w w' := by
  have HB : Hid (Below w.heap.size w (w.alloc (.cells #[.int .i64 r.kind, .int .i64 r.epoch, .slice ma lm mc, .int .i64 r.pos, .int .i64 r.last, .slice ea le ec] 36))) := below_one w _
  have HM := Lib.hid (h.mem.below HB.out)
  have HE := Lib.hid (h.ents.below HB.out)
  have HLM := Lib.hid hlm
  have HLE := Lib.hid hle
  have HS : Hid (sndR r = (win2 r.kind 1 4 && cnfB r.epoch r.mem && win r.pos 15 && win r.last 1099511627776 && sndEs r.ents)) := by
    show _ = _
    unfold sndR sndM cnfB win2
    ac_rfl
  clear h hlm hle
  cases h1 : win2 r.kind 1 4
  · have HF : Hid (false = sndR r) := by show _ = _; rw [HS.out, h1]; simp
    have H1 := Lib.hid h1
    clear h1
    go_enter Try.func16, Try.ntmps16
    go_wp2_with fail
    refine (in_any _ _ _ _).mono ?_
    rintro e w' ⟨rfl, rfl⟩
    rw [(H1).out]
    go_wp2
    go_ret
    exact ⟨ret_boolean HF.out, HB.out⟩
  · have H1 := Lib.hid h1
    cases h2 : cnfB r.epoch r.mem
    · have HF : Hid (false = sndR r) := by show _ = _; rw [HS.out, h2]; simp
      have H2 := Lib.hid h2
      clear h1 h2
      go_enter Try.func16, Try.ntmps16
      go_wp2_with fail
      refine (in_any _ _ _ _).mono ?_
      rintro e w' ⟨rfl, rfl⟩
      rw [(H1).out]
      go_wp2_with fail
      refine (refConf_any _ _ _ _ r.mem _ HLM.out HM.out).mono ?_
      rintro e w1 ⟨rfl, hb1⟩
      rw [H2.out]
      have HE1 := Lib.hid (HE.out.below hb1)
      have HB1 := Lib.hid (HB.out.trans (hb1.mono (by simp)))
      have b2 := box_later hb1 2 _ rfl
      have b3 := box_later hb1 3 _ rfl
      have b4 := box_later hb1 4 _ rfl
      have b5 := box_later hb1 5 _ rfl
      clear hb1
      go_wp2
      go_ret
      exact ⟨ret_boolean HF.out, HB1.out⟩
    · have H2 := Lib.hid h2
      cases h3 : win r.pos 15
      · have HF : Hid (false = sndR r) := by show _ = _; rw [HS.out, h3]; simp
        have H3 := Lib.hid h3
        clear h1 h2 h3
        go_enter Try.func16, Try.ntmps16
        go_wp2_with fail
        refine (in_any _ _ _ _).mono ?_
        rintro e w' ⟨rfl, rfl⟩
        rw [(H1).out]
        go_wp2_with fail
        refine (refConf_any _ _ _ _ r.mem _ HLM.out HM.out).mono ?_
        rintro e w1 ⟨rfl, hb1⟩
        rw [H2.out]
        have HE1 := Lib.hid (HE.out.below hb1)
        have HB1 := Lib.hid (HB.out.trans (hb1.mono (by simp)))
        have b2 := box_later hb1 2 _ rfl
        have b3 := box_later hb1 3 _ rfl
        have b4 := box_later hb1 4 _ rfl
        have b5 := box_later hb1 5 _ rfl
        clear hb1
        go_wp2_with fail
        refine (in0_any _ _ _).mono ?_
        rintro e w' ⟨rfl, rfl⟩
        rw [(H3).out]
        go_wp2
        go_ret
        exact ⟨ret_boolean HF.out, HB1.out⟩
      · have H3 := Lib.hid h3
        cases h4 : win r.last 1099511627776
        · have HF : Hid (false = sndR r) := by show _ = _; rw [HS.out, h4]; simp
          have H4 := Lib.hid h4
          clear h1 h2 h3 h4
          go_enter Try.func16, Try.ntmps16
          go_wp2_with fail
          refine (in_any _ _ _ _).mono ?_
          rintro e w' ⟨rfl, rfl⟩
          rw [(H1).out]
          go_wp2_with fail
          refine (refConf_any _ _ _ _ r.mem _ HLM.out HM.out).mono ?_
          rintro e w1 ⟨rfl, hb1⟩
          rw [H2.out]
          have HE1 := Lib.hid (HE.out.below hb1)
          have HB1 := Lib.hid (HB.out.trans (hb1.mono (by simp)))
          have b2 := box_later hb1 2 _ rfl
          have b3 := box_later hb1 3 _ rfl
          have b4 := box_later hb1 4 _ rfl
          have b5 := box_later hb1 5 _ rfl
          clear hb1
          go_wp2_with fail
          refine (in0_any _ _ _).mono ?_
          rintro e w' ⟨rfl, rfl⟩
          rw [(H3).out]
          go_wp2_with fail
          refine (in0_any _ _ _).mono ?_
          rintro e w' ⟨rfl, rfl⟩
          rw [(H4).out]
          go_wp2
          go_ret
          exact ⟨ret_boolean HF.out, HB1.out⟩
        · have H4 := Lib.hid h4
          have HF : Hid (sndEs r.ents = sndR r) := by show _ = _; rw [HS.out, h1, h2, h3, h4]; simp
          clear h1 h2 h3 h4
          go_enter Try.func16, Try.ntmps16
          go_wp2_with fail
          refine (in_any _ _ _ _).mono ?_
          rintro e w' ⟨rfl, rfl⟩
          rw [(H1).out]
          go_wp2_with fail
          refine (refConf_any _ _ _ _ r.mem _ HLM.out HM.out).mono ?_
          rintro e w1 ⟨rfl, hb1⟩
          rw [H2.out]
          have HE1 := Lib.hid (HE.out.below hb1)
          have HB1 := Lib.hid (HB.out.trans (hb1.mono (by simp)))
          have b2 := box_later hb1 2 _ rfl
          have b3 := box_later hb1 3 _ rfl
          have b4 := box_later hb1 4 _ rfl
          have b5 := box_later hb1 5 _ rfl
          clear hb1
          go_wp2_with fail
          refine (in0_any _ _ _).mono ?_
          rintro e w' ⟨rfl, rfl⟩
          rw [(H3).out]
          go_wp2_with fail
          refine (in0_any _ _ _).mono ?_
          rintro e w' ⟨rfl, rfl⟩
          rw [(H4).out]
          go_wp2_with fail
          refine (refEntries_any _ _ _ _ _ HLE.out HE1.out).mono ?_
          rintro e w2 ⟨rfl, hb2⟩
          have HB2 := Lib.hid (HB1.out.trans (hb2.mono HB1.out.size))
          clear hb2
          go_wp2
          go_ret
          exact ⟨ret_boolean HF.out, HB2.out⟩

end Go.Proofs.Ythnjohjcekelpaa

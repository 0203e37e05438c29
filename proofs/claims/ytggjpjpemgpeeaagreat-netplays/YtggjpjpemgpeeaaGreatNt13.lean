/-
  net: New, Len, place, link, linked, isCut, add.
  net: add, Send, Look, Drop, Dup.
  net: Deliver, Cut, Heal.
  net: Cut, Heal.
  The law's state of a network; its awake; its light.
-/
import Derived.Test.YtggjpjpemgpeeaaGreatNtM
import Derived.Test.YtggjpjpemgpeeaaGreatWalksH1
import Derived.Laws.Cover2
import Derived.Laws.Cover3
import Derived.Test.YtggjpjpemgpeeaaGreatWalksI0
import Derived.Test.YtggjpjpemgpeeaaGreatWalksI1
import Derived.Test.YtggjpjpemgpeeaaGreatWalksH3
import Derived.Test.YtggjpjpemgpeeaaGreatQTail
import Derived.Test.YtggjpjpemgpeeaaGreatExt2
import Derived.Carry
namespace Go.Proofs.YtggjpjpemgpeeaaGreat
open Go.RowKit

theorem nt_new (w : World) : Nt (w.alloc (.cells #[.slice none 0 0, .map none] 61)) w.heap.size w.heap.size [w.heap.size] [] [] :=
  ⟨none, none, ⟨⟨0, [], by simp, rws_nil _ _, rfl, by simp⟩, by simp, rfl, fun k => by simp, by simp, by simp, by simp, by simp [blk], by simp, by simp [blk], by simp, by simp [blk], by simp, fun g hg => by
    simp at hg
    subst hg
    simp⟩⟩

theorem ntNew_any (w : World) : Calls Tryz.prog 4 #[] w fun e w' => ∃ R N, e = .returned (.pointer (some ⟨R, 0, none⟩)) ∧ Nt w' w.heap.size R N [] [] ∧ Below w.heap.size w w' := by
  have HF := Lib.hid (nt_new w)
  have HB := Lib.hid (below_one w (.cells #[.slice none 0 0, .map none] 61))
  go_enter Tryz.func4, Tryz.ntmps4
  go_wp2
  go_ret
  exact ⟨_, _, rfl, HF.out, HB.out⟩

theorem ntLen_nil (w : World) : Calls Tryz.prog 16 #[.pointer none] w fun e w' => e = .returned (.int .i64 0) ∧ w = w' := by
  go_enter Tryz.func16, Tryz.ntmps16
  go_wp2
  go_ret
  exact ⟨rfl, rfl⟩

section
variable {w : World} {base R : Nat} {ga : Option Addr} {o : Option Nat} {N : List Nat} {ms : List Pm} {ks : List (Int × Int)}

theorem NtA.count (h : NtA w base R ga o N ms ks) : ∃ cap xs, w.cell? ⟨R, 0, none⟩ = some (.slice ga ms.length cap) ∧ Rws w base ga cap xs ∧ xs.map Rw.ps = ms.map encMg ∧ (∀ x ∈ xs, ∀ g ∈ blk x.loc, g ∈ N ∧ g ≠ R ∧ o ≠ some g) ∧ xs.length = ms.length := by
  obtain ⟨cap, xs, h1, h2, h3, h4⟩ := h.rows
  have e : xs.length = ms.length := by simpa using congrArg List.length h3
  exact ⟨cap, xs, by rw [← e]; exact h1, h2, h3, h4, e⟩

theorem ntLen_any (h : NtA w base R ga o N ms ks) (n : Nat) (hn : ms.length = n) : Calls Tryz.prog 16 #[.pointer (some ⟨R, 0, none⟩)] w fun e w' => e = .returned (.int .i64 (n : Int)) ∧ w = w' := by
  obtain ⟨cap, xs, hc, _⟩ := h.count
  rw [hn] at hc
  clear h
  go_enter Tryz.func16, Tryz.ntmps16
  go_wp2
  go_ret
  exact ⟨rfl, rfl⟩

end

/-- The place that i stands for among n. -/
def posI (i : Int) (n : Nat) : Nat := (i % (n : Int)).toNat

theorem posI_lt (i : Int) (n : Nat) (h : 0 < n) : posI i n < n := by
  unfold posI
  have h1 := Int.emod_nonneg i (b := (n : Int)) (by omega)
  have h2 := Int.emod_lt_of_pos i (b := (n : Int)) (by omega)
  omega

theorem tmod_low (i : Int) (n : Nat) (h : 0 < n) : -(n : Int) < i.tmod n := by
  have := Int.tmod_lt_of_pos (-i) (b := (n : Int)) (by omega)
  rw [Int.neg_tmod] at this
  omega

theorem posI_tmod (i : Int) (n : Nat) (h : 0 < n) : (i.tmod (n : Int) + (n : Int)).tmod (n : Int) = (posI i n : Nat) := by
  have h1 := Int.emod_nonneg i (b := (n : Int)) (by omega)
  have h3 := Int.emod_lt_of_pos i (b := (n : Int)) (by omega)
  have h2 := tmod_low i n h
  have h4 : (i.tmod (n : Int) + (n : Int)) % (n : Int) = i % (n : Int) := by
    have := Int.tmod_eq_emod (a := i) (b := (n : Int))
    rw [this]
    split
    · rw [show i % (n : Int) - ((0 : Nat) : Int) + (n : Int) = i % (n : Int) + (n : Int) by omega, Int.add_emod_right, Int.emod_emod]
    · rw [show i % (n : Int) - ((n : Int).natAbs : Int) + (n : Int) = i % (n : Int) by omega, Int.emod_emod]
  rw [Int.tmod_eq_emod_of_nonneg (by omega), h4]
  unfold posI
  omega

theorem plc_nil (i : Int) (w : World) : Calls Tryz.prog 28 #[.pointer none, .int .i64 i] w fun e w' => e = .returned (.tuple #[.int .i64 0, .bool false]) ∧ w = w' := by
  go_enter Tryz.func28, Tryz.ntmps28
  go_wp2_with fail
  refine (ntLen_nil _).mono ?_
  rintro e w' ⟨rfl, rfl⟩
  go_wp2
  go_ret2
  exact ⟨rfl, rfl⟩

theorem plc_no {w : World} {base R : Nat} {ga : Option Addr} {o : Option Nat} {N : List Nat} {ks : List (Int × Int)} (h : NtA w base R ga o N [] ks) (i : Int) : Calls Tryz.prog 28 #[.pointer (some ⟨R, 0, none⟩), .int .i64 i] w fun e w' => e = .returned (.tuple #[.int .i64 0, .bool false]) ∧ w = w' := by
  have H := Lib.hid h
  clear h
  go_enter Tryz.func28, Tryz.ntmps28
  go_wp2_with fail
  refine (ntLen_any H.out 0 rfl).mono ?_
  rintro e w' ⟨rfl, rfl⟩
  go_wp2
  go_ret2
  exact ⟨rfl, rfl⟩

theorem plc_any {w : World} {base R : Nat} {ga : Option Addr} {o : Option Nat} {N : List Nat} {ms : List Pm} {ks : List (Int × Int)} (h : NtA w base R ga o N ms ks) (n : Nat) (hn : ms.length = n) (h0 : 0 < n) (i : Int) (p : Nat) (hp : posI i n = p) :
    Calls Tryz.prog 28 #[.pointer (some ⟨R, 0, none⟩), .int .i64 i] w fun e w' => e = .returned (.tuple #[.int .i64 (p : Int), .bool true]) ∧ w = w' := by
  have H := Lib.hid h
  have HN := Lib.hid hn
  have hm : n ≤ 1024 := by have := h.most; omega
  clear h hn
  have e1 := posI_tmod i n h0
  rw [hp] at e1
  have hb1 : -(n : Int) < i.tmod n := tmod_low i n h0
  have hb2 : i.tmod n < (n : Int) := Int.tmod_lt_of_pos i (by omega)
  obtain ⟨z, hz⟩ : ∃ z, i.tmod (n : Int) = z := ⟨_, rfl⟩
  rw [hz] at e1 hb1 hb2
  clear hp
  go_enter Tryz.func28, Tryz.ntmps28
  go_wp2_with fail
  refine (ntLen_any H.out n HN.out).mono ?_
  rintro e w' ⟨rfl, rfl⟩
  go_wp2
  go_ret2
  exact ⟨rfl, rfl⟩

/-- The pair of a link. -/
def lkP (a b : Int) : Int × Int := (min a b, max a b)

theorem link_any (a b : Int) (w : World) : Calls Tryz.prog 26 #[.int .i64 a, .int .i64 b] w fun e w' => e = .returned (lkV (lkP a b)) ∧ w = w' := by
  by_cases h : b < a
  · have e : lkP a b = (b, a) := by unfold lkP; rw [Int.min_eq_right (by omega), Int.max_eq_left (by omega)]
    have h' : ¬ a < b := by omega
    rw [e]
    clear e
    go_enter Tryz.func26, Tryz.ntmps26
    go_wp2
    go_ret
    exact ⟨rfl, rfl⟩
  · by_cases h2 : a < b
    · have e : lkP a b = (a, b) := by unfold lkP; rw [Int.min_eq_left (by omega), Int.max_eq_right (by omega)]
      rw [e]
      clear e
      go_enter Tryz.func26, Tryz.ntmps26
      go_wp2
      go_ret
      exact ⟨rfl, rfl⟩
    · obtain rfl : a = b := by omega
      have e : lkP a a = (a, a) := by unfold lkP; rw [Int.min_self, Int.max_self]
      rw [e]
      clear e
      go_enter Tryz.func26, Tryz.ntmps26
      go_wp2
      go_ret
      exact ⟨rfl, rfl⟩

/-- May there be a link between a and b? -/
def lkd (a b : Int) : Bool := decide (a ≠ b) && win2 a (-5) 15 && win2 b (-5) 15

theorem linked_any (a b : Int) (w : World) : Calls Tryz.prog 30 #[.int .i64 a, .int .i64 b] w fun e w' => e = .returned (.bool (lkd a b)) ∧ w = w' := by
  have HL : Hid (lkd a b = (decide (a ≠ b) && win2 a (-5) 15 && win2 b (-5) 15)) := rfl
  generalize lkd a b = L at *
  by_cases h : a = b
  · subst h
    obtain rfl : L = false := by rw [HL.out]; simp
    go_enter Tryz.func30, Tryz.ntmps30
    go_wp2
    go_ret
    exact ⟨rfl, rfl⟩
  · have hd : decide (a ≠ b) = true := by simpa using h
    rw [hd] at HL
    clear hd
    have hd1 : (a != b) = true := by simpa using h
    go_enter Tryz.func30, Tryz.ntmps30
    go_wp2_with fail
    refine (party_any a _).mono ?_
    rintro e w' ⟨rfl, rfl⟩
    cases hx : win2 a (-5) 15
    · obtain rfl : L = false := by rw [HL.out, hx]; simp
      go_wp2
      go_ret
      exact ⟨rfl, rfl⟩
    · obtain rfl : L = win2 b (-5) 15 := by rw [HL.out, hx]; simp
      clear hx HL
      go_wp2_with fail
      refine (party_any b _).mono ?_
      rintro e w' ⟨rfl, rfl⟩
      go_wp2
      go_ret
      exact ⟨rfl, rfl⟩

/-- _, ok := n.cut[k]. -/
theorem wpList_lookC {ops : Array Oper} {rest : List Oper} {o : Oper} {a : Act} {Q : Exit → Act → World → Prop} {w : World} (hgd : o.guard = none) (m x : Operand)
    (ho : o.op = Op.lookup 59 m x true) (ob : Option Nat) (ks : List (Int × Int)) (hm : a.eval m = .map ob) (hown : SetN w ob ks) (p : Int × Int) (hp : BigP p) (hx : a.eval x = lkV p)
    (h : wpList Tryz.prog ops Q rest (a.put o.dst (.tuple #[.agg #[], .bool (decide (p ∈ ks))])) w) : wpList Tryz.prog ops Q (o :: rest) a w := by
  have hrun := run_lookC (P := Tryz.prog) Tryz.underlying59 Tryz.underlying74 (w := w) (by kernel_rfl) ob ks hown p hp
  refine wpList_plain hgd fun K hK => ?_
  unfold Oper.wp
  simp [execOp, ho, hm, hx, hrun, Result.andThen]
  exact hK _ _ h

theorem isCut_any {w : World} {base R : Nat} {ga : Option Addr} {o : Option Nat} {N : List Nat} {ms : List Pm} {ks : List (Int × Int)} (h : NtA w base R ga o N ms ks) (p : Int × Int) (hp : BigP p) :
    Calls Tryz.prog 25 #[.pointer (some ⟨R, 0, none⟩), lkV p] w fun e w' => e = .returned (.bool (decide (p ∈ ks))) ∧ Below w.heap.size w w' := by
  have hc := h.c1
  have HS := Lib.hid h.links
  have HP := Lib.hid hp
  have HB := Lib.hid (fun (x : World) => below_one x (.cells #[] 80))
  clear h hp
  have e0 : ∃ v, v = lkV p := ⟨_, rfl⟩
  obtain ⟨v, hv⟩ := e0
  have HV := Lib.hid hv
  rw [← hv]
  clear hv
  go_enter Tryz.func25, Tryz.ntmps25
  go_wp2_with (refine wpList_lookC rfl _ _ rfl _ _ rfl HS.out p HP.out HV.out ?_)
  go_ret
  exact ⟨rfl, HB.out _⟩

end Go.Proofs.YtggjpjpemgpeeaaGreat

namespace Go.Proofs.YtggjpjpemgpeeaaGreat
open Go.RowKit

/-- A network behind a call. -/
def NtP (w : World) (base R : Nat) (N : List Nat) (ms : List Pm) (ks : List (Int × Int)) (v : Value) (e : Ending) (w' : World) : Prop := e = .returned v ∧ ∃ N', Nt w' base R N' ms ks ∧ Mv w w' N N'

theorem dec_kept (a : Option Addr) (c l : Nat) (m : Pm) (x : World) (hw : m.Wf) (hs : sndMg m = true) (hl : (encMg m).length = l) (h : SeenAt x a c (encMg m)) :
    Calls Tryz.prog 31 #[.slice a l c] x fun e w' => ∃ r : Rm, r.m = m ∧ e = .returned (.tuple #[.agg r.cells, .int .i64 0]) ∧ Kept x.heap.size w' (fun w2 => MsgAt w2 r) ∧ Below x.heap.size x w' :=
  (decMg_yes a c l (encMg m) x hl (by have := encMg_len (sndMg_is hs); omega) h (okMg_yes hw hs).1).mono fun e w' h' => by
    obtain ⟨r, h1, h2, h3, h4⟩ := h'
    rw [(okMg_yes hw hs).2] at h1
    exact ⟨r, h1, h2, h3, h4⟩

section
variable {w : World} {base R : Nat} {ga : Option Addr} {o : Option Nat} {N : List Nat} {ms : List Pm} {ks : List (Int × Int)}

set_option maxRecDepth 100000 in
theorem bag_full (h : NtA w base R ga o N ms ks) (hf : 1024 ≤ ms.length) (v : Value) : Calls Tryz.prog 20 #[.pointer (some ⟨R, 0, none⟩), v] w fun e w' => e = .returned (.int .i64 5) ∧ w = w' := by
  obtain ⟨cap, xs, hc, _⟩ := h.count
  clear h
  generalize ms.length = n at *
  go_enter Tryz.func20, Tryz.ntmps20
  go_wp2
  go_ret
  exact ⟨rfl, rfl⟩

set_option maxRecDepth 100000 in
set_option maxHeartbeats 1000000 in
theorem bag_any (h : NtA w base R ga o N ms ks) (hlt : ms.length < 1024) (la : Option Addr) (lc l : Nat) (m : Pm) (hm : m.Wf ∧ sndMg m = true) (hl : (encMg m).length = l) (hs : SeenAt w la lc (encMg m)) (hb : ∀ g ∈ blk la, g ∈ N ∧ g ∉ blk ga ∧ g ≠ R ∧ o ≠ some g) :
    Calls Tryz.prog 20 #[.pointer (some ⟨R, 0, none⟩), .slice la l lc] w (NtP w base R N (ms ++ [m]) ks (.int .i64 0)) := by
  obtain ⟨cap, xs, hc, hr, hps, hx, hxl⟩ := h.count
  have hRlt := h.nLt R h.inR
  have hfr := h.free
  have H := Lib.hid h
  have HR0 := Lib.hid hr
  have HB0 := Lib.hid hb
  have HS0 := Lib.hid hs
  have HPS := Lib.hid hps
  have HX := Lib.hid hx
  have HM := Lib.hid hm
  have hb1 : Below w.heap.size w (w.alloc (.cells #[.slice la l lc] 28)) := below_one w _
  have HR1 := Lib.hid (hr.below hb1)
  have HY : Hid ((⟨la, lc, encMg m⟩ : Rw).val = .slice la l lc) := by show Value.slice la (encMg m).length lc = _; rw [hl]
  have HC1 : Hid ((w.alloc (.cells #[.slice la l lc] 28)).cell? ⟨w.heap.size, 0, none⟩ = some (⟨la, lc, encMg m⟩ : Rw).val) := by
    show _ = _
    rw [HY.out]
    simp
  have HS1 := Lib.hid (hs.below hb1)
  have HF1 : Hid (∀ g ∈ blk la, g ∉ blk ga ∧ g < (w.alloc (.cells #[.slice la l lc] 28)).heap.size) := fun g hg => ⟨(hb g hg).2.1, by have := (h.nLt g (hb g hg).1).2; simp; omega⟩
  have HB1 := Lib.hid hb1
  have HZ1 : Hid (base ≤ (w.alloc (.cells #[.slice la l lc] 28)).heap.size) := by show _ ≤ _; simp; omega
  obtain ⟨n, hn⟩ : ∃ n, ms.length = n := ⟨_, rfl⟩
  have HN := Lib.hid hn
  have HXN : Hid (xs.length = n) := hxl.trans hn
  rw [hn] at hlt hc
  clear h hr hb hs hps hx hm hb1 hxl hn hl
  have hd1 : decide ((1024 : Int) ≤ (n : Int)) = false := by simp; omega
  have hd2 : decide (1024 ≤ n) = false := by simp; omega
  go_enter Tryz.func20, Tryz.ntmps20
  go_wp2_with (refine wpList_appRw rfl _ _ rfl base ga cap xs n HXN.out rfl HR1.out ⟨la, lc, encMg m⟩ w.heap.size 1 rfl HC1.out (by omega) HZ1.out HS1.out HF1.out ?_; intro g' cap' w2 hr2 hc2 hat; have HC2 := Lib.hid ((Chg.of_below (gs := blk ga) HB1.out).trans hc2); have hcc : w2.cell? ⟨R, 0, none⟩ = some (.slice ga n cap) := HC2.out.cell hc H.out.neG; have hff : w2.frozen? ⟨R, 0, none⟩ = false := (World.frozen?_of_block (HC2.out.block R hRlt.2 H.out.neG)).trans (hfr 0); have HR2 := Lib.hid hr2; have HAT : Hid (∀ g ∈ blk (some (⟨g', 0, none⟩ : Addr)), g ∈ blk ga ∨ w.heap.size ≤ g) := (by intro g hg; simp [blk] at hg; subst hg; rcases hat with h1 | h1; exact .inl h1; right; have := HB1.out.size; omega); clear hr2 hc2 hat)
  go_ret
  have hfin := NtA.put H.out HC2.out (fun _ hg => hg) HR2.out HAT.out (ms' := ms ++ [m]) (n := n + 1) (fun x hx g hg => by
    rcases List.mem_append.mp hx with hx | hx
    · exact HX.out x hx g hg
    · rw [List.mem_singleton.mp hx] at hg
      exact ⟨(HB0.out g hg).1, (HB0.out g hg).2.2⟩) (by rw [List.map_append, List.map_append, HPS.out]; rfl) (fun x hx => by
    rcases List.mem_append.mp hx with hx | hx
    · exact H.out.good x hx
    · rw [List.mem_singleton.mp hx]; exact HM.out) (by rw [List.length_append, HN.out]; exact hlt) (by rw [List.length_append, HXN.out]; rfl)
  exact ⟨rfl, _, ⟨_, _, hfin.1⟩, hfin.2⟩

end

theorem send_nil (r : Rm) (w : World) : Calls Tryz.prog 6 #[.pointer none, .agg r.cells] w fun e w' => e = .returned (.int .i64 1) ∧ Below w.heap.size w w' := by
  have HB := Lib.hid (below_one w (.cells r.cells 40))
  go_enter Tryz.func6, Tryz.ntmps6
  go_wp2
  go_ret
  exact ⟨rfl, HB.out⟩

set_option maxRecDepth 100000 in
set_option maxHeartbeats 1000000 in
theorem send_no (R : Nat) (r : Rm) (w : World) (h : MsgAt w r) (hno : sndMg r.m = false) : Calls Tryz.prog 6 #[.pointer (some ⟨R, 0, none⟩), .agg r.cells] w fun e w' => e = .returned (.int .i64 2) ∧ Below w.heap.size w w' := by
  show Calls Tryz.prog 6 #[.pointer (some ⟨R, 0, none⟩), .agg #[.int .i64 r.m.kind, .int .i64 r.m.frm, .int .i64 r.m.to, .int .i64 r.m.epoch, .int .i64 r.m.ent.seq, .int .i64 r.m.ent.client, .int .i64 r.m.ent.num, .int .i64 r.m.ent.op, .string (strB r.m.ent.key), .int .i64 r.m.ent.size, .int .u32 (r.m.ent.sum : Int), .slice r.loc r.el r.c, .int .i64 r.m.e, .slice r.fa r.fl r.fc, .slice r.ka r.kl r.kc, .int .i64 r.m.cep, .slice r.ma r.ml r.mc, .slice r.sa r.sl r.sc, .slice r.na r.nl r.nc]] w _
  have HX0 : Hid (Box (w.alloc (.cells #[.int .i64 r.m.kind, .int .i64 r.m.frm, .int .i64 r.m.to, .int .i64 r.m.epoch, .int .i64 r.m.ent.seq, .int .i64 r.m.ent.client, .int .i64 r.m.ent.num, .int .i64 r.m.ent.op, .string (strB r.m.ent.key), .int .i64 r.m.ent.size, .int .u32 (r.m.ent.sum : Int), .slice r.loc r.el r.c, .int .i64 r.m.e, .slice r.fa r.fl r.fc, .slice r.ka r.kl r.kc, .int .i64 r.m.cep, .slice r.ma r.ml r.mc, .slice r.sa r.sl r.sc, .slice r.na r.nl r.nc] 40)) w.heap.size r.cells) := box_new w r.cells 40 _ rfl
  have E0 : Hid (Ext w (w.alloc (.cells #[.int .i64 r.m.kind, .int .i64 r.m.frm, .int .i64 r.m.to, .int .i64 r.m.epoch, .int .i64 r.m.ent.seq, .int .i64 r.m.ent.client, .int .i64 r.m.ent.num, .int .i64 r.m.ent.op, .string (strB r.m.ent.key), .int .i64 r.m.ent.size, .int .u32 (r.m.ent.sum : Int), .slice r.loc r.el r.c, .int .i64 r.m.e, .slice r.fa r.fl r.fc, .slice r.ka r.kl r.kc, .int .i64 r.m.cep, .slice r.ma r.ml r.mc, .slice r.sa r.sl r.sc, .slice r.na r.nl r.nc] 40))) := below_one w _
  have HM0 := Lib.hid (h.below E0.out)
  have HN := Lib.hid hno
  clear h hno
  go_enter Tryz.func6, Tryz.ntmps6
  go_wp2_with (first | refine wpList_ldM _ _ _ rfl rfl rfl rfl HX0.out ?_ | (refine wpList_ung (by rfl) ?_; refine wpList_ldM _ _ _ rfl rfl rfl rfl HX0.out ?_))
  generalize (w.alloc (.cells #[.int .i64 r.m.kind, .int .i64 r.m.frm, .int .i64 r.m.to, .int .i64 r.m.epoch, .int .i64 r.m.ent.seq, .int .i64 r.m.ent.client, .int .i64 r.m.ent.num, .int .i64 r.m.ent.op, .string (strB r.m.ent.key), .int .i64 r.m.ent.size, .int .u32 (r.m.ent.sum : Int), .slice r.loc r.el r.c, .int .i64 r.m.e, .slice r.fa r.fl r.fc, .slice r.ka r.kl r.kc, .int .i64 r.m.cep, .slice r.ma r.ml r.mc, .slice r.sa r.sl r.sc, .slice r.na r.nl r.nc] 40)) = w0 at *
  refine (encMsg_no r _ HM0.out HN.out).mono ?_
  rintro e w1 ⟨rfl, hb⟩
  have E1 := Lib.hid (E0.out.trans hb)
  clear hb
  go_wp2
  go_ret
  exact ⟨rfl, E1.out⟩

/-- What Send of a sound message answers. -/
def RetSd (w : World) (base R : Nat) (N : List Nat) (ms : List Pm) (ks : List (Int × Int)) (m : Pm) (e : Ending) (w' : World) : Prop :=
  (ms.length < 1024 ∧ NtP w base R N (ms ++ [m]) ks (.int .i64 0) e w') ∨ (ms.length = 1024 ∧ NtP w base R N ms ks (.int .i64 5) e w')

set_option maxRecDepth 100000 in
set_option maxHeartbeats 1000000 in
theorem send_yes {w : World} {base R : Nat} {N : List Nat} {ms : List Pm} {ks : List (Int × Int)} (hN : Nt w base R N ms ks) (r : Rm) (h : MsgAt w r) (hy : sndMg r.m = true) : Calls Tryz.prog 6 #[.pointer (some ⟨R, 0, none⟩), .agg r.cells] w (RetSd w base R N ms ks r.m) := by
  show Calls Tryz.prog 6 #[.pointer (some ⟨R, 0, none⟩), .agg #[.int .i64 r.m.kind, .int .i64 r.m.frm, .int .i64 r.m.to, .int .i64 r.m.epoch, .int .i64 r.m.ent.seq, .int .i64 r.m.ent.client, .int .i64 r.m.ent.num, .int .i64 r.m.ent.op, .string (strB r.m.ent.key), .int .i64 r.m.ent.size, .int .u32 (r.m.ent.sum : Int), .slice r.loc r.el r.c, .int .i64 r.m.e, .slice r.fa r.fl r.fc, .slice r.ka r.kl r.kc, .int .i64 r.m.cep, .slice r.ma r.ml r.mc, .slice r.sa r.sl r.sc, .slice r.na r.nl r.nc]] w _
  obtain ⟨ga, o, hA⟩ := hN
  have HX0 : Hid (Box (w.alloc (.cells #[.int .i64 r.m.kind, .int .i64 r.m.frm, .int .i64 r.m.to, .int .i64 r.m.epoch, .int .i64 r.m.ent.seq, .int .i64 r.m.ent.client, .int .i64 r.m.ent.num, .int .i64 r.m.ent.op, .string (strB r.m.ent.key), .int .i64 r.m.ent.size, .int .u32 (r.m.ent.sum : Int), .slice r.loc r.el r.c, .int .i64 r.m.e, .slice r.fa r.fl r.fc, .slice r.ka r.kl r.kc, .int .i64 r.m.cep, .slice r.ma r.ml r.mc, .slice r.sa r.sl r.sc, .slice r.na r.nl r.nc] 40)) w.heap.size r.cells) := box_new w r.cells 40 _ rfl
  have E0 : Hid (Ext w (w.alloc (.cells #[.int .i64 r.m.kind, .int .i64 r.m.frm, .int .i64 r.m.to, .int .i64 r.m.epoch, .int .i64 r.m.ent.seq, .int .i64 r.m.ent.client, .int .i64 r.m.ent.num, .int .i64 r.m.ent.op, .string (strB r.m.ent.key), .int .i64 r.m.ent.size, .int .u32 (r.m.ent.sum : Int), .slice r.loc r.el r.c, .int .i64 r.m.e, .slice r.fa r.fl r.fc, .slice r.ka r.kl r.kc, .int .i64 r.m.cep, .slice r.ma r.ml r.mc, .slice r.sa r.sl r.sc, .slice r.na r.nl r.nc] 40))) := below_one w _
  have HM0 := Lib.hid (h.below E0.out)
  have HA0 := Lib.hid (hA.below E0.out)
  have HY := Lib.hid hy
  have hNw := hA.nLt
  clear h hy hA
  go_enter Tryz.func6, Tryz.ntmps6
  go_wp2_with (first | refine wpList_ldM _ _ _ rfl rfl rfl rfl HX0.out ?_ | (refine wpList_ung (by rfl) ?_; refine wpList_ldM _ _ _ rfl rfl rfl rfl HX0.out ?_))
  generalize (w.alloc (.cells #[.int .i64 r.m.kind, .int .i64 r.m.frm, .int .i64 r.m.to, .int .i64 r.m.epoch, .int .i64 r.m.ent.seq, .int .i64 r.m.ent.client, .int .i64 r.m.ent.num, .int .i64 r.m.ent.op, .string (strB r.m.ent.key), .int .i64 r.m.ent.size, .int .u32 (r.m.ent.sum : Int), .slice r.loc r.el r.c, .int .i64 r.m.e, .slice r.fa r.fl r.fc, .slice r.ka r.kl r.kc, .int .i64 r.m.cep, .slice r.ma r.ml r.mc, .slice r.sa r.sl r.sc, .slice r.na r.nl r.nc] 40)) = w0 at *
  refine (encMsg_yes r _ HM0.out HY.out).mono ?_
  rintro e w1 ⟨g, c, rfl, ho, hb⟩
  have hg := World.ownsRow.lt ho.own g rfl
  have HO := Lib.hid ho.seenAt
  have E1 := Lib.hid (E0.out.trans hb)
  have hz0 := E0.out.size
  have HA1 := Lib.hid ((HA0.out.below hb).more [g] (fun q hq => by simp at hq; subst hq; have := HA0.out.nLt R HA0.out.inR; omega))
  have HMV : Hid (Mv w w1 N ([g] ++ N)) := ⟨Chg.of_below E1.out, fun q hq => by
    simp at hq
    rcases hq with rfl | hq
    · right; omega
    · exact .inl hq⟩
  have HG : Hid (∀ q ∈ blk (some (⟨g, 0, none⟩ : Addr)), q ∈ [g] ++ N ∧ q ∉ blk ga ∧ q ≠ R ∧ o ≠ some q) := by
    intro q hq
    simp [blk] at hq
    subst hq
    have hnN : ∀ z ∈ N, z ≠ q := fun z hz e => by have := (hNw z hz).2; omega
    exact ⟨by simp, fun e => hnN q (HA0.out.inG q e) rfl, fun e => hnN R HA0.out.inR e.symm, fun e => hnN q (HA0.out.inO q e) rfl⟩
  have HW := Lib.hid HM0.out.wf
  clear ho hb HX0 HM0 HA0
  obtain ⟨l, hl⟩ : ∃ l, (encMg r.m).length = l := ⟨_, rfl⟩
  have HL := Lib.hid hl
  rw [hl]
  clear hl
  by_cases hlt : ms.length < 1024
  · go_wp2_with fail
    refine (bag_any HA1.out hlt (some ⟨g, 0, none⟩) c l r.m ⟨HW.out, HY.out⟩ HL.out HO.out HG.out).mono ?_
    rintro e w2 ⟨rfl, N', hN', hM'⟩
    have HFIN : Hid (RetSd w base R N ms ks r.m (.returned (.int .i64 0)) w2) := .inl ⟨hlt, rfl, N', hN', HMV.out.trans hM'⟩
    clear hN' hM'
    go_wp2
    go_ret
    exact HFIN.out
  · have hfull : 1024 ≤ ms.length := by omega
    go_wp2_with fail
    refine (bag_full HA1.out hfull _).mono ?_
    rintro e w2 ⟨rfl, rfl⟩
    have HFIN : Hid (RetSd w base R N ms ks r.m (.returned (.int .i64 5)) w1) := .inr ⟨by have := HA1.out.most; omega, rfl, _, ⟨_, _, HA1.out⟩, HMV.out⟩
    go_wp2
    go_ret
    exact HFIN.out

/-- No message is handed back. -/
def RetNoM (w : World) (v : Value) (e : Ending) (w' : World) : Prop := e = .returned (.tuple #[.agg #[.int .i64 0, .int .i64 0, .int .i64 0, .int .i64 0, .int .i64 0, .int .i64 0, .int .i64 0, .int .i64 0, .string ⟨#[]⟩, .int .i64 0, .int .u32 0, .slice none 0 0, .int .i64 0, .slice none 0 0, .slice none 0 0, .int .i64 0, .slice none 0 0, .slice none 0 0, .slice none 0 0], v]) ∧ Below w.heap.size w w'

set_option maxRecDepth 100000 in
set_option maxHeartbeats 1000000 in
theorem look_nil (i : Int) (w : World) : Calls Tryz.prog 17 #[.pointer none, .int .i64 i] w (RetNoM w (.bool false)) := by
  have HB0 : Hid (Below w.heap.size w (w.alloc (.cells #[.int .i64 0, .int .i64 0, .int .i64 0, .int .i64 0, .int .i64 0, .int .i64 0, .int .i64 0, .int .i64 0, .string ⟨#[]⟩, .int .i64 0, .int .u32 0, .slice none 0 0, .int .i64 0, .slice none 0 0, .slice none 0 0, .int .i64 0, .slice none 0 0, .slice none 0 0, .slice none 0 0] 40))) := below_one w _
  have HZ0 := Lib.hid (bx_new w #[.int .i64 0, .int .i64 0, .int .i64 0, .int .i64 0, .int .i64 0, .int .i64 0, .int .i64 0, .int .i64 0, .string ⟨#[]⟩, .int .i64 0, .int .u32 0, .slice none 0 0, .int .i64 0, .slice none 0 0, .slice none 0 0, .int .i64 0, .slice none 0 0, .slice none 0 0, .slice none 0 0] 40)
  go_enter Tryz.func17, Tryz.ntmps17
  go_wp2_with fail
  generalize (w.alloc (.cells #[.int .i64 0, .int .i64 0, .int .i64 0, .int .i64 0, .int .i64 0, .int .i64 0, .int .i64 0, .int .i64 0, .string ⟨#[]⟩, .int .i64 0, .int .u32 0, .slice none 0 0, .int .i64 0, .slice none 0 0, .slice none 0 0, .int .i64 0, .slice none 0 0, .slice none 0 0, .slice none 0 0] 40)) = w0 at *
  refine (plc_nil i _).mono ?_
  rintro e w1 ⟨rfl, rfl⟩
  go_wp2_with (refine wpList_st 40 19 (w.heap.size) 0 40 #[.int .i64 0, .int .i64 0, .int .i64 0, .int .i64 0, .int .i64 0, .int .i64 0, .int .i64 0, .int .i64 0, .string ⟨#[]⟩, .int .i64 0, .int .u32 0, .slice none 0 0, .int .i64 0, .slice none 0 0, .slice none 0 0, .int .i64 0, .slice none 0 0, .slice none 0 0, .slice none 0 0] #[.int .i64 0, .int .i64 0, .int .i64 0, .int .i64 0, .int .i64 0, .int .i64 0, .int .i64 0, .int .i64 0, .string ⟨#[]⟩, .int .i64 0, .int .u32 0, .slice none 0 0, .int .i64 0, .slice none 0 0, .slice none 0 0, .int .i64 0, .slice none 0 0, .slice none 0 0, .slice none 0 0] #[.int .i64 0, .int .i64 0, .int .i64 0, .int .i64 0, .int .i64 0, .int .i64 0, .int .i64 0, .int .i64 0, .string ⟨#[]⟩, .int .i64 0, .int .u32 0, .slice none 0 0, .int .i64 0, .slice none 0 0, .slice none 0 0, .int .i64 0, .slice none 0 0, .slice none 0 0, .slice none 0 0] _ _ rfl rfl rfl rfl rfl (by kernel_rfl) rfl HZ0.out (by simp) zero_ones rfl ?_; intro wf hx hc)
  have HF : Hid (RetNoM w (.bool false) (.returned (.tuple #[.agg #[.int .i64 0, .int .i64 0, .int .i64 0, .int .i64 0, .int .i64 0, .int .i64 0, .int .i64 0, .int .i64 0, .string ⟨#[]⟩, .int .i64 0, .int .u32 0, .slice none 0 0, .int .i64 0, .slice none 0 0, .slice none 0 0, .int .i64 0, .slice none 0 0, .slice none 0 0, .slice none 0 0], .bool false])) wf) := ⟨rfl, hc.below HB0.out HB0.out.size (by simp)⟩
  have hld := run_ldvM w.heap.size _ rfl hx.box
  refine bodyPost_ret (v := .tuple #[.agg #[.int .i64 0, .int .i64 0, .int .i64 0, .int .i64 0, .int .i64 0, .int .i64 0, .int .i64 0, .int .i64 0, .string ⟨#[]⟩, .int .i64 0, .int .u32 0, .slice none 0 0, .int .i64 0, .slice none 0 0, .slice none 0 0, .int .i64 0, .slice none 0 0, .slice none 0 0, .slice none 0 0], .bool false]) (results_cell2 Tryz.results17 rfl rfl hld) rfl ?_
  exact HF.out

set_option maxRecDepth 100000 in
set_option maxHeartbeats 1000000 in
theorem look_no {w : World} {base R : Nat} {N : List Nat} {ks : List (Int × Int)} (h : Nt w base R N [] ks) (i : Int) : Calls Tryz.prog 17 #[.pointer (some ⟨R, 0, none⟩), .int .i64 i] w (RetNoM w (.bool false)) := by
  have HB0 : Hid (Below w.heap.size w (w.alloc (.cells #[.int .i64 0, .int .i64 0, .int .i64 0, .int .i64 0, .int .i64 0, .int .i64 0, .int .i64 0, .int .i64 0, .string ⟨#[]⟩, .int .i64 0, .int .u32 0, .slice none 0 0, .int .i64 0, .slice none 0 0, .slice none 0 0, .int .i64 0, .slice none 0 0, .slice none 0 0, .slice none 0 0] 40))) := below_one w _
  have HZ0 := Lib.hid (bx_new w #[.int .i64 0, .int .i64 0, .int .i64 0, .int .i64 0, .int .i64 0, .int .i64 0, .int .i64 0, .int .i64 0, .string ⟨#[]⟩, .int .i64 0, .int .u32 0, .slice none 0 0, .int .i64 0, .slice none 0 0, .slice none 0 0, .int .i64 0, .slice none 0 0, .slice none 0 0, .slice none 0 0] 40)
  obtain ⟨ga, o, hA⟩ := h
  have HA0 := Lib.hid (hA.below HB0.out)
  clear hA
  go_enter Tryz.func17, Tryz.ntmps17
  go_wp2_with fail
  generalize (w.alloc (.cells #[.int .i64 0, .int .i64 0, .int .i64 0, .int .i64 0, .int .i64 0, .int .i64 0, .int .i64 0, .int .i64 0, .string ⟨#[]⟩, .int .i64 0, .int .u32 0, .slice none 0 0, .int .i64 0, .slice none 0 0, .slice none 0 0, .int .i64 0, .slice none 0 0, .slice none 0 0, .slice none 0 0] 40)) = w0 at *
  refine (plc_no HA0.out i).mono ?_
  rintro e w1 ⟨rfl, rfl⟩
  go_wp2_with (refine wpList_st 40 19 (w.heap.size) 0 40 #[.int .i64 0, .int .i64 0, .int .i64 0, .int .i64 0, .int .i64 0, .int .i64 0, .int .i64 0, .int .i64 0, .string ⟨#[]⟩, .int .i64 0, .int .u32 0, .slice none 0 0, .int .i64 0, .slice none 0 0, .slice none 0 0, .int .i64 0, .slice none 0 0, .slice none 0 0, .slice none 0 0] #[.int .i64 0, .int .i64 0, .int .i64 0, .int .i64 0, .int .i64 0, .int .i64 0, .int .i64 0, .int .i64 0, .string ⟨#[]⟩, .int .i64 0, .int .u32 0, .slice none 0 0, .int .i64 0, .slice none 0 0, .slice none 0 0, .int .i64 0, .slice none 0 0, .slice none 0 0, .slice none 0 0] #[.int .i64 0, .int .i64 0, .int .i64 0, .int .i64 0, .int .i64 0, .int .i64 0, .int .i64 0, .int .i64 0, .string ⟨#[]⟩, .int .i64 0, .int .u32 0, .slice none 0 0, .int .i64 0, .slice none 0 0, .slice none 0 0, .int .i64 0, .slice none 0 0, .slice none 0 0, .slice none 0 0] _ _ rfl rfl rfl rfl rfl (by kernel_rfl) rfl HZ0.out (by simp) zero_ones rfl ?_; intro wf hx hc)
  have HF : Hid (RetNoM w (.bool false) (.returned (.tuple #[.agg #[.int .i64 0, .int .i64 0, .int .i64 0, .int .i64 0, .int .i64 0, .int .i64 0, .int .i64 0, .int .i64 0, .string ⟨#[]⟩, .int .i64 0, .int .u32 0, .slice none 0 0, .int .i64 0, .slice none 0 0, .slice none 0 0, .int .i64 0, .slice none 0 0, .slice none 0 0, .slice none 0 0], .bool false])) wf) := ⟨rfl, hc.below HB0.out HB0.out.size (by simp)⟩
  have hld := run_ldvM w.heap.size _ rfl hx.box
  refine bodyPost_ret (v := .tuple #[.agg #[.int .i64 0, .int .i64 0, .int .i64 0, .int .i64 0, .int .i64 0, .int .i64 0, .int .i64 0, .int .i64 0, .string ⟨#[]⟩, .int .i64 0, .int .u32 0, .slice none 0 0, .int .i64 0, .slice none 0 0, .slice none 0 0, .int .i64 0, .slice none 0 0, .slice none 0 0, .slice none 0 0], .bool false]) (results_cell2 Tryz.results17 rfl rfl hld) rfl ?_
  exact HF.out

/-- Message m is handed back, in new memory. -/
def RetYesM (w : World) (m : Pm) (v : Value) (e : Ending) (w' : World) : Prop := ∃ r : Rm, r.m = m ∧ e = .returned (.tuple #[.agg r.cells, v]) ∧ Kept w.heap.size w' (fun w2 => MsgAt w2 r) ∧ Below w.heap.size w w'

theorem NtA.row {w : World} {base R : Nat} {ga : Option Addr} {o : Option Nat} {N : List Nat} {ms : List Pm} {ks : List (Int × Int)} (h : NtA w base R ga o N ms ks) (n p : Nat) (hn : ms.length = n) (hp : p < n) :
    ∃ g cap la lc l, ga = some ⟨g, 0, none⟩ ∧ w.cell? ⟨R, 0, none⟩ = some (.slice (some ⟨g, 0, none⟩) n cap) ∧ w.cell? ⟨g, p, none⟩ = some (.slice la l lc) ∧ (encMg (ms.getD p pm0)).length = l ∧ SeenAt w la lc (encMg (ms.getD p pm0)) ∧ n ≤ cap ∧ (∀ q ∈ blk la, q ∈ N ∧ q ∉ blk ga ∧ q ≠ R ∧ o ≠ some q) := by
  subst hn
  obtain ⟨cap, xs, hc, hr, hps, hx, hxl⟩ := h.count
  obtain ⟨g, hg, hrow⟩ := hr.row ⟨none, 0, []⟩ p (by omega)
  have hpx : p < xs.length := by omega
  have e1 : (xs.getD p ⟨none, 0, []⟩).ps = encMg (ms.getD p pm0) := by
    have := congrArg (fun z => z.getD p []) hps
    simpa [List.getD_eq_getElem?_getD, List.getElem?_map, List.getElem?_eq_getElem hpx, List.getElem?_eq_getElem hp] using this
  have hm : xs.getD p ⟨none, 0, []⟩ ∈ xs := by rw [List.getD_eq_getElem?_getD, List.getElem?_eq_getElem hpx]; exact List.getElem_mem _
  refine ⟨g, cap, (xs.getD p ⟨none, 0, []⟩).loc, (xs.getD p ⟨none, 0, []⟩).cap, _, hg, by rw [← hg]; exact hc, hrow, by rw [e1], by rw [← e1]; exact hr.seen _ hm, by have := hr.le; omega, fun q hq => ?_⟩
  have h1 := hx _ hm q hq
  exact ⟨h1.1, (hr.far _ hm q hq).1, h1.2⟩

theorem NtA.goodAt {w : World} {base R : Nat} {ga : Option Addr} {o : Option Nat} {N : List Nat} {ms : List Pm} {ks : List (Int × Int)} (h : NtA w base R ga o N ms ks) (p : Nat) (hp : p < ms.length) : (ms.getD p pm0).Wf ∧ sndMg (ms.getD p pm0) = true :=
  h.good _ (by rw [List.getD_eq_getElem?_getD, List.getElem?_eq_getElem hp]; exact List.getElem_mem _)

set_option maxRecDepth 100000 in
set_option maxHeartbeats 1000000 in
theorem look_any {w : World} {base R : Nat} {N : List Nat} {ms : List Pm} {ks : List (Int × Int)} (h : Nt w base R N ms ks) (n : Nat) (hn : ms.length = n) (h0 : 0 < n) (i : Int) (p : Nat) (hp : posI i n = p) :
    Calls Tryz.prog 17 #[.pointer (some ⟨R, 0, none⟩), .int .i64 i] w (RetYesM w (ms.getD p pm0) (.bool true)) := by
  have HB0 : Hid (Below w.heap.size w (w.alloc (.cells #[.int .i64 0, .int .i64 0, .int .i64 0, .int .i64 0, .int .i64 0, .int .i64 0, .int .i64 0, .int .i64 0, .string ⟨#[]⟩, .int .i64 0, .int .u32 0, .slice none 0 0, .int .i64 0, .slice none 0 0, .slice none 0 0, .int .i64 0, .slice none 0 0, .slice none 0 0, .slice none 0 0] 40))) := below_one w _
  have HZ0 := Lib.hid (bx_new w #[.int .i64 0, .int .i64 0, .int .i64 0, .int .i64 0, .int .i64 0, .int .i64 0, .int .i64 0, .int .i64 0, .string ⟨#[]⟩, .int .i64 0, .int .u32 0, .slice none 0 0, .int .i64 0, .slice none 0 0, .slice none 0 0, .int .i64 0, .slice none 0 0, .slice none 0 0, .slice none 0 0] 40)
  obtain ⟨ga, o, hA⟩ := h
  have HA0 := Lib.hid (hA.below HB0.out)
  have hpn : p < n := by rw [← hp]; exact posI_lt i n h0
  obtain ⟨g, cap, la, lc, l, _, hc0, hrow, hl, hs, hnc, _⟩ := HA0.out.row n p hn hpn
  have hcm : n ≤ 1024 := by have := HA0.out.most; omega
  have HL := Lib.hid hl
  have HS := Lib.hid hs
  have HG := Lib.hid (HA0.out.goodAt p (by omega))
  have HP := Lib.hid hp
  have HN := Lib.hid hn
  have HW0 : Hid (w.heap.size < (w.alloc (.cells #[.int .i64 0, .int .i64 0, .int .i64 0, .int .i64 0, .int .i64 0, .int .i64 0, .int .i64 0, .int .i64 0, .string ⟨#[]⟩, .int .i64 0, .int .u32 0, .slice none 0 0, .int .i64 0, .slice none 0 0, .slice none 0 0, .int .i64 0, .slice none 0 0, .slice none 0 0, .slice none 0 0] 40)).heap.size) := by show _ < _; simp
  clear hA hl hs hp hn
  generalize ms.getD p pm0 = m at *
  go_enter Tryz.func17, Tryz.ntmps17
  go_wp2_with fail
  generalize (w.alloc (.cells #[.int .i64 0, .int .i64 0, .int .i64 0, .int .i64 0, .int .i64 0, .int .i64 0, .int .i64 0, .int .i64 0, .string ⟨#[]⟩, .int .i64 0, .int .u32 0, .slice none 0 0, .int .i64 0, .slice none 0 0, .slice none 0 0, .int .i64 0, .slice none 0 0, .slice none 0 0, .slice none 0 0] 40)) = w0 at *
  refine (plc_any HA0.out n HN.out h0 i p HP.out).mono ?_
  rintro e w1 ⟨rfl, rfl⟩
  go_wp2_with fail
  refine (dec_kept la lc l m _ HG.out.1 HG.out.2 HL.out HS.out).mono ?_
  rintro e w1 ⟨r, hrm, rfl, hk, hb⟩
  have HRM := Lib.hid hrm
  have HK1 := Lib.hid hk
  have HZ1 := Lib.hid (HZ0.out.chg (gs := []) (Chg.of_below hb) (by simp))
  have HB1 := Lib.hid (HB0.out.trans (hb.mono HB0.out.size))
  clear hrm hk hb HZ0 HB0
  go_wp2_with (first | (refine wpList_st 40 19 (w1.heap.size) 0 40 r.cells #[.int .i64 0, .int .i64 0, .int .i64 0, .int .i64 0, .int .i64 0, .int .i64 0, .int .i64 0, .int .i64 0, .string ⟨#[]⟩, .int .i64 0, .int .u32 0, .slice none 0 0, .int .i64 0, .slice none 0 0, .slice none 0 0, .int .i64 0, .slice none 0 0, .slice none 0 0, .slice none 0 0] r.cells _ _ rfl rfl rfl rfl rfl (by kernel_rfl) rfl (bx_new w1 #[.int .i64 0, .int .i64 0, .int .i64 0, .int .i64 0, .int .i64 0, .int .i64 0, .int .i64 0, .int .i64 0, .string ⟨#[]⟩, .int .i64 0, .int .u32 0, .slice none 0 0, .int .i64 0, .slice none 0 0, .slice none 0 0, .int .i64 0, .slice none 0 0, .slice none 0 0, .slice none 0 0] 40) (by simp) (cells_ones r) rfl ?_; intro w2 hx2 hc2; have hb2 : Below w1.heap.size w1 w2 := hc2.below (below_one w1 _) (by simp) (by simp); have HX2 := Lib.hid hx2; have HZ2 := Lib.hid (HZ1.out.chg (gs := []) (Chg.of_below hb2) (by simp)); have HB2 := Lib.hid (HB1.out.trans (hb2.mono HB1.out.size)); have HK2 := Lib.hid (HK1.out.step (hs := []) (Chg.of_below hb2) (by simp)); clear hx2 hc2 hb2 HZ1 HB1 HK1) | refine wpList_ldM _ _ _ rfl rfl rfl rfl HX2.out.box ?_ | (refine wpList_ung (by rfl) ?_; refine wpList_ldM _ _ _ rfl rfl rfl rfl HX2.out.box ?_) | (refine wpList_st 40 19 (w.heap.size) 0 40 r.cells #[.int .i64 0, .int .i64 0, .int .i64 0, .int .i64 0, .int .i64 0, .int .i64 0, .int .i64 0, .int .i64 0, .string ⟨#[]⟩, .int .i64 0, .int .u32 0, .slice none 0 0, .int .i64 0, .slice none 0 0, .slice none 0 0, .int .i64 0, .slice none 0 0, .slice none 0 0, .slice none 0 0] r.cells _ _ rfl rfl rfl rfl rfl (by kernel_rfl) rfl HZ2.out (by simp) (cells_ones r) rfl ?_; intro wf hx hc))
  have HF : Hid (RetYesM w m (.bool true) (.returned (.tuple #[.agg r.cells, .bool true])) wf) := ⟨r, HRM.out, rfl, (HK2.out.step hc (by simp; exact HW0.out)).low (Nat.le_of_lt HW0.out), hc.below HB2.out HB2.out.size (by simp)⟩
  have hld := run_ldvM w.heap.size _ rfl hx.box
  refine bodyPost_ret (v := .tuple #[.agg r.cells, .bool true]) (results_cell2 Tryz.results17 rfl rfl hld) rfl ?_
  exact HF.out

theorem drop_nil (i : Int) (w : World) : Calls Tryz.prog 11 #[.pointer none, .int .i64 i] w fun e w' => e = .returned (.int .i64 4) ∧ w = w' := by
  go_enter Tryz.func11, Tryz.ntmps11
  go_wp2_with fail
  refine (plc_nil i _).mono ?_
  rintro e w1 ⟨rfl, rfl⟩
  go_wp2
  go_ret
  exact ⟨rfl, rfl⟩

theorem drop_no {w : World} {base R : Nat} {N : List Nat} {ks : List (Int × Int)} (h : Nt w base R N [] ks) (i : Int) : Calls Tryz.prog 11 #[.pointer (some ⟨R, 0, none⟩), .int .i64 i] w fun e w' => e = .returned (.int .i64 4) ∧ w = w' := by
  obtain ⟨ga, o, hA⟩ := h
  have HA := Lib.hid hA
  clear hA
  go_enter Tryz.func11, Tryz.ntmps11
  go_wp2_with fail
  refine (plc_no HA.out i).mono ?_
  rintro e w1 ⟨rfl, rfl⟩
  go_wp2
  go_ret
  exact ⟨rfl, rfl⟩

set_option maxRecDepth 100000 in
set_option maxHeartbeats 1000000 in
theorem drop_any {w : World} {base R : Nat} {N : List Nat} {ms : List Pm} {ks : List (Int × Int)} (h : Nt w base R N ms ks) (n : Nat) (hn : ms.length = n) (h0 : 0 < n) (i : Int) (p : Nat) (hp : posI i n = p) :
    Calls Tryz.prog 11 #[.pointer (some ⟨R, 0, none⟩), .int .i64 i] w (NtP w base R N (ms.eraseIdx p) ks (.int .i64 0)) := by
  obtain ⟨ga, o, hA⟩ := h
  have hpn : p < n := by rw [← hp]; exact posI_lt i n h0
  have hcm : n ≤ 1024 := by have := hA.most; omega
  obtain ⟨cap, xs, hc, hr, hps, hx, hxl⟩ := hA.count
  rw [hn] at hc hxl
  obtain ⟨g, rfl⟩ : ∃ g, ga = some ⟨g, 0, none⟩ := by
    rcases hr.cases with ⟨_, h2, _⟩ | h2
    · rw [h2] at hxl; simp at hxl; omega
    · exact h2
  have hRlt := hA.nLt R hA.inR
  have hfr := hA.free 0
  have HA := Lib.hid hA
  have HR := Lib.hid hr
  have HPS := Lib.hid hps
  have HX := Lib.hid hx
  have HXL := Lib.hid hxl
  have HP := Lib.hid hp
  have HN := Lib.hid hn
  clear hA hr hps hx hxl hp hn
  go_enter Tryz.func11, Tryz.ntmps11
  go_wp2_with fail
  refine (plc_any HA.out n HN.out h0 i p HP.out).mono ?_
  rintro e w1 ⟨rfl, rfl⟩
  go_wp2_with fail
  refine (del_any HR.out p n HXL.out hpn).mono ?_
  rintro e w1 ⟨n', hn', rfl, hr1, hc1⟩
  have hcc : w1.cell? ⟨R, 0, none⟩ = some (.slice (some ⟨g, 0, none⟩) n cap) := hc1.cell hc HA.out.neG
  have hff : w1.frozen? ⟨R, 0, none⟩ = false := (World.frozen?_of_block (hc1.block R hRlt.2 HA.out.neG)).trans hfr
  have hfin := HA.out.put (gs := [g]) hc1 (fun q hq => by simpa [blk] using hq) hr1 (ms' := ms.eraseIdx p) (n := n') (fun q hq => .inl hq) (fun x hx q hq => HX.out x ((List.eraseIdx_sublist _ _).subset hx) q hq) (by rw [map_eraseI, HPS.out, map_eraseI]) (fun m hm => HA.out.good m ((List.eraseIdx_sublist _ _).subset hm)) (by have := HN.out; have := List.length_eraseIdx_le ms p; omega) (by rw [List.length_eraseIdx_of_lt (by have := HXL.out; omega), HXL.out]; omega)
  have HFIN : Hid (NtP w base R N (ms.eraseIdx p) ks (.int .i64 0) (.returned (.int .i64 0)) (w1.setCell ⟨R, 0, none⟩ (.slice (some ⟨g, 0, none⟩) n' cap))) := ⟨rfl, _, ⟨_, _, hfin.1⟩, hfin.2⟩
  clear hfin hr1 hc1
  go_wp2
  go_ret
  exact HFIN.out

theorem dup_nil (i : Int) (w : World) : Calls Tryz.prog 12 #[.pointer none, .int .i64 i] w fun e w' => e = .returned (.int .i64 4) ∧ w = w' := by
  go_enter Tryz.func12, Tryz.ntmps12
  go_wp2_with fail
  refine (plc_nil i _).mono ?_
  rintro e w1 ⟨rfl, rfl⟩
  go_wp2
  go_ret
  exact ⟨rfl, rfl⟩

theorem dup_no {w : World} {base R : Nat} {N : List Nat} {ks : List (Int × Int)} (h : Nt w base R N [] ks) (i : Int) : Calls Tryz.prog 12 #[.pointer (some ⟨R, 0, none⟩), .int .i64 i] w fun e w' => e = .returned (.int .i64 4) ∧ w = w' := by
  obtain ⟨ga, o, hA⟩ := h
  have HA := Lib.hid hA
  clear hA
  go_enter Tryz.func12, Tryz.ntmps12
  go_wp2_with fail
  refine (plc_no HA.out i).mono ?_
  rintro e w1 ⟨rfl, rfl⟩
  go_wp2
  go_ret
  exact ⟨rfl, rfl⟩

set_option maxRecDepth 100000 in
set_option maxHeartbeats 1000000 in
theorem dup_any {w : World} {base R : Nat} {N : List Nat} {ms : List Pm} {ks : List (Int × Int)} (h : Nt w base R N ms ks) (n : Nat) (hn : ms.length = n) (h0 : 0 < n) (i : Int) (p : Nat) (hp : posI i n = p) :
    Calls Tryz.prog 12 #[.pointer (some ⟨R, 0, none⟩), .int .i64 i] w (RetSd w base R N ms ks (ms.getD p pm0)) := by
  obtain ⟨ga, o, hA⟩ := h
  have hpn : p < n := by rw [← hp]; exact posI_lt i n h0
  have hcm : n ≤ 1024 := by have := hA.most; omega
  obtain ⟨g, cap, la, lc, l, _, hc0, hrow, hl, hs, hnc, hq⟩ := hA.row n p hn hpn
  have HL := Lib.hid hl
  have HS := Lib.hid hs
  have HG := Lib.hid (hA.goodAt p (by omega))
  have HQ := Lib.hid hq
  have HA := Lib.hid hA
  have HP := Lib.hid hp
  have HN := Lib.hid hn
  clear hA hl hs hp hn hq
  generalize ms.getD p pm0 = m at *
  go_enter Tryz.func12, Tryz.ntmps12
  go_wp2_with fail
  refine (plc_any HA.out n HN.out h0 i p HP.out).mono ?_
  rintro e w1 ⟨rfl, rfl⟩
  by_cases hlt : ms.length < 1024
  · go_wp2_with fail
    refine (bag_any HA.out hlt la lc l m HG.out HL.out HS.out HQ.out).mono ?_
    rintro e w2 ⟨rfl, N', hN', hM'⟩
    have HFIN : Hid (RetSd w base R N ms ks m (.returned (.int .i64 0)) w2) := .inl ⟨hlt, rfl, N', hN', hM'⟩
    clear hN' hM'
    go_wp2
    go_ret
    exact HFIN.out
  · have hfull : 1024 ≤ ms.length := by omega
    go_wp2_with fail
    refine (bag_full HA.out hfull _).mono ?_
    rintro e w2 ⟨rfl, rfl⟩
    have HFIN : Hid (RetSd w base R N ms ks m (.returned (.int .i64 5)) w) := .inr ⟨by have := HN.out; omega, rfl, _, ⟨_, _, HA.out⟩, Mv.refl _ _⟩
    go_wp2
    go_ret
    exact HFIN.out

end Go.Proofs.YtggjpjpemgpeeaaGreat

namespace Go.Proofs.YtggjpjpemgpeeaaGreat
open Go.RowKit



/-- A struct is stored into a block of the call's own, inside a region. -/
theorem wp_stS {o : Oper} {a : Act} {K : Act → World → Prop} {Q : Exit → Act → World → Prop} {w : World} (t : TypeId) (n B off : Nat) (t' : TypeId) (C D D' : Array Value) (x y : Operand) (ho : o.op = .store t x y) (hd : o.dst = none)
    (hx : a.eval x = .pointer (some ⟨B, off, none⟩)) (hy : a.eval y = .agg C) (hs : (sizeOf t).run Tryz.prog w = .ok n w) (hn : C.size = n) (hb : Bx w B t' D) (hf : off + n ≤ D.size) (h1 : ∀ v ∈ C.toList, v.oneCell' = true)
    (hD : (D.toList.take off ++ C.toList ++ D.toList.drop (off + n)).toArray = D')
    (h : ∀ w', Bx w' B t' D' → Chg [B] w w' → K a w') : Oper.wp Tryz.prog o a w K Q := by
  have hrun := run_st t n B off t' C D D' hs hn hb hf h1 hD
  unfold Oper.wp
  simp [execOp, ho, hx, hy, hrun, Result.andThen]
  show K (a.put o.dst undef) _
  rw [hd]
  exact h _ (setRow_heap w B D D' t' (0, 0) hb) (chg_row w B D')

set_option maxRecDepth 100000 in
set_option maxHeartbeats 1000000 in
theorem dlv_nil (i : Int) (w : World) : Calls Tryz.prog 8 #[.pointer none, .int .i64 i] w (RetNoM w (.int .i64 4)) := by
  have HB0 : Hid (Below w.heap.size w (w.alloc (.cells #[.int .i64 0, .int .i64 0, .int .i64 0, .int .i64 0, .int .i64 0, .int .i64 0, .int .i64 0, .int .i64 0, .string ⟨#[]⟩, .int .i64 0, .int .u32 0, .slice none 0 0, .int .i64 0, .slice none 0 0, .slice none 0 0, .int .i64 0, .slice none 0 0, .slice none 0 0, .slice none 0 0] 40))) := below_one w _
  have HZ0 := Lib.hid (bx_new w #[.int .i64 0, .int .i64 0, .int .i64 0, .int .i64 0, .int .i64 0, .int .i64 0, .int .i64 0, .int .i64 0, .string ⟨#[]⟩, .int .i64 0, .int .u32 0, .slice none 0 0, .int .i64 0, .slice none 0 0, .slice none 0 0, .int .i64 0, .slice none 0 0, .slice none 0 0, .slice none 0 0] 40)
  go_enter Tryz.func8, Tryz.ntmps8
  go_wp2_with fail
  generalize (w.alloc (.cells #[.int .i64 0, .int .i64 0, .int .i64 0, .int .i64 0, .int .i64 0, .int .i64 0, .int .i64 0, .int .i64 0, .string ⟨#[]⟩, .int .i64 0, .int .u32 0, .slice none 0 0, .int .i64 0, .slice none 0 0, .slice none 0 0, .int .i64 0, .slice none 0 0, .slice none 0 0, .slice none 0 0] 40)) = w0 at *
  refine (look_nil i _).mono ?_
  rintro e w1 ⟨rfl, hb⟩
  have HZ1 := Lib.hid (HZ0.out.chg (gs := []) (Chg.of_below hb) (by simp))
  have HB1 := Lib.hid (HB0.out.trans (hb.mono HB0.out.size))
  clear hb HZ0 HB0
  go_wp2_with (first | (refine wpList_st 40 19 (w1.heap.size) 0 40 #[.int .i64 0, .int .i64 0, .int .i64 0, .int .i64 0, .int .i64 0, .int .i64 0, .int .i64 0, .int .i64 0, .string ⟨#[]⟩, .int .i64 0, .int .u32 0, .slice none 0 0, .int .i64 0, .slice none 0 0, .slice none 0 0, .int .i64 0, .slice none 0 0, .slice none 0 0, .slice none 0 0] #[.int .i64 0, .int .i64 0, .int .i64 0, .int .i64 0, .int .i64 0, .int .i64 0, .int .i64 0, .int .i64 0, .string ⟨#[]⟩, .int .i64 0, .int .u32 0, .slice none 0 0, .int .i64 0, .slice none 0 0, .slice none 0 0, .int .i64 0, .slice none 0 0, .slice none 0 0, .slice none 0 0] #[.int .i64 0, .int .i64 0, .int .i64 0, .int .i64 0, .int .i64 0, .int .i64 0, .int .i64 0, .int .i64 0, .string ⟨#[]⟩, .int .i64 0, .int .u32 0, .slice none 0 0, .int .i64 0, .slice none 0 0, .slice none 0 0, .int .i64 0, .slice none 0 0, .slice none 0 0, .slice none 0 0] _ _ rfl rfl rfl rfl rfl (by kernel_rfl) rfl (bx_new w1 #[.int .i64 0, .int .i64 0, .int .i64 0, .int .i64 0, .int .i64 0, .int .i64 0, .int .i64 0, .int .i64 0, .string ⟨#[]⟩, .int .i64 0, .int .u32 0, .slice none 0 0, .int .i64 0, .slice none 0 0, .slice none 0 0, .int .i64 0, .slice none 0 0, .slice none 0 0, .slice none 0 0] 40) (by simp) zero_ones rfl ?_; intro w2 hx2 hc2; have hb2 : Below w1.heap.size w1 w2 := hc2.below (below_one w1 _) (by simp) (by simp); have HZ2 := Lib.hid (HZ1.out.chg (gs := []) (Chg.of_below hb2) (by simp)); have HB2 := Lib.hid (HB1.out.trans (hb2.mono HB1.out.size)); clear hx2 hc2 hb2 HZ1 HB1) | (refine wpList_st 40 19 (w.heap.size) 0 40 #[.int .i64 0, .int .i64 0, .int .i64 0, .int .i64 0, .int .i64 0, .int .i64 0, .int .i64 0, .int .i64 0, .string ⟨#[]⟩, .int .i64 0, .int .u32 0, .slice none 0 0, .int .i64 0, .slice none 0 0, .slice none 0 0, .int .i64 0, .slice none 0 0, .slice none 0 0, .slice none 0 0] #[.int .i64 0, .int .i64 0, .int .i64 0, .int .i64 0, .int .i64 0, .int .i64 0, .int .i64 0, .int .i64 0, .string ⟨#[]⟩, .int .i64 0, .int .u32 0, .slice none 0 0, .int .i64 0, .slice none 0 0, .slice none 0 0, .int .i64 0, .slice none 0 0, .slice none 0 0, .slice none 0 0] #[.int .i64 0, .int .i64 0, .int .i64 0, .int .i64 0, .int .i64 0, .int .i64 0, .int .i64 0, .int .i64 0, .string ⟨#[]⟩, .int .i64 0, .int .u32 0, .slice none 0 0, .int .i64 0, .slice none 0 0, .slice none 0 0, .int .i64 0, .slice none 0 0, .slice none 0 0, .slice none 0 0] _ _ rfl rfl rfl rfl rfl (by kernel_rfl) rfl HZ2.out (by simp) zero_ones rfl ?_; intro wf hx hc))
  have HF : Hid (RetNoM w (.int .i64 4) (.returned (.tuple #[.agg #[.int .i64 0, .int .i64 0, .int .i64 0, .int .i64 0, .int .i64 0, .int .i64 0, .int .i64 0, .int .i64 0, .string ⟨#[]⟩, .int .i64 0, .int .u32 0, .slice none 0 0, .int .i64 0, .slice none 0 0, .slice none 0 0, .int .i64 0, .slice none 0 0, .slice none 0 0, .slice none 0 0], .int .i64 4])) wf) := ⟨rfl, hc.below HB2.out HB2.out.size (by simp)⟩
  have hld := run_ldvM w.heap.size _ rfl hx.box
  refine bodyPost_ret (v := .tuple #[.agg #[.int .i64 0, .int .i64 0, .int .i64 0, .int .i64 0, .int .i64 0, .int .i64 0, .int .i64 0, .int .i64 0, .string ⟨#[]⟩, .int .i64 0, .int .u32 0, .slice none 0 0, .int .i64 0, .slice none 0 0, .slice none 0 0, .int .i64 0, .slice none 0 0, .slice none 0 0, .slice none 0 0], .int .i64 4]) (results_cell2 Tryz.results8 rfl rfl hld) rfl ?_
  exact HF.out

set_option maxRecDepth 100000 in
set_option maxHeartbeats 1000000 in
theorem dlv_no {w : World} {base R : Nat} {N : List Nat} {ks : List (Int × Int)} (h : Nt w base R N [] ks) (i : Int) : Calls Tryz.prog 8 #[.pointer (some ⟨R, 0, none⟩), .int .i64 i] w (RetNoM w (.int .i64 4)) := by
  have HB0 : Hid (Below w.heap.size w (w.alloc (.cells #[.int .i64 0, .int .i64 0, .int .i64 0, .int .i64 0, .int .i64 0, .int .i64 0, .int .i64 0, .int .i64 0, .string ⟨#[]⟩, .int .i64 0, .int .u32 0, .slice none 0 0, .int .i64 0, .slice none 0 0, .slice none 0 0, .int .i64 0, .slice none 0 0, .slice none 0 0, .slice none 0 0] 40))) := below_one w _
  have HZ0 := Lib.hid (bx_new w #[.int .i64 0, .int .i64 0, .int .i64 0, .int .i64 0, .int .i64 0, .int .i64 0, .int .i64 0, .int .i64 0, .string ⟨#[]⟩, .int .i64 0, .int .u32 0, .slice none 0 0, .int .i64 0, .slice none 0 0, .slice none 0 0, .int .i64 0, .slice none 0 0, .slice none 0 0, .slice none 0 0] 40)
  have HA0 := Lib.hid (h.below HB0.out)
  clear h
  go_enter Tryz.func8, Tryz.ntmps8
  go_wp2_with fail
  generalize (w.alloc (.cells #[.int .i64 0, .int .i64 0, .int .i64 0, .int .i64 0, .int .i64 0, .int .i64 0, .int .i64 0, .int .i64 0, .string ⟨#[]⟩, .int .i64 0, .int .u32 0, .slice none 0 0, .int .i64 0, .slice none 0 0, .slice none 0 0, .int .i64 0, .slice none 0 0, .slice none 0 0, .slice none 0 0] 40)) = w0 at *
  refine (look_no HA0.out i).mono ?_
  rintro e w1 ⟨rfl, hb⟩
  have HZ1 := Lib.hid (HZ0.out.chg (gs := []) (Chg.of_below hb) (by simp))
  have HB1 := Lib.hid (HB0.out.trans (hb.mono HB0.out.size))
  clear hb HZ0 HB0
  go_wp2_with (first | (refine wpList_st 40 19 (w1.heap.size) 0 40 #[.int .i64 0, .int .i64 0, .int .i64 0, .int .i64 0, .int .i64 0, .int .i64 0, .int .i64 0, .int .i64 0, .string ⟨#[]⟩, .int .i64 0, .int .u32 0, .slice none 0 0, .int .i64 0, .slice none 0 0, .slice none 0 0, .int .i64 0, .slice none 0 0, .slice none 0 0, .slice none 0 0] #[.int .i64 0, .int .i64 0, .int .i64 0, .int .i64 0, .int .i64 0, .int .i64 0, .int .i64 0, .int .i64 0, .string ⟨#[]⟩, .int .i64 0, .int .u32 0, .slice none 0 0, .int .i64 0, .slice none 0 0, .slice none 0 0, .int .i64 0, .slice none 0 0, .slice none 0 0, .slice none 0 0] #[.int .i64 0, .int .i64 0, .int .i64 0, .int .i64 0, .int .i64 0, .int .i64 0, .int .i64 0, .int .i64 0, .string ⟨#[]⟩, .int .i64 0, .int .u32 0, .slice none 0 0, .int .i64 0, .slice none 0 0, .slice none 0 0, .int .i64 0, .slice none 0 0, .slice none 0 0, .slice none 0 0] _ _ rfl rfl rfl rfl rfl (by kernel_rfl) rfl (bx_new w1 #[.int .i64 0, .int .i64 0, .int .i64 0, .int .i64 0, .int .i64 0, .int .i64 0, .int .i64 0, .int .i64 0, .string ⟨#[]⟩, .int .i64 0, .int .u32 0, .slice none 0 0, .int .i64 0, .slice none 0 0, .slice none 0 0, .int .i64 0, .slice none 0 0, .slice none 0 0, .slice none 0 0] 40) (by simp) zero_ones rfl ?_; intro w2 hx2 hc2; have hb2 : Below w1.heap.size w1 w2 := hc2.below (below_one w1 _) (by simp) (by simp); have HZ2 := Lib.hid (HZ1.out.chg (gs := []) (Chg.of_below hb2) (by simp)); have HB2 := Lib.hid (HB1.out.trans (hb2.mono HB1.out.size)); clear hx2 hc2 hb2 HZ1 HB1) | (refine wpList_st 40 19 (w.heap.size) 0 40 #[.int .i64 0, .int .i64 0, .int .i64 0, .int .i64 0, .int .i64 0, .int .i64 0, .int .i64 0, .int .i64 0, .string ⟨#[]⟩, .int .i64 0, .int .u32 0, .slice none 0 0, .int .i64 0, .slice none 0 0, .slice none 0 0, .int .i64 0, .slice none 0 0, .slice none 0 0, .slice none 0 0] #[.int .i64 0, .int .i64 0, .int .i64 0, .int .i64 0, .int .i64 0, .int .i64 0, .int .i64 0, .int .i64 0, .string ⟨#[]⟩, .int .i64 0, .int .u32 0, .slice none 0 0, .int .i64 0, .slice none 0 0, .slice none 0 0, .int .i64 0, .slice none 0 0, .slice none 0 0, .slice none 0 0] #[.int .i64 0, .int .i64 0, .int .i64 0, .int .i64 0, .int .i64 0, .int .i64 0, .int .i64 0, .int .i64 0, .string ⟨#[]⟩, .int .i64 0, .int .u32 0, .slice none 0 0, .int .i64 0, .slice none 0 0, .slice none 0 0, .int .i64 0, .slice none 0 0, .slice none 0 0, .slice none 0 0] _ _ rfl rfl rfl rfl rfl (by kernel_rfl) rfl HZ2.out (by simp) zero_ones rfl ?_; intro wf hx hc))
  have HF : Hid (RetNoM w (.int .i64 4) (.returned (.tuple #[.agg #[.int .i64 0, .int .i64 0, .int .i64 0, .int .i64 0, .int .i64 0, .int .i64 0, .int .i64 0, .int .i64 0, .string ⟨#[]⟩, .int .i64 0, .int .u32 0, .slice none 0 0, .int .i64 0, .slice none 0 0, .slice none 0 0, .int .i64 0, .slice none 0 0, .slice none 0 0, .slice none 0 0], .int .i64 4])) wf) := ⟨rfl, hc.below HB2.out HB2.out.size (by simp)⟩
  have hld := run_ldvM w.heap.size _ rfl hx.box
  refine bodyPost_ret (v := .tuple #[.agg #[.int .i64 0, .int .i64 0, .int .i64 0, .int .i64 0, .int .i64 0, .int .i64 0, .int .i64 0, .int .i64 0, .string ⟨#[]⟩, .int .i64 0, .int .u32 0, .slice none 0 0, .int .i64 0, .slice none 0 0, .slice none 0 0, .int .i64 0, .slice none 0 0, .slice none 0 0, .slice none 0 0], .int .i64 4]) (results_cell2 Tryz.results8 rfl rfl hld) rfl ?_
  exact HF.out

theorem bigP_of {a b : Int} (ha : I64 a) (hb : I64 b) : BigP (lkP a b) := by
  unfold BigP lkP
  unfold I64 at *
  refine ⟨⟨?_, ?_⟩, ⟨?_, ?_⟩⟩ <;> simp only <;> omega

set_option maxRecDepth 100000 in
set_option maxHeartbeats 1000000 in
theorem dlv_cut {w : World} {base R : Nat} {N : List Nat} {ms : List Pm} {ks : List (Int × Int)} (h : Nt w base R N ms ks) (n : Nat) (hn : ms.length = n) (h0 : 0 < n) (i : Int) (p : Nat) (hp : posI i n = p) (hcut : lkP (ms.getD p pm0).frm (ms.getD p pm0).to ∈ ks) : Calls Tryz.prog 8 #[.pointer (some ⟨R, 0, none⟩), .int .i64 i] w (RetNoM w (.int .i64 7)) := by
  have HB0 : Hid (Below w.heap.size w (w.alloc (.cells #[.int .i64 0, .int .i64 0, .int .i64 0, .int .i64 0, .int .i64 0, .int .i64 0, .int .i64 0, .int .i64 0, .string ⟨#[]⟩, .int .i64 0, .int .u32 0, .slice none 0 0, .int .i64 0, .slice none 0 0, .slice none 0 0, .int .i64 0, .slice none 0 0, .slice none 0 0, .slice none 0 0] 40))) := below_one w _
  have HZ0 := Lib.hid (bx_new w #[.int .i64 0, .int .i64 0, .int .i64 0, .int .i64 0, .int .i64 0, .int .i64 0, .int .i64 0, .int .i64 0, .string ⟨#[]⟩, .int .i64 0, .int .u32 0, .slice none 0 0, .int .i64 0, .slice none 0 0, .slice none 0 0, .int .i64 0, .slice none 0 0, .slice none 0 0, .slice none 0 0] 40)
  have hpn : p < n := by rw [← hp]; exact posI_lt i n h0
  have HA0 := Lib.hid (h.below HB0.out)
  have HG : Hid ((ms.getD p pm0).Wf ∧ sndMg (ms.getD p pm0) = true) := h.good _ (by rw [List.getD_eq_getElem?_getD, List.getElem?_eq_getElem (by omega)]; exact List.getElem_mem _)
  have HP := Lib.hid hp
  have HN := Lib.hid hn
  have HNL := Lib.hid h.nLt
  have HC := Lib.hid hcut
  have HW0 : Hid (w.heap.size < (w.alloc (.cells #[.int .i64 0, .int .i64 0, .int .i64 0, .int .i64 0, .int .i64 0, .int .i64 0, .int .i64 0, .int .i64 0, .string ⟨#[]⟩, .int .i64 0, .int .u32 0, .slice none 0 0, .int .i64 0, .slice none 0 0, .slice none 0 0, .int .i64 0, .slice none 0 0, .slice none 0 0, .slice none 0 0] 40)).heap.size) := by show _ < _; simp
  clear h hp hn hcut
  go_enter Tryz.func8, Tryz.ntmps8
  go_wp2_with fail
  generalize (w.alloc (.cells #[.int .i64 0, .int .i64 0, .int .i64 0, .int .i64 0, .int .i64 0, .int .i64 0, .int .i64 0, .int .i64 0, .string ⟨#[]⟩, .int .i64 0, .int .u32 0, .slice none 0 0, .int .i64 0, .slice none 0 0, .slice none 0 0, .int .i64 0, .slice none 0 0, .slice none 0 0, .slice none 0 0] 40)) = w0 at *
  refine (look_any HA0.out n HN.out h0 i p HP.out).mono ?_
  rintro e w1 ⟨r, hrm, rfl, hk, hb⟩
  have HRM := Lib.hid hrm
  have HK1 := Lib.hid hk
  have HA1 := Lib.hid (HA0.out.below hb)
  have HZ1 := Lib.hid (HZ0.out.chg (gs := []) (Chg.of_below hb) (by simp))
  have HB1 := Lib.hid (HB0.out.trans (hb.mono HB0.out.size))
  have HW1 : Hid (w0.heap.size ≤ w1.heap.size) := hb.size
  have HBIG : Hid (BigP (lkP r.m.frm r.m.to)) := bigP_of (by rw [hrm]; exact HG.out.1.frm) (by rw [hrm]; exact HG.out.1.to)
  clear hrm hk hb HZ0 HB0 HA0
  go_wp2_with (refine wpList_st 40 19 (w1.heap.size) 0 40 r.cells #[.int .i64 0, .int .i64 0, .int .i64 0, .int .i64 0, .int .i64 0, .int .i64 0, .int .i64 0, .int .i64 0, .string ⟨#[]⟩, .int .i64 0, .int .u32 0, .slice none 0 0, .int .i64 0, .slice none 0 0, .slice none 0 0, .int .i64 0, .slice none 0 0, .slice none 0 0, .slice none 0 0] r.cells _ _ rfl rfl rfl rfl rfl (by kernel_rfl) rfl (bx_new w1 #[.int .i64 0, .int .i64 0, .int .i64 0, .int .i64 0, .int .i64 0, .int .i64 0, .int .i64 0, .int .i64 0, .string ⟨#[]⟩, .int .i64 0, .int .u32 0, .slice none 0 0, .int .i64 0, .slice none 0 0, .slice none 0 0, .int .i64 0, .slice none 0 0, .slice none 0 0, .slice none 0 0] 40) (by simp) (cells_ones r) rfl ?_; intro w2 hx2 hc2; have hfm : w2.cell? ⟨w1.heap.size, 1, none⟩ = some (.int .i64 r.m.frm) := hx2.box 1 _ rfl; have hto : w2.cell? ⟨w1.heap.size, 2, none⟩ = some (.int .i64 r.m.to) := hx2.box 2 _ rfl; have hb2 : Below w1.heap.size w1 w2 := hc2.below (below_one w1 _) (by simp) (by simp); have HA2 := Lib.hid (HA1.out.below hb2); have HX2 := Lib.hid hx2; have HZ2 := Lib.hid (HZ1.out.chg (gs := []) (Chg.of_below hb2) (by simp)); have HB2 := Lib.hid (HB1.out.trans (hb2.mono HB1.out.size)); have HK2 := Lib.hid (HK1.out.step (hs := []) (Chg.of_below hb2) (by simp)); clear hx2 hc2 hb2 HZ1 HB1 HK1 HA1)
  refine (link_any _ _ _).mono ?_
  rintro e w3 ⟨rfl, rfl⟩
  obtain ⟨ga2, o2, hA2⟩ := HA2.out
  have HA2' := Lib.hid hA2
  clear hA2
  go_wp2_with fail
  refine (isCut_any HA2'.out (lkP r.m.frm r.m.to) HBIG.out).mono ?_
  rw [decide_eq_true (by rw [HRM.out]; exact HC.out)]
  rintro e w3 ⟨rfl, hb3⟩
  have HZ3 := Lib.hid (HZ2.out.chg (gs := []) (Chg.of_below hb3) (by simp))
  have HB3 := Lib.hid (HB2.out.trans (hb3.mono HB2.out.size))
  clear hb3 HZ2 HB2
  go_wp2_with (refine wpList_st 40 19 (w.heap.size) 0 40 #[.int .i64 0, .int .i64 0, .int .i64 0, .int .i64 0, .int .i64 0, .int .i64 0, .int .i64 0, .int .i64 0, .string ⟨#[]⟩, .int .i64 0, .int .u32 0, .slice none 0 0, .int .i64 0, .slice none 0 0, .slice none 0 0, .int .i64 0, .slice none 0 0, .slice none 0 0, .slice none 0 0] #[.int .i64 0, .int .i64 0, .int .i64 0, .int .i64 0, .int .i64 0, .int .i64 0, .int .i64 0, .int .i64 0, .string ⟨#[]⟩, .int .i64 0, .int .u32 0, .slice none 0 0, .int .i64 0, .slice none 0 0, .slice none 0 0, .int .i64 0, .slice none 0 0, .slice none 0 0, .slice none 0 0] #[.int .i64 0, .int .i64 0, .int .i64 0, .int .i64 0, .int .i64 0, .int .i64 0, .int .i64 0, .int .i64 0, .string ⟨#[]⟩, .int .i64 0, .int .u32 0, .slice none 0 0, .int .i64 0, .slice none 0 0, .slice none 0 0, .int .i64 0, .slice none 0 0, .slice none 0 0, .slice none 0 0] _ _ rfl rfl rfl rfl rfl (by kernel_rfl) rfl HZ3.out (by simp) zero_ones rfl ?_; intro wf hx hc)
  have HF : Hid (RetNoM w (.int .i64 7) (.returned (.tuple #[.agg #[.int .i64 0, .int .i64 0, .int .i64 0, .int .i64 0, .int .i64 0, .int .i64 0, .int .i64 0, .int .i64 0, .string ⟨#[]⟩, .int .i64 0, .int .u32 0, .slice none 0 0, .int .i64 0, .slice none 0 0, .slice none 0 0, .int .i64 0, .slice none 0 0, .slice none 0 0, .slice none 0 0], .int .i64 7])) wf) := ⟨rfl, hc.below HB3.out HB3.out.size (by simp)⟩
  have hld := run_ldvM w.heap.size _ rfl hx.box
  refine bodyPost_ret (v := .tuple #[.agg #[.int .i64 0, .int .i64 0, .int .i64 0, .int .i64 0, .int .i64 0, .int .i64 0, .int .i64 0, .int .i64 0, .string ⟨#[]⟩, .int .i64 0, .int .u32 0, .slice none 0 0, .int .i64 0, .slice none 0 0, .slice none 0 0, .int .i64 0, .slice none 0 0, .slice none 0 0, .slice none 0 0], .int .i64 7]) (results_cell2 Tryz.results8 rfl rfl hld) rfl ?_
  exact HF.out

/-- A message is handed back, and is gone from the network. -/
def RetDv (w : World) (base R : Nat) (N : List Nat) (ms : List Pm) (ks : List (Int × Int)) (m : Pm) (e : Ending) (w' : World) : Prop :=
  ∃ (r : Rm) (N' : List Nat), r.m = m ∧ e = .returned (.tuple #[.agg r.cells, .int .i64 0]) ∧ Kept w.heap.size w' (fun w2 => MsgAt w2 r) ∧ Nt w' base R N' ms ks ∧ Mv w w' N N'

set_option maxRecDepth 100000 in
set_option maxHeartbeats 2000000 in
theorem dlv_any {w : World} {base R : Nat} {N : List Nat} {ms : List Pm} {ks : List (Int × Int)} (h : Nt w base R N ms ks) (n : Nat) (hn : ms.length = n) (h0 : 0 < n) (i : Int) (p : Nat) (hp : posI i n = p) (hcut : lkP (ms.getD p pm0).frm (ms.getD p pm0).to ∉ ks) : Calls Tryz.prog 8 #[.pointer (some ⟨R, 0, none⟩), .int .i64 i] w (RetDv w base R N (ms.eraseIdx p) ks (ms.getD p pm0)) := by
  have HB0 : Hid (Below w.heap.size w (w.alloc (.cells #[.int .i64 0, .int .i64 0, .int .i64 0, .int .i64 0, .int .i64 0, .int .i64 0, .int .i64 0, .int .i64 0, .string ⟨#[]⟩, .int .i64 0, .int .u32 0, .slice none 0 0, .int .i64 0, .slice none 0 0, .slice none 0 0, .int .i64 0, .slice none 0 0, .slice none 0 0, .slice none 0 0] 40))) := below_one w _
  have HZ0 := Lib.hid (bx_new w #[.int .i64 0, .int .i64 0, .int .i64 0, .int .i64 0, .int .i64 0, .int .i64 0, .int .i64 0, .int .i64 0, .string ⟨#[]⟩, .int .i64 0, .int .u32 0, .slice none 0 0, .int .i64 0, .slice none 0 0, .slice none 0 0, .int .i64 0, .slice none 0 0, .slice none 0 0, .slice none 0 0] 40)
  have hpn : p < n := by rw [← hp]; exact posI_lt i n h0
  have HA0 := Lib.hid (h.below HB0.out)
  have HG : Hid ((ms.getD p pm0).Wf ∧ sndMg (ms.getD p pm0) = true) := h.good _ (by rw [List.getD_eq_getElem?_getD, List.getElem?_eq_getElem (by omega)]; exact List.getElem_mem _)
  have HP := Lib.hid hp
  have HN := Lib.hid hn
  have HNL := Lib.hid h.nLt
  have HC := Lib.hid hcut
  have HW0 : Hid (w.heap.size < (w.alloc (.cells #[.int .i64 0, .int .i64 0, .int .i64 0, .int .i64 0, .int .i64 0, .int .i64 0, .int .i64 0, .int .i64 0, .string ⟨#[]⟩, .int .i64 0, .int .u32 0, .slice none 0 0, .int .i64 0, .slice none 0 0, .slice none 0 0, .int .i64 0, .slice none 0 0, .slice none 0 0, .slice none 0 0] 40)).heap.size) := by show _ < _; simp
  clear h hp hn hcut
  go_enter Tryz.func8, Tryz.ntmps8
  go_wp2_with fail
  generalize (w.alloc (.cells #[.int .i64 0, .int .i64 0, .int .i64 0, .int .i64 0, .int .i64 0, .int .i64 0, .int .i64 0, .int .i64 0, .string ⟨#[]⟩, .int .i64 0, .int .u32 0, .slice none 0 0, .int .i64 0, .slice none 0 0, .slice none 0 0, .int .i64 0, .slice none 0 0, .slice none 0 0, .slice none 0 0] 40)) = w0 at *
  refine (look_any HA0.out n HN.out h0 i p HP.out).mono ?_
  rintro e w1 ⟨r, hrm, rfl, hk, hb⟩
  have HRM := Lib.hid hrm
  have HK1 := Lib.hid hk
  have HA1 := Lib.hid (HA0.out.below hb)
  have HZ1 := Lib.hid (HZ0.out.chg (gs := []) (Chg.of_below hb) (by simp))
  have HB1 := Lib.hid (HB0.out.trans (hb.mono HB0.out.size))
  have HW1 : Hid (w0.heap.size ≤ w1.heap.size) := hb.size
  have HBIG : Hid (BigP (lkP r.m.frm r.m.to)) := bigP_of (by rw [hrm]; exact HG.out.1.frm) (by rw [hrm]; exact HG.out.1.to)
  clear hrm hk hb HZ0 HB0 HA0
  go_wp2_with (refine wpList_st 40 19 (w1.heap.size) 0 40 r.cells #[.int .i64 0, .int .i64 0, .int .i64 0, .int .i64 0, .int .i64 0, .int .i64 0, .int .i64 0, .int .i64 0, .string ⟨#[]⟩, .int .i64 0, .int .u32 0, .slice none 0 0, .int .i64 0, .slice none 0 0, .slice none 0 0, .int .i64 0, .slice none 0 0, .slice none 0 0, .slice none 0 0] r.cells _ _ rfl rfl rfl rfl rfl (by kernel_rfl) rfl (bx_new w1 #[.int .i64 0, .int .i64 0, .int .i64 0, .int .i64 0, .int .i64 0, .int .i64 0, .int .i64 0, .int .i64 0, .string ⟨#[]⟩, .int .i64 0, .int .u32 0, .slice none 0 0, .int .i64 0, .slice none 0 0, .slice none 0 0, .int .i64 0, .slice none 0 0, .slice none 0 0, .slice none 0 0] 40) (by simp) (cells_ones r) rfl ?_; intro w2 hx2 hc2; have hfm : w2.cell? ⟨w1.heap.size, 1, none⟩ = some (.int .i64 r.m.frm) := hx2.box 1 _ rfl; have hto : w2.cell? ⟨w1.heap.size, 2, none⟩ = some (.int .i64 r.m.to) := hx2.box 2 _ rfl; have hb2 : Below w1.heap.size w1 w2 := hc2.below (below_one w1 _) (by simp) (by simp); have HA2 := Lib.hid (HA1.out.below hb2); have HX2 := Lib.hid hx2; have HZ2 := Lib.hid (HZ1.out.chg (gs := []) (Chg.of_below hb2) (by simp)); have HB2 := Lib.hid (HB1.out.trans (hb2.mono HB1.out.size)); have HK2 := Lib.hid (HK1.out.step (hs := []) (Chg.of_below hb2) (by simp)); clear hx2 hc2 hb2 HZ1 HB1 HK1 HA1)
  refine (link_any _ _ _).mono ?_
  rintro e w3 ⟨rfl, rfl⟩
  obtain ⟨ga2, o2, hA2⟩ := HA2.out
  have HA2' := Lib.hid hA2
  clear hA2
  go_wp2_with fail
  refine (isCut_any HA2'.out (lkP r.m.frm r.m.to) HBIG.out).mono ?_
  rw [decide_eq_false (by rw [HRM.out]; exact HC.out)]
  rintro e w3 ⟨rfl, hb3⟩
  have hx3 := HX2.out.box.below hb3
  have HZ3 := Lib.hid (HZ2.out.chg (gs := []) (Chg.of_below hb3) (by simp))
  have HB3 := Lib.hid (HB2.out.trans (hb3.mono HB2.out.size))
  have HK3 := Lib.hid (HK2.out.step (hs := []) (Chg.of_below hb3) (by simp))
  have HA3 := Lib.hid (HA2.out.below hb3)
  have HX3 := Lib.hid hx3
  obtain ⟨B6, hB6⟩ : ∃ B6, w1.heap.size = B6 := ⟨_, rfl⟩
  have HB6 : Hid (w.heap.size < B6) := by show _ < _; have h1 := HW0.out; have h2 := HW1.out; omega
  rw [hB6] at HX3 ⊢
  clear hb3 hx3 HZ2 HB2 HK2 HA2 HA2' HX2 hfm hto hB6
  go_wp2_with fail
  refine wp_region_S2 ((fun x => Box x B6 r.cells)) (by kernel_rfl) ?_
  have hSw : Box w3.drew B6 r.cells := HX3.out
  have HZ4 : Hid (Bx w3.drew w.heap.size 40 #[.int .i64 0, .int .i64 0, .int .i64 0, .int .i64 0, .int .i64 0, .int .i64 0, .int .i64 0, .int .i64 0, .string ⟨#[]⟩, .int .i64 0, .int .u32 0, .slice none 0 0, .int .i64 0, .slice none 0 0, .slice none 0 0, .int .i64 0, .slice none 0 0, .slice none 0 0, .slice none 0 0]) := HZ3.out
  have HB4 := Lib.hid (HB3.out.trans (Below.drew (Below.refl _ w3)))
  have HK4 := Lib.hid (HK3.out.step (hs := []) ((Chg.refl _ w3).drew) (by simp))
  have HA4 := Lib.hid (HA3.out.below (Below.drew (Below.refl _ w3)))
  clear HX3 HZ3 HB3 HK3 HA3
  generalize w3.drew = w4 at *
  refine wpAnyH_tkS2 (i := 0) 25 (v := .agg r.cells) rfl rfl (by kernel_rfl) (by kernel_rfl) (by kernel_rfl) (by rfl) hSw (fun wq hwq => exec_ldM _ _ _ rfl rfl rfl hwq) ?_
  simp only [List.setIfInBounds_toArray, List.set_cons_zero, List.set_cons_succ]
  refine wpAnyH_tkS2 (i := 1) 26 (v := ?_) rfl rfl (by kernel_rfl) (by kernel_rfl) (by kernel_rfl) (by rfl) hSw (fun wq hwq => ?_) ?_
  rotate_left
  · (have hx := True.intro; go_simp <;> with_reducible rfl)
  simp only [List.setIfInBounds_toArray, List.set_cons_zero, List.set_cons_succ]
  refine wpAnyH_tkS2 (i := 2) 27 (v := ?_) rfl rfl (by kernel_rfl) (by kernel_rfl) (by kernel_rfl) (by rfl) hSw (fun wq hwq => ?_) ?_
  rotate_left
  · (have hx := True.intro; go_simp <;> with_reducible rfl)
  simp only [List.setIfInBounds_toArray, List.set_cons_zero, List.set_cons_succ]
  have hlt4 : w.heap.size < w4.heap.size := (Array.getElem?_eq_some_iff.1 HZ4.out).1
  refine wpAnyH_oneS2 (i := 3) rfl (by kernel_rfl) (by rfl) (fun K hK => ?_)
  go_simp
  refine (drop_any HA4.out n HN.out h0 i p HP.out).mono ?_
  rintro e w5 ⟨rfl, N', hN', hM'⟩
  have hnB : ∀ b, w.heap.size ≤ b → b ∉ N := fun b hb e => by have := (HNL.out b e).2; omega
  have hs5 : Box w5 B6 r.cells := fun k v hk => hM'.chg.cell (hSw k v hk) (hnB B6 (Nat.le_of_lt HB6.out))
  have HZ5 := Lib.hid (HZ4.out.chg hM'.chg (hnB _ (Nat.le_refl _)))
  have HK5 := Lib.hid (HK4.out.step hM'.chg fun g hg => Nat.lt_trans (HNL.out g hg).2 HW0.out)
  have HN5 := Lib.hid hN'
  have HMD := Lib.hid hM'
  have HM5 : Hid (Mv w w5 N N') := (Mv.of_below N HB4.out).trans hM'
  refine hK.out _ _ ((fun x => Box x B6 r.cells)) (fun _ h => h) (hs5) ?_
  clear hK K
  clear hSw hN' hM'
  have hSw := hs5
  clear hs5
  refine wpAnyH_oneS2 (i := 4) rfl (by kernel_rfl) (by rfl) (fun K hK => ?_)
  refine wp_stS 40 19 w.heap.size 0 40 r.cells #[.int .i64 0, .int .i64 0, .int .i64 0, .int .i64 0, .int .i64 0, .int .i64 0, .int .i64 0, .int .i64 0, .string ⟨#[]⟩, .int .i64 0, .int .u32 0, .slice none 0 0, .int .i64 0, .slice none 0 0, .slice none 0 0, .int .i64 0, .slice none 0 0, .slice none 0 0, .slice none 0 0] r.cells _ _ rfl rfl rfl rfl (by kernel_rfl) rfl HZ5.out (by simp) (cells_ones r) rfl ?_
  intro wf hx hc
  have hs6 : Box wf B6 r.cells := fun k v hk => hc.cell (hSw k v hk) (by simp; have := HB6.out; omega)
  refine hK.out _ _ ((fun x => Box x B6 r.cells)) (fun _ h => h) (hs6) ?_
  clear hK K
  clear hSw
  have hSw := hs6
  clear hs6
  refine wpAnyH_tkS2 (i := 5) 5 (v := ?_) rfl rfl (by kernel_rfl) (by kernel_rfl) (by kernel_rfl) (by rfl) hSw (fun wq hwq => ?_) ?_
  rotate_left
  · (have hx := True.intro; go_simp <;> with_reducible rfl)
  simp only [List.setIfInBounds_toArray, List.set_cons_zero, List.set_cons_succ]
  refine wpAnyH_done (by kernel_rfl) ?_ _
  refine NoPanic.normal ?_
  go_wp2
  have HF : Hid (RetDv w base R N (ms.eraseIdx p) ks (ms.getD p pm0) (.returned (.tuple #[.agg r.cells, .int .i64 0])) wf) := ⟨r, N', HRM.out, rfl, (HK5.out.step hc (by simp; exact HW0.out)).low (Nat.le_of_lt HW0.out), HN5.out.chg hc (fun g hg => by simp; rintro rfl; rcases HMD.out.now _ hg with h1 | h1; exact hnB _ (Nat.le_refl _) h1; omega), HM5.out.chg.wide hc (fun g hg => by simp at hg; right; omega), HM5.out.now⟩
  have hld := run_ldvM w.heap.size _ rfl hx.box
  refine bodyPost_ret (v := .tuple #[.agg r.cells, .int .i64 0]) (results_cell2 Tryz.results8 rfl rfl hld) rfl ?_
  exact HF.out

end Go.Proofs.YtggjpjpemgpeeaaGreat

namespace Go.Proofs.YtggjpjpemgpeeaaGreat
open Go.RowKit

theorem lkd_small {a b : Int} (h : lkd a b = true) : SmallP (lkP a b) ∧ BigP (lkP a b) ∧ (lkP a b).1 < (lkP a b).2 := by
  unfold lkd win2 at h
  simp only [Bool.and_eq_true, decide_eq_true_eq] at h
  obtain ⟨⟨hne, h1, h2⟩, h3, h4⟩ := h
  unfold SmallP BigP lkP I64
  refine ⟨⟨⟨?_, ?_⟩, ⟨?_, ?_⟩⟩, ⟨⟨?_, ?_⟩, ⟨?_, ?_⟩⟩, ?_⟩ <;> simp only <;> omega

/-- n.cut[k] = struct{}{}. -/
theorem wpList_putC {ops : Array Oper} {rest : List Oper} {o : Oper} {a : Act} {Q : Exit → Act → World → Prop} {w : World} (hgd : o.guard = none) (m x v : Operand)
    (ho : o.op = Op.mapUpdate 59 m x v) (b : Nat) (ks : List (Int × Int)) (hm : a.eval m = .map (some b)) (hown : SetC w b ks) (p : Int × Int) (hp : BigP p) (hs : SmallP p) (hn : p ∉ ks) (hx : a.eval x = lkV p) (hv : a.eval v = .agg #[])
    (h : ∀ w', SetC w' b (ks ++ [p]) → Chg [b] w w' → wpList Tryz.prog ops Q rest (a.put o.dst undef) w') : wpList Tryz.prog ops Q (o :: rest) a w := by
  obtain ⟨w', hrun, h1, h2⟩ := run_putC (P := Tryz.prog) (w := w) Tryz.underlying59 Tryz.underlying74 b ks hown p hp hs hn
  refine wpList_plain hgd fun K hK => ?_
  unfold Oper.wp
  simp [execOp, ho, hm, hx, hv, hrun, Result.andThen]
  exact hK _ _ (h w' h1 h2)

/-- delete(n.cut, k). -/
theorem wpList_dropC {ops : Array Oper} {rest : List Oper} {o : Oper} {a : Act} {Q : Exit → Act → World → Prop} {w : World} (hgd : o.guard = none) (m x : Operand)
    (ho : o.op = .call { callee := .builtin .delete, args := #[m, x], argTypes := #[59, 74] }) (b : Nat) (ks : List (Int × Int)) (hm : a.eval m = .map (some b)) (hown : SetC w b ks) (p : Int × Int) (hp : BigP p) (hn : p ∈ ks) (hx : a.eval x = lkV p)
    (h : ∀ w', SetC w' b (ks.erase p) → Chg [b] w w' → wpList Tryz.prog ops Q rest (a.put o.dst (.tuple #[])) w') : wpList Tryz.prog ops Q (o :: rest) a w := by
  obtain ⟨w', hrun, h1, h2⟩ := run_dropC (P := Tryz.prog) (w := w) Tryz.underlying59 Tryz.underlying74 o.type b ks hown p hp hn
  refine wpList_plain hgd fun K hK => ?_
  unfold Oper.wp
  simp [execOp, ho, resolve, invoke, builtin, hm, hx, hrun, Result.andThen]
  exact hK _ _ (h w' h1 h2)

theorem eql_mapN (w : World) (m : Option Nat) : (binOp .eql 59 (.map m) (.map none)).run Tryz.prog w = .ok (.bool m.isNone) w := by
  simp [binOp, run_equal_map_nil w _ _ _ m Tryz.underlying59]

theorem cut_nil (a b : Int) (w : World) : Calls Tryz.prog 14 #[.pointer none, .int .i64 a, .int .i64 b] w fun e w' => e = .returned (.bool false) ∧ w = w' := by
  go_enter Tryz.func14, Tryz.ntmps14
  go_wp2
  go_ret
  exact ⟨rfl, rfl⟩

theorem cut_no (R : Nat) (a b : Int) (w : World) (hno : lkd a b = false) : Calls Tryz.prog 14 #[.pointer (some ⟨R, 0, none⟩), .int .i64 a, .int .i64 b] w fun e w' => e = .returned (.bool false) ∧ w = w' := by
  have HN := Lib.hid hno
  clear hno
  go_enter Tryz.func14, Tryz.ntmps14
  go_wp2_with fail
  refine (linked_any a b _).mono ?_
  rw [HN.out]
  rintro e w' ⟨rfl, rfl⟩
  go_wp2
  go_ret
  exact ⟨rfl, rfl⟩

theorem cut_had {w : World} {base R : Nat} {N : List Nat} {ms : List Pm} {ks : List (Int × Int)} (h : Nt w base R N ms ks) (a b : Int) (hy : lkd a b = true) (hin : lkP a b ∈ ks) :
    Calls Tryz.prog 14 #[.pointer (some ⟨R, 0, none⟩), .int .i64 a, .int .i64 b] w fun e w' => e = .returned (.bool false) ∧ Below w.heap.size w w' := by
  obtain ⟨ga, o, hA⟩ := h
  have HA := Lib.hid hA
  have HY := Lib.hid hy
  have HI := Lib.hid hin
  have HS := Lib.hid (lkd_small hy)
  clear hA hy hin
  go_enter Tryz.func14, Tryz.ntmps14
  go_wp2_with fail
  refine (linked_any a b _).mono ?_
  rw [HY.out]
  rintro e w' ⟨rfl, rfl⟩
  go_wp2_with fail
  refine (link_any a b _).mono ?_
  rintro e w' ⟨rfl, rfl⟩
  go_wp2_with fail
  refine (isCut_any HA.out (lkP a b) HS.out.2.1).mono ?_
  rw [decide_eq_true HI.out]
  rintro e w1 ⟨rfl, hb⟩
  have HB := Lib.hid hb
  clear hb
  go_wp2
  go_ret
  exact ⟨rfl, HB.out⟩


set_option maxRecDepth 100000 in
set_option maxHeartbeats 1000000 in
theorem cut_new {w : World} {base R : Nat} {N : List Nat} {ms : List Pm} {ks : List (Int × Int)} (h : Nt w base R N ms ks) (a b : Int) (hy : lkd a b = true) (hin : lkP a b ∉ ks) :
    Calls Tryz.prog 14 #[.pointer (some ⟨R, 0, none⟩), .int .i64 a, .int .i64 b] w (NtP w base R N ms (ks ++ [lkP a b]) (.bool true)) := by
  obtain ⟨ga, o, hA⟩ := h
  have HA := Lib.hid hA
  have HY := Lib.hid hy
  have HI := Lib.hid hin
  have HS := Lib.hid (lkd_small hy)
  clear hA hy hin
  go_enter Tryz.func14, Tryz.ntmps14
  go_wp2_with fail
  refine (linked_any a b _).mono ?_
  rw [HY.out]
  rintro e w' ⟨rfl, rfl⟩
  go_wp2_with fail
  refine (link_any a b _).mono ?_
  rintro e w' ⟨rfl, rfl⟩
  go_wp2_with fail
  refine (isCut_any HA.out (lkP a b) HS.out.2.1).mono ?_
  rw [decide_eq_false HI.out]
  rintro e w1 ⟨rfl, hb⟩
  have HA1 := Lib.hid (HA.out.below hb)
  have HM1 := Lib.hid (Mv.of_below N hb)
  clear hb HA
  have hc1 := HA1.out.c1
  have hf1 := HA1.out.free 1
  have hRlt := (HA1.out.nLt R HA1.out.inR).2
  cases o with
  | none =>
    have hks : ks = [] := HA1.out.links
    subst hks
    have hM := HA1.out.map
    rw [World.setCell_alloc_past (w := w1) (.map #[] 0) R 1 (.map (some w1.heap.size)) hRlt] at hM
    have HA2 := Lib.hid hM.1
    have HM2 := Lib.hid (HM1.out.trans hM.2)
    clear hM
    have hmn := eql_mapN w1 none
    have hmk := @run_makeMap Tryz.prog
    go_wp2
    clear hc1 hf1 hmn hmk
    generalize ((w1.setCell ⟨R, 1, none⟩ (.map (some w1.heap.size))).alloc (.map #[] 0)) = w2 at *
    generalize w1.heap.size = c at *
    have hc1 := HA2.out.c1
    obtain ⟨v, hv⟩ : ∃ v, v = lkV (lkP a b) := ⟨_, rfl⟩
    have HV := Lib.hid hv
    have HLK : Hid (∀ x : World, Calls Tryz.prog 26 #[.int .i64 a, .int .i64 b] x fun e w' => e = .returned v ∧ x = w') := by intro x; rw [HV.out]; exact link_any a b x
    clear hv
    refine wp_region_quiet_tail 8 (by kernel_rfl) (by kernel_rfl) ?_
    simp only [List.take_succ_cons, List.take_zero, List.drop_succ_cons, List.drop_zero]
    repeat (go_big_quiet_step ((go_at_call 26; exact quiet_left' (HLK.out _))))
    refine wpQuiet_nil ?_
    intro _ hw'
    obtain ⟨nq, hw''⟩ := hw'
    subst hw''
    go_wp2_with (refine wpList_putC rfl _ _ _ rfl _ _ rfl (HA2.out.links.chg (gs := []) ((Chg.refl _ _).drewN nq) (by simp)) (lkP a b) HS.out.2.1 HS.out.1 HI.out HV.out rfl ?_; intro wf hsf hcf)
    go_ret
    have hfin := HA2.out.relink (((Chg.refl _ _).drewN nq).trans hcf) hsf (fun p hp => by rcases List.mem_append.mp hp with hp | hp; exact HA2.out.up p hp; rw [List.mem_singleton.mp hp]; exact HS.out.2.2)
    exact ⟨rfl, _, ⟨_, _, hfin.1⟩, HM2.out.trans hfin.2⟩
  | some c =>
    have hmn := eql_mapN w1 (some c)
    go_wp2
    clear hf1 hc1 hmn
    have hc1 := HA1.out.c1
    obtain ⟨v, hv⟩ : ∃ v, v = lkV (lkP a b) := ⟨_, rfl⟩
    have HV := Lib.hid hv
    have HLK : Hid (∀ x : World, Calls Tryz.prog 26 #[.int .i64 a, .int .i64 b] x fun e w' => e = .returned v ∧ x = w') := by intro x; rw [HV.out]; exact link_any a b x
    clear hv
    refine wp_region_quiet_tail 8 (by kernel_rfl) (by kernel_rfl) ?_
    simp only [List.take_succ_cons, List.take_zero, List.drop_succ_cons, List.drop_zero]
    repeat (go_big_quiet_step ((go_at_call 26; exact quiet_left' (HLK.out _))))
    refine wpQuiet_nil ?_
    intro _ hw'
    obtain ⟨nq, hw''⟩ := hw'
    subst hw''
    go_wp2_with (refine wpList_putC rfl _ _ _ rfl _ _ rfl (HA1.out.links.chg (gs := []) ((Chg.refl _ _).drewN nq) (by simp)) (lkP a b) HS.out.2.1 HS.out.1 HI.out HV.out rfl ?_; intro wf hsf hcf)
    go_ret
    have hfin := HA1.out.relink (((Chg.refl _ _).drewN nq).trans hcf) hsf (fun p hp => by rcases List.mem_append.mp hp with hp | hp; exact HA1.out.up p hp; rw [List.mem_singleton.mp hp]; exact HS.out.2.2)
    exact ⟨rfl, _, ⟨_, _, hfin.1⟩, HM1.out.trans hfin.2⟩

theorem heal_nil (a b : Int) (w : World) : Calls Tryz.prog 15 #[.pointer none, .int .i64 a, .int .i64 b] w fun e w' => e = .returned (.bool false) ∧ w = w' := by
  go_enter Tryz.func15, Tryz.ntmps15
  go_wp2
  go_ret
  exact ⟨rfl, rfl⟩

theorem heal_no {w : World} {base R : Nat} {N : List Nat} {ms : List Pm} {ks : List (Int × Int)} (h : Nt w base R N ms ks) (a b : Int) (ha : I64 a) (hb : I64 b) (hin : lkP a b ∉ ks) :
    Calls Tryz.prog 15 #[.pointer (some ⟨R, 0, none⟩), .int .i64 a, .int .i64 b] w fun e w' => e = .returned (.bool false) ∧ Below w.heap.size w w' := by
  obtain ⟨ga, o, hA⟩ := h
  have HA := Lib.hid hA
  have HI := Lib.hid hin
  have HS := Lib.hid (bigP_of ha hb)
  clear hA hin ha hb
  go_enter Tryz.func15, Tryz.ntmps15
  go_wp2_with fail
  refine (link_any a b _).mono ?_
  rintro e w' ⟨rfl, rfl⟩
  go_wp2_with fail
  refine (isCut_any HA.out (lkP a b) HS.out).mono ?_
  rw [decide_eq_false HI.out]
  rintro e w1 ⟨rfl, hb⟩
  have HB := Lib.hid hb
  clear hb
  go_wp2
  go_ret
  exact ⟨rfl, HB.out⟩

set_option maxRecDepth 100000 in
set_option maxHeartbeats 1000000 in
theorem heal_yes {w : World} {base R : Nat} {N : List Nat} {ms : List Pm} {ks : List (Int × Int)} (h : Nt w base R N ms ks) (a b : Int) (ha : I64 a) (hb : I64 b) (hin : lkP a b ∈ ks) :
    Calls Tryz.prog 15 #[.pointer (some ⟨R, 0, none⟩), .int .i64 a, .int .i64 b] w (NtP w base R N ms (ks.erase (lkP a b)) (.bool true)) := by
  obtain ⟨ga, o, hA⟩ := h
  have HA := Lib.hid hA
  have HI := Lib.hid hin
  have HS := Lib.hid (bigP_of ha hb)
  clear hA hin ha hb
  go_enter Tryz.func15, Tryz.ntmps15
  go_wp2_with fail
  refine (link_any a b _).mono ?_
  rintro e w' ⟨rfl, rfl⟩
  go_wp2_with fail
  refine (isCut_any HA.out (lkP a b) HS.out).mono ?_
  rw [decide_eq_true HI.out]
  rintro e w1 ⟨rfl, hb⟩
  have HA1 := Lib.hid (HA.out.below hb)
  have HM1 := Lib.hid (Mv.of_below N hb)
  clear hb HA
  cases o with
  | none =>
    have hks : ks = [] := HA1.out.links
    have := HI.out
    rw [hks] at this
    simp at this
  | some c =>
    go_wp2
    have hc1 := HA1.out.c1
    obtain ⟨v, hv⟩ : ∃ v, v = lkV (lkP a b) := ⟨_, rfl⟩
    have HV := Lib.hid hv
    have HLK : Hid (∀ x : World, Calls Tryz.prog 26 #[.int .i64 a, .int .i64 b] x fun e w' => e = .returned v ∧ x = w') := by intro x; rw [HV.out]; exact link_any a b x
    clear hv
    refine wp_region_quiet_tail 7 (by kernel_rfl) (by kernel_rfl) ?_
    simp only [List.take_succ_cons, List.take_zero, List.drop_succ_cons, List.drop_zero]
    repeat (go_big_quiet_step ((go_at_call 26; exact quiet_left' (HLK.out _))))
    refine wpQuiet_nil ?_
    intro _ hw'
    obtain ⟨nq, hw''⟩ := hw'
    subst hw''
    go_wp2_with (refine wpList_dropC rfl _ _ rfl _ _ rfl (HA1.out.links.chg (gs := []) ((Chg.refl _ _).drewN nq) (by simp)) (lkP a b) HS.out HI.out HV.out ?_; intro wf hsf hcf)
    go_ret
    have hfin := HA1.out.relink (((Chg.refl _ _).drewN nq).trans hcf) hsf (fun p hp => HA1.out.up p (List.mem_of_mem_erase hp))
    exact ⟨rfl, _, ⟨_, _, hfin.1⟩, HM1.out.trans hfin.2⟩

end Go.Proofs.YtggjpjpemgpeeaaGreat

namespace Go.Proofs.YtggjpjpemgpeeaaGreat
open Go.RowKit

/-- The state of a law behind w0: a network made behind it. -/
structure NS (w0 w : World) (R : Nat) (N : List Nat) (ms : List Pm) (ks : List (Int × Int)) : Prop where
  bel : Below w0.heap.size w0 w
  nt : Nt w w0.heap.size R N ms ks

/-- A message's box that is none of a network's blocks. -/
structure BxN (w : World) (B : Nat) (C : Array Value) (N : List Nat) : Prop where
  box : Box w B C
  off : B ∉ N
  lt : B < w.heap.size

section
variable {w0 w w' : World} {R B : Nat} {C : Array Value} {N N' : List Nat} {ms ms' : List Pm} {ks ks' : List (Int × Int)}

theorem NS.mv (h : NS w0 w R N ms ks) (hN : Nt w' w0.heap.size R N' ms' ks') (hM : Mv w w' N N') : NS w0 w' R N' ms' ks' := ⟨(hM.below h.bel fun g hg => (h.nt.nLt g hg).1).1, hN⟩

theorem NS.below (h : NS w0 w R N ms ks) (hb : Below w.heap.size w w') : NS w0 w' R N ms ks := ⟨h.bel.trans (hb.mono h.bel.size), h.nt.below hb⟩

theorem off_mv (hB : B ∉ N) (hlt : B < w.heap.size) (hM : Mv w w' N N') : B ∉ N' := fun e => by
  rcases hM.now B e with h | h
  · exact hB h
  · omega

theorem BxN.mv (h : BxN w B C N) (hM : Mv w w' N N') : BxN w' B C N' := ⟨fun k v hk => hM.chg.cell (h.box k v hk) h.off, off_mv h.off h.lt hM, Nat.lt_of_lt_of_le h.lt hM.chg.size⟩

theorem BxN.below (h : BxN w B C N) (hb : Below w.heap.size w w') : BxN w' B C N := ⟨h.box.below hb, h.off, Nat.lt_of_lt_of_le h.lt hb.size⟩

/-- A box made just now. -/
theorem BxN.new {t : TypeId} (h : NS w0 w R N ms ks) (hx : Bx w' w.heap.size t C) : BxN w' w.heap.size C N := ⟨hx.box, fun e => by have := (h.nt.nLt _ e).2; omega, (Array.getElem?_eq_some_iff.1 hx).1⟩

theorem NS.send (h : NS w0 w R N ms ks) {m : Pm} {e : Ending} (hr : RetSd w w0.heap.size R N ms ks m e w') (hl : ms.length < 1024) : e = .returned (.int .i64 0) ∧ ∃ N', NS w0 w' R N' (ms ++ [m]) ks ∧ Mv w w' N N' := by
  rcases hr with ⟨_, he, N', hN, hM⟩ | ⟨h2, _⟩
  · exact ⟨he, N', h.mv hN hM, hM⟩
  · omega

theorem NS.full (h : NS w0 w R N ms ks) {m : Pm} {e : Ending} (hr : RetSd w w0.heap.size R N ms ks m e w') (hl : ms.length = 1024) : e = .returned (.int .i64 5) ∧ ∃ N', NS w0 w' R N' ms ks ∧ Mv w w' N N' := by
  rcases hr with ⟨h2, _⟩ | ⟨_, he, N', hN, hM⟩
  · omega
  · exact ⟨he, N', h.mv hN hM, hM⟩

end

/-- A message from f to the master that asks. -/
def askM (f : Int) : Pm := ⟨14, f, -1, 0, pe0, 0, [], [], 0, [], [], []⟩
def askR (f : Int) : Rm := ⟨askM f, [], none, 0, none, 0, none, 0, none, 0, none, 0, none, 0, 0, 0, 0, 0, 0, 0⟩

theorem ask_snd (f : Int) (h : -5 ≤ f ∧ f ≤ 15) : sndMg (askM f) = true := by
  have e : sndMg (askM f) = (rng f (-5) 15 && sndMg (askM 0)) := by
    unfold sndMg sndA askM
    cases rng f (-5) 15
    · simp [rng]
    · simp [rng]
      rfl
  rw [e, show sndMg (askM 0) = true by decide]
  unfold rng
  simp
  exact h

theorem ask_wf (f : Int) (h : I64 f) : (askM f).Wf :=
  ⟨(by constructor <;> decide : I64 14), h, (by constructor <;> decide : I64 (-1)), (by constructor <;> decide : I64 0), (by constructor <;> decide : I64 0), (by constructor <;> decide : I64 0), by simp [askM], pm0_wf.ent, by simp [askM], by simp [askM], by simp [askM], by simp [askM]⟩

theorem ask_at (w : World) (f : Int) (h : I64 f) : MsgAt w (askR f) :=
  ⟨SeenAt.nil (Nat.zero_le _), FrsAt.nil (Nat.zero_le _), StrAt.nil (Nat.zero_le _), IntsAt.nil (Nat.zero_le _), SrcAt.nil (Nat.zero_le _), EnsAt.nil (Nat.zero_le _), rfl, rfl, rfl, rfl, rfl, rfl, rfl, ask_wf f h⟩

theorem pm0_unsound : sndMg pm0 = false := by decide

set_option maxRecDepth 100000 in
set_option maxHeartbeats 1000000 in
theorem light13_any (r : Rm) (w : World) : Calls Tryz.prog 5 #[.agg r.cells] w (RetBl w) := by
  show Calls Tryz.prog 5 #[.agg #[.int .i64 r.m.kind, .int .i64 r.m.frm, .int .i64 r.m.to, .int .i64 r.m.epoch, .int .i64 r.m.ent.seq, .int .i64 r.m.ent.client, .int .i64 r.m.ent.num, .int .i64 r.m.ent.op, .string (strB r.m.ent.key), .int .i64 r.m.ent.size, .int .u32 (r.m.ent.sum : Int), .slice r.loc r.el r.c, .int .i64 r.m.e, .slice r.fa r.fl r.fc, .slice r.ka r.kl r.kc, .int .i64 r.m.cep, .slice r.ma r.ml r.mc, .slice r.sa r.sl r.sc, .slice r.na r.nl r.nc]] w _
  have HB0 : Hid (Below w.heap.size w (w.alloc (.cells #[.int .i64 r.m.kind, .int .i64 r.m.frm, .int .i64 r.m.to, .int .i64 r.m.epoch, .int .i64 r.m.ent.seq, .int .i64 r.m.ent.client, .int .i64 r.m.ent.num, .int .i64 r.m.ent.op, .string (strB r.m.ent.key), .int .i64 r.m.ent.size, .int .u32 (r.m.ent.sum : Int), .slice r.loc r.el r.c, .int .i64 r.m.e, .slice r.fa r.fl r.fc, .slice r.ka r.kl r.kc, .int .i64 r.m.cep, .slice r.ma r.ml r.mc, .slice r.sa r.sl r.sc, .slice r.na r.nl r.nc] 40))) := below_one w _
  have HX0 : Hid (Box (w.alloc (.cells #[.int .i64 r.m.kind, .int .i64 r.m.frm, .int .i64 r.m.to, .int .i64 r.m.epoch, .int .i64 r.m.ent.seq, .int .i64 r.m.ent.client, .int .i64 r.m.ent.num, .int .i64 r.m.ent.op, .string (strB r.m.ent.key), .int .i64 r.m.ent.size, .int .u32 (r.m.ent.sum : Int), .slice r.loc r.el r.c, .int .i64 r.m.e, .slice r.fa r.fl r.fc, .slice r.ka r.kl r.kc, .int .i64 r.m.cep, .slice r.ma r.ml r.mc, .slice r.sa r.sl r.sc, .slice r.na r.nl r.nc] 40)) w.heap.size #[.int .i64 r.m.kind, .int .i64 r.m.frm, .int .i64 r.m.to, .int .i64 r.m.epoch, .int .i64 r.m.ent.seq, .int .i64 r.m.ent.client, .int .i64 r.m.ent.num, .int .i64 r.m.ent.op, .string (strB r.m.ent.key), .int .i64 r.m.ent.size, .int .u32 (r.m.ent.sum : Int), .slice r.loc r.el r.c, .int .i64 r.m.e, .slice r.fa r.fl r.fc, .slice r.ka r.kl r.kc, .int .i64 r.m.cep, .slice r.ma r.ml r.mc, .slice r.sa r.sl r.sc, .slice r.na r.nl r.nc]) := box_new w _ _ _ rfl
  obtain ⟨x0, x1, x2, x3, x4, x5, x6, x7, x8, x9, x10, x11, x12, x13, x14, x15, x16, x17, x18⟩ := box19 HX0.out
  by_cases h0 : (r.nl : Int) ≤ 10
  · have d0 : decide ((r.nl : Int) ≤ 10) = true := by simp; exact h0
    by_cases h1 : (r.kl : Int) ≤ 10
    · have d1 : decide ((r.kl : Int) ≤ 10) = true := by simp; exact h1
      by_cases h2 : (r.fl : Int) ≤ 20
      · have d2 : decide ((r.fl : Int) ≤ 20) = true := by simp; exact h2
        by_cases h3 : (r.sl : Int) ≤ 20
        · have d3 : decide ((r.sl : Int) ≤ 20) = true := by simp; exact h3
          by_cases h4 : (r.ml : Int) ≤ 20
          · have d4 : decide ((r.ml : Int) ≤ 20) = true := by simp; exact h4
            go_enter Tryz.func5, Tryz.ntmps5
            go_wp2
            go_ret
            exact ⟨_, rfl, HB0.out⟩
          · have d4 : decide ((r.ml : Int) ≤ 20) = false := by simp; omega
            go_enter Tryz.func5, Tryz.ntmps5
            go_wp2
            go_ret
            exact ⟨_, rfl, HB0.out⟩
        · have d3 : decide ((r.sl : Int) ≤ 20) = false := by simp; omega
          go_enter Tryz.func5, Tryz.ntmps5
          go_wp2
          go_ret
          exact ⟨_, rfl, HB0.out⟩
      · have d2 : decide ((r.fl : Int) ≤ 20) = false := by simp; omega
        go_enter Tryz.func5, Tryz.ntmps5
        go_wp2
        go_ret
        exact ⟨_, rfl, HB0.out⟩
    · have d1 : decide ((r.kl : Int) ≤ 10) = false := by simp; omega
      go_enter Tryz.func5, Tryz.ntmps5
      go_wp2
      go_ret
      exact ⟨_, rfl, HB0.out⟩
  · have d0 : decide ((r.nl : Int) ≤ 10) = false := by simp; omega
    go_enter Tryz.func5, Tryz.ntmps5
    go_wp2
    go_ret
    exact ⟨_, rfl, HB0.out⟩

set_option maxRecDepth 100000 in
set_option maxHeartbeats 4000000 in
theorem awake13 (w : World) : Calls Tryz.prog 18 #[] w fun e w' => e = .returned (.bool true) ∧ Below w.heap.size w w' := by
  have HI : Hid (I64 (-2)) := by constructor <;> decide
  have HI1 : Hid (I64 (-1)) := by constructor <;> decide
  have HS : Hid (sndMg (askR (-2)).m = true) := ask_snd (-2) ⟨by decide, by decide⟩
  have HSM : Hid (SndMg (askR (-2)).m) := sndMg_is HS.out
  have HLK : Hid (lkP (-1) (-2) = (-2, -1)) := by show _ = _; decide
  have HLK2 : Hid (lkP (-2) (-1) = (-2, -1)) := by show _ = _; decide
  have HLD : Hid (lkd (-1) (-2) = true) := by show _ = _; decide
  go_enter Tryz.func18, Tryz.ntmps18
  go_wp2_with fail
  refine (ntNew_any _).mono ?_
  rintro e w1 ⟨R, N, rfl, hn, hb⟩
  have H1 : Hid (NS w w1 R N [] []) := ⟨hb, hn⟩
  clear hn hb
  go_wp2_with (first | (refine wpList_st 40 19 (w1.heap.size) 0 40 (askR (-2)).cells #[.int .i64 0, .int .i64 0, .int .i64 0, .int .i64 0, .int .i64 0, .int .i64 0, .int .i64 0, .int .i64 0, .string ⟨#[]⟩, .int .i64 0, .int .u32 0, .slice none 0 0, .int .i64 0, .slice none 0 0, .slice none 0 0, .int .i64 0, .slice none 0 0, .slice none 0 0, .slice none 0 0] (askR (-2)).cells _ _ rfl rfl rfl rfl rfl (by kernel_rfl) rfl (bx_new w1 #[.int .i64 0, .int .i64 0, .int .i64 0, .int .i64 0, .int .i64 0, .int .i64 0, .int .i64 0, .int .i64 0, .string ⟨#[]⟩, .int .i64 0, .int .u32 0, .slice none 0 0, .int .i64 0, .slice none 0 0, .slice none 0 0, .int .i64 0, .slice none 0 0, .slice none 0 0, .slice none 0 0] 40) (by simp) (cells_ones _) rfl ?_; intro w2 hx2 hc2; have hb2 : Below w1.heap.size w1 w2 := hc2.below (below_one w1 _) (by simp) (by simp); have HX2 := Lib.hid (BxN.new H1.out hx2); have H2 := Lib.hid (H1.out.below hb2); clear hx2 hc2 hb2 H1) | refine wpList_ldM _ _ _ rfl rfl rfl rfl HX2.out.box ?_ | (refine wpList_ung (by rfl) ?_; refine wpList_ldM _ _ _ rfl rfl rfl rfl HX2.out.box ?_))
  refine (send_yes H2.out.nt (askR (-2)) (ask_at _ _ HI.out) HS.out).mono ?_
  intro e w3 hr
  obtain ⟨rfl, N3, h3, hm⟩ := H2.out.send hr (by simp)
  have H3 := Lib.hid h3
  have HX3 := Lib.hid (HX2.out.mv hm)
  clear h3 hm hr H2 HX2
  go_wp2_with fail
  refine (send_no R rm0 _ (rm0_at _) pm0_unsound).mono ?_
  rintro e w4 ⟨rfl, hb⟩
  have H4 := Lib.hid (H3.out.below hb)
  have HX4 := Lib.hid (HX3.out.below hb)
  clear hb H3 HX3
  go_wp2_with fail
  refine (cut_new H4.out.nt (-1) (-2) HLD.out (by simp)).mono ?_
  rintro e w5 ⟨rfl, N5, hN, hM⟩
  rw [HLK.out] at hN
  have H5 := Lib.hid (H4.out.mv hN hM)
  have HX5 := Lib.hid (HX4.out.mv hM)
  clear hN hM H4 HX4
  go_wp2_with fail
  refine (dlv_cut H5.out.nt 1 rfl (by omega) 0 0 (by decide) (by show lkP (-2) (-1) ∈ _; rw [HLK2.out]; simp)).mono ?_
  rintro e w6 ⟨rfl, hb⟩
  have H6 := Lib.hid (H5.out.below hb)
  have HX6 := Lib.hid (HX5.out.below hb)
  clear hb H5 HX5
  go_wp2_with (refine wpList_st 40 19 (w6.heap.size) 0 40 #[.int .i64 0, .int .i64 0, .int .i64 0, .int .i64 0, .int .i64 0, .int .i64 0, .int .i64 0, .int .i64 0, .string ⟨#[]⟩, .int .i64 0, .int .u32 0, .slice none 0 0, .int .i64 0, .slice none 0 0, .slice none 0 0, .int .i64 0, .slice none 0 0, .slice none 0 0, .slice none 0 0] #[.int .i64 0, .int .i64 0, .int .i64 0, .int .i64 0, .int .i64 0, .int .i64 0, .int .i64 0, .int .i64 0, .string ⟨#[]⟩, .int .i64 0, .int .u32 0, .slice none 0 0, .int .i64 0, .slice none 0 0, .slice none 0 0, .int .i64 0, .slice none 0 0, .slice none 0 0, .slice none 0 0] #[.int .i64 0, .int .i64 0, .int .i64 0, .int .i64 0, .int .i64 0, .int .i64 0, .int .i64 0, .int .i64 0, .string ⟨#[]⟩, .int .i64 0, .int .u32 0, .slice none 0 0, .int .i64 0, .slice none 0 0, .slice none 0 0, .int .i64 0, .slice none 0 0, .slice none 0 0, .slice none 0 0] _ _ rfl rfl rfl rfl rfl (by kernel_rfl) rfl (bx_new w6 #[.int .i64 0, .int .i64 0, .int .i64 0, .int .i64 0, .int .i64 0, .int .i64 0, .int .i64 0, .int .i64 0, .string ⟨#[]⟩, .int .i64 0, .int .u32 0, .slice none 0 0, .int .i64 0, .slice none 0 0, .slice none 0 0, .int .i64 0, .slice none 0 0, .slice none 0 0, .slice none 0 0] 40) (by simp) zero_ones rfl ?_; intro w7 hx7 hc7; have hb7 : Below w6.heap.size w6 w7 := hc7.below (below_one w6 _) (by simp) (by simp); have H7 := Lib.hid (H6.out.below hb7); have HX7 := Lib.hid (HX6.out.below hb7); clear hx7 hc7 hb7 H6 HX6)
  refine (heal_yes H7.out.nt (-2) (-1) HI.out HI1.out (by rw [HLK2.out]; simp)).mono ?_
  rintro e w8 ⟨rfl, N8, hN, hM⟩
  have he : (([] : List (Int × Int)) ++ [((-2 : Int), (-1 : Int))]).erase (-2, -1) = [] := by decide
  rw [HLK2.out, he] at hN
  clear he
  have H8 := Lib.hid (H7.out.mv hN hM)
  have HX8 := Lib.hid (HX7.out.mv hM)
  clear hN hM H7 HX7
  go_wp2_with fail
  refine (dlv_any H8.out.nt 1 rfl (by omega) (-7) 0 (by decide) (by simp)).mono ?_
  rintro e w9 ⟨r, N9, hrm, rfl, hk, hN, hM⟩
  have HRM : Hid (r.m = (askR (-2)).m) := hrm
  have H9 : Hid (NS w w9 R N9 [] []) := H8.out.mv hN hM
  have HX9 := Lib.hid (HX8.out.mv hM)
  have HR9 := Lib.hid hk.now
  clear hrm hk hN hM H8 HX8
  go_wp2_with (first | (refine wpList_st 40 19 (w9.heap.size) 0 40 r.cells #[.int .i64 0, .int .i64 0, .int .i64 0, .int .i64 0, .int .i64 0, .int .i64 0, .int .i64 0, .int .i64 0, .string ⟨#[]⟩, .int .i64 0, .int .u32 0, .slice none 0 0, .int .i64 0, .slice none 0 0, .slice none 0 0, .int .i64 0, .slice none 0 0, .slice none 0 0, .slice none 0 0] r.cells _ _ rfl rfl rfl rfl rfl (by kernel_rfl) rfl (bx_new w9 #[.int .i64 0, .int .i64 0, .int .i64 0, .int .i64 0, .int .i64 0, .int .i64 0, .int .i64 0, .int .i64 0, .string ⟨#[]⟩, .int .i64 0, .int .u32 0, .slice none 0 0, .int .i64 0, .slice none 0 0, .slice none 0 0, .int .i64 0, .slice none 0 0, .slice none 0 0, .slice none 0 0] 40) (by simp) (cells_ones r) rfl ?_; intro w10 hx10 hc10; have hb10 : Below w9.heap.size w9 w10 := hc10.below (below_one w9 _) (by simp) (by simp); have H10 := Lib.hid (H9.out.below hb10); have HX10 := Lib.hid (HX9.out.below hb10); have HR10 := Lib.hid (HR9.out.below hb10); have HY10 := Lib.hid hx10.box; clear hx10 hc10 hb10 H9 HX9 HR9) | refine wpList_ldM _ _ _ rfl rfl rfl rfl HX10.out.box ?_ | (refine wpList_ung (by rfl) ?_; refine wpList_ldM _ _ _ rfl rfl rfl rfl HX10.out.box ?_) | refine wpList_ldM _ _ _ rfl rfl rfl rfl HY10.out ?_ | (refine wpList_ung (by rfl) ?_; refine wpList_ldM _ _ _ rfl rfl rfl rfl HY10.out ?_))
  refine (sameMsg_self r (askR (-2)) _ HR10.out (ask_at _ _ HI.out) HRM.out (by rw [HRM.out]; exact HSM.out)).mono ?_
  rintro e w11 ⟨rfl, hb⟩
  have H11 := Lib.hid (H10.out.below hb)
  clear hb H10
  obtain ⟨ga, o, hA⟩ := H11.out.nt
  have HA := Lib.hid hA
  clear hA
  go_wp2_with fail
  refine (ntLen_any HA.out 0 rfl).mono ?_
  rintro e w12 ⟨rfl, rfl⟩
  go_wp2
  go_ret
  exact ⟨rfl, H11.out.bel⟩

end Go.Proofs.YtggjpjpemgpeeaaGreat

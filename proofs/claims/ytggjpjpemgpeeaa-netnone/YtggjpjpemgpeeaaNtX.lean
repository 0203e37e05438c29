/-
  net: add, Send, Look, Drop, Dup.
-/
import Derived.Test.YtggjpjpemgpeeaaNtW
import Derived.Test.YtggjpjpemgpeeaaAwake12
namespace Go.Proofs.Ytggjpjpemgpeeaa
open Go.RowKit

/-- A network behind a call. -/
def NtP (w : World) (base R : Nat) (N : List Nat) (ms : List Pm) (ks : List (Int × Int)) (v : Value) (e : Ending) (w' : World) : Prop := e = .returned v ∧ ∃ N', Nt w' base R N' ms ks ∧ Mv w w' N N'

theorem dec_kept (a : Option Addr) (c l : Nat) (m : Pm) (x : World) (hw : m.Wf) (hs : sndMg m = true) (hl : (encMg m).length = l) (h : SeenAt x a c (encMg m)) :
    Calls Try.prog 16 #[.slice a l c] x fun e w' => ∃ r : Rm, r.m = m ∧ e = .returned (.tuple #[.agg r.cells, .int .i64 0]) ∧ Kept x.heap.size w' (fun w2 => MsgAt w2 r) ∧ Below x.heap.size x w' :=
  (decMg_yes a c l (encMg m) x hl (by have := encMg_len (sndMg_is hs); omega) h (okMg_yes hw hs).1).mono fun e w' h' => by
    obtain ⟨r, h1, h2, h3, h4⟩ := h'
    rw [(okMg_yes hw hs).2] at h1
    exact ⟨r, h1, h2, h3, h4⟩

section
variable {w : World} {base R : Nat} {ga : Option Addr} {o : Option Nat} {N : List Nat} {ms : List Pm} {ks : List (Int × Int)}

set_option maxRecDepth 100000 in
theorem bag_full (h : NtA w base R ga o N ms ks) (hf : 1024 ≤ ms.length) (v : Value) : Calls Try.prog 67 #[.pointer (some ⟨R, 0, none⟩), v] w fun e w' => e = .returned (.int .i64 5) ∧ w = w' := by
  obtain ⟨cap, xs, hc, _⟩ := h.count
  clear h
  generalize ms.length = n at *
  go_enter Try.func67, Try.ntmps67
  go_wp2
  go_ret
  exact ⟨rfl, rfl⟩

set_option maxRecDepth 100000 in
set_option maxHeartbeats 1000000 in
theorem bag_any (h : NtA w base R ga o N ms ks) (hlt : ms.length < 1024) (la : Option Addr) (lc l : Nat) (m : Pm) (hm : m.Wf ∧ sndMg m = true) (hl : (encMg m).length = l) (hs : SeenAt w la lc (encMg m)) (hb : ∀ g ∈ blk la, g ∈ N ∧ g ∉ blk ga ∧ g ≠ R ∧ o ≠ some g) :
    Calls Try.prog 67 #[.pointer (some ⟨R, 0, none⟩), .slice la l lc] w (NtP w base R N (ms ++ [m]) ks (.int .i64 0)) := by
  obtain ⟨cap, xs, hc, hr, hps, hx, hxl⟩ := h.count
  have hRlt := h.nLt R h.inR
  have hfr := h.free
  have H := Lib.hid h
  have HR0 := Lib.hid hr
  have HB0 := Lib.hid hb
  have HS0 := Lib.hid hs
  have HPS := Lib.hid hps
  have HX := Lib.hid hx
  have HM := Lib.hid hm
  have hb1 : Below w.heap.size w (w.alloc (.cells #[.slice la l lc] 23)) := below_one w _
  have HR1 := Lib.hid (hr.below hb1)
  have HY : Hid ((⟨la, lc, encMg m⟩ : Rw).val = .slice la l lc) := by show Value.slice la (encMg m).length lc = _; rw [hl]
  have HC1 : Hid ((w.alloc (.cells #[.slice la l lc] 23)).cell? ⟨w.heap.size, 0, none⟩ = some (⟨la, lc, encMg m⟩ : Rw).val) := by
    show _ = _
    rw [HY.out]
    simp
  have HS1 := Lib.hid (hs.below hb1)
  have HF1 : Hid (∀ g ∈ blk la, g ∉ blk ga ∧ g < (w.alloc (.cells #[.slice la l lc] 23)).heap.size) := fun g hg => ⟨(hb g hg).2.1, by have := (h.nLt g (hb g hg).1).2; simp; omega⟩
  have HB1 := Lib.hid hb1
  have HZ1 : Hid (base ≤ (w.alloc (.cells #[.slice la l lc] 23)).heap.size) := by show _ ≤ _; simp; omega
  obtain ⟨n, hn⟩ : ∃ n, ms.length = n := ⟨_, rfl⟩
  have HN := Lib.hid hn
  have HXN : Hid (xs.length = n) := hxl.trans hn
  rw [hn] at hlt hc
  clear h hr hb hs hps hx hm hb1 hxl hn hl
  have hd1 : decide ((1024 : Int) ≤ (n : Int)) = false := by simp; omega
  have hd2 : decide (1024 ≤ n) = false := by simp; omega
  go_enter Try.func67, Try.ntmps67
  go_wp2_with (refine wpList_appRw rfl _ _ rfl base ga cap xs n HXN.out rfl HR1.out ⟨la, lc, encMg m⟩ w.heap.size 1 rfl HC1.out (by omega) HZ1.out HS1.out HF1.out ?_; intro g' cap' w2 hr2 hc2 hat; have HC2 := Lib.hid ((Chg.of_below (gs := blk ga) HB1.out).trans hc2); have hcc : w2.cell? ⟨R, 0, none⟩ = some (.slice ga n cap) := HC2.out.cell hc H.out.neG; have hff : w2.frozen? ⟨R, 0, none⟩ = false := (World.frozen?_of_block (HC2.out.block R hRlt.2 H.out.neG)).trans (hfr 0); have HR2 := Lib.hid hr2; have HAT : Hid (∀ g ∈ blk (some (⟨g', 0, none⟩ : Addr)), g ∈ blk ga ∨ w.heap.size ≤ g) := (by intro g hg; simp [blk] at hg; subst hg; rcases hat with h1 | h1; exact .inl h1; right; have := HB1.out.size; omega); clear hr2 hc2 hat)
  go_ret
  have hfin := NtA.put H.out HC2.out (fun _ hg => hg) HR2.out HAT.out (ms' := ms ++ [m]) (n := n + 1) (fun x hx g hg => by
    rcases List.mem_append.mp hx with hx | hx
    · exact HX.out x hx g hg
    · rw [List.mem_singleton.mp hx] at hg
      exact ⟨(HB0.out g hg).1, (HB0.out g hg).2.2⟩) (by rw [List.map_append, List.map_append, HPS.out]; rfl) (fun x hx => by
    rcases List.mem_append.mp hx with hx | hx
    · exact H.out.good x hx
    · rw [List.mem_singleton.mp hx]; exact HM.out) (by rw [List.length_append, HN.out]; exact hlt) (by rw [List.length_append, HXN.out]; rfl)
  exact ⟨rfl, _, ⟨_, _, hfin.1⟩, hfin.2⟩

end

theorem send_nil (r : Rm) (w : World) : Calls Try.prog 21 #[.pointer none, .agg r.cells] w fun e w' => e = .returned (.int .i64 1) ∧ Below w.heap.size w w' := by
  have HB := Lib.hid (below_one w (.cells r.cells 35))
  go_enter Try.func21, Try.ntmps21
  go_wp2
  go_ret
  exact ⟨rfl, HB.out⟩

set_option maxRecDepth 100000 in
set_option maxHeartbeats 1000000 in
theorem send_no (R : Nat) (r : Rm) (w : World) (h : MsgAt w r) (hno : sndMg r.m = false) : Calls Try.prog 21 #[.pointer (some ⟨R, 0, none⟩), .agg r.cells] w fun e w' => e = .returned (.int .i64 2) ∧ Below w.heap.size w w' := by
  show Calls Try.prog 21 #[.pointer (some ⟨R, 0, none⟩), .agg #[.int .i64 r.m.kind, .int .i64 r.m.frm, .int .i64 r.m.to, .int .i64 r.m.epoch, .int .i64 r.m.ent.seq, .int .i64 r.m.ent.client, .int .i64 r.m.ent.num, .int .i64 r.m.ent.op, .string (strB r.m.ent.key), .int .i64 r.m.ent.size, .int .u32 (r.m.ent.sum : Int), .slice r.loc r.el r.c, .int .i64 r.m.e, .slice r.fa r.fl r.fc, .slice r.ka r.kl r.kc, .int .i64 r.m.cep, .slice r.ma r.ml r.mc, .slice r.sa r.sl r.sc, .slice r.na r.nl r.nc]] w _
  have HX0 : Hid (Box (w.alloc (.cells #[.int .i64 r.m.kind, .int .i64 r.m.frm, .int .i64 r.m.to, .int .i64 r.m.epoch, .int .i64 r.m.ent.seq, .int .i64 r.m.ent.client, .int .i64 r.m.ent.num, .int .i64 r.m.ent.op, .string (strB r.m.ent.key), .int .i64 r.m.ent.size, .int .u32 (r.m.ent.sum : Int), .slice r.loc r.el r.c, .int .i64 r.m.e, .slice r.fa r.fl r.fc, .slice r.ka r.kl r.kc, .int .i64 r.m.cep, .slice r.ma r.ml r.mc, .slice r.sa r.sl r.sc, .slice r.na r.nl r.nc] 35)) w.heap.size r.cells) := box_new w r.cells 35 _ rfl
  have E0 : Hid (Ext w (w.alloc (.cells #[.int .i64 r.m.kind, .int .i64 r.m.frm, .int .i64 r.m.to, .int .i64 r.m.epoch, .int .i64 r.m.ent.seq, .int .i64 r.m.ent.client, .int .i64 r.m.ent.num, .int .i64 r.m.ent.op, .string (strB r.m.ent.key), .int .i64 r.m.ent.size, .int .u32 (r.m.ent.sum : Int), .slice r.loc r.el r.c, .int .i64 r.m.e, .slice r.fa r.fl r.fc, .slice r.ka r.kl r.kc, .int .i64 r.m.cep, .slice r.ma r.ml r.mc, .slice r.sa r.sl r.sc, .slice r.na r.nl r.nc] 35))) := below_one w _
  have HM0 := Lib.hid (h.below E0.out)
  have HN := Lib.hid hno
  clear h hno
  go_enter Try.func21, Try.ntmps21
  go_wp2_with (first | refine wpList_ldM _ _ _ rfl rfl rfl rfl HX0.out ?_ | (refine wpList_ung (by rfl) ?_; refine wpList_ldM _ _ _ rfl rfl rfl rfl HX0.out ?_))
  generalize (w.alloc (.cells #[.int .i64 r.m.kind, .int .i64 r.m.frm, .int .i64 r.m.to, .int .i64 r.m.epoch, .int .i64 r.m.ent.seq, .int .i64 r.m.ent.client, .int .i64 r.m.ent.num, .int .i64 r.m.ent.op, .string (strB r.m.ent.key), .int .i64 r.m.ent.size, .int .u32 (r.m.ent.sum : Int), .slice r.loc r.el r.c, .int .i64 r.m.e, .slice r.fa r.fl r.fc, .slice r.ka r.kl r.kc, .int .i64 r.m.cep, .slice r.ma r.ml r.mc, .slice r.sa r.sl r.sc, .slice r.na r.nl r.nc] 35)) = w0 at *
  refine (encMsg_no r _ HM0.out HN.out).mono ?_
  rintro e w1 ⟨rfl, hb⟩
  have E1 := Lib.hid (E0.out.trans hb)
  clear hb
  go_wp2
  go_ret
  exact ⟨rfl, E1.out⟩

/-- What Send of a sound message answers. -/
def RetSd (w : World) (base R : Nat) (N : List Nat) (ms : List Pm) (ks : List (Int × Int)) (m : Pm) (e : Ending) (w' : World) : Prop :=
  (ms.length < 1024 ∧ NtP w base R N (ms ++ [m]) ks (.int .i64 0) e w') ∨ (ms.length = 1024 ∧ NtP w base R N ms ks (.int .i64 5) e w')

set_option maxRecDepth 100000 in
set_option maxHeartbeats 1000000 in
theorem send_yes {w : World} {base R : Nat} {N : List Nat} {ms : List Pm} {ks : List (Int × Int)} (hN : Nt w base R N ms ks) (r : Rm) (h : MsgAt w r) (hy : sndMg r.m = true) : Calls Try.prog 21 #[.pointer (some ⟨R, 0, none⟩), .agg r.cells] w (RetSd w base R N ms ks r.m) := by
  show Calls Try.prog 21 #[.pointer (some ⟨R, 0, none⟩), .agg #[.int .i64 r.m.kind, .int .i64 r.m.frm, .int .i64 r.m.to, .int .i64 r.m.epoch, .int .i64 r.m.ent.seq, .int .i64 r.m.ent.client, .int .i64 r.m.ent.num, .int .i64 r.m.ent.op, .string (strB r.m.ent.key), .int .i64 r.m.ent.size, .int .u32 (r.m.ent.sum : Int), .slice r.loc r.el r.c, .int .i64 r.m.e, .slice r.fa r.fl r.fc, .slice r.ka r.kl r.kc, .int .i64 r.m.cep, .slice r.ma r.ml r.mc, .slice r.sa r.sl r.sc, .slice r.na r.nl r.nc]] w _
  obtain ⟨ga, o, hA⟩ := hN
  have HX0 : Hid (Box (w.alloc (.cells #[.int .i64 r.m.kind, .int .i64 r.m.frm, .int .i64 r.m.to, .int .i64 r.m.epoch, .int .i64 r.m.ent.seq, .int .i64 r.m.ent.client, .int .i64 r.m.ent.num, .int .i64 r.m.ent.op, .string (strB r.m.ent.key), .int .i64 r.m.ent.size, .int .u32 (r.m.ent.sum : Int), .slice r.loc r.el r.c, .int .i64 r.m.e, .slice r.fa r.fl r.fc, .slice r.ka r.kl r.kc, .int .i64 r.m.cep, .slice r.ma r.ml r.mc, .slice r.sa r.sl r.sc, .slice r.na r.nl r.nc] 35)) w.heap.size r.cells) := box_new w r.cells 35 _ rfl
  have E0 : Hid (Ext w (w.alloc (.cells #[.int .i64 r.m.kind, .int .i64 r.m.frm, .int .i64 r.m.to, .int .i64 r.m.epoch, .int .i64 r.m.ent.seq, .int .i64 r.m.ent.client, .int .i64 r.m.ent.num, .int .i64 r.m.ent.op, .string (strB r.m.ent.key), .int .i64 r.m.ent.size, .int .u32 (r.m.ent.sum : Int), .slice r.loc r.el r.c, .int .i64 r.m.e, .slice r.fa r.fl r.fc, .slice r.ka r.kl r.kc, .int .i64 r.m.cep, .slice r.ma r.ml r.mc, .slice r.sa r.sl r.sc, .slice r.na r.nl r.nc] 35))) := below_one w _
  have HM0 := Lib.hid (h.below E0.out)
  have HA0 := Lib.hid (hA.below E0.out)
  have HY := Lib.hid hy
  have hNw := hA.nLt
  clear h hy hA
  go_enter Try.func21, Try.ntmps21
  go_wp2_with (first | refine wpList_ldM _ _ _ rfl rfl rfl rfl HX0.out ?_ | (refine wpList_ung (by rfl) ?_; refine wpList_ldM _ _ _ rfl rfl rfl rfl HX0.out ?_))
  generalize (w.alloc (.cells #[.int .i64 r.m.kind, .int .i64 r.m.frm, .int .i64 r.m.to, .int .i64 r.m.epoch, .int .i64 r.m.ent.seq, .int .i64 r.m.ent.client, .int .i64 r.m.ent.num, .int .i64 r.m.ent.op, .string (strB r.m.ent.key), .int .i64 r.m.ent.size, .int .u32 (r.m.ent.sum : Int), .slice r.loc r.el r.c, .int .i64 r.m.e, .slice r.fa r.fl r.fc, .slice r.ka r.kl r.kc, .int .i64 r.m.cep, .slice r.ma r.ml r.mc, .slice r.sa r.sl r.sc, .slice r.na r.nl r.nc] 35)) = w0 at *
  refine (encMsg_yes r _ HM0.out HY.out).mono ?_
  rintro e w1 ⟨g, c, rfl, ho, hb⟩
  have hg := World.ownsRow.lt ho.own g rfl
  have HO := Lib.hid ho.seenAt
  have E1 := Lib.hid (E0.out.trans hb)
  have hz0 := E0.out.size
  have HA1 := Lib.hid ((HA0.out.below hb).more [g] (fun q hq => by simp at hq; subst hq; have := HA0.out.nLt R HA0.out.inR; omega))
  have HMV : Hid (Mv w w1 N ([g] ++ N)) := ⟨Chg.of_below E1.out, fun q hq => by
    simp at hq
    rcases hq with rfl | hq
    · right; omega
    · exact .inl hq⟩
  have HG : Hid (∀ q ∈ blk (some (⟨g, 0, none⟩ : Addr)), q ∈ [g] ++ N ∧ q ∉ blk ga ∧ q ≠ R ∧ o ≠ some q) := by
    intro q hq
    simp [blk] at hq
    subst hq
    have hnN : ∀ z ∈ N, z ≠ q := fun z hz e => by have := (hNw z hz).2; omega
    exact ⟨by simp, fun e => hnN q (HA0.out.inG q e) rfl, fun e => hnN R HA0.out.inR e.symm, fun e => hnN q (HA0.out.inO q e) rfl⟩
  have HW := Lib.hid HM0.out.wf
  clear ho hb HX0 HM0 HA0
  obtain ⟨l, hl⟩ : ∃ l, (encMg r.m).length = l := ⟨_, rfl⟩
  have HL := Lib.hid hl
  rw [hl]
  clear hl
  by_cases hlt : ms.length < 1024
  · go_wp2_with fail
    refine (bag_any HA1.out hlt (some ⟨g, 0, none⟩) c l r.m ⟨HW.out, HY.out⟩ HL.out HO.out HG.out).mono ?_
    rintro e w2 ⟨rfl, N', hN', hM'⟩
    have HFIN : Hid (RetSd w base R N ms ks r.m (.returned (.int .i64 0)) w2) := .inl ⟨hlt, rfl, N', hN', HMV.out.trans hM'⟩
    clear hN' hM'
    go_wp2
    go_ret
    exact HFIN.out
  · have hfull : 1024 ≤ ms.length := by omega
    go_wp2_with fail
    refine (bag_full HA1.out hfull _).mono ?_
    rintro e w2 ⟨rfl, rfl⟩
    have HFIN : Hid (RetSd w base R N ms ks r.m (.returned (.int .i64 5)) w1) := .inr ⟨by have := HA1.out.most; omega, rfl, _, ⟨_, _, HA1.out⟩, HMV.out⟩
    go_wp2
    go_ret
    exact HFIN.out

/-- No message is handed back. -/
def RetNoM (w : World) (v : Value) (e : Ending) (w' : World) : Prop := e = .returned (.tuple #[.agg #[.int .i64 0, .int .i64 0, .int .i64 0, .int .i64 0, .int .i64 0, .int .i64 0, .int .i64 0, .int .i64 0, .string ⟨#[]⟩, .int .i64 0, .int .u32 0, .slice none 0 0, .int .i64 0, .slice none 0 0, .slice none 0 0, .int .i64 0, .slice none 0 0, .slice none 0 0, .slice none 0 0], v]) ∧ Below w.heap.size w w'

set_option maxRecDepth 100000 in
set_option maxHeartbeats 1000000 in
theorem look_nil (i : Int) (w : World) : Calls Try.prog 27 #[.pointer none, .int .i64 i] w (RetNoM w (.bool false)) := by
  have HB0 : Hid (Below w.heap.size w (w.alloc (.cells #[.int .i64 0, .int .i64 0, .int .i64 0, .int .i64 0, .int .i64 0, .int .i64 0, .int .i64 0, .int .i64 0, .string ⟨#[]⟩, .int .i64 0, .int .u32 0, .slice none 0 0, .int .i64 0, .slice none 0 0, .slice none 0 0, .int .i64 0, .slice none 0 0, .slice none 0 0, .slice none 0 0] 35))) := below_one w _
  have HZ0 := Lib.hid (bx_new w #[.int .i64 0, .int .i64 0, .int .i64 0, .int .i64 0, .int .i64 0, .int .i64 0, .int .i64 0, .int .i64 0, .string ⟨#[]⟩, .int .i64 0, .int .u32 0, .slice none 0 0, .int .i64 0, .slice none 0 0, .slice none 0 0, .int .i64 0, .slice none 0 0, .slice none 0 0, .slice none 0 0] 35)
  go_enter Try.func27, Try.ntmps27
  go_wp2_with fail
  generalize (w.alloc (.cells #[.int .i64 0, .int .i64 0, .int .i64 0, .int .i64 0, .int .i64 0, .int .i64 0, .int .i64 0, .int .i64 0, .string ⟨#[]⟩, .int .i64 0, .int .u32 0, .slice none 0 0, .int .i64 0, .slice none 0 0, .slice none 0 0, .int .i64 0, .slice none 0 0, .slice none 0 0, .slice none 0 0] 35)) = w0 at *
  refine (plc_nil i _).mono ?_
  rintro e w1 ⟨rfl, rfl⟩
  go_wp2_with (refine wpList_st 35 19 (w.heap.size) 0 35 #[.int .i64 0, .int .i64 0, .int .i64 0, .int .i64 0, .int .i64 0, .int .i64 0, .int .i64 0, .int .i64 0, .string ⟨#[]⟩, .int .i64 0, .int .u32 0, .slice none 0 0, .int .i64 0, .slice none 0 0, .slice none 0 0, .int .i64 0, .slice none 0 0, .slice none 0 0, .slice none 0 0] #[.int .i64 0, .int .i64 0, .int .i64 0, .int .i64 0, .int .i64 0, .int .i64 0, .int .i64 0, .int .i64 0, .string ⟨#[]⟩, .int .i64 0, .int .u32 0, .slice none 0 0, .int .i64 0, .slice none 0 0, .slice none 0 0, .int .i64 0, .slice none 0 0, .slice none 0 0, .slice none 0 0] #[.int .i64 0, .int .i64 0, .int .i64 0, .int .i64 0, .int .i64 0, .int .i64 0, .int .i64 0, .int .i64 0, .string ⟨#[]⟩, .int .i64 0, .int .u32 0, .slice none 0 0, .int .i64 0, .slice none 0 0, .slice none 0 0, .int .i64 0, .slice none 0 0, .slice none 0 0, .slice none 0 0] _ _ rfl rfl rfl rfl rfl (by kernel_rfl) rfl HZ0.out (by simp) zero_ones rfl ?_; intro wf hx hc)
  have HF : Hid (RetNoM w (.bool false) (.returned (.tuple #[.agg #[.int .i64 0, .int .i64 0, .int .i64 0, .int .i64 0, .int .i64 0, .int .i64 0, .int .i64 0, .int .i64 0, .string ⟨#[]⟩, .int .i64 0, .int .u32 0, .slice none 0 0, .int .i64 0, .slice none 0 0, .slice none 0 0, .int .i64 0, .slice none 0 0, .slice none 0 0, .slice none 0 0], .bool false])) wf) := ⟨rfl, hc.below HB0.out HB0.out.size (by simp)⟩
  have hld := run_ldvM w.heap.size _ rfl hx.box
  refine bodyPost_ret (v := .tuple #[.agg #[.int .i64 0, .int .i64 0, .int .i64 0, .int .i64 0, .int .i64 0, .int .i64 0, .int .i64 0, .int .i64 0, .string ⟨#[]⟩, .int .i64 0, .int .u32 0, .slice none 0 0, .int .i64 0, .slice none 0 0, .slice none 0 0, .int .i64 0, .slice none 0 0, .slice none 0 0, .slice none 0 0], .bool false]) (results_cell2 Try.results27 rfl rfl hld) rfl ?_
  exact HF.out

set_option maxRecDepth 100000 in
set_option maxHeartbeats 1000000 in
theorem look_no {w : World} {base R : Nat} {N : List Nat} {ks : List (Int × Int)} (h : Nt w base R N [] ks) (i : Int) : Calls Try.prog 27 #[.pointer (some ⟨R, 0, none⟩), .int .i64 i] w (RetNoM w (.bool false)) := by
  have HB0 : Hid (Below w.heap.size w (w.alloc (.cells #[.int .i64 0, .int .i64 0, .int .i64 0, .int .i64 0, .int .i64 0, .int .i64 0, .int .i64 0, .int .i64 0, .string ⟨#[]⟩, .int .i64 0, .int .u32 0, .slice none 0 0, .int .i64 0, .slice none 0 0, .slice none 0 0, .int .i64 0, .slice none 0 0, .slice none 0 0, .slice none 0 0] 35))) := below_one w _
  have HZ0 := Lib.hid (bx_new w #[.int .i64 0, .int .i64 0, .int .i64 0, .int .i64 0, .int .i64 0, .int .i64 0, .int .i64 0, .int .i64 0, .string ⟨#[]⟩, .int .i64 0, .int .u32 0, .slice none 0 0, .int .i64 0, .slice none 0 0, .slice none 0 0, .int .i64 0, .slice none 0 0, .slice none 0 0, .slice none 0 0] 35)
  obtain ⟨ga, o, hA⟩ := h
  have HA0 := Lib.hid (hA.below HB0.out)
  clear hA
  go_enter Try.func27, Try.ntmps27
  go_wp2_with fail
  generalize (w.alloc (.cells #[.int .i64 0, .int .i64 0, .int .i64 0, .int .i64 0, .int .i64 0, .int .i64 0, .int .i64 0, .int .i64 0, .string ⟨#[]⟩, .int .i64 0, .int .u32 0, .slice none 0 0, .int .i64 0, .slice none 0 0, .slice none 0 0, .int .i64 0, .slice none 0 0, .slice none 0 0, .slice none 0 0] 35)) = w0 at *
  refine (plc_no HA0.out i).mono ?_
  rintro e w1 ⟨rfl, rfl⟩
  go_wp2_with (refine wpList_st 35 19 (w.heap.size) 0 35 #[.int .i64 0, .int .i64 0, .int .i64 0, .int .i64 0, .int .i64 0, .int .i64 0, .int .i64 0, .int .i64 0, .string ⟨#[]⟩, .int .i64 0, .int .u32 0, .slice none 0 0, .int .i64 0, .slice none 0 0, .slice none 0 0, .int .i64 0, .slice none 0 0, .slice none 0 0, .slice none 0 0] #[.int .i64 0, .int .i64 0, .int .i64 0, .int .i64 0, .int .i64 0, .int .i64 0, .int .i64 0, .int .i64 0, .string ⟨#[]⟩, .int .i64 0, .int .u32 0, .slice none 0 0, .int .i64 0, .slice none 0 0, .slice none 0 0, .int .i64 0, .slice none 0 0, .slice none 0 0, .slice none 0 0] #[.int .i64 0, .int .i64 0, .int .i64 0, .int .i64 0, .int .i64 0, .int .i64 0, .int .i64 0, .int .i64 0, .string ⟨#[]⟩, .int .i64 0, .int .u32 0, .slice none 0 0, .int .i64 0, .slice none 0 0, .slice none 0 0, .int .i64 0, .slice none 0 0, .slice none 0 0, .slice none 0 0] _ _ rfl rfl rfl rfl rfl (by kernel_rfl) rfl HZ0.out (by simp) zero_ones rfl ?_; intro wf hx hc)
  have HF : Hid (RetNoM w (.bool false) (.returned (.tuple #[.agg #[.int .i64 0, .int .i64 0, .int .i64 0, .int .i64 0, .int .i64 0, .int .i64 0, .int .i64 0, .int .i64 0, .string ⟨#[]⟩, .int .i64 0, .int .u32 0, .slice none 0 0, .int .i64 0, .slice none 0 0, .slice none 0 0, .int .i64 0, .slice none 0 0, .slice none 0 0, .slice none 0 0], .bool false])) wf) := ⟨rfl, hc.below HB0.out HB0.out.size (by simp)⟩
  have hld := run_ldvM w.heap.size _ rfl hx.box
  refine bodyPost_ret (v := .tuple #[.agg #[.int .i64 0, .int .i64 0, .int .i64 0, .int .i64 0, .int .i64 0, .int .i64 0, .int .i64 0, .int .i64 0, .string ⟨#[]⟩, .int .i64 0, .int .u32 0, .slice none 0 0, .int .i64 0, .slice none 0 0, .slice none 0 0, .int .i64 0, .slice none 0 0, .slice none 0 0, .slice none 0 0], .bool false]) (results_cell2 Try.results27 rfl rfl hld) rfl ?_
  exact HF.out

/-- Message m is handed back, in new memory. -/
def RetYesM (w : World) (m : Pm) (v : Value) (e : Ending) (w' : World) : Prop := ∃ r : Rm, r.m = m ∧ e = .returned (.tuple #[.agg r.cells, v]) ∧ Kept w.heap.size w' (fun w2 => MsgAt w2 r) ∧ Below w.heap.size w w'

theorem NtA.row {w : World} {base R : Nat} {ga : Option Addr} {o : Option Nat} {N : List Nat} {ms : List Pm} {ks : List (Int × Int)} (h : NtA w base R ga o N ms ks) (n p : Nat) (hn : ms.length = n) (hp : p < n) :
    ∃ g cap la lc l, ga = some ⟨g, 0, none⟩ ∧ w.cell? ⟨R, 0, none⟩ = some (.slice (some ⟨g, 0, none⟩) n cap) ∧ w.cell? ⟨g, p, none⟩ = some (.slice la l lc) ∧ (encMg (ms.getD p pm0)).length = l ∧ SeenAt w la lc (encMg (ms.getD p pm0)) ∧ n ≤ cap ∧ (∀ q ∈ blk la, q ∈ N ∧ q ∉ blk ga ∧ q ≠ R ∧ o ≠ some q) := by
  subst hn
  obtain ⟨cap, xs, hc, hr, hps, hx, hxl⟩ := h.count
  obtain ⟨g, hg, hrow⟩ := hr.row ⟨none, 0, []⟩ p (by omega)
  have hpx : p < xs.length := by omega
  have e1 : (xs.getD p ⟨none, 0, []⟩).ps = encMg (ms.getD p pm0) := by
    have := congrArg (fun z => z.getD p []) hps
    simpa [List.getD_eq_getElem?_getD, List.getElem?_map, List.getElem?_eq_getElem hpx, List.getElem?_eq_getElem hp] using this
  have hm : xs.getD p ⟨none, 0, []⟩ ∈ xs := by rw [List.getD_eq_getElem?_getD, List.getElem?_eq_getElem hpx]; exact List.getElem_mem _
  refine ⟨g, cap, (xs.getD p ⟨none, 0, []⟩).loc, (xs.getD p ⟨none, 0, []⟩).cap, _, hg, by rw [← hg]; exact hc, hrow, by rw [e1], by rw [← e1]; exact hr.seen _ hm, by have := hr.le; omega, fun q hq => ?_⟩
  have h1 := hx _ hm q hq
  exact ⟨h1.1, (hr.far _ hm q hq).1, h1.2⟩

theorem NtA.goodAt {w : World} {base R : Nat} {ga : Option Addr} {o : Option Nat} {N : List Nat} {ms : List Pm} {ks : List (Int × Int)} (h : NtA w base R ga o N ms ks) (p : Nat) (hp : p < ms.length) : (ms.getD p pm0).Wf ∧ sndMg (ms.getD p pm0) = true :=
  h.good _ (by rw [List.getD_eq_getElem?_getD, List.getElem?_eq_getElem hp]; exact List.getElem_mem _)

set_option maxRecDepth 100000 in
set_option maxHeartbeats 1000000 in
theorem look_any {w : World} {base R : Nat} {N : List Nat} {ms : List Pm} {ks : List (Int × Int)} (h : Nt w base R N ms ks) (n : Nat) (hn : ms.length = n) (h0 : 0 < n) (i : Int) (p : Nat) (hp : posI i n = p) :
    Calls Try.prog 27 #[.pointer (some ⟨R, 0, none⟩), .int .i64 i] w (RetYesM w (ms.getD p pm0) (.bool true)) := by
  have HB0 : Hid (Below w.heap.size w (w.alloc (.cells #[.int .i64 0, .int .i64 0, .int .i64 0, .int .i64 0, .int .i64 0, .int .i64 0, .int .i64 0, .int .i64 0, .string ⟨#[]⟩, .int .i64 0, .int .u32 0, .slice none 0 0, .int .i64 0, .slice none 0 0, .slice none 0 0, .int .i64 0, .slice none 0 0, .slice none 0 0, .slice none 0 0] 35))) := below_one w _
  have HZ0 := Lib.hid (bx_new w #[.int .i64 0, .int .i64 0, .int .i64 0, .int .i64 0, .int .i64 0, .int .i64 0, .int .i64 0, .int .i64 0, .string ⟨#[]⟩, .int .i64 0, .int .u32 0, .slice none 0 0, .int .i64 0, .slice none 0 0, .slice none 0 0, .int .i64 0, .slice none 0 0, .slice none 0 0, .slice none 0 0] 35)
  obtain ⟨ga, o, hA⟩ := h
  have HA0 := Lib.hid (hA.below HB0.out)
  have hpn : p < n := by rw [← hp]; exact posI_lt i n h0
  obtain ⟨g, cap, la, lc, l, _, hc0, hrow, hl, hs, hnc, _⟩ := HA0.out.row n p hn hpn
  have hcm : n ≤ 1024 := by have := HA0.out.most; omega
  have HL := Lib.hid hl
  have HS := Lib.hid hs
  have HG := Lib.hid (HA0.out.goodAt p (by omega))
  have HP := Lib.hid hp
  have HN := Lib.hid hn
  have HW0 : Hid (w.heap.size < (w.alloc (.cells #[.int .i64 0, .int .i64 0, .int .i64 0, .int .i64 0, .int .i64 0, .int .i64 0, .int .i64 0, .int .i64 0, .string ⟨#[]⟩, .int .i64 0, .int .u32 0, .slice none 0 0, .int .i64 0, .slice none 0 0, .slice none 0 0, .int .i64 0, .slice none 0 0, .slice none 0 0, .slice none 0 0] 35)).heap.size) := by show _ < _; simp
  clear hA hl hs hp hn
  generalize ms.getD p pm0 = m at *
  go_enter Try.func27, Try.ntmps27
  go_wp2_with fail
  generalize (w.alloc (.cells #[.int .i64 0, .int .i64 0, .int .i64 0, .int .i64 0, .int .i64 0, .int .i64 0, .int .i64 0, .int .i64 0, .string ⟨#[]⟩, .int .i64 0, .int .u32 0, .slice none 0 0, .int .i64 0, .slice none 0 0, .slice none 0 0, .int .i64 0, .slice none 0 0, .slice none 0 0, .slice none 0 0] 35)) = w0 at *
  refine (plc_any HA0.out n HN.out h0 i p HP.out).mono ?_
  rintro e w1 ⟨rfl, rfl⟩
  go_wp2_with fail
  refine (dec_kept la lc l m _ HG.out.1 HG.out.2 HL.out HS.out).mono ?_
  rintro e w1 ⟨r, hrm, rfl, hk, hb⟩
  have HRM := Lib.hid hrm
  have HK1 := Lib.hid hk
  have HZ1 := Lib.hid (HZ0.out.chg (gs := []) (Chg.of_below hb) (by simp))
  have HB1 := Lib.hid (HB0.out.trans (hb.mono HB0.out.size))
  clear hrm hk hb HZ0 HB0
  go_wp2_with (first | (refine wpList_st 35 19 (w1.heap.size) 0 35 r.cells #[.int .i64 0, .int .i64 0, .int .i64 0, .int .i64 0, .int .i64 0, .int .i64 0, .int .i64 0, .int .i64 0, .string ⟨#[]⟩, .int .i64 0, .int .u32 0, .slice none 0 0, .int .i64 0, .slice none 0 0, .slice none 0 0, .int .i64 0, .slice none 0 0, .slice none 0 0, .slice none 0 0] r.cells _ _ rfl rfl rfl rfl rfl (by kernel_rfl) rfl (bx_new w1 #[.int .i64 0, .int .i64 0, .int .i64 0, .int .i64 0, .int .i64 0, .int .i64 0, .int .i64 0, .int .i64 0, .string ⟨#[]⟩, .int .i64 0, .int .u32 0, .slice none 0 0, .int .i64 0, .slice none 0 0, .slice none 0 0, .int .i64 0, .slice none 0 0, .slice none 0 0, .slice none 0 0] 35) (by simp) (cells_ones r) rfl ?_; intro w2 hx2 hc2; have hb2 : Below w1.heap.size w1 w2 := hc2.below (below_one w1 _) (by simp) (by simp); have HX2 := Lib.hid hx2; have HZ2 := Lib.hid (HZ1.out.chg (gs := []) (Chg.of_below hb2) (by simp)); have HB2 := Lib.hid (HB1.out.trans (hb2.mono HB1.out.size)); have HK2 := Lib.hid (HK1.out.step (hs := []) (Chg.of_below hb2) (by simp)); clear hx2 hc2 hb2 HZ1 HB1 HK1) | refine wpList_ldM _ _ _ rfl rfl rfl rfl HX2.out.box ?_ | (refine wpList_ung (by rfl) ?_; refine wpList_ldM _ _ _ rfl rfl rfl rfl HX2.out.box ?_) | (refine wpList_st 35 19 (w.heap.size) 0 35 r.cells #[.int .i64 0, .int .i64 0, .int .i64 0, .int .i64 0, .int .i64 0, .int .i64 0, .int .i64 0, .int .i64 0, .string ⟨#[]⟩, .int .i64 0, .int .u32 0, .slice none 0 0, .int .i64 0, .slice none 0 0, .slice none 0 0, .int .i64 0, .slice none 0 0, .slice none 0 0, .slice none 0 0] r.cells _ _ rfl rfl rfl rfl rfl (by kernel_rfl) rfl HZ2.out (by simp) (cells_ones r) rfl ?_; intro wf hx hc))
  have HF : Hid (RetYesM w m (.bool true) (.returned (.tuple #[.agg r.cells, .bool true])) wf) := ⟨r, HRM.out, rfl, (HK2.out.step hc (by simp; exact HW0.out)).low (Nat.le_of_lt HW0.out), hc.below HB2.out HB2.out.size (by simp)⟩
  have hld := run_ldvM w.heap.size _ rfl hx.box
  refine bodyPost_ret (v := .tuple #[.agg r.cells, .bool true]) (results_cell2 Try.results27 rfl rfl hld) rfl ?_
  exact HF.out

theorem drop_nil (i : Int) (w : World) : Calls Try.prog 25 #[.pointer none, .int .i64 i] w fun e w' => e = .returned (.int .i64 4) ∧ w = w' := by
  go_enter Try.func25, Try.ntmps25
  go_wp2_with fail
  refine (plc_nil i _).mono ?_
  rintro e w1 ⟨rfl, rfl⟩
  go_wp2
  go_ret
  exact ⟨rfl, rfl⟩

theorem drop_no {w : World} {base R : Nat} {N : List Nat} {ks : List (Int × Int)} (h : Nt w base R N [] ks) (i : Int) : Calls Try.prog 25 #[.pointer (some ⟨R, 0, none⟩), .int .i64 i] w fun e w' => e = .returned (.int .i64 4) ∧ w = w' := by
  obtain ⟨ga, o, hA⟩ := h
  have HA := Lib.hid hA
  clear hA
  go_enter Try.func25, Try.ntmps25
  go_wp2_with fail
  refine (plc_no HA.out i).mono ?_
  rintro e w1 ⟨rfl, rfl⟩
  go_wp2
  go_ret
  exact ⟨rfl, rfl⟩

set_option maxRecDepth 100000 in
set_option maxHeartbeats 1000000 in
theorem drop_any {w : World} {base R : Nat} {N : List Nat} {ms : List Pm} {ks : List (Int × Int)} (h : Nt w base R N ms ks) (n : Nat) (hn : ms.length = n) (h0 : 0 < n) (i : Int) (p : Nat) (hp : posI i n = p) :
    Calls Try.prog 25 #[.pointer (some ⟨R, 0, none⟩), .int .i64 i] w (NtP w base R N (ms.eraseIdx p) ks (.int .i64 0)) := by
  obtain ⟨ga, o, hA⟩ := h
  have hpn : p < n := by rw [← hp]; exact posI_lt i n h0
  have hcm : n ≤ 1024 := by have := hA.most; omega
  obtain ⟨cap, xs, hc, hr, hps, hx, hxl⟩ := hA.count
  rw [hn] at hc hxl
  obtain ⟨g, rfl⟩ : ∃ g, ga = some ⟨g, 0, none⟩ := by
    rcases hr.cases with ⟨_, h2, _⟩ | h2
    · rw [h2] at hxl; simp at hxl; omega
    · exact h2
  have hRlt := hA.nLt R hA.inR
  have hfr := hA.free 0
  have HA := Lib.hid hA
  have HR := Lib.hid hr
  have HPS := Lib.hid hps
  have HX := Lib.hid hx
  have HXL := Lib.hid hxl
  have HP := Lib.hid hp
  have HN := Lib.hid hn
  clear hA hr hps hx hxl hp hn
  go_enter Try.func25, Try.ntmps25
  go_wp2_with fail
  refine (plc_any HA.out n HN.out h0 i p HP.out).mono ?_
  rintro e w1 ⟨rfl, rfl⟩
  go_wp2_with fail
  refine (del_any HR.out p n HXL.out hpn).mono ?_
  rintro e w1 ⟨n', hn', rfl, hr1, hc1⟩
  have hcc : w1.cell? ⟨R, 0, none⟩ = some (.slice (some ⟨g, 0, none⟩) n cap) := hc1.cell hc HA.out.neG
  have hff : w1.frozen? ⟨R, 0, none⟩ = false := (World.frozen?_of_block (hc1.block R hRlt.2 HA.out.neG)).trans hfr
  have hfin := HA.out.put (gs := [g]) hc1 (fun q hq => by simpa [blk] using hq) hr1 (ms' := ms.eraseIdx p) (n := n') (fun q hq => .inl hq) (fun x hx q hq => HX.out x ((List.eraseIdx_sublist _ _).subset hx) q hq) (by rw [map_eraseI, HPS.out, map_eraseI]) (fun m hm => HA.out.good m ((List.eraseIdx_sublist _ _).subset hm)) (by have := HN.out; have := List.length_eraseIdx_le ms p; omega) (by rw [List.length_eraseIdx_of_lt (by have := HXL.out; omega), HXL.out]; omega)
  have HFIN : Hid (NtP w base R N (ms.eraseIdx p) ks (.int .i64 0) (.returned (.int .i64 0)) (w1.setCell ⟨R, 0, none⟩ (.slice (some ⟨g, 0, none⟩) n' cap))) := ⟨rfl, _, ⟨_, _, hfin.1⟩, hfin.2⟩
  clear hfin hr1 hc1
  go_wp2
  go_ret
  exact HFIN.out

theorem dup_nil (i : Int) (w : World) : Calls Try.prog 22 #[.pointer none, .int .i64 i] w fun e w' => e = .returned (.int .i64 4) ∧ w = w' := by
  go_enter Try.func22, Try.ntmps22
  go_wp2_with fail
  refine (plc_nil i _).mono ?_
  rintro e w1 ⟨rfl, rfl⟩
  go_wp2
  go_ret
  exact ⟨rfl, rfl⟩

theorem dup_no {w : World} {base R : Nat} {N : List Nat} {ks : List (Int × Int)} (h : Nt w base R N [] ks) (i : Int) : Calls Try.prog 22 #[.pointer (some ⟨R, 0, none⟩), .int .i64 i] w fun e w' => e = .returned (.int .i64 4) ∧ w = w' := by
  obtain ⟨ga, o, hA⟩ := h
  have HA := Lib.hid hA
  clear hA
  go_enter Try.func22, Try.ntmps22
  go_wp2_with fail
  refine (plc_no HA.out i).mono ?_
  rintro e w1 ⟨rfl, rfl⟩
  go_wp2
  go_ret
  exact ⟨rfl, rfl⟩

set_option maxRecDepth 100000 in
set_option maxHeartbeats 1000000 in
theorem dup_any {w : World} {base R : Nat} {N : List Nat} {ms : List Pm} {ks : List (Int × Int)} (h : Nt w base R N ms ks) (n : Nat) (hn : ms.length = n) (h0 : 0 < n) (i : Int) (p : Nat) (hp : posI i n = p) :
    Calls Try.prog 22 #[.pointer (some ⟨R, 0, none⟩), .int .i64 i] w (RetSd w base R N ms ks (ms.getD p pm0)) := by
  obtain ⟨ga, o, hA⟩ := h
  have hpn : p < n := by rw [← hp]; exact posI_lt i n h0
  have hcm : n ≤ 1024 := by have := hA.most; omega
  obtain ⟨g, cap, la, lc, l, _, hc0, hrow, hl, hs, hnc, hq⟩ := hA.row n p hn hpn
  have HL := Lib.hid hl
  have HS := Lib.hid hs
  have HG := Lib.hid (hA.goodAt p (by omega))
  have HQ := Lib.hid hq
  have HA := Lib.hid hA
  have HP := Lib.hid hp
  have HN := Lib.hid hn
  clear hA hl hs hp hn hq
  generalize ms.getD p pm0 = m at *
  go_enter Try.func22, Try.ntmps22
  go_wp2_with fail
  refine (plc_any HA.out n HN.out h0 i p HP.out).mono ?_
  rintro e w1 ⟨rfl, rfl⟩
  by_cases hlt : ms.length < 1024
  · go_wp2_with fail
    refine (bag_any HA.out hlt la lc l m HG.out HL.out HS.out HQ.out).mono ?_
    rintro e w2 ⟨rfl, N', hN', hM'⟩
    have HFIN : Hid (RetSd w base R N ms ks m (.returned (.int .i64 0)) w2) := .inl ⟨hlt, rfl, N', hN', hM'⟩
    clear hN' hM'
    go_wp2
    go_ret
    exact HFIN.out
  · have hfull : 1024 ≤ ms.length := by omega
    go_wp2_with fail
    refine (bag_full HA.out hfull _).mono ?_
    rintro e w2 ⟨rfl, rfl⟩
    have HFIN : Hid (RetSd w base R N ms ks m (.returned (.int .i64 5)) w) := .inr ⟨by have := HN.out; omega, rfl, _, ⟨_, _, HA.out⟩, Mv.refl _ _⟩
    go_wp2
    go_ret
    exact HFIN.out

end Go.Proofs.Ytggjpjpemgpeeaa

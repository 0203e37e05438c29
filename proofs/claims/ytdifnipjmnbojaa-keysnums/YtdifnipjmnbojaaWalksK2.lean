/-
  keys.current and keys.newest: the tables of places.
-/
import Derived.Test.YtdifnipjmnbojaaKyMap
import Derived.Test.YtdifnipjmnbojaaWalksK1
namespace Go.Proofs.Ytdifnipjmnbojaa
open Go.RowKit Go.Maps Go.Sort






theorem string_kd : Keyed Try.prog 9 := string_keyed Try.underlying9
theorem int_kd : Keyed Try.prog 3 := int_keyed Try.underlying3

theorem curU_put {es : List Pe} {last : Int} {k : Nat} {p : Pe} (hp : es.getD k pe0 = p) (h1 : p.seq ≤ last) (h2 : p.op = 1) (x : List UInt8) : curU es last (k + 1) x = if x = kb p then some k else curU es last k x := by
  rw [curU_step, hp]
  by_cases e : x = kb p
  · rw [if_pos ⟨h1, e.symm, h2⟩, if_pos e]
  · rw [if_neg (fun h => e h.2.1.symm), if_neg (fun h => e h.2.1.symm), if_neg e]

theorem curU_del {es : List Pe} {last : Int} {k : Nat} {p : Pe} (hp : es.getD k pe0 = p) (h1 : p.seq ≤ last) (h2 : p.op = 2) (x : List UInt8) : curU es last (k + 1) x = if x = kb p then none else curU es last k x := by
  rw [curU_step, hp]
  rw [if_neg (fun h => by have := h.2.2; omega)]
  by_cases e : x = kb p
  · rw [if_pos ⟨h1, e.symm, h2⟩, if_pos e]
  · rw [if_neg (fun h => e h.2.1.symm), if_neg e]

theorem curU_on {es : List Pe} {last : Int} {k : Nat} {p : Pe} (hp : es.getD k pe0 = p) (h : ¬(p.seq ≤ last ∧ (p.op = 1 ∨ p.op = 2))) (x : List UInt8) : curU es last (k + 1) x = curU es last k x := by
  rw [curU_step, hp, if_neg (fun h' => h ⟨h'.1, .inl h'.2.2⟩), if_neg (fun h' => h ⟨h'.1, .inr h'.2.2⟩)]

theorem newU_put {es : List Pe} {last : Int} {k : Nat} {p : Pe} (hp : es.getD k pe0 = p) (h1 : p.seq ≤ last) (x : Int) : newU es last (k + 1) x = if x = p.client then some k else newU es last k x := by
  rw [newU_step, hp]
  by_cases e : x = p.client
  · rw [if_pos ⟨h1, e.symm⟩, if_pos e]
  · rw [if_neg (fun h => e h.2.symm), if_neg e]

theorem newU_on {es : List Pe} {last : Int} {k : Nat} {p : Pe} (hp : es.getD k pe0 = p) (h : ¬ p.seq ≤ last) (x : Int) : newU es last (k + 1) x = newU es last k x := by
  rw [newU_step, hp, if_neg (fun h' => h h'.1)]

set_option maxRecDepth 100000 in
set_option maxHeartbeats 1000000 in
theorem current_any (a : Option Addr) (cap l : Nat) (es : List Pe) (last : Int) (w : World) (hl : es.length = l) (h : EnsAt w a cap es) (hkl : ∀ e ∈ es, e.key.length ≤ 1000000000) (h9 : l ≤ 1000000) :
    Calls Try.prog 24 #[.slice a l cap, .int .i64 last] w fun e w' => e = .returned (.map (some w.heap.size)) ∧ MapP w' 9 mkS w.heap.size l (curU es last l) ∧ Below w.heap.size w w' := by
  have HE := Lib.hid h
  have HL := Lib.hid hl
  have HK := Lib.hid hkl
  have HM0 : Hid (MapP (w.alloc (.map #[] 0)) 9 mkS w.heap.size 0 (curU es last 0)) := (mapP_made w 9 mkS).eq (fun x => curU_zero es last x)
  have HB0 : Hid (Below w.heap.size w (w.alloc (.map #[] 0))) := below_one _ _
  clear h hl hkl
  have hmm := @run_makeMap Try.prog
  go_enter Try.func24, Try.ntmps24
  go_wp2
  clear hmm
  go_loopw [7, 11] (fun _ i ws => ∃ k : Nat, k ≤ l ∧ i = .int .i64 k ∧ Hid (MapP ws 9 mkS w.heap.size k (curU es last k)) ∧ Hid (Below w.heap.size w ws)) (fun _ i _ => l - (intOf i).toNat)
  case atStart => exact ⟨0, Nat.zero_le _, rfl, HM0, HB0⟩
  case round =>
    obtain ⟨k, hk, rfl, HM, HB⟩ := hrel
    by_cases hlt : k < l
    · obtain ⟨b, off, loc, c, rfl, hc⟩ := (HE.out.below HB.out).el k (by rw [HL.out]; exact hlt)
      have c0 := hc.c0
      have c1 := hc.c1
      have c2 := hc.c2
      have c3 := hc.c3
      have c4 := hc.c4
      have c5 := hc.c5
      have c6 := hc.c6
      have c7 := hc.c7
      clear hc
      have HP : Hid (∃ p, es.getD k pe0 = p) := ⟨_, rfl⟩
      have HKP := Lib.hid (HK.out _ (getD_mem es k pe0 (by rw [HL.out]; exact hlt)))
      obtain ⟨p, hp⟩ := HP.out
      rw [hp] at c0 c1 c2 c3 c4 c5 c6 c7 HKP
      have HP1 := Lib.hid hp
      clear hp HP
      have HB1 := Lib.hid (HB.out.alloc HB.out.size (.cells #[.int .i64 p.seq, .int .i64 p.client, .int .i64 p.num, .int .i64 p.op, .string (strB p.key), .int .i64 p.size, .int .u32 (p.sum : Int), .slice loc p.frag.length c] 26))
      have HM1 := Lib.hid (HM.out.below (below_one wr (.cells #[.int .i64 p.seq, .int .i64 p.client, .int .i64 p.num, .int .i64 p.op, .string (strB p.key), .int .i64 p.size, .int .u32 (p.sum : Int), .slice loc p.frag.length c] 26)))
      by_cases h1 : last < p.seq
      · have d1 : decide (last < p.seq) = true := by simp [h1]
        have HM2 := Lib.hid ((HM1.out.mono (Nat.le_succ k)).eq (curU_on (last := last) HP1.out (fun h => by omega)))
        clear HM HM1 h1
        go_wp2
        go_roundw
        case rel => exact ⟨k + 1, by omega, by go_num, HM2, HB1⟩
        case measure => simp [intOf]; omega
      have d1 : decide (last < p.seq) = false := by simp; omega
      by_cases h2 : p.op = 1
      · have d2 : (p.op == 1) = true := by simp [h2]
        have HY : Hid (p.seq ≤ last ∧ p.op = 1) := ⟨by omega, h2⟩
        clear h1 h2 HM
        go_wp2_with (at_mapUpdate; refine wpList_putP rfl _ _ _ 9 50 mkS rfl string_kd Try.underlying50 mkS_inj mkS_key w.heap.size k _ rfl HM1.out _ (kb p) rfl (key_str p HKP.out) k rfl (by omega) (by omega) ?_; intro w2 hm2 hc2; go_frame)
        have HM2 := Lib.hid (hm2.eq (curU_put HP1.out HY.out.1 HY.out.2))
        have HB2 := Lib.hid (hc2.below HB1.out HB1.out.size (by simp))
        clear hm2 hc2 HM1 HB1
        go_wp2
        go_roundw
        case rel => exact ⟨k + 1, by omega, by go_num, HM2, HB2⟩
        case measure => simp [intOf]; omega
      have d2 : (p.op == 1) = false := by simp [h2]
      by_cases h3 : p.op = 2
      · have d3 : (p.op == 2) = true := by simp [h3]
        have HY : Hid (p.seq ≤ last ∧ p.op = 2) := ⟨by omega, h3⟩
        clear h1 h2 h3 HM
        go_wp2_with (at_delete; refine wpList_delP rfl _ _ 9 50 mkS rfl string_kd Try.underlying50 mkS_inj w.heap.size k _ rfl HM1.out _ (kb p) rfl (key_str p HKP.out) ?_; intro w2 hm2 hc2; go_frame)
        have HM2 := Lib.hid ((hm2.eq (curU_del HP1.out HY.out.1 HY.out.2)).mono (Nat.le_succ k))
        have HB2 := Lib.hid (hc2.below HB1.out HB1.out.size (by simp))
        clear hm2 hc2 HM1 HB1
        go_wp2
        go_roundw
        case rel => exact ⟨k + 1, by omega, by go_num, HM2, HB2⟩
        case measure => simp [intOf]; omega
      have d3 : (p.op == 2) = false := by simp [h3]
      have HM2 := Lib.hid ((HM1.out.mono (Nat.le_succ k)).eq (curU_on (last := last) HP1.out (fun h => by omega)))
      clear h1 h2 h3 HM HM1
      go_wp2
      go_roundw
      case rel => exact ⟨k + 1, by omega, by go_num, HM2, HB1⟩
      case measure => simp [intOf]; omega
    · obtain rfl : k = l := by omega
      go_wp2
      go_ret
      exact ⟨rfl, HM.out, HB.out⟩

set_option maxRecDepth 100000 in
set_option maxHeartbeats 1000000 in
theorem newest_any (a : Option Addr) (cap l : Nat) (es : List Pe) (last : Int) (w : World) (hl : es.length = l) (h : EnsAt w a cap es) (h9 : l ≤ 1000000) :
    Calls Try.prog 29 #[.slice a l cap, .int .i64 last] w fun e w' => e = .returned (.map (some w.heap.size)) ∧ MapP w' 3 mkI w.heap.size l (newU es last l) ∧ Below w.heap.size w w' := by
  have HE := Lib.hid h
  have HL := Lib.hid hl
  have HM0 : Hid (MapP (w.alloc (.map #[] 0)) 3 mkI w.heap.size 0 (newU es last 0)) := (mapP_made w 3 mkI).eq (fun x => rfl)
  have HB0 : Hid (Below w.heap.size w (w.alloc (.map #[] 0))) := below_one _ _
  clear h hl
  have hmm := @run_makeMap Try.prog
  go_enter Try.func29, Try.ntmps29
  go_wp2
  clear hmm
  go_loopw [7, 11] (fun _ i ws => ∃ k : Nat, k ≤ l ∧ i = .int .i64 k ∧ Hid (MapP ws 3 mkI w.heap.size k (newU es last k)) ∧ Hid (Below w.heap.size w ws)) (fun _ i _ => l - (intOf i).toNat)
  case atStart => exact ⟨0, Nat.zero_le _, rfl, HM0, HB0⟩
  case round =>
    obtain ⟨k, hk, rfl, HM, HB⟩ := hrel
    by_cases hlt : k < l
    · obtain ⟨b, off, loc, c, rfl, hc⟩ := (HE.out.below HB.out).el k (by rw [HL.out]; exact hlt)
      have c0 := hc.c0
      have c1 := hc.c1
      have c2 := hc.c2
      have c3 := hc.c3
      have c4 := hc.c4
      have c5 := hc.c5
      have c6 := hc.c6
      have c7 := hc.c7
      clear hc
      have HP : Hid (∃ p, es.getD k pe0 = p) := ⟨_, rfl⟩
      have HWF := Lib.hid (HE.out.wf _ (getD_mem es k pe0 (by rw [HL.out]; exact hlt)))
      obtain ⟨p, hp⟩ := HP.out
      rw [hp] at c0 c1 c2 c3 c4 c5 c6 c7 HWF
      have HP1 := Lib.hid hp
      clear hp HP
      have HB1 := Lib.hid (HB.out.alloc HB.out.size (.cells #[.int .i64 p.seq, .int .i64 p.client, .int .i64 p.num, .int .i64 p.op, .string (strB p.key), .int .i64 p.size, .int .u32 (p.sum : Int), .slice loc p.frag.length c] 26))
      have HM1 := Lib.hid (HM.out.below (below_one wr (.cells #[.int .i64 p.seq, .int .i64 p.client, .int .i64 p.num, .int .i64 p.op, .string (strB p.key), .int .i64 p.size, .int .u32 (p.sum : Int), .slice loc p.frag.length c] 26)))
      by_cases h1 : p.seq ≤ last
      · have d1 : decide (p.seq ≤ last) = true := by simp [h1]
        have HY := Lib.hid h1
        clear h1 HM
        go_wp2_with (at_mapUpdate; refine wpList_putP rfl _ _ _ 3 56 mkI rfl int_kd Try.underlying56 mkI_inj mkI_key w.heap.size k _ rfl HM1.out _ p.client rfl (key_int _ HWF.out.client) k rfl (by omega) (by omega) ?_; intro w2 hm2 hc2; go_frame)
        have HM2 := Lib.hid (hm2.eq (newU_put HP1.out HY.out))
        have HB2 := Lib.hid (hc2.below HB1.out HB1.out.size (by simp))
        clear hm2 hc2 HM1 HB1
        go_wp2
        go_roundw
        case rel => exact ⟨k + 1, by omega, by go_num, HM2, HB2⟩
        case measure => simp [intOf]; omega
      · have d1 : decide (p.seq ≤ last) = false := by simp; omega
        have HM2 := Lib.hid ((HM1.out.mono (Nat.le_succ k)).eq (newU_on HP1.out h1))
        clear h1 HM HM1
        go_wp2
        go_roundw
        case rel => exact ⟨k + 1, by omega, by go_num, HM2, HB1⟩
        case measure => simp [intOf]; omega
    · obtain rfl : k = l := by omega
      go_wp2
      go_ret
      exact ⟨rfl, HM.out, HB.out⟩

end Go.Proofs.Ytdifnipjmnbojaa

/-
  bytes.Equal and the program's Same; the reference's Same.
-/
import Derived.Test.YtdgpbdedaafdiaaWalksY6
namespace Go.Proofs.Ytdgpbdedaafdiaa
open Go.RowKit


set_option maxHeartbeats 400000 in
theorem equal_any (a a' : Option Addr) (c c' l l' : Nat) (ps qs : List Nat) (w : World) (hl : ps.length = l) (hl' : qs.length = l') (h : SeenAt w a c ps) (h' : SeenAt w a' c' qs) :
    Calls Try.prog 79 #[.slice a l c, .slice a' l' c'] w fun e w' => e = .returned (.bool (decide (ps = qs))) ∧ w = w' := by
  have s1 := str_at h hl
  have s2 := str_at h' hl'
  have HF := Lib.hid (strB_beq h.byte h'.byte)
  clear h h' hl hl'
  generalize strB ps = x at *
  generalize strB qs = y at *
  go_enter Try.func79, Try.ntmps79
  go_wp2
  go_ret
  exact ⟨ret_boolean HF.out, rfl⟩

def eqRaw (a b c d f s a' b' c' d' f' s' : Int) (k k' : ByteArray) (ps qs : List Nat) : Bool :=
  (a == a') && (b == b') && (c == c') && (d == d') && (k.toList == k'.toList) && (f == f') && (s == s') && decide (ps = qs)

theorem eqRaw_iff (e f : Pe) (he : e.Wf) (hf : f.Wf) : eqRaw e.seq e.client e.num e.op e.size (e.sum : Int) f.seq f.client f.num f.op f.size (f.sum : Int) (strB e.key) (strB f.key) e.frag f.frag = true ↔ e = f := by
  unfold eqRaw
  rw [strB_beq he.key hf.key]
  obtain ⟨e1, e2, e3, e4, e5, e6, e7, e8⟩ := e
  obtain ⟨f1, f2, f3, f4, f5, f6, f7, f8⟩ := f
  simp
  constructor
  · rintro ⟨⟨⟨⟨⟨⟨⟨rfl, rfl⟩, rfl⟩, rfl⟩, rfl⟩, rfl⟩, h7⟩, rfl⟩
    exact ⟨rfl, rfl, rfl, rfl, rfl, rfl, by omega, rfl⟩
  · rintro ⟨rfl, rfl, rfl, rfl, rfl, rfl, rfl, rfl⟩
    exact ⟨⟨⟨⟨⟨⟨⟨rfl, rfl⟩, rfl⟩, rfl⟩, rfl⟩, rfl⟩, rfl⟩, rfl⟩

theorem eqRaw_eq (e f : Pe) (he : e.Wf) (hf : f.Wf) (k1 : e.key.length ≤ 10000000) (k2 : e.frag.length ≤ 10000000) (k3 : f.key.length ≤ 10000000) (k4 : f.frag.length ≤ 10000000) :
    eqRaw e.seq e.client e.num e.op e.size (e.sum : Int) f.seq f.client f.num f.op f.size (f.sum : Int) (strB e.key) (strB f.key) e.frag f.frag = decide (encE e = encE f) := by
  rw [Bool.eq_iff_iff, eqRaw_iff e f he hf, decide_eq_true_iff]
  exact ⟨fun h => by rw [h], encE_inj e f he hf (by omega) (by omega) (by omega) (by omega)⟩

end Go.Proofs.Ytdgpbdedaafdiaa

/-
  Frames in plain numbers: a record's frame, the frame at the beginning of bytes, the valid part of bytes. No text of the program is named here.
-/
import Derived.Test.YtdgpbdedaafdiaaGreatEnt
import Derived.Test.YtdgpbdedaafdiaaGreatCrc
import Derived.Test.YtdgpbdedaafdiaaGreatWalksV1
namespace Go.Proofs.YtdgpbdedaafdiaaGreat
open Go.Proofs.YtdgpbdedaafdiaaGreat.Gf

/-- Four bytes, the most significant one first. -/
def be4 (n : Nat) : List Nat := [n / 16777216 % 256, n / 65536 % 256, n / 256 % 256, n % 256]

theorem be4_len (n : Nat) : (be4 n).length = 4 := rfl

theorem be4_bytes (n : Nat) : Bytes (be4 n) := by
  intro c hc
  simp [be4] at hc
  omega

/-- What the first four bytes are. -/
def num4 (b : List Nat) : Nat := b.getD 0 0 * 16777216 + b.getD 1 0 * 65536 + b.getD 2 0 * 256 + b.getD 3 0

theorem num4_be4 (n : Nat) (h : n < 4294967296) (r : List Nat) : num4 (be4 n ++ r) = n := by
  simp [num4, be4]
  omega

theorem num4_take (b : List Nat) (k : Nat) (h : 4 ≤ k) : num4 (b.take k) = num4 b := by
  unfold num4
  simp only [List.getD_eq_getElem?_getD]
  rw [List.getElem?_take_of_lt (by omega), List.getElem?_take_of_lt (by omega), List.getElem?_take_of_lt (by omega), List.getElem?_take_of_lt (by omega)]

theorem num4_lt (b : List Nat) (h : Bytes b) : num4 b < 4294967296 := by
  have key : ∀ k, b.getD k 0 < 256 := by
    intro k
    rw [List.getD_eq_getElem?_getD]
    by_cases hk : k < b.length
    · rw [List.getElem?_eq_getElem hk]; exact h _ (List.getElem_mem _)
    · rw [List.getElem?_eq_none (by omega)]; simp
  have h0 := key 0
  have h1 := key 1
  have h2 := key 2
  have h3 := key 3
  unfold num4
  omega

/-- A record's frame, by its encoding. -/
def frm (c : List Nat) : List Nat := be4 c.length ++ (be4 (Crc.sum (be4 c.length ++ c)) ++ c)

theorem frm_len (c : List Nat) : (frm c).length = 8 + c.length := by
  unfold frm
  rw [List.length_append, List.length_append, be4_len, be4_len]
  omega

theorem frm_bytes (c : List Nat) (h : Bytes c) : Bytes (frm c) := bytes_app' (be4_bytes _) (bytes_app' (be4_bytes _) h)

theorem frm_drop (c r : List Nat) : (frm c ++ r).drop 8 = c ++ r := by
  have e : frm c ++ r = (be4 c.length ++ be4 (Crc.sum (be4 c.length ++ c))) ++ (c ++ r) := by
    unfold frm; simp only [List.append_assoc]
  rw [e]
  exact List.drop_left' rfl

theorem frm_num (c r : List Nat) (h : c.length < 4294967296) : num4 (frm c ++ r) = c.length := by
  have e : frm c ++ r = be4 c.length ++ ((be4 (Crc.sum (be4 c.length ++ c)) ++ c) ++ r) := by
    unfold frm; simp only [List.append_assoc]
  rw [e]
  exact num4_be4 _ h _

/-- The encoding in the frame at the beginning of b, if there were one. -/
def inn (b : List Nat) : List Nat := (b.drop 8).take (num4 b)

/-- Is there a frame at the beginning of b? -/
def isF (b : List Nat) : Bool := decide (8 ≤ b.length) && (decide (num4 b ≤ b.length - 8) && (decide (frm (inn b) = b.take (8 + num4 b)) && decB (inn b)))

theorem inn_frm (c r : List Nat) (h : c.length < 4294967296) : inn (frm c ++ r) = c := by
  unfold inn
  rw [frm_num c r h, frm_drop]
  exact List.take_left' rfl

theorem isF_frm (c r : List Nat) (h : c.length < 4294967296) (hd : decB c = true) : isF (frm c ++ r) = true := by
  have hl : (frm c ++ r).length = 8 + c.length + r.length := by rw [List.length_append, frm_len]
  unfold isF
  rw [inn_frm c r h, frm_num c r h, hd, hl]
  have e : (frm c ++ r).take (8 + c.length) = frm c := List.take_left' (frm_len c)
  rw [e]
  simp
  omega

theorem isF_torn (c : List Nat) (k : Nat) (h : c.length < 4294967296) (hk : k < 8 + c.length) : isF ((frm c).take k) = false := by
  have hl : ((frm c).take k).length = k := by rw [List.length_take, frm_len]; omega
  unfold isF
  rw [hl]
  by_cases h8 : 8 ≤ k
  · have e : num4 ((frm c).take k) = c.length := by
      rw [num4_take _ _ (by omega)]
      have := frm_num c [] h
      rwa [List.append_nil] at this
    rw [e]
    have : decide (c.length ≤ k - 8) = false := by simp; omega
    rw [this]
    simp
  · have : decide (8 ≤ k) = false := by simp; omega
    rw [this]
    simp

/-- Where there is a frame, it is there. -/
theorem isF_is (b : List Nat) (h : isF b = true) : b = frm (inn b) ++ b.drop (8 + (inn b).length) ∧ decB (inn b) = true ∧ (inn b).length = num4 b ∧ 8 + num4 b ≤ b.length := by
  unfold isF at h
  simp at h
  obtain ⟨h1, h2, h3, h4⟩ := h
  have hl : (inn b).length = num4 b := by
    unfold inn
    rw [List.length_take, List.length_drop]
    omega
  refine ⟨?_, h4, hl, by omega⟩
  rw [h3, hl, List.take_append_drop]

theorem isF_nil : isF [] = false := rfl

def frms (cs : List (List Nat)) : List Nat := encL frm cs

theorem frms_nil : frms [] = [] := rfl
theorem frms_cons (c : List Nat) (cs : List (List Nat)) : frms (c :: cs) = frm c ++ frms cs := encL_cons frm c cs
theorem frms_app (xs ys : List (List Nat)) : frms (xs ++ ys) = frms xs ++ frms ys := encL_app frm xs ys
theorem frms_one (c : List Nat) : frms [c] = frm c := encL_one frm c
theorem frms_snoc (xs : List (List Nat)) (c : List Nat) : frms (xs ++ [c]) = frms xs ++ frm c := by rw [frms_app, frms_one]

/-- cs are the encodings in the valid part of b, and rest is what is torn. -/
structure Vld (b : List Nat) (cs : List (List Nat)) (rest : List Nat) : Prop where
  eq : b = frms cs ++ rest
  dec : ∀ c ∈ cs, decB c = true
  lt : ∀ c ∈ cs, c.length < 4294967296
  stop : isF rest = false

theorem vld_cons (c b rest : List Nat) (cs : List (List Nat)) (hc : decB c = true) (hl : c.length < 4294967296) (h : Vld (frm c ++ b) cs rest) : ∃ ds, cs = c :: ds ∧ Vld b ds rest := by
  have hF := isF_frm c b hl hc
  cases cs with
  | nil =>
    have e := h.eq
    rw [frms_nil, List.nil_append] at e
    rw [e, h.stop] at hF
    cases hF
  | cons d ds =>
    have e := h.eq
    rw [frms_cons, List.append_assoc] at e
    have i1 := inn_frm c b hl
    rw [e, inn_frm d _ (h.lt d (List.mem_cons_self ..))] at i1
    subst i1
    exact ⟨ds, rfl, List.append_cancel_left e, fun x hx => h.dec x (List.mem_cons_of_mem _ hx), fun x hx => h.lt x (List.mem_cons_of_mem _ hx), h.stop⟩

theorem vld_app (good : List (List Nat)) : ∀ (b rest : List Nat) (cs : List (List Nat)), (∀ c ∈ good, decB c = true ∧ c.length < 4294967296) → Vld (frms good ++ b) cs rest → ∃ ds, cs = good ++ ds ∧ Vld b ds rest := by
  induction good with
  | nil => intro b rest cs _ h; exact ⟨cs, rfl, by rwa [frms_nil, List.nil_append] at h⟩
  | cons c good ih =>
    intro b rest cs hg h
    rw [frms_cons, List.append_assoc] at h
    obtain ⟨h1, h2⟩ := hg c (List.mem_cons_self ..)
    obtain ⟨ds, rfl, hv⟩ := vld_cons c _ rest cs h1 h2 h
    obtain ⟨es, rfl, hv'⟩ := ih b rest ds (fun x hx => hg x (List.mem_cons_of_mem _ hx)) hv
    exact ⟨es, rfl, hv'⟩

/-- Where there is no frame, nothing is valid. -/
theorem vld_none (b rest : List Nat) (cs : List (List Nat)) (h : Vld b cs rest) (hb : isF b = false) : cs = [] ∧ rest = b := by
  cases cs with
  | nil => exact ⟨rfl, by have e := h.eq; rw [frms_nil, List.nil_append] at e; exact e.symm⟩
  | cons d ds =>
    have e := h.eq
    rw [frms_cons, List.append_assoc] at e
    have := isF_frm d (frms ds ++ rest) (h.lt d (List.mem_cons_self ..)) (h.dec d (List.mem_cons_self ..))
    rw [← e, hb] at this
    cases this

/-- Whole frames. -/
theorem vld_whole (good cs : List (List Nat)) (rest : List Nat) (hg : ∀ c ∈ good, decB c = true ∧ c.length < 4294967296) (h : Vld (frms good) cs rest) : cs = good ∧ rest = [] := by
  have h' : Vld (frms good ++ []) cs rest := by rwa [List.append_nil]
  obtain ⟨ds, rfl, hv⟩ := vld_app good [] rest cs hg h'
  obtain ⟨rfl, rfl⟩ := vld_none _ _ _ hv isF_nil
  exact ⟨List.append_nil _, rfl⟩

/-- Whole frames, and one that is torn. -/
theorem vld_torn (good cs : List (List Nat)) (rest c : List Nat) (k : Nat) (hg : ∀ c ∈ good, decB c = true ∧ c.length < 4294967296) (hc : c.length < 4294967296) (hk : k < 8 + c.length) (h : Vld (frms good ++ (frm c).take k) cs rest) : cs = good ∧ rest = (frm c).take k := by
  obtain ⟨ds, rfl, hv⟩ := vld_app good _ rest cs hg h
  obtain ⟨rfl, hr⟩ := vld_none _ _ _ hv (isF_torn c k hc hk)
  exact ⟨List.append_nil _, hr⟩

/-! The steps of the search. -/

theorem vld_more (b : List Nat) (cs : List (List Nat)) (rest : List Nat) (e : b = frms cs ++ rest) (h : isF rest = true) : b = frms (cs ++ [inn rest]) ++ rest.drop (8 + (inn rest).length) := by
  rw [frms_snoc, List.append_assoc, ← (isF_is rest h).1]
  exact e

theorem vld_size (b : List Nat) (cs : List (List Nat)) (rest : List Nat) (e : b = frms cs ++ rest) : b.drop (frms cs).length = rest ∧ b.take (frms cs).length = frms cs ∧ (frms cs).length + rest.length = b.length := by
  subst e
  exact ⟨List.drop_left' rfl, List.take_left' rfl, by rw [List.length_append]⟩

/-- A sound record's encoding is one. -/
theorem enc_good (r : Pr) (hw : r.Wf) (h : sndR r = true) : decB (encR r) = true ∧ (encR r).length < 4294967296 := ⟨(dec_yes r hw h).1, by have := encR_len r h; omega⟩

end Go.Proofs.YtdgpbdedaafdiaaGreat

namespace Go.Proofs.YtdgpbdedaafdiaaGreat
open Go.RowKit

/-! ## fields.Word: a number as four bytes -/

set_option maxHeartbeats 1000000 in
theorem word_any (n : Nat) (w : World) (hn : n < 4294967296) :
    Calls Tryz.prog 85 #[.int .u32 (n : Int)] w (RetO w (be4 n)) := by
  have HO : Hid (OwnB (w.alloc (.cells #[Value.int IntKind.u8 ((n : Int) / 16777216), Value.int IntKind.u8 ((n : Int) / 65536 % 256), Value.int IntKind.u8 ((n : Int) / 256 % 256), Value.int IntKind.u8 ((n : Int) % 256)] 5)) w.heap.size w.heap.size 4 (be4 n)) := by
    refine ownB_lit w w.heap.size (be4 n) _ ?_ (be4_bytes n) (Nat.le_refl _) (by rw [be4_len]; decide)
    have e : (n : Int) / 16777216 = ((n / 16777216 % 256 : Nat) : Int) := by omega
    rw [e]
    simp [vals, be4]
  go_enter Tryz.func85, Tryz.ntmps85
  go_wp2
  go_ret
  exact ⟨w.heap.size, 4, rfl, HO.out, below_one _ _⟩

/-! ## Parts of slices of bytes: x[n:], x[:n], x[m:n] -/

theorem seen_take {w0 : World} (a : Option Addr) (q c l : Nat) (ps : List Nat) (w : World) (hl : ps.length = q) (h : SeenAt w0 a c ps) (hle : l ≤ q) : (Instr.slice 39 (.slice a q c) none (some (.int .i64 (l : Int))) none).run Tryz.prog w = .ok (.slice a l c) w := by
  have hc := h.le
  rcases a with _ | ⟨b, off, sp⟩
  · have h0 : ps = [] := by
      cases ps with
      | nil => rfl
      | cons x xs => obtain ⟨b, off, e, _⟩ := h.cell 0 (by simp); cases e
    subst h0
    simp at hl
    subst hl
    obtain rfl : l = 0 := by omega
    rw [run_slice_h w 39 none 0 c (by kernel_rfl) .i64 ((0 : Nat) : Int) (by omega) (by omega)]
    have hs : (sizeOf (Tryz.prog.elem 39)).run Tryz.prog w = .ok 1 w := by kernel_rfl
    rw [hs]
    simp [Result.andThen, sliced]
  · rw [run_slice_h w 39 (some ⟨b, off, sp⟩) q c (by kernel_rfl) .i64 (l : Int) (by omega) (by omega)]
    have hs : (sizeOf (Tryz.prog.elem 39)).run Tryz.prog w = .ok 1 w := by kernel_rfl
    rw [hs]
    simp [Result.andThen, sliced, Addr.add]

theorem seen_take' {w0 : World} (a : Option Addr) (q c l : Nat) (ps : List Nat) (w : World) (hl : ps.length = q) (h : SeenAt w0 a c ps) (hle : l ≤ q) : (Instr.sliceAt 39 (.slice a q c) none (some (.int .i64 (l : Int))) none).run Tryz.prog w = .ok (.slice a l c) w := by
  rw [run_sliceAt_slice w 39 _ _ _ _ (by kernel_rfl)]
  exact seen_take a q c l ps w hl h hle

def fromA (a : Option Addr) (c n : Nat) : Option Addr := if c = n then a else a.map (·.add n)

theorem slice_from (a : Option Addr) (l c n : Nat) (hn : n ≤ l) (w : World) : (Instr.slice 39 (.slice a l c) (some (.int .i64 (n : Int))) none none).run Tryz.prog w = .ok (.slice (fromA a c n) (l - n) (c - n)) w := by
  rw [run_slice_l w 39 a l c (by kernel_rfl) .i64 (n : Int) (by omega) (by omega)]
  have hs : (sizeOf (Tryz.prog.elem 39)).run Tryz.prog w = .ok 1 w := by kernel_rfl
  rw [hs]
  simp only [Result.andThen, sliced, fromA, Int.toNat_natCast, Nat.mul_one]

theorem slice_from' (a : Option Addr) (l c n : Nat) (hn : n ≤ l) (w : World) : (Instr.sliceAt 39 (.slice a l c) (some (.int .i64 (n : Int))) none none).run Tryz.prog w = .ok (.slice (fromA a c n) (l - n) (c - n)) w := by
  rw [run_sliceAt_slice w 39 _ _ _ _ (by kernel_rfl)]
  exact slice_from a l c n hn w

theorem SeenAt.from {w : World} {a : Option Addr} {c : Nat} {ps : List Nat} (h : SeenAt w a c ps) (n : Nat) (hn : n ≤ ps.length) : SeenAt w (fromA a c n) (c - n) (ps.drop n) where
  le := by have := h.le; rw [List.length_drop]; omega
  max := by have := h.max; omega
  byte c hc := h.byte c (List.mem_of_mem_drop hc)
  cell i hi := by
    rw [List.length_drop] at hi
    have hl := h.le
    obtain ⟨b, off, rfl, hc⟩ := h.cell (n + i) (by omega)
    unfold fromA
    rw [if_neg (by omega)]
    refine ⟨b, off + n, ?_, ?_⟩
    · simp [Go.WideShapes.add_plain]
    · rw [List.getD_eq_getElem?_getD, List.getElem?_drop, ← List.getD_eq_getElem?_getD, Nat.add_assoc]
      exact hc

theorem slice_both (a : Option Addr) (l c m n : Nat) (hm : m ≤ n) (hn : n ≤ l) (hc : l ≤ c) (w : World) : (Instr.slice 39 (.slice a l c) (some (.int .i64 (m : Int))) (some (.int .i64 (n : Int))) none).run Tryz.prog w = .ok (.slice (fromA a c m) (n - m) (c - m)) w := by
  rw [run_slice_lh w 39 a l c (by kernel_rfl) .i64 .i64 (m : Int) (n : Int) (by omega) (by omega) (by omega)]
  have hs : (sizeOf (Tryz.prog.elem 39)).run Tryz.prog w = .ok 1 w := by kernel_rfl
  rw [hs]
  simp only [Result.andThen, sliced, fromA, Int.toNat_natCast, Nat.mul_one]

theorem slice_both' (a : Option Addr) (l c m n : Nat) (hm : m ≤ n) (hn : n ≤ l) (hc : l ≤ c) (w : World) : (Instr.sliceAt 39 (.slice a l c) (some (.int .i64 (m : Int))) (some (.int .i64 (n : Int))) none).run Tryz.prog w = .ok (.slice (fromA a c m) (n - m) (c - m)) w := by
  rw [run_sliceAt_slice w 39 _ _ _ _ (by kernel_rfl)]
  exact slice_both a l c m n hm hn hc w

end Go.Proofs.YtdgpbdedaafdiaaGreat

/-
  Messages in plain numbers: readers and writers put together, when messages are sound, their bytes, and how they are read again. No text of the program is named here.
-/
import Derived.Test.YtggjpjpemgpeeaaGreatBk
namespace Go.Proofs.YtggjpjpemgpeeaaGreat
open Go.Proofs.YtggjpjpemgpeeaaGreat.Gf

/-! ## Readers and writers put together -/

/-- What enc writes of what may be, f reads again. -/
def Back {α : Type} (f : Pk.St → α × Pk.St) (enc : α → List Nat) (P : α → Prop) : Prop := ∀ x, P x → ∀ r b, f (enc x ++ r, b) = (x, (r, b))

/-- What f reads may be. -/
def Ok {α : Type} (f : Pk.St → α × Pk.St) (P : α → Prop) : Prop := ∀ s : Pk.St, Bytes s.1 → s.1.length ≤ 1000000000 → P (f s).1

theorem rdN_back : Back rdN Pk.num I64 := fun x h r b => by
  obtain ⟨v, n⟩ := Pk.vN_num x r b h.1 h.2
  unfold rdN
  rw [v, n]

theorem rdN_ok : Ok rdN I64 := fun s _ _ => vN_i64 s

def rdT (s : Pk.St) : List Nat × Pk.St := (Pk.vT s, Pk.nT s)
theorem rdT_can : Can rdT Pk.txt := ⟨fun s h => by have := nT_keep s h; exact ⟨this.1, this.2.1⟩, nT_can⟩
def TOk (x : List Nat) : Prop := Bytes x ∧ x.length ≤ 1000000000
theorem rdT_back : Back rdT Pk.txt TOk := fun x h r b => by
  obtain ⟨v, n⟩ := Pk.vT_txt x r b h.2
  unfold rdT
  rw [v, n]
theorem rdT_ok : Ok rdT TOk := fun s h hl => by
  have := nT_keep s h
  exact ⟨this.2.2.1, Nat.le_trans this.2.2.2 hl⟩

def EOk (e : Pe) : Prop := e.Wf ∧ e.key.length ≤ 1000000000 ∧ e.frag.length ≤ 1000000000
theorem rdE_backE : Back rdE encE EOk := fun e h r b => rdE_back e r b h.1 h.2.1 h.2.2
theorem rdE_ok : Ok rdE EOk := fun s h hl => by
  have := rdE_wf s h
  exact ⟨this.1, by omega, by omega⟩

def rd2 {α β : Type} (f : Pk.St → α × Pk.St) (g : Pk.St → β × Pk.St) (s : Pk.St) : (α × β) × Pk.St := (((f s).1, (g (f s).2).1), (g (f s).2).2)
def enc2 {α β : Type} (a : α → List Nat) (b : β → List Nat) (x : α × β) : List Nat := a x.1 ++ b x.2

theorem rd2_can {α β : Type} {f : Pk.St → α × Pk.St} {g : Pk.St → β × Pk.St} {a : α → List Nat} {b : β → List Nat} (hf : Can f a) (hg : Can g b) : Can (rd2 f g) (enc2 a b) := by
  refine ⟨fun s h => ?_, fun s h hv => ?_⟩
  · obtain ⟨h1, h2⟩ := hf.keep s h
    obtain ⟨h3, h4⟩ := hg.keep _ h1
    exact ⟨h3, Nat.le_trans h4 h2⟩
  · obtain ⟨h3, h4⟩ := hg.can (f s).2 (hf.keep s h).1 hv
    obtain ⟨h1, h2⟩ := hf.can s h h3
    refine ⟨h1, ?_⟩
    show s.1 = (a (f s).1 ++ b (g (f s).2).1) ++ (g (f s).2).2.1
    rw [List.append_assoc, ← h4]
    exact h2

theorem rd2_back {α β : Type} {f : Pk.St → α × Pk.St} {g : Pk.St → β × Pk.St} {a : α → List Nat} {b : β → List Nat} {P : α → Prop} {Q : β → Prop} (hf : Back f a P) (hg : Back g b Q) :
    Back (rd2 f g) (enc2 a b) fun x => P x.1 ∧ Q x.2 := fun x h r t => by
  have e1 := hf x.1 h.1 (b x.2 ++ r) t
  have e2 := hg x.2 h.2 r t
  unfold rd2 enc2
  rw [List.append_assoc, e1]
  dsimp only
  rw [e2]

theorem rd2_ok {α β : Type} {f : Pk.St → α × Pk.St} {g : Pk.St → β × Pk.St} {a : α → List Nat} {P : α → Prop} {Q : β → Prop} (hc : Can f a) (hf : Ok f P) (hg : Ok g Q) :
    Ok (rd2 f g) fun x => P x.1 ∧ Q x.2 := fun s h hl => ⟨hf s h hl, hg _ (hc.keep s h).1 (Nat.le_trans (hc.keep s h).2 hl)⟩

/-- Items whose number is ahead of them. -/
def rdL {α : Type} (most : Int) (f : Pk.St → α × Pk.St) (s : Pk.St) : List α × Pk.St := rdS f (Pk.vC s most).toNat (Pk.nC s most)
def encK {α : Type} (enc : α → List Nat) (xs : List α) : List Nat := Pk.num (xs.length : Int) ++ encL enc xs

theorem rdL_can {α : Type} {f : Pk.St → α × Pk.St} {enc : α → List Nat} (most : Int) (hf : Can f enc) : Can (rdL most f) (encK enc) := by
  refine ⟨fun s h => ?_, fun s h hv => ?_⟩
  · obtain ⟨k, l⟩ := nC_keep s most h
    obtain ⟨k', l'⟩ := rdS_keep hf (Pk.nC s most) k (Pk.vC s most).toNat
    exact ⟨k', Nat.le_trans l' l⟩
  · obtain ⟨k, l⟩ := nC_keep s most h
    obtain ⟨h1, h2⟩ := rdS_can hf (Pk.nC s most) k _ hv
    obtain ⟨h3, h4, h5, h6⟩ := nC_can s most h h1
    refine ⟨h3, ?_⟩
    have e : (((rdL most f s).1.length : Nat) : Int) = Pk.vC s most := by unfold rdL; rw [rdS_len]; omega
    unfold encK
    rw [e]
    unfold rdL
    rw [List.append_assoc, ← h2]
    exact h4

theorem rdL_back {α : Type} {f : Pk.St → α × Pk.St} {enc : α → List Nat} {P : α → Prop} (most : Int) (hm : most ≤ 1000000000) (d : α) (hf : Back f enc P) :
    Back (rdL most f) (encK enc) fun xs => (xs.length : Int) ≤ most ∧ ∀ x ∈ xs, P x := fun xs h r b => by
  obtain ⟨v, n⟩ := Pk.vN_num (xs.length : Int) (encL enc xs ++ r) b (by omega) (by omega)
  have c : Pk.badC (Pk.num (xs.length : Int) ++ (encL enc xs ++ r), b) most = false := by
    unfold Pk.badC
    rw [v]
    simp
    exact h.1
  unfold rdL encK
  rw [List.append_assoc, Pk.nC_good _ _ c, Pk.vC_good _ _ c, v, n, Int.toNat_natCast]
  exact rdS_whole d xs r b fun x hx t => hf x (h.2 x hx) t b

theorem rdL_ok {α : Type} {f : Pk.St → α × Pk.St} {enc : α → List Nat} {P : α → Prop} (most : Int) (hm : 0 ≤ most) (hc : Can f enc) (hf : Ok f P) :
    Ok (rdL most f) fun xs => (xs.length : Int) ≤ most ∧ ∀ x ∈ xs, P x := fun s h hl => by
  obtain ⟨k, l⟩ := nC_keep s most h
  have hr := vC_range s most hm
  refine ⟨?_, ?_⟩
  · show ((rdS f (Pk.vC s most).toNat (Pk.nC s most)).1.length : Int) ≤ most
    rw [rdS_len]; omega
  · exact (rdS_all f (fun t => Bytes t.1 ∧ t.1.length ≤ 1000000000) (fun t ht => ⟨hf t ht.1 ht.2, (hc.keep t ht.1).1, Nat.le_trans (hc.keep t ht.1).2 ht.2⟩) (Pk.nC s most) ⟨k, Nat.le_trans l hl⟩ _).1

theorem enc2_bytes {α β : Type} {a : α → List Nat} {b : β → List Nat} (x : α × β) (h1 : Bytes (a x.1)) (h2 : Bytes (b x.2)) : Bytes (enc2 a b x) := bytes_app' h1 h2
theorem encK_bytes {α : Type} {enc : α → List Nat} (xs : List α) (hl : xs.length ≤ 1000000000) (h : ∀ x ∈ xs, Bytes (enc x)) : Bytes (encK enc xs) :=
  bytes_app' (Pk.num_bytes _ (by omega) (by omega)) (encL_bytes enc xs h)
theorem encK_len {α : Type} {enc : α → List Nat} (k : Nat) (xs : List α) (h : ∀ x ∈ xs, (enc x).length ≤ k) : (encK enc xs).length ≤ 10 + k * xs.length := by
  have h1 := (Pk.num_len (xs.length : Int)).2
  have h2 := encL_len enc k xs h
  unfold encK
  rw [List.length_append]
  omega

/-! ## Messages -/

/-- A message's fields. -/
structure Pm where
  kind : Int
  frm : Int
  to : Int
  epoch : Int
  ent : Pe
  e : Int
  frags : List (Int × List Nat)
  keys : List (List Nat)
  cep : Int
  mem : List Int
  srcs : List (Int × Int)
  ents : List Pe

def pm0 : Pm := ⟨0, 0, 0, 0, pe0, 0, [], [], 0, [], [], []⟩

abbrev TM := Int × Int × Int × Int × Int × Int × List Int × Pe × List (Int × List Nat) × List (List Nat) × List (Int × Int) × List Pe

def Pm.tup (m : Pm) : TM := (m.kind, m.frm, m.to, m.epoch, m.e, m.cep, m.mem, m.ent, m.frags, m.keys, m.srcs, m.ents)
def ofTup : TM → Pm := fun (a, b, c, d, e, f, g, h, i, j, k, l) => ⟨a, b, c, d, h, e, i, j, f, g, k, l⟩
theorem ofTup_tup (m : Pm) : ofTup m.tup = m := rfl
theorem tup_ofTup (t : TM) : (ofTup t).tup = t := rfl

def rdTM : Pk.St → TM × Pk.St :=
  rd2 rdN (rd2 rdN (rd2 rdN (rd2 rdN (rd2 rdN (rd2 rdN (rd2 (rdL 16 rdN) (rd2 rdE (rd2 (rdL 16 (rd2 rdN rdT)) (rd2 (rdL 4096 rdT) (rd2 (rdL 16 (rd2 rdN rdN)) (rdL 4096 rdE)))))))))))
def encTM : TM → List Nat :=
  enc2 Pk.num (enc2 Pk.num (enc2 Pk.num (enc2 Pk.num (enc2 Pk.num (enc2 Pk.num (enc2 (encK Pk.num) (enc2 encE (enc2 (encK (enc2 Pk.num Pk.txt)) (enc2 (encK Pk.txt) (enc2 (encK (enc2 Pk.num Pk.num)) (encK encE)))))))))))

theorem rdTM_can : Can rdTM encTM :=
  rd2_can rdN_can (rd2_can rdN_can (rd2_can rdN_can (rd2_can rdN_can (rd2_can rdN_can (rd2_can rdN_can (rd2_can (rdL_can 16 rdN_can) (rd2_can rdE_can (rd2_can (rdL_can 16 (rd2_can rdN_can rdT_can)) (rd2_can (rdL_can 4096 rdT_can) (rd2_can (rdL_can 16 (rd2_can rdN_can rdN_can)) (rdL_can 4096 rdE_can)))))))))))

/-- Each field is within its type. -/
structure Pm.Wf (m : Pm) : Prop where
  kind : I64 m.kind
  frm : I64 m.frm
  to : I64 m.to
  epoch : I64 m.epoch
  e : I64 m.e
  cep : I64 m.cep
  mem : ∀ z ∈ m.mem, I64 z
  ent : m.ent.Wf
  frags : ∀ f ∈ m.frags, I64 f.1 ∧ Bytes f.2
  keys : ∀ k ∈ m.keys, Bytes k
  srcs : ∀ s ∈ m.srcs, I64 s.1 ∧ I64 s.2
  ents : ∀ e ∈ m.ents, e.Wf

def rng (n l m : Int) : Bool := decide (l ≤ n) && decide (n ≤ m)
theorem rng_yes {n l m : Int} (h : rng n l m = true) : l ≤ n ∧ n ≤ m := by unfold rng at h; simpa using h

def sndF (f : Int × List Nat) : Bool := rng f.1 0 15 && decide (f.2.length ≤ 256)
def sndK (k : List Nat) : Bool := decide (k.length ≤ 16)
def sndS (s : Int × Int) : Bool := rng s.1 0 15 && rng s.2 0 15
def sndC (n : Int) (zs : List Int) : Bool := zs.all (fun z => win z 15) && win n 1099511627776 && decide (zs.length ≤ 16)

/-- The first of the reference's tests. -/
def sndA (m : Pm) : Bool := rng m.kind 1 15 && rng m.frm (-5) 15 && rng m.to (-5) 15 && rng m.epoch 0 1099511627776 && sndE m.ent && rng m.e 0 13 && sndC m.cep m.mem && sndEs m.ents
def sndL (m : Pm) : Bool := decide (m.frags.length ≤ 16) && decide (m.keys.length ≤ 4096) && decide (m.srcs.length ≤ 16)
def sndMg (m : Pm) : Bool := sndA m && sndL m && m.frags.all sndF && m.keys.all sndK && m.srcs.all sndS

structure SndMg (m : Pm) : Prop where
  ent : sndE m.ent = true
  mem : m.mem.length ≤ 16
  frags : m.frags.length ≤ 16
  keys : m.keys.length ≤ 4096
  srcs : m.srcs.length ≤ 16
  ents : m.ents.length ≤ 4096
  frag : ∀ f ∈ m.frags, f.2.length ≤ 256
  key : ∀ k ∈ m.keys, k.length ≤ 16
  each : ∀ e ∈ m.ents, sndE e = true

theorem sndMg_is {m : Pm} (h : sndMg m = true) : SndMg m := by
  unfold sndMg sndA sndL sndC sndEs at h
  simp only [Bool.and_eq_true, decide_eq_true_eq, List.all_eq_true] at h
  obtain ⟨⟨⟨⟨hA, hL⟩, hF⟩, hK⟩, _⟩ := h
  refine ⟨hA.1.1.1.2, hA.1.2.2, hL.1.1, hL.1.2, hL.2, hA.2.1, fun f hf => ?_, fun k hk => ?_, hA.2.2⟩
  · have := hF f hf
    unfold sndF at this
    simp only [Bool.and_eq_true, decide_eq_true_eq] at this
    exact this.2
  · have := hK k hk
    unfold sndK at this
    simpa using this

def MOk (t : TM) : Prop := I64 t.1 ∧ I64 t.2.1 ∧ I64 t.2.2.1 ∧ I64 t.2.2.2.1 ∧ I64 t.2.2.2.2.1 ∧ I64 t.2.2.2.2.2.1 ∧ ((t.2.2.2.2.2.2.1.length : Int) ≤ 16 ∧ ∀ z ∈ t.2.2.2.2.2.2.1, I64 z) ∧ EOk t.2.2.2.2.2.2.2.1 ∧
  ((t.2.2.2.2.2.2.2.2.1.length : Int) ≤ 16 ∧ ∀ f ∈ t.2.2.2.2.2.2.2.2.1, I64 f.1 ∧ TOk f.2) ∧ ((t.2.2.2.2.2.2.2.2.2.1.length : Int) ≤ 4096 ∧ ∀ k ∈ t.2.2.2.2.2.2.2.2.2.1, TOk k) ∧
  ((t.2.2.2.2.2.2.2.2.2.2.1.length : Int) ≤ 16 ∧ ∀ s ∈ t.2.2.2.2.2.2.2.2.2.2.1, I64 s.1 ∧ I64 s.2) ∧ ((t.2.2.2.2.2.2.2.2.2.2.2.length : Int) ≤ 4096 ∧ ∀ e ∈ t.2.2.2.2.2.2.2.2.2.2.2, EOk e)

theorem rdTM_back : Back rdTM encTM MOk :=
  rd2_back rdN_back (rd2_back rdN_back (rd2_back rdN_back (rd2_back rdN_back (rd2_back rdN_back (rd2_back rdN_back (rd2_back (rdL_back 16 (by omega) 0 rdN_back) (rd2_back rdE_backE (rd2_back (rdL_back 16 (by omega) (0, []) (rd2_back rdN_back rdT_back)) (rd2_back (rdL_back 4096 (by omega) [] rdT_back) (rd2_back (rdL_back 16 (by omega) (0, 0) (rd2_back rdN_back rdN_back)) (rdL_back 4096 (by omega) pe0 rdE_backE)))))))))))

theorem rdTM_ok : Ok rdTM MOk :=
  rd2_ok rdN_can rdN_ok (rd2_ok rdN_can rdN_ok (rd2_ok rdN_can rdN_ok (rd2_ok rdN_can rdN_ok (rd2_ok rdN_can rdN_ok (rd2_ok rdN_can rdN_ok (rd2_ok (rdL_can 16 rdN_can) (rdL_ok 16 (by omega) rdN_can rdN_ok) (rd2_ok rdE_can rdE_ok (rd2_ok (rdL_can 16 (rd2_can rdN_can rdT_can)) (rdL_ok 16 (by omega) (rd2_can rdN_can rdT_can) (rd2_ok rdN_can rdN_ok rdT_ok)) (rd2_ok (rdL_can 4096 rdT_can) (rdL_ok 4096 (by omega) rdT_can rdT_ok) (rd2_ok (rdL_can 16 (rd2_can rdN_can rdN_can)) (rdL_ok 16 (by omega) (rd2_can rdN_can rdN_can) (rd2_ok rdN_can rdN_ok rdN_ok)) (rdL_ok 4096 (by omega) rdE_can rdE_ok)))))))))))

theorem mok_of {m : Pm} (hw : m.Wf) (h : SndMg m) : MOk m.tup := by
  have small : ∀ e : Pe, e.Wf → sndE e = true → EOk e := fun e he hs => by
    have := sndE_lens e hs
    exact ⟨he, by omega, by omega⟩
  refine ⟨hw.kind, hw.frm, hw.to, hw.epoch, hw.e, hw.cep, ⟨?_, hw.mem⟩, small _ hw.ent h.ent, ⟨?_, fun f hf => ⟨(hw.frags f hf).1, (hw.frags f hf).2, by have := h.frag f hf; omega⟩⟩, ⟨?_, fun k hk => ⟨hw.keys k hk, by have := h.key k hk; omega⟩⟩, ⟨?_, hw.srcs⟩, ⟨?_, fun e he => small e (hw.ents e he) (h.each e he)⟩⟩
  · have := h.mem; show ((m.mem.length : Nat) : Int) ≤ 16; omega
  · have := h.frags; show ((m.frags.length : Nat) : Int) ≤ 16; omega
  · have := h.keys; show ((m.keys.length : Nat) : Int) ≤ 4096; omega
  · have := h.srcs; show ((m.srcs.length : Nat) : Int) ≤ 16; omega
  · have := h.ents; show ((m.ents.length : Nat) : Int) ≤ 4096; omega

theorem wf_of {t : TM} (h : MOk t) : (ofTup t).Wf := by
  obtain ⟨h1, h2, h3, h4, h5, h6, h7, h8, h9, h10, h11, h12⟩ := h
  exact ⟨h1, h2, h3, h4, h5, h6, h7.2, h8.1, fun f hf => ⟨(h9.2 f hf).1, (h9.2 f hf).2.1⟩, fun k hk => (h10.2 k hk).1, h11.2, fun e he => (h12.2 e he).1⟩

/-- A message's bytes ahead of the checksum; with it. -/
def bodM (m : Pm) : List Nat := 1 :: encTM m.tup
def encMg (m : Pm) : List Nat := bodM m ++ be4 (Crc.sum (bodM m))

theorem encTM_bytes {m : Pm} (hw : m.Wf) (h : SndMg m) : Bytes (encTM m.tup) := by
  have num : ∀ z, I64 z → Bytes (Pk.num z) := fun z hz => Pk.num_bytes z hz.1 hz.2
  have hm := h.mem
  have hf := h.frags
  have hk := h.keys
  have hs := h.srcs
  have he := h.ents
  refine enc2_bytes _ (num _ hw.kind) (enc2_bytes _ (num _ hw.frm) (enc2_bytes _ (num _ hw.to) (enc2_bytes _ (num _ hw.epoch) (enc2_bytes _ (num _ hw.e) (enc2_bytes _ (num _ hw.cep) (enc2_bytes _ (encK_bytes m.mem (by omega) fun z hz => num z (hw.mem z hz)) (enc2_bytes _ (sndE_bytes _ hw.ent h.ent) (enc2_bytes _ (encK_bytes m.frags (by omega) fun f hf => ?_) (enc2_bytes _ (encK_bytes m.keys (by omega) fun k hk => ?_) (enc2_bytes _ (encK_bytes m.srcs (by omega) fun s hs => ?_) (encK_bytes m.ents (by omega) fun e he => sndE_bytes e (hw.ents e he) (h.each e he))))))))))))
  · exact enc2_bytes _ (num _ (hw.frags f hf).1) (txt_bytes' _ (hw.frags f hf).2 (by have := h.frag f hf; omega))
  · exact txt_bytes' _ (hw.keys k hk) (by have := h.key k hk; omega)
  · exact enc2_bytes _ (num _ (hw.srcs s hs).1) (num _ (hw.srcs s hs).2)

theorem bodM_bytes {m : Pm} (hw : m.Wf) (h : SndMg m) : Bytes (bodM m) := by
  intro c hc
  rcases List.mem_cons.mp hc with rfl | hc
  · omega
  · exact encTM_bytes hw h c hc

theorem encMg_bytes {m : Pm} (hw : m.Wf) (h : SndMg m) : Bytes (encMg m) := bytes_app' (bodM_bytes hw h) (be4_bytes _)

theorem enc2_len {α β : Type} {a : α → List Nat} {b : β → List Nat} (x : α × β) : (enc2 a b x).length = (a x.1).length + (b x.2).length := List.length_append

theorem encTM_len {m : Pm} (h : SndMg m) : (encTM m.tup).length ≤ 1600000 := by
  have num : ∀ z, (Pk.num z).length ≤ 10 := fun z => (Pk.num_len z).2
  have hm := h.mem
  have hf := h.frags
  have hk := h.keys
  have hs := h.srcs
  have he := h.ents
  have n1 := num m.kind
  have n2 := num m.frm
  have n3 := num m.to
  have n4 := num m.epoch
  have n5 := num m.e
  have n6 := num m.cep
  have l1 := encK_len (enc := Pk.num) 10 m.mem fun z _ => num z
  have l2 := encE_small m.ent h.ent
  have l3 := encK_len (enc := enc2 Pk.num Pk.txt) 276 m.frags fun f hf => by
    rw [enc2_len]
    have := num f.1
    have := (Pk.txt_len f.2).2
    have := h.frag f hf
    omega
  have l4 := encK_len (enc := Pk.txt) 26 m.keys fun k hk => by
    have := (Pk.txt_len k).2
    have := h.key k hk
    omega
  have l5 := encK_len (enc := enc2 Pk.num Pk.num) 20 m.srcs fun s _ => by
    rw [enc2_len]
    have := num s.1
    have := num s.2
    omega
  have l6 := encK_len (enc := encE) 352 m.ents fun e he => encE_small e (h.each e he)
  unfold encTM Pm.tup
  simp only [enc2_len]
  omega

theorem encMg_len {m : Pm} (h : SndMg m) : 5 ≤ (encMg m).length ∧ (encMg m).length ≤ 1600005 := by
  have := encTM_len h
  unfold encMg bodM
  rw [List.length_append, be4_len, List.length_cons]
  omega

/-- Is there a message whose bytes these are; which one. -/
def cutMg (b : List Nat) : List Nat := b.take (b.length - 4)
def inM (b : List Nat) : Pk.St := ((cutMg b).drop 1, false)
def okMg (b : List Nat) : Bool := decide (5 ≤ b.length) && decide (b.getD 0 0 = 1) && decide (b.drop (b.length - 4) = be4 (Crc.sum (cutMg b))) && decide ((rdTM (inM b)).2 = ([], false)) && sndMg (ofTup (rdTM (inM b)).1)
def decMg (b : List Nat) : Pm := ofTup (rdTM (inM b)).1

theorem cutMg_enc (m : Pm) : cutMg (encMg m) = bodM m := by
  unfold cutMg encMg
  rw [List.length_append, be4_len, Nat.add_sub_cancel]
  exact List.take_left' rfl

theorem okMg_yes {m : Pm} (hw : m.Wf) (h : sndMg m = true) : okMg (encMg m) = true ∧ decMg (encMg m) = m := by
  have hs := sndMg_is h
  have e1 := rdTM_back m.tup (mok_of hw hs) [] false
  rw [List.append_nil] at e1
  have e2 : inM (encMg m) = (encTM m.tup, false) := by
    unfold inM
    rw [cutMg_enc]
    rfl
  have h5 := (encMg_len hs).1
  refine ⟨?_, by unfold decMg; rw [e2, e1, ofTup_tup]⟩
  unfold okMg
  rw [e2, e1, ofTup_tup, h, cutMg_enc]
  simp only [Bool.and_eq_true, decide_eq_true_eq]
  refine ⟨⟨⟨⟨h5, rfl⟩, ?_⟩, trivial⟩, trivial⟩
  unfold encMg
  rw [List.length_append, be4_len, Nat.add_sub_cancel]
  exact List.drop_left' rfl

theorem okMg_is {b : List Nat} (hB : Bytes b) (hl : b.length ≤ 1000000000) (h : okMg b = true) : encMg (decMg b) = b ∧ (decMg b).Wf ∧ sndMg (decMg b) = true := by
  unfold okMg at h
  simp only [Bool.and_eq_true, decide_eq_true_eq] at h
  obtain ⟨⟨⟨⟨h5, h1⟩, hc⟩, hr⟩, hs⟩ := h
  have hBi : Bytes (inM b).1 := bytes_drop (bytes_take' hB _) 1
  have hLi : (inM b).1.length ≤ 1000000000 := by
    show ((cutMg b).drop 1).length ≤ _
    unfold cutMg
    rw [List.length_drop, List.length_take]
    omega
  obtain ⟨_, h3⟩ := rdTM_can.can (inM b) hBi (by rw [hr])
  rw [hr, List.append_nil] at h3
  have hbod : bodM (decMg b) = cutMg b := by
    unfold bodM decMg
    rw [tup_ofTup, ← h3]
    show 1 :: (cutMg b).drop 1 = cutMg b
    cases hcut : cutMg b with
    | nil =>
      have := congrArg List.length hcut
      unfold cutMg at this
      rw [List.length_take] at this
      simp at this
      omega
    | cons x xs =>
      have e0 : (cutMg b).getD 0 0 = b.getD 0 0 := by
        unfold cutMg
        rw [List.getD_eq_getElem?_getD, List.getElem?_take_of_lt (by omega), ← List.getD_eq_getElem?_getD]
      rw [hcut, h1] at e0
      have e0' : x = 1 := e0
      rw [e0']
      rfl
  refine ⟨?_, wf_of (rdTM_ok (inM b) hBi hLi), hs⟩
  unfold encMg
  rw [hbod, ← hc]
  exact List.take_append_drop _ b

end Go.Proofs.YtggjpjpemgpeeaaGreat

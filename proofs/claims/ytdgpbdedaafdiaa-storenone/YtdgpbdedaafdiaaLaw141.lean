/-
  The walk of the law StoreNone.
-/
import Derived.Test.YtdgpbdedaafdiaaAwake14
import Derived.Test.YtdgpbdedaafdiaaArgF
import Derived.Deep.DeepCutAuto
namespace Go.Proofs.Ytdgpbdedaafdiaa
open Go.RowKit

set_option maxRecDepth 100000 in
set_option maxHeartbeats 4000000 in
theorem storeNone_walk (e : Pe) (loc : Option Addr) (c : Nat) (ep : Int) (a : Option Addr) (ca : Nat) (zs : List Int) (n : Int) (w : World) (_ : SeenAt w loc c e.frag) (_ : e.Wf) (_ : (-9223372036854775808 ≤ ep ∧ ep ≤ 9223372036854775807) ∧ IntsAt w a ca zs) (_ : (Lit.int .i64 n).wf = true) :
    Calls Try.prog 4 #[.agg #[.int .i64 e.seq, .int .i64 e.client, .int .i64 e.num, .int .i64 e.op, .string (strB e.key), .int .i64 e.size, .int .u32 (e.sum : Int), .slice loc e.frag.length c], .agg #[.int .i64 ep, .slice a zs.length ca], .int .i64 n] w fun e w' => e = .returned (.bool true) ∧ Below w.heap.size w w' := by
  obtain ⟨lf, hlf⟩ : ∃ q, e.frag.length = q := ⟨_, rfl⟩
  obtain ⟨lz, hlz⟩ : ∃ q, zs.length = q := ⟨_, rfl⟩
  rw [hlf, hlz]
  have hb1 := below_one w (.cells #[.int .i64 e.seq, .int .i64 e.client, .int .i64 e.num, .int .i64 e.op, .string (strB e.key), .int .i64 e.size, .int .u32 (e.sum : Int), .slice loc lf c] 32)
  have hb2 := below_one (w.alloc (.cells #[.int .i64 e.seq, .int .i64 e.client, .int .i64 e.num, .int .i64 e.op, .string (strB e.key), .int .i64 e.size, .int .u32 (e.sum : Int), .slice loc lf c] 32)) (.cells #[.int .i64 ep, .slice a lz ca] 35)
  have HX : Hid (Box ((w.alloc (.cells #[.int .i64 e.seq, .int .i64 e.client, .int .i64 e.num, .int .i64 e.op, .string (strB e.key), .int .i64 e.size, .int .u32 (e.sum : Int), .slice loc lf c] 32)).alloc (.cells #[.int .i64 ep, .slice a lz ca] 35)) w.heap.size #[.int .i64 e.seq, .int .i64 e.client, .int .i64 e.num, .int .i64 e.op, .string (strB e.key), .int .i64 e.size, .int .u32 (e.sum : Int), .slice loc lf c]) := (box_new w _ _ _ rfl).below hb2
  have HC : Hid (Box ((w.alloc (.cells #[.int .i64 e.seq, .int .i64 e.client, .int .i64 e.num, .int .i64 e.op, .string (strB e.key), .int .i64 e.size, .int .u32 (e.sum : Int), .slice loc lf c] 32)).alloc (.cells #[.int .i64 ep, .slice a lz ca] 35)) (w.heap.size + 1) #[.int .i64 ep, .slice a lz ca]) := box_new _ _ _ _ (by simp)
  have E : Hid (Ext w ((w.alloc (.cells #[.int .i64 e.seq, .int .i64 e.client, .int .i64 e.num, .int .i64 e.op, .string (strB e.key), .int .i64 e.size, .int .u32 (e.sum : Int), .slice loc lf c] 32)).alloc (.cells #[.int .i64 ep, .slice a lz ca] 35))) := Ext.trans hb1 hb2
  clear hlf hlz hb1 hb2
  go_enter Try.func4, Try.ntmps4
  go_wp2_with fail
  refine (stEntry_any n _ (someV_nil _) (by simp [ss0, pr0])).mono ?_
  rintro x wx ⟨⟨-, rfl⟩ | ⟨j, p, loc2, c2, hj, -⟩, hb⟩
  rotate_left
  · simp [ss0, pr0] at hj
  have E' := Lib.hid (Ext.trans E.out hb)
  have HX' := Lib.hid (HX.out.below hb)
  have HC' := Lib.hid (HC.out.below hb)
  clear E HX HC hb
  have E := E'
  have HX := HX'
  have HC := HC'
  clear E' HX' HC'
  have hz := below_one wx (.cells #[.int .i64 0, .int .i64 0, .int .i64 0, .int .i64 0, .string ⟨#[]⟩, .int .i64 0, .int .u32 0, .slice none 0 0] 32)
  have E' := Lib.hid (Ext.trans E.out hz)
  have HX' := Lib.hid (HX.out.below hz)
  have HC' := Lib.hid (HC.out.below hz)
  clear E HX HC hz
  have E := E'
  have HX := HX'
  have HC := HC'
  clear E' HX' HC'
  go_wp2_with fail
  refine (stOpen_nil _).mono ?_
  rintro x wy ⟨rfl, rfl⟩
  go_wp2_with fail
  refine (awake14 _).mono ?_
  rintro x wx ⟨rfl, hb⟩
  have E' := Lib.hid (Ext.trans E.out hb)
  have HX' := Lib.hid (HX.out.below hb)
  have HC' := Lib.hid (HC.out.below hb)
  clear E HX HC hb
  have E := E'
  have HX := HX'
  have HC := HC'
  clear E' HX' HC'
  obtain ⟨x0, x1, x2, x3, x4, x5, x6, x7⟩ := box8 HX.out
  go_wp2_with fail
  refine (stLog_nil _ _ _ _ _ _ _ _ _).mono ?_
  rintro x wx ⟨rfl, hb⟩
  have E' := Lib.hid (Ext.trans E.out hb)
  have HX' := Lib.hid (HX.out.below hb)
  have HC' := Lib.hid (HC.out.below hb)
  clear E HX HC hb
  have E := E'
  have HX := HX'
  have HC := HC'
  clear E' HX' HC'
  clear x0 x1 x2 x3 x4 x5 x6 x7
  go_wp2_with fail
  refine (stSeal_nil _).mono ?_
  rintro x wx ⟨rfl, hb⟩
  have E' := Lib.hid (Ext.trans E.out hb)
  have HX' := Lib.hid (HX.out.below hb)
  have HC' := Lib.hid (HC.out.below hb)
  clear E HX HC hb
  have E := E'
  have HX := HX'
  have HC := HC'
  clear E' HX' HC'
  obtain ⟨y0, y1⟩ := box2 HC.out
  go_wp2_with fail
  refine (stStage_nil _ _ _ _ _ _).mono ?_
  rintro x wx ⟨rfl, hb⟩
  have E' := Lib.hid (Ext.trans E.out hb)
  have HX' := Lib.hid (HX.out.below hb)
  have HC' := Lib.hid (HC.out.below hb)
  clear E HX HC hb
  have E := E'
  have HX := HX'
  have HC := HC'
  clear E' HX' HC'
  clear y0 y1
  go_wp2_with fail
  refine (stActivate_nil _ _).mono ?_
  rintro x wx ⟨rfl, hb⟩
  have E' := Lib.hid (Ext.trans E.out hb)
  have HX' := Lib.hid (HX.out.below hb)
  have HC' := Lib.hid (HC.out.below hb)
  clear E HX HC hb
  have E := E'
  have HX := HX'
  have HC := HC'
  clear E' HX' HC'
  obtain ⟨y0, y1⟩ := box2 HC.out
  go_wp2_with fail
  refine (stBegin_nil _ _ _ _).mono ?_
  rintro x wx ⟨rfl, hb⟩
  have E' := Lib.hid (Ext.trans E.out hb)
  have HX' := Lib.hid (HX.out.below hb)
  have HC' := Lib.hid (HC.out.below hb)
  clear E HX HC hb
  have E := E'
  have HX := HX'
  have HC := HC'
  clear E' HX' HC'
  clear y0 y1
  go_wp2_with fail
  refine (stConf_any _ (someV_nil _) (Nat.zero_le _)).mono ?_
  rintro x wx ⟨a', c', rfl, -, hb⟩
  have E' := Lib.hid (Ext.trans E.out hb)
  have HX' := Lib.hid (HX.out.below hb)
  have HC' := Lib.hid (HC.out.below hb)
  clear E HX HC hb
  have E := E'
  have HX := HX'
  have HC := HC'
  clear E' HX' HC'
  have hf0 := conf_f0
  rw [show ss0.now.epoch = 0 from rfl]
  go_wp2_with fail
  refine (stPos_any _ (someV_nil _)).mono ?_
  rintro x wx ⟨rfl, hb⟩
  have E' := Lib.hid (Ext.trans E.out hb)
  have HX' := Lib.hid (HX.out.below hb)
  have HC' := Lib.hid (HC.out.below hb)
  clear E HX HC hb
  have E := E'
  have HX := HX'
  have HC := HC'
  clear E' HX' HC'
  clear hf0
  rw [show ss0.now.pos = 0 from rfl]
  go_wp2_with fail
  refine (stLast_any _ (someV_nil _) (Nat.zero_le _)).mono ?_
  rintro x wx ⟨rfl, hb⟩
  have E' := Lib.hid (Ext.trans E.out hb)
  have HX' := Lib.hid (HX.out.below hb)
  have HC' := Lib.hid (HC.out.below hb)
  clear E HX HC hb
  have E := E'
  have HX := HX'
  have HC := HC'
  clear E' HX' HC'
  rw [show lastS ss0 = 0 from rfl]
  go_wp2_with fail
  refine (stBase_any _ (someV_nil _)).mono ?_
  rintro x wx ⟨rfl, hb⟩
  have E' := Lib.hid (Ext.trans E.out hb)
  have HX' := Lib.hid (HX.out.below hb)
  have HC' := Lib.hid (HC.out.below hb)
  clear E HX HC hb
  have E := E'
  have HX := HX'
  have HC := HC'
  clear E' HX' HC'
  rw [show ss0.now.last = 0 from rfl]
  go_wp2_with fail
  refine (stStaged_any _ (someV_nil _)).mono ?_
  rintro x wx ⟨rfl, hb⟩
  have E' := Lib.hid (Ext.trans E.out hb)
  have HX' := Lib.hid (HX.out.below hb)
  have HC' := Lib.hid (HC.out.below hb)
  clear E HX HC hb
  have E := E'
  have HX := HX'
  have HC := HC'
  clear E' HX' HC'
  rw [show ss0.staged.epoch = 0 from rfl]
  go_wp2_with fail
  refine (stEntries_any _ (someV_nil _) (Nat.zero_le _) (by simp [ss0, pr0])).mono ?_
  rintro x wx ⟨a2, c2, rfl, -, hb⟩
  have E' := Lib.hid (Ext.trans E.out hb)
  have HX' := Lib.hid (HX.out.below hb)
  have HC' := Lib.hid (HC.out.below hb)
  clear E HX HC hb
  have E := E'
  have HX := HX'
  have HC := HC'
  clear E' HX' HC'
  rw [show ss0.now.ents.length = 0 from rfl]
  go_wp2_with fail
  refine (stSealed_any _ (someV_nil _)).mono ?_
  rintro x wx ⟨rfl, hb⟩
  have E' := Lib.hid (Ext.trans E.out hb)
  have HX' := Lib.hid (HX.out.below hb)
  have HC' := Lib.hid (HC.out.below hb)
  clear E HX HC hb
  have E := E'
  have HX := HX'
  have HC := HC'
  clear E' HX' HC'
  rw [show ss0.sealed = false from rfl]
  go_wp2
  go_ret
  exact ⟨rfl, E.out⟩

end Go.Proofs.Ytdgpbdedaafdiaa

/-
  What layer 11's own helpers answer: at, one.
-/
import Derived.Test.YtimiciellbdphaaChainC
import Derived.Test.YtimiciellbdphaaRefVPut
namespace Go.Proofs.Ytimiciellbdphaa
open Go.RowKit
set_option linter.unusedVariables false

/-- A result that lies in memory is answered whole. -/
theorem results_one {fn : Func} {c : Tmp} {T : TypeId} (h : fn.results = #[.cell c T]) (tmps : Array Value) (w : World) (b o : Nat) (cs : List Value) (d : TypeDesc) (hp : tmps.getD c undef = .pointer (some ⟨b, o, none⟩)) (hr : w.rangeAt b o cs) (hu : Try.prog.underlying T = some d) (hd : d.isRow = true) (hi : (Try.prog.info? T).map (·.size) = some cs.length) :
    (results fn tmps).run Try.prog w = .ok (.agg cs.toArray) w := by
  have hl := run_loadVar_mid (P := Try.prog) w b o T cs d hr hu hd hi
  unfold results
  rw [h]
  simp only [List.mapM_toArray, List.mapM_cons, List.mapM_nil, hp]
  simp [asAddr, hl]
theorem range_new (w : World) (cs : List Value) (T : TypeId) : (w.alloc (.cells cs.toArray T)).rangeAt w.heap.size 0 cs := by
  intro j v hv
  rw [Nat.zero_add, World.cell?_alloc_new]
  simpa using hv
theorem lat_any (t : Int) (w : World) :
    Calls Try.prog 11 #[.int .i64 t] w fun e w' => e = .returned (.agg #[.int .i64 t, .int .u8 0]) ∧ Below w.heap.size w w' := by
  go_enter Try.func11, Try.ntmps11
  go_wp2
  refine bodyPost_ret (results_one rfl _ _ w.heap.size 0 [.int .i64 t, .int .u8 0] _ rfl (range_new w _ _) Try.underlying28 rfl (by kernel_rfl)) rfl ?_
  exact ⟨rfl, (Below.refl _ _).alloc (Nat.le_refl _) _⟩
/-- A version of no key is made of its parts. -/
theorem run_build_one (w : World) (t n : Int) (S : ByteArray) (g : Bool) :
    (Instr.build 47 #[(1, .agg #[.int .i64 t, .int .u8 n]), (2, .string S), (3, .bool g)]).run Try.prog w = .ok (.agg #[.int .u8 0, .int .u8 0, .int .u8 0, .int .u8 0, .int .u8 0, .int .u8 0, .int .u8 0, .int .u8 0, .int .u8 0, .int .u8 0, .int .u8 0, .int .u8 0, .int .u8 0, .int .u8 0, .int .u8 0, .int .u8 0, .int .i64 t, .int .u8 n, .string S, .bool g]) w := by
  have hf : Instr.fill (fun x => [(0, 16), (16, 2), (18, 1), (19, 1)][x]?) (Value.agg #[.int .u8 0, .int .u8 0, .int .u8 0, .int .u8 0, .int .u8 0, .int .u8 0, .int .u8 0, .int .u8 0, .int .u8 0, .int .u8 0, .int .u8 0, .int .u8 0, .int .u8 0, .int .u8 0, .int .u8 0, .int .u8 0, .int .i64 0, .int .u8 0, .string ⟨#[]⟩, .bool false]).cells [(1, .agg #[.int .i64 t, .int .u8 n]), (2, .string S), (3, .bool g)] = some #[.int .u8 0, .int .u8 0, .int .u8 0, .int .u8 0, .int .u8 0, .int .u8 0, .int .u8 0, .int .u8 0, .int .u8 0, .int .u8 0, .int .u8 0, .int .u8 0, .int .u8 0, .int .u8 0, .int .u8 0, .int .u8 0, .int .i64 t, .int .u8 n, .string S, .bool g] := by rfl
  simp [Instr.build, run_underlying Try.underlying47]
  rw [hf]
  rfl
set_option maxHeartbeats 2000000 in
theorem lone_any (V : Ver) (hk : V.k = zeroK) (w : World) :
    Calls Try.prog 15 #[cvv V] w fun e w' => e = .returned (vv V) ∧ Below w.heap.size w w' := by
  obtain ⟨k, t, n, v, g⟩ := V
  simp only at hk
  subst hk
  obtain ⟨V, hV⟩ : ∃ V : Ver, V = ⟨zeroK, t, n, v, g⟩ := ⟨_, rfl⟩
  have HK : Hid (Ky V.k) := by rw [hV]; exact zeroK_ky
  have HV : Hid (vv V = .agg #[.int .u8 0, .int .u8 0, .int .u8 0, .int .u8 0, .int .u8 0, .int .u8 0, .int .u8 0, .int .u8 0, .int .u8 0, .int .u8 0, .int .u8 0, .int .u8 0, .int .u8 0, .int .u8 0, .int .u8 0, .int .u8 0, .int .i64 t, .int .u8 n, .string (strOfNums v), .bool g]) := by rw [hV]; rfl
  have HM : Hid (VerMine ((w.alloc (.cells #[.int .i64 t, .int .u8 n, .string (strOfNums v), .bool g] 31)).alloc (.cells #[.int .u8 0, .int .u8 0, .int .u8 0, .int .u8 0, .int .u8 0, .int .u8 0, .int .u8 0, .int .u8 0, .int .u8 0, .int .u8 0, .int .u8 0, .int .u8 0, .int .u8 0, .int .u8 0, .int .u8 0, .int .u8 0, .int .i64 0, .int .u8 0, .string ⟨#[]⟩, .bool false] 47)) (w.heap.size + 1) 0 zeroV) := by
    have := VerMine.made (w.alloc (.cells #[.int .i64 t, .int .u8 n, .string (strOfNums v), .bool g] 31)) 47 zeroV zeroV_ky
    rw [zeroV_cells, World.size_alloc] at this
    exact this
  have HB : Hid (Below w.heap.size w ((w.alloc (.cells #[.int .i64 t, .int .u8 n, .string (strOfNums v), .bool g] 31)).alloc (.cells #[.int .u8 0, .int .u8 0, .int .u8 0, .int .u8 0, .int .u8 0, .int .u8 0, .int .u8 0, .int .u8 0, .int .u8 0, .int .u8 0, .int .u8 0, .int .u8 0, .int .u8 0, .int .u8 0, .int .u8 0, .int .u8 0, .int .i64 0, .int .u8 0, .string ⟨#[]⟩, .bool false] 47))) := ((Below.refl _ _).alloc (Nat.le_refl _) _).alloc (by simp) _
  rw [show vv (⟨zeroK, t, n, v, g⟩ : Ver) = vv V by rw [hV]]
  show Calls Try.prog 15 #[.agg #[.int .i64 t, .int .u8 n, .string (strOfNums v), .bool g]] w _
  generalize strOfNums v = S at HV HM HB ⊢
  have hbd := fun u => run_build_one u t n S g
  clear hV
  go_enter Try.func15, Try.ntmps15
  go_wp2_with (have hgo := HM.out; clear hgo; refine wpList_store_ver (.tmp 2) (by rfl) (.tmp 9) (by rfl) (w.heap.size + 1) 0 zeroV V (by rfl) (by exact HV.out.symm) HK.out HM.out ?_; intro u hu; have HU : Hid (VerMine u (w.heap.size + 1) 0 V) := hu ▸ HM.out.store HK.out; have HBU : Hid (Below w.heap.size w u) := hu ▸ below_cells (by omega) HB.out; clear hu HM HB)
  refine bodyPost_ret (results_one rfl _ _ (w.heap.size + 1) 0 (encV V) _ rfl HU.out.at_.range Try.underlying47 rfl (by rw [info_ver, enc_len HK.out])) rfl ?_
  exact ⟨rfl, HBU.out⟩
end Go.Proofs.Ytimiciellbdphaa

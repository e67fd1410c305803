/-
  Entries loaded, stored and answered whole; what the document's own tables answer: Has, holder, Holder, Blocks (hourglassref10: Table).
  What the document's own tables answer: Holder, Blocks, Least (hourglassref10: Table).
  What the document's own tables answer: Drop (hourglassref10: Table).
  Lists of entries cut in two; one entry as a list; a list of writes copied.
-/
import Derived.Test.YthgkbabikeknlaaRefPrep1
import Derived.Deep.MidRow
import Derived.Deep.Slices
namespace Go.Proofs.Ythgkbabikeknlaa
open Go.RowKit
set_option linter.unusedVariables false

theorem info_ent : (Try.prog.info? 57).map (·.size) = some 6 := by kernel_rfl
/-- One entry in memory of the call's own. -/
structure EntMine (w : World) (b : Nat) (x : EntM) : Prop where
  at_ : EntAt w b 0 x
  free : ∀ i, i < 6 → w.frozen? ⟨b, 0 + i, none⟩ = false
theorem EntAt.lt {w : World} {b o : Nat} {x : EntM} (h : EntAt w b o x) : b < w.heap.size := cell_lt h.cells.1
theorem EntMine.made (w : World) (T : TypeId) (x : EntM) : EntMine (w.alloc (.cells (encE x).toArray T)) w.heap.size x :=
  ⟨⟨lies_made w (encE x).toArray T⟩, fun i hi => World.frozen?_alloc_new _ _ _ _⟩
theorem EntMine.past {w w' : World} {b : Nat} {x : EntM} (h : EntMine w b x) (hb : Below w.heap.size w w') : EntMine w' b x :=
  ⟨h.at_.past hb, fun i hi => by rw [hb.frozen (p := ⟨b, 0 + i, none⟩) h.at_.lt]; exact h.free i hi⟩
theorem EntMine.there {w : World} {b : Nat} {x : EntM} (h : EntMine w b x) : w.there b 0 6 := fun j hj => by
  obtain ⟨u, hu⟩ : ∃ u, (encE x)[j]? = some u := ⟨_, List.getElem?_eq_getElem (by rw [encE_len]; exact hj)⟩
  exact ⟨by rw [h.at_.lies.at j u hu]; rfl, h.free j hj⟩
theorem EntMine.store {w : World} {b : Nat} {x x' : EntM} (h : EntMine w b x) : EntMine (w.setCells b 0 (encE x')) b x' := by
  have ht := h.there
  rw [← encE_len x'] at ht
  exact ⟨⟨lies_of (World.rangeAt_setCells_same w b 0 (encE x') ht)⟩, fun i hi => by rw [World.frozen?_setCells]; exact h.free i hi⟩
theorem wpList_load_ent (d : Tmp) {ops : Array Oper} {rest : List Oper} {op : Oper} {a : Act} {w : World} {Q : Exit → Act → World → Prop} (hd : op.dst = some d) (hw : Region.wanted op (yielded ops a.tmps) = true) (x : Operand) (ho : op.op = .load 57 x)
    (b o : Nat) (hx : a.eval x = .pointer (some ⟨b, o, none⟩)) (X : EntM) (hat : EntAt w b o X)
    (h : wpList Try.prog ops Q rest (a.put op.dst (ev X)) w) : wpList Try.prog ops Q (op :: rest) a w :=
  wpList_step fun K hK => by
    rw [if_pos hw]
    exact wp_load_mid 57 x ho b o hx (encE X) _ hat.lies.range Try.underlying57 rfl (by rw [info_ent, encE_len]) (hK _ _ h)
theorem wpList_store_ent (d : Operand) {ops : Array Oper} {rest : List Oper} {op : Oper} {a : Act} {w : World} {Q : Exit → Act → World → Prop} (hgd : op.guard = none) (y : Operand) (ho : op.op = .store 57 d y)
    (b : Nat) (X X' : EntM) (hx : a.eval d = .pointer (some ⟨b, 0, none⟩)) (hy : a.eval y = ev X') (hat : EntMine w b X)
    (h : ∀ u, u = w.setCells b 0 (encE X') → wpList Try.prog ops Q rest (a.put op.dst undef) u) : wpList Try.prog ops Q (op :: rest) a w := by
  refine wpList_store_mid hgd 57 d y ho b 0 (encE X').toArray hx hy (by rw [show (encE X').toArray.size = 6 from rfl]; exact hat.there) (by rw [info_ent]; rfl) (encE_all X') ?_
  exact h _ rfl
theorem results_ent {fn : Func} {c t : Tmp} (h : fn.results = #[.cell c 57, .tmp t]) (tmps : Array Value) (w : World) (b : Nat) (x : EntM) (hp : tmps.getD c undef = .pointer (some ⟨b, 0, none⟩)) (hat : EntAt w b 0 x) :
    (results fn tmps).run Try.prog w = .ok (.tuple #[ev x, tmps.getD t undef]) w := by
  have hl := run_loadVar_mid (P := Try.prog) w b 0 57 (encE x) _ hat.lies.range Try.underlying57 rfl (by rw [info_ent, encE_len])
  unfold results
  rw [h]
  simp only [List.mapM_toArray, List.mapM_cons, List.mapM_nil, hp]
  simp [asAddr, hl]
def zeroE : EntM := ⟨⟨0, 0, 0, 0, 0, []⟩, none, 0⟩
theorem zeroE_cells : (encE zeroE).toArray = #[.int .i64 0, .int .i64 0, .int .u8 0, .int .i64 0, .int .u8 0, .slice none 0 0] := rfl
def orE (o : Option EntM) : EntM := match o with | none => zeroE | some x => x
def hasM (M : List EntM) (id : Int) : Option EntM := M.find? (fun x => decide (x.e.id = id))
def holdM (M : List EntM) (k : List Int) : Option EntM := M.find? (fun x => hasK x.e k)
theorem hasM_e (M : List EntM) (id : Int) : (hasM M id).map (·.e) = hasT (ents M) id := by unfold hasM hasT ents; rw [List.find?_map]; rfl
theorem holdM_e (M : List EntM) (k : List Int) : (holdM M k).map (·.e) = holdT (ents M) k := by unfold holdM holdT ents; rw [List.find?_map]; rfl
theorem find_first {α : Type} {p : α → Bool} {l : List α} {i : Nat} {x : α} (hx : l[i]? = some x) (hp : p x = true) (h : ∀ j y, j < i → l[j]? = some y → p y = false) : l.find? p = some x := by
  induction l generalizing i with
  | nil => simp at hx
  | cons z r ih =>
    cases i with
    | zero => simp at hx; subst hx; rw [List.find?_cons_of_pos hp]
    | succ j =>
      rw [List.find?_cons_of_neg (by rw [h 0 z (by omega) rfl]; simp)]
      exact ih (by simpa using hx) (fun k y hk hy => h (k + 1) y (by omega) (by simpa using hy))
theorem find_no {α : Type} {p : α → Bool} {l : List α} (h : ∀ j y, j < l.length → l[j]? = some y → p y = false) : l.find? p = none := by
  rw [List.find?_eq_none]
  intro x hx
  obtain ⟨j, hj, rfl⟩ := List.mem_iff_getElem.1 hx
  rw [h j _ hj (List.getElem?_eq_getElem hj)]
  simp
set_option maxHeartbeats 4000000 in
set_option maxRecDepth 4000 in
theorem rhas_any (B q : Nat) (M : List EntM) (id : Int) (w : World) (h : TabR w B q M) :
    Calls Try.prog 28 #[.pointer (some ⟨q, 0, none⟩), .int .i64 id] w fun e w' => e = .returned (.tuple #[ev (orE (hasM M id)), .bool (hasM M id).isSome]) ∧ Below w.heap.size w w' := by
  obtain ⟨V0, hV0⟩ : ∃ V0, V0 = w.alloc (.cells (encE zeroE).toArray 57) := ⟨_, rfl⟩
  have HBW : Hid (Below w.heap.size w V0) := by rw [hV0]; exact (Below.refl _ _).alloc (Nat.le_refl _) _
  have HM0 : Hid (EntMine V0 w.heap.size zeroE) := by rw [hV0]; exact EntMine.made w 57 zeroE
  have HV0 : Hid (w.alloc (.cells (encE zeroE).toArray 57) = V0) := hV0.symm
  rw [zeroE_cells] at HV0
  obtain ⟨N, hN⟩ : ∃ N, N = M.length := ⟨_, rfl⟩
  obtain ⟨a0, c0, hcap, hcell, hs⟩ := h.open
  have hfew := h.few
  rw [← hN] at hcap hcell hfew
  have HCE : Hid (∀ v, Below w.heap.size w v → v.cell? ⟨q, 0, none⟩ = some (.slice a0 N c0)) := hcell
  have HN : Hid (M.length = N) := hN.symm
  have HS : Hid (∀ i x, M[i]? = some x → ∃ g, a0 = some ⟨g, 0, none⟩ ∧ Hid (∀ v, Below w.heap.size w v → EntAt v g (i * 6) x)) := fun i x hx => by
    rcases hs with e | ⟨g, e1, e4⟩
    · rw [e] at hx; simp at hx
    · exact ⟨g, e1, fun v hv => e4 v hv i x hx⟩
  obtain ⟨R, hR⟩ : ∃ R, R = hasM M id := ⟨_, rfl⟩
  have HYES : Hid (∀ i x, M[i]? = some x → x.e.id = id → (∀ j (y : EntM), j < i → M[j]? = some y → y.e.id ≠ id) → R = some x) := fun i x hx he hj => by rw [hR]; exact find_first hx (decide_eq_true he) (fun j y h1 h2 => decide_eq_false (hj j y h1 h2))
  have HNO : Hid ((∀ j (y : EntM), j < N → M[j]? = some y → y.e.id ≠ id) → R = none) := fun hj => by rw [hR]; exact find_no (fun j y h1 h2 => decide_eq_false (hj j y (by rw [hN]; exact h1) h2))
  rw [← hR]
  clear h hs hcell hN hR hV0
  go_enter Try.func28, Try.ntmps28
  go_wp2
  rw [HV0.out]
  go_loopw [6] (fun iv wr => ∃ i : Nat, iv = .int .i64 i ∧ i ≤ N ∧ wr = V0 ∧ Hid (∀ j (y : EntM), j < i → M[j]? = some y → y.e.id ≠ id)) (fun iv _ => N - (intOf iv).toNat)
  case atStart => exact ⟨0, rfl, Nat.zero_le _, rfl, fun j y hj => absurd hj (Nat.not_lt_zero _)⟩
  case round =>
    obtain ⟨i, rfl, hi, rfl, HJ⟩ := hrel
    have hi0 : (0 : Int) ≤ (i : Int) := by omega
    have q0 := HCE.out wr HBW.out
    by_cases hlt : i < N
    · have h1 : (i : Int) < (N : Int) := by omega
      obtain ⟨x, hx⟩ : ∃ x, M[i]? = some x := ⟨_, List.getElem?_eq_getElem (by rw [HN.out]; exact hlt)⟩
      obtain ⟨g, hag, HG⟩ := HS.out i x hx
      rw [hag] at q0
      have HXI : Hid (M[i]? = some x) := hx
      have FE : Hid (EntAt wr g (i * 6) x) := HG.out wr HBW.out
      obtain ⟨y0, y1, y2, y3, y4, y5⟩ := FE.out.cells
      obtain ⟨xi, hxi⟩ : ∃ z, z = x.e.id := ⟨_, rfl⟩
      rw [← hxi] at y0
      have HXE : Hid (xi = x.e.id) := hxi
      clear hx hxi y1 y2 y3 y4 y5
      by_cases he : xi = id
      · have HR : Hid (R = some x) := HYES.out i x HXI.out (by rw [← HXE.out]; exact he) HJ.out
        have be : (xi == id) = true := by simp [he]
        clear he
        go_wp2_with (first | ((with_reducible show wpList _ _ _ (Oper.mk (some 32) _ _ _ _ _ :: _) _ _); refine wpList_load_ent 32 (by rfl) (by rfl) _ (by rfl) g (i * 6) (by rfl) x FE.out ?_) | (have hgo := HM0.out; clear hgo; refine wpList_store_ent (.tmp 4) (by rfl) _ (by rfl) w.heap.size zeroE x (by rfl) (by rfl) HM0.out ?_; intro u2 hu; have HM2 : Hid (EntMine u2 w.heap.size x) := hu ▸ HM0.out.store; have HB2 : Hid (Below w.heap.size w u2) := hu ▸ below_cells (Nat.le_refl _) HBW.out; clear hu HM0))
        refine bodyPost_ret (results_ent rfl _ _ w.heap.size x rfl HM2.out.at_) rfl ?_
        exact ⟨by rw [HR.out]; rfl, HB2.out⟩
      · have be : (xi == id) = false := by simpa using he
        have HJ2 : Hid (∀ j (y : EntM), j < i + 1 → M[j]? = some y → y.e.id ≠ id) := fun j y hj hy => by
          by_cases e : j < i
          · exact HJ.out j y e hy
          · obtain rfl : j = i := by omega
            rw [HXI.out] at hy
            obtain rfl := Option.some.inj hy
            rw [← HXE.out]; exact he
        clear he
        go_wp2
        go_roundw
        case rel => exact ⟨i + 1, by go_num, by omega, trivial, HJ2⟩
        case measure => simp [intOf]; omega
    · obtain rfl : i = N := by omega
      have HR : Hid (R = none) := HNO.out HJ.out
      go_wp2_with (have hgo := HM0.out; clear hgo; refine wpList_store_ent (.tmp 4) (by rfl) _ (by rfl) w.heap.size zeroE zeroE (by rfl) (by rfl) HM0.out ?_; intro u2 hu; have HM2 : Hid (EntMine u2 w.heap.size zeroE) := hu ▸ HM0.out.store; have HB2 : Hid (Below w.heap.size w u2) := hu ▸ below_cells (Nat.le_refl _) HBW.out; clear hu HM0)
      refine bodyPost_ret (results_ent rfl _ _ w.heap.size zeroE rfl HM2.out.at_) rfl ?_
      exact ⟨by rw [HR.out]; rfl, HB2.out⟩
/-- A key and an empty entry in boxes. -/
theorem keyent_made (w : World) {k : List Int} (hk : Ky k) (T T' : TypeId) : KeyAt ((w.alloc (.cells (kcs k) T)).alloc (.cells (encE zeroE).toArray T')) w.heap.size 0 k ∧ EntMine ((w.alloc (.cells (kcs k) T)).alloc (.cells (encE zeroE).toArray T')) (w.heap.size + 1) zeroE ∧ Below w.heap.size w ((w.alloc (.cells (kcs k) T)).alloc (.cells (encE zeroE).toArray T')) := by
  obtain ⟨u1, h1⟩ : ∃ u, u = w.alloc (.cells (kcs k) T) := ⟨_, rfl⟩
  have e1 : u1.heap.size = w.heap.size + 1 := by rw [h1]; simp
  have k1 : KeyAt u1 w.heap.size 0 k := by rw [h1]; exact KeyAt.made w T k hk
  have b1 : Below w.heap.size w u1 := by rw [h1]; exact (Below.refl _ _).alloc (Nat.le_refl _) _
  rw [← h1]
  have b2 : Below u1.heap.size u1 (u1.alloc (.cells (encE zeroE).toArray T')) := (Below.refl _ _).alloc (Nat.le_refl _) _
  refine ⟨k1.past b2, ?_, b1.trans (b2.mono b1.size)⟩
  have := EntMine.made u1 T' zeroE
  rw [e1] at this
  exact this
theorem hask_no {e : Ent} {k : List Int} (h : ∀ z W, z < e.l.length → e.l[z]? = some W → W.k ≠ k) : hasK e k = false := by
  unfold hasK
  refine List.any_eq_false.2 (fun W hW => ?_)
  obtain ⟨z, hz, rfl⟩ := List.mem_iff_getElem.1 hW
  simpa using h z _ hz (List.getElem?_eq_getElem hz)
theorem hask_yes {e : Ent} {k : List Int} {z : Nat} {W : Wrt} (hW : e.l[z]? = some W) (hk : W.k = k) : hasK e k = true := List.any_eq_true.2 ⟨W, List.mem_of_getElem? hW, decide_eq_true hk⟩
set_option maxHeartbeats 8000000 in
set_option maxRecDepth 8000 in
theorem rholder_any (B q : Nat) (M : List EntM) (k : List Int) (hk : Ky k) (w : World) (h : TabR w B q M) :
    Calls Try.prog 44 #[.pointer (some ⟨q, 0, none⟩), kv k] w fun e w' => e = .returned (.tuple #[ev (orE (holdM M k)), .bool (holdM M k).isSome]) ∧ Below w.heap.size w w' := by
  obtain ⟨V0, hV0⟩ : ∃ V0, V0 = (w.alloc (.cells (kcs k) 39)).alloc (.cells (encE zeroE).toArray 57) := ⟨_, rfl⟩
  obtain ⟨k1, m1, b1⟩ := keyent_made w hk 39 57
  rw [← hV0] at k1 m1 b1
  have HBW : Hid (Below w.heap.size w V0) := b1
  have HM0 : Hid (EntMine V0 (w.heap.size + 1) zeroE) := m1
  have HK0 : Hid (KeyAt V0 w.heap.size 0 k) := k1
  have KY : Hid (Ky k) := hk
  have HV0 : Hid ((w.alloc (.cells (kcs k) 39)).alloc (.cells (encE zeroE).toArray 57) = V0) := hV0.symm
  rw [zeroE_cells] at HV0
  obtain ⟨N, hN⟩ : ∃ N, N = M.length := ⟨_, rfl⟩
  obtain ⟨a0, c0, hcap, hcell, hs⟩ := h.open
  have hfew := h.few
  rw [← hN] at hcap hcell hfew
  have HCE : Hid (∀ v, Below w.heap.size w v → v.cell? ⟨q, 0, none⟩ = some (.slice a0 N c0)) := hcell
  have HN : Hid (M.length = N) := hN.symm
  have HWR : Hid (∀ x ∈ M, EntW w x) := h.wrs
  have HS : Hid (∀ i x, M[i]? = some x → ∃ g, a0 = some ⟨g, 0, none⟩ ∧ Hid (∀ v, Below w.heap.size w v → EntAt v g (i * 6) x)) := fun i x hx => by
    rcases hs with e | ⟨g, e1, e4⟩
    · rw [e] at hx; simp at hx
    · exact ⟨g, e1, fun v hv => e4 v hv i x hx⟩
  obtain ⟨R, hR⟩ : ∃ R, R = holdM M k := ⟨_, rfl⟩
  have HYES : Hid (∀ i x, M[i]? = some x → hasK x.e k = true → (∀ j (y : EntM), j < i → M[j]? = some y → hasK y.e k = false) → R = some x) := fun i x hx he hj => by rw [hR]; exact find_first hx he hj
  have HNO : Hid ((∀ j (y : EntM), j < N → M[j]? = some y → hasK y.e k = false) → R = none) := fun hj => by rw [hR]; exact find_no (fun j y h1 h2 => hj j y (by rw [hN]; exact h1) h2)
  rw [← hR]
  clear h hs hcell hN hR hV0 k1 m1 b1 hk
  go_enter Try.func44, Try.ntmps44
  go_wp2
  rw [HV0.out]
  go_loopw [6] (fun iv wr => ∃ i : Nat, iv = .int .i64 i ∧ i ≤ N ∧ Hid (Below V0.heap.size V0 wr) ∧ Hid (∀ j (y : EntM), j < i → M[j]? = some y → hasK y.e k = false)) (fun iv _ => N - (intOf iv).toNat)
  case atStart => exact ⟨0, rfl, Nat.zero_le _, Below.refl _ _, fun j y hj => absurd hj (Nat.not_lt_zero _)⟩
  case round =>
    obtain ⟨i, rfl, hi, HB, HJ⟩ := hrel
    have hi0 : (0 : Int) ≤ (i : Int) := by omega
    have q0 := HCE.out wr (HBW.out.trans (HB.out.mono HBW.out.size))
    by_cases hlt : i < N
    · have h1 : (i : Int) < (N : Int) := by omega
      obtain ⟨x, hx⟩ : ∃ x, M[i]? = some x := ⟨_, List.getElem?_eq_getElem (by rw [HN.out]; exact hlt)⟩
      obtain ⟨g, hag, HG⟩ := HS.out i x hx
      have HXI : Hid (M[i]? = some x) := hx
      obtain ⟨hwr, hroom, hfw, _⟩ := HWR.out x (List.mem_of_getElem? hx)
      obtain ⟨xa, hxa⟩ : ∃ z, z = x.a := ⟨_, rfl⟩
      obtain ⟨xc, hxc⟩ : ∃ z, z = x.c := ⟨_, rfl⟩
      obtain ⟨NW, hNW⟩ : ∃ z, z = x.e.l.length := ⟨_, rfl⟩
      rw [← hNW] at hroom hfw
      rw [← hxc] at hroom
      rw [← hxa] at hwr
      have HNW : Hid (x.e.l.length = NW) := hNW.symm
      have HWX : Hid (WrtsAt w xa x.e.l) := hwr
      have FE : Hid (∀ u, Below V0.heap.size V0 u → EntAt u g (i * 6) x) := fun u hb => HG.out u (HBW.out.trans (hb.mono HBW.out.size))
      have FS5 : Hid (∀ u, Below V0.heap.size V0 u → u.cell? ⟨g, i * 6 + 5, none⟩ = some (.slice xa NW xc)) := fun u hb => by rw [hxa, hxc, hNW]; exact (FE.out u hb).cells.2.2.2.2.2
      have HQ : Hid (∀ u, Below V0.heap.size V0 u → u.cell? ⟨q, 0, none⟩ = some (.slice (some ⟨g, 0, none⟩) N c0)) := fun u hb => by rw [← hag]; exact HCE.out u (HBW.out.trans (hb.mono HBW.out.size))
      clear hx hxa hxc hNW hwr q0
      have q0 := HQ.out wr HB.out
      go_wp2
      clear q0
      go_loopw [7] (fun jv wr => ∃ z : Nat, jv = .int .i64 z ∧ z ≤ NW ∧ Hid (Below V0.heap.size V0 wr) ∧ Hid (∀ y W, y < z → x.e.l[y]? = some W → W.k ≠ k)) (fun jv _ => NW - (intOf jv).toNat)
      case atStart => exact ⟨0, rfl, Nat.zero_le _, HB, fun y W hy => absurd hy (Nat.not_lt_zero _)⟩
      case round =>
        obtain ⟨z, rfl, hz, HB2, HJ2⟩ := hrel
        have hz0 : (0 : Int) ≤ (z : Int) := by omega
        have q0 := HQ.out wr HB2.out
        have q5 := FS5.out wr HB2.out
        by_cases hzl : z < NW
        · have h2 : (z : Int) < (NW : Int) := by omega
          obtain ⟨W, hW⟩ : ∃ W, x.e.l[z]? = some W := ⟨_, List.getElem?_eq_getElem (by rw [HNW.out]; exact hzl)⟩
          have HWZ : Hid (x.e.l[z]? = some W) := hW
          obtain ⟨b, o, hxb, hwa, hwo⟩ := HWX.out.wrt hW
          obtain ⟨k2, hk2⟩ : ∃ k2, k2 = W.k := ⟨_, rfl⟩
          have HK2 : Hid (k2 = W.k) := hk2
          have KY2 : Hid (Ky k2) := by rw [hk2]; exact hwo.key
          have F2 : Hid (∀ u, Below wr.heap.size wr u → KeyAt u b (o + z * 18) k2) := fun u hb => by rw [hk2]; exact (hwa.past (HBW.out.trans ((HB2.out.trans (hb.mono HB2.out.size)).mono HBW.out.size))).key hwo.key
          have F1 : Hid (∀ u, Below wr.heap.size wr u → KeyAt u w.heap.size 0 k) := fun u hb => HK0.out.past (HB2.out.trans (hb.mono HB2.out.size))
          have Q2 : Hid (∀ u, Below wr.heap.size wr u → u.cell? ⟨q, 0, none⟩ = some (.slice (some ⟨g, 0, none⟩) N c0) ∧ u.cell? ⟨g, i * 6 + 5, none⟩ = some (.slice (some ⟨b, o, none⟩) NW xc)) := fun u hb => ⟨HQ.out u (HB2.out.trans (hb.mono HB2.out.size)), by rw [← hxb]; exact FS5.out u (HB2.out.trans (hb.mono HB2.out.size))⟩
          rw [hxb] at q5
          clear hW hwa hwo hk2 hxb
          by_cases hq : k2 = k
          · have he : ∀ u, (Op.equalIn 10000 39 (kv k2) (kv k)).run Try.prog u = .ok true u := fun u => by rw [eq_key u k2 k KY2.out KY.out, decide_eq_true hq]
            have HR : Hid (R = some x) := HYES.out i x HXI.out (hask_yes HWZ.out (by rw [← HK2.out]; exact hq)) HJ.out
            clear hq
            go_wp2
            refine wp_region_noPanic ?_
            refine wp_region_held_drew (S := fun u => Below wr.heap.size wr u) (by kernel_rfl) ?_ (fun hHeld => ?_)
            · exact (Below.refl _ _).drew
            refine wpAnyH_take (i := 0) (v := ?_) rfl (by kernel_rfl) (by kernel_rfl) (by kernel_rfl) (fun _ _ _ h => h) (Or.inl ⟨by rfl, ?_⟩) hHeld ?_
            rotate_left
            · intro u hSu
              (go_simp) <;> (with_reducible rfl)
            change wpAnyH _ _ _ _ _ _ _ (Act.put _ (some 30) _) _
            simp only [Act.put, List.setIfInBounds_toArray, List.set_cons_zero, List.set_cons_succ]
            refine wpAnyH_take (i := 1) (v := ?_) rfl (by kernel_rfl) (by kernel_rfl) (by kernel_rfl) (fun _ _ _ h => h) (Or.inl ⟨by rfl, ?_⟩) hHeld ?_
            rotate_left
            · intro u hSu
              (go_simp) <;> (with_reducible rfl)
            change wpAnyH _ _ _ _ _ _ _ (Act.put _ (some 31) _) _
            simp only [Act.put, List.setIfInBounds_toArray, List.set_cons_zero, List.set_cons_succ]
            refine wpAnyH_take (i := 2) (v := ?_) rfl (by kernel_rfl) (by kernel_rfl) (by kernel_rfl) (fun _ _ _ h => h) (Or.inl ⟨by rfl, ?_⟩) hHeld ?_
            rotate_left
            · intro u hSu
              (go_simp) <;> (with_reducible rfl)
            change wpAnyH _ _ _ _ _ _ _ (Act.put _ (some 32) _) _
            simp only [Act.put, List.setIfInBounds_toArray, List.set_cons_zero, List.set_cons_succ]
            refine wpAnyH_take (i := 3) (v := ?_) rfl (by kernel_rfl) (by kernel_rfl) (by kernel_rfl) (fun _ _ _ h => h) (Or.inl ⟨by rfl, ?_⟩) hHeld ?_
            rotate_left
            · intro u hSu
              obtain ⟨r1, r2⟩ := Q2.out u hSu
              (go_simp) <;> (with_reducible rfl)
            change wpAnyH _ _ _ _ _ _ _ (Act.put _ (some 33) _) _
            simp only [Act.put, List.setIfInBounds_toArray, List.set_cons_zero, List.set_cons_succ]
            refine wpAnyH_take (i := 4) (v := ?_) rfl (by kernel_rfl) (by kernel_rfl) (by kernel_rfl) (fun _ _ _ h => h) (Or.inl ⟨by rfl, ?_⟩) hHeld ?_
            rotate_left
            · intro u hSu
              (go_simp) <;> (with_reducible rfl)
            change wpAnyH _ _ _ _ _ _ _ (Act.put _ (some 34) _) _
            simp only [Act.put, List.setIfInBounds_toArray, List.set_cons_zero, List.set_cons_succ]
            refine wpAnyH_take (i := 5) (v := ?_) rfl (by kernel_rfl) (by kernel_rfl) (by kernel_rfl) (fun _ _ _ h => h) (Or.inl ⟨by rfl, ?_⟩) hHeld ?_
            rotate_left
            · intro u hSu
              (go_simp) <;> (with_reducible rfl)
            change wpAnyH _ _ _ _ _ _ _ (Act.put _ (some 35) _) _
            simp only [Act.put, List.setIfInBounds_toArray, List.set_cons_zero, List.set_cons_succ]
            refine wpAnyH_take (i := 6) (v := ?_) rfl (by kernel_rfl) (by kernel_rfl) (by kernel_rfl) (fun _ _ _ h => h) (Or.inl ⟨by rfl, ?_⟩) hHeld ?_
            rotate_left
            · intro u hSu
              (go_simp) <;> (with_reducible rfl)
            change wpAnyH _ _ _ _ _ _ _ (Act.put _ (some 36) _) _
            simp only [Act.put, List.setIfInBounds_toArray, List.set_cons_zero, List.set_cons_succ]
            refine wpAnyH_take (i := 7) (v := ?_) rfl (by kernel_rfl) (by kernel_rfl) (by kernel_rfl) (fun _ _ _ h => h) (Or.inl ⟨by rfl, ?_⟩) hHeld ?_
            rotate_left
            · intro u hSu
              obtain ⟨r1, r2⟩ := Q2.out u hSu
              (go_simp) <;> (with_reducible rfl)
            change wpAnyH _ _ _ _ _ _ _ (Act.put _ (some 37) _) _
            simp only [Act.put, List.setIfInBounds_toArray, List.set_cons_zero, List.set_cons_succ]
            refine wpAnyH_take (i := 8) (v := ?_) rfl (by kernel_rfl) (by kernel_rfl) (by kernel_rfl) (fun _ _ _ h => h) (Or.inl ⟨by rfl, ?_⟩) hHeld ?_
            rotate_left
            · intro u hSu
              (go_simp) <;> (with_reducible rfl)
            change wpAnyH _ _ _ _ _ _ _ (Act.put _ (some 38) _) _
            simp only [Act.put, List.setIfInBounds_toArray, List.set_cons_zero, List.set_cons_succ]
            refine wpAnyH_take (i := 9) (v := ?_) rfl (by kernel_rfl) (by kernel_rfl) (by kernel_rfl) (fun _ _ _ h => h) (Or.inl ⟨by rfl, ?_⟩) hHeld ?_
            rotate_left
            · intro u hSu
              (go_simp) <;> (with_reducible rfl)
            change wpAnyH _ _ _ _ _ _ _ (Act.put _ (some 39) _) _
            simp only [Act.put, List.setIfInBounds_toArray, List.set_cons_zero, List.set_cons_succ]
            refine wpAnyH_take (i := 10) (v := ?_) rfl (by kernel_rfl) (by kernel_rfl) (by kernel_rfl) (fun _ _ _ h => h) (Or.inl ⟨by rfl, ?_⟩) hHeld ?_
            rotate_left
            · intro u hSu
              (go_simp) <;> (with_reducible rfl)
            change wpAnyH _ _ _ _ _ _ _ (Act.put _ (some 40) _) _
            simp only [Act.put, List.setIfInBounds_toArray, List.set_cons_zero, List.set_cons_succ]
            refine wpAnyH_take (i := 11) (v := kv k2) rfl (by kernel_rfl) (by kernel_rfl) (by kernel_rfl) (fun _ _ _ h => h) (yieldsIf_load_mid (by rfl) _ _ rfl _ _ rfl (k2.map (Value.int .u8)) _ (fun u hu => (F2.out u hu).range KY2.out) Try.underlying39 rfl (info_keyl k2 KY2.out)) hHeld ?_
            change wpAnyH _ _ _ _ _ _ _ (Act.put _ (some 41) _) _
            simp only [Act.put, List.setIfInBounds_toArray, List.set_cons_zero, List.set_cons_succ]
            refine wpAnyH_take (i := 12) (v := kv k) rfl (by kernel_rfl) (by kernel_rfl) (by kernel_rfl) (fun _ _ _ h => h) (yieldsIf_load_mid (by rfl) _ _ rfl _ _ rfl (k.map (Value.int .u8)) _ (fun u hu => (F1.out u hu).range KY.out) Try.underlying39 rfl (info_keyl k KY.out)) hHeld ?_
            change wpAnyH _ _ _ _ _ _ _ (Act.put _ (some 42) _) _
            simp only [Act.put, List.setIfInBounds_toArray, List.set_cons_zero, List.set_cons_succ]
            refine wpAnyH_take (i := 13) (v := ?_) rfl (by kernel_rfl) (by kernel_rfl) (by kernel_rfl) (fun _ _ _ h => h) (Or.inl ⟨by rfl, ?_⟩) hHeld ?_
            rotate_left
            · intro u hSu
              (go_simp) <;> (with_reducible rfl)
            change wpAnyH _ _ _ _ _ _ _ (Act.put _ (some 43) _) _
            simp only [Act.put, List.setIfInBounds_toArray, List.set_cons_zero, List.set_cons_succ]
            refine wpAnyH_done (by kernel_rfl) ?_ _
            refine NoPanic.normal ?_
            have HMW : Hid (EntMine wr.drew (w.heap.size + 1) zeroE) := HM0.out.past HB2.out.drew
            have HBD : Hid (Below w.heap.size w wr.drew) := HBW.out.trans (HB2.out.drew.mono HBW.out.size)
            have HFD : Hid (EntAt wr.drew g (i * 6) x) := FE.out _ HB2.out.drew
            have q1 := HQ.out wr.drew HB2.out.drew
            go_wp2_with (first | ((with_reducible show wpList _ _ _ (Oper.mk (some 50) _ _ _ _ _ :: _) _ _); refine wpList_load_ent 50 (by rfl) (by rfl) _ (by rfl) g (i * 6) (by rfl) x HFD.out ?_) | (have hgo := HMW.out; clear hgo; refine wpList_store_ent (.tmp 4) (by rfl) _ (by rfl) (w.heap.size + 1) zeroE x (by rfl) (by rfl) HMW.out ?_; intro u2 hu; have HM2 : Hid (EntMine u2 (w.heap.size + 1) x) := hu ▸ HMW.out.store; have HBU : Hid (Below w.heap.size w u2) := hu ▸ below_cells (by omega) HBD.out; clear hu HMW))
            refine bodyPost_ret (results_ent rfl _ _ (w.heap.size + 1) x rfl HM2.out.at_) rfl ?_
            exact ⟨by rw [HR.out]; rfl, HBU.out⟩
          · have he : ∀ u, (Op.equalIn 10000 39 (kv k2) (kv k)).run Try.prog u = .ok false u := fun u => by rw [eq_key u k2 k KY2.out KY.out, decide_eq_false hq]
            have HJ3 : Hid (∀ y W, y < z + 1 → x.e.l[y]? = some W → W.k ≠ k) := fun y W' hy hW' => by
              by_cases e : y < z
              · exact HJ2.out y W' e hW'
              · obtain rfl : y = z := by omega
                rw [HWZ.out] at hW'
                obtain rfl := Option.some.inj hW'
                rw [← HK2.out]; exact hq
            clear hq
            go_wp2
            refine wp_region_noPanic ?_
            refine wp_region_held_drew (S := fun u => Below wr.heap.size wr u) (by kernel_rfl) ?_ (fun hHeld => ?_)
            · exact (Below.refl _ _).drew
            refine wpAnyH_take (i := 0) (v := ?_) rfl (by kernel_rfl) (by kernel_rfl) (by kernel_rfl) (fun _ _ _ h => h) (Or.inl ⟨by rfl, ?_⟩) hHeld ?_
            rotate_left
            · intro u hSu
              (go_simp) <;> (with_reducible rfl)
            change wpAnyH _ _ _ _ _ _ _ (Act.put _ (some 30) _) _
            simp only [Act.put, List.setIfInBounds_toArray, List.set_cons_zero, List.set_cons_succ]
            refine wpAnyH_take (i := 1) (v := ?_) rfl (by kernel_rfl) (by kernel_rfl) (by kernel_rfl) (fun _ _ _ h => h) (Or.inl ⟨by rfl, ?_⟩) hHeld ?_
            rotate_left
            · intro u hSu
              (go_simp) <;> (with_reducible rfl)
            change wpAnyH _ _ _ _ _ _ _ (Act.put _ (some 31) _) _
            simp only [Act.put, List.setIfInBounds_toArray, List.set_cons_zero, List.set_cons_succ]
            refine wpAnyH_take (i := 2) (v := ?_) rfl (by kernel_rfl) (by kernel_rfl) (by kernel_rfl) (fun _ _ _ h => h) (Or.inl ⟨by rfl, ?_⟩) hHeld ?_
            rotate_left
            · intro u hSu
              (go_simp) <;> (with_reducible rfl)
            change wpAnyH _ _ _ _ _ _ _ (Act.put _ (some 32) _) _
            simp only [Act.put, List.setIfInBounds_toArray, List.set_cons_zero, List.set_cons_succ]
            refine wpAnyH_take (i := 3) (v := ?_) rfl (by kernel_rfl) (by kernel_rfl) (by kernel_rfl) (fun _ _ _ h => h) (Or.inl ⟨by rfl, ?_⟩) hHeld ?_
            rotate_left
            · intro u hSu
              obtain ⟨r1, r2⟩ := Q2.out u hSu
              (go_simp) <;> (with_reducible rfl)
            change wpAnyH _ _ _ _ _ _ _ (Act.put _ (some 33) _) _
            simp only [Act.put, List.setIfInBounds_toArray, List.set_cons_zero, List.set_cons_succ]
            refine wpAnyH_take (i := 4) (v := ?_) rfl (by kernel_rfl) (by kernel_rfl) (by kernel_rfl) (fun _ _ _ h => h) (Or.inl ⟨by rfl, ?_⟩) hHeld ?_
            rotate_left
            · intro u hSu
              (go_simp) <;> (with_reducible rfl)
            change wpAnyH _ _ _ _ _ _ _ (Act.put _ (some 34) _) _
            simp only [Act.put, List.setIfInBounds_toArray, List.set_cons_zero, List.set_cons_succ]
            refine wpAnyH_take (i := 5) (v := ?_) rfl (by kernel_rfl) (by kernel_rfl) (by kernel_rfl) (fun _ _ _ h => h) (Or.inl ⟨by rfl, ?_⟩) hHeld ?_
            rotate_left
            · intro u hSu
              (go_simp) <;> (with_reducible rfl)
            change wpAnyH _ _ _ _ _ _ _ (Act.put _ (some 35) _) _
            simp only [Act.put, List.setIfInBounds_toArray, List.set_cons_zero, List.set_cons_succ]
            refine wpAnyH_take (i := 6) (v := ?_) rfl (by kernel_rfl) (by kernel_rfl) (by kernel_rfl) (fun _ _ _ h => h) (Or.inl ⟨by rfl, ?_⟩) hHeld ?_
            rotate_left
            · intro u hSu
              (go_simp) <;> (with_reducible rfl)
            change wpAnyH _ _ _ _ _ _ _ (Act.put _ (some 36) _) _
            simp only [Act.put, List.setIfInBounds_toArray, List.set_cons_zero, List.set_cons_succ]
            refine wpAnyH_take (i := 7) (v := ?_) rfl (by kernel_rfl) (by kernel_rfl) (by kernel_rfl) (fun _ _ _ h => h) (Or.inl ⟨by rfl, ?_⟩) hHeld ?_
            rotate_left
            · intro u hSu
              obtain ⟨r1, r2⟩ := Q2.out u hSu
              (go_simp) <;> (with_reducible rfl)
            change wpAnyH _ _ _ _ _ _ _ (Act.put _ (some 37) _) _
            simp only [Act.put, List.setIfInBounds_toArray, List.set_cons_zero, List.set_cons_succ]
            refine wpAnyH_take (i := 8) (v := ?_) rfl (by kernel_rfl) (by kernel_rfl) (by kernel_rfl) (fun _ _ _ h => h) (Or.inl ⟨by rfl, ?_⟩) hHeld ?_
            rotate_left
            · intro u hSu
              (go_simp) <;> (with_reducible rfl)
            change wpAnyH _ _ _ _ _ _ _ (Act.put _ (some 38) _) _
            simp only [Act.put, List.setIfInBounds_toArray, List.set_cons_zero, List.set_cons_succ]
            refine wpAnyH_take (i := 9) (v := ?_) rfl (by kernel_rfl) (by kernel_rfl) (by kernel_rfl) (fun _ _ _ h => h) (Or.inl ⟨by rfl, ?_⟩) hHeld ?_
            rotate_left
            · intro u hSu
              (go_simp) <;> (with_reducible rfl)
            change wpAnyH _ _ _ _ _ _ _ (Act.put _ (some 39) _) _
            simp only [Act.put, List.setIfInBounds_toArray, List.set_cons_zero, List.set_cons_succ]
            refine wpAnyH_take (i := 10) (v := ?_) rfl (by kernel_rfl) (by kernel_rfl) (by kernel_rfl) (fun _ _ _ h => h) (Or.inl ⟨by rfl, ?_⟩) hHeld ?_
            rotate_left
            · intro u hSu
              (go_simp) <;> (with_reducible rfl)
            change wpAnyH _ _ _ _ _ _ _ (Act.put _ (some 40) _) _
            simp only [Act.put, List.setIfInBounds_toArray, List.set_cons_zero, List.set_cons_succ]
            refine wpAnyH_take (i := 11) (v := kv k2) rfl (by kernel_rfl) (by kernel_rfl) (by kernel_rfl) (fun _ _ _ h => h) (yieldsIf_load_mid (by rfl) _ _ rfl _ _ rfl (k2.map (Value.int .u8)) _ (fun u hu => (F2.out u hu).range KY2.out) Try.underlying39 rfl (info_keyl k2 KY2.out)) hHeld ?_
            change wpAnyH _ _ _ _ _ _ _ (Act.put _ (some 41) _) _
            simp only [Act.put, List.setIfInBounds_toArray, List.set_cons_zero, List.set_cons_succ]
            refine wpAnyH_take (i := 12) (v := kv k) rfl (by kernel_rfl) (by kernel_rfl) (by kernel_rfl) (fun _ _ _ h => h) (yieldsIf_load_mid (by rfl) _ _ rfl _ _ rfl (k.map (Value.int .u8)) _ (fun u hu => (F1.out u hu).range KY.out) Try.underlying39 rfl (info_keyl k KY.out)) hHeld ?_
            change wpAnyH _ _ _ _ _ _ _ (Act.put _ (some 42) _) _
            simp only [Act.put, List.setIfInBounds_toArray, List.set_cons_zero, List.set_cons_succ]
            refine wpAnyH_take (i := 13) (v := ?_) rfl (by kernel_rfl) (by kernel_rfl) (by kernel_rfl) (fun _ _ _ h => h) (Or.inl ⟨by rfl, ?_⟩) hHeld ?_
            rotate_left
            · intro u hSu
              (go_simp) <;> (with_reducible rfl)
            change wpAnyH _ _ _ _ _ _ _ (Act.put _ (some 43) _) _
            simp only [Act.put, List.setIfInBounds_toArray, List.set_cons_zero, List.set_cons_succ]
            refine wpAnyH_done (by kernel_rfl) ?_ _
            refine NoPanic.normal ?_
            go_wp2
            go_roundw
            case rel => exact ⟨z + 1, by go_num, by omega, HB2.out.drew, HJ3⟩
            case measure => simp [intOf]; omega
        · obtain rfl : z = NW := by omega
          have HJX : Hid (∀ j (y : EntM), j < i + 1 → M[j]? = some y → hasK y.e k = false) := fun j y hj hy => by
            by_cases e : j < i
            · exact HJ.out j y e hy
            · obtain rfl : j = i := by omega
              rw [HXI.out] at hy
              obtain rfl := Option.some.inj hy
              exact hask_no (fun y W h8 h9 => HJ2.out y W (by rw [← HNW.out]; exact h8) h9)
          go_wp2
          go_roundw
          case rel => exact ⟨i + 1, by go_num, by omega, HB2, HJX⟩
          case measure => simp [intOf]; omega
    · obtain rfl : i = N := by omega
      have HR : Hid (R = none) := HNO.out HJ.out
      have HMW : Hid (EntMine wr (w.heap.size + 1) zeroE) := HM0.out.past HB.out
      have HBD : Hid (Below w.heap.size w wr) := HBW.out.trans (HB.out.mono HBW.out.size)
      go_wp2_with (have hgo := HMW.out; clear hgo; refine wpList_store_ent (.tmp 4) (by rfl) _ (by rfl) (w.heap.size + 1) zeroE zeroE (by rfl) (by rfl) HMW.out ?_; intro u2 hu; have HM2 : Hid (EntMine u2 (w.heap.size + 1) zeroE) := hu ▸ HMW.out.store; have HBU : Hid (Below w.heap.size w u2) := hu ▸ below_cells (by omega) HBD.out; clear hu HMW)
      refine bodyPost_ret (results_ent rfl _ _ (w.heap.size + 1) zeroE rfl HM2.out.at_) rfl ?_
      exact ⟨by rw [HR.out]; rfl, HBU.out⟩
end Go.Proofs.Ythgkbabikeknlaa

namespace Go.Proofs.Ythgkbabikeknlaa
open Go.RowKit
set_option linter.unusedVariables false

set_option maxHeartbeats 4000000 in
set_option maxRecDepth 4000 in
theorem rHolder_any (B q : Nat) (M : List EntM) (k : List Int) (hk : Ky k) (w : World) (h : TabR w B q M) :
    Calls Try.prog 24 #[.pointer (some ⟨q, 0, none⟩), kv k] w fun e w' => e = .returned (.tuple #[.int .i64 (orE (holdM M k)).e.id, .bool (holdM M k).isSome]) ∧ Below w.heap.size w w' := by
  obtain ⟨V0, hV0⟩ : ∃ V0, V0 = w.alloc (.cells (kcs k) 39) := ⟨_, rfl⟩
  have HBW : Hid (Below w.heap.size w V0) := by rw [hV0]; exact (Below.refl _ _).alloc (Nat.le_refl _) _
  have HK0 : Hid (KeyAt V0 w.heap.size 0 k) := by rw [hV0]; exact KeyAt.made w 39 k hk
  have HV0 : Hid (w.alloc (.cells (kcs k) 39) = V0) := hV0.symm
  have KY : Hid (Ky k) := hk
  obtain ⟨X, hX⟩ : ∃ X, X = orE (holdM M k) := ⟨_, rfl⟩
  obtain ⟨ok, hok⟩ : ∃ x, x = (holdM M k).isSome := ⟨_, rfl⟩
  have CH : Hid (Calls Try.prog 44 #[.pointer (some ⟨q, 0, none⟩), kv k] V0 fun e w' => e = .returned (.tuple #[ev X, .bool ok]) ∧ Below V0.heap.size V0 w') := by rw [hX, hok]; exact rholder_any B q M k hk V0 (h.past HBW.out)
  rw [← hX, ← hok]
  obtain ⟨xi, hxi⟩ : ∃ z, z = X.e.id := ⟨_, rfl⟩
  have HX0 : Hid (∀ u b, EntMine u b X → u.cell? ⟨b, 0, none⟩ = some (.int .i64 xi)) := fun u b hm => by rw [hxi]; exact hm.at_.cells.1
  rw [← hxi]
  clear h hk hV0 hX hok hxi
  go_enter Try.func24, Try.ntmps24
  go_wp2_with (first | ((with_reducible show wpList _ _ _ (Oper.mk (some 10) _ _ _ _ _ :: _) _ _); rw [HV0.out]; refine wpList_load_keyD 10 (by rfl) (by rfl) _ (by rfl) w.heap.size 0 (by rfl) k KY.out HK0.out ?_) | (go_at_call 44; refine CH.out.mono ?_; rintro e w2 ⟨rfl, hb2⟩; have HB2 : Hid (Below w.heap.size w w2) := HBW.out.trans (hb2.mono HBW.out.size); have hmi := EntMine.made w2 57 zeroE; rw [zeroE_cells] at hmi; have HMI : Hid _ := hmi; clear hmi hb2) | (have hgo := HMI.out; clear hgo; refine wpList_store_ent (.tmp 6) (by rfl) _ (by rfl) w2.heap.size zeroE X (by rfl) (by rfl) HMI.out ?_; intro u3 hu; have HM3 : Hid (EntMine u3 w2.heap.size X) := hu ▸ HMI.out.store; have HB3 : Hid (Below w.heap.size w u3) := hu ▸ below_cells HB2.out.size (HB2.out.alloc HB2.out.size _); have z0 := HX0.out _ _ HM3.out; clear hu HMI))
  go_ret2
  exact ⟨rfl, HB3.out⟩
/-- Whom a reader waits for, in memory's words. -/
theorem blocks_code (M : List EntM) (k : List Int) (t n : Int) : blocksT (ents M) k t n = if (holdM M k).isSome = true then (if 0 < cmpS (orE (holdM M k)).e.t (orE (holdM M k)).e.n t n then none else some (orE (holdM M k)).e.id) else none := by
  unfold blocksT
  rw [← holdM_e]
  cases holdM M k <;> rfl
set_option maxHeartbeats 4000000 in
set_option maxRecDepth 4000 in
theorem rblocks_any (B q : Nat) (M : List EntM) (k : List Int) (hk : Ky k) (t n : Int) (w : World) (h : TabR w B q M) :
    Calls Try.prog 26 #[.pointer (some ⟨q, 0, none⟩), kv k, .agg #[.int .i64 t, .int .u8 n]] w fun e w' => e = .returned (.tuple #[.int .i64 ((blocksT (ents M) k t n).getD 0), .bool (blocksT (ents M) k t n).isSome]) ∧ Below w.heap.size w w' := by
  obtain ⟨w1, hw1⟩ : ∃ u, u = (w.alloc (.cells (kcs k) 39)).alloc (.cells #[.int .i64 t, .int .u8 n] 28) := ⟨_, rfl⟩
  have hk1 : KeyAt w1 w.heap.size 0 k := by rw [hw1]; exact (KeyAt.made w 39 k hk).past ((Below.refl _ _).alloc (Nat.le_refl _) _)
  have HB1 : Hid (Below w.heap.size w w1) := by rw [hw1]; exact ((Below.refl _ _).alloc (Nat.le_refl _) _).alloc (by simp) _
  have FT0 : w1.cell? ⟨w.heap.size + 1, 0, none⟩ = some (.int .i64 t) ∧ w1.cell? ⟨w.heap.size + 1, 1, none⟩ = some (.int .u8 n) := by
    have e : ∀ o, w1.cell? ⟨w.heap.size + 1, o, none⟩ = (#[.int .i64 t, .int .u8 n] : Array Value)[o]? := fun o => by
      have := World.cell?_alloc_new (w.alloc (.cells (kcs k) 39)) #[.int .i64 t, .int .u8 n] 28 o
      rw [World.size_alloc] at this
      rw [hw1, this]
    exact ⟨e 0, e 1⟩
  have FT : Hid (∀ u, Below w1.heap.size w1 u → u.cell? ⟨w.heap.size + 1, 0, none⟩ = some (.int .i64 t) ∧ u.cell? ⟨w.heap.size + 1, 1, none⟩ = some (.int .u8 n)) := fun u hb => ⟨(hb.cell (p := ⟨w.heap.size + 1, 0, none⟩) (cell_lt FT0.1)).trans FT0.1, (hb.cell (p := ⟨w.heap.size + 1, 1, none⟩) (cell_lt FT0.1)).trans FT0.2⟩
  have FK : Hid (KeyAt w1 w.heap.size 0 k) := hk1
  have KY : Hid (Ky k) := hk
  have HW1 : Hid ((w.alloc (.cells (kcs k) 39)).alloc (.cells #[.int .i64 t, .int .u8 n] 28) = w1) := hw1.symm
  have hcode := blocks_code M k t n
  obtain ⟨R, hR⟩ : ∃ R, R = blocksT (ents M) k t n := ⟨_, rfl⟩
  rw [← hR] at hcode ⊢
  obtain ⟨X, hX⟩ : ∃ X, X = orE (holdM M k) := ⟨_, rfl⟩
  obtain ⟨ok, hok⟩ : ∃ x, x = (holdM M k).isSome := ⟨_, rfl⟩
  have CH : Hid (Calls Try.prog 44 #[.pointer (some ⟨q, 0, none⟩), kv k] w1 fun e w' => e = .returned (.tuple #[ev X, .bool ok]) ∧ Below w1.heap.size w1 w') := by rw [hX, hok]; exact rholder_any B q M k hk w1 (h.past HB1.out)
  rw [← hX, ← hok] at hcode
  obtain ⟨xi, hxi⟩ : ∃ z, z = X.e.id := ⟨_, rfl⟩
  obtain ⟨xt, hxt⟩ : ∃ z, z = X.e.t := ⟨_, rfl⟩
  obtain ⟨xn, hxn⟩ : ∃ z, z = X.e.n := ⟨_, rfl⟩
  obtain ⟨c, hc⟩ : ∃ c, c = cmpS xt xn t n := ⟨_, rfl⟩
  have HX0 : Hid (∀ u b, EntMine u b X → u.cell? ⟨b, 0, none⟩ = some (.int .i64 xi) ∧ u.cell? ⟨b, 3, none⟩ = some (.int .i64 xt) ∧ u.cell? ⟨b, 4, none⟩ = some (.int .u8 xn)) := fun u b hm => by
    have hcs := hm.at_.cells
    rw [hxi, hxt, hxn]
    simp only [Nat.zero_add] at hcs
    exact ⟨hcs.1, hcs.2.2.2.1, hcs.2.2.2.2.1⟩
  have CC : Hid (∀ u, Calls Try.prog 41 #[.agg #[.int .i64 xt, .int .u8 xn], .agg #[.int .i64 t, .int .u8 n]] u fun e w' => e = .returned (.int .i64 c) ∧ Below u.heap.size u w') := fun u => by rw [hc]; exact rcmp6_any xt xn t n u
  rw [← hxt, ← hxn, ← hxi, ← hc] at hcode
  clear h hk hw1 hk1 FT0 hX hok hxi hxt hxn hR hc
  cases ok with
  | false =>
    have HR : Hid (R = none) := hcode
    clear hcode
    go_enter Try.func26, Try.ntmps26
    go_wp2_with (first | ((with_reducible show wpList _ _ _ (Oper.mk (some 12) _ _ _ _ _ :: _) _ _); rw [HW1.out]; refine wpList_load_keyD 12 (by rfl) (by rfl) _ (by rfl) w.heap.size 0 (by rfl) k KY.out FK.out ?_) | (go_at_call 44; refine CH.out.mono ?_; rintro e w2 ⟨rfl, hb2⟩; have HB2 : Hid (Below w.heap.size w w2) := HB1.out.trans (hb2.mono HB1.out.size); have hmi := EntMine.made w2 57 zeroE; rw [zeroE_cells] at hmi; have HMI : Hid _ := hmi; clear hmi hb2) | (have hgo := HMI.out; clear hgo; refine wpList_store_ent (.tmp 8) (by rfl) _ (by rfl) w2.heap.size zeroE X (by rfl) (by rfl) HMI.out ?_; intro u3 hu; have HB3 : Hid (Below w.heap.size w u3) := hu ▸ below_cells HB2.out.size (HB2.out.alloc HB2.out.size _); clear hu HMI))
    go_ret2
    exact ⟨by rw [HR.out]; rfl, HB3.out⟩
  | true =>
    by_cases hc0 : 0 < c
    · have bc : decide (0 < c) = true := decide_eq_true hc0
      have HR : Hid (R = none) := by rw [if_pos rfl, if_pos hc0] at hcode; exact hcode
      clear hcode hc0
      go_enter Try.func26, Try.ntmps26
      go_wp2_with (first | ((with_reducible show wpList _ _ _ (Oper.mk (some 12) _ _ _ _ _ :: _) _ _); rw [HW1.out]; refine wpList_load_keyD 12 (by rfl) (by rfl) _ (by rfl) w.heap.size 0 (by rfl) k KY.out FK.out ?_) | (go_at_call 44; refine CH.out.mono ?_; rintro e w2 ⟨rfl, hb2⟩; have B2 : Hid (Below w1.heap.size w1 w2) := hb2; have HB2 : Hid (Below w.heap.size w w2) := HB1.out.trans (hb2.mono HB1.out.size); have hmi := EntMine.made w2 57 zeroE; rw [zeroE_cells] at hmi; have HMI : Hid _ := hmi; clear hmi hb2) | (have hgo := HMI.out; clear hgo; refine wpList_store_ent (.tmp 8) (by rfl) _ (by rfl) w2.heap.size zeroE X (by rfl) (by rfl) HMI.out ?_; intro u3 hu; have HM3 : Hid (EntMine u3 w2.heap.size X) := hu ▸ HMI.out.store; have B3 : Hid (Below w1.heap.size w1 u3) := hu ▸ below_cells B2.out.size (B2.out.alloc B2.out.size _); have HB3 : Hid (Below w.heap.size w u3) := HB1.out.trans (B3.out.mono HB1.out.size); obtain ⟨z0, z1, z2⟩ := HX0.out _ _ HM3.out; obtain ⟨t0, t1⟩ := FT.out _ B3.out; clear hu HMI) | (go_at_call 41; refine (CC.out _).mono ?_; rintro e u4 ⟨rfl, hb4⟩; have HM4 : Hid (EntMine u4 w2.heap.size X) := HM3.out.past hb4; have HB4 : Hid (Below w.heap.size w u4) := HB3.out.trans (hb4.mono HB3.out.size); clear z0 z1 z2 t0 t1; obtain ⟨z0, z1, z2⟩ := HX0.out _ _ HM4.out; clear hb4))
      go_ret2
      exact ⟨by rw [HR.out]; rfl, HB4.out⟩
    · have bc : decide (0 < c) = false := decide_eq_false hc0
      have HR : Hid (R = some xi) := by rw [if_pos rfl, if_neg hc0] at hcode; exact hcode
      clear hcode hc0
      go_enter Try.func26, Try.ntmps26
      go_wp2_with (first | ((with_reducible show wpList _ _ _ (Oper.mk (some 12) _ _ _ _ _ :: _) _ _); rw [HW1.out]; refine wpList_load_keyD 12 (by rfl) (by rfl) _ (by rfl) w.heap.size 0 (by rfl) k KY.out FK.out ?_) | (go_at_call 44; refine CH.out.mono ?_; rintro e w2 ⟨rfl, hb2⟩; have B2 : Hid (Below w1.heap.size w1 w2) := hb2; have HB2 : Hid (Below w.heap.size w w2) := HB1.out.trans (hb2.mono HB1.out.size); have hmi := EntMine.made w2 57 zeroE; rw [zeroE_cells] at hmi; have HMI : Hid _ := hmi; clear hmi hb2) | (have hgo := HMI.out; clear hgo; refine wpList_store_ent (.tmp 8) (by rfl) _ (by rfl) w2.heap.size zeroE X (by rfl) (by rfl) HMI.out ?_; intro u3 hu; have HM3 : Hid (EntMine u3 w2.heap.size X) := hu ▸ HMI.out.store; have B3 : Hid (Below w1.heap.size w1 u3) := hu ▸ below_cells B2.out.size (B2.out.alloc B2.out.size _); have HB3 : Hid (Below w.heap.size w u3) := HB1.out.trans (B3.out.mono HB1.out.size); obtain ⟨z0, z1, z2⟩ := HX0.out _ _ HM3.out; obtain ⟨t0, t1⟩ := FT.out _ B3.out; clear hu HMI) | (go_at_call 41; refine (CC.out _).mono ?_; rintro e u4 ⟨rfl, hb4⟩; have HM4 : Hid (EntMine u4 w2.heap.size X) := HM3.out.past hb4; have HB4 : Hid (Below w.heap.size w u4) := HB3.out.trans (hb4.mono HB3.out.size); clear z0 z1 z2 t0 t1; obtain ⟨z0, z1, z2⟩ := HX0.out _ _ HM4.out; clear hb4))
      go_ret2
      exact ⟨by rw [HR.out]; rfl, HB4.out⟩
theorem info_st : (Try.prog.info? 28).map (·.size) = some 2 := by kernel_rfl
/-- A stamp in memory of the call's own. -/
structure StMine (w : World) (b : Nat) (t n : Int) : Prop where
  c0 : w.cell? ⟨b, 0, none⟩ = some (.int .i64 t)
  c1 : w.cell? ⟨b, 1, none⟩ = some (.int .u8 n)
  free : ∀ i, i < 2 → w.frozen? ⟨b, 0 + i, none⟩ = false
theorem StMine.made (w : World) (T : TypeId) (t n : Int) : StMine (w.alloc (.cells #[.int .i64 t, .int .u8 n] T)) w.heap.size t n :=
  ⟨by rw [World.cell?_alloc_new]; rfl, by rw [World.cell?_alloc_new]; rfl, fun i hi => World.frozen?_alloc_new _ _ _ _⟩
theorem StMine.past {w w' : World} {b : Nat} {t n : Int} (h : StMine w b t n) (hb : Below w.heap.size w w') : StMine w' b t n :=
  have hl := cell_lt h.c0
  ⟨(hb.cell (p := ⟨b, 0, none⟩) hl).trans h.c0, (hb.cell (p := ⟨b, 1, none⟩) hl).trans h.c1, fun i hi => (hb.frozen (p := ⟨b, 0 + i, none⟩) hl).trans (h.free i hi)⟩
theorem StMine.there {w : World} {b : Nat} {t n : Int} (h : StMine w b t n) : w.there b 0 2 := fun j hj => by
  refine ⟨?_, h.free j hj⟩
  have : j = 0 ∨ j = 1 := by omega
  rcases this with rfl | rfl
  · rw [Nat.zero_add, h.c0]; rfl
  · rw [Nat.zero_add, h.c1]; rfl
theorem StMine.store {w : World} {b : Nat} {t n t' n' : Int} (h : StMine w b t n) : StMine (w.setCells b 0 [.int .i64 t', .int .u8 n']) b t' n' := by
  have hr := World.rangeAt_setCells_same w b 0 [.int .i64 t', .int .u8 n'] h.there
  exact ⟨hr 0 _ rfl, hr 1 _ rfl, fun i hi => by rw [World.frozen?_setCells]; exact h.free i hi⟩
theorem wpList_store_st (d : Operand) {ops : Array Oper} {rest : List Oper} {op : Oper} {a : Act} {w : World} {Q : Exit → Act → World → Prop} (hgd : op.guard = none) (y : Operand) (ho : op.op = .store 28 d y)
    (b : Nat) (t n t' n' : Int) (hx : a.eval d = .pointer (some ⟨b, 0, none⟩)) (hy : a.eval y = .agg #[.int .i64 t', .int .u8 n']) (hat : StMine w b t n)
    (h : ∀ u, u = w.setCells b 0 [.int .i64 t', .int .u8 n'] → wpList Try.prog ops Q rest (a.put op.dst undef) u) : wpList Try.prog ops Q (op :: rest) a w := by
  refine wpList_store_mid hgd 28 d y ho b 0 #[.int .i64 t', .int .u8 n'] hx hy hat.there (by rw [info_st]; rfl) (all_oneCell_toArray (fun u hu => by simp at hu; rcases hu with rfl | rfl <;> rfl)) ?_
  exact h _ rfl
theorem results_st {fn : Func} {c tt : Tmp} (h : fn.results = #[.cell c 28, .tmp tt]) (tmps : Array Value) (w : World) (b : Nat) (t n : Int) (hp : tmps.getD c undef = .pointer (some ⟨b, 0, none⟩)) (hat : StMine w b t n) :
    (results fn tmps).run Try.prog w = .ok (.tuple #[.agg #[.int .i64 t, .int .u8 n], tmps.getD tt undef]) w := by
  have hl := run_loadVar_mid (P := Try.prog) w b 0 28 [.int .i64 t, .int .u8 n] _ (fun j v hv => by
    have : j = 0 ∨ j = 1 := by
      have := (List.getElem?_eq_some_iff.1 hv).1
      simp at this; omega
    rcases this with rfl | rfl
    · injection hv with hv; rw [← hv]; exact hat.c0
    · injection hv with hv; rw [← hv]; exact hat.c1) Try.underlying28 rfl (by rw [info_st]; rfl)
  unfold results
  rw [h]
  simp only [List.mapM_toArray, List.mapM_cons, List.mapM_nil, hp]
  simp [asAddr, hl]
def lsT (o : Option (Int × Int)) : Int := match o with | none => 0 | some p => p.1
def lsN (o : Option (Int × Int)) : Int := match o with | none => 0 | some p => p.2
/-- What Least's rounds hold. -/
structure LsB (w u : World) (t n : Int) : Prop where
  r : StMine u w.heap.size 0 0
  b : StMine u (w.heap.size + 1) t n
  below : Below w.heap.size w u
theorem LsB.made (w : World) (T : TypeId) : LsB w ((w.alloc (.cells #[.int .i64 0, .int .u8 0] T)).alloc (.cells #[.int .i64 0, .int .u8 0] T)) 0 0 := by
  obtain ⟨u1, h1⟩ : ∃ u, u = w.alloc (.cells #[.int .i64 0, .int .u8 0] T) := ⟨_, rfl⟩
  have e1 : u1.heap.size = w.heap.size + 1 := by rw [h1]; simp
  have r1 : StMine u1 w.heap.size 0 0 := by rw [h1]; exact StMine.made w T 0 0
  have b1 : Below w.heap.size w u1 := by rw [h1]; exact (Below.refl _ _).alloc (Nat.le_refl _) _
  rw [← h1]
  have b2 : Below u1.heap.size u1 (u1.alloc (.cells #[.int .i64 0, .int .u8 0] T)) := (Below.refl _ _).alloc (Nat.le_refl _) _
  have m2 := StMine.made u1 T 0 0
  rw [e1] at m2
  exact ⟨r1.past b2, m2, b1.trans (b2.mono b1.size)⟩
theorem LsB.past {w u u' : World} {t n : Int} (h : LsB w u t n) (hb : Below u.heap.size u u') : LsB w u' t n := ⟨h.r.past hb, h.b.past hb, h.below.trans (hb.mono h.below.size)⟩
theorem cells_else {w : World} {b c : Nat} (hne : c ≠ b) : ∀ (vs : List Value) (o : Nat) (w : World), (w.setCells b o vs).heap[c]? = w.heap[c]?
  | [], o, w => rfl
  | v :: r, o, w => by
    show ((w.setCell ⟨b, o, none⟩ v).setCells b (o + 1) r).heap[c]? = _
    rw [cells_else (w := w) hne r (o + 1) (w.setCell ⟨b, o, none⟩ v)]
    exact Below.heap_setCell _ ⟨b, o, none⟩ _ c hne
theorem StMine.else_ {w : World} {b c : Nat} {t n : Int} (h : StMine w c t n) (hne : c ≠ b) (vs : List Value) : StMine (w.setCells b 0 vs) c t n :=
  have hk := cells_else (w := w) hne vs 0 w
  ⟨(cell_kept hk 0).trans h.c0, (cell_kept hk 1).trans h.c1, fun i hi => by rw [World.frozen?_setCells]; exact h.free i hi⟩
theorem LsB.store {w u : World} {t n t' n' : Int} (h : LsB w u t n) : LsB w (u.setCells (w.heap.size + 1) 0 [.int .i64 t', .int .u8 n']) t' n' :=
  ⟨h.r.else_ (by omega) _, h.b.store, below_cells (by omega) h.below⟩
theorem least_next {M : List EntM} {i : Nat} {x : EntM} (h : M[i]? = some x) : leastT (ents (M.take (i + 1))) = leastStep (leastT (ents (M.take i))) x.e := by
  unfold leastT ents
  rw [List.take_add_one, h, List.map_append, List.foldl_append]
  rfl
set_option maxHeartbeats 8000000 in
set_option maxRecDepth 8000 in
theorem rleast_any (B q : Nat) (M : List EntM) (w : World) (h : TabR w B q M) :
    Calls Try.prog 27 #[.pointer (some ⟨q, 0, none⟩)] w fun e w' => e = .returned (.tuple #[.agg #[.int .i64 (lsT (leastT (ents M))), .int .u8 (lsN (leastT (ents M)))], .bool (leastT (ents M)).isSome]) ∧ Below w.heap.size w w' := by
  obtain ⟨V0, hV0⟩ : ∃ V0, V0 = (w.alloc (.cells #[.int .i64 0, .int .u8 0] 28)).alloc (.cells #[.int .i64 0, .int .u8 0] 28) := ⟨_, rfl⟩
  have H0 : Hid (LsB w V0 0 0) := by rw [hV0]; exact LsB.made w 28
  have HV0 : Hid ((w.alloc (.cells #[.int .i64 0, .int .u8 0] 28)).alloc (.cells #[.int .i64 0, .int .u8 0] 28) = V0) := hV0.symm
  obtain ⟨N, hN⟩ : ∃ N, N = M.length := ⟨_, rfl⟩
  obtain ⟨a0, c0, hcap, hcell, hs⟩ := h.open
  have hfew := h.few
  rw [← hN] at hcap hcell hfew
  have HCE : Hid (∀ v, Below w.heap.size w v → v.cell? ⟨q, 0, none⟩ = some (.slice a0 N c0)) := hcell
  have HN : Hid (M.length = N) := hN.symm
  have HS : Hid (∀ i x, M[i]? = some x → ∃ g, a0 = some ⟨g, 0, none⟩ ∧ Hid (∀ v, Below w.heap.size w v → EntAt v g (i * 6) x)) := fun i x hx => by
    rcases hs with e | ⟨g, e1, e4⟩
    · rw [e] at hx; simp at hx
    · exact ⟨g, e1, fun v hv => e4 v hv i x hx⟩
  clear h hs hcell hN hV0
  go_enter Try.func27, Try.ntmps27
  go_wp2
  rw [HV0.out]
  go_loopw [5, 6] (fun ov iv wr => ∃ (i : Nat) (ok : Bool) (bt bn : Int), iv = .int .i64 i ∧ ov = .bool ok ∧ i ≤ N ∧ Hid (LsB w wr bt bn) ∧ Hid (leastT (ents (M.take i)) = if ok = true then some (bt, bn) else none) ∧ Hid (ok = false → bt = 0 ∧ bn = 0)) (fun _ iv _ => N - (intOf iv).toNat)
  case atStart => exact ⟨0, false, 0, 0, rfl, rfl, Nat.zero_le _, H0, rfl, fun _ => ⟨rfl, rfl⟩⟩
  case round =>
    obtain ⟨i, ok, bt, bn, rfl, rfl, hi, HL, HE, HZ⟩ := hrel
    have hi0 : (0 : Int) ≤ (i : Int) := by omega
    have q0 := HCE.out wr HL.out.below
    by_cases hlt : i < N
    · have h1 : (i : Int) < (N : Int) := by omega
      obtain ⟨x, hx⟩ : ∃ x, M[i]? = some x := ⟨_, List.getElem?_eq_getElem (by rw [HN.out]; exact hlt)⟩
      obtain ⟨g, hag, HG⟩ := HS.out i x hx
      obtain ⟨xt, hxt⟩ : ∃ z, z = x.e.t := ⟨_, rfl⟩
      obtain ⟨xn, hxn⟩ : ∃ z, z = x.e.n := ⟨_, rfl⟩
      have FX : Hid (∀ u, Below w.heap.size w u → u.cell? ⟨q, 0, none⟩ = some (.slice (some ⟨g, 0, none⟩) N c0) ∧ u.cell? ⟨g, i * 6 + 3, none⟩ = some (.int .i64 xt) ∧ u.cell? ⟨g, i * 6 + 4, none⟩ = some (.int .u8 xn)) := fun u hb => by
        have hc := (HG.out u hb).cells
        rw [hxt, hxn, ← hag]
        exact ⟨HCE.out u hb, hc.2.2.2.1, hc.2.2.2.2.1⟩
      have HNX : Hid (leastT (ents (M.take (i + 1))) = leastStep (if ok = true then some (bt, bn) else none) x.e) := by show _ = _; rw [least_next hx, HE.out]
      have HXE : Hid (xt = x.e.t ∧ xn = x.e.n) := ⟨hxt, hxn⟩
      rw [hag] at q0
      clear hx hxt hxn hag
      cases ok with
      | false =>
        have HN2 : Hid (leastT (ents (M.take (i + 1))) = if true = true then some (xt, xn) else none) := by show _ = _; rw [HNX.out, HXE.out.1, HXE.out.2]; rfl
        clear HNX
        go_wp2
        refine wp_region_noPanic ?_
        refine wp_region_held_drew (S := fun u => Below wr.heap.size wr u) (by kernel_rfl) ?_ (fun hHeld => ?_)
        · exact (Below.refl _ _).drew
        refine wpAnyH_take (i := 0) (v := ?_) rfl (by kernel_rfl) (by kernel_rfl) (by kernel_rfl) (fun _ _ _ h => h) (Or.inl ⟨by rfl, ?_⟩) hHeld ?_
        rotate_left
        · intro u hSu
          (go_simp) <;> (with_reducible rfl)
        change wpAnyH _ _ _ _ _ _ _ (Act.put _ (some 17) _) _
        simp only [Act.put, List.setIfInBounds_toArray, List.set_cons_zero, List.set_cons_succ]
        refine wpAnyH_take (i := 1) (v := ?_) rfl (by kernel_rfl) (by kernel_rfl) (by kernel_rfl) (fun _ _ _ h => h) (Or.inl ⟨by rfl, ?_⟩) hHeld ?_
        rotate_left
        · intro u hSu
          (go_simp) <;> (with_reducible rfl)
        change wpAnyH _ _ _ _ _ _ _ (Act.put _ (some 18) _) _
        simp only [Act.put, List.setIfInBounds_toArray, List.set_cons_zero, List.set_cons_succ]
        refine wpAnyH_take (i := 2) (v := ?_) rfl (by kernel_rfl) (by kernel_rfl) (by kernel_rfl) (fun _ _ _ h => h) (Or.inl ⟨by rfl, ?_⟩) hHeld ?_
        rotate_left
        · intro u hSu
          (go_simp) <;> (with_reducible rfl)
        change wpAnyH _ _ _ _ _ _ _ (Act.put _ (some 19) _) _
        simp only [Act.put, List.setIfInBounds_toArray, List.set_cons_zero, List.set_cons_succ]
        refine wpAnyH_take (i := 3) (v := undef) rfl (by kernel_rfl) (by kernel_rfl) (by kernel_rfl) (fun _ _ _ h => h) (Or.inr ⟨by rfl, rfl⟩) hHeld ?_
        change wpAnyH _ _ _ _ _ _ _ (Act.put _ (some 20) _) _
        simp only [Act.put, List.setIfInBounds_toArray, List.set_cons_zero, List.set_cons_succ]
        refine wpAnyH_take (i := 4) (v := undef) rfl (by kernel_rfl) (by kernel_rfl) (by kernel_rfl) (fun _ _ _ h => h) (Or.inr ⟨by rfl, rfl⟩) hHeld ?_
        change wpAnyH _ _ _ _ _ _ _ (Act.put _ (some 21) _) _
        simp only [Act.put, List.setIfInBounds_toArray, List.set_cons_zero, List.set_cons_succ]
        refine wpAnyH_take (i := 5) (v := undef) rfl (by kernel_rfl) (by kernel_rfl) (by kernel_rfl) (fun _ _ _ h => h) (Or.inr ⟨by rfl, rfl⟩) hHeld ?_
        change wpAnyH _ _ _ _ _ _ _ (Act.put _ (some 22) _) _
        simp only [Act.put, List.setIfInBounds_toArray, List.set_cons_zero, List.set_cons_succ]
        refine wpAnyH_take (i := 6) (v := undef) rfl (by kernel_rfl) (by kernel_rfl) (by kernel_rfl) (fun _ _ _ h => h) (Or.inr ⟨by rfl, rfl⟩) hHeld ?_
        change wpAnyH _ _ _ _ _ _ _ (Act.put _ (some 23) _) _
        simp only [Act.put, List.setIfInBounds_toArray, List.set_cons_zero, List.set_cons_succ]
        refine wpAnyH_take (i := 7) (v := undef) rfl (by kernel_rfl) (by kernel_rfl) (by kernel_rfl) (fun _ _ _ h => h) (Or.inr ⟨by rfl, rfl⟩) hHeld ?_
        change wpAnyH _ _ _ _ _ _ _ (Act.put _ (some 24) _) _
        simp only [Act.put, List.setIfInBounds_toArray, List.set_cons_zero, List.set_cons_succ]
        refine wpAnyH_take (i := 8) (v := undef) rfl (by kernel_rfl) (by kernel_rfl) (by kernel_rfl) (fun _ _ _ h => h) (Or.inr ⟨by rfl, rfl⟩) hHeld ?_
        change wpAnyH _ _ _ _ _ _ _ (Act.put _ (some 25) _) _
        simp only [Act.put, List.setIfInBounds_toArray, List.set_cons_zero, List.set_cons_succ]
        refine wpAnyH_take (i := 9) (v := undef) rfl (by kernel_rfl) (by kernel_rfl) (by kernel_rfl) (fun _ _ _ h => h) (Or.inr ⟨by rfl, rfl⟩) hHeld ?_
        change wpAnyH _ _ _ _ _ _ _ (Act.put _ (some 26) _) _
        simp only [Act.put, List.setIfInBounds_toArray, List.set_cons_zero, List.set_cons_succ]
        refine wpAnyH_take (i := 10) (v := undef) rfl (by kernel_rfl) (by kernel_rfl) (by kernel_rfl) (fun _ _ _ h => h) (Or.inr ⟨by rfl, rfl⟩) hHeld ?_
        change wpAnyH _ _ _ _ _ _ _ (Act.put _ (some 27) _) _
        simp only [Act.put, List.setIfInBounds_toArray, List.set_cons_zero, List.set_cons_succ]
        refine wpAnyH_take (i := 11) (v := undef) rfl (by kernel_rfl) (by kernel_rfl) (by kernel_rfl) (fun _ _ _ h => h) (Or.inr ⟨by rfl, rfl⟩) hHeld ?_
        change wpAnyH _ _ _ _ _ _ _ (Act.put _ (some 28) _) _
        simp only [Act.put, List.setIfInBounds_toArray, List.set_cons_zero, List.set_cons_succ]
        refine wpAnyH_take (i := 12) (v := undef) rfl (by kernel_rfl) (by kernel_rfl) (by kernel_rfl) (fun _ _ _ h => h) (Or.inr ⟨by rfl, rfl⟩) hHeld ?_
        change wpAnyH _ _ _ _ _ _ _ (Act.put _ (some 29) _) _
        simp only [Act.put, List.setIfInBounds_toArray, List.set_cons_zero, List.set_cons_succ]
        refine wpAnyH_take (i := 13) (v := undef) rfl (by kernel_rfl) (by kernel_rfl) (by kernel_rfl) (fun _ _ _ h => h) (Or.inr ⟨by rfl, rfl⟩) hHeld ?_
        change wpAnyH _ _ _ _ _ _ _ (Act.put _ (some 30) _) _
        simp only [Act.put, List.setIfInBounds_toArray, List.set_cons_zero, List.set_cons_succ]
        refine wpAnyH_take (i := 14) (v := ?_) rfl (by kernel_rfl) (by kernel_rfl) (by kernel_rfl) (fun _ _ _ h => h) (Or.inl ⟨by rfl, ?_⟩) hHeld ?_
        rotate_left
        · intro u hSu
          (go_simp) <;> (with_reducible rfl)
        change wpAnyH _ _ _ _ _ _ _ (Act.put _ (some 31) _) _
        simp only [Act.put, List.setIfInBounds_toArray, List.set_cons_zero, List.set_cons_succ]
        refine wpAnyH_done (by kernel_rfl) ?_ _
        refine NoPanic.normal ?_
        have HLD : Hid (LsB w wr.drew bt bn) := HL.out.past (Below.refl _ _).drew
        obtain ⟨r0, r1, r2⟩ := FX.out wr.drew HLD.out.below
        go_wp2_with ((with_reducible show wpList _ _ _ (Oper.mk none _ _ _ _ _ :: _) _ _); refine wpList_store_st (.tmp 4) (by rfl) _ (by rfl) (w.heap.size + 1) bt bn xt xn (by rfl) (by rfl) HLD.out.b ?_; intro u2 hu; have HL2 : Hid (LsB w u2 xt xn) := hu ▸ HLD.out.store; clear hu)
        go_roundw
        case rel => exact ⟨i + 1, true, xt, xn, by go_num, rfl, by omega, HL2, HN2, fun h => by cases h⟩
        case measure => simp [intOf]; omega
      | true =>
        obtain ⟨c, hc⟩ : ∃ c, c = cmpS xt xn bt bn := ⟨_, rfl⟩
        have CC : Hid (∀ u, Calls Try.prog 41 #[.agg #[.int .i64 xt, .int .u8 xn], .agg #[.int .i64 bt, .int .u8 bn]] u fun e w' => e = .returned (.int .i64 c) ∧ Below u.heap.size u w') := fun u => by rw [hc]; exact rcmp6_any xt xn bt bn u
        have HN2 : Hid (leastT (ents (M.take (i + 1))) = if c < 0 then some (xt, xn) else some (bt, bn)) := by show _ = _; rw [HNX.out, hc, HXE.out.1, HXE.out.2]; rfl
        have FB : Hid (∀ u, Below wr.heap.size wr u → u.cell? ⟨w.heap.size + 1, 0, none⟩ = some (.int .i64 bt) ∧ u.cell? ⟨w.heap.size + 1, 1, none⟩ = some (.int .u8 bn)) := fun u hb => ⟨(HL.out.b.past hb).c0, (HL.out.b.past hb).c1⟩
        have FR : Hid (∀ u, Below wr.heap.size wr u → u.cell? ⟨q, 0, none⟩ = some (.slice (some ⟨g, 0, none⟩) N c0) ∧ u.cell? ⟨g, i * 6 + 3, none⟩ = some (.int .i64 xt) ∧ u.cell? ⟨g, i * 6 + 4, none⟩ = some (.int .u8 xn)) := fun u hb => FX.out u (HL.out.below.trans (hb.mono HL.out.below.size))
        clear HNX hc
        by_cases hc0 : c < 0
        · have bc : decide (c < 0) = true := decide_eq_true hc0
          have HN3 : Hid (leastT (ents (M.take (i + 1))) = if true = true then some (xt, xn) else none) := by show _ = _; rw [HN2.out, if_pos hc0]; rfl
          go_wp2
          refine wp_region_noPanic ?_
          refine wp_region_held_drew (S := fun u => Below wr.heap.size wr u) (by kernel_rfl) ?_ (fun hHeld => ?_)
          · exact (Below.refl _ _).drew
          refine wpAnyH_take (i := 0) (v := ?_) rfl (by kernel_rfl) (by kernel_rfl) (by kernel_rfl) (fun _ _ _ h => h) (Or.inl ⟨by rfl, ?_⟩) hHeld ?_
          rotate_left
          · intro u hSu
            (go_simp) <;> (with_reducible rfl)
          change wpAnyH _ _ _ _ _ _ _ (Act.put _ (some 17) _) _
          simp only [Act.put, List.setIfInBounds_toArray, List.set_cons_zero, List.set_cons_succ]
          refine wpAnyH_take (i := 1) (v := ?_) rfl (by kernel_rfl) (by kernel_rfl) (by kernel_rfl) (fun _ _ _ h => h) (Or.inl ⟨by rfl, ?_⟩) hHeld ?_
          rotate_left
          · intro u hSu
            (go_simp) <;> (with_reducible rfl)
          change wpAnyH _ _ _ _ _ _ _ (Act.put _ (some 18) _) _
          simp only [Act.put, List.setIfInBounds_toArray, List.set_cons_zero, List.set_cons_succ]
          refine wpAnyH_take (i := 2) (v := ?_) rfl (by kernel_rfl) (by kernel_rfl) (by kernel_rfl) (fun _ _ _ h => h) (Or.inl ⟨by rfl, ?_⟩) hHeld ?_
          rotate_left
          · intro u hSu
            (go_simp) <;> (with_reducible rfl)
          change wpAnyH _ _ _ _ _ _ _ (Act.put _ (some 19) _) _
          simp only [Act.put, List.setIfInBounds_toArray, List.set_cons_zero, List.set_cons_succ]
          refine wpAnyH_take (i := 3) (v := ?_) rfl (by kernel_rfl) (by kernel_rfl) (by kernel_rfl) (fun _ _ _ h => h) (Or.inl ⟨by rfl, ?_⟩) hHeld ?_
          rotate_left
          · intro u hSu
            (go_simp) <;> (with_reducible rfl)
          change wpAnyH _ _ _ _ _ _ _ (Act.put _ (some 20) _) _
          simp only [Act.put, List.setIfInBounds_toArray, List.set_cons_zero, List.set_cons_succ]
          refine wpAnyH_take (i := 4) (v := ?_) rfl (by kernel_rfl) (by kernel_rfl) (by kernel_rfl) (fun _ _ _ h => h) (Or.inl ⟨by rfl, ?_⟩) hHeld ?_
          rotate_left
          · intro u hSu
            (go_simp) <;> (with_reducible rfl)
          change wpAnyH _ _ _ _ _ _ _ (Act.put _ (some 21) _) _
          simp only [Act.put, List.setIfInBounds_toArray, List.set_cons_zero, List.set_cons_succ]
          refine wpAnyH_take (i := 5) (v := ?_) rfl (by kernel_rfl) (by kernel_rfl) (by kernel_rfl) (fun _ _ _ h => h) (Or.inl ⟨by rfl, ?_⟩) hHeld ?_
          rotate_left
          · intro u hSu
            (go_simp) <;> (with_reducible rfl)
          change wpAnyH _ _ _ _ _ _ _ (Act.put _ (some 22) _) _
          simp only [Act.put, List.setIfInBounds_toArray, List.set_cons_zero, List.set_cons_succ]
          refine wpAnyH_take (i := 6) (v := ?_) rfl (by kernel_rfl) (by kernel_rfl) (by kernel_rfl) (fun _ _ _ h => h) (Or.inl ⟨by rfl, ?_⟩) hHeld ?_
          rotate_left
          · intro u hSu
            obtain ⟨r0, r1, r2⟩ := FR.out u hSu
            (go_simp) <;> (with_reducible rfl)
          change wpAnyH _ _ _ _ _ _ _ (Act.put _ (some 23) _) _
          simp only [Act.put, List.setIfInBounds_toArray, List.set_cons_zero, List.set_cons_succ]
          refine wpAnyH_take (i := 7) (v := ?_) rfl (by kernel_rfl) (by kernel_rfl) (by kernel_rfl) (fun _ _ _ h => h) (Or.inl ⟨by rfl, ?_⟩) hHeld ?_
          rotate_left
          · intro u hSu
            (go_simp) <;> (with_reducible rfl)
          change wpAnyH _ _ _ _ _ _ _ (Act.put _ (some 24) _) _
          simp only [Act.put, List.setIfInBounds_toArray, List.set_cons_zero, List.set_cons_succ]
          refine wpAnyH_take (i := 8) (v := ?_) rfl (by kernel_rfl) (by kernel_rfl) (by kernel_rfl) (fun _ _ _ h => h) (Or.inl ⟨by rfl, ?_⟩) hHeld ?_
          rotate_left
          · intro u hSu
            (go_simp) <;> (with_reducible rfl)
          change wpAnyH _ _ _ _ _ _ _ (Act.put _ (some 25) _) _
          simp only [Act.put, List.setIfInBounds_toArray, List.set_cons_zero, List.set_cons_succ]
          refine wpAnyH_take (i := 9) (v := ?_) rfl (by kernel_rfl) (by kernel_rfl) (by kernel_rfl) (fun _ _ _ h => h) (Or.inl ⟨by rfl, ?_⟩) hHeld ?_
          rotate_left
          · intro u hSu
            (go_simp) <;> (with_reducible rfl)
          change wpAnyH _ _ _ _ _ _ _ (Act.put _ (some 26) _) _
          simp only [Act.put, List.setIfInBounds_toArray, List.set_cons_zero, List.set_cons_succ]
          refine wpAnyH_take (i := 10) (v := ?_) rfl (by kernel_rfl) (by kernel_rfl) (by kernel_rfl) (fun _ _ _ h => h) (Or.inl ⟨by rfl, ?_⟩) hHeld ?_
          rotate_left
          · intro u hSu
            obtain ⟨r0, r1, r2⟩ := FR.out u hSu
            (go_simp) <;> (with_reducible rfl)
          change wpAnyH _ _ _ _ _ _ _ (Act.put _ (some 27) _) _
          simp only [Act.put, List.setIfInBounds_toArray, List.set_cons_zero, List.set_cons_succ]
          refine wpAnyH_take (i := 11) (v := ?_) rfl (by kernel_rfl) (by kernel_rfl) (by kernel_rfl) (fun _ _ _ h => h) (Or.inl ⟨by rfl, ?_⟩) hHeld ?_
          rotate_left
          · intro u hSu
            obtain ⟨r1, r2⟩ := FB.out u hSu
            (go_simp) <;> (with_reducible rfl)
          change wpAnyH _ _ _ _ _ _ _ (Act.put _ (some 28) _) _
          simp only [Act.put, List.setIfInBounds_toArray, List.set_cons_zero, List.set_cons_succ]
          refine wpAnyH_ready (rs := [12]) (by kernel_rfl) (by simp) ?_
          refine AllReadyH.cons rfl (fun K hK => ?_) AllReadyH.nil
          go_simp
          go_at_call 41
          refine (CC.out _).mono ?_
          rintro e x1 ⟨rfl, hbx1⟩
          have B1 : Hid (Below wr.heap.size wr x1) := hHeld.trans (hbx1.mono hHeld.size)
          clear hbx1
          refine hK.out _ _ ?_ (fun hHeld2 => ?_)
          · exact B1.out
          clear hK K hHeld
          have hHeld := hHeld2
          clear hHeld2
          refine wpAnyH_take (i := 13) (v := ?_) rfl (by kernel_rfl) (by kernel_rfl) (by kernel_rfl) (fun _ _ _ h => h) (Or.inl ⟨by rfl, ?_⟩) hHeld ?_
          rotate_left
          · intro u hSu
            (go_simp) <;> (with_reducible rfl)
          change wpAnyH _ _ _ _ _ _ _ (Act.put _ (some 30) _) _
          simp only [Act.put, List.setIfInBounds_toArray, List.set_cons_zero, List.set_cons_succ]
          refine wpAnyH_take (i := 14) (v := ?_) rfl (by kernel_rfl) (by kernel_rfl) (by kernel_rfl) (fun _ _ _ h => h) (Or.inl ⟨by rfl, ?_⟩) hHeld ?_
          rotate_left
          · intro u hSu
            (go_simp) <;> (with_reducible rfl)
          change wpAnyH _ _ _ _ _ _ _ (Act.put _ (some 31) _) _
          simp only [Act.put, List.setIfInBounds_toArray, List.set_cons_zero, List.set_cons_succ]
          refine wpAnyH_done (by kernel_rfl) ?_ _
          refine NoPanic.normal ?_
          have HLD : Hid (LsB w x1 bt bn) := HL.out.past B1.out
          obtain ⟨r0, r1, r2⟩ := FX.out x1 HLD.out.below
          go_wp2_with ((with_reducible show wpList _ _ _ (Oper.mk none _ _ _ _ _ :: _) _ _); refine wpList_store_st (.tmp 4) (by rfl) _ (by rfl) (w.heap.size + 1) bt bn xt xn (by rfl) (by rfl) HLD.out.b ?_; intro u2 hu; have HL2 : Hid (LsB w u2 xt xn) := hu ▸ HLD.out.store; clear hu)
          go_roundw
          case rel => exact ⟨i + 1, true, xt, xn, by go_num, rfl, by omega, HL2, HN3, fun h => by cases h⟩
          case measure => simp [intOf]; omega
        · have bc : decide (c < 0) = false := decide_eq_false hc0
          have HN3 : Hid (leastT (ents (M.take (i + 1))) = if true = true then some (bt, bn) else none) := by show _ = _; rw [HN2.out, if_neg hc0]; rfl
          go_wp2
          refine wp_region_noPanic ?_
          refine wp_region_held_drew (S := fun u => Below wr.heap.size wr u) (by kernel_rfl) ?_ (fun hHeld => ?_)
          · exact (Below.refl _ _).drew
          refine wpAnyH_take (i := 0) (v := ?_) rfl (by kernel_rfl) (by kernel_rfl) (by kernel_rfl) (fun _ _ _ h => h) (Or.inl ⟨by rfl, ?_⟩) hHeld ?_
          rotate_left
          · intro u hSu
            (go_simp) <;> (with_reducible rfl)
          change wpAnyH _ _ _ _ _ _ _ (Act.put _ (some 17) _) _
          simp only [Act.put, List.setIfInBounds_toArray, List.set_cons_zero, List.set_cons_succ]
          refine wpAnyH_take (i := 1) (v := ?_) rfl (by kernel_rfl) (by kernel_rfl) (by kernel_rfl) (fun _ _ _ h => h) (Or.inl ⟨by rfl, ?_⟩) hHeld ?_
          rotate_left
          · intro u hSu
            (go_simp) <;> (with_reducible rfl)
          change wpAnyH _ _ _ _ _ _ _ (Act.put _ (some 18) _) _
          simp only [Act.put, List.setIfInBounds_toArray, List.set_cons_zero, List.set_cons_succ]
          refine wpAnyH_take (i := 2) (v := ?_) rfl (by kernel_rfl) (by kernel_rfl) (by kernel_rfl) (fun _ _ _ h => h) (Or.inl ⟨by rfl, ?_⟩) hHeld ?_
          rotate_left
          · intro u hSu
            (go_simp) <;> (with_reducible rfl)
          change wpAnyH _ _ _ _ _ _ _ (Act.put _ (some 19) _) _
          simp only [Act.put, List.setIfInBounds_toArray, List.set_cons_zero, List.set_cons_succ]
          refine wpAnyH_take (i := 3) (v := ?_) rfl (by kernel_rfl) (by kernel_rfl) (by kernel_rfl) (fun _ _ _ h => h) (Or.inl ⟨by rfl, ?_⟩) hHeld ?_
          rotate_left
          · intro u hSu
            (go_simp) <;> (with_reducible rfl)
          change wpAnyH _ _ _ _ _ _ _ (Act.put _ (some 20) _) _
          simp only [Act.put, List.setIfInBounds_toArray, List.set_cons_zero, List.set_cons_succ]
          refine wpAnyH_take (i := 4) (v := ?_) rfl (by kernel_rfl) (by kernel_rfl) (by kernel_rfl) (fun _ _ _ h => h) (Or.inl ⟨by rfl, ?_⟩) hHeld ?_
          rotate_left
          · intro u hSu
            (go_simp) <;> (with_reducible rfl)
          change wpAnyH _ _ _ _ _ _ _ (Act.put _ (some 21) _) _
          simp only [Act.put, List.setIfInBounds_toArray, List.set_cons_zero, List.set_cons_succ]
          refine wpAnyH_take (i := 5) (v := ?_) rfl (by kernel_rfl) (by kernel_rfl) (by kernel_rfl) (fun _ _ _ h => h) (Or.inl ⟨by rfl, ?_⟩) hHeld ?_
          rotate_left
          · intro u hSu
            (go_simp) <;> (with_reducible rfl)
          change wpAnyH _ _ _ _ _ _ _ (Act.put _ (some 22) _) _
          simp only [Act.put, List.setIfInBounds_toArray, List.set_cons_zero, List.set_cons_succ]
          refine wpAnyH_take (i := 6) (v := ?_) rfl (by kernel_rfl) (by kernel_rfl) (by kernel_rfl) (fun _ _ _ h => h) (Or.inl ⟨by rfl, ?_⟩) hHeld ?_
          rotate_left
          · intro u hSu
            obtain ⟨r0, r1, r2⟩ := FR.out u hSu
            (go_simp) <;> (with_reducible rfl)
          change wpAnyH _ _ _ _ _ _ _ (Act.put _ (some 23) _) _
          simp only [Act.put, List.setIfInBounds_toArray, List.set_cons_zero, List.set_cons_succ]
          refine wpAnyH_take (i := 7) (v := ?_) rfl (by kernel_rfl) (by kernel_rfl) (by kernel_rfl) (fun _ _ _ h => h) (Or.inl ⟨by rfl, ?_⟩) hHeld ?_
          rotate_left
          · intro u hSu
            (go_simp) <;> (with_reducible rfl)
          change wpAnyH _ _ _ _ _ _ _ (Act.put _ (some 24) _) _
          simp only [Act.put, List.setIfInBounds_toArray, List.set_cons_zero, List.set_cons_succ]
          refine wpAnyH_take (i := 8) (v := ?_) rfl (by kernel_rfl) (by kernel_rfl) (by kernel_rfl) (fun _ _ _ h => h) (Or.inl ⟨by rfl, ?_⟩) hHeld ?_
          rotate_left
          · intro u hSu
            (go_simp) <;> (with_reducible rfl)
          change wpAnyH _ _ _ _ _ _ _ (Act.put _ (some 25) _) _
          simp only [Act.put, List.setIfInBounds_toArray, List.set_cons_zero, List.set_cons_succ]
          refine wpAnyH_take (i := 9) (v := ?_) rfl (by kernel_rfl) (by kernel_rfl) (by kernel_rfl) (fun _ _ _ h => h) (Or.inl ⟨by rfl, ?_⟩) hHeld ?_
          rotate_left
          · intro u hSu
            (go_simp) <;> (with_reducible rfl)
          change wpAnyH _ _ _ _ _ _ _ (Act.put _ (some 26) _) _
          simp only [Act.put, List.setIfInBounds_toArray, List.set_cons_zero, List.set_cons_succ]
          refine wpAnyH_take (i := 10) (v := ?_) rfl (by kernel_rfl) (by kernel_rfl) (by kernel_rfl) (fun _ _ _ h => h) (Or.inl ⟨by rfl, ?_⟩) hHeld ?_
          rotate_left
          · intro u hSu
            obtain ⟨r0, r1, r2⟩ := FR.out u hSu
            (go_simp) <;> (with_reducible rfl)
          change wpAnyH _ _ _ _ _ _ _ (Act.put _ (some 27) _) _
          simp only [Act.put, List.setIfInBounds_toArray, List.set_cons_zero, List.set_cons_succ]
          refine wpAnyH_take (i := 11) (v := ?_) rfl (by kernel_rfl) (by kernel_rfl) (by kernel_rfl) (fun _ _ _ h => h) (Or.inl ⟨by rfl, ?_⟩) hHeld ?_
          rotate_left
          · intro u hSu
            obtain ⟨r1, r2⟩ := FB.out u hSu
            (go_simp) <;> (with_reducible rfl)
          change wpAnyH _ _ _ _ _ _ _ (Act.put _ (some 28) _) _
          simp only [Act.put, List.setIfInBounds_toArray, List.set_cons_zero, List.set_cons_succ]
          refine wpAnyH_ready (rs := [12]) (by kernel_rfl) (by simp) ?_
          refine AllReadyH.cons rfl (fun K hK => ?_) AllReadyH.nil
          go_simp
          go_at_call 41
          refine (CC.out _).mono ?_
          rintro e x1 ⟨rfl, hbx1⟩
          have B1 : Hid (Below wr.heap.size wr x1) := hHeld.trans (hbx1.mono hHeld.size)
          clear hbx1
          refine hK.out _ _ ?_ (fun hHeld2 => ?_)
          · exact B1.out
          clear hK K hHeld
          have hHeld := hHeld2
          clear hHeld2
          refine wpAnyH_take (i := 13) (v := ?_) rfl (by kernel_rfl) (by kernel_rfl) (by kernel_rfl) (fun _ _ _ h => h) (Or.inl ⟨by rfl, ?_⟩) hHeld ?_
          rotate_left
          · intro u hSu
            (go_simp) <;> (with_reducible rfl)
          change wpAnyH _ _ _ _ _ _ _ (Act.put _ (some 30) _) _
          simp only [Act.put, List.setIfInBounds_toArray, List.set_cons_zero, List.set_cons_succ]
          refine wpAnyH_take (i := 14) (v := ?_) rfl (by kernel_rfl) (by kernel_rfl) (by kernel_rfl) (fun _ _ _ h => h) (Or.inl ⟨by rfl, ?_⟩) hHeld ?_
          rotate_left
          · intro u hSu
            (go_simp) <;> (with_reducible rfl)
          change wpAnyH _ _ _ _ _ _ _ (Act.put _ (some 31) _) _
          simp only [Act.put, List.setIfInBounds_toArray, List.set_cons_zero, List.set_cons_succ]
          refine wpAnyH_done (by kernel_rfl) ?_ _
          refine NoPanic.normal ?_
          go_wp2
          go_roundw
          case rel => exact ⟨i + 1, true, bt, bn, by go_num, rfl, by omega, HL.out.past B1.out, HN3, fun h => by cases h⟩
          case measure => simp [intOf]; omega
    · obtain rfl : i = N := by omega
      have HT : Hid (M.take i = M) := List.take_of_length_le (by rw [HN.out]; exact Nat.le_refl _)
      rw [HT.out] at HE
      obtain ⟨y0, y1⟩ : wr.cell? ⟨w.heap.size + 1, 0, none⟩ = some (.int .i64 bt) ∧ wr.cell? ⟨w.heap.size + 1, 1, none⟩ = some (.int .u8 bn) := ⟨HL.out.b.c0, HL.out.b.c1⟩
      have HAN : Hid (lsT (leastT (ents M)) = bt ∧ lsN (leastT (ents M)) = bn ∧ (leastT (ents M)).isSome = ok) := by
        rw [HE.out]
        cases ok with
        | true => exact ⟨rfl, rfl, rfl⟩
        | false => obtain ⟨rfl, rfl⟩ := HZ.out rfl; exact ⟨rfl, rfl, rfl⟩
      go_wp2_with ((with_reducible show wpList _ _ _ (Oper.mk none _ _ _ _ _ :: _) _ _); refine wpList_store_st (.tmp 2) (by rfl) _ (by rfl) w.heap.size 0 0 bt bn (by rfl) (by rfl) HL.out.r ?_; intro u2 hu; have HM2 : Hid (StMine u2 w.heap.size bt bn) := hu ▸ HL.out.r.store; have HB2 : Hid (Below w.heap.size w u2) := hu ▸ below_cells (Nat.le_refl _) HL.out.below; clear hu)
      refine bodyPost_ret (results_st rfl _ _ w.heap.size bt bn rfl HM2.out) rfl ?_
      exact ⟨by rw [HAN.out.1, HAN.out.2.1, HAN.out.2.2]; rfl, HB2.out⟩
end Go.Proofs.Ythgkbabikeknlaa

namespace Go.Proofs.Ythgkbabikeknlaa
open Go.RowKit
set_option linter.unusedVariables false

theorem entEl : ElT 49 57 6 64 := ElT.mk' (z := ev zeroE) Try.underlying49 (by kernel_rfl) (by kernel_rfl) (by decide) (by decide)
theorem run_build_ent1 (w : World) (x : EntM) : (Instr.buildSlice 49 1 #[(0, ev x)]).run Try.prog w = .ok (.slice (some ⟨w.heap.size, 0, none⟩) 1 1) (w.alloc (.cells (encE x).toArray 57)) := by
  have hf : Instr.fill (fun i => some (i * 6, 6)) (encE zeroE).toArray [(0, ev x)] = some (encE x).toArray := by
    rw [fill_step _ (encE zeroE) 0 0 6 (encE x) rfl rfl (by rw [encE_len]; omega)]
    rfl
  simp [Instr.buildSlice, run_underlying Try.underlying49]
  generalize hz : Array.map _ (Array.range 6) = Z
  have hz2 : Z = (encE zeroE).toArray := by rw [← hz]; kernel_rfl
  rw [hz2, hf]
  simp [newRow]
theorem wpList_build_ent1 (d : Tmp) {ops : Array Oper} {rest : List Oper} {op : Oper} {a : Act} {w : World} {Q : Exit → Act → World → Prop} (hd : op.dst = some d) (hgd : op.guard = none) (y : Operand) (ho : op.op = .buildSlice 49 1 #[(0, y)])
    (x : EntM) (hx : a.eval y = ev x)
    (h : wpList Try.prog ops Q rest (a.put op.dst (.slice (some ⟨w.heap.size, 0, none⟩) 1 1)) (w.alloc (.cells (encE x).toArray 57))) : wpList Try.prog ops Q (op :: rest) a w := by
  refine wpList_plain hgd fun K hK => ?_
  have hrun := run_build_ent1 w x
  unfold Oper.wp
  simp only [execOp, ho, List.map_toArray, List.map_cons, List.map_nil, hx, Sem.run_bind, hrun, Result.andThen]
  exact hK _ _ h
/-- The list of a table in q lies where it lay, or in a block that is new. -/
def RowedT (w w' : World) (q : Nat) : Prop := ∀ v, w'.cell? ⟨q, 0, none⟩ = some v → ∀ g, v.ownBlock = some g → w.heap.size ≤ g ∨ ∃ v0, w.cell? ⟨q, 0, none⟩ = some v0 ∧ v0.ownBlock = some g
theorem row_keptT {u u' : World} {B e size : Nat} {v : Value} {n : Nat} {xs : List Value} (h : u.ownsRow B e size v n xs) (hk : ∀ k, v.ownBlock = some k → u'.heap[k]? = u.heap[k]?) : u'.ownsRow B e size v n xs := by
  refine ⟨h.1, ?_⟩
  rcases h.2 with e | ⟨g, cap, cur, e1, e2, hh, r⟩
  · exact .inl e
  · exact .inr ⟨g, cap, cur, e1, e2, (hk g (by rw [e1]; rfl)).trans hh, r⟩
theorem own_downT {u : World} {B B' : Nat} {e : TypeId} {size : Nat} {v : Value} {n : Nat} {xs : List Value} (h : u.ownsRow B e size v n xs) (hB : B' ≤ B) : u.ownsRow B' e size v n xs :=
  ⟨h.1, h.2.imp (fun h => h) (fun ⟨g, cap, cur, h1, h2, h3⟩ => ⟨g, cap, cur, h1, Nat.le_trans hB h2, h3⟩)⟩
/-- A list that is all new is laid into the table; behind it the call's own blocks from w on may turn, but not the list's. -/
theorem TabR.lay {w u u' : World} {B q : Nat} {M M' : List EntM} (h : TabR w B q M) (hB : B ≤ w.heap.size) (hb : Below w.heap.size w u) {a : Option Addr} {N c b : Nat} (hN : M'.length = N) (hrow : u.ownsRow b 57 6 (.slice a N c) N (M'.flatMap encE)) (hbw : w.heap.size < b) (hsub : ∀ x ∈ M', x ∈ M) (hfew : M'.length ≤ 1000)
    (hs : u.heap.size ≤ u'.heap.size) (hq : u'.cell? ⟨q, 0, none⟩ = some (.slice a N c)) (hfz : u'.frozen? ⟨q, 0, none⟩ = false) (hk : ∀ k, k ≠ q → k ≠ w.heap.size → u'.heap[k]? = u.heap[k]?) (ho : u'.os = u.os ∧ u'.tape = u.tape ∧ u'.output = u.output) :
    TabR u' B q M' ∧ Chg w u' (fun k => k = q) ∧ RowedT w u' q := by
  subst hN
  have hlt := h.lt
  refine ⟨⟨Nat.lt_of_lt_of_le (Nat.lt_of_lt_of_le hlt hb.size) hs, h.lo, ⟨a, c, hq, row_keptT (own_downT hrow (by omega)) (fun k e => hk k (by have := (hrow.lt k e).1; omega) (by have := (hrow.lt k e).1; omega)), fun k e => by have := (hrow.lt k e).1; omega⟩, hfz, fun x hx => ?_, fun x hx => h.far x (hsub x hx), hfew⟩, ⟨ho.1.trans hb.os, ho.2.1.trans hb.tape, ho.2.2.trans hb.output, Nat.le_trans hb.size hs, fun k hkw hn => (hk k hn (by omega)).trans (hb.block k hkw)⟩, fun v hv g hg => .inl ?_⟩
  · refine (h.wrs x (hsub x hx)).kept (fun hl b o e => ?_)
    have h1 := (h.wrs x (hsub x hx)).wr.blt hl e
    rw [hk b (h.far x (hsub x hx) hl b o e) (by omega)]
    exact hb.block b h1
  · rw [hq] at hv
    injection hv with hv
    rw [← hv] at hg
    have := (hrow.lt g hg).1
    omega
theorem EntAt.kept {u u' : World} {b o : Nat} {x : EntM} (h : EntAt u b o x) (hk : u'.heap[b]? = u.heap[b]?) : EntAt u' b o x := ⟨lies_of fun j v hv => by rw [cell_kept hk]; exact h.lies.at j v hv⟩
theorem EntMine.kept {u u' : World} {b : Nat} {x : EntM} (h : EntMine u b x) (hk : u'.heap[b]? = u.heap[b]?) : EntMine u' b x := ⟨h.at_.kept hk, fun i hi => by rw [frozen_kept hk]; exact h.free i hi⟩
def dropM (M : List EntM) (id : Int) : List EntM := M.filter (fun x => decide (x.e.id ≠ id))
theorem dropM_e (M : List EntM) (id : Int) : ents (dropM M id) = dropT (ents M) id := by unfold dropM dropT ents; rw [List.filter_map]; rfl
theorem drop_next {M : List EntM} {id : Int} {i : Nat} {x : EntM} (h : M[i]? = some x) : dropM (M.take (i + 1)) id = dropM (M.take i) id ++ if x.e.id = id then [] else [x] := by
  unfold dropM
  rw [List.take_add_one, h, List.filter_append]
  congr 1
  by_cases e : x.e.id = id <;> simp [e]
set_option maxHeartbeats 8000000 in
set_option maxRecDepth 8000 in
theorem rdrop_any (B q : Nat) (M : List EntM) (id : Int) (w : World) (h : TabR w B q M) (hB : B ≤ w.heap.size) :
    Calls Try.prog 22 #[.pointer (some ⟨q, 0, none⟩), .int .i64 id] w fun e w' => e = .returned (.tuple #[ev (orE (hasM M id)), .bool (hasM M id).isSome]) ∧ TabR w' B q (dropM M id) ∧ Chg w w' (fun k => k = q) ∧ RowedT w w' q := by
  obtain ⟨V0, hV0⟩ : ∃ V0, V0 = w.alloc (.cells (encE zeroE).toArray 57) := ⟨_, rfl⟩
  have HBW : Hid (Below w.heap.size w V0) := by rw [hV0]; exact (Below.refl _ _).alloc (Nat.le_refl _) _
  have HM0 : Hid (EntMine V0 w.heap.size zeroE) := by rw [hV0]; exact EntMine.made w 57 zeroE
  have hsz : V0.heap.size = w.heap.size + 1 := by rw [hV0]; simp
  have HV0 : Hid (w.alloc (.cells (encE zeroE).toArray 57) = V0) := hV0.symm
  rw [zeroE_cells] at HV0
  obtain ⟨N, hN⟩ : ∃ N, N = M.length := ⟨_, rfl⟩
  obtain ⟨a0, c0, hcap, hcell, hs⟩ := h.open
  have hfew := h.few
  rw [← hN] at hcap hcell hfew
  have HTB : Hid (TabR w B q M) := h
  have HBB : Hid (B ≤ w.heap.size) := hB
  have HCE : Hid (∀ v, Below w.heap.size w v → v.cell? ⟨q, 0, none⟩ = some (.slice a0 N c0)) := hcell
  have HN : Hid (M.length = N) := hN.symm
  have HS : Hid (∀ i x, M[i]? = some x → ∃ g, a0 = some ⟨g, 0, none⟩ ∧ Hid (∀ v, Below w.heap.size w v → EntAt v g (i * 6) x)) := fun i x hx => by
    rcases hs with e | ⟨g, e1, e4⟩
    · rw [e] at hx; simp at hx
    · exact ⟨g, e1, fun v hv => e4 v hv i x hx⟩
  obtain ⟨X, hX⟩ : ∃ X, X = orE (hasM M id) := ⟨_, rfl⟩
  obtain ⟨ok, hok⟩ : ∃ x, x = (hasM M id).isSome := ⟨_, rfl⟩
  have CH : Hid (Calls Try.prog 28 #[.pointer (some ⟨q, 0, none⟩), .int .i64 id] V0 fun e w' => e = .returned (.tuple #[ev X, .bool ok]) ∧ Below V0.heap.size V0 w') := by rw [hX, hok]; exact rhas_any B q M id V0 (h.past HBW.out)
  rw [← hX, ← hok]
  clear h hs hcell hN hV0 hX hok hB
  go_enter Try.func22, Try.ntmps22
  go_wp2_with (first | (go_at_call 28; rw [HV0.out]; refine CH.out.mono ?_; rintro e w1 ⟨rfl, hb1⟩; have B1 : Hid (Below V0.heap.size V0 w1) := hb1; have hmi := EntMine.made w1 57 zeroE; rw [zeroE_cells] at hmi; have HMI : Hid _ := hmi; clear hmi hb1) | (have hgo := HMI.out; clear hgo; refine wpList_store_ent (.tmp 6) (by rfl) _ (by rfl) w1.heap.size zeroE X (by rfl) (by rfl) HMI.out ?_; intro U hu; have HMX : Hid (EntMine U w1.heap.size X) := hu ▸ HMI.out.store; have HBU : Hid (Below V0.heap.size V0 U) := hu ▸ below_cells B1.out.size (B1.out.alloc B1.out.size _); clear hu HMI))
  have hw1 : w.heap.size < w1.heap.size := by have := B1.out.size; omega
  have hU1 : w.heap.size < U.heap.size := by have := HBU.out.size; omega
  have HWU : Hid (Below w.heap.size w U) := HBW.out.trans (HBU.out.mono HBW.out.size)
  have HMU : Hid (EntMine U w.heap.size zeroE) := HM0.out.past HBU.out
  clear CH HM0 HV0
  go_loopw [8, 9] (fun rv iv wr => ∃ (i m : Nat) (ra : Option Addr) (rc : Nat), iv = .int .i64 i ∧ rv = .slice ra m rc ∧ i ≤ N ∧ m ≤ i ∧ Hid (OwnB 57 6 U wr (.slice ra m rc) m ((dropM (M.take i) id).flatMap encE)) ∧ Hid ((dropM (M.take i) id).length = m)) (fun _ iv _ => N - (intOf iv).toNat)
  case atStart => exact ⟨0, 0, none, 0, rfl, rfl, Nat.zero_le _, Nat.le_refl _, ⟨World.ownsRow_nil _ _ _ _, Below.refl _ _⟩, rfl⟩
  case round =>
    obtain ⟨i, m, ra, rc, rfl, rfl, hi, hmi, HO, HML⟩ := hrel
    have hi0 : (0 : Int) ≤ (i : Int) := by omega
    have HWR : Hid (Below w.heap.size w wr) := HWU.out.trans (HO.out.below.mono HWU.out.size)
    have q0 := HCE.out wr HWR.out
    by_cases hlt : i < N
    · have h1 : (i : Int) < (N : Int) := by omega
      obtain ⟨x, hx⟩ : ∃ x, M[i]? = some x := ⟨_, List.getElem?_eq_getElem (by rw [HN.out]; exact hlt)⟩
      obtain ⟨g, hag, HG⟩ := HS.out i x hx
      rw [hag] at q0
      have FE : Hid (EntAt wr g (i * 6) x) := HG.out wr HWR.out
      obtain ⟨y0, _⟩ := FE.out.cells
      have HNX : Hid (dropM (M.take (i + 1)) id = dropM (M.take i) id ++ if x.e.id = id then [] else [x]) := drop_next hx
      obtain ⟨xi, hxi⟩ : ∃ z, z = x.e.id := ⟨_, rfl⟩
      rw [← hxi] at y0 HNX
      clear hx hxi hag
      have hm1 : m + 1 ≤ 1000000 := by omega
      by_cases he : xi = id
      · have be : (xi != id) = false := by simp [he]
        have HX : Hid (dropM (M.take (i + 1)) id = dropM (M.take i) id) := by show _ = _; rw [HNX.out, if_pos he, List.append_nil]
        clear HNX he
        go_wp2
        go_roundw
        case rel => exact ⟨i + 1, m, ra, rc, by go_num, rfl, by omega, by omega, by rw [HX.out]; exact HO, by rw [HX.out]; exact HML⟩
        case measure => simp [intOf]; omega
      · have be : (xi != id) = true := by simpa using he
        have HX : Hid (dropM (M.take (i + 1)) id = dropM (M.take i) id ++ [x]) := by show _ = _; rw [HNX.out, if_neg he]
        have HFL : Hid ((dropM (M.take i) id).flatMap encE ++ encE x = (dropM (M.take (i + 1)) id).flatMap encE) := by show _ = _; rw [HX.out, List.flatMap_append]; simp
        clear HNX he
        go_wp2_with (first | ((with_reducible show wpList _ _ _ (Oper.mk (some 42) _ _ _ _ _ :: _) _ _); refine wpList_load_ent 42 (by rfl) (by rfl) _ (by rfl) g (i * 6) (by rfl) x FE.out ?_) | ((with_reducible show wpList _ _ _ (Oper.mk (some 43) _ _ _ _ _ :: _) _ _); refine wpList_build_ent1 43 (by rfl) (by rfl) _ (by rfl) x (by rfl) ?_) | (at_builtin; refine wpList_own entEl (w0 := U) rfl (.tmp 35) (.tmp 43) rfl _ m _ (encE x) rfl (HO.out.alloc _) _ _ _ rfl (by rw [encE_len]) (lies_made _ _ _) (encE_one x) (fun h => by cases h) (m + 1) rfl hm1 _ HFL.out ?_; intro a6 c6 w6 h1 h2; have O6 : Hid (OwnB 57 6 U w6 (.slice a6 (m + 1) c6) (m + 1) ((dropM (M.take (i + 1)) id).flatMap encE)) := h1; clear h1 h2))
        go_roundw
        case rel => exact ⟨i + 1, m + 1, a6, c6, by go_num, rfl, by omega, by omega, O6, by show _ = _; rw [HX.out, List.length_append, HML.out]; rfl⟩
        case measure => simp [intOf]; omega
    · obtain rfl : i = N := by omega
      have HT : Hid (M.take i = M) := List.take_of_length_le (by rw [HN.out]; exact Nat.le_refl _)
      rw [HT.out] at HO HML
      have f0 : wr.frozen? ⟨q, 0, none⟩ = false := (HWR.out.frozen (p := ⟨q, 0, none⟩) HTB.out.lt).trans HTB.out.free
      have hqw := HTB.out.lt
      have K1 : ∀ k, k ≠ q → (wr.setCell ⟨q, 0, none⟩ (.slice ra m rc)).heap[k]? = wr.heap[k]? := fun k hne => Below.heap_setCell _ ⟨q, 0, none⟩ _ k hne
      have HXS : Hid (EntAt (wr.setCell ⟨q, 0, none⟩ (.slice ra m rc)) w1.heap.size 0 X) := (HMX.out.past HO.out.below).at_.kept (K1 _ (by omega))
      have HZS : Hid (EntMine (wr.setCell ⟨q, 0, none⟩ (.slice ra m rc)) w.heap.size zeroE) := (HMU.out.past HO.out.below).kept (K1 _ (by omega))
      have HCS : Hid ((wr.setCell ⟨q, 0, none⟩ (.slice ra m rc)).cell? ⟨q, 0, none⟩ = some (.slice ra m rc)) := World.cell?_setCell_same _ _ _ q0
      have HFS : Hid ((wr.setCell ⟨q, 0, none⟩ (.slice ra m rc)).frozen? ⟨q, 0, none⟩ = false) := by rw [World.frozen?_setCell]; exact f0
      have HK1 : Hid (∀ k, k ≠ q → (wr.setCell ⟨q, 0, none⟩ (.slice ra m rc)).heap[k]? = wr.heap[k]?) := K1
      have HSI : Hid (wr.heap.size ≤ (wr.setCell ⟨q, 0, none⟩ (.slice ra m rc)).heap.size ∧ (wr.setCell ⟨q, 0, none⟩ (.slice ra m rc)).os = wr.os ∧ (wr.setCell ⟨q, 0, none⟩ (.slice ra m rc)).tape = wr.tape ∧ (wr.setCell ⟨q, 0, none⟩ (.slice ra m rc)).output = wr.output) := ⟨by rw [World.size_setCell]; exact Nat.le_refl _, rfl, rfl, rfl⟩
      clear K1
      go_wp2_with (first | ((with_reducible show wpList _ _ _ (Oper.mk (some 49) _ _ _ _ _ :: _) _ _); refine wpList_load_ent 49 (by rfl) (by rfl) _ (by rfl) w1.heap.size 0 (by rfl) X HXS.out ?_) | (have hgo := HZS.out; clear hgo; refine wpList_store_ent (.tmp 4) (by rfl) _ (by rfl) w.heap.size zeroE X (by rfl) (by rfl) HZS.out ?_; intro u5 hu; have HM5 : Hid (EntMine u5 w.heap.size X) := hu ▸ HZS.out.store; have HU5 : Hid (u5 = (wr.setCell ⟨q, 0, none⟩ (.slice ra m rc)).setCells w.heap.size 0 (encE X)) := hu; clear hu HZS))
      refine bodyPost_ret (results_ent rfl _ _ w.heap.size X rfl HM5.out.at_) rfl ?_
      have hbl : Below w.heap.size (wr.setCell ⟨q, 0, none⟩ (.slice ra m rc)) u5 := by rw [HU5.out]; exact below_cells (Nat.le_refl _) (Below.refl _ _)
      have hcq : u5.heap[q]? = (wr.setCell ⟨q, 0, none⟩ (.slice ra m rc)).heap[q]? := by rw [HU5.out]; exact cells_else (w := w) (by omega) _ _ _
      refine ⟨rfl, HTB.out.lay HBB.out HWR.out HML.out HO.out.own hU1 (fun x hx => (List.mem_filter.1 hx).1) (by rw [HML.out]; omega) (Nat.le_trans HSI.out.1 hbl.size) ((cell_kept hcq 0).trans HCS.out) ((frozen_kept hcq 0).trans HFS.out) (fun k h1 h2 => ?_) ⟨hbl.os.trans HSI.out.2.1, hbl.tape.trans HSI.out.2.2.1, hbl.output.trans HSI.out.2.2.2⟩⟩
      rw [HU5.out, cells_else (w := w) h2]
      exact HK1.out k h1
end Go.Proofs.Ythgkbabikeknlaa

namespace Go.Proofs.Ythgkbabikeknlaa
open Go.RowKit
set_option linter.unusedVariables false

theorem slice_entsT (w : World) (a : Option Addr) (ha : ∀ ad, a = some ad → ∃ bb, ad = ⟨bb, 0, none⟩) (len cap h : Nat) (hh : h ≤ cap) (hn : a = none → cap = 0) (hlen : a = none → len = 0) :
    (Instr.slice 49 (.slice a len cap) none (some (.int .i64 (h : Int))) none).run Try.prog w = .ok (.slice a h cap) w := by
  cases a with
  | none =>
    obtain rfl := hn rfl
    obtain rfl := hlen rfl
    obtain rfl : h = 0 := by omega
    kernel_rfl
  | some ad =>
    obtain ⟨bb, rfl⟩ := ha ad rfl
    obtain ⟨i0, z, hi, _⟩ := entEl.info
    have he : Try.prog.elem 49 = 57 := by kernel_rfl
    rw [run_slice_h w 49 _ len cap (by rw [he]; exact Try.underlying49) .i64 (h : Int) (by omega) (by omega), he, run_sizeOf w hi]
    simp [sliced, addr_add]
def dropE (a : Option Addr) (cap k : Nat) : Option Addr := match a with | none => none | some ad => if cap = k then some ad else some (ad.add (k * 6))
theorem slice_entsL (w : World) (a : Option Addr) (ha : ∀ ad, a = some ad → ∃ bb, ad = ⟨bb, 0, none⟩) (len cap k : Nat) (hk : k ≤ len) (hh : len ≤ cap) (hn : a = none → cap = 0) :
    (Instr.slice 49 (.slice a len cap) (some (.int .i64 (k : Int))) none none).run Try.prog w = .ok (.slice (dropE a cap k) (len - k) (cap - k)) w := by
  cases a with
  | none =>
    obtain rfl := hn rfl
    obtain rfl : len = 0 := by omega
    obtain rfl : k = 0 := by omega
    kernel_rfl
  | some ad =>
    obtain ⟨bb, rfl⟩ := ha ad rfl
    obtain ⟨i0, z, hi, _, hsz, _⟩ := entEl.info
    have he : Try.prog.elem 49 = 57 := by kernel_rfl
    rw [run_slice_l w 49 _ len cap (by rw [he]; exact Try.underlying49) .i64 (k : Int) (by omega) (by omega), he, run_sizeOf w hi]
    have hc : Try.prog.cellsOf 57 = 6 := by kernel_rfl
    simp [sliced, addr_add, hc, dropE]
theorem dropE_none {a : Option Addr} {cap k : Nat} (h : dropE a cap k = none) : a = none := by
  cases a with
  | none => rfl
  | some ad => simp only [dropE] at h; split at h <;> cases h
theorem lies_dropE {u : World} {a : Option Addr} {cap k : Nat} {xs : List EntM} (ha : ∀ ad, a = some ad → ∃ bb, ad = ⟨bb, 0, none⟩) (h : Lies u a (xs.flatMap encE)) (hl : xs.length ≤ cap) : Lies u (dropE a cap k) ((xs.drop k).flatMap encE) := by
  by_cases hc : cap = k
  · have : xs.drop k = [] := List.drop_eq_nil_of_le (by omega)
    rw [this]; exact lies_nil _ _
  · cases a with
    | none => exact lies_none _ _
    | some ad =>
      obtain ⟨bb, rfl⟩ := ha ad rfl
      have := h.dropped (k * 6)
      rw [flat_drop xs k (fun x _ => encE_len x)] at this
      show Lies u (if cap = k then some ⟨bb, 0, none⟩ else some ((⟨bb, 0, none⟩ : Addr).add (k * 6))) _
      rw [if_neg hc, addr_add]
      exact this
theorem lies_takeE {u : World} {a : Option Addr} {k : Nat} {xs : List EntM} (ha : ∀ ad, a = some ad → ∃ bb, ad = ⟨bb, 0, none⟩) (h : Lies u a (xs.flatMap encE)) : Lies u a ((xs.take k).flatMap encE) := by
  cases a with
  | none => exact lies_none _ _
  | some ad =>
    obtain ⟨bb, rfl⟩ := ha ad rfl
    have := h.taken (k * 6)
    rw [flat_take xs k (fun x _ => encE_len x)] at this
    exact this
theorem step_build_ent {w : World} {ops : Array Oper} {o : Oper} {a : Act} {K : Act → World → Prop} {Q : Exit → Act → World → Prop} {E : Prop} (hgd : o.guard = none) (y : Operand) (ho : o.op = .buildSlice 49 1 #[(0, y)]) (x : EntM) (hx : a.eval y = ev x)
    (h : K (a.put o.dst (.slice (some ⟨w.heap.size, 0, none⟩) 1 1)) (w.alloc (.cells (encE x).toArray 57))) : if Region.wanted o (yielded ops a.tmps) = true then Oper.wp Try.prog o a w K Q else E := by
  have hw : Region.wanted o (yielded ops a.tmps) = true := by simp [Region.wanted, hgd]
  rw [if_pos hw]
  have hrun := run_build_ent1 w x
  unfold Oper.wp
  simp only [execOp, ho, List.map_toArray, List.map_cons, List.map_nil, hx, Sem.run_bind, hrun, Result.andThen]
  exact h
/-- A table's list: its address, its cells. -/
theorem TabR.src {u : World} {B q : Nat} {M : List EntM} (h : TabR u B q M) : ∃ a c, M.length ≤ c ∧ (a = none → c = 0 ∧ M.length = 0) ∧ (∀ ad, a = some ad → ∃ bb, ad = ⟨bb, 0, none⟩) ∧ (∀ v, Below u.heap.size u v → v.cell? ⟨q, 0, none⟩ = some (.slice a M.length c)) ∧ (∀ v, Below u.heap.size u v → Lies v a (M.flatMap encE)) ∧ ∀ i x, M[i]? = some x → ∃ g, a = some ⟨g, 0, none⟩ ∧ Hid (∀ v, Below u.heap.size u v → EntAt v g (i * 6) x) := by
  obtain ⟨a, c, h1, h2, h3⟩ := h.list
  rcases h2.2 with ⟨e1, e2⟩ | ⟨g, cap, cur, e1, hg, hh, e5, _⟩
  · have e3 := List.eq_nil_of_length_eq_zero e2
    injection e1 with x1 x2 x3
    refine ⟨a, c, by omega, fun _ => ⟨x3, e2⟩, (fun ad e => by rw [x1] at e; cases e), fun v hb => (hb.cell (p := ⟨q, 0, none⟩) h.lt).trans h1, fun v hb => ?_, (fun i x hx => by rw [e3] at hx; simp at hx)⟩
    rw [e3]; exact lies_nil _ _
  · injection e1 with x1 x2 x3
    subst x1
    subst x3
    refine ⟨_, c, e5, (fun e => by cases e), fun ad e => ⟨g, (Option.some.inj e).symm⟩, fun v hb => (hb.cell (p := ⟨q, 0, none⟩) h.lt).trans h1, fun v hb => (own_lies h2).past hb, fun i x hx => ⟨g, rfl, fun v hb => ⟨?_⟩⟩⟩
    have := ((own_lies h2).el (size := 6) (fun y _ => encE_len y) hx).past hb
    rwa [Nat.zero_add] at this
theorem wrtEl : ElT 29 46 18 40 := ElT.mk' (z := wv zeroW) Try.underlying29 (by kernel_rfl) (by kernel_rfl) (by decide) (by decide)
theorem lies_flat {α : Type} {enc : α → List Value} {size : Nat} {w : World} {b : Nat} : ∀ (l : List α) (o : Nat), (∀ x ∈ l, (enc x).length = size) → (∀ i x, l[i]? = some x → Lies w (some ⟨b, o + i * size, none⟩) (enc x)) → Lies w (some ⟨b, o, none⟩) (l.flatMap enc)
  | [], o, _, _ => lies_empty _ _ _
  | x :: r, o, hl, h => by
    have hx : (enc x).length = size := hl x (by simp)
    have h0 := h 0 x rfl
    rw [Nat.zero_mul, Nat.add_zero] at h0
    have hr := lies_flat r (o + size) (fun y hy => hl y (by simp [hy])) (fun i y hy => by
      have := h (i + 1) y (by simpa using hy)
      rwa [Nat.succ_mul, Nat.add_comm (i * size), ← Nat.add_assoc] at this)
    refine lies_of fun j u hj => ?_
    rw [List.flatMap_cons] at hj
    by_cases hjs : j < size
    · rw [List.getElem?_append_left (by omega)] at hj
      exact h0.at j u hj
    · rw [List.getElem?_append_right (by omega), hx] at hj
      have := hr.at (j - size) u hj
      rwa [show o + size + (j - size) = o + j by omega] at this
theorem WrtsAt.lies {w : World} {a : Option Addr} {l : List Wrt} (h : WrtsAt w a l) : Lies w a (l.flatMap encW) := by
  rcases h.cells with rfl | ⟨b, o, rfl, hc⟩
  · exact lies_nil _ _
  · exact lies_flat l o (fun W hW => encW_len (h.oks W hW).key) (fun i W hW => (hc i W hW).lies)
theorem encWs_one (l : List Wrt) : ∀ u ∈ l.flatMap encW, u.oneCell' = true := flat_one (fun W _ => encW_one W)
theorem own_wrts {w : World} {B n : Nat} {a : Option Addr} {c : Nat} {l : List Wrt} (h : w.ownsRow B 46 18 (.slice a n c) n (l.flatMap encW)) (hl : l.length = n) (hk : ∀ W ∈ l, WrtOk W) : n ≤ c ∧ WrtsAt w a l ∧ (l ≠ [] → ∀ b o, a = some ⟨b, o, none⟩ → B ≤ b) := by
  rcases h.2 with ⟨e1, h0⟩ | ⟨g, cap, cur, e1, hg, hh, h1, _⟩
  · have e := List.eq_nil_of_length_eq_zero (hl.trans h0)
    exact ⟨by omega, ⟨.inl e, hk⟩, fun hne => absurd e hne⟩
  · injection e1 with x1 x2 x3
    subst x1
    subst x3
    refine ⟨h1, ⟨.inr ⟨g, 0, rfl, fun i W hW => ⟨?_⟩⟩, hk⟩, fun _ b o e => by cases e; exact hg⟩
    exact (own_lies h).el (fun y hy => encW_len (hk y hy).key) hW
end Go.Proofs.Ythgkbabikeknlaa


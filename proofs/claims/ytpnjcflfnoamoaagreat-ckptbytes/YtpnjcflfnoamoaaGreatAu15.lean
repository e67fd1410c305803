/-
  Parts laid into a row of cells.
  The document's own stores (hourglassref10: Store) in memory: a list of versions of twenty cells each.
  The document's own order of keys (hourglassref10: Cmp).
-/
import Derived.Test.YtpnjcflfnoamoaaGreatBase
import Derived.Test.YtpnjcflfnoamoaaGreatAu35
import Derived.BigRegion
namespace Go.Proofs.YtpnjcflfnoamoaaGreat
open Go.RowKit
set_option linter.unusedVariables false

theorem fold_off : ∀ (vs : List Value) (off o : Nat) (C : Array Value), List.foldl (fun (cs : Array Value) (x : Value × Nat) => cs.setIfInBounds (off + x.snd) x.fst) C (vs.zipIdx o) = List.foldl (fun (cs : Array Value) (x : Value × Nat) => cs.setIfInBounds x.snd x.fst) C (vs.zipIdx (off + o))
  | [], off, o, C => rfl
  | v :: r, off, o, C => by
    rw [List.zipIdx_cons, List.zipIdx_cons, List.foldl_cons, List.foldl_cons, fold_off r off (o + 1)]
    rfl
theorem fill_step (place : Nat → Option (Nat × Nat)) (C : List Value) (i off n : Nat) (vs : List Value) (hp : place i = some (off, n)) (hv : vs.length = n) (hs : off + n ≤ C.length) (rest : List (Nat × Value)) :
    Instr.fill place C.toArray ((i, .agg vs.toArray) :: rest) = Instr.fill place (C.take off ++ vs ++ C.drop (off + n)).toArray rest := by
  have h0 : ¬ (decide (vs.toArray.size ≠ n) || decide (off + vs.toArray.size > C.toArray.size)) = true := by simp; omega
  have hf : Array.foldl (fun (cs : Array Value) (x : Value × Nat) => cs.setIfInBounds (off + x.snd) x.fst) C.toArray vs.toArray.zipIdx = (C.take off ++ vs ++ C.drop (off + n)).toArray := by
    rw [← Array.foldl_toList]
    apply Array.toList_inj.1
    have e : vs.toArray.zipIdx.toList = vs.zipIdx := by simp
    rw [e, fold_off vs off 0, Nat.add_zero, fold_set vs off C.toArray (by simp; omega)]
    simp [hv]
  rw [← hf]
  conv => lhs; unfold Instr.fill
  simp only [hp, Value.cells]
  exact if_neg h0
end Go.Proofs.YtpnjcflfnoamoaaGreat

namespace Go.Proofs.YtpnjcflfnoamoaaGreat
open Go.RowKit
set_option linter.unusedVariables false

/-- A version's cells. -/
def encV (V : Ver) : List Value := kc V.k ++ [.int .i64 V.t, .int .u8 V.n, .string (strOfNums V.v), .bool V.g]
abbrev vv (V : Ver) : Value := .agg (encV V).toArray
def OkL (L : List Ver) : Prop := ∀ V ∈ L, VerOk V
theorem enc_len {V : Ver} (h : Ky V.k) : (encV V).length = 20 := by unfold encV; rw [List.length_append, kc_len h]; rfl
theorem OkL.len {L : List Ver} (h : OkL L) : ∀ V ∈ L, (encV V).length = 20 := fun V hV => enc_len (h V hV).key
theorem enc_one (V : Ver) : ∀ u ∈ encV V, u.oneCell' = true := by
  intro u hu
  unfold encV at hu
  rcases List.mem_append.1 hu with e | e
  · exact ints_oneCell _ _ u e
  · simp at e
    rcases e with rfl | rfl | rfl | rfl <;> rfl
theorem encs_one (L : List Ver) : ∀ u ∈ L.flatMap encV, u.oneCell' = true := flat_one (fun V _ => enc_one V)
theorem verEl : ElT 63 67 20 56 := ElT.mk' (z := vv ⟨zeroK, 0, 0, [], false⟩) Tryz.underlying63 (by kernel_rfl) (by kernel_rfl) (by decide) (by decide)
/-- One version at a place. -/
structure VerAt (w : World) (b o : Nat) (V : Ver) : Prop where
  lies : Lies w (some ⟨b, o, none⟩) (encV V)
theorem VerAt.key {w : World} {b o : Nat} {V : Ver} (h : VerAt w b o V) (hk : Ky V.k) : KeyAt w b o V.k := by
  refine ⟨fun j hj => h.lies.at j _ ?_⟩
  have hl := hk.len
  unfold encV
  rw [List.getElem?_append_left (by rw [kc_len hk]; exact hj)]
  simp [kc, List.getD, show j < V.k.length by omega]
theorem VerAt.cells {w : World} {b o : Nat} {V : Ver} (h : VerAt w b o V) (hk : Ky V.k) : w.cell? ⟨b, o + 16, none⟩ = some (.int .i64 V.t) ∧ w.cell? ⟨b, o + 17, none⟩ = some (.int .u8 V.n) ∧ w.cell? ⟨b, o + 18, none⟩ = some (.string (strOfNums V.v)) ∧ w.cell? ⟨b, o + 19, none⟩ = some (.bool V.g) := by
  have hl := kc_len hk
  refine ⟨h.lies.at 16 _ ?_, h.lies.at 17 _ ?_, h.lies.at 18 _ ?_, h.lies.at 19 _ ?_⟩ <;> (unfold encV; rw [List.getElem?_append_right (by omega), hl]; rfl)
theorem VerAt.past {w w' : World} {b o : Nat} {V : Ver} (h : VerAt w b o V) (hb : Below w.heap.size w w') : VerAt w' b o V := ⟨h.lies.past hb⟩
/-- A store in block p, all of it made by the call (at B or above). -/
structure StoreR (u : World) (B p : Nat) (L : List Ver) : Prop where
  lt : p < u.heap.size
  lo : B ≤ p
  list : ∃ a c, u.cell? ⟨p, 0, none⟩ = some (.slice a L.length c) ∧ u.ownsRow B 67 20 (.slice a L.length c) L.length (L.flatMap encV) ∧ (∀ k, (Value.slice a L.length c).ownBlock = some k → k ≠ p)
  free : u.frozen? ⟨p, 0, none⟩ = false
  oks : OkL L
  few : L.length ≤ 1000000
theorem StoreR.past {u u' : World} {B p : Nat} {L : List Ver} (h : StoreR u B p L) (hb : Below u.heap.size u u') : StoreR u' B p L := by
  obtain ⟨a, c, h1, h2, h3⟩ := h.list
  exact ⟨Nat.lt_of_lt_of_le h.lt hb.size, h.lo, ⟨a, c, (hb.cell (p := ⟨p, 0, none⟩) h.lt).trans h1, own_below h2 hb (Nat.le_refl _), h3⟩, (hb.frozen (p := ⟨p, 0, none⟩) h.lt).trans (h.free), h.oks, h.few⟩
/-- The list's cell, and each version of it. -/
theorem StoreR.open {u : World} {B p : Nat} {L : List Ver} (h : StoreR u B p L) : ∃ a c, L.length ≤ c ∧ (∀ v, Below u.heap.size u v → v.cell? ⟨p, 0, none⟩ = some (.slice a L.length c)) ∧ (L = [] ∨ ∃ g, a = some ⟨g, 0, none⟩ ∧ g < u.heap.size ∧ B ≤ g ∧ ∀ v, Below u.heap.size u v → ∀ i V, L[i]? = some V → VerAt v g (i * 20) V) := by
  obtain ⟨a, c, h1, h2, h3⟩ := h.list
  refine ⟨a, c, ?_, fun v hb => (hb.cell (p := ⟨p, 0, none⟩) h.lt).trans h1, ?_⟩
  · rcases h2.2 with ⟨e1, e2⟩ | ⟨g, cap, cur, e1, _, _, e5, _⟩
    · omega
    · cases e1; exact e5
  · rcases h2.2 with ⟨e1, e2⟩ | ⟨g, cap, cur, e1, hg, hh, e5, _⟩
    · exact .inl (List.eq_nil_of_length_eq_zero e2)
    · cases e1
      have hlt := (Array.getElem?_eq_some_iff.1 hh).1
      refine .inr ⟨g, rfl, hlt, hg, fun v hb i V hV => ⟨?_⟩⟩
      have hl : Lies u (some ⟨g, 0, none⟩) (L.flatMap encV) := own_lies h2
      have := (hl.el h.oks.len hV).past hb
      rwa [Nat.zero_add] at this
end Go.Proofs.YtpnjcflfnoamoaaGreat

namespace Go.Proofs.YtpnjcflfnoamoaaGreat
open Go.RowKit
set_option linter.unusedVariables false

set_option maxHeartbeats 1000000 in
theorem rcmp_any (a b : List Int) (ha : Ky a) (hb : Ky b) (w : World) :
    Calls Tryz.prog 38 #[kv a, kv b] w fun e w' => e = .returned (.int .i64 (lexC a b)) ∧ Below w.heap.size w w' := by
  have KA : Hid (Ky a) := ha
  have KB : Hid (Ky b) := hb
  have HA : Hid (KeyAt ((w.alloc (.cells (kcs a) 57)).alloc (.cells (kcs b) 57)) w.heap.size 0 a) := (KeyAt.made w 57 a ha).alloc _
  have HC : Hid (KeyAt ((w.alloc (.cells (kcs a) 57)).alloc (.cells (kcs b) 57)) (w.heap.size + 1) 0 b) := by
    have := KeyAt.made (w.alloc (.cells (kcs a) 57)) 57 b hb
    rw [World.size_alloc] at this
    exact this
  have HB : Hid (Below w.heap.size w ((w.alloc (.cells (kcs a) 57)).alloc (.cells (kcs b) 57))) := ((Below.refl _ _).alloc (Nat.le_refl _) _).alloc (by simp) _
  clear ha hb
  go_enter Tryz.func38, Tryz.ntmps38
  go_wp2
  generalize hU : (w.alloc (.cells (kcs a) 57)).alloc (.cells (kcs b) 57) = u at *
  clear hU
  go_loopw [5] (fun i wr => ∃ n m : Nat, n ≤ 16 ∧ i = .int .i64 n ∧ Hid (wr = u.drewN m) ∧ Hid (a.take n = b.take n)) (fun i _ => 16 - (intOf i).toNat)
  case atStart => exact ⟨0, 0, Nat.zero_le _, rfl, rfl, by show _ = _; rw [List.take_zero, List.take_zero]⟩
  case round =>
    obtain ⟨n, m, hn, rfl, HW, HT⟩ := hrel
    have hw : wr.heap = u.heap := by rw [HW.out]; rfl
    have BW : Hid (Below w.heap.size w wr) := by rw [HW.out]; exact below_dN HB.out m
    by_cases hlt : n < 16
    · have hc := (HA.out.same hw).cell0 n hlt
      have hd := (HC.out.same hw).cell0 n hlt
      have b1 := KA.out.at n
      have b2 := KB.out.at n
      have l1 : n < a.length := by rw [KA.out.len]; exact hlt
      have l2 : n < b.length := by rw [KB.out.len]; exact hlt
      obtain ⟨X, hX⟩ : ∃ X, X = a.getD n 0 := ⟨_, rfl⟩
      obtain ⟨Y, hY⟩ : ∃ Y, Y = b.getD n 0 := ⟨_, rfl⟩
      rw [← hX] at hc b1
      rw [← hY] at hd b2
      have h0 : (0 : Int) ≤ (n : Int) := by omega
      have h1 : (n : Int) < 16 := by omega
      clear hw
      by_cases x1 : X < Y
      · have HR : Hid (lexC a b = -1) := lexC_less n HT.out l1 l2 (by rw [← hX, ← hY]; exact x1)
        have d1 : decide (X < Y) = true := decide_eq_true x1
        clear hX hY l1 l2 x1
        go_wp2
        go_quiet (fail)
        go_wp2
        go_ret
        exact ⟨by rw [HR.out]; rfl, below_dN BW.out _⟩
      · have d1 : decide (X < Y) = false := decide_eq_false x1
        by_cases x2 : Y < X
        · have HR : Hid (lexC a b = 1) := lexC_more n HT.out l1 l2 (by rw [← hX, ← hY]; exact x2)
          have d2 : decide (Y < X) = true := decide_eq_true x2
          clear hX hY l1 l2 x1 x2
          go_wp2
          go_quiet (fail)
          go_wp2
          go_quiet (fail)
          go_wp2
          go_ret
          exact ⟨by rw [HR.out]; rfl, below_dN (below_dN BW.out _) _⟩
        · have d2 : decide (Y < X) = false := decide_eq_false x2
          have HT' : Hid (a.take (n + 1) = b.take (n + 1)) := take_next HT.out l1 l2 (by rw [← hX, ← hY]; omega)
          clear hX hY l1 l2 x1 x2
          go_wp2
          go_quiet (fail)
          go_wp2
          go_quiet (fail)
          go_wp2
          go_roundw
          case rel => exact ⟨n + 1, _, by omega, by go_num, by show _ = _; rw [HW.out]; exact World.drewN_drewN _ _ _, HT'⟩
          case measure => simp [intOf]; omega
    · obtain rfl : n = 16 := by omega
      have HR : Hid (lexC a b = 0) := by
        have h := HT.out
        have e1 : a.take 16 = a := List.take_of_length_le (by rw [KA.out.len]; exact Nat.le_refl _)
        have e2 : b.take 16 = b := List.take_of_length_le (by rw [KB.out.len]; exact Nat.le_refl _)
        rw [e1, e2] at h
        rw [h]; exact lexC_self b
      go_wp2
      go_ret
      exact ⟨by rw [HR.out]; rfl, BW.out⟩
end Go.Proofs.YtpnjcflfnoamoaaGreat


/-
  Layer 3's own first question (awake): it answers true, and turns nothing that was there.
-/
import Derived.Test.YtcagodcmkjdahaaFrameC
namespace Go.Proofs.Ytcagodcmkjdahaa
open Go.RowKit
set_option linter.unusedVariables false

/-- A literal's bytes, behind '[]byte("..")'. -/
theorem row_lit (w : World) (C : Array Value) (fr : Nat × Nat) (zs : List Int) (hC : C = (bs zs).toArray) (hb : ∀ z ∈ zs, 0 ≤ z ∧ z ≤ 255) : Row (w.alloc (.cells C 5 fr)) (some ⟨w.heap.size, 0, none⟩) zs := by
  refine ⟨hb, .inr ⟨_, _, rfl, fun j hj => ?_⟩⟩
  rw [Nat.zero_add, World.cell?_alloc_mark, hC]
  simp [bs, hj]
theorem two_scan : scanN (frames [[97, 98], []]) = ([[97, 98], []], 26, true) := by
  rw [scan_all _ (by simp)]
  simp [frames, frame_len]
theorem two_frames : frameN [97, 98] ++ frameN [] = frames [[97, 98], []] := by simp [frames]
theorem two_by : By (frames [[97, 98], []]) := frames_by _ (by
  intro r hr z hz
  simp at hr
  rcases hr with rfl | rfl
  · simp at hz; omega
  · simp at hz)
theorem scan_as (a : Option Addr) (cap : Nat) (zs : List Int) (len : Nat) (w : World) (hn : zs.length = len) (hrow : Row w a zs) (hcap : len ≤ cap) (hmax : len ≤ 1099511627776) {L : List (List Int)} {u : Nat} {ok : Bool} (hs : scanN zs = (L, u, ok)) {N : Nat} (hN : L.length = N) :
    Calls Try.prog 9 #[.slice a len cap] w fun e w' => ∃ ax cx, e = .returned (.tuple #[.slice ax N cx, .int .i64 (u : Nat), .bool ok]) ∧ OwnRows w' w.heap.size (.slice ax N cx) N L ∧ Below w.heap.size w w' := by
  refine (scan_any a cap zs len w hn hrow hcap hmax).mono ?_
  rintro e w' ⟨ax, n, cx, rfl, h1, h2⟩
  rw [hs] at h1 ⊢
  have hl : n = N := by rw [← h1.len]; exact hN
  subst hl
  exact ⟨ax, cx, rfl, h1, h2⟩
theorem rscan_as (a : Option Addr) (cap : Nat) (zs : List Int) (len : Nat) (w : World) (hn : zs.length = len) (hrow : Row w a zs) (hcap : len ≤ cap) (hmax : len ≤ 1099511627776) {L : List (List Int)} {u : Nat} {ok : Bool} (hs : scanN zs = (L, u, ok)) {N : Nat} (hN : L.length = N) :
    Calls Try.prog 11 #[.slice a len cap] w fun e w' => ∃ ax cx, e = .returned (.tuple #[.slice ax N cx, .int .i64 (u : Nat), .bool ok]) ∧ OwnRows w' w.heap.size (.slice ax N cx) N L ∧ Below w.heap.size w w' := by
  refine (rscan_any a cap zs len w hn hrow hcap hmax).mono ?_
  rintro e w' ⟨ax, n, cx, rfl, h1, h2⟩
  rw [hs] at h1 ⊢
  have hl : n = N := by rw [← h1.len]; exact hN
  subst hl
  exact ⟨ax, cx, rfl, h1, h2⟩
theorem say_str (zs ps : List Int) : ((strOfNums (zs ++ ps)).toList == (strOfNums zs ++ strOfNums ps).toList) = true := by
  rw [ByteArray.toList_eq, ByteArray.toList_eq, ByteArray.data_append]
  simp [strOfNums]
theorem same_true {w : World} {a0 a1 : Option Addr} {n c0 c1 : Nat} {L : List (List Int)} (h0 : RowsOf w a0 c0 L) (h1 : RowsOf w a1 c1 L) (hl : L.length = n) (hmax : n ≤ 140737488351232) :
    Calls Try.prog 12 #[.slice a0 n c0, .slice a1 n c1] w fun e w' => e = .returned (.bool true) ∧ ∃ m, w' = w.drewN m := by
  have h := rsame_any a0 n c0 L a1 n c1 L w hl hl h0 h1 hmax
  have e : decide (L = L) = true := by simp
  rw [e] at h
  exact h
set_option maxHeartbeats 1000000 in
theorem awake_any (w : World) : Calls Try.prog 7 #[] w fun e w' => e = .returned (.bool true) ∧ Below w.heap.size w w' := by
  have hcv := fun (w : World) (C : Array Value) (n c : Nat) => Lib.run_convert_bytes_const (P := Try.prog) w 23 5 C n c Try.underlying23 Try.underlying5
  have hab : ((strOfNums [97, 98]).toList == [97, 98]) = true := by decide +kernel
  have P1 : Hid (∀ w1, Row w1 (some ⟨w.heap.size, 0, none⟩) [97, 98] → Calls Try.prog 8 #[.slice none 0 0, .slice (some ⟨w.heap.size, 0, none⟩) 2 2] w1 fun e w' => ∃ ax cx, e = .returned (.tuple #[.slice ax 14 cx, .int .i64 0]) ∧ w'.ownsRow w1.heap.size 5 1 (.slice ax 14 cx) 14 (bs (frameN [97, 98])) ∧ Below w1.heap.size w1 w') := fun w1 h1 =>
    put_ok none 0 [] 0 _ 2 [97, 98] 2 w1 rfl rfl (Row.nil _ _) h1 (fun _ => ⟨rfl, rfl⟩) (fun h => by cases h) (by omega) (by omega)
  have P2 : Hid (∀ w1 base ax cx, w1.ownsRow base 5 1 (.slice ax 14 cx) 14 (bs (frameN [97, 98])) → Calls Try.prog 8 #[.slice ax 14 cx, .slice none 0 0] w1 fun e w' => ∃ ay cy, e = .returned (.tuple #[.slice ay 26 cy, .int .i64 0]) ∧ w'.ownsRow w1.heap.size 5 1 (.slice ay 26 cy) 26 (bs (frames [[97, 98], []])) ∧ Below w1.heap.size w1 w') := fun w1 base ax cx h1 => by
    have hb : By (frameN [97, 98]) := frame_by _ (by intro z hz; simp at hz; omega)
    have := put_ok ax cx (frameN [97, 98]) 14 none 0 [] 0 w1 (by rw [frame_len]; rfl) rfl (own_row h1 hb) (Row.nil _ _) (own_nil h1) (fun _ => ⟨rfl, rfl⟩) (by omega) (by omega)
    rw [two_frames] at this
    exact this
  have SC : Hid (∀ w1 base ax cx, w1.ownsRow base 5 1 (.slice ax 26 cx) 26 (bs (frames [[97, 98], []])) → Calls Try.prog 9 #[.slice ax 26 cx] w1 fun e w' => ∃ b off x c cy, e = .returned (.tuple #[.slice (some ⟨b, off, none⟩) 2 cy, .int .i64 26, .bool true]) ∧ w'.cell? ⟨b, off, none⟩ = some (.slice x 2 c) ∧ (convert 23 9 (.slice x 2 c)).run Try.prog w' = .ok (.string (strOfNums [97, 98])) w' ∧ Below w1.heap.size w1 w') := fun w1 base ax cx h1 => by
    refine (scan_any ax cx (frames [[97, 98], []]) 26 w1 (by simp [frames, frame_len]) (own_row h1 two_by) (own_cap h1) (by omega)).mono ?_
    rintro e w' ⟨ay, n, cy, rfl, h2, h3⟩
    rw [two_scan] at h2 ⊢
    have hl := h2.len
    simp at hl
    subst hl
    obtain ⟨b, off, x, c, rfl, h4, h5, _⟩ := h2.rows.at (r := 0) (by simp)
    exact ⟨b, off, x, c, cy, rfl, h4, str_at rfl h5 c, h3⟩
  go_enter Try.func7, Try.ntmps7
  go_wp2_with (first | (go_at_call 9; refine (SC.out _ _ _ _ HO2.out).mono ?_; rintro e w3 ⟨b, off, x, c, cy, rfl, hc3, hs3, hb3⟩) | (go_at_call 8; refine (P2.out _ _ _ _ HO1.out).mono ?_; rintro e w2 ⟨ay, cy2, rfl, hown2, hb2⟩; have HO2 : Hid _ := hown2; have HB2 : Hid _ := hb2; clear hown2 hb2) | (go_at_call 8; refine (P1.out _ (row_lit w _ _ [97, 98] rfl (by decide))).mono ?_; rintro e w1 ⟨ax, cx, rfl, hown1, hb1⟩; have HO1 : Hid _ := hown1; have HB1 : Hid _ := hb1; clear hown1 hb1))
  go_ret
  refine ⟨rfl, ?_⟩
  have h1 : Below w.heap.size w w1 := ((Below.refl _ _).alloc (Nat.le_refl _) _).trans (HB1.out.mono (by simp))
  have h2 : Below w.heap.size w w2 := h1.trans (HB2.out.mono h1.size)
  exact h2.trans (hb3.mono h2.size)
/-- The frames of the first k lists. -/
def fr (L : List (List Int)) (k : Nat) : List Int := frames (L.take k)
theorem fr_next (L : List (List Int)) (k : Nat) (h : k < L.length) : fr L (k + 1) = fr L k ++ frameN (L.getD k []) := by
  unfold fr
  rw [List.take_succ_eq_append_getElem h, frames_app]
  simp [frames, List.getD, h]
theorem fr_all (L : List (List Int)) : fr L L.length = frames L := by unfold fr; rw [List.take_length]
theorem eight_next {L : List (List Int)} {k : Nat} (h : ∀ r ∈ L.take k, r.length ≤ 8000) (hk : k < L.length) (h8 : (L.getD k []).length ≤ 8000) : ∀ r ∈ L.take (k + 1), r.length ≤ 8000 := by
  intro r hr
  rw [List.take_succ_eq_append_getElem hk] at hr
  rcases List.mem_append.1 hr with h' | h'
  · exact h r h'
  · simp at h'
    simp [List.getD, hk] at h8
    rw [h']; exact h8
theorem both_next {L : List (List Int)} {k : Nat} (h : ∀ r ∈ L.take k, r.length ≤ 8000 ∧ By r) (hk : k < L.length) (h8 : (L.getD k []).length ≤ 8000 ∧ By (L.getD k [])) : ∀ r ∈ L.take (k + 1), r.length ≤ 8000 ∧ By r := by
  intro r hr
  rw [List.take_succ_eq_append_getElem hk] at hr
  rcases List.mem_append.1 hr with h' | h'
  · exact h r h'
  · simp at h'
    simp [List.getD, hk] at h8
    rw [h']; exact h8
/-- One list of lists that came in, at place k, in every later world. -/
structure Elem (w w1 : World) (b off k : Nat) (Y : List Int) (x : Option Addr) (m c : Nat) : Prop where
  len : Y.length = m
  nil : x = none → m = 0 ∧ c = 0
  cell : ∀ w2, Below w1.heap.size w1 w2 → w2.cell? ⟨b, off + k, none⟩ = some (.slice x m c)
  row : ∀ w2, Below w1.heap.size w1 w2 → Row w2 x Y
theorem elem_at {w w1 : World} {a : Option Addr} {cap : Nat} {L : List (List Int)} (h : RowsOf w a cap L) (hb : Below w.heap.size w w1) {k : Nat} (hk : k < L.length) : ∃ b off x m c, a = some ⟨b, off, none⟩ ∧ Elem w w1 b off k (L.getD k []) x m c := by
  obtain ⟨b, off, x, c, h1, h2, h3, h4⟩ := h.at hk
  exact ⟨b, off, x, _, c, h1, rfl, h4, fun w2 hw => (hw.cell (p := ⟨b, off + k, none⟩) (Nat.lt_of_lt_of_le (lt_of_cell h2) hb.size)).trans ((hb.cell (p := ⟨b, off + k, none⟩) (lt_of_cell h2)).trans h2), fun w2 hw => (h3.below hb (Nat.le_refl _)).below hw (Nat.le_refl _)⟩
end Go.Proofs.Ytcagodcmkjdahaa

/-
  The landed coord: New, among, decided, Decision, Give, Ack, Owes.
-/
import Derived.Test.YtcppihpehipelaaCdC2
import Derived.Test.YtcppihpehipelaaRefCd2
namespace Go.Proofs.Ytcppihpehipelaa
open Go.RowKit
set_option linter.unusedVariables false
set_option linter.unusedSimpArgs false

theorem zero_mat (w : World) : (zeroValue 73).run Try.prog w = .ok (.pointer none) w := by kernel_rfl
theorem CoI.look {u : World} {b m : Nat} {C : List DecC} {X : Foot} {G : Int → Option Nat} {Y : Int → Foot} (h : CoI u b C X m G Y) {id : Int} (hi : I64 id) : (Instr.lookup 68 (.map (some m)) (.int .i64 id) false).run Try.prog u = .ok (ptrV (G id)) u :=
  h.map.look Try.underlying68 (zero_mat u) hi
/-- What a call that works on them leaves. -/
structure DidC (w w' : World) (b : Nat) (C' : List DecC) (X : Foot) : Prop where
  out : ∃ X', CoD w' b C' X' ∧ Did w w' X X'
theorem DidC.stay {w w' : World} {b : Nat} {C : List DecC} {X : Foot} (h : CoD w b C X) (hb : Below w.heap.size w w') : DidC w w' b C X := ⟨⟨X, h.past hb, Did.stay hb h.lt⟩⟩
theorem DidC.behind {w u w' : World} {b : Nat} {C' : List DecC} {X : Foot} (hX : ∀ k, X k → k < w.heap.size) (hb : Below w.heap.size w u) (h : DidC u w' b C' X) : DidC w w' b C' X := by
  obtain ⟨X', h1, h2⟩ := h.out
  exact ⟨⟨X', h1, (Did.stay hb hX).trans h2⟩⟩
set_option maxHeartbeats 1000000 in
theorem cdnew_any (w : World) : Calls Try.prog 8 #[] w fun e w' => ∃ b X, e = .returned (.pointer (some ⟨b, 0, none⟩)) ∧ CoD w' b [] X ∧ (∀ k, X k → w.heap.size ≤ k) ∧ w.heap.size ≤ b ∧ Below w.heap.size w w' := by
  have HM : Hid (CoI ((w.alloc (.map #[] 0)).alloc (.cells #[.map (some w.heap.size)] 70)) (w.heap.size + 1) [] (fun k => k = w.heap.size + 1 ∨ k = w.heap.size) w.heap.size (fun _ => none) (fun _ => noFoot)) := CoI.made w 70
  have HB : Hid (Below w.heap.size w ((w.alloc (.map #[] 0)).alloc (.cells #[.map (some w.heap.size)] 70))) := ((Below.refl _ _).alloc (Nat.le_refl _) _).alloc (by simp) _
  have hmm := @run_makeMap Try.prog
  go_enter Try.func8, Try.ntmps8
  go_wp2
  go_ret
  exact ⟨_, _, rfl, ⟨_, _, _, HM.out⟩, fun k hk => by rcases hk with rfl | rfl <;> omega, Nat.le_succ _, HB.out⟩
theorem cdamong_no (b : Nat) (C : List DecC) (X : Foot) (id p : Int) (w : World) (h : CoD w b C X) (hi : I64 id) (hn : ∀ d, getC C id = some d → hasP d.parts p = false) :
    Calls Try.prog 38 #[.pointer (some ⟨b, 0, none⟩), .int .i64 id, .int .i64 p] w fun e w' => e = .returned (.pointer none) ∧ w' = w := by
  obtain ⟨m, G, Y, h⟩ := h
  have c0 := h.c0
  have HL := h.look hi
  rcases h.at_id hi with ⟨h1, h2⟩ | ⟨i, d, g, h1, h2, h3, h4, h5, h6⟩
  · rw [h2] at HL
    replace HL : (Instr.lookup 68 (.map (some m)) (.int .i64 id) false).run Try.prog w = .ok (.pointer none) w := HL
    clear h h1 h2 hn hi
    go_enter Try.func38, Try.ntmps38
    go_wp2
    go_ret
    exact ⟨rfl, rfl⟩
  · have hno := hn d h1
    have hd := h.tbl.each d h4
    rw [h5] at HL
    replace HL : (Instr.lookup 68 (.map (some m)) (.int .i64 id) false).run Try.prog w = .ok (.pointer (some ⟨g, 0, none⟩)) w := HL
    obtain ⟨⟨gp, cp, aa, ac, go, co, k1, k2⟩, k3⟩ := h6
    have c2 := k1.c2
    have CC := cdhas_any (some ⟨gp, 0, none⟩) _ cp d.parts p w rfl (by have := hd.nodup; omega) (k1.parts.ints (parts_bounds hd))
    have e : d.parts.contains p = false := by
      cases hc : d.parts.contains p with
      | false => rfl
      | true => rw [List.contains_iff_mem, ← hasP_iff, hno] at hc; cases hc
    rw [e] at CC
    have CC : Hid (Calls Try.prog 40 #[.slice (some ⟨gp, 0, none⟩) d.parts.length cp, .int .i64 p] w fun e w' => e = .returned (.bool false) ∧ w' = w) := CC
    clear h h1 h2 h3 h4 h5 hn hi k1 k2 k3 hd hno e
    generalize d.parts.length = P at *
    go_enter Try.func38, Try.ntmps38
    go_wp2_with (go_at_call 40; refine CC.out.mono ?_; rintro e w1 ⟨rfl, hw⟩; obtain rfl := hw.symm; clear hw)
    go_ret
    exact ⟨rfl, rfl⟩
theorem cdamong_yes (b m : Nat) (C : List DecC) (X : Foot) (G : Int → Option Nat) (Y : Int → Foot) (id p : Int) (d : DecC) (g : Nat) (w : World) (h : CoI w b C X m G Y) (hi : I64 id) (hd0 : getC C id = some d) (hg : G id = some g) (hp : hasP d.parts p = true) :
    Calls Try.prog 38 #[.pointer (some ⟨b, 0, none⟩), .int .i64 id, .int .i64 p] w fun e w' => e = .returned (.pointer (some ⟨g, 0, none⟩)) ∧ w' = w := by
  have c0 := h.c0
  have HL := h.look hi
  rcases h.at_id hi with ⟨h1, h2⟩ | ⟨i, d', g', h1, h2, h3, h4, h5, h6⟩
  · rw [hd0] at h1; cases h1
  · rw [hd0] at h1
    injection h1 with h1
    subst h1
    rw [hg] at h5
    injection h5 with h5
    subst h5
    have hd := h.tbl.each d h4
    rw [hg] at HL
    replace HL : (Instr.lookup 68 (.map (some m)) (.int .i64 id) false).run Try.prog w = .ok (.pointer (some ⟨g, 0, none⟩)) w := HL
    obtain ⟨⟨gp, cp, aa, ac, go, co, k1, k2⟩, k3⟩ := h6
    have c2 := k1.c2
    have CC := cdhas_any (some ⟨gp, 0, none⟩) _ cp d.parts p w rfl (by have := hd.nodup; omega) (k1.parts.ints (parts_bounds hd))
    rw [show d.parts.contains p = true by rw [List.contains_iff_mem, ← hasP_iff]; exact hp] at CC
    have CC : Hid (Calls Try.prog 40 #[.slice (some ⟨gp, 0, none⟩) d.parts.length cp, .int .i64 p] w fun e w' => e = .returned (.bool true) ∧ w' = w) := CC
    clear h h2 h3 h4 hi k1 k2 k3 hd hd0 hg hp
    generalize d.parts.length = P at *
    go_enter Try.func38, Try.ntmps38
    go_wp2_with (go_at_call 40; refine CC.out.mono ?_; rintro e w1 ⟨rfl, hw⟩; obtain rfl := hw.symm; clear hw)
    go_ret
    exact ⟨rfl, rfl⟩
theorem cddecided_no (b : Nat) (C : List DecC) (X : Foot) (id : Int) (w : World) (h : CoD w b C X) (hi : I64 id) (hn : ∀ d, getC C id = some d → d.how = 0) :
    Calls Try.prog 44 #[.pointer (some ⟨b, 0, none⟩), .int .i64 id] w fun e w' => e = .returned (.pointer none) ∧ w' = w := by
  obtain ⟨m, G, Y, h⟩ := h
  have c0 := h.c0
  have HL := h.look hi
  rcases h.at_id hi with ⟨h1, h2⟩ | ⟨i, d, g, h1, h2, h3, h4, h5, h6⟩
  · rw [h2] at HL
    replace HL : (Instr.lookup 68 (.map (some m)) (.int .i64 id) false).run Try.prog w = .ok (.pointer none) w := HL
    clear h h1 h2 hn hi
    go_enter Try.func44, Try.ntmps44
    go_wp2
    go_ret
    exact ⟨rfl, rfl⟩
  · have CC := cdknown_any g d _ w h6 (h.tbl.each d h4)
    rw [h5] at HL
    replace HL : (Instr.lookup 68 (.map (some m)) (.int .i64 id) false).run Try.prog w = .ok (.pointer (some ⟨g, 0, none⟩)) w := HL
    rw [show decide (d.how ≠ 0) = false from decide_eq_false (fun e => e (hn d h1))] at CC
    have CC : Hid (Calls Try.prog 42 #[.pointer (some ⟨g, 0, none⟩)] w fun e w' => e = .returned (.bool false) ∧ w' = w) := CC
    clear h h1 h2 h3 h4 h5 h6 hn hi
    go_enter Try.func44, Try.ntmps44
    go_wp2_with (go_at_call 42; refine CC.out.mono ?_; rintro e w1 ⟨rfl, hw⟩; obtain rfl := hw.symm; clear hw)
    go_ret
    exact ⟨rfl, rfl⟩
theorem cddecided_yes (b m : Nat) (C : List DecC) (X : Foot) (G : Int → Option Nat) (Y : Int → Foot) (id : Int) (d : DecC) (g : Nat) (w : World) (h : CoI w b C X m G Y) (hi : I64 id) (hd : DecL d) (hm : MatD w g d (Y id)) (hg : G id = some g) (h0 : d.how ≠ 0) :
    Calls Try.prog 44 #[.pointer (some ⟨b, 0, none⟩), .int .i64 id] w fun e w' => e = .returned (.pointer (some ⟨g, 0, none⟩)) ∧ w' = w := by
  have c0 := h.c0
  have HL := h.look hi
  have CC := cdknown_any g d _ w hm hd
  rw [hg] at HL
  replace HL : (Instr.lookup 68 (.map (some m)) (.int .i64 id) false).run Try.prog w = .ok (.pointer (some ⟨g, 0, none⟩)) w := HL
  rw [show decide (d.how ≠ 0) = true from decide_eq_true h0] at CC
  have CC : Hid (Calls Try.prog 42 #[.pointer (some ⟨g, 0, none⟩)] w fun e w' => e = .returned (.bool true) ∧ w' = w) := CC
  clear h hi hd hm hg h0
  go_enter Try.func44, Try.ntmps44
  go_wp2_with (go_at_call 42; refine CC.out.mono ?_; rintro e w1 ⟨rfl, hw⟩; obtain rfl := hw.symm; clear hw)
  go_ret
  exact ⟨rfl, rfl⟩
set_option maxHeartbeats 2000000 in
theorem cdgive_any (b : Nat) (C : List DecC) (X : Foot) (id : Int) (w : World) (h : CoD w b C X) (hi : I64 id) :
    Calls Try.prog 16 #[.pointer (some ⟨b, 0, none⟩), .int .i64 id] w fun e w' => e = .returned (.tuple #[.bool (giveC C id).1.1, .int .i64 (giveC C id).1.2]) ∧ DidC w w' b (giveC C id).2 X := by
  obtain ⟨m, G, Y, h⟩ := h
  have c0 := h.c0
  have HL := h.look hi
  rcases h.at_id hi with ⟨h1, h2⟩ | ⟨i, d, g, h1, h2, h3, h4, h5, h6⟩
  · rw [h2] at HL
    replace HL : (Instr.lookup 68 (.map (some m)) (.int .i64 id) false).run Try.prog w = .ok (.pointer none) w := HL
    have HR : Hid (giveC C id = ((false, 4), C)) := by show _ = _; unfold giveC; rw [h1]
    have HS : Hid (DidC w w b C X) := DidC.stay ⟨m, G, Y, h⟩ (Below.refl _ _)
    clear h h1 h2 hi
    go_enter Try.func16, Try.ntmps16
    go_wp2
    go_returns
    rw [HR.out]
    exact ⟨rfl, HS.out⟩
  · have hd := h.tbl.each d h4
    have CC := cdknown_any g d _ w h6 hd
    rw [h5] at HL
    replace HL : (Instr.lookup 68 (.map (some m)) (.int .i64 id) false).run Try.prog w = .ok (.pointer (some ⟨g, 0, none⟩)) w := HL
    have HR : Hid (giveC C id = ((decide ((giveD d).how = 1), 0), putC C (giveD d))) := by show _ = _; unfold giveC; rw [h1]
    by_cases h0 : d.how = 0
    · rw [show decide (d.how ≠ 0) = false from decide_eq_false (fun e => e h0)] at CC
      have CC : Hid (Calls Try.prog 42 #[.pointer (some ⟨g, 0, none⟩)] w fun e w' => e = .returned (.bool false) ∧ w' = w) := CC
      have CR : Hid (Calls Try.prog 45 #[.pointer (some ⟨g, 0, none⟩)] w fun e w' => e = .returned (.tuple #[]) ∧ MatD w' g (noD d) (Y id) ∧ Chg w w' (Y id)) := cdrefuse_any g d _ w h6 h0
      have eg : giveD d = noD d := if_pos h0
      have HF : Hid (∀ w', MatD w' g (noD d) (Y id) → Chg w w' (Y id) → DidC w w' b (putC C (noD d)) X) := fun w' k1 k2 => ⟨h.turn (d' := noD d) h2 rfl (by rw [h3]; exact h5) hd.noD (by rw [h3]; exact k2) k1 (fun k hk => .inl (by rw [h3]; exact hk))⟩
      have HY : Hid (∀ u, MatD u g (noD d) (Y id) → u.cell? ⟨g, 5, none⟩ = some (.bool false)) := fun u hu => by obtain ⟨⟨gp, cp, aa, ac, go, co, k1, k2⟩, k3⟩ := hu; exact k1.c5
      rw [eg] at HR
      clear h h1 h2 h3 h4 h5 h6 hd hi eg h0
      go_enter Try.func16, Try.ntmps16
      go_wp2_with (first
        | (go_at_call 42; refine CC.out.mono ?_; rintro e w1 ⟨rfl, hw⟩; obtain rfl := hw.symm; clear hw)
        | (go_at_call 45; refine CR.out.mono ?_; rintro e w2 ⟨rfl, k1, k2⟩; have z5 := HY.out _ k1; have H2 : Hid (DidC w w2 b (putC C (noD d)) X) := HF.out _ k1 k2; clear k1 k2))
      go_returns
      rw [HR.out]
      exact ⟨rfl, H2.out⟩
    · rw [show decide (d.how ≠ 0) = true from decide_eq_true h0] at CC
      have CC : Hid (Calls Try.prog 42 #[.pointer (some ⟨g, 0, none⟩)] w fun e w' => e = .returned (.bool true) ∧ w' = w) := CC
      have eg : giveD d = d := if_neg h0
      rw [eg, putC_same h.tbl.sorted h2] at HR
      have z5 : w.cell? ⟨g, 5, none⟩ = some (.bool (decide (d.how = 1))) := by obtain ⟨⟨gp, cp, aa, ac, go, co, k1, k2⟩, k3⟩ := h6; exact k1.c5
      have HS : Hid (DidC w w b C X) := DidC.stay ⟨m, G, Y, h⟩ (Below.refl _ _)
      obtain ⟨yb, hyb⟩ : ∃ y, y = decide (d.how = 1) := ⟨_, rfl⟩
      rw [← hyb] at z5 HR
      clear h h1 h2 h3 h4 h5 h6 hd hi eg h0 hyb
      go_enter Try.func16, Try.ntmps16
      go_wp2_with (go_at_call 42; refine CC.out.mono ?_; rintro e w1 ⟨rfl, hw⟩; obtain rfl := hw.symm; clear hw)
      go_returns
      rw [HR.out]
      exact ⟨rfl, HS.out⟩
end Go.Proofs.Ytcppihpehipelaa

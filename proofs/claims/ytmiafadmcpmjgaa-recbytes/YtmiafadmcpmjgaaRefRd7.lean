/-
  What the document reads next: writes.
-/
import Derived.Test.YtmiafadmcpmjgaaRefRd6
namespace Go.Proofs.Ytmiafadmcpmjgaa
open Go.RowKit
set_option linter.unusedVariables false

theorem own_end {w wr u : World} {g m : Nat} {ax : Option Addr} {cx : Nat} {done : List Wrt} (hg : g < w.heap.size) (own : wr.ownsRow w.heap.size 36 18 (.slice ax m cx) m (done.flatMap encW)) (hc : Chg wr u (fun j => j = g)) (ok : ∀ W ∈ done, WrtOk W) (len : done.length = m) : m ≤ cx ∧ WrtsAt u ax done ∧ (done ≠ [] → ∀ b o, ax = some ⟨b, o, none⟩ → w.heap.size ≤ b) :=
  own_wrts (owns_stay own (fun q h1 h2 => hc.block q h2 (by omega))) len ok
theorem round_chg {w wr w1 w2 w3 w4 : World} {g q : Nat} {x : Value} {o : Obj} (hg : g < w.heap.size) (C1 : Chg w wr (fun j => j = g)) (C2 : Chg wr w1 (fun j => j = g)) (C3 : Chg w1 w2 (fun j => j = g)) (B3 : Below w2.heap.size w2 w3) (C4 : Chg w3 w4 (fun j => j = g)) (hq : q = w2.heap.size) :
    Chg w ((w4.setCell ⟨q, 16, none⟩ x).alloc o) (fun j => j = g) ∧ (∀ r, r ≠ g → r < wr.heap.size → ((w4.setCell ⟨q, 16, none⟩ x).alloc o).heap[r]? = wr.heap[r]?) ∧ (g < w4.heap.size → ((w4.setCell ⟨q, 16, none⟩ x).alloc o).heap[g]? = w4.heap[g]?) ∧ w.heap.size ≤ q := by
  have c12 := C1.trans C2 (fun _ _ x => x)
  have c13 := c12.trans C3 (fun _ _ x => x)
  have hs2 : w.heap.size ≤ w2.heap.size := c13.size
  have c14 := (c13.trans (Chg.of_below B3 (fun j => j = g)) (fun _ _ x => x)).trans C4 (fun _ _ x => x)
  have d : Chg w4 ((w4.setCell ⟨q, 16, none⟩ x).alloc o) (fun j => j = q) := (Chg.set (X := fun j => j = q) w4 ⟨q, 16, none⟩ x rfl).alloc o
  have e := ((C2.trans C3 (fun _ _ x => x)).trans (Chg.of_below B3 (fun j => j = g)) (fun _ _ x => x)).trans C4 (fun _ _ x => x)
  have hs : wr.heap.size ≤ w2.heap.size := (C2.trans C3 (fun _ _ x => x)).size
  have hs0 : w.heap.size ≤ wr.heap.size := C1.size
  refine ⟨c14.trans d (fun j hj e => by omega), fun r hr hl => ?_, fun hl => d.block g hl (by omega), by omega⟩
  exact (d.block r (by have := e.size; omega) (by omega)).trans (e.block r hl hr)
theorem lies_made2 (w : World) (C : List Value) (e : TypeId) (q : Nat) (hq : q = w.heap.size) : Lies (w.alloc (.cells C.toArray e)) (some ⟨q, 0, none⟩) C := by subst hq; exact lies_made w C.toArray e
/-- What a round leaves, told behind its store. -/
theorem rnd_facts {w wr w1 w2 w3 : World} {g : Nat} {a : Option Addr} {cap : Nat} {zs : List Int} {k k1 k2 k3 : Nat} {b b1 b2 b3 : Bool} {o0 : Option (List Int)} {N m cx : Nat} {ax : Option Addr} {done : List Wrt} {K : List Int} {gn : Bool}
    (h : Rd w g a cap zs k b)
    (HX : Rd wr g a cap zs k1 b1 ∧ Chg w wr (fun j => j = g) ∧ wr.ownsRow w.heap.size 36 18 (.slice ax m cx) m (done.flatMap encW) ∧ (∀ W ∈ done, WrtOk W) ∧ done.length = m ∧ ∀ o2 L, Rds (manyP writeP (N - m)) (stR zs k1 b1) o2 L → Rds (manyP writeP N) o0 o2 (done ++ L)) (hlt : m < N)
    (HP : Ky K ∧ Rd w1 g a cap zs k2 b2 ∧ Chg wr w1 (fun j => j = g) ∧ Rds (bytesP 16) (stR zs k1 b1) (stR zs k2 b2) K)
    (HQ : Ky K ∧ Rd w2 g a cap zs k3 b3 ∧ Chg w1 w2 (fun j => j = g) ∧ Rds boolP (stR zs k2 b2) (stR zs k3 b3) gn)
    (hw3 : w3 = (w2.alloc (.cells (encW zeroW).toArray 36)).setCells w2.heap.size 0 (encW ⟨K, [], gn⟩)) :
    Rd w3 g a cap zs k3 b3 ∧ WrtMine w3 w2.heap.size 0 ⟨K, [], gn⟩ ∧ ¬ w2.heap.size = g ∧ (∀ w4 v k4 b4, (∀ z ∈ v, 0 ≤ z ∧ z ≤ 255) → v.length ≤ zs.length → Rd w4 g a cap zs k4 b4 → Chg w3 w4 (fun j => j = g) → Rds textP (stR zs k3 b3) (stR zs k4 b4) v → w.heap.size ≤ ((w4.setCell ⟨w2.heap.size, 16, none⟩ (.string (strOfNums v))).alloc (.cells (encW ⟨K, v, gn⟩).toArray 36)).heap.size ∧ ((w4.setCell ⟨w2.heap.size, 16, none⟩ (.string (strOfNums v))).alloc (.cells (encW ⟨K, v, gn⟩).toArray 36)).ownsRow w.heap.size 36 18 (.slice ax m cx) m (done.flatMap encW) ∧ Ky K ∧ ∀ ax6 cx6 w6, w6.ownsRow w.heap.size 36 18 (.slice ax6 (m + 1) cx6) (m + 1) (done.flatMap encW ++ encW ⟨K, v, gn⟩) → Chg ((w4.setCell ⟨w2.heap.size, 16, none⟩ (.string (strOfNums v))).alloc (.cells (encW ⟨K, v, gn⟩).toArray 36)) w6 (fun j => w.heap.size ≤ j) → WrsL w w6 g a cap zs o0 N (.slice ax6 (m + 1) cx6) (m + 1)) := by
  obtain ⟨R1, C1, own1, ok1, len1, f1⟩ := HX
  obtain ⟨ky, R2, C2, D2⟩ := HP
  obtain ⟨_, R3, C3, D3⟩ := HQ
  obtain ⟨M3, B3, _⟩ := laid_wrt w2 36 (W := ⟨K, [], gn⟩) ky
  rw [← hw3] at M3 B3
  have hg : g < w.heap.size := lt_of_cell h.c0
  have hg2 : g < w2.heap.size := lt_of_cell R3.c0
  refine ⟨R3.past B3, M3, by omega, fun w4 v k4 b4 v1 v2 R4 C4 D4 => ?_⟩
  obtain ⟨q1, q2, q3, q4⟩ := round_chg (x := .string (strOfNums v)) (o := .cells (encW ⟨K, v, gn⟩).toArray 36) hg C1 C2 C3 B3 C4 rfl
  refine ⟨q1.size, owns_stay own1 (fun r h1 h2 => q2 r (by omega) h2), ky, fun ax6 cx6 w6 own6 C6 => ?_⟩
  have c6 : Chg w w6 (fun j => j = g) := q1.trans C6 (fun j hj e => by omega)
  have hg4 : g < w4.heap.size := lt_of_cell R4.c0
  have hb : w6.heap[g]? = w4.heap[g]? := (C6.block g (by rw [World.size_alloc, World.size_setCell]; omega) (by omega)).trans (q3 hg4)
  refine WrsL.next f1 hlt len1 ok1 ⟨ky, v1, ?_⟩ (h.as c6 R4 hb) c6 own6 (write_seq D2 D3 D4)
  have := h.most
  show v.length ≤ maxLen
  unfold maxLen
  omega
set_option maxHeartbeats 1000000 in
theorem rwrites14_any (g : Nat) (a : Option Addr) (cap : Nat) (zs : List Int) (k : Nat) (b : Bool) (w : World) (h : Rd w g a cap zs k b) :
    Calls Try.prog 46 #[.pointer (some ⟨g, 0, none⟩)] w fun e w' => ∃ (ax : Option Addr) (n cx : Nat) (l : List Wrt), e = .returned (.slice ax n cx) ∧ l.length = n ∧ n ≤ 16 ∧ n ≤ cx ∧ WrtsAt w' ax l ∧ (l ≠ [] → ∀ b o, ax = some ⟨b, o, none⟩ → w.heap.size ≤ b) ∧ Red w w' g a cap zs k b writesP l := by
  have H : Hid (Rd w g a cap zs k b) := h
  have HG : Hid (g < w.heap.size) := lt_of_cell h.c0
  clear h
  go_enter Try.func46, Try.ntmps46
  go_wp2_with (first | (go_at_call 42; refine (rcount14_any g a cap zs k b _ 16 (by omega) (by omega) H.out).mono ?_; rintro e w0 ⟨n, k0, b0, rfl, n0, n1, R0, C0, D0⟩; obtain ⟨N, rfl⟩ : ∃ N : Nat, n = N := ⟨n.toNat, by omega⟩; have HN : Hid (N ≤ 16) := by { show N ≤ 16; omega }; have HS0 : Hid (WrsL w w0 g a cap zs (stR zs k0 b0) N (.slice none 0 0) 0) := WrsL.start N R0 C0; have HD0 : Hid (Rds (countP 16) (stR zs k b) (stR zs k0 b0) (N : Int)) := D0; clear R0 C0 D0))
  go_loopw [4, 5] (fun l i wr => ∃ (m : Nat) (ax : Option Addr) (cx : Nat), m ≤ N ∧ i = .int .i64 m ∧ l = .slice ax m cx ∧ WrsL w wr g a cap zs (stR zs k0 b0) N (.slice ax m cx) m) (fun _ i _ => N - (intOf i).toNat)
  case atStart => exact ⟨0, none, 0, Nat.zero_le _, rfl, rfl, HS0.out⟩
  case round =>
    obtain ⟨m, ax, cx, hmN, rfl, rfl, HL⟩ := hrel
    obtain ⟨k1, b1, done, R1, C1, own1, ok1, len1, f1⟩ := HL.ex
    have HX : Hid (Rd wr g a cap zs k1 b1 ∧ Chg w wr (fun j => j = g) ∧ wr.ownsRow w.heap.size 36 18 (.slice ax m cx) m (done.flatMap encW) ∧ (∀ W ∈ done, WrtOk W) ∧ done.length = m ∧ ∀ o2 L, Rds (manyP writeP (N - m)) (stR zs k1 b1) o2 L → Rds (manyP writeP N) (stR zs k0 b0) o2 (done ++ L)) := ⟨R1, C1, own1, ok1, len1, f1⟩
    have c2 := R1.c2
    clear R1 C1 own1 ok1 len1 f1 HL HS0
    have hi0 : (0 : Int) ≤ (m : Int) := by omega
    have hi1 : (m : Int) ≤ 16 := by have := HN.out; omega
    by_cases hrun : m < N ∧ b1 = false
    · obtain ⟨hlt, rfl⟩ := hrun
      have hltI : (m : Int) < (N : Int) := by omega
      go_wp2_with (first
        | (have hgo := HE.out; clear hgo; at_builtin; refine wpList_append_chg wrtEl (B := w.heap.size) rfl (.tmp 29) (.tmp 31) rfl HE.out.1 _ m (done.flatMap encW) (encW ⟨K, v, gn⟩) rfl HE.out.2.1 _ _ _ rfl (by rw [encW_len HE.out.2.2.1]) (lies_made2 _ _ _ _ (by simp [World.size_setCell])) (encW_one _) (fun h => by cases h) (by omega) ?_; intro ax6 cx6 w6 own6 C6; have HS6 : Hid (WrsL w w6 g a cap zs (stR zs k0 b0) N (.slice ax6 (m + 1) cx6) (m + 1)) := HE.out.2.2.2 ax6 cx6 w6 own6 C6; clear own6 C6 HE)
        | ((with_reducible show wpList _ _ _ (Oper.mk (some 31) _ _ _ _ _ :: _) _ _); refine wpList_build_ws1 31 (by rfl) (by rfl) (.tmp 30) (by rfl) ⟨K, v, gn⟩ HE.out.2.2.1 (by rfl) ?_)
        | ((with_reducible show wpList _ _ _ (Oper.mk (some 30) _ _ _ _ _ :: _) _ _); refine wpList_load_wrt 30 (by rfl) (by rfl) _ (by rfl) w2.heap.size 0 (by rfl) ⟨K, v, gn⟩ HE.out.2.2.1 (HM4.out.setV v).at_ ?_)
        | (have hgo := HR3.out; clear hgo; go_at_call 78; refine (rtext14_any g a cap zs k3 b3 _ HR3.out.1).mono ?_; rintro e w4 ⟨v, k4, b4, rfl, v1, v2, R4, C4, D4⟩; have M4 : WrtMine w4 w2.heap.size 0 ⟨K, [], gn⟩ := HR3.out.2.1.chg C4 HR3.out.2.2.1; have c16 : w4.cell? ⟨w2.heap.size, 16, none⟩ = some (.string (strOfNums [])) := by { have := (M4.at_.cells M4.key).1; rwa [Nat.zero_add] at this }; have f16 : w4.frozen? ⟨w2.heap.size, 16, none⟩ = false := by { have := M4.free 16 (by omega); rwa [Nat.zero_add] at this }; have HM4 : Hid (WrtMine w4 w2.heap.size 0 ⟨K, [], gn⟩) := M4; have HE : Hid _ := HR3.out.2.2.2 w4 v k4 b4 v1 v2 R4 C4 D4; clear M4 v1 v2 R4 C4 D4 HR3)
        | (have hgo := HQ.out; clear hgo; (with_reducible show wpList _ _ _ (Oper.mk none _ _ _ _ _ :: _) _ _); refine wpList_store_wrt (.tmp 6) (by rfl) _ (by rfl) w2.heap.size 0 zeroW ⟨K, [], gn⟩ (by rfl) (by rfl) HQ.out.1 (WrtMine.made w2 36 zeroW zeroW_ky) ?_; intro w3 hw3; have HR3 : Hid (Rd w3 g a cap zs k3 b3 ∧ WrtMine w3 w2.heap.size 0 ⟨K, [], gn⟩ ∧ ¬ w2.heap.size = g ∧ (∀ w4 v k4 b4, (∀ z ∈ v, 0 ≤ z ∧ z ≤ 255) → v.length ≤ zs.length → Rd w4 g a cap zs k4 b4 → Chg w3 w4 (fun j => j = g) → Rds textP (stR zs k3 b3) (stR zs k4 b4) v → w.heap.size ≤ ((w4.setCell ⟨w2.heap.size, 16, none⟩ (.string (strOfNums v))).alloc (.cells (encW ⟨K, v, gn⟩).toArray 36)).heap.size ∧ ((w4.setCell ⟨w2.heap.size, 16, none⟩ (.string (strOfNums v))).alloc (.cells (encW ⟨K, v, gn⟩).toArray 36)).ownsRow w.heap.size 36 18 (.slice ax m cx) m (done.flatMap encW) ∧ Ky K ∧ ∀ ax6 cx6 w6, w6.ownsRow w.heap.size 36 18 (.slice ax6 (m + 1) cx6) (m + 1) (done.flatMap encW ++ encW ⟨K, v, gn⟩) → Chg ((w4.setCell ⟨w2.heap.size, 16, none⟩ (.string (strOfNums v))).alloc (.cells (encW ⟨K, v, gn⟩).toArray 36)) w6 (fun j => w.heap.size ≤ j) → WrsL w w6 g a cap zs (stR zs k0 b0) N (.slice ax6 (m + 1) cx6) (m + 1))) := rnd_facts H.out HX.out hlt HP.out HQ.out hw3; clear hw3 HX HP HQ)
        | ((with_reducible show wpList _ _ _ (Oper.mk (some 25) _ _ _ _ _ :: _) _ _); refine wpList_build_w3 25 (by rfl) (by rfl) (.tmp 22) (.tmp 24) (by rfl) K gn HQ.out.1 (by rfl) (by rfl) ?_)
        | (have hgo := HP.out; clear hgo; go_at_call 47; refine (rbool14_any g a cap zs k2 b2 _ HP.out.2.1).mono ?_; rintro e w2 ⟨gn, k3, b3, rfl, R3, C3, D3⟩; have HQ : Hid (Ky K ∧ Rd w2 g a cap zs k3 b3 ∧ Chg w1 w2 (fun j => j = g) ∧ Rds boolP (stR zs k2 b2) (stR zs k3 b3) gn) := ⟨HP.out.1, R3, C3, D3⟩; clear R3 C3 D3)
        | (go_at_call 77; refine (rkey14_any g a cap zs k1 false _ HX.out.1).mono ?_; rintro e w1 ⟨K, rfl, ky, ⟨⟨k2, b2, R2, C2, D2⟩⟩⟩; have HP : Hid (Ky K ∧ Rd w1 g a cap zs k2 b2 ∧ Chg wr w1 (fun j => j = g) ∧ Rds (bytesP 16) (stR zs k1 false) (stR zs k2 b2) K) := ⟨ky, R2, C2, D2⟩; clear ky R2 C2 D2))
      exact ⟨⟨m + 1, ax6, cx6, by omega, by simp, rfl, HS6.out⟩, by simp [intOf]; omega⟩
    · have EX : Hid (Rds (manyP writeP N) (stR zs k0 b0) (stR zs k1 b1) done) := by
        have := HX.out.2.2.2.2.2
        by_cases hm : m < N
        · have hb1 : b1 = true := by cases b1 with | true => rfl | false => exact absurd ⟨hm, rfl⟩ hrun
          subst hb1
          have h2 := this none [] (.of_bad _ _)
          rw [List.append_nil] at h2
          exact h2
        · have e : N - m = 0 := by omega
          rw [e] at this
          have h2 := this _ [] (.ret [] _)
          rw [List.append_nil] at h2
          exact h2
      obtain ⟨mw, hmw⟩ : ∃ mw, mw = mayW done 0 := ⟨_, rfl⟩
      have CM : Hid (Calls Try.prog 79 #[.slice ax m cx, .int .i64 0] wr fun e w' => e = .returned (.bool mw) ∧ Below wr.heap.size wr w') := by
        have q := own_end HG.out HX.out.2.2.1 (Chg.refl wr _) HX.out.2.2.2.1 HX.out.2.2.2.2.1
        rw [hmw]
        exact rmayw_any ax m cx done 0 wr HX.out.2.2.2.2.1 q.1 (by have := HN.out; omega) (by omega) q.2.1
      have HF : Hid (∀ w2, Below wr.heap.size wr w2 → (mw = true → Red w w2 g a cap zs k b writesP done) ∧ (mw = false → Red w (w2.setCell ⟨g, 2, none⟩ (.bool true)) g a cap zs k b writesP done) ∧ (m ≤ cx ∧ WrtsAt w2 ax done ∧ (done ≠ [] → ∀ b o, ax = some ⟨b, o, none⟩ → w.heap.size ≤ b)) ∧ (m ≤ cx ∧ WrtsAt (w2.setCell ⟨g, 2, none⟩ (.bool true)) ax done ∧ (done ≠ [] → ∀ b o, ax = some ⟨b, o, none⟩ → w.heap.size ≤ b)) ∧ w2.cell? ⟨g, 2, none⟩ = some (.bool b1) ∧ w2.frozen? ⟨g, 2, none⟩ = false) := fun w2 B2 => by
        obtain ⟨R1, C1, own1, ok1, len1, _⟩ := HX.out
        have R2 := R1.past B2
        have C2 : Chg w w2 (fun j => j = g) := C1.trans (Chg.of_below B2 _) (fun _ _ x => x)
        refine ⟨fun e => ⟨k1, b1, R2, C2, writes_seq HD0.out EX.out (.inl ⟨hmw ▸ e, rfl⟩)⟩, fun e => ⟨k1, true, R2.bad.1, C2.trans R2.bad.2 (fun _ _ x => x), writes_seq HD0.out EX.out (.inr ⟨hmw ▸ e, rfl⟩)⟩, own_end HG.out own1 (Chg.of_below B2 _) ok1 len1, own_end HG.out own1 ((Chg.of_below B2 _).trans R2.bad.2 (fun _ _ x => x)) ok1 len1, R2.c2, R2.free 2⟩
      have HLN : Hid (done.length = m ∧ m ≤ 16) := ⟨HX.out.2.2.2.2.1, by have := HN.out; omega⟩
      have hcond : (m : Int) < (N : Int) ∧ b1 = true ∨ m = N := by
        by_cases hm : m < N
        · left
          exact ⟨by omega, by cases b1 with | true => rfl | false => exact absurd ⟨hm, rfl⟩ hrun⟩
        · right; omega
      clear hrun HX EX hmw HD0
      rcases hcond with ⟨hlt, rfl⟩ | rfl
      all_goals cases mw with
        | true =>
          go_wp2_with (first | (go_at_call 79; refine CM.out.mono ?_; rintro e w2 ⟨rfl, B2⟩; obtain ⟨q1, _, q2, _, _, _⟩ := HF.out w2 B2; have HQ : Hid _ := And.intro (q1 rfl) q2; clear q1 q2 B2))
          go_returns
          exact ⟨ax, m, cx, done, rfl, HLN.out.1, HLN.out.2, HQ.out.2.1, HQ.out.2.2.1, HQ.out.2.2.2, HQ.out.1⟩
        | false =>
          go_wp2_with (first | (go_at_call 79; refine CM.out.mono ?_; rintro e w2 ⟨rfl, B2⟩; obtain ⟨_, q1, _, q2, q3, q4⟩ := HF.out w2 B2; have HQ : Hid _ := And.intro (q1 rfl) q2; clear q1 q2 B2))
          go_returns
          exact ⟨ax, m, cx, done, rfl, HLN.out.1, HLN.out.2, HQ.out.2.1, HQ.out.2.2.1, HQ.out.2.2.2, HQ.out.1⟩
end Go.Proofs.Ytmiafadmcpmjgaa

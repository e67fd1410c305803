/-
  What the document's own stores answer: Chain (hourglassref10: Store.Chain).
-/
import Derived.Test.YtpnjcflfnoamoaaGreatRf
import Derived.Test.YtpnjcflfnoamoaaGreatAu40
import Derived.Deep.MidRow
namespace Go.Proofs.YtpnjcflfnoamoaaGreat
open Go.RowKit
set_option linter.unusedVariables false
set_option linter.unusedSimpArgs false

theorem own_rawC (e : TypeId) (size : Nat) (w : World) : OwnB e size w (w.alloc (.cells #[] e)) (.slice (some ⟨w.heap.size, 0, none⟩) 0 0) 0 [] :=
  ⟨World.ownsRow_made w #[] 0 (Nat.le_refl _) (by unfold maxLen; omega) (by simp), (Below.refl _ _).alloc (Nat.le_refl _) _⟩
/-- The list's cell, and where its versions lie. -/
theorem StoreR.srcC {u : World} {B p : Nat} {L : List Ver} (h : StoreR u B p L) : ∃ a c, L.length ≤ c ∧ (a = none → L.length = 0 ∧ c = 0) ∧ (∀ ad, a = some ad → ∃ bb, ad = ⟨bb, 0, none⟩) ∧ (∀ v, Below u.heap.size u v → v.cell? ⟨p, 0, none⟩ = some (.slice a L.length c)) ∧ ∀ v, Below u.heap.size u v → Lies v a (L.flatMap encV) := by
  obtain ⟨a, c, h1, h2, h3⟩ := h.list
  rcases h2.2 with ⟨e1, e2⟩ | ⟨g, cap, cur, e1, hg, hh, e5, _⟩
  · have e3 := List.eq_nil_of_length_eq_zero e2
    injection e1 with x1 x2 x3
    refine ⟨a, c, by omega, fun _ => ⟨e2, x3⟩, (fun ad e => by rw [x1] at e; cases e), fun v hb => (hb.cell (p := ⟨p, 0, none⟩) h.lt).trans h1, fun v hb => ?_⟩
    rw [e3]; exact lies_nil _ _
  · injection e1 with x1 x2 x3
    subst x1
    subst x3
    refine ⟨_, c, e5, (fun e => by cases e), fun ad e => ⟨g, by injection e with e; exact e.symm⟩, fun v hb => (hb.cell (p := ⟨p, 0, none⟩) h.lt).trans h1, fun v hb => (own_lies h2).past hb⟩
theorem slice_versM (w : World) (a : Option Addr) (ha : ∀ ad, a = some ad → ∃ bb, ad = ⟨bb, 0, none⟩) (len cap i j : Nat) (hij : i ≤ j) (hj : j ≤ cap) (hn : a = none → cap = 0) :
    (Instr.slice 63 (.slice a len cap) (some (.int .i64 (i : Int))) (some (.int .i64 (j : Int))) none).run Tryz.prog w = .ok (.slice (dropV a cap i) (j - i) (cap - i)) w := by
  cases a with
  | none =>
    obtain rfl := hn rfl
    obtain rfl : j = 0 := by omega
    obtain rfl : i = 0 := by omega
    kernel_rfl
  | some ad =>
    obtain ⟨bb, rfl⟩ := ha ad rfl
    obtain ⟨i0, z, hi, _, hsz, _⟩ := verEl.info
    have he : Tryz.prog.elem 63 = 67 := by kernel_rfl
    rw [run_slice_lh w 63 _ len cap (by rw [he]; exact Tryz.underlying63) .i64 .i64 (i : Int) (j : Int) (by omega) (by omega) (by omega), he, run_sizeOf w hi]
    have hc : Tryz.prog.cellsOf 67 = 20 := by kernel_rfl
    simp [sliced, addr_add, hc, dropV]
/-- Versions that were answered: a list that is new. -/
structure ChnA (w u : World) (a : Option Addr) (N c : Nat) (l : List Ver) : Prop where
  own : OwnB 67 20 w u (.slice a N c) N (l.flatMap encV)
  len : l.length = N
  oks : OkL l
theorem ChnA.past {w u u' : World} {a : Option Addr} {N c : Nat} {l : List Ver} (h : ChnA w u a N c l) (hb : Below u.heap.size u u') : ChnA w u' a N c l := ⟨h.own.past hb, h.len, h.oks⟩
theorem ChnA.room {w u : World} {a : Option Addr} {N c : Nat} {l : List Ver} (h : ChnA w u a N c l) : N ≤ c := by
  rcases h.own.own.2 with ⟨e1, e2⟩ | ⟨g, cap, cur, e1, _, _, e5, _⟩
  · omega
  · cases e1; exact e5
theorem ChnA.at_ {w u : World} {a : Option Addr} {N c : Nat} {l : List Ver} (h : ChnA w u a N c l) {i : Nat} {V : Ver} (hV : l[i]? = some V) : ∃ g, a = some ⟨g, 0, none⟩ ∧ ∀ v, Below u.heap.size u v → VerAt v g (i * 20) V := by
  rcases h.own.own.2 with ⟨e1, e2⟩ | ⟨g, cap, cur, e1, hg, hh, e5, _⟩
  · have e3 : l = [] := List.eq_nil_of_length_eq_zero (by have := h.len; omega)
    rw [e3] at hV; simp at hV
  · injection e1 with x1 x2 x3
    subst x1
    refine ⟨g, rfl, fun v hb => ⟨?_⟩⟩
    subst x3
    have hl := ((own_lies h.own.own).past hb).el h.oks.len hV
    rwa [Nat.zero_add] at hl
set_option maxHeartbeats 2000000 in
theorem rChain_any (B p : Nat) (L : List Ver) (k : List Int) (hk : Ky k) (w : World) (h : StoreR w B p L) :
    Calls Tryz.prog 27 #[.pointer (some ⟨p, 0, none⟩), kv k] w fun e w' => ∃ a c, e = .returned (.slice a (kMany L k) c) ∧ ChnA w w' a (kMany L k) c (chainV L k) := by
  have HV0 : Hid (Below w.heap.size w (w.alloc (.cells (kcs k) 57)) ∧ KeyAt (w.alloc (.cells (kcs k) 57)) w.heap.size 0 k) := by
    exact ⟨(Below.refl _ _).alloc (Nat.le_refl _) _, KeyAt.made w 57 k hk⟩
  obtain ⟨a0, c0, hcap, hnil, hform, hcell, hlies⟩ := h.srcC
  obtain ⟨i, hi⟩ : ∃ i, i = kFrom L k := ⟨_, rfl⟩
  obtain ⟨m, hm⟩ : ∃ m, m = kMany L k := ⟨_, rfl⟩
  obtain ⟨N, hN⟩ : ∃ N, N = L.length := ⟨_, rfl⟩
  have hle := kMany_le L k
  have hfew := h.few
  rw [← hN] at hcap hcell hle hfew hnil
  rw [← hi, ← hm] at hle
  have CH : Hid (∀ u, Below w.heap.size w u → Calls Tryz.prog 64 #[.pointer (some ⟨p, 0, none⟩), kv k] u fun e w' => e = .returned (.tuple #[.int .i64 (i : Nat), .int .i64 ((i + m : Nat) : Int)]) ∧ Below u.heap.size u w') := fun u hb => by
    rw [hi, hm]; exact rchain_any B p L k hk u (h.past hb)
  have HKK : Hid (Ky k) := hk
  have HCE : Hid (∀ v, Below w.heap.size w v → v.cell? ⟨p, 0, none⟩ = some (.slice a0 N c0)) := hcell
  have hlen := chain_len L k
  have hch : chainV L k = (L.drop i).take m := by unfold chainV; rw [← hi, ← hm]
  have HCH : Hid (chainV L k = (L.drop i).take m) := hch
  have HOC : Hid (OkL (chainV L k)) := fun V hV => h.oks V (List.mem_of_mem_drop (List.mem_of_mem_take hV))
  have HLC : Hid ((chainV L k).length = m) := by rw [hm]; exact hlen
  have HFL : Hid (((chainV L k).flatMap encV).length = m * 20) := by
    show _ = _
    rw [flat_len _ HOC.out.len, HLC.out]
  have HLI : Hid (∀ v, Below w.heap.size w v → Lies v (dropV a0 c0 i) ((chainV L k).flatMap encV)) := fun v hb => by
    have h1 := lies_dropV (k := i) hform (hlies v hb) h.oks (by rw [← hN]; exact hcap)
    have hok : OkL (L.drop i) := fun V hV => h.oks V (List.mem_of_mem_drop hV)
    rw [hch]
    have h2 := flat_take (L.drop i) m hok.len
    rw [← h2]
    cases hd : dropV a0 c0 i with
    | none => exact lies_none _ _
    | some ad =>
      rw [hd] at h1
      have hfm : ∃ bb oo, ad = ⟨bb, oo, none⟩ := by
        cases ha0 : a0 with
        | none => rw [ha0] at hd; cases hd
        | some ad0 =>
          obtain ⟨bb, rfl⟩ := hform ad0 ha0
          rw [ha0] at hd
          simp only [dropV] at hd
          split at hd
          · injection hd with e; exact ⟨_, _, e.symm⟩
          · injection hd with e; exact ⟨_, _, by rw [← e, addr_add]⟩
      obtain ⟨bb, oo, rfl⟩ := hfm
      exact h1.taken (m * 20)
  have HNI : Hid (dropV a0 c0 i = none → m = 0 ∧ c0 - i = 0) := fun e => by
    have h1 := hnil (dropV_none e)
    omega
  have hm6 : m ≤ 1000000 := by omega
  have i0 : (0 : Int) ≤ (i : Int) := by omega
  have hcast : ((i + m : Nat) : Int) = (i : Int) + (m : Int) := by push_cast; rfl
  have hsl : ∀ (u : World), (Instr.slice 63 (.slice a0 N c0) (some (.int .i64 (i : Int))) (some (.int .i64 ((i : Int) + (m : Int)))) none).run Tryz.prog u = .ok (.slice (dropV a0 c0 i) m (c0 - i)) u := fun u => by
    have h1 := slice_versM u a0 hform N c0 i (i + m) (by omega) (by omega) (fun e => (hnil e).2)
    rw [show i + m - i = m by omega] at h1
    rw [← hcast]
    exact h1
  obtain ⟨D, hD⟩ : ∃ D, D = dropV a0 c0 i := ⟨_, rfl⟩
  rw [← hD] at hsl HNI HLI
  rw [← hm]
  clear h hlies hcell hk hi hm hN hlen hch hcap hnil hform hle hD
  go_enter Tryz.func27, Tryz.ntmps27
  go_wp2_with (first | (refine wpList_load_keyD 9 (by rfl) (by rfl) _ (by rfl) w.heap.size 0 (by rfl) k HKK.out HV0.out.2 ?_) | (go_at_call 64; refine (CH.out _ HV0.out.1).mono ?_; rintro e w1 ⟨rfl, hb1⟩; have H1 : Hid (Below w.heap.size w w1) := HV0.out.1.trans (hb1.mono HV0.out.1.size); have q0 := HCE.out (w1.alloc (.cells #[] 67)) (H1.out.alloc H1.out.size _); clear hb1) | (at_builtin; refine wpList_own verEl (w0 := w1) rfl (.tmp 13) (.tmp 20) rfl _ 0 [] ((chainV L k).flatMap encV) rfl (own_rawC _ _ w1) _ _ _ rfl HFL.out (HLI.out _ (H1.out.alloc H1.out.size _)) (encs_one _) HNI.out m (Nat.zero_add _) (by omega) _ (List.nil_append _) ?_; intro a3 c3 w3 h3 h4; have O3 : Hid (OwnB 67 20 w1 w3 (.slice a3 m c3) m ((chainV L k).flatMap encV)) := h3; clear h3 h4 q0))
  all_goals go_ret
  all_goals exact ⟨a3, c3, rfl, ⟨⟨⟨O3.out.own.1, O3.out.own.2.imp (fun x => x) (fun ⟨g, cc, cur, x1, x2, x3⟩ => ⟨g, cc, cur, x1, Nat.le_trans H1.out.size x2, x3⟩)⟩, H1.out.trans (O3.out.below.mono H1.out.size)⟩, HLC.out, HOC.out⟩⟩
end Go.Proofs.YtpnjcflfnoamoaaGreat

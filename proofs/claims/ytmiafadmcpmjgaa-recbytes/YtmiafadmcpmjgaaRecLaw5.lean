/-
  What layer 14's law on records' bytes leans on: a record as the document's own, either Get at bytes that are a record's, or none.
-/
import Derived.Test.YtmiafadmcpmjgaaLa
import Derived.Test.YtmiafadmcpmjgaaRefRec1
import Derived.Test.YtmiafadmcpmjgaaRq
namespace Go.Proofs.Ytmiafadmcpmjgaa
open Go.RowKit
set_option linter.unusedVariables false
set_option linter.unusedSimpArgs false

theorem results_rrcd1 {fn : Func} {c : Tmp} (h : fn.results = #[.cell c 43]) (tmps : Array Value) (w : World) (b : Nat) (kd id s m t n : Int) (a : Option Addr) (N cp : Nat) (y : Bool) (pa : Option Addr) (M pc : Nat) (hp : tmps.getD c undef = .pointer (some ⟨b, 0, none⟩)) (hb : RBox w b kd id s m t n a N cp y pa M pc) :
    (results fn tmps).run Try.prog w = .ok (.agg #[.int .i64 kd, .int .i64 id, .int .i64 s, .int .u8 m, .int .i64 t, .int .u8 n, .slice a N cp, .bool y, .slice pa M pc]) w := by
  obtain ⟨c0, c1, c2, c3, c4, c5, c6, c7, c8⟩ := hb
  have hl := run_loadVar_mid (P := Try.prog) w b 0 43 [.int .i64 kd, .int .i64 id, .int .i64 s, .int .u8 m, .int .i64 t, .int .u8 n, .slice a N cp, .bool y, .slice pa M pc] _ (fun j v hv => by
    have hj : j = 0 ∨ j = 1 ∨ j = 2 ∨ j = 3 ∨ j = 4 ∨ j = 5 ∨ j = 6 ∨ j = 7 ∨ j = 8 := by
      have := (List.getElem?_eq_some_iff.1 hv).1
      simp at this; omega
    rw [Nat.zero_add]
    rcases hj with rfl | rfl | rfl | rfl | rfl | rfl | rfl | rfl | rfl <;> (injection hv with hv; rw [← hv]; assumption)) Try.underlying43 rfl (by rw [info_rrcd]; rfl)
  unfold results
  rw [h]
  simp only [List.mapM_toArray, List.mapM_cons, List.mapM_nil, hp]
  simp [asAddr, hl]
set_option maxHeartbeats 4000000 in
set_option maxRecDepth 8000 in
theorem rcd14_any (w : World) (kd id s m t n : Int) (a : Option Addr) (N c : Nat) (y : Bool) (pa : Option Addr) (M pc : Nat) :
    Calls Try.prog 17 #[.agg #[.int .i64 kd, .int .i64 id, .int .i64 s, .int .u8 m, .int .i64 t, .int .u8 n, .slice a N c, .bool y, .slice pa M pc]] w fun e w' => e = .returned (.agg #[.int .i64 kd, .int .i64 id, .int .i64 s, .int .u8 m, .int .i64 t, .int .u8 n, .slice a N c, .bool y, .slice pa M pc]) ∧ Below w.heap.size w w' := by
  have hb := RBox.made (w.alloc (.cells #[.int .i64 kd, .int .i64 id, .int .i64 s, .int .u8 m, .int .i64 t, .int .u8 n, .slice a N c, .bool y, .slice pa M pc] 28)) 43 kd id s m t n a N c y pa M pc
  rw [World.size_alloc] at hb
  have HBX : Hid _ := hb
  clear hb
  go_enter Try.func17, Try.ntmps17
  go_wp2
  exact bodyPost_ret (results_rrcd1 rfl _ _ (w.heap.size + 1) kd id s m t n a N c y pa M pc rfl HBX.out) rfl ⟨rfl, ((Below.refl _ _).alloc (Nat.le_refl _) _).alloc (by simp) _⟩
theorem lGet_ex2 (a : Option Addr) (cap len : Nat) (zs : List Int) (w : World) (hr : Row w a zs) (hl : zs.length = len) (hc : len ≤ cap) (hm : len ≤ 1000000) (hz : Bys zs) (kd id s m t n : Int) (l : List Wrt) (y : Bool) (ps : List Int) (E : Int) (ok : Bool) (hres : (getR zs = some ⟨kd, id, s, m, t, n, l, y, ps⟩ ∧ E = 0 ∧ ok = true) ∨ (getR zs = none ∧ E = 3 ∧ ok = false ∧ (⟨kd, id, s, m, t, n, l, y, ps⟩ : Rcd) = zeroR)) :
    Calls Try.prog 8 #[.slice a len cap] w fun e w' => ∃ (a' : Option Addr) (c' : Nat) (pa' : Option Addr) (pc' : Nat), e = .returned (.tuple #[.agg #[.int .i64 kd, .int .i64 id, .int .i64 s, .int .u8 m, .int .i64 t, .int .u8 n, .slice a' l.length c', .bool y, .slice pa' ps.length pc'], .int .i64 E]) ∧ RcW w' ⟨⟨kd, id, s, m, t, n, l, y, ps⟩, a', c', pa', pc'⟩ ∧ Below w.heap.size w w' := by
  refine (lGet_any a cap len zs w hr hl hc hm).mono ?_
  rintro e w' ⟨⟨R, a', c', pa', pc'⟩, E', rfl, h1, h2, h3, h4, h5, h6⟩
  rw [getL_eq hz] at h5
  rcases hres with ⟨g1, rfl, g3⟩ | ⟨g1, rfl, g3, g4⟩
  · rw [g1] at h5
    rcases h5 with ⟨h5, rfl⟩ | ⟨h5, _⟩
    · injection h5 with h5
      simp only at h5
      subst h5
      exact ⟨a', c', pa', pc', rfl, h1, h6⟩
    · simp at h5
  · rw [g1] at h5
    rcases h5 with ⟨h5, _⟩ | ⟨_, rfl, h5⟩
    · simp at h5
    · have e1 : R = zeroR := congrArg RcM.r h5
      rw [← g4] at e1
      subst e1
      exact ⟨a', c', pa', pc', rfl, h1, h6⟩
theorem rGet_ex2 (a : Option Addr) (cap len : Nat) (zs : List Int) (w : World) (hr : Row w a zs) (hl : zs.length = len) (hc : len ≤ cap) (hm : len ≤ 1000000) (kd id s m t n : Int) (l : List Wrt) (y : Bool) (ps : List Int) (E : Int) (ok : Bool) (hres : (getR zs = some ⟨kd, id, s, m, t, n, l, y, ps⟩ ∧ E = 0 ∧ ok = true) ∨ (getR zs = none ∧ E = 3 ∧ ok = false ∧ (⟨kd, id, s, m, t, n, l, y, ps⟩ : Rcd) = zeroR)) :
    Calls Try.prog 15 #[.slice a len cap] w fun e w' => ∃ (a' : Option Addr) (c' : Nat) (pa' : Option Addr) (pc' : Nat), e = .returned (.tuple #[.agg #[.int .i64 kd, .int .i64 id, .int .i64 s, .int .u8 m, .int .i64 t, .int .u8 n, .slice a' l.length c', .bool y, .slice pa' ps.length pc'], .bool ok]) ∧ RcW w' ⟨⟨kd, id, s, m, t, n, l, y, ps⟩, a', c', pa', pc'⟩ ∧ Below w.heap.size w w' := by
  refine (rGet_any a cap len zs w hr hl hc hm).mono ?_
  rintro e w' ⟨⟨R, a', c', pa', pc'⟩, ok', rfl, h1, h5, h6⟩
  rcases hres with ⟨g1, g2, rfl⟩ | ⟨g1, g2, rfl, g4⟩
  · rw [g1] at h5
    rcases h5 with ⟨h5, rfl⟩ | ⟨h5, _⟩
    · injection h5 with h5
      simp only at h5
      subst h5
      exact ⟨a', c', pa', pc', rfl, h1, h6⟩
    · simp at h5
  · rw [g1] at h5
    rcases h5 with ⟨h5, _⟩ | ⟨_, rfl, h5⟩
    · simp at h5
    · have e1 : R = zeroR := congrArg RcM.r h5
      rw [← g4] at e1
      subst e1
      exact ⟨a', c', pa', pc', rfl, h1, h6⟩
end Go.Proofs.Ytmiafadmcpmjgaa

/-
  Rows of numbers one behind the other: plain facts, and how a list of numbers that came in is read.
-/
import Derived.Test.YtpbjdhinogphfabArgs
namespace Go.Proofs.Ytpbjdhinogphfab
open Go.RowKit
set_option linter.unusedVariables false

/-- The bytes of numbers one behind the other. -/
def puts : List Int → List Int
  | [] => []
  | v :: r => Pl.putI v ++ puts r
theorem puts_app (xs ys : List Int) : puts (xs ++ ys) = puts xs ++ puts ys := by
  induction xs with
  | nil => rfl
  | cons v r ih => show Pl.putI v ++ puts (r ++ ys) = (Pl.putI v ++ puts r) ++ puts ys; rw [ih, List.append_assoc]
theorem puts_one (v : Int) : puts [v] = Pl.putI v := List.append_nil _
def In64 (xs : List Int) : Prop := ∀ x ∈ xs, 0 ≤ x ∧ x ≤ 18446744073709551615
theorem puts_bytes (xs : List Int) (h : In64 xs) : ∀ z ∈ puts xs, 0 ≤ z ∧ z ≤ 255 := by
  induction xs with
  | nil => intro z hz; cases hz
  | cons v r ih =>
    intro z hz
    have hv := h v (by simp)
    rcases List.mem_append.1 hz with h1 | h1
    · exact Pl.put_bytes 9 v (Pl.fits_start v hv.1 hv.2) z h1
    · exact ih (fun x hx => h x (by simp [hx])) z h1
theorem puts_length (xs : List Int) : (puts xs).length ≤ 10 * xs.length := by
  induction xs with
  | nil => simp [puts]
  | cons v r ih =>
    have h1 : (Pl.putI v).length ≤ 10 := Pl.put_length_le 9 v
    show (Pl.putI v ++ puts r).length ≤ 10 * (v :: r).length
    rw [List.length_append, List.length_cons]; omega
theorem puts_inj : ∀ (xs ys : List Int), In64 xs → In64 ys → puts xs = puts ys → xs = ys
  | [], [], _, _, _ => rfl
  | [], v :: r, _, _, h => by
    have h1 : 1 ≤ (Pl.putI v).length := Pl.put_length_pos 9 v
    have := congrArg List.length h
    have e : (puts (v :: r)).length = (Pl.putI v).length + (puts r).length := List.length_append
    have e0 : (puts []).length = 0 := rfl
    rw [e, e0] at this
    omega
  | v :: r, [], _, _, h => by
    have h1 : 1 ≤ (Pl.putI v).length := Pl.put_length_pos 9 v
    have := congrArg List.length h
    have e : (puts (v :: r)).length = (Pl.putI v).length + (puts r).length := List.length_append
    have e0 : (puts []).length = 0 := rfl
    rw [e, e0] at this
    omega
  | v :: r, u :: s, hx, hy, h => by
    have hv := hx v (by simp)
    have hu := hy u (by simp)
    have g1 := Pl.get_put v (puts r) hv.1 hv.2
    have g2 := Pl.get_put u (puts s) hu.1 hu.2
    change Pl.putI v ++ puts r = Pl.putI u ++ puts s at h
    rw [h, g2] at g1
    have hvu : u = v := congrArg Prod.fst g1
    subst hvu
    have hrs : puts r = puts s := List.append_cancel_left h
    rw [puts_inj r s (fun x hx' => hx x (by simp [hx'])) (fun x hx' => hy x (by simp [hx'])) hrs]
theorem str_inj {xs ys : List Int} (hx : ∀ z ∈ xs, 0 ≤ z ∧ z ≤ 255) (hy : ∀ z ∈ ys, 0 ≤ z ∧ z ≤ 255) (h : (strOfNums xs).toList = (strOfNums ys).toList) : xs = ys := by
  have e : ∀ zs : List Int, (strOfNums zs).toList = zs.map fun n => UInt8.ofNat n.toNat := fun zs => by rw [ByteArray.toList_eq]; exact strOfNums_data zs
  rw [e, e] at h
  have back : ∀ zs : List Int, (∀ z ∈ zs, 0 ≤ z ∧ z ≤ 255) → (zs.map fun n => UInt8.ofNat n.toNat).map (fun b => (b.toNat : Int)) = zs := by
    intro zs hz
    rw [List.map_map]
    conv => rhs; rw [← List.map_id zs]
    apply List.map_congr_left
    intro z hm
    have := hz z hm
    have hn : z.toNat < 256 := by omega
    simp [Nat.mod_eq_of_lt hn]
    omega
  have := congrArg (List.map fun b : UInt8 => (b.toNat : Int)) h
  rwa [back xs hx, back ys hy] at this

structure Row64 (w : World) (a : Option Addr) (xs : List Int) : Prop where
  nums : In64 xs
  cells : xs = [] ∨ ∃ b off, a = some ⟨b, off, none⟩ ∧ ∀ j, j < xs.length → w.cell? ⟨b, off + j, none⟩ = some (.int .u64 (xs.getD j 0))
theorem Row64.nil (w : World) (a : Option Addr) : Row64 w a [] := ⟨fun x hx => absurd hx (by simp), .inl rfl⟩
theorem Row64.below {w w' : World} {a : Option Addr} {zs : List Int} (h : Row64 w a zs) {B : Nat} (hb : Below B w w') (hB : w.heap.size ≤ B) : Row64 w' a zs := by
  refine ⟨h.1, ?_⟩
  rcases h.2 with rfl | ⟨b, off, rfl, hc⟩
  · exact .inl rfl
  · exact .inr ⟨b, off, rfl, fun j hj => by rw [hb.cell (Nat.lt_of_lt_of_le (lt_of_cell (hc j hj)) hB)]; exact hc j hj⟩
theorem row64_of {w : World} {a : Option Addr} {len cap : Nat} {z : List Int}
    (h : (a = none ∧ len = 0 ∧ cap = 0 ∧ z = []) ∨ ∃ x, a = some x ∧ len ≤ cap ∧ cap ≤ maxLen ∧ z.length = cap ∧ (∀ i, i < z.length → w.cell? (x.add i) = some (.int .u64 (z.getD i 0))) ∧ ∀ n ∈ z, (Lit.int .u64 n).wf = true) :
    ∃ zs : List Int, zs.length = len ∧ Row64 w a zs := by
  rcases h with ⟨rfl, rfl, rfl, rfl⟩ | ⟨x, rfl, hl, hm, hz, hc, hw⟩
  · exact ⟨[], rfl, Row64.nil _ _⟩
  · by_cases h0 : len = 0
    · exact ⟨[], h0.symm, Row64.nil _ _⟩
    · obtain ⟨b, off, spot⟩ := x
      have hc0 := hc 0 (by omega)
      have hspot : spot = none := by simpa [Addr.add] using World.cell?_spot hc0
      subst hspot
      refine ⟨z.take len, by simp; omega, ⟨fun n hn => bounds_u64 (hw n (List.mem_of_mem_take hn)), .inr ⟨b, off, rfl, fun j hj => ?_⟩⟩⟩
      simp at hj
      have := hc j (by omega)
      rw [add_plain] at this
      rw [this]
      have e : (z.take len).getD j 0 = z.getD j 0 := by
        have hjl : j < len := by omega
        simp [List.getD, hjl]
      rw [e]
theorem in64_at {xs : List Int} (h : In64 xs) (k : Nat) : 0 ≤ xs[k]?.getD 0 ∧ xs[k]?.getD 0 ≤ 18446744073709551615 := by
  by_cases hk : k < xs.length
  · have := h xs[k] (List.getElem_mem hk); simpa [hk] using this
  · have : xs[k]? = none := by simp; omega
    simp [this]
theorem in64_take {xs : List Int} (h : In64 xs) (k : Nat) : In64 (xs.take k) := fun x hx => h x (List.mem_of_mem_take hx)
theorem in64_drop {xs : List Int} (h : In64 xs) (k : Nat) : In64 (xs.drop k) := fun x hx => h x (List.mem_of_mem_drop hx)
theorem take_next (xs : List Int) (k : Nat) (h : k < xs.length) : puts (xs.take (k + 1)) = puts (xs.take k) ++ Pl.putI (xs[k]?.getD 0) := by
  rw [List.take_succ_eq_append_getElem h, puts_app, puts_one]; simp [h]
end Go.Proofs.Ytpbjdhinogphfab

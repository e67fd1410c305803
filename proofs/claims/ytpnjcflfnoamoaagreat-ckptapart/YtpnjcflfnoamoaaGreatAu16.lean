/-
  What the document writes: a number, a stamp, a flag behind other bytes.
  What the document reads next: a key.
  What the document writes: a text behind other bytes.
  What the document reads next: writes: what its rounds hold.
-/
import Derived.Test.YtpnjcflfnoamoaaGreatAu24
import Derived.Test.YtpnjcflfnoamoaaGreatAu19
import Derived.Test.YtpnjcflfnoamoaaGreatBase
import Derived.Test.YtpnjcflfnoamoaaGreatRd
import Derived.Test.YtpnjcflfnoamoaaGreatAu20
import Derived.Lib.LazyBuf
import Derived.Lib.AppendStr
import Derived.Test.YtpnjcflfnoamoaaGreatRp
import Derived.Test.YtpnjcflfnoamoaaGreatAu29
import Derived.Test.YtpnjcflfnoamoaaGreatAu27
namespace Go.Proofs.YtpnjcflfnoamoaaGreat
open Go.RowKit
set_option linter.unusedVariables false

end Go.Proofs.YtpnjcflfnoamoaaGreat

namespace Go.Proofs.YtpnjcflfnoamoaaGreat
open Go.RowKit
set_option linter.unusedVariables false

theorem str_cellsR {l : List Int} (h : ∀ z ∈ l, 0 ≤ z ∧ z ≤ 255) : ((strOfNums l).data.toList.map fun x => Value.int .u8 (x.toNat : Int)) = l.map (Value.int .u8) := by
  unfold strOfNums
  simp only [List.map_map]
  refine List.map_congr_left fun z hz => ?_
  have := h z hz
  simp
  omega
theorem chg_cells (q : Nat) : ∀ (vs : List Value) (o : Nat) (u : World), Chg u (u.setCells q o vs) (fun j => j = q)
  | [], _, u => Chg.refl _ _
  | v :: r, o, u => (Chg.set (X := fun j => j = q) u ⟨q, o, none⟩ v rfl).trans (chg_cells q r (o + 1) _) (fun _ _ x => x)
theorem KeyMine.chg {w w' : World} {b o : Nat} {k : List Int} {X : Foot} (h : KeyMine w b o k) (hc : Chg w w' X) (hX : ¬ X b) : KeyMine w' b o k := by
  have hl : b < w.heap.size := by
    have := h.lies.cell 0 (by omega)
    exact lt_of_cell this
  have hb := hc.block b hl hX
  exact ⟨⟨fun j hj => (cell_of_block hb _).1.trans (h.lies.cell j hj)⟩, fun i hi => (cell_of_block hb _).2.trans (h.free i hi), h.ky⟩
/-- What is copied of a text of sixteen bytes, or of none. -/
def cpyK (l : List Int) : List Int := if l = [] then zeroK else l
theorem cpy_ky {l : List Int} (h : l = [] ∨ Ky l) : Ky (cpyK l) := by
  unfold cpyK
  by_cases e : l = []
  · rw [if_pos e]; exact zeroK_ky
  · rw [if_neg e]; exact h.resolve_left e
theorem KeyMine.cpy {u : World} {q : Nat} {l : List Int} (h : KeyMine u q 0 zeroK) (hl : l = [] ∨ Ky l) : KeyMine (u.setCells q 0 ((strOfNums l).data.toList.map fun x => Value.int .u8 (x.toNat : Int))) q 0 (cpyK l) := by
  by_cases e : l = []
  · subst e; exact h
  · have hk := hl.resolve_left e
    rw [str_cellsR hk.bytes]
    unfold cpyK
    rw [if_neg e]
    exact h.store hk
theorem bytes16 {zs l r : List Int} (h : bytesP 16 zs = some (l, r)) : l.length = 16 := by
  unfold bytesP at h
  by_cases c : (zs.length : Int) < 16
  · rw [if_pos c] at h; simp at h
  · rw [if_neg c] at h
    simp only [Option.some.injEq, Prod.mk.injEq] at h
    rw [← h.1, List.length_take]
    omega
theorem Rds.cpy {o o' : Option (List Int)} {l : List Int} (h : Rds (bytesP 16) o o' l) : Rds (bytesP 16) o o' (cpyK l) := by
  cases o with
  | none => exact h
  | some zs =>
    rcases h.cases with ⟨e, rfl⟩ | ⟨r, e, rfl⟩
    · exact .no _ e
    · have h16 := bytes16 e
      have hl : l ≠ [] := fun e0 => by rw [e0] at h16; simp at h16
      unfold cpyK
      rw [if_neg hl]
      exact h
theorem results_key1 {fn : Func} {c : Tmp} (h : fn.results = #[.cell c 57]) (tmps : Array Value) (w : World) (b o : Nat) (k : List Int) (hp : tmps.getD c undef = .pointer (some ⟨b, o, none⟩)) (hk : Ky k) (hat : KeyAt w b o k) :
    (results fn tmps).run Tryz.prog w = .ok (kv k) w := by
  have hl := run_loadVar_mid (P := Tryz.prog) w b o 57 (k.map (Value.int .u8)) _ (hat.range hk) Tryz.underlying57 rfl (by rw [info_key, List.length_map, hk.len])
  unfold results
  rw [h]
  simp only [List.mapM_toArray, List.mapM_cons, List.mapM_nil, hp]
  simp [asAddr, hl]
end Go.Proofs.YtpnjcflfnoamoaaGreat

namespace Go.Proofs.YtpnjcflfnoamoaaGreat
open Go.RowKit
set_option linter.unusedVariables false

theorem strs_cells {l : List Int} (h : ∀ z ∈ l, 0 ≤ z ∧ z ≤ 255) : Lib.strCells (strOfNums l) = bs l := str_cellsR h
end Go.Proofs.YtpnjcflfnoamoaaGreat

namespace Go.Proofs.YtpnjcflfnoamoaaGreat
open Go.RowKit
set_option linter.unusedVariables false

theorem owns_stay {u u' : World} {base e size n : Nat} {v : Value} {xs : List Value} (h : u.ownsRow base e size v n xs) (hk : ∀ q, base ≤ q → q < u.heap.size → u'.heap[q]? = u.heap[q]?) : u'.ownsRow base e size v n xs := by
  refine ⟨h.1, h.2.imp id ?_⟩
  rintro ⟨g, cap, cur, rfl, h1, h2, h3⟩
  refine ⟨g, cap, cur, rfl, h1, (hk g h1 ?_).trans h2, h3⟩
  exact (h.lt g rfl).2
theorem WrtMine.chg {w w' : World} {b o : Nat} {W : Wrt} {X : Foot} (h : WrtMine w b o W) (hc : Chg w w' X) (hX : ¬ X b) : WrtMine w' b o W :=
  have hb := hc.block b (h.at_.lt h.key) hX
  ⟨⟨lies_of fun j u hj => (cell_of_block hb _).1.trans (h.at_.lies.at j u hj)⟩, fun i hi => (cell_of_block hb _).2.trans (h.free i hi), h.key⟩
theorem WrtMine.setV {w : World} {q : Nat} {W : Wrt} (h : WrtMine w q 0 W) (v : List Int) : WrtMine (w.setCell ⟨q, 16, none⟩ (.string (strOfNums v))) q 0 ⟨W.k, v, W.g⟩ := by
  have hk := kc_len h.key
  refine ⟨⟨lies_of fun j u hj => ?_⟩, fun i hi => by rw [World.frozen?_setCell]; exact h.free i hi, h.key⟩
  rw [Nat.zero_add]
  have hj' : (kc W.k ++ [Value.string (strOfNums v), Value.bool W.g])[j]? = some u := hj
  clear hj
  by_cases e : j = 16
  · subst e
    have hc := (h.at_.cells h.key).1
    rw [Nat.zero_add] at hc
    rw [World.cell?_setCell_same _ _ _ hc]
    rw [List.getElem?_append_right (by omega), hk] at hj'
    simpa using hj'
  · rw [set_off _ _ _ _ _ e]
    have h2 : (encW W)[j]? = some u := by
      unfold encW
      by_cases h16 : j < 16
      · rw [List.getElem?_append_left (by omega)] at hj' ⊢; exact hj'
      · rw [List.getElem?_append_right (by omega), hk] at hj' ⊢
        obtain ⟨m, hm⟩ : ∃ m, j - 16 = m + 1 := ⟨j - 17, by omega⟩
        rw [hm] at hj' ⊢
        exact hj'
    have := h.at_.lies.at j u h2
    rwa [Nat.zero_add] at this
/-- What the rounds hold. -/
structure WrsL (w wr : World) (g : Nat) (a : Option Addr) (cap : Nat) (zs : List Int) (o0 : Option (List Int)) (N : Nat) (v : Value) (m : Nat) : Prop where
  ex : ∃ (k : Nat) (b : Bool) (done : List Wrt), Rd wr g a cap zs k b ∧ Chg w wr (fun j => j = g) ∧ wr.ownsRow w.heap.size 95 18 v m (done.flatMap encW) ∧ (∀ W ∈ done, WrtOk W) ∧ done.length = m ∧ ∀ o2 L, Rds (manyP writeP (N - m)) (stR zs k b) o2 L → Rds (manyP writeP N) o0 o2 (done ++ L)
theorem many_seq {α : Type} {p : Pr α} {n : Nat} {o o1 o2 : Option (List Int)} {x : α} {L : List α} (h1 : Rds p o o1 x) (h2 : Rds (manyP p n) o1 o2 L) : Rds (manyP p (n + 1)) o o2 (x :: L) :=
  h1.seq (h2.seq (.ret _ _))
theorem WrsL.start {w wr : World} {g : Nat} {a : Option Addr} {cap : Nat} {zs : List Int} {k : Nat} {b : Bool} (N : Nat) (h : Rd wr g a cap zs k b) (hc : Chg w wr (fun j => j = g)) : WrsL w wr g a cap zs (stR zs k b) N (.slice none 0 0) 0 :=
  ⟨k, b, [], h, hc, ⟨rfl, .inl ⟨rfl, rfl⟩⟩, fun W hW => by simp at hW, rfl, fun o2 L h => h⟩
/-- What a round lays. -/
theorem WrsL.next {w w6 : World} {g : Nat} {a : Option Addr} {cap : Nat} {zs : List Int} {o0 : Option (List Int)} {N m k k' : Nat} {b b' : Bool} {done : List Wrt} {W : Wrt} {ax : Option Addr} {cx : Nat}
    (hf : ∀ o2 L, Rds (manyP writeP (N - m)) (stR zs k b) o2 L → Rds (manyP writeP N) o0 o2 (done ++ L)) (hm : m < N) (hd : done.length = m) (hok : ∀ X ∈ done, WrtOk X) (hW : WrtOk W)
    (R : Rd w6 g a cap zs k' b') (C : Chg w w6 (fun j => j = g)) (hown : w6.ownsRow w.heap.size 95 18 (.slice ax (m + 1) cx) (m + 1) (done.flatMap encW ++ encW W)) (D : Rds writeP (stR zs k b) (stR zs k' b') W) : WrsL w w6 g a cap zs o0 N (.slice ax (m + 1) cx) (m + 1) := by
  refine ⟨k', b', done ++ [W], R, C, by simpa using hown, fun X hX => ?_, by simp [hd], fun o2 L h => ?_⟩
  · rcases List.mem_append.1 hX with h | h
    · exact hok X h
    · simp at h; rw [h]; exact hW
  · have e : N - m = (N - (m + 1)) + 1 := by omega
    rw [List.append_assoc]
    refine hf o2 _ ?_
    rw [e]
    exact many_seq D h
end Go.Proofs.YtpnjcflfnoamoaaGreat


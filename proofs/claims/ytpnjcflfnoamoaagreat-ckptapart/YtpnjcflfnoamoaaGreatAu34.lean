/-
  Lists whose elements have several cells, in memory of their own: what copy, append of zeros and clear leave of them; and what becomes of the cells when one element is put in, or the first ones go. No function of the program is named here.
  Lists of versions of one key, and of calls on a chain, that came in: where their cells lie.
  The landed chains in memory: a block that bears a list of versions, four cells each, in a block of its own.
-/
import Derived.Test.YtpnjcflfnoamoaaGreatBase
import Derived.Laws.CopyRow
import Derived.Maps.AppendAt
import Derived.Lib.Overlaps
import Derived.Test.YtpnjcflfnoamoaaGreatPa
import Derived.ProofKit
import Derived.OpenShut
import Derived.ChangeSame
import Derived.Deep.Strs
import Derived.Deep.Slices
import Derived.Below
import Derived.Test.YtpnjcflfnoamoaaGreatPl
namespace Go.Proofs.YtpnjcflfnoamoaaGreat
open Go.RowKit
set_option linter.unusedVariables false

/-- copy(d, s) into a list of one's own: the cells of s are there. -/
theorem run_copy_els {t e : TypeId} {size bytes : Nat} (E : ElT t e size bytes) (w : World) (ty : TypeId) (g o dLen dCap : Nat) (a : Addr) (sLen sCap m : Nat) (cur : Array Value) (cs : List Value)
    (hg : w.heap[g]? = some (.cells cur e (0, 0))) (hm : Nat.min sLen dLen = m) (hn : cs.length = m * size) (hsrc : ∀ j v, cs[j]? = some v → w.cell? (a.add j) = some v) (hfit : o + cs.length ≤ cur.size) (h1 : ∀ v ∈ cs, v.oneCell' = true) :
    (Builtin.copy_ #[t, t] ty #[.slice (some ⟨g, o, none⟩) dLen dCap, .slice (some a) sLen sCap]).run Tryz.prog w =
      .ok (goInt m) (w.setRow g (cur.toList.take o ++ cs ++ cur.toList.drop (o + cs.length)).toArray) := by
  obtain ⟨i0, z, hi, hz0, hz1, hz2, hz3⟩ := E.info
  have hl := run_loadCells_list (P := Tryz.prog) w a cs hsrc
  have hst := run_storeCells_at Tryz.prog g o e cs 0 cur w hg (by simpa using hfit) h1
  rw [hn] at hl
  simp [Builtin.copy_, run_underlying E.ht, Builtin.lenOf, Builtin.firstCells, sizeOf, typeInfo, hi, hz1, hm, hl, hst]
/-- append(s, make([]T, m)...) where there is no room: a new list, zeros behind what was there. -/
theorem run_append_zeros {t e tn : TypeId} {size bytes : Nat} (E : ElT t e size bytes) (htn : Tryz.prog.underlying tn = some (.int .i64)) (w : World) (ty : TypeId) (a : Addr) (n c m : Nat) (xs : List Value) (hl : xs.length = n * size) (hxs : ∀ j u, xs[j]? = some u → w.cell? (a.add j) = some u)
    (hm : 0 < m) (hroom : c < n + m) (hfew : n + m ≤ 1000000) :
    ∃ zs rs cap', zs.length = m * size ∧ n + m ≤ cap' ∧ cap' ≤ maxLen ∧ rs.length = (cap' - (n + m)) * size ∧
    (Builtin.append_ #[t, tn] ty #[.slice (some a) n c, .int .i64 m]).run Tryz.prog w = .ok (.slice (some ⟨w.heap.size, 0, none⟩) (n + m) cap') (w.drew.alloc (.cells (xs ++ zs ++ rs).toArray e)) := by
  obtain ⟨i0, z, hi, hz0, hz1, hz2, hz3⟩ := E.info
  have hbig : (n + m) * bytes ≤ 140737488355328 := Nat.le_trans (Nat.mul_le_mul hfew E.small) (by decide)
  have hmb : m * bytes ≤ 1000000 * 1000 := Nat.mul_le_mul (by omega) E.small
  have hw : IntKind.i64.wrap (m : Int) = m := by rw [IntKind.wrap_i64]; omega
  have hneg : ¬ ((m : Int) < 0) := by omega
  have h48i : ¬ (281474976710656 < (m : Int) * (bytes : Int)) := by
    rw [← Int.natCast_mul]
    omega
  have hns : ¬ (m * size = 0) := Nat.mul_ne_zero (by omega) (by have := E.pos; omega)
  have hr : ¬ (n + m ≤ c) := by omega
  have h63 : ¬ (9223372036854775807 < (n : Int) + (m : Int)) := by omega
  have h48 : ¬ (281474976710656 < Builtin.nextslicecap (n + m) c * bytes) := by
    have := growslice_fits (bytes := bytes) hroom hbig
    omega
  have hf := run_firstCells_some (P := Tryz.prog) w.drew size n a n c xs hl hxs
  refine ⟨(Builtin.zeroCells z.cells m).toList, (Builtin.zeroCells z.cells (grownCap w (n + m) c e - (n + m))).toList, grownCap w (n + m) c e, ?_, grownCap_ge w (n + m) c e, grownCap_le_maxLen w (n + m) c e (by unfold maxLen; omega), ?_, ?_⟩
  · rw [Array.length_toList, size_zeroCells, hz3]
  · rw [Array.length_toList, size_zeroCells, hz3]
  · have e1 : (xs ++ (Builtin.zeroCells z.cells m).toList ++ (Builtin.zeroCells z.cells (grownCap w (n + m) c e - (n + m))).toList).toArray = xs.toArray ++ Builtin.zeroCells z.cells m ++ Builtin.zeroCells z.cells (grownCap w (n + m) c e - (n + m)) := by
      apply Array.toList_inj.1
      simp
    rw [e1]
    have hf2 : (Builtin.firstCells size n (.slice (some a) n c)).run Tryz.prog w.drew = .ok xs.toArray w.drew := hf
    simp [Builtin.append_, run_underlying E.ht, run_underlying htn, sizeOf, typeInfo, zeroValue, hi, hz0, hz1, hz2, asInt, asIntOf, hw, hneg, hns, hr, h63, h48, h48i, Question.forced, hf2, newRow, grownCap]
/-- clear(s) of a list of one's own: zeros are there. -/
theorem run_clear_els {t e : TypeId} {size bytes : Nat} (E : ElT t e size bytes) (hz : ∀ i z, Tryz.prog.info? e = some i → i.zero = some z → ∀ u ∈ z.cells, u.oneCell' = true) (w : World) (ty : TypeId) (g o n c : Nat) (cur : Array Value)
    (hg : w.heap[g]? = some (.cells cur e (0, 0))) (hn : 0 < n) (hfit : o + n * size ≤ cur.size) :
    ∃ zs, zs.length = n * size ∧ (Builtin.clear_ #[t] ty #[.slice (some ⟨g, o, none⟩) n c]).run Tryz.prog w = .ok (.tuple #[]) (w.setRow g (cur.toList.take o ++ zs ++ cur.toList.drop (o + zs.length)).toArray) := by
  obtain ⟨i0, z, hi, hz0, hz1, hz2, hz3⟩ := E.info
  have hl : (Builtin.zeroCells z.cells n).toList.length = n * size := by rw [Array.length_toList, size_zeroCells, hz3]
  have h1 : ∀ u ∈ (Builtin.zeroCells z.cells n).toList, u.oneCell' = true := by
    intro u hu
    simp [Builtin.zeroCells] at hu
    obtain ⟨k, hk, rfl⟩ := hu
    have hp : 0 < z.cells.size := by rw [hz3]; exact E.pos
    have hlt := Nat.mod_lt k hp
    refine hz i0 z hi hz0 _ ?_
    rw [getElem!_pos z.cells (k % z.cells.size) hlt]
    exact Array.getElem_mem hlt
  have hst := run_storeCells_at Tryz.prog g o e (Builtin.zeroCells z.cells n).toList 0 cur w hg (by rw [hl]; simpa using hfit) h1
  simp only [Nat.add_zero] at hst
  refine ⟨(Builtin.zeroCells z.cells n).toList, hl, ?_⟩
  obtain ⟨m, rfl⟩ : ∃ m, n = m + 1 := ⟨n - 1, by omega⟩
  simp [Builtin.clear_, run_underlying E.ht, zeroValue, typeInfo, hi, hz0, hst]
section
variable {α : Type}
/-- One put in where there is room: what was behind moves up, then it is laid. -/
theorem ins_room (cur v x : List α) (k n s : Nat) (hx : cur.take n = x) (hn : x.length = n) (hk : k ≤ n) (hv : v.length = s) (hfit : n + s ≤ cur.length) (c1 c2 : List α)
    (h1 : c1 = cur.take (k + s) ++ x.drop k ++ cur.drop (k + s + (x.drop k).length)) (h2 : c2 = c1.take k ++ v ++ c1.drop (k + v.length)) :
    c2.take (n + s) = x.take k ++ v ++ x.drop k ∧ c2.length = cur.length := by
  have hd : (x.drop k).length = n - k := by rw [List.length_drop, hn]
  have e1 : c1.take k = x.take k := by
    rw [h1, List.append_assoc, List.take_append_of_le_length (by rw [List.length_take]; omega), List.take_take, ← hx, List.take_take]
    congr 1
    omega
  have e2 : c1.drop (k + s) = x.drop k ++ cur.drop (k + s + (n - k)) := by
    rw [h1, List.append_assoc, List.drop_append_of_le_length (by rw [List.length_take]; omega), List.drop_take, hd]
    simp
  have hl1 : (x.take k).length = k := by rw [List.length_take]; omega
  rw [h2, hv, e1, e2]
  constructor
  · rw [← List.append_assoc]
    have : (x.take k ++ v ++ x.drop k).length = n + s := by simp only [List.length_append, hl1, hd, hv]; omega
    rw [← this]
    exact List.take_left
  · simp only [List.length_append, hl1, hd, hv, List.length_drop]
    omega
/-- One put in where there is none: it is laid into the new list, then what was behind. -/
theorem ins_grow (x v z r : List α) (k n s : Nat) (hn : x.length = n) (hk : k ≤ n) (hv : v.length = s) (hz : z.length = n + s - k) (c0 c1 c2 : List α)
    (h0 : c0 = x.take k ++ z ++ r) (h1 : c1 = c0.take k ++ v ++ c0.drop (k + v.length)) (h2 : c2 = c1.take (k + s) ++ x.drop k ++ c1.drop (k + s + (x.drop k).length)) :
    c2.take (n + s) = x.take k ++ v ++ x.drop k ∧ c2.length = n + s + r.length ∧ c1.length = n + s + r.length := by
  have hd : (x.drop k).length = n - k := by rw [List.length_drop, hn]
  have hl1 : (x.take k).length = k := by rw [List.length_take]; omega
  have l0 : c0.length = n + s + r.length := by rw [h0]; simp only [List.length_append, hl1, hz]; omega
  have e1 : c0.take k = x.take k := by
    rw [h0, List.append_assoc, List.take_append_of_le_length (by omega), List.take_take, Nat.min_self]
  have l1 : c1.length = n + s + r.length := by
    rw [h1, e1]
    simp only [List.length_append, hl1, hv, List.length_drop, l0]
    omega
  have e2 : c1.take (k + s) = x.take k ++ v := by
    rw [h1, e1]
    have : (x.take k ++ v).length = k + s := by rw [List.length_append, hl1, hv]
    rw [← this]
    exact List.take_left
  refine ⟨?_, ?_, l1⟩
  · rw [h2, e2]
    have : (x.take k ++ v ++ x.drop k).length = n + s := by simp only [List.length_append, hl1, hd, hv]; omega
    rw [← this]
    exact List.take_left
  · rw [h2, e2]
    simp only [List.length_append, hl1, hv, hd, List.length_drop, l1]
    omega
/-- The first ones go: what is behind moves down, zeros behind it. -/
theorem del_front (cur x z : List α) (k n : Nat) (hx : cur.take n = x) (hn : x.length = n) (hk : k ≤ n) (hz : z.length = k) (hfit : n ≤ cur.length) (c1 c2 : List α)
    (h1 : c1 = cur.take 0 ++ x.drop k ++ cur.drop (0 + (x.drop k).length)) (h2 : c2 = c1.take (n - k) ++ z ++ c1.drop (n - k + z.length)) :
    c2.take (n - k) = x.drop k ∧ c2.length = cur.length ∧ c1.length = cur.length := by
  have hd : (x.drop k).length = n - k := by rw [List.length_drop, hn]
  have e0 : c1 = x.drop k ++ cur.drop (n - k) := by rw [h1, hd]; simp
  have l1 : c1.length = cur.length := by rw [e0]; simp only [List.length_append, hd, List.length_drop]; omega
  have e1 : c1.take (n - k) = x.drop k := by rw [e0, ← hd]; exact List.take_left
  refine ⟨?_, ?_, l1⟩
  · rw [h2, e1, List.append_assoc, ← hd]
    exact List.take_left
  · rw [h2, e1]
    simp only [List.length_append, hd, hz, List.length_drop, l1]
    omega
end
end Go.Proofs.YtpnjcflfnoamoaaGreat

namespace Go.Proofs.YtpnjcflfnoamoaaGreat
open Go.RowKit Go.ChangeShapes Go.WideShapes Go.ChangeAt Go.Deep
set_option linter.unusedVariables false

theorem str_numsV (S : ByteArray) : ∃ ns : List Int, (∀ z ∈ ns, 0 ≤ z ∧ z ≤ 255) ∧ S = strOfNums ns := by
  refine ⟨S.data.toList.map fun b => (b.toNat : Int), fun z hz => ?_, ?_⟩
  · obtain ⟨b, _, rfl⟩ := List.mem_map.1 hz
    have := b.toNat_lt
    omega
  · apply ByteArray.ext
    apply Array.toList_inj.1
    have : (strOfNums (S.data.toList.map fun b => (b.toNat : Int))).data.toList = (S.data.toList.map fun b => (b.toNat : Int)).map fun n => UInt8.ofNat n.toNat := by rw [strOfNums_data]
    rw [this, List.map_map]
    have e : ((fun n : Int => UInt8.ofNat n.toNat) ∘ fun b : UInt8 => (b.toNat : Int)) = id := by
      funext b
      simp
    rw [e, List.map_id]
/-- A version of no key, as four cells. -/
def encC (V : Ver) : List Value := [.int .i64 V.t, .int .u8 V.n, .string (strOfNums V.v), .bool V.g]
abbrev cvv (V : Ver) : Value := .agg #[.int .i64 V.t, .int .u8 V.n, .string (strOfNums V.v), .bool V.g]
/-- A version that came in: of no key, its numbers in their bounds. -/
structure VerIn (V : Ver) : Prop where
  key : V.k = zeroK
  t : -9223372036854775808 ≤ V.t ∧ V.t ≤ 9223372036854775807
  n : 0 ≤ V.n ∧ V.n ≤ 255
  val : ∀ z ∈ V.v, 0 ≤ z ∧ z ≤ 255
  few : V.v.length ≤ maxLen
theorem VerIn.ok {V : Ver} (h : VerIn V) (hl : V.v.length ≤ 1000000) : VerOk V := ⟨by rw [h.key]; exact zeroK_ky, h.t.1, h.t.2, h.n.1, h.n.2, h.val, hl⟩
structure CVerAt (w : World) (b o : Nat) (V : Ver) : Prop where
  c0 : w.cell? ⟨b, o, none⟩ = some (.int .i64 V.t)
  c1 : w.cell? ⟨b, o + 1, none⟩ = some (.int .u8 V.n)
  c2 : w.cell? ⟨b, o + 2, none⟩ = some (.string (strOfNums V.v))
  c3 : w.cell? ⟨b, o + 3, none⟩ = some (.bool V.g)
theorem CVerAt.lt {w : World} {b o : Nat} {V : Ver} (h : CVerAt w b o V) : b < w.heap.size := lt_of_cell h.c0
theorem CVerAt.past {w w' : World} {b o : Nat} {V : Ver} (h : CVerAt w b o V) (hb : Below w.heap.size w w') : CVerAt w' b o V :=
  ⟨(hb.cell (p := ⟨b, o, none⟩) h.lt).trans h.c0, (hb.cell (p := ⟨b, o + 1, none⟩) h.lt).trans h.c1, (hb.cell (p := ⟨b, o + 2, none⟩) h.lt).trans h.c2, (hb.cell (p := ⟨b, o + 3, none⟩) h.lt).trans h.c3⟩
/-- A list of versions that came in. -/
structure CVersOf (w : World) (a : Option Addr) (cap : Nat) (xs : List Ver) : Prop where
  room : xs.length ≤ cap
  cells : xs = [] ∨ ∃ b off, a = some ⟨b, off, none⟩ ∧ ∀ i V, xs[i]? = some V → CVerAt w b (off + i * 4) V
  ins : ∀ V ∈ xs, VerIn V
theorem add_atV (b off j : Nat) : (⟨b, off, none⟩ : Addr).add j = ⟨b, off + j, none⟩ := by unfold Addr.add; split <;> simp_all
section
variable {H : Type} {enc : TypeId × Value → H} {w : World} {base : Nat} {held : Bool}
end
end Go.Proofs.YtpnjcflfnoamoaaGreat

namespace Go.Proofs.YtpnjcflfnoamoaaGreat
open Go.RowKit
set_option linter.unusedVariables false

theorem encC_len (V : Ver) : (encC V).length = 4 := rfl
theorem encC_one (V : Ver) : ∀ u ∈ encC V, u.oneCell' = true := by
  intro u hu
  unfold encC at hu
  simp at hu
  rcases hu with rfl | rfl | rfl | rfl <;> rfl
theorem encCs_one (L : List Ver) : ∀ u ∈ L.flatMap encC, u.oneCell' = true := flat_one (fun V _ => encC_one V)
theorem encCs_len (L : List Ver) : (L.flatMap encC).length = L.length * 4 := by
  induction L with
  | nil => rfl
  | cons V L ih => rw [List.flatMap_cons, List.length_append, ih, encC_len, List.length_cons]; omega
theorem encCs_take (L : List Ver) (k : Nat) : (L.flatMap encC).take (k * 4) = (L.take k).flatMap encC := flat_take L k (fun V _ => encC_len V)
theorem encCs_drop (L : List Ver) (k : Nat) : (L.flatMap encC).drop (k * 4) = (L.drop k).flatMap encC := flat_drop L k (fun V _ => encC_len V)
theorem cverEl : ElT 72 75 4 40 := ElT.mk' (z := cvv ⟨zeroK, 0, 0, [], false⟩) Tryz.underlying72 (by kernel_rfl) (by kernel_rfl) (by decide) (by decide)
set_option maxRecDepth 100000 in
theorem cver_zero : ∀ i z, Tryz.prog.info? 75 = some i → i.zero = some z → ∀ u ∈ z.cells, u.oneCell' = true := by
  intro i z hi hz u hu
  have h : (Tryz.prog.info? 75).map (fun i => i.zero) = some (some (cvv ⟨zeroK, 0, 0, [], false⟩)) := by kernel_rfl
  rw [hi] at h
  simp at h
  rw [hz] at h
  injection h with h
  subst h
  exact encC_one ⟨zeroK, 0, 0, [], false⟩ u (by simpa [Value.cells, encC] using hu)
/-- A list of versions in a block of its own. -/
abbrev CRow (u : World) (v : Value) (L : List Ver) : Prop := u.ownsRow 0 75 4 v L.length (L.flatMap encC)
theorem CRow.ver {u : World} {a : Option Addr} {c : Nat} {L : List Ver} (h : CRow u (.slice a L.length c) L) {i : Nat} {V : Ver} (hV : L[i]? = some V) : ∃ g, a = some ⟨g, 0, none⟩ ∧ g < u.heap.size ∧ CVerAt u g (i * 4) V := by
  rcases h.2 with ⟨e1, e2⟩ | ⟨g, cap, cur, e1, hg, hh, e5, e6, e7, e8⟩
  · rw [List.eq_nil_of_length_eq_zero e2] at hV
    simp at hV
  · cases e1
    have hlt := (Array.getElem?_eq_some_iff.1 hh).1
    have hl : Lies u (some ⟨g, 0, none⟩) (L.flatMap encC) := own_lies h
    have he := hl.el (fun V _ => encC_len V) hV
    rw [Nat.zero_add] at he
    refine ⟨g, rfl, hlt, ⟨?_, ?_, ?_, ?_⟩⟩
    · exact he.at 0 _ rfl
    · exact he.at 1 _ rfl
    · exact he.at 2 _ rfl
    · exact he.at 3 _ rfl
/-- A chain in block p; its blocks are those of X. -/
structure ChD (u : World) (p : Nat) (L : List Ver) (X : Foot) : Prop where
  own : X p
  lt : ∀ k, X k → k < u.heap.size
  chn : Chn L
  list : ∃ a c, u.cell? ⟨p, 0, none⟩ = some (.slice a L.length c) ∧ CRow u (.slice a L.length c) L ∧ ∀ k, (Value.slice a L.length c).ownBlock = some k → X k ∧ k ≠ p
  free : u.frozen? ⟨p, 0, none⟩ = false
  ty : ∃ cs fz, u.heap[p]? = some (.cells cs 139 fz)
theorem crow_kept {u u' : World} {v : Value} {L : List Ver} (h : CRow u v L) (hk : ∀ k, v.ownBlock = some k → u'.heap[k]? = u.heap[k]?) : CRow u' v L := by
  refine ⟨h.1, ?_⟩
  rcases h.2 with h0 | ⟨g, cap, cur, e1, hg, hh, r⟩
  · exact .inl h0
  · exact .inr ⟨g, cap, cur, e1, hg, (hk g (by rw [e1]; rfl)).trans hh, r⟩
theorem ChD.kept {u u' : World} {p : Nat} {L : List Ver} {X : Foot} (h : ChD u p L X) (hs : u.heap.size ≤ u'.heap.size) (hk : ∀ k, X k → u'.heap[k]? = u.heap[k]?) : ChD u' p L X := by
  obtain ⟨a, c, h1, h2, h3⟩ := h.list
  exact ⟨h.own, fun k hk => Nat.lt_of_lt_of_le (h.lt k hk) hs, h.chn, ⟨a, c, (cell_kept (hk p h.own) 0).trans h1, crow_kept h2 (fun k e => hk k (h3 k e).1), h3⟩, (frozen_kept (hk p h.own) 0).trans h.free, by rw [hk p h.own]; exact h.ty⟩
theorem ChD.past {u u' : World} {p : Nat} {L : List Ver} {X : Foot} (h : ChD u p L X) (hb : Below u.heap.size u u') : ChD u' p L X := h.kept hb.size (fun k x => hb.block k (h.lt k x))
/-- The list's cell, and each version of it, in every world behind. -/
theorem ChD.open {u : World} {p : Nat} {L : List Ver} {X : Foot} (h : ChD u p L X) : ∃ a c, L.length ≤ c ∧ c ≤ maxLen ∧ (a = none → L = [] ∧ c = 0) ∧ (∀ v, Below u.heap.size u v → v.cell? ⟨p, 0, none⟩ = some (.slice a L.length c) ∧ CRow v (.slice a L.length c) L) ∧ (L = [] ∨ ∃ g, a = some ⟨g, 0, none⟩ ∧ g < u.heap.size ∧ ∀ v, Below u.heap.size u v → ∀ i V, L[i]? = some V → CVerAt v g (i * 4) V) := by
  obtain ⟨a, c, h1, h2, h3⟩ := h.list
  have hb : ∀ v, Below u.heap.size u v → v.cell? ⟨p, 0, none⟩ = some (.slice a L.length c) ∧ CRow v (.slice a L.length c) L := fun v hb =>
    ⟨(hb.cell (p := ⟨p, 0, none⟩) (h.lt p h.own)).trans h1, own_below h2 hb (Nat.le_refl _)⟩
  have hc : L.length ≤ c ∧ c ≤ maxLen ∧ (a = none → L = [] ∧ c = 0) ∧ (L = [] ∨ ∃ g, a = some ⟨g, 0, none⟩ ∧ g < u.heap.size) := by
    rcases h2.2 with ⟨e1, e2⟩ | ⟨g, cap, cur, e1, _, hh, e5, e6, _⟩
    · have hn := List.eq_nil_of_length_eq_zero e2
      subst hn
      cases e1
      exact ⟨Nat.le_refl _, Nat.zero_le _, fun _ => ⟨rfl, rfl⟩, .inl rfl⟩
    · cases e1
      exact ⟨e5, e6, fun h => (by cases h), .inr ⟨g, rfl, (Array.getElem?_eq_some_iff.1 hh).1⟩⟩
  refine ⟨a, c, hc.1, hc.2.1, hc.2.2.1, hb, ?_⟩
  rcases hc.2.2.2 with e | ⟨g, rfl, hg⟩
  · exact .inl e
  · refine .inr ⟨g, rfl, hg, fun v hv i V hV => ?_⟩
    obtain ⟨g', e, _, hat⟩ := (hb v hv).2.ver hV
    injection e with e
    injection e with e
    subst e
    exact hat
end Go.Proofs.YtpnjcflfnoamoaaGreat


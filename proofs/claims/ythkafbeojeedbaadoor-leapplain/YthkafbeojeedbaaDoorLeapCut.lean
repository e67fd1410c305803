/-
  Plain facts on the landed reading of tables: a text cut at a byte, its lines counted, an offset's digits as the library writes and reads them, a table's own text.
-/
import Derived.Test.YthkafbeojeedbaaDoorCivilP
import Derived.Test.YthkafbeojeedbaaDoorLeapClock
import Derived.Lib.CutLaws
import Derived.Lib.AtoiTie
namespace Go.Proofs.YthkafbeojeedbaaDoor
open Go.RowKit
set_option linter.unusedVariables false

/-- A text, cut around the first byte c: what is ahead, what is behind, is there one. -/
def cut1 (c : Int) : List Int → List Int × List Int × Bool
  | [] => ([], [], false)
  | z :: r => if z = c then ([], r, true) else (z :: (cut1 c r).1, (cut1 c r).2.1, (cut1 c r).2.2)
theorem lib_cut_hit (b : UInt8) (l : List UInt8) : Lib.cut (b :: l) [b] = ([], l, true) := by
  have h : Lib.index (b :: l) [b] = 0 := by
    unfold Lib.index
    rw [if_pos (by simp [List.isPrefixOf])]
  unfold Lib.cut
  rw [h, if_pos (by decide)]
  simp
theorem lib_cut_miss (b c : UInt8) (l : List UInt8) (hne : b ≠ c) : Lib.cut (b :: l) [c] = (b :: (Lib.cut l [c]).1, (Lib.cut l [c]).2.1, (Lib.cut l [c]).2.2) := by
  have hp : ([c] : List UInt8).isPrefixOf (b :: l) = false := by simp [List.isPrefixOf]; exact fun h => hne h.symm
  have hge := Lib.index_ge l [c]
  have h : Lib.index (b :: l) [c] = if Lib.index l [c] == -1 then -1 else Lib.index l [c] + 1 := by
    show (if ([c] : List UInt8).isPrefixOf (b :: l) then (0 : Int) else _) = _
    rw [hp]
    rfl
  unfold Lib.cut
  rw [h]
  by_cases hm : Lib.index l [c] = -1
  · rw [hm]; simp
  · have e : (Lib.index l [c] == -1) = false := by simpa using hm
    rw [e]
    obtain ⟨i, hi⟩ : ∃ i : Nat, Lib.index l [c] = i := ⟨(Lib.index l [c]).toNat, by omega⟩
    rw [hi]
    have e1 : ((i : Int) + 1).toNat = i + 1 := by omega
    rw [show (if false = true then (-1 : Int) else (i : Int) + 1) = (i : Int) + 1 from rfl, if_pos (by omega), if_pos (by omega), e1]
    simp
theorem byte_inj {a b : Int} (ha : 0 ≤ a ∧ a ≤ 255) (hb : 0 ≤ b ∧ b ≤ 255) (h : UInt8.ofNat a.toNat = UInt8.ofNat b.toNat) : a = b := by
  have := congrArg UInt8.toNat h
  simp at this
  omega
theorem cut1_lib (c : Int) (hc : 0 ≤ c ∧ c ≤ 255) : ∀ (xs : List Int), (∀ z ∈ xs, 0 ≤ z ∧ z ≤ 255) → Lib.cut (bts xs) [UInt8.ofNat c.toNat] = (bts (cut1 c xs).1, bts (cut1 c xs).2.1, (cut1 c xs).2.2)
  | [], _ => rfl
  | z :: r, h => by
    have hz := h z (by simp)
    have ih := cut1_lib c hc r (fun y hy => h y (by simp [hy]))
    show Lib.cut (UInt8.ofNat z.toNat :: bts r) _ = _
    by_cases e : z = c
    · subst e
      rw [lib_cut_hit]
      simp [cut1, bts]
    · rw [lib_cut_miss _ _ _ (fun h => e (byte_inj hz hc h)), ih]
      simp [cut1, e, bts]
theorem cut1_by {P : Int → Prop} (c : Int) : ∀ (xs : List Int), (∀ z ∈ xs, P z) → (∀ z ∈ (cut1 c xs).1, P z) ∧ ∀ z ∈ (cut1 c xs).2.1, P z
  | [], _ => ⟨fun z h => by simp [cut1] at h, fun z h => by simp [cut1] at h⟩
  | z :: r, h => by
    obtain ⟨a, b⟩ := cut1_by c r (fun y hy => h y (by simp [hy]))
    unfold cut1
    split
    · exact ⟨fun z h => by simp at h, fun y hy => h y (by simp; exact .inr hy)⟩
    · refine ⟨fun y hy => ?_, b⟩
      rcases List.mem_cons.1 hy with rfl | h1
      · exact h _ (by simp)
      · exact a y h1
theorem cut1_len (c : Int) : ∀ (xs : List Int), (cut1 c xs).1.length ≤ xs.length ∧ (cut1 c xs).2.1.length ≤ xs.length ∧ ((cut1 c xs).2.2 = true → (cut1 c xs).2.1.length < xs.length)
  | [] => by simp [cut1]
  | z :: r => by
    obtain ⟨a, b, d⟩ := cut1_len c r
    unfold cut1
    split
    · simp
    · refine ⟨by simp; omega, by simp; omega, fun h => ?_⟩
      have := d h
      simp; omega
theorem spl_hit : ∀ (xs acc : List Int), (cut1 10 xs).2.2 = true → spl acc xs = ((acc ++ (cut1 10 xs).1) :: (linesOf (cut1 10 xs).2.1).1, (linesOf (cut1 10 xs).2.1).2)
  | [], acc, h => by simp [cut1] at h
  | z :: r, acc, h => by
    by_cases e : z = 10
    · simp [cut1, spl, e, linesOf]
    · have h' : (cut1 10 r).2.2 = true := by simpa [cut1, e] using h
      have ih := spl_hit r (acc ++ [z]) h'
      simp [cut1, spl, e, ih]
theorem spl_miss : ∀ (xs acc : List Int), (cut1 10 xs).2.2 = false → spl acc xs = ([], acc ++ xs)
  | [], acc, h => by simp [spl]
  | z :: r, acc, h => by
    by_cases e : z = 10
    · simp [cut1, e] at h
    · have h' : (cut1 10 r).2.2 = false := by simpa [cut1, e] using h
      have ih := spl_miss r (acc ++ [z]) h'
      simp [spl, e, ih]
theorem lines_hit {xs : List Int} (h : (cut1 10 xs).2.2 = true) : linesOf xs = ((cut1 10 xs).1 :: (linesOf (cut1 10 xs).2.1).1, (linesOf (cut1 10 xs).2.1).2) := by
  have := spl_hit xs [] h
  simpa [linesOf] using this
theorem lines_miss {xs : List Int} (h : (cut1 10 xs).2.2 = false) : linesOf xs = ([], xs) := by
  have := spl_miss xs [] h
  simpa [linesOf] using this
theorem spl_count : ∀ (xs acc : List Int), (∀ z ∈ xs, 0 ≤ z ∧ z ≤ 255) → Lib.countByte (bts xs) 10 = (spl acc xs).1.length
  | [], acc, _ => rfl
  | z :: r, acc, h => by
    have hz := h z (by simp)
    have ih := fun acc => spl_count r acc (fun y hy => h y (by simp [hy]))
    show List.count (10 : UInt8) (UInt8.ofNat z.toNat :: bts r) = _
    by_cases e : z = 10
    · subst e
      have := ih []
      unfold Lib.countByte at this
      rw [show UInt8.ofNat (10 : Int).toNat = 10 by decide, List.count_cons_self, this]
      simp [spl]
    · have := ih (acc ++ [z])
      unfold Lib.countByte at this
      rw [List.count_cons_of_ne (fun h => e (byte_inj hz (by decide) (h.trans (by decide)))), this]
      simp [spl, e]
theorem cut1_32 : ∀ l : List Int, (cut1 32 l).1 = l.take (cutAt l) ∧ (cut1 32 l).2.1 = l.drop (cutAt l + 1)
  | [] => by simp [cut1, cutAt]
  | z :: r => by
    obtain ⟨a, b⟩ := cut1_32 r
    by_cases e : z = 32
    · simp [cut1, cutAt, e]
    · simp [cut1, cutAt, e, a, b]
theorem off_nil : offN [] = none := by
  cases h : offN [] with
  | none => rfl
  | some n =>
    obtain ⟨h1, h2⟩ := off_some h
    have := (ot_rest h1).2.1
    rw [h2] at this
    simp [rest] at this
/-- A line's reading, by its two pieces alone. -/
theorem pl_cut (l : List Int) : plN l = match parseN (cut1 32 l).1, offN (cut1 32 l).2.1 with
    | some p, some n => some (dayN p.1 p.2.1 p.2.2, n)
    | _, _ => none := by
  obtain ⟨a, b⟩ := cut1_32 l
  rw [a, b]
  unfold plN
  split
  · rename_i h
    rw [List.drop_of_length_le (by omega), off_nil]
    split
    · rename_i h2; cases h2
    · rfl
  · rfl
theorem dec_nd (u : Nat) (h : u ≤ 9999) : Lib.decDigits u = bts (pd (nd u) u) := by
  have hlen : (Lib.decDigits u).length = nd u := by
    have key : (Lib.decDigits u).length = Lib.nDigits u := Lib.decDigits_length u
    rw [key]
    unfold nd
    by_cases h1 : u < 10
    · rw [Lib.nDigits, dif_pos h1, if_pos (by omega)]
    · rw [Lib.nDigits, dif_neg h1, if_neg (by omega)]
      by_cases h2 : u / 10 < 10
      · rw [Lib.nDigits, dif_pos h2, if_pos (by omega)]
      · rw [Lib.nDigits, dif_neg h2, if_neg (by omega)]
        by_cases h3 : u / 10 / 10 < 10
        · rw [Lib.nDigits, dif_pos h3, if_pos (by omega)]
        · rw [Lib.nDigits, dif_neg h3, if_neg (by omega), Lib.nDigits, dif_pos (by omega)]
  have hlt : u < 10 ^ nd u := by
    have := nd_lt (n := (u : Int)) (by omega)
    exact_mod_cast this
  have := (dec_pd (nd u) u hlt (nd_range u).1).2
  rw [hlen] at this
  simpa using this
theorem itoa_ot {n : Int} (h : -9999 ≤ n ∧ n ≤ 9999) : Lib.itoa n = bts (ot n) := by
  unfold ot
  by_cases hn : n < 0
  · rw [if_pos hn]
    obtain ⟨u, hu⟩ : ∃ u : Nat, -n = (u : Int) := ⟨(-n).toNat, by omega⟩
    have e : n = -(u : Int) := by omega
    rw [hu, e, Lib.itoa_neg u (by omega), dec_nd u (by omega)]
    rfl
  · rw [if_neg hn]
    obtain ⟨u, rfl⟩ : ∃ u : Nat, n = (u : Int) := ⟨n.toNat, by omega⟩
    rw [Lib.itoa_nonneg, dec_nd u (by omega)]
theorem atoi_ot {n : Int} (h : -9999 ≤ n ∧ n ≤ 9999) : Lib.atoiAll (bts (ot n)) = .ok n := by
  obtain ⟨h1, h2, h3, h4⟩ := ot_rest h
  have hl : (ot n).length ≤ 5 := by
    unfold rest at h3
    split at h3
    · rw [List.length_tail] at h3; omega
    · omega
  rw [Lib.atoiAll_short _ (by simp [bts]; omega)]
  have hv : Lib.atoi (bts (ot n)) = some n := by
    unfold ot
    by_cases hn : n < 0
    · rw [if_pos hn]
      have hne : pd (nd (-n)) (-n) ≠ [] := fun e => by have := pd_len (nd (-n)) (-n); rw [e] at this; have := nd_range (-n); simp at *; omega
      have hd := decNat_dig (pd_dig (nd (-n)) (-n)) hne
      have : Lib.atoi (bts (45 :: pd (nd (-n)) (-n))) = (Lib.decNat (bts (pd (nd (-n)) (-n)))).map fun (m : Nat) => -(m : Int) := rfl
      rw [this, hd, vl_nd (by omega) (by omega)]
      show some (-(((-n).toNat : Nat) : Int)) = _
      congr 1
      omega
    · rw [if_neg hn]
      obtain ⟨z, r, hz, z1, z2⟩ := pd_ne' (nd_range n).1 n
      have hne : pd (nd n) n ≠ [] := by rw [hz]; simp
      have hd := decNat_dig (pd_dig (nd n) n) hne
      have hv := nv_dig (pd_dig (nd n) n) hne
      rw [vl_nd (by omega) (by omega)] at hv hd
      rw [hz] at hd hv ⊢
      have e : (UInt8.ofNat z.toNat).toNat = z.toNat := by simp; omega
      have n1 : ¬ (UInt8.ofNat z.toNat == 45) = true := by
        intro hh
        have := congrArg UInt8.toNat (eq_of_beq hh)
        rw [e] at this
        have e2 : (45 : UInt8).toNat = 45 := rfl
        omega
      have n2 : ¬ (UInt8.ofNat z.toNat == 43) = true := by
        intro hh
        have := congrArg UInt8.toNat (eq_of_beq hh)
        rw [e] at this
        have e2 : (43 : UInt8).toNat = 43 := rfl
        omega
      have h5 : Lib.atoi (bts (z :: r)) = (Lib.decNat (bts (z :: r))).map fun (m : Nat) => (m : Int) := by
        show (if (UInt8.ofNat z.toNat == 45) = true then _ else if (UInt8.ofNat z.toNat == 43) = true then _ else _) = _
        rw [if_neg n1, if_neg n2]
        rfl
      rw [h5, hd]
      show some ((n.toNat : Nat) : Int) = _
      congr 1
      omega
  rw [hv]
  rfl
/-- A table and its text. -/
def TextOf : Tb → List Int → Prop
  | [], xs => xs = []
  | p :: tb, xs => ∃ (y m d : Int) (r : List Int), Gd y m d ∧ dayN y m d = p.1 ∧ (-9999 ≤ p.2 ∧ p.2 ≤ 9999) ∧ TextOf tb r ∧ xs = txt y m d ++ 32 :: (ot p.2 ++ 10 :: r)
theorem pl_text {l : List Int} {p : Int × Int} (h : plN l = some p) : ∃ y m d, Gd y m d ∧ dayN y m d = p.1 ∧ (-9999 ≤ p.2 ∧ p.2 ≤ 9999) ∧ l = txt y m d ++ 32 :: ot p.2 := by
  unfold plN at h
  split at h
  · cases h
  · rename_i hc
    split at h
    · rename_i q n h1 h2
      cases h
      obtain ⟨y, m, d⟩ := q
      obtain ⟨g, e⟩ := parse_some h1
      obtain ⟨r, e2⟩ := off_some h2
      have hlt : cutAt l < l.length := by have := cut_le l; omega
      refine ⟨y, m, d, g, rfl, r, ?_⟩
      have a := cut_at l hlt
      have e3 : l[cutAt l]?.getD 0 = l[cutAt l] := by simp [hlt]
      have e4 : l.drop (cutAt l) = 32 :: l.drop (cutAt l + 1) := by
        rw [List.drop_eq_getElem_cons hlt, ← e3, a]
      show l = txt y m d ++ 32 :: ot n
      rw [e, e2, ← e4, List.take_append_drop]
    · cases h
theorem spl_join : ∀ (xs acc : List Int), acc ++ xs = ((spl acc xs).1.map (· ++ [10])).flatten ++ (spl acc xs).2
  | [], acc => by simp [spl]
  | z :: r, acc => by
    by_cases e : z = 10
    · have := spl_join r []
      simp only [spl, if_pos e, List.map_cons, List.flatten_cons]
      rw [List.append_assoc, ← this, e]
      simp
    · have := spl_join r (acc ++ [z])
      simp only [spl, if_neg e]
      rw [← this]
      simp
theorem go_text : ∀ (ls : List (List Int)) (acc tb : Tb), goN acc ls = some tb → ∃ tl, tb = acc ++ tl ∧ TextOf tl (ls.map (· ++ [10])).flatten
  | [], acc, tb, h => by cases h; exact ⟨[], by simp, rfl⟩
  | l :: r, acc, tb, h => by
    unfold goN at h
    split at h
    · cases h
    · rename_i p hp
      split at h
      · obtain ⟨tl, h1, h2⟩ := go_text r (acc ++ [p]) tb h
        obtain ⟨y, m, d, g, hd, hr, rfl⟩ := pl_text hp
        refine ⟨p :: tl, by rw [h1]; simp, ?_⟩
        exact ⟨y, m, d, _, g, hd, hr, h2, by simp⟩
      · cases h
theorem parse_text {xs : List Int} {tb : Tb} (h : parseTb xs = some tb) : TextOf tb xs := by
  unfold parseTb at h
  split at h
  · rename_i hc
    obtain ⟨tl, h1, h2⟩ := go_text _ _ _ h
    have e := spl_join xs []
    rw [show (spl [] xs).2 = [] from hc.2.1] at e
    simp at e
    rw [h1, e]
    simpa [linesOf] using h2
  · cases h
end Go.Proofs.YthkafbeojeedbaaDoor

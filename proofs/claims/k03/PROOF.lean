import PyProof.Rows.All
import Wide.All
import OpenK.AllK
import Wide.FinOn
import HandS.ForMost
import HandS.Flow
import HandS.Wide
import HandS.WideBits
import HandS.NoneIn
import HandS.IsInst
import PyProof.Rows.RegReprOcc
import KE.KExcIs
import HandS.Base
import HandS.Call
import HandS.List
import HandS.Ends
import HandS.Exc
import HandS.ExcInit
import HandS.ExcField
import HandS.ExcIs
import HandS.Defaults
import HandS.MakeKwOnly
import PyProof.ReprRoads
import PyProof.ReprReads
import PyProof.StrLawsRepr
import HandS.ExcValue
import HandS.Words
import HandS.Codes
import HandS.Dict
import HandS.DeepEq
import PyProof.NeData
import HandS.Style
import HandS.Text
import PyProof.Rows.StrRev
import PyProof.StrOps2
import KE.KRevSl
import HandS.Replace
import HandS.ReplaceLit
import HandS.Iter
import HandS.Steps
import HandS.StrMore
import PyProof.EqLayable
import PyProof.Rows.StrStrike
import HandS.WordsExc
import PySem.Challenge.RW_treeturns_k03_parts_of_trees
set_option Elab.async false
set_option linter.all false
set_option maxRecDepth 100000
set_option maxHeartbeats 4000000
set_option linter.all false
/-! Trees, plainly: growing, hanging, meet and join. -/
namespace TT
inductive Tr where
  | leaf
  | node (l r : Tr)
  deriving DecidableEq
namespace Tr
def size : Tr → Nat
  | leaf => 0
  | node l r => l.size + r.size + 1
/-- the text's length -/
def len : Tr → Nat
  | leaf => 1
  | node l r => l.len + r.len + 2
/-- the text -/
def cs : Tr → List Nat
  | leaf => [46]
  | node l r => 40 :: (l.cs ++ (r.cs ++ [41]))
theorem cs_length : ∀ t : Tr, t.cs.length = t.len
  | leaf => rfl
  | node l r => by simp [cs, len, cs_length l, cs_length r]; omega
theorem len_size : ∀ t : Tr, t.len = 3 * t.size + 1
  | leaf => rfl
  | node l r => by simp [size, len, len_size l, len_size r]; omega
theorem len_pos (t : Tr) : 0 < t.len := by rw [len_size]; omega
theorem cs_inj' : ∀ (s t : Tr) (a b : List Nat), s.cs ++ a = t.cs ++ b → s = t ∧ a = b
  | leaf, leaf, a, b, h => by simp [cs] at h; exact ⟨rfl, h⟩
  | leaf, node l r, a, b, h => by simp [cs] at h
  | node l r, leaf, a, b, h => by simp [cs] at h
  | node l r, node l' r', a, b, h => by
    simp only [cs, List.cons_append, List.append_assoc, List.cons.injEq, true_and] at h
    obtain ⟨e1, h1⟩ := cs_inj' l l' _ _ h
    obtain ⟨e2, h2⟩ := cs_inj' r r' _ _ h1
    simp at h2
    exact ⟨by rw [e1, e2], h2⟩
theorem cs_inj {s t : Tr} (h : s.cs = t.cs) : s = t := (cs_inj' s t [] [] (by rw [h])).1

/-- number of leaves -/
def lvs : Tr → Nat
  | leaf => 1
  | node l r => l.lvs + r.lvs
theorem lvs_size : ∀ t : Tr, t.lvs = t.size + 1
  | leaf => rfl
  | node l r => by simp [lvs, size, lvs_size l, lvs_size r]; omega

/-- grow the tree by the list, and what is left of it -/
def growR : Tr → List Tr → Tr × List Tr
  | leaf, [] => (leaf, [])
  | leaf, x :: xs => (x, xs)
  | node l r, xs => ((node (l.growR xs).1 (r.growR (l.growR xs).2).1), (r.growR (l.growR xs).2).2)
def grow (t : Tr) (xs : List Tr) : Tr := (t.growR xs).1
/-- the list with which the second tree grows into the first -/
def hang : Tr → Tr → Option (List Tr)
  | s, leaf => some [s]
  | leaf, node _ _ => none
  | node a b, node c d => (hang a c).bind fun x => (hang b d).map fun y => x ++ y
def meet : Tr → Tr → Tr
  | node a b, node c d => node (meet a c) (meet b d)
  | _, _ => leaf
def join : Tr → Tr → Tr
  | leaf, t => t
  | s, leaf => s
  | node a b, node c d => node (join a c) (join b d)

theorem growR_len : ∀ (t : Tr) (xs : List Tr), t.lvs ≤ xs.length → (t.growR xs).2.length + t.lvs = xs.length
  | leaf, [], h => by simp [lvs] at h
  | leaf, x :: xs, h => by simp [growR, lvs]
  | node l r, xs, h => by
    simp only [lvs] at h
    have h1 := growR_len l xs (by omega)
    have h2 := growR_len r (l.growR xs).2 (by omega)
    simp only [growR, lvs]
    omega
theorem hang_len : ∀ (s c : Tr) (xs : List Tr), hang s c = some xs → xs.length = c.lvs
  | s, leaf, xs, h => by simp [hang] at h; subst h; rfl
  | leaf, node _ _, xs, h => by simp [hang] at h
  | node a b, node c d, xs, h => by
    simp only [hang, Option.bind_eq_some_iff, Option.map_eq_some_iff] at h
    obtain ⟨x, hx, y, hy, rfl⟩ := h
    simp [lvs, hang_len a c x hx, hang_len b d y hy]
theorem growR_hang : ∀ (s c : Tr) (xs rest : List Tr), hang s c = some xs → c.growR (xs ++ rest) = (s, rest)
  | s, leaf, xs, rest, h => by simp [hang] at h; subst h; rfl
  | leaf, node _ _, xs, rest, h => by simp [hang] at h
  | node a b, node c d, xs, rest, h => by
    simp only [hang, Option.bind_eq_some_iff, Option.map_eq_some_iff] at h
    obtain ⟨x, hx, y, hy, rfl⟩ := h
    simp only [growR, List.append_assoc, growR_hang a c x _ hx, growR_hang b d y _ hy]
theorem grow_hang {s c : Tr} {xs : List Tr} (h : hang s c = some xs) : c.grow xs = s := by
  have := growR_hang s c xs [] h
  rw [List.append_nil] at this
  unfold grow; rw [this]
/-- hanging what was grown -/
theorem hang_growR : ∀ (c : Tr) (xs : List Tr), c.lvs ≤ xs.length → hang (c.growR xs).1 c = some (xs.take c.lvs) ∧ (c.growR xs).2 = xs.drop c.lvs
  | leaf, [], h => by simp [lvs] at h
  | leaf, x :: xs, h => by simp [growR, hang, lvs]
  | node l r, xs, h => by
    simp only [lvs] at h
    obtain ⟨h1, e1⟩ := hang_growR l xs (by omega)
    have hl : r.lvs ≤ (l.growR xs).2.length := by rw [e1, List.length_drop]; omega
    obtain ⟨h2, e2⟩ := hang_growR r (l.growR xs).2 hl
    refine ⟨?_, ?_⟩
    · simp only [growR, hang, h1, h2, Option.bind_some, Option.map_some, lvs]
      rw [e1, List.take_add]
    · show (r.growR (l.growR xs).2).2 = _
      rw [e2, e1, List.drop_drop]; rfl
theorem hang_grow {c : Tr} {xs : List Tr} (h : xs.length = c.lvs) : hang (c.grow xs) c = some xs := by
  have := (hang_growR c xs (by omega)).1
  unfold grow; rw [this, ← h, List.take_length]

theorem meet_comm : ∀ s t : Tr, meet s t = meet t s
  | leaf, leaf => rfl
  | leaf, node _ _ => rfl
  | node _ _, leaf => rfl
  | node a b, node c d => by simp only [meet, meet_comm a c, meet_comm b d]
theorem join_comm : ∀ s t : Tr, join s t = join t s
  | leaf, leaf => rfl
  | leaf, node _ _ => rfl
  | node _ _, leaf => rfl
  | node a b, node c d => by simp only [join, join_comm a c, join_comm b d]
theorem meet_leaf (t : Tr) : meet t leaf = leaf := by cases t <;> rfl
theorem leaf_meet (t : Tr) : meet leaf t = leaf := rfl
theorem join_leaf (t : Tr) : join t leaf = t := by cases t <;> rfl
theorem leaf_join (t : Tr) : join leaf t = t := rfl
theorem meet_self : ∀ t : Tr, meet t t = t
  | leaf => rfl
  | node a b => by simp only [meet, meet_self a, meet_self b]
theorem join_self : ∀ t : Tr, join t t = t
  | leaf => rfl
  | node a b => by simp only [join, join_self a, join_self b]
theorem meet_assoc : ∀ a b c : Tr, meet (meet a b) c = meet a (meet b c)
  | leaf, _, _ => rfl
  | node _ _, leaf, c => by simp [meet]
  | node _ _, node _ _, leaf => by simp [meet]
  | node a b, node c d, node e f => by simp only [meet, meet_assoc a c e, meet_assoc b d f]
theorem join_assoc : ∀ a b c : Tr, join (join a b) c = join a (join b c)
  | leaf, _, _ => rfl
  | node _ _, leaf, c => by rw [join_leaf, leaf_join]
  | node a b, node c d, leaf => by rw [join_leaf, join_leaf]
  | node a b, node c d, node e f => by simp only [join, join_assoc a c e, join_assoc b d f]
theorem join_meet_self : ∀ a b : Tr, join a (meet a b) = a
  | leaf, _ => rfl
  | node _ _, leaf => rfl
  | node a b, node c d => by simp only [meet, join, join_meet_self a c, join_meet_self b d]
theorem meet_join_self : ∀ a b : Tr, meet a (join a b) = a
  | leaf, _ => rfl
  | node a b, leaf => by rw [join_leaf, meet_self]
  | node a b, node c d => by simp only [meet, join, meet_join_self a c, meet_join_self b d]
theorem join_meet_distrib : ∀ a b c : Tr, join a (meet b c) = meet (join a b) (join a c)
  | leaf, b, c => rfl
  | node a b, leaf, c => by rw [leaf_meet, join_leaf, meet_join_self]
  | node a b, node c d, leaf => by rw [meet_leaf, join_leaf, meet_comm, meet_join_self]
  | node a b, node c d, node e f => by simp only [meet, join, join_meet_distrib a c e, join_meet_distrib b d f]
theorem size_join_meet : ∀ a b : Tr, (join a b).size + (meet a b).size = a.size + b.size
  | leaf, leaf => rfl
  | leaf, node _ _ => by simp [join, meet, size]
  | node _ _, leaf => by simp [join, meet, size]
  | node a b, node c d => by
    have := size_join_meet a c
    have := size_join_meet b d
    simp only [join, meet, size]; omega
theorem size_join_le (a b : Tr) : (join a b).size ≤ a.size + b.size := by have := size_join_meet a b; omega
theorem size_meet_le : ∀ (a b : Tr), (meet a b).size ≤ a.size
  | leaf, _ => Nat.le_refl _
  | node _ _, leaf => Nat.zero_le _
  | node a b, node c d => by
    have := size_meet_le a c
    have := size_meet_le b d
    simp only [meet, size]; omega
/-- the second tree grows into the first exactly if the join is the first, if the meet is the second -/
theorem hang_iff_join : ∀ s c : Tr, (hang s c).isSome = true ↔ join s c = s
  | s, leaf => by simp [hang, join_leaf]
  | leaf, node _ _ => by simp [hang, join]
  | node a b, node c d => by
    have h1 := hang_iff_join a c
    have h2 := hang_iff_join b d
    simp only [hang, join, node.injEq, ← h1, ← h2]
    cases hang a c <;> cases hang b d <;> simp
theorem hang_iff_meet : ∀ s c : Tr, (hang s c).isSome = true ↔ meet s c = c
  | s, leaf => by simp [hang, meet_leaf]
  | leaf, node _ _ => by simp [hang, meet]
  | node a b, node c d => by
    have h1 := hang_iff_meet a c
    have h2 := hang_iff_meet b d
    simp only [hang, meet, node.injEq, ← h1, ← h2]
    cases hang a c <;> cases hang b d <;> simp
theorem hang_meet (a b : Tr) : ∃ xs, hang a (meet a b) = some xs :=
  Option.isSome_iff_exists.mp ((hang_iff_meet _ _).mpr (by rw [← meet_assoc, meet_self]))
theorem hang_meet' (a b : Tr) : ∃ xs, hang b (meet a b) = some xs := by rw [meet_comm]; exact hang_meet b a
theorem hang_join (a b : Tr) : ∃ xs, hang (join a b) a = some xs :=
  Option.isSome_iff_exists.mp ((hang_iff_meet _ _).mpr (by rw [meet_comm, meet_join_self]))
/-- what the program makes of the two lists -/
def pick (x y : Tr) : Tr := if x = leaf then y else x
theorem growR_pick : ∀ (a b : Tr) (xs ys rs : List Tr), hang a (meet a b) = some xs → hang b (meet a b) = some ys →
    (meet a b).growR (List.zipWith pick xs ys ++ rs) = (join a b, rs)
  | leaf, b, xs, ys, rs, h1, h2 => by
    simp [meet, hang] at h1 h2; subst h1; subst h2
    simp [meet, growR, join, pick]
  | node a b, leaf, xs, ys, rs, h1, h2 => by
    simp [meet, hang] at h1 h2; subst h1; subst h2
    simp [meet, growR, join, pick]
  | node a b, node c d, xs, ys, rs, h1, h2 => by
    simp only [meet, hang, Option.bind_eq_some_iff, Option.map_eq_some_iff] at h1 h2
    obtain ⟨x1, hx1, x2, hx2, rfl⟩ := h1
    obtain ⟨y1, hy1, y2, hy2, rfl⟩ := h2
    have e : x1.length = y1.length := by rw [hang_len _ _ _ hx1, hang_len _ _ _ hy1]
    rw [List.zipWith_append e]
    simp only [meet, growR, join, List.append_assoc, growR_pick a c x1 y1 _ hx1 hy1, growR_pick b d x2 y2 _ hx2 hy2]
theorem grow_pick {a b : Tr} {xs ys : List Tr} (h1 : hang a (meet a b) = some xs) (h2 : hang b (meet a b) = some ys) : (meet a b).grow (List.zipWith pick xs ys) = join a b := by
  have := growR_pick a b xs ys [] h1 h2
  rw [List.append_nil] at this
  unfold grow; rw [this]

/-! ### a part at an offset of the text -/
inductive Sub (T : Tr) : Nat → Tr → Prop where
  | root : Sub T 0 T
  | left {o : Nat} {l r : Tr} : Sub T o (node l r) → Sub T (o + 1) l
  | right {o : Nat} {l r : Tr} : Sub T o (node l r) → Sub T (o + 1 + l.len) r
theorem Sub.cut {T s : Tr} {o : Nat} (h : Sub T o s) : ∃ A B, T.cs = A ++ (s.cs ++ B) ∧ A.length = o := by
  induction h with
  | root => exact ⟨[], [], by simp, rfl⟩
  | @left o l r _ ih =>
    obtain ⟨A, B, e, h⟩ := ih
    exact ⟨A ++ [40], r.cs ++ [41] ++ B, by rw [e]; simp [cs], by simp [h]⟩
  | @right o l r _ ih =>
    obtain ⟨A, B, e, h⟩ := ih
    exact ⟨A ++ [40] ++ l.cs, [41] ++ B, by rw [e]; simp [cs], by simp [h, cs_length]; omega⟩
/-- where each part ends, by its first sign's index (0 at closing signs) -/
def ends : Nat → Tr → List Nat
  | o, leaf => [o + 1]
  | o, node l r => (o + (node l r).len) :: (ends (o + 1) l ++ (ends (o + 1 + l.len) r ++ [0]))
theorem ends_length : ∀ (o : Nat) (t : Tr), (ends o t).length = t.len
  | o, leaf => rfl
  | o, node l r => by simp [ends, len, ends_length _ l, ends_length _ r]; omega
theorem Sub.ends_at {T s : Tr} {o : Nat} (h : Sub T o s) : ∃ A B, ends 0 T = A ++ (ends o s ++ B) ∧ A.length = o := by
  induction h with
  | root => exact ⟨[], [], by simp, rfl⟩
  | @left o l r _ ih =>
    obtain ⟨A, B, e, h⟩ := ih
    exact ⟨A ++ [o + (node l r).len], ends (o + 1 + l.len) r ++ [0] ++ B, by rw [e]; simp [ends], by simp [h]⟩
  | @right o l r _ ih =>
    obtain ⟨A, B, e, h⟩ := ih
    exact ⟨A ++ [o + (node l r).len] ++ ends (o + 1) l, [0] ++ B, by rw [e]; simp [ends], by simp [h, ends_length]; omega⟩
theorem ends_head (o : Nat) (s : Tr) : ∃ B, ends o s = (o + s.len) :: B := by
  cases s with
  | leaf => exact ⟨[], rfl⟩
  | node l r => exact ⟨_, rfl⟩
theorem Sub.end_get {T s : Tr} {o : Nat} (h : Sub T o s) : (ends 0 T)[o]? = some (o + s.len) := by
  obtain ⟨A, B, e, hl⟩ := h.ends_at
  obtain ⟨C, e2⟩ := ends_head o s
  rw [e, e2, ← hl, List.getElem?_append_right (Nat.le_refl _), Nat.sub_self]
  simp
theorem Sub.le {T s : Tr} {o : Nat} (h : Sub T o s) : o + s.len ≤ T.len := by
  obtain ⟨A, B, e, hl⟩ := h.cut
  have := congrArg List.length e
  simp [cs_length, hl] at this
  omega
theorem Sub.size_le {T s : Tr} {o : Nat} (h : Sub T o s) : s.size ≤ T.size := by
  have h1 := h.le
  rw [len_size, len_size] at h1
  omega
end Tr
end TT

set_option linter.all false
/-! TW: addresses of leaves and nodes, nodes off the right arm. -/
namespace TT
/-- how many signs c stand at the end -/
def trail (c : Nat) (a : List Nat) : Nat := (a.reverse.takeWhile (· == c)).length
def topOf (c : Nat) (a : List Nat) : List Nat := a.take (a.length - trail c a)
theorem trail_same (c : Nat) (a : List Nat) : trail c (a ++ [c]) = trail c a + 1 := by
  unfold trail
  rw [List.reverse_append]
  simp
theorem trail_other {c d : Nat} (h : d ≠ c) (a : List Nat) : trail c (a ++ [d]) = 0 := by
  unfold trail
  rw [List.reverse_append]
  simp [h]
theorem trail_le (c : Nat) (a : List Nat) : trail c a ≤ a.length := by
  unfold trail
  have := (List.takeWhile_sublist (p := (· == c)) (l := a.reverse)).length_le
  simpa using this
theorem topOf_same (c : Nat) (a : List Nat) : topOf c (a ++ [c]) = topOf c a := by
  unfold topOf
  have := trail_le c a
  rw [trail_same, List.length_append, List.length_singleton, Nat.add_sub_add_right, List.take_append_of_le_length (by omega)]
theorem topOf_other {c d : Nat} (h : d ≠ c) (a : List Nat) : topOf c (a ++ [d]) = a ++ [d] := by
  unfold topOf
  rw [trail_other h, Nat.sub_zero, List.take_length]
theorem topOf_none {c : Nat} {a : List Nat} (h : trail c a = 0) : topOf c a = a := by
  unfold topOf
  rw [h, Nat.sub_zero, List.take_length]
theorem takeWhile_all {p : Nat → Bool} : ∀ {l : List Nat} {x : Nat}, x ∈ l.takeWhile p → p x = true
  | [], x, h => by cases h
  | y :: ys, x, h => by
    rw [List.takeWhile_cons] at h
    split at h
    · rename_i hy
      rcases List.mem_cons.mp h with rfl | h
      · exact hy
      · exact takeWhile_all h
    · cases h
theorem mem_of_trail {c : Nat} {a : List Nat} (h : 0 < trail c a) : c ∈ a := by
  unfold trail at h
  cases e : a.reverse.takeWhile (· == c) with
  | nil => rw [e] at h; exact absurd h (by decide)
  | cons x xs =>
    have m : x ∈ a.reverse.takeWhile (· == c) := by rw [e]; exact List.mem_cons_self ..
    have h1 := takeWhile_all m
    have h2 := (List.takeWhile_sublist _).subset m
    have : x = c := by simpa using h1
    rw [← this]
    simpa using h2
theorem mem_topOf {c : Nat} {a : List Nat} (h : c ∈ topOf c a) : c ∈ a := List.mem_of_mem_take h
/-- the nodes off the arm whose leftmost leaf is at a -/
def bg (a : List Nat) : Nat := if 0 < trail 108 a ∧ 108 ∉ topOf 108 a then trail 108 a - 1 else trail 108 a
theorem bg_nil : bg [] = 0 := by decide
theorem bg_r (a : List Nat) : bg (a ++ [114]) = 0 := by
  unfold bg
  rw [trail_other (by decide)]
  simp
theorem bg_l (a : List Nat) : bg (a ++ [108]) = bg a + (if 108 ∈ a then 1 else 0) := by
  unfold bg
  rw [trail_same, topOf_same]
  by_cases h0 : trail 108 a = 0
  · rw [h0, topOf_none h0]
    by_cases h : 108 ∈ a
    · simp [h]
    · simp [h]
  · have hm : 108 ∈ a := mem_of_trail (by omega)
    rw [if_pos hm]
    by_cases h : 108 ∈ topOf 108 a
    · rw [if_neg (by simp [h]), if_neg (by simp [h])]
    · rw [if_pos ⟨by omega, h⟩, if_pos ⟨by omega, h⟩]
      omega
namespace Tr
/-- each part's address and first sign, in the text's order -/
def adrs : Tr → List Nat → List (List Nat × Nat)
  | leaf, a => [(a, 46)]
  | node l r, a => (a, 40) :: (adrs l (a ++ [108]) ++ adrs r (a ++ [114]))
def lvA : Tr → List Nat → List (List Nat)
  | leaf, a => [a]
  | node l r, a => lvA l (a ++ [108]) ++ lvA r (a ++ [114])
def ndA : Tr → List Nat → List (List Nat)
  | leaf, _ => []
  | node l r, a => ndA l (a ++ [108]) ++ [a] ++ ndA r (a ++ [114])
/-- the text without closing signs -/
def ps : Tr → List Nat
  | leaf => [46]
  | node l r => 40 :: (ps l ++ ps r)
theorem ps_filter : ∀ t : Tr, t.cs.filter (· != 41) = t.ps
  | leaf => by decide
  | node l r => by
    simp only [cs, ps, List.filter_cons, List.filter_append, ps_filter l, ps_filter r]
    simp
theorem adrs_length : ∀ (t : Tr) (a : List Nat), (t.adrs a).length = t.ps.length
  | leaf, a => rfl
  | node l r, a => by simp [adrs, ps, adrs_length l, adrs_length r]
theorem ps_length : ∀ t : Tr, t.ps.length = 2 * t.size + 1
  | leaf => rfl
  | node l r => by simp [ps, size, ps_length l, ps_length r]; omega
theorem lvA_adrs : ∀ (t : Tr) (a : List Nat), ((t.adrs a).filter (fun x => x.2 == 46)).map (·.1) = t.lvA a
  | leaf, a => rfl
  | node l r, a => by
    simp only [adrs, lvA, List.filter_cons, List.filter_append, List.map_append, lvA_adrs l, lvA_adrs r]
    simp [lvA_adrs l, lvA_adrs r]
theorem lvA_length : ∀ (t : Tr) (a : List Nat), (t.lvA a).length = t.lvs
  | leaf, a => rfl
  | node l r, a => by simp [lvA, lvs, lvA_length l, lvA_length r]
theorem ndA_length : ∀ (t : Tr) (a : List Nat), (t.ndA a).length = t.size
  | leaf, a => rfl
  | node l r, a => by simp [ndA, size, ndA_length l, ndA_length r]; omega
theorem adrs_len : ∀ (t : Tr) (a : List Nat), ∀ x ∈ t.adrs a, x.1.length ≤ a.length + t.size
  | leaf, a, x, h => by rw [List.mem_singleton.mp h]; exact Nat.le_add_right _ _
  | node l r, a, x, h => by
    simp only [adrs, List.mem_cons, List.mem_append] at h
    simp only [size]
    rcases h with rfl | h | h
    · simp
    · have := adrs_len l _ x h
      simp at this; omega
    · have := adrs_len r _ x h
      simp at this; omega
theorem lvA_len : ∀ (t : Tr) (a : List Nat), ∀ x ∈ t.lvA a, x.length ≤ a.length + t.size
  | leaf, a, x, h => by rw [List.mem_singleton.mp h]; exact Nat.le_add_right _ _
  | node l r, a, x, h => by
    simp only [lvA, List.mem_append] at h
    simp only [size]
    rcases h with h | h
    · have := lvA_len l _ x h
      simp at this; omega
    · have := lvA_len r _ x h
      simp at this; omega
theorem ndA_len : ∀ (t : Tr) (a : List Nat), ∀ x ∈ t.ndA a, x.length ≤ a.length + t.size
  | leaf, a, x, h => by cases h
  | node l r, a, x, h => by
    simp only [ndA, List.mem_append, List.mem_singleton] at h
    simp only [size]
    rcases h with (h | h) | h
    · have := ndA_len l _ x h
      simp at this; omega
    · rw [h]; omega
    · have := ndA_len r _ x h
      simp at this; omega
/-- the nodes of the right arm -/
def arm : Tr → Nat
  | leaf => 0
  | node _ r => arm r + 1
def off : Tr → Nat
  | leaf => 0
  | node l r => l.size + off r
theorem off_arm : ∀ t : Tr, t.off + t.arm = t.size
  | leaf => rfl
  | node l r => by simp only [off, arm, size]; have := off_arm r; omega
theorem trail_cs : ∀ t : Tr, trail 41 t.cs = t.arm
  | leaf => by decide
  | node l r => by
    have e : (node l r).cs = (40 :: (l.cs ++ r.cs)) ++ [41] := by simp [cs]
    rw [e, trail_same]
    show _ = arm r + 1
    refine congrArg (· + 1) ?_
    rw [← trail_cs r]
    unfold trail
    have : ∃ x xs, r.cs.reverse = xs ++ x :: [] ∧ x ≠ 41 := by
      cases r with
      | leaf => exact ⟨46, [], rfl, by decide⟩
      | node p q => exact ⟨40, (p.cs ++ (q.cs ++ [41])).reverse, by simp [cs], by decide⟩
    obtain ⟨x, xs, h1, h2⟩ := this
    have h3 : (40 :: (l.cs ++ r.cs)).reverse = r.cs.reverse ++ (l.cs.reverse ++ [40]) := by simp
    rw [h3, h1, List.append_assoc]
    have : ∀ (ys zs : List Nat), ((ys ++ x :: zs).takeWhile (· == 41)) = ((ys ++ [x]).takeWhile (· == 41)) := by
      intro ys
      induction ys with
      | nil => intro zs; simp [h2]
      | cons y ys ih =>
        intro zs
        simp only [List.cons_append, List.takeWhile_cons]
        rw [ih zs]
    exact congrArg List.length (this xs _)
/-! ### counting at the leaves -/
def addH (k : Nat) : List Nat → List Nat
  | [] => []
  | x :: xs => (k + x) :: xs
theorem addH_zero : ∀ xs : List Nat, addH 0 xs = xs
  | [] => rfl
  | x :: xs => by simp [addH]
theorem addH_add (i j : Nat) : ∀ xs : List Nat, addH i (addH j xs) = addH (i + j) xs
  | [] => rfl
  | x :: xs => by simp [addH, Nat.add_assoc]
theorem addH_append (k : Nat) : ∀ {xs ys : List Nat}, xs ≠ [] → addH k (xs ++ ys) = addH k xs ++ ys
  | [], _, h => absurd rfl h
  | x :: xs, ys, _ => rfl
theorem addH_length (k : Nat) : ∀ xs : List Nat, (addH k xs).length = xs.length
  | [] => rfl
  | x :: xs => rfl
def Dn : Tr → List Nat → List Nat
  | leaf, _ => [0]
  | node l r, a => addH (if 108 ∈ a then 1 else 0) (Dn l (a ++ [108])) ++ Dn r (a ++ [114])
theorem Dn_length : ∀ (t : Tr) (a : List Nat), (Dn t a).length = t.lvs
  | leaf, a => rfl
  | node l r, a => by simp [Dn, lvs, addH_length, Dn_length l, Dn_length r]
theorem lvs_pos (t : Tr) : 0 < t.lvs := by rw [lvs_size]; omega
theorem Dn_ne (t : Tr) (a : List Nat) : Dn t a ≠ [] := fun z => by
  have h1 := Dn_length t a
  have h2 := lvs_pos t
  rw [z] at h1
  simp at h1
  omega
theorem addH_ne (k : Nat) {xs : List Nat} (h : xs ≠ []) : addH k xs ≠ [] := by
  cases xs with
  | nil => exact absurd rfl h
  | cons x xs => simp [addH]
theorem bg_map : ∀ (t : Tr) (a : List Nat), (t.lvA a).map bg = addH (bg a) (Dn t a)
  | leaf, a => rfl
  | node l r, a => by
    simp only [lvA, Dn, List.map_append]
    rw [bg_map l, bg_map r, bg_l, bg_r, addH_zero, addH_append _ (addH_ne _ (Dn_ne l _)), addH_add]
theorem bg_all (t : Tr) : (t.lvA []).map bg = Dn t [] := by rw [bg_map, bg_nil, addH_zero]
theorem addH_sum (k : Nat) {xs : List Nat} (h : xs ≠ []) : (addH k xs).sum = k + xs.sum := by
  cases xs with
  | nil => exact absurd rfl h
  | cons x xs => simp [addH]; omega
theorem Dn_sum : ∀ (t : Tr) (a : List Nat), (Dn t a).sum = if 108 ∈ a then t.size else t.off
  | leaf, a => by simp [Dn, size, off]
  | node l r, a => by
    simp only [Dn, List.sum_append, addH_sum _ (Dn_ne l _), Dn_sum l, Dn_sum r, size, off]
    by_cases h : 108 ∈ a
    · simp [h]; omega
    · simp [h]
theorem bg_sum (t : Tr) : ((t.lvA []).map bg).sum = t.off := by
  rw [bg_all, Dn_sum]
  simp
/-! ### counting by the nodes -/
def fi (A : List (List Nat)) (n : List Nat) : Nat := A.findIdx fun s => n.isPrefixOf s
def bump (f : List Nat) (i : Nat) : List Nat := f.set i (f.getD i 0 + 1)
def bumps (A ns : List (List Nat)) (f : List Nat) : List Nat := ns.foldl (fun f n => if 108 ∈ n then bump f (fi A n) else f) f
theorem pre_self (a m : List Nat) : a.isPrefixOf (a ++ m) = true := List.isPrefixOf_iff_prefix.mpr (List.prefix_append a m)
theorem lvA_pre : ∀ (t : Tr) (a : List Nat), ∀ s ∈ t.lvA a, a <+: s
  | leaf, a, s, h => by rw [List.mem_singleton.mp h]; exact List.prefix_refl _
  | node l r, a, s, h => by
    rcases List.mem_append.mp h with h | h
    · exact (List.prefix_append a [108]).trans (lvA_pre l _ s h)
    · exact (List.prefix_append a [114]).trans (lvA_pre r _ s h)
theorem ndA_pre : ∀ (t : Tr) (a : List Nat), ∀ n ∈ t.ndA a, a <+: n
  | leaf, a, n, h => by cases h
  | node l r, a, n, h => by
    simp only [ndA, List.mem_append, List.mem_singleton] at h
    rcases h with (h | h) | h
    · exact (List.prefix_append a [108]).trans (ndA_pre l _ n h)
    · rw [h]; exact List.prefix_refl _
    · exact (List.prefix_append a [114]).trans (ndA_pre r _ n h)
theorem ndA_leaf : ∀ (t : Tr) (a : List Nat), ∀ n ∈ t.ndA a, ∃ s ∈ t.lvA a, n <+: s
  | leaf, a, n, h => by cases h
  | node l r, a, n, h => by
    simp only [ndA, List.mem_append, List.mem_singleton] at h
    rcases h with (h | h) | h
    · obtain ⟨s, hs, hp⟩ := ndA_leaf l _ n h
      exact ⟨s, List.mem_append_left _ hs, hp⟩
    · obtain ⟨s, hs⟩ : ∃ s, s ∈ l.lvA (a ++ [108]) := List.exists_mem_of_length_pos (by rw [lvA_length]; exact lvs_pos l)
      exact ⟨s, List.mem_append_left _ hs, by rw [h]; exact (List.prefix_append a [108]).trans (lvA_pre l _ s hs)⟩
    · obtain ⟨s, hs, hp⟩ := ndA_leaf r _ n h
      exact ⟨s, List.mem_append_right _ hs, hp⟩
theorem fi_lt {A : List (List Nat)} {n s : List Nat} (hs : s ∈ A) (h : n <+: s) : fi A n < A.length := List.findIdx_lt_length_of_exists ⟨s, hs, List.isPrefixOf_iff_prefix.mpr h⟩
theorem fi_left {A B : List (List Nat)} {n s : List Nat} (hs : s ∈ A) (h : n <+: s) : fi (A ++ B) n = fi A n := by
  have := fi_lt hs h
  unfold fi at this ⊢
  rw [List.findIdx_append, if_pos this]
theorem fi_right {A B : List (List Nat)} {n : List Nat} (h : ∀ s ∈ A, ¬ n <+: s) : fi (A ++ B) n = fi B n + A.length := by
  have e : A.findIdx (fun s => n.isPrefixOf s) = A.length := List.findIdx_eq_length.mpr fun s hs => by
    cases hz : n.isPrefixOf s with
    | false => rfl
    | true => exact absurd (List.isPrefixOf_iff_prefix.mp hz) (h s hs)
  unfold fi
  rw [List.findIdx_append, if_neg (by rw [e]; omega)]
theorem bump_left {x y : List Nat} {i : Nat} (h : i < x.length) : bump (x ++ y) i = bump x i ++ y := by
  unfold bump
  rw [List.set_append_left _ _ h, List.getD_eq_getElem?_getD, List.getD_eq_getElem?_getD, List.getElem?_append_left h]
theorem bump_right (x y : List Nat) (i : Nat) : bump (x ++ y) (i + x.length) = x ++ bump y i := by
  unfold bump
  rw [List.set_append_right _ _ (by omega), List.getD_eq_getElem?_getD, List.getD_eq_getElem?_getD, List.getElem?_append_right (by omega), Nat.add_sub_cancel]
theorem bump_length (x : List Nat) (i : Nat) : (bump x i).length = x.length := List.length_set
theorem bumps_length (A : List (List Nat)) : ∀ (ns : List (List Nat)) (f : List Nat), (bumps A ns f).length = f.length
  | [], f => rfl
  | n :: ns, f => by
    show (bumps A ns (if 108 ∈ n then bump f (fi A n) else f)).length = _
    rw [bumps_length A ns]
    split
    · exact bump_length _ _
    · rfl
theorem bumps_left {A B : List (List Nat)} : ∀ {ns : List (List Nat)} {x y : List Nat}, x.length = A.length → (∀ n ∈ ns, ∃ s ∈ A, n <+: s) → bumps (A ++ B) ns (x ++ y) = bumps A ns x ++ y
  | [], x, y, _, _ => rfl
  | n :: ns, x, y, hl, h => by
    obtain ⟨s, hs, hp⟩ := h n (List.mem_cons_self ..)
    show bumps (A ++ B) ns (if 108 ∈ n then bump (x ++ y) (fi (A ++ B) n) else x ++ y) = bumps A ns (if 108 ∈ n then bump x (fi A n) else x) ++ y
    have hl' := fi_lt hs hp
    rw [fi_left hs hp, bump_left (by rw [hl]; exact hl')]
    split
    · exact bumps_left (by rw [bump_length, hl]) fun m hm => h m (List.mem_cons_of_mem _ hm)
    · exact bumps_left hl fun m hm => h m (List.mem_cons_of_mem _ hm)
theorem bumps_right {A B : List (List Nat)} : ∀ {ns : List (List Nat)} {x y : List Nat}, x.length = A.length → (∀ n ∈ ns, ∀ s ∈ A, ¬ n <+: s) → bumps (A ++ B) ns (x ++ y) = x ++ bumps B ns y
  | [], x, y, _, _ => rfl
  | n :: ns, x, y, hl, h => by
    have hn := h n (List.mem_cons_self ..)
    show bumps (A ++ B) ns (if 108 ∈ n then bump (x ++ y) (fi (A ++ B) n) else x ++ y) = x ++ bumps B ns (if 108 ∈ n then bump y (fi B n) else y)
    rw [fi_right hn, ← hl, bump_right]
    split
    · exact bumps_right hl fun m hm => h m (List.mem_cons_of_mem _ hm)
    · exact bumps_right hl fun m hm => h m (List.mem_cons_of_mem _ hm)
theorem bumps_append (A : List (List Nat)) (ns ms : List (List Nat)) (f : List Nat) : bumps A (ns ++ ms) f = bumps A ms (bumps A ns f) := List.foldl_append
theorem bump_zero : ∀ {x : List Nat}, x ≠ [] → bump x 0 = addH 1 x
  | [], h => absurd rfl h
  | y :: ys, _ => by
    show (y + 1) :: ys = (1 + y) :: ys
    rw [Nat.add_comm]
theorem parted {a n s : List Nat} (h1 : a ++ [114] <+: n) (h2 : a ++ [108] <+: s) : ¬ n <+: s := fun h => by
  obtain ⟨m, e1⟩ := h1.trans h
  obtain ⟨k, e2⟩ := h2
  rw [← e2, List.append_assoc, List.append_assoc] at e1
  have := List.append_cancel_left e1
  simp at this
theorem bumps_Dn : ∀ (t : Tr) (a : List Nat), bumps (t.lvA a) (t.ndA a) (List.replicate t.lvs 0) = Dn t a
  | leaf, a => rfl
  | node l r, a => by
    simp only [lvA, ndA, lvs, Dn]
    rw [← List.replicate_append_replicate, bumps_append, bumps_append, bumps_left (by rw [lvA_length, List.length_replicate]) (ndA_leaf l _), bumps_Dn l]
    obtain ⟨s, hs⟩ : ∃ s, s ∈ l.lvA (a ++ [108]) := List.exists_mem_of_length_pos (by rw [lvA_length]; exact lvs_pos l)
    have f0 : fi (l.lvA (a ++ [108]) ++ r.lvA (a ++ [114])) a = 0 := by
      cases e : l.lvA (a ++ [108]) with
      | nil => rw [e] at hs; cases hs
      | cons z zs =>
        have hz := lvA_pre l (a ++ [108]) z (by rw [e]; exact List.mem_cons_self ..)
        have : a.isPrefixOf z = true := List.isPrefixOf_iff_prefix.mpr ((List.prefix_append a [108]).trans hz)
        unfold fi
        rw [List.cons_append, List.findIdx_cons, this]
        rfl
    have e1 : bumps (l.lvA (a ++ [108]) ++ r.lvA (a ++ [114])) [a] (Dn l (a ++ [108]) ++ List.replicate r.lvs 0) = addH (if 108 ∈ a then 1 else 0) (Dn l (a ++ [108])) ++ List.replicate r.lvs 0 := by
      show (if 108 ∈ a then bump (Dn l (a ++ [108]) ++ List.replicate r.lvs 0) (fi _ a) else _) = _
      rw [f0]
      split
      · rw [bump_zero (by simp [Dn_ne]), addH_append _ (Dn_ne l _)]
      · rw [addH_zero]
    rw [e1, bumps_right (by rw [addH_length, Dn_length, lvA_length]) (fun n hn s hs => parted (ndA_pre r _ n hn) (lvA_pre l _ s hs)), bumps_Dn r]
end Tr
end TT
namespace TT
namespace Tr
def cL : Nat → Tr
  | 0 => leaf
  | n + 1 => node (cL n) leaf
def cR : Nat → Tr
  | 0 => leaf
  | n + 1 => node leaf (cR n)
theorem cL_size : ∀ n, (cL n).size = n
  | 0 => rfl
  | n + 1 => by simp [cL, size, cL_size n]
theorem cR_size : ∀ n, (cR n).size = n
  | 0 => rfl
  | n + 1 => by simp [cR, size, cR_size n]
theorem cL_Dn : ∀ (n : Nat) (a : List Nat), 108 ∈ a → Dn (cL n) a = n :: List.replicate n 0
  | 0, a, _ => rfl
  | n + 1, a, h => by
    show addH (if 108 ∈ a then 1 else 0) (Dn (cL n) (a ++ [108])) ++ [0] = _
    rw [if_pos h, cL_Dn n _ (by simp)]
    show (1 + n) :: (List.replicate n 0 ++ [0]) = _
    rw [Nat.add_comm 1 n]
    refine congrArg _ ?_
    exact List.replicate_succ'.symm
theorem cL_top (n : Nat) : Dn (cL (n + 1)) [] = n :: List.replicate (n + 1) 0 := by
  show addH (if 108 ∈ [] then 1 else 0) (Dn (cL n) ([] ++ [108])) ++ [0] = _
  rw [if_neg (by simp), addH_zero, cL_Dn n _ (by simp)]
  exact congrArg (List.cons n) List.replicate_succ'.symm
theorem cR_Dn : ∀ (n : Nat) (a : List Nat), 108 ∉ a → Dn (cR n) a = List.replicate (n + 1) 0
  | 0, a, _ => rfl
  | n + 1, a, h => by
    show addH (if 108 ∈ a then 1 else 0) [0] ++ Dn (cR n) (a ++ [114]) = _
    rw [if_neg h, addH_zero, cR_Dn n _ (by simp [h])]
    rfl
theorem cL_off (n : Nat) : (cL (n + 1)).off = n := by
  show (cL n).size + 0 = n
  rw [cL_size]
  rfl
theorem cR_off : ∀ n, (cR n).off = 0
  | 0 => rfl
  | n + 1 => by
    show leaf.size + (cR n).off = 0
    rw [cR_off n]
    rfl
end Tr
end TT

set_option Elab.async false
set_option linter.all false
set_option maxRecDepth 100000
set_option maxHeartbeats 4000000
/-! further rules over the hand layer -/
namespace TT
open PySem PySem.Spec PyProof.Rows L2

/-! ### texts as lists of signs -/
abbrev S (l : List Nat) : Str := ⟨l.toArray⟩
theorem S_app (a b : List Nat) : S a ++ S b = S (a ++ b) := by
  show Str.append (S a) (S b) = _
  unfold Str.append
  simp
theorem S_len (a : List Nat) : (S a).length = a.length := by simp [Str.length]
theorem S_inj {a b : List Nat} (h : S a = S b) : a = b := by
  have := congrArg (fun x => x.cps.toList) h
  simpa using this
theorem S_iff {a b : List Nat} : S a = S b ↔ a = b := ⟨S_inj, fun h => by rw [h]⟩
theorem S_of (x : Str) : x = S x.cps.toList := by cases x; simp
theorem lit_open : ("(" : Str) = S [40] := by decide +kernel
theorem lit_close : (")" : Str) = S [41] := by decide +kernel
theorem lit_dot : ("." : Str) = S [46] := by decide +kernel
theorem lit_empty : ("" : Str) = S [] := by decide +kernel
theorem lit_l : ("l" : Str) = S [108] := by decide +kernel
theorem lit_r : ("r" : Str) = S [114] := by decide +kernel
theorem lit_tree : ("tree" : Str) = S [116, 114, 101, 101] := by decide +kernel
theorem lit_end : ("end" : Str) = S [101, 110, 100] := by decide +kernel

section
variable {X : Cx}
theorem sg_eq {d : Nat} {x : Str} (hx : x = S [d]) : ({ cps := #[d] } : Str) = x := hx.symm
theorem sg_ne {c d : Nat} {x : Str} (hx : x = S [d]) (h : c ≠ d) : ¬ ({ cps := #[c] } : Str) = x := fun e => h (by
  have := S_inj (a := [c]) (b := [d]) (e.trans hx)
  simpa using this)
theorem ifdT {p A B : Prop} [Decidable p] (h : p) (a : A) : if decide p = true then A else B := by rw [if_pos (decide_eq_true h)]; exact a
theorem ifdF {p A B : Prop} [Decidable p] (h : ¬ p) (b : B) : if decide p = true then A else B := by rw [if_neg (by rw [decide_eq_true_eq]; exact h)]; exact b
theorem ifnT {p A B : Prop} [Decidable p] (h : ¬ p) (a : A) : if (!decide p) = true then A else B := by rw [if_pos (by rw [decide_eq_false h]; rfl)]; exact a
theorem ifnF {p A B : Prop} [Decidable p] (h : p) (b : B) : if (!decide p) = true then A else B := by rw [if_neg (by rw [decide_eq_true h]; exact Bool.false_ne_true)]; exact b
theorem ixN_nat {n j : Nat} (h : j < n) : ixN n (j : Int) = some j := by
  unfold ixN
  rw [if_pos (by omega), if_pos (by omega)]; simp
/-- readings told with K -/
def tTruK (K : PySem.W.Frag) (ta : TE) : TT := fun σ H Q => ta σ H fun x H' => ∃ k, TruV K x H' k ∧ Q k H'
def rLenSK (K : PySem.W.Frag) : List V → Hp → VK → Prop := fun xs H Q => ∃ p ys, xs = [.ref p] ∧ (SqL K H p ys ∨ SqT K H p ys) ∧ Q (.int ys.length) H
theorem cxOf_K {CX : CXT} {P : Program} {w : World} {K : PySem.W.Frag} {mg : Str → Option Value} {base : Heap} {N : List Str} {qual : Str} {scope : Scope} {f : Addr} {cd : Value} {A : Around} {outer : List Env} {s : Shared} {H : Hp} {E : XK} :
    (cxOf CX P w K mg base N qual scope f cd A outer s H E).K = K := rfl
/-- a text, a list: of their own kind -/
theorem tyV_lst {K : PySem.W.Frag} {H : Hp} {a : Addr} {xs : List V} (h : H a = some (.lst xs)) : tyV K "list" (.ref a) H := .inl ⟨rfl, _, SqL.of h⟩
theorem _root_.L2.Same.new {H H' : Hp} {p : Addr} (e : Same H H') (h : H p = none) (o : HO) : Same H (upd H' p o) := fun b u q => by
  rw [upd_ne (ne_of_none q h)]; exact e b u q
theorem _root_.L2.Same.get {H H' : Hp} {a : Addr} {o : HO} (e : Same H H') (h : H a = some o) : H' a = some o := e a o h
theorem small5 {n : Nat} (h : n ≤ 16000000) : n ≤ sizeLine := by rw [sizeLine_eq]; omega
theorem small5' {n : Nat} (h : n ≤ 16000000) : n < sizeLine := by rw [sizeLine_eq]; omega
/-! ### powers -/
def CPowB (i j : Int) : Prop := 0 ≤ j ∧ (Builtin.Int.intBits i : Int) * j ≤ 2 ^ 27
theorem op_powB : OpR X (binaryOp .Pow) (rI CPowB fun i j => .int (i ^ j.toNat)) := opI fun _ _ _ _ _ _ _ hc q => pow_int hc.1 hc.2 q

theorem call_intI : CallR X (.type "int") (fun xs H Q => ∃ i, xs = [.int i] ∧ Q (.int i) H) := fun pins s σ H xs us Q I r h => call_int1 pins s σ H xs us Q I r (.inl h)
theorem call_intB : CallR X (.type "int") (fun xs H Q => ∃ k, xs = [.bl k] ∧ Q (.int (if k then 1 else 0)) H) := fun pins s σ H xs us Q I r h => call_int1 pins s σ H xs us Q I r (.inr h)
theorem cmulR {i j : Int} (h : -(2 ^ 64) < j ∧ j < 2 ^ 64) : CMul i j := .inr h
theorem cmulL {i j : Int} (h : -(2 ^ 64) < i ∧ i < 2 ^ 64) : CMul i j := .inl h
theorem cmod (x : Int) {m : Int} (h : 0 < m) (h2 : m < 2 ^ 64) : -(2 ^ 64) < x % m ∧ x % m < 2 ^ 64 := by
  have h3 := Int.emod_nonneg x (show m ≠ 0 by omega)
  have h4 := Int.emod_lt_of_pos x h
  omega
theorem cdivW {i b : Int} (h : 1 ≤ b) (h2 : b < 1000000000000000) : CDivW i b := by
  refine ⟨by omega, ?_⟩
  have : b.natAbs.log2 < 50 := (Nat.log2_lt (by omega)).mpr (by omega)
  omega
/-! ### enumerate of a text -/
def Ites (x : Str) : It :=
  ⟨fun i _ => i < x.cps.size, fun i H v H' => ∃ T c, v = .ref T ∧ H T = none ∧ x.cps[i]? = some c ∧ H' = upd H T (.tup [.int (i : Nat), .str ⟨#[c]⟩]), fun i _ => x.cps.size ≤ i⟩
theorem turn_enumS {P : Program} {w : World} {K : PySem.W.Frag} {elts : List Expr} {kk : Nat} {tpos : Pos} (e it : Addr) (x : Str) (t : Tok) (ty : String) (hty : ty = "str_ascii_iterator" ∨ ty = "str_iterator") :
    Turn P w K (.Tuple elts kk tpos) (Ites x) [e, it] e (fun i h => (∃ old, IsEnum h e it ((i : Nat) : Int) old) ∧ h.IsStrIter it ty x t i ∧ e ≠ it) where
  mem := by simp
  obj := fun i h st b hb => by
    obtain ⟨⟨old, he⟩, ⟨o, ho, hc, hd⟩, _⟩ := st
    have e' : b = e ∨ b = it := by simpa using hb
    rcases e' with z | z
    · rw [z]; exact ⟨_, he, fun v q => nomatch q⟩
    · rw [z]; exact ⟨o, ho, fun v q => by rw [hd] at q; cases q⟩
  keep := fun i h h' st k => by
    obtain ⟨⟨old, he⟩, ⟨o, ho, r⟩, hne⟩ := st
    exact ⟨⟨old, k e (by simp) _ he⟩, ⟨o, k it (by simp) o ho, r⟩, hne⟩
  item := by
    intro X hP hw hK hc i pins s σ H E I hf st hg
    subst hP hw hK
    obtain ⟨⟨old, he⟩, hit, hne⟩ := st
    have hel : e < s.heap.objs.size := Heap.lt_size he
    have hil : it < s.heap.objs.size := by obtain ⟨_, q, _⟩ := hit; exact Heap.lt_size q
    have D : Draws X.prog X.w X.A.in1 it [it] x.cps.size (fun i v => ∃ c u, x.cps[i]? = some c ∧ v = .str ⟨#[c]⟩ u) (fun i h => h.IsStrIter it ty x t i) := by
      rcases hty with q | q
      · rw [q]; exact Draws.strAscii (A := X.A.in1) (I.ok.hd hc) it x t
      · rw [q]; exact Draws.strWide (A := X.A.in1) (I.ok.hd hc) it x t
    refine wpAny_pyNext_enum_itemD D he hit hg hne (by simpa using hne) fun y h' tk hy ho hit' hT hsz hk => ?_
    obtain ⟨c, u, hcx, rfl⟩ := hy
    refine ⟨_, rfl, wpAny_letOwnedTupleGo_enum (s := { s with heap := h', toks := tk + 1 }) ho fun h'' he' sb => ?_⟩
    have hT2 : h''.get? s.heap.objs.size = some { cls := .type "tuple", data := .seq #[.int i tk, .str ⟨#[c]⟩ u] } := (sb.2 _ (Nat.ne_of_gt hel)).trans hT
    have new : ObjOk X.prog X.w (upd H s.heap.objs.size (.tup [.int (i : Nat), .str ⟨#[c]⟩])) h'' s.heap.objs.size (.tup [.int (i : Nat), .str ⟨#[c]⟩]) :=
      ⟨by show 2 ≤ sizeLine; decide, [.int i tk, .str ⟨#[c]⟩ u], .cons ⟨_, rfl⟩ (.cons ⟨_, rfl⟩ .nil), ⟨_, hT2, rfl, _, rfl⟩⟩
    have I1 : Inv X pins σ (upd H s.heap.objs.size (.tup [.int (i : Nat), .str ⟨#[c]⟩])) { s with heap := h'', toks := tk + 1 } :=
      I.turnedNew (ch := [e, it]) (fun b ob hb q => (sb.2 b (fun z => hb (by simp [z]))).trans (hk b ob (fun z => hb (by simp [z])) (fun z => hb (by simp [z])) q)) hf (Nat.le_refl _) new
    refine ⟨.ref s.heap.objs.size, _, I1, rfl, ⟨_, c, rfl, I.hok.fresh (Nat.le_refl _), hcx, rfl⟩, ⟨⟨.str ⟨#[c]⟩ u, ?_⟩, ?_, hne⟩, fun b hb => ?_⟩
    · have e1 : ((i + 1 : Nat) : Int) = (i : Int) + 1 := by omega
      rw [e1]; exact he'
    · obtain ⟨o, ho', r⟩ := hit'
      exact ⟨o, (sb.2 it (Ne.symm hne)).trans ho', r⟩
    · have hb' : b < s.heap.objs.size := by
        have e' : b = e ∨ b = it := by simpa using hb
        rcases e' with z | z
        · rw [z]; exact hel
        · rw [z]; exact hil
      rw [upd_ne (Nat.ne_of_lt hb')]
      exact (hf b hb).1
  done := by
    intro X hP hw hK hc i pins s σ H E I hf st hg
    subst hP hw hK
    obtain ⟨⟨old, he⟩, hit, hne⟩ := st
    obtain ⟨f0, f1, f2, f3, f4, f5⟩ := hf it (by simp)
    have hx : x.cps[i]? = none := Array.getElem?_eq_none hg
    have hT : s.TypeIs (.ref e) "enumerate" := ⟨_, he, rfl⟩
    unfold pyNext
    refine wpAny_bind (wpAny_attempt (wpAny_callSpecial?_slot (name := Str.ofString "__next__") hT F.slot_enumerate_next
      (wpAny_call_entry F.slot_enumerate_next hT F.entry_enumerate_next ?_ (F.args_enumerate_next_1 _))))
    show wpAny _ _ (field (.ref e) 2 >>= _) _ _ _
    refine wpAny_bind (wpAny_field he rfl (x := .ref it) rfl ?_)
    rcases hty with q | q
    · subst q
      refine wpAny_bind (wpAny_nextOf_ascii_end (A := X.A.in1) (I.ok.hd hc) hit hx fun h' e2 he2 hx' => ?_)
      obtain ⟨o, ho, hcc⟩ := hx'
      refine wpAny_bind (wpAny_isInstance (T := "StopIteration") (b := true) ⟨o, ho, hcc⟩ isSubtype_stop ?_)
      exact wpAny_pure ⟨rfl, I.turned (t' := s.toks) (fun b o hb y => he2 b o hb y) f0 f1 f3 f4 f5⟩
    · subst q
      refine wpAny_bind (wpAny_nextOf_wide_end (A := X.A.in1) (I.ok.hd hc) hit hx fun h' e2 he2 hx' => ?_)
      obtain ⟨o, ho, hcc⟩ := hx'
      refine wpAny_bind (wpAny_isInstance (T := "StopIteration") (b := true) ⟨o, ho, hcc⟩ isSubtype_stop ?_)
      exact wpAny_pure ⟨rfl, I.turned (t' := s.toks) (fun b o hb y => he2 b o hb y) f0 f1 f3 f4 f5⟩
  self := fun A i s Q E st h => let ⟨⟨_, he⟩, _⟩ := st; wpAny_pyIter_enum he h
def iEnumS (ta : TA) : TI := fun σ H R => ta σ H fun vs H1 => ∃ x, vs = [.str x] ∧ R (Ites x) H1
theorem pi_enumS {e : Expr} {ta : TA} {p pos tpos : Pos} {elts : List Expr} {kk : Nat} (hg : Gl X "enumerate") (hm : X.mg "enumerate" = none) (ha : PA X [e] ta) (hs : starEach [e] X.env = [(false, eval e X.env)] := by rfl) :
    PI X (.Tuple elts kk tpos) (.Call (.Name "enumerate" p) [e] [] pos) (iEnumS ta) := by
  refine ⟨fun pins s σ H R I h => ?_⟩
  refine Call_ (ld_blt I hg hm boot_enumerate (PyProof.Rows.callWith_type1 (thn (ha.run pos pins s σ H _ I h) fun us s1 ⟨vs, H1, I1, r1, q1⟩ => ?_) hs rfl))
  obtain ⟨x, ex, q⟩ := q1
  subst ex
  cases r1 with
  | cons r rr =>
    cases rr
    obtain ⟨t, rfl⟩ := r
    refine call_enumerate_str fun h' he hit hsz hk => wpAny_pyIter_enum he ?_
    have I2 : Inv X pins σ H1 { s1 with heap := h' } := I1.kept (t' := s1.toks) hk
    have hty : strIterType x = "str_ascii_iterator" ∨ strIterType x = "str_iterator" := by
      unfold strIterType
      split
      · exact .inl rfl
      · exact .inr rfl
    refine ⟨s1.heap.objs.size + 1, [s1.heap.objs.size + 1, s1.heap.objs.size], _, _, H1, rfl, I2, turn_enumS (s1.heap.objs.size + 1) s1.heap.objs.size x t _ hty, ⟨⟨.none, he⟩, hit, Nat.succ_ne_self _⟩, fun b hb => ?_, q⟩
    have e' : b = s1.heap.objs.size + 1 ∨ b = s1.heap.objs.size := by simpa using hb
    have hle : s1.heap.objs.size ≤ b := by
      rcases e' with z | z
      · rw [z]; exact Nat.le_add_right _ _
      · rw [z]; exact Nat.le_refl _
    exact I1.fpOk hle (I1.hok.fresh hle)
end
/-- a loop over enumerate(text) -/
theorem for_enumS {x : Str} {g : TG} {tb : TS} {D : Ends} {σ : L2.St} {H : Hp} (Pv : Nat → L2.St → Hp → Prop) (h0 : Pv 0 σ H)
    (hs : ∀ i c σ H T, x.cps[i]? = some c → Pv i σ H → H T = none → g (.ref T) σ (upd H T (.tup [.int (i : Nat), .str ⟨#[c]⟩])) fun σ2 H2 => tb { D with nx := Pv (i + 1), ct := Pv (i + 1), bk := D.nx } σ2 H2) (hd : ∀ σ H, Pv x.cps.size σ H → D.nx σ H) :
    ∃ W : Nat → Nat → L2.St → Hp → Prop, (∃ m, W 0 m σ H) ∧ ∀ i m σ H, W i m σ H →
      ((Ites x).stop i H ∧ D.nx σ H) ∨ ((Ites x).go i H ∧ ∃ N : L2.St → Hp → Prop, (∀ σ' H', N σ' H' → ∃ m', m' < m ∧ W (i + 1) m' σ' H') ∧ ∀ v H', (Ites x).yld i H v H' → g v σ H' fun σ2 H2 => tb { D with nx := N, ct := N, bk := D.nx } σ2 H2) := by
  refine ⟨fun i m σ H => m = x.cps.size - i ∧ i ≤ x.cps.size ∧ Pv i σ H, ⟨x.cps.size, by simp, Nat.zero_le _, h0⟩, ?_⟩
  rintro i m σ H ⟨rfl, hi, p⟩
  by_cases hlt : i < x.cps.size
  · refine .inr ⟨hlt, Pv (i + 1), fun σ' H' q => ⟨x.cps.size - (i + 1), by omega, rfl, hlt, q⟩, fun v H' y => ?_⟩
    obtain ⟨T, c, rfl, hT, hc, rfl⟩ := y
    exact hs i c σ H T hc p hT
  · have : i = x.cps.size := by omega
    subst this
    exact .inl ⟨Nat.le_refl _, hd σ H p⟩
/-- a loop over a text's signs -/
theorem for_str {x : Str} {g : TG} {tb : TS} {D : Ends} {σ : L2.St} {H : Hp} (Pv : Nat → L2.St → Hp → Prop) (h0 : Pv 0 σ H)
    (hs : ∀ i c σ H, x.cps[i]? = some c → Pv i σ H → g (.str ⟨#[c]⟩) σ H fun σ2 H2 => tb { D with nx := Pv (i + 1), ct := Pv (i + 1), bk := D.nx } σ2 H2) (hd : ∀ σ H, Pv x.cps.size σ H → D.nx σ H) :
    ∃ W : Nat → Nat → L2.St → Hp → Prop, (∃ m, W 0 m σ H) ∧ ∀ i m σ H, W i m σ H →
      ((Its x).stop i H ∧ D.nx σ H) ∨ ((Its x).go i H ∧ ∃ N : L2.St → Hp → Prop, (∀ σ' H', N σ' H' → ∃ m', m' < m ∧ W (i + 1) m' σ' H') ∧ ∀ v H', (Its x).yld i H v H' → g v σ H' fun σ2 H2 => tb { D with nx := N, ct := N, bk := D.nx } σ2 H2) := by
  refine ⟨fun i m σ H => m = x.cps.size - i ∧ i ≤ x.cps.size ∧ Pv i σ H, ⟨x.cps.size, by simp, Nat.zero_le _, h0⟩, ?_⟩
  rintro i m σ H ⟨rfl, hi, p⟩
  by_cases hlt : i < x.cps.size
  · refine .inr ⟨hlt, Pv (i + 1), fun σ' H' q => ⟨x.cps.size - (i + 1), by omega, rfl, hlt, q⟩, fun v H' y => ?_⟩
    obtain ⟨rfl, c, hc, rfl⟩ := y
    exact hs i c σ H' hc p
  · have : i = x.cps.size := by omega
    subst this
    exact .inl ⟨Nat.le_refl _, hd σ H p⟩
/-- a comprehension over zip(two lists) -/
theorem lc_zip {K : PySem.W.Frag} {a b : Addr} {xs ys : List V} {g : TG} {tt : TT} {te : TE} {vs : List Nat} {σ : L2.St} {H1 : Hp} {D : Addr} {Qd : Hp → Prop} (Pv : Nat → Hp → Prop) (h0 : Pv 0 (upd H1 D (.lst [])))
    (hl : ∀ i H, Pv i H → SqL K H a xs ∧ SqL K H b ys)
    (hs : ∀ i x y H T, xs[i]? = some x → ys[i]? = some y → Pv i H → H T = none → g (.ref T) (wipe σ vs) (upd H T (.tup [x, y])) fun σ2 H2 => wipe σ2 vs = wipe σ vs ∧ tt σ2 H2 fun b H3 =>
      if b = true then te σ2 H3 fun y H4 => ∃ acc, H4 D = some (.lst acc) ∧ acc.length < sizeLine ∧ Pv (i + 1) (upd H4 D (.lst (acc ++ [y]))) else Pv (i + 1) H3)
    (hd : ∀ H, Pv (min xs.length ys.length) H → Qd H) :
    ∃ W : Nat → Nat → Hp → Prop, (∃ m, W 0 m (upd H1 D (.lst []))) ∧ ∀ i m H, W i m H →
      ((Itz K a b).stop i H ∧ Qd H) ∨ ((Itz K a b).go i H ∧ ∃ Nx : Hp → Prop, (∀ H', Nx H' → ∃ m', m' < m ∧ W (i + 1) m' H') ∧ ∀ x H', (Itz K a b).yld i H x H' → g x (wipe σ vs) H' fun σ2 H2 => wipe σ2 vs = wipe σ vs ∧ tt σ2 H2 fun b H3 =>
        if b = true then te σ2 H3 fun y H4 => ∃ acc, H4 D = some (.lst acc) ∧ acc.length < sizeLine ∧ Nx (upd H4 D (.lst (acc ++ [y]))) else Nx H3) := by
  refine ⟨fun i m H => m = min xs.length ys.length - i ∧ i ≤ min xs.length ys.length ∧ Pv i H, ⟨_, rfl, Nat.zero_le _, h0⟩, ?_⟩
  rintro i m H ⟨rfl, hi, p⟩
  obtain ⟨q1, q2⟩ := hl i H p
  by_cases hlt : i < min xs.length ys.length
  · have l1 : i < xs.length := by omega
    have l2 : i < ys.length := by omega
    refine .inr ⟨⟨xs, ys, _, _, q1, q2, List.getElem?_eq_getElem l1, List.getElem?_eq_getElem l2⟩, Pv (i + 1), fun H' q => ⟨_, by omega, rfl, hlt, q⟩, fun v H' y => ?_⟩
    obtain ⟨T, x, y, rfl, hT, rfl, e1, e2⟩ := y
    exact hs i x y H T (e1 xs q1) (e2 ys q2) p hT
  · have : i = min xs.length ys.length := by omega
    subst this
    exact .inl ⟨⟨xs, ys, q1, q2, by omega⟩, hd H p⟩
theorem lst_len {P : Prop} (h : P) : P := h
end TT

set_option linter.all false
set_option maxRecDepth 100000
/-! texts cut and joined, as lists of signs -/
namespace TT
open PySem PySem.Spec PyProof.Rows L2
open TL (joinL join_eq tl_join split_join tl)
theorem cnt_count (c : Nat) : ∀ l : List Nat, cnt c l = ((l.count c : Nat) : Int)
  | [] => rfl
  | x :: r => by
    rw [cnt_cons, cnt_count c r, List.count_cons]
    by_cases h : x = c <;> simp [h] <;> omega
theorem count_S (l : List Nat) (c : Nat) : Txt.count (S l) (S [c]) = ((l.count c : Nat) : Int) := by
  have := count_cnt (S l) c
  rw [cnt_count] at this
  exact this
/-- cut at every c -/
def spl (c : Nat) : List Nat → List (List Nat)
  | [] => [[]]
  | x :: xs => if x = c then [] :: spl c xs else ((x :: (spl c xs).headD []) :: (spl c xs).tail)
theorem spl_ne (c : Nat) (l : List Nat) : spl c l ≠ [] := by
  cases l with
  | nil => simp [spl]
  | cons x xs => unfold spl; split <;> simp
theorem spl_eq (c : Nat) (l : List Nat) : spl c l = (spl c l).headD [] :: (spl c l).tail := by
  have := spl_ne c l
  cases h : spl c l with
  | nil => exact absurd h this
  | cons a b => rfl
theorem spl_length (c : Nat) : ∀ l : List Nat, (spl c l).length = l.count c + 1
  | [] => rfl
  | x :: xs => by
    unfold spl
    have ih := spl_length c xs
    rw [List.count_cons]
    by_cases h : x = c
    · simp [h, ih]
    · simp [h]; have := spl_eq c xs; omega
theorem spl_free (c : Nat) : ∀ l : List Nat, ∀ p ∈ spl c l, c ∉ p
  | [], p, hp => by simp [spl] at hp; subst hp; simp
  | x :: xs, p, hp => by
    have ih := spl_free c xs
    rw [spl_eq c xs] at ih
    unfold spl at hp
    by_cases h : x = c
    · simp only [h, if_true] at hp
      rcases List.mem_cons.mp hp with rfl | hp
      · simp
      · rw [spl_eq c xs] at hp; exact ih p hp
    · simp only [h, if_false] at hp
      rcases List.mem_cons.mp hp with rfl | hp
      · intro hc
        rcases List.mem_cons.mp hc with rfl | hc
        · exact h rfl
        · exact ih _ List.mem_cons_self hc
      · exact ih p (List.mem_cons_of_mem _ hp)
theorem spl_joinL (c : Nat) : ∀ l : List Nat, joinL [c] (spl c l) = l
  | [] => rfl
  | x :: xs => by
    have ih := spl_joinL c xs
    unfold spl
    by_cases h : x = c
    · simp only [h, if_true]
      rw [spl_eq c xs] at ih ⊢
      show [] ++ ([c] ++ joinL [c] (_ :: _)) = c :: xs
      rw [ih]; rfl
    · simp only [h, if_false]
      rw [spl_eq c xs] at ih
      cases ht : (spl c xs).tail with
      | nil =>
        rw [ht] at ih
        show x :: (spl c xs).headD [] = x :: xs
        have ih' : (spl c xs).headD [] = xs := ih
        rw [ih']
      | cons q r =>
        rw [ht] at ih
        show (x :: (spl c xs).headD []) ++ ([c] ++ joinL [c] (q :: r)) = x :: xs
        have ih' : (spl c xs).headD [] ++ ([c] ++ joinL [c] (q :: r)) = xs := ih
        rw [List.cons_append, ih']
theorem tl_S (l : List Nat) : tl (S l) = l := by simp [tl]
theorem tl_mapS : ∀ ls : List (List Nat), (ls.map S).map tl = ls
  | [] => rfl
  | l :: ls => by rw [List.map_cons, List.map_cons, tl_S, tl_mapS ls]
theorem S_tl (x : Str) : S (tl x) = x := by cases x; simp [tl]
theorem split_S (l : List Nat) (c : Nat) (hc : c < 256) : Txt.split (S l) (S [c]) = (spl c l).map S := by
  have e : Txt.join (S [c]) ((spl c l).map S) = S l := by
    rw [join_eq, ← S_tl (Str.join _ _), tl_join, tl_mapS, tl_S, spl_joinL]
  rw [← e]
  refine split_join (s := c) (S := []) (tl_S _) (by simp [hc]) (by simp [spl_ne]) fun p hp => ?_
  obtain ⟨q, hq, rfl⟩ := List.mem_map.mp hp
  rw [tl_S]
  exact spl_free c l q hq
theorem joinL_nil : ∀ ls : List (List Nat), joinL [] ls = ls.flatten
  | [] => rfl
  | [p] => by simp [joinL]
  | p :: q :: r => by
    show p ++ ([] ++ joinL [] (q :: r)) = _
    rw [joinL_nil (q :: r)]; simp
theorem join_S (ls : List (List Nat)) : Txt.join (S []) (ls.map S) = S ls.flatten := by
  rw [join_eq, ← S_tl (Str.join _ _), tl_join, tl_mapS, tl_S, joinL_nil]

/-! ### a text with its leaves' signs replaced -/
def sub46 : List Nat → List (List Nat) → List Nat
  | [], _ => []
  | x :: xs, ys => if x = 46 then ys.headD [] ++ sub46 xs ys.tail else x :: sub46 xs ys
theorem sub46_other {x : Nat} (xs : List Nat) (ys : List (List Nat)) (h : x ≠ 46) : sub46 (x :: xs) ys = x :: sub46 xs ys := by
  show (if x = 46 then _ else _) = _
  rw [if_neg h]
theorem weave : ∀ (l : List Nat) (ys : List (List Nat)), ys.length = l.count 46 → (spl 46 l).headD [] ++ (List.zipWith (fun i p => i ++ p) ys (spl 46 l).tail).flatten = sub46 l ys
  | [], ys, h => by simp [spl, sub46]
  | x :: xs, ys, h => by
    rw [List.count_cons] at h
    unfold spl sub46
    by_cases hx : x = 46
    · simp only [hx, if_true]
      cases ys with
      | nil => simp [hx] at h
      | cons y ys =>
        have hl : ys.length = xs.count 46 := by simp [hx] at h; exact h
        have ih := weave xs ys hl
        rw [spl_eq 46 xs]
        simp only [List.headD_cons, List.tail_cons, List.zipWith_cons_cons, List.flatten_cons, List.nil_append, List.append_assoc]
        rw [ih]
    · simp only [hx, if_false]
      have hl : ys.length = xs.count 46 := by simp [hx] at h; exact h
      have ih := weave xs ys hl
      simp only [List.headD_cons, List.tail_cons, List.cons_append]
      rw [ih]
theorem count_tree : ∀ t : Tr, t.cs.count 46 = t.lvs
  | .leaf => rfl
  | .node l r => by simp [Tr.cs, Tr.lvs, count_tree l, count_tree r]
theorem count_open : ∀ t : Tr, t.cs.count 40 = t.size
  | .leaf => rfl
  | .node l r => by simp [Tr.cs, Tr.size, count_open l, count_open r]
theorem sub_tree : ∀ (t : Tr) (rest : List Nat) (xs : List Tr), t.lvs ≤ xs.length → sub46 (t.cs ++ rest) (xs.map Tr.cs) = (t.growR xs).1.cs ++ sub46 rest ((t.growR xs).2.map Tr.cs)
  | .leaf, rest, [], h => by simp [Tr.lvs] at h
  | .leaf, rest, x :: xs, h => by simp [Tr.cs, sub46, Tr.growR]
  | .node l r, rest, xs, h => by
    simp only [Tr.lvs] at h
    have hl := Tr.growR_len l xs (by omega)
    show sub46 (40 :: ((l.cs ++ (r.cs ++ [41])) ++ rest)) _ = _
    rw [sub46_other _ _ (by decide), List.append_assoc, sub_tree l _ xs (by omega), List.append_assoc, sub_tree r _ _ (by omega)]
    show _ = (40 :: ((l.growR xs).1.cs ++ ((r.growR (l.growR xs).2).1.cs ++ [41]))) ++ _
    simp only [List.cons_append, List.append_assoc, List.nil_append]
    rw [sub46_other _ _ (by decide)]
    rfl
theorem grown_text (t : Tr) (xs : List Tr) (h : xs.length = t.lvs) :
    (spl 46 t.cs).headD [] ++ (List.zipWith (fun i p => i ++ p) (xs.map Tr.cs) (spl 46 t.cs).tail).flatten = (t.grow xs).cs := by
  rw [weave _ _ (by rw [List.length_map, count_tree]; exact h)]
  have := sub_tree t [] xs (by omega)
  rw [List.append_nil] at this
  rw [this]
  unfold Tr.grow
  show _ ++ [] = _
  rw [List.append_nil]
theorem spl_le (c : Nat) : ∀ l : List Nat, ∀ p ∈ spl c l, p.length ≤ l.length
  | [], p, hp => by simp [spl] at hp; subst hp; simp
  | x :: xs, p, hp => by
    have ih := spl_le c xs
    rw [spl_eq c xs] at ih
    unfold spl at hp
    by_cases h : x = c
    · simp only [h, if_true] at hp
      rcases List.mem_cons.mp hp with rfl | hp
      · simp
      · rw [spl_eq c xs] at hp
        exact Nat.le_succ_of_le (ih p hp)
    · simp only [h, if_false] at hp
      rcases List.mem_cons.mp hp with rfl | hp
      · exact Nat.succ_le_succ (ih _ List.mem_cons_self)
      · exact Nat.le_succ_of_le (ih p (List.mem_cons_of_mem _ hp))
theorem growR_size {B : Nat} : ∀ (t : Tr) (xs : List Tr), (∀ x ∈ xs, x.size ≤ B) → (t.growR xs).1.size ≤ t.size + t.lvs * B ∧ ∀ x ∈ (t.growR xs).2, x.size ≤ B
  | .leaf, [], h => by simp [Tr.growR, Tr.size]
  | .leaf, x :: xs, h => by
    have := h x List.mem_cons_self
    refine ⟨?_, fun y hy => h y (List.mem_cons_of_mem _ hy)⟩
    show x.size ≤ 0 + 1 * B
    omega
  | .node l r, xs, h => by
    obtain ⟨h1, h2⟩ := growR_size l xs h
    obtain ⟨h3, h4⟩ := growR_size r _ h2
    refine ⟨?_, h4⟩
    show (l.growR xs).1.size + (r.growR (l.growR xs).2).1.size + 1 ≤ l.size + r.size + 1 + (l.lvs + r.lvs) * B
    rw [Nat.add_mul]
    omega
theorem grow_size {B : Nat} (t : Tr) (xs : List Tr) (h : ∀ x ∈ xs, x.size ≤ B) : (t.grow xs).size ≤ t.size + t.lvs * B := (growR_size t xs h).1
theorem sumlen_S (ls : List (List Nat)) : ((ls.map S).map (·.length)).sum = ls.flatten.length := by
  induction ls with
  | nil => rfl
  | cons l ls ih => rw [List.map_cons, List.map_cons, List.sum_cons, ih, List.flatten_cons, List.length_append, S_len]
end TT

set_option linter.all false
set_option maxRecDepth 100000
/-! where the parts end: as the program goes along the signs -/
namespace TT
open PySem
def endsRun : List Nat → Nat → List Nat → List Nat → Option (List Nat)
  | [], _, b, st => if st = [] then some b else none
  | c :: cs, k, b, st =>
    if c = 40 then endsRun cs (k + 1) b (k :: st)
    else if c = 41 then
      match st with
      | [] => none
      | o :: st' => if o < b.length then endsRun cs (k + 1) (b.set o (k + 1)) st' else none
    else if k < b.length then endsRun cs (k + 1) (b.set k (k + 1)) st else none
theorem endsRun_open (cs : List Nat) (k : Nat) (b st : List Nat) : endsRun (40 :: cs) k b st = endsRun cs (k + 1) b (k :: st) := rfl
theorem endsRun_close (cs : List Nat) (k o : Nat) (b st : List Nat) (h : o < b.length) : endsRun (41 :: cs) k b (o :: st) = endsRun cs (k + 1) (b.set o (k + 1)) st := by
  show (if o < b.length then _ else _) = _
  rw [if_pos h]
theorem endsRun_dot (cs : List Nat) (k : Nat) (b st : List Nat) (h : k < b.length) : endsRun (46 :: cs) k b st = endsRun cs (k + 1) (b.set k (k + 1)) st := by
  show (if k < b.length then _ else _) = _
  rw [if_pos h]
theorem set_mid (A : List Nat) (x y : Nat) (B : List Nat) : (A ++ x :: B).set A.length y = A ++ y :: B := by
  rw [List.set_append_right _ _ (Nat.le_refl _), Nat.sub_self]; rfl
theorem endsRun_tree : ∀ (t : Tr) (rest : List Nat) (k : Nat) (A B st : List Nat), A.length = k →
    endsRun (t.cs ++ rest) k (A ++ (List.replicate t.len 0 ++ B)) st = endsRun rest (k + t.len) (A ++ (Tr.ends k t ++ B)) st
  | .leaf, rest, k, A, B, st, h => by
    subst h
    show endsRun (46 :: rest) A.length (A ++ (0 :: B)) st = endsRun rest (A.length + 1) (A ++ ((A.length + 1) :: B)) st
    rw [endsRun_dot _ _ _ _ (by simp), set_mid]
  | .node l r, rest, k, A, B, st, h => by
    subst h
    have e : List.replicate (Tr.node l r).len 0 ++ B = 0 :: (List.replicate l.len 0 ++ (List.replicate r.len 0 ++ (0 :: B))) := by
      show List.replicate (l.len + r.len + 2) 0 ++ B = _
      rw [show l.len + r.len + 2 = 1 + l.len + r.len + 1 by omega, ← List.replicate_append_replicate, ← List.replicate_append_replicate, ← List.replicate_append_replicate]
      show (([0] ++ List.replicate l.len 0) ++ List.replicate r.len 0 ++ [0]) ++ B = _
      simp only [List.append_assoc, List.cons_append, List.nil_append]
    rw [e]
    show endsRun (40 :: ((l.cs ++ (r.cs ++ [41])) ++ rest)) A.length _ st = _
    rw [endsRun_open, List.append_assoc]
    have e1 : A ++ 0 :: (List.replicate l.len 0 ++ (List.replicate r.len 0 ++ (0 :: B))) = (A ++ [0]) ++ (List.replicate l.len 0 ++ (List.replicate r.len 0 ++ (0 :: B))) := by simp
    rw [e1, endsRun_tree l _ (A.length + 1) (A ++ [0]) _ _ (by simp), List.append_assoc]
    have e2 : (A ++ [0]) ++ (Tr.ends (A.length + 1) l ++ (List.replicate r.len 0 ++ (0 :: B))) = (A ++ [0] ++ Tr.ends (A.length + 1) l) ++ (List.replicate r.len 0 ++ (0 :: B)) := by simp
    rw [e2, endsRun_tree r _ (A.length + 1 + l.len) _ _ _ (by simp [Tr.ends_length]; omega)]
    show endsRun (41 :: ([] ++ rest)) _ _ (A.length :: st) = _
    rw [endsRun_close _ _ _ _ _ (by simp)]
    have e3 : (A ++ [0] ++ Tr.ends (A.length + 1) l) ++ (Tr.ends (A.length + 1 + l.len) r ++ (0 :: B)) = A ++ 0 :: (Tr.ends (A.length + 1) l ++ (Tr.ends (A.length + 1 + l.len) r ++ (0 :: B))) := by simp
    rw [e3, set_mid]
    have e4 : A.length + 1 + l.len + r.len + 1 = A.length + (Tr.node l r).len := by show _ = A.length + (l.len + r.len + 2); omega
    rw [e4]
    simp only [List.nil_append, Tr.ends, List.cons_append, List.append_assoc]
theorem endsRun_text (t : Tr) : endsRun t.cs 0 (List.replicate t.len 0) [] = some (Tr.ends 0 t) := by
  have := endsRun_tree t [] 0 [] [] [] rfl
  simp only [List.append_nil, List.nil_append] at this
  rw [this]; rfl
/-- what a step says -/
theorem endsRun_step {c : Nat} {cs : List Nat} {k : Nat} {b st F : List Nat} (h : endsRun (c :: cs) k b st = some F) :
    (c = 40 ∧ endsRun cs (k + 1) b (k :: st) = some F) ∨ (c = 41 ∧ ∃ o st', st = o :: st' ∧ o < b.length ∧ endsRun cs (k + 1) (b.set o (k + 1)) st' = some F) ∨
    (c ≠ 40 ∧ c ≠ 41 ∧ k < b.length ∧ endsRun cs (k + 1) (b.set k (k + 1)) st = some F) := by
  by_cases h1 : c = 40
  · subst h1; exact .inl ⟨rfl, h⟩
  by_cases h2 : c = 41
  · subst h2
    cases st with
    | nil => exact nomatch (show (none : Option (List Nat)) = some F from h)
    | cons o st' =>
      have h : (if o < b.length then endsRun cs (k + 1) (b.set o (k + 1)) st' else none) = some F := h
      by_cases h3 : o < b.length
      · rw [if_pos h3] at h; exact .inr (.inl ⟨rfl, o, st', rfl, h3, h⟩)
      · rw [if_neg h3] at h; cases h
  · have h : (if c = 40 then endsRun cs (k + 1) b (k :: st) else if c = 41 then _ else if k < b.length then endsRun cs (k + 1) (b.set k (k + 1)) st else none) = some F := h
    rw [if_neg h1, if_neg h2] at h
    by_cases h3 : k < b.length
    · rw [if_pos h3] at h; exact .inr (.inr ⟨h1, h2, h3, h⟩)
    · rw [if_neg h3] at h; cases h
end TT

set_option linter.all false
set_option maxRecDepth 100000
/-! two trees gone along together: what is still ahead -/
namespace TT
open PySem
abbrev Ag := List (Option (Tr × Tr))
namespace Ag
def tl : Ag → List Nat
  | [] => []
  | none :: r => 41 :: tl r
  | some p :: r => p.1.cs ++ tl r
def tr : Ag → List Nat
  | [] => []
  | none :: r => 41 :: tr r
  | some p :: r => p.2.cs ++ tr r
def hangs : Ag → Option (List Tr)
  | [] => some []
  | none :: r => hangs r
  | some p :: r => (Tr.hang p.1 p.2).bind fun x => (hangs r).map fun y => x ++ y
/-- the parts ahead stand at their places of the first tree's text, of the second's -/
def AtL (T : Tr) : Nat → Ag → Prop
  | _, [] => True
  | k, none :: r => AtL T (k + 1) r
  | k, some p :: r => Tr.Sub T k p.1 ∧ AtL T (k + p.1.len) r
def AtR (T : Tr) : Nat → Ag → Prop
  | _, [] => True
  | k, none :: r => AtR T (k + 1) r
  | k, some p :: r => Tr.Sub T k p.2 ∧ AtR T (k + p.2.len) r
end Ag
theorem cs_head (t : Tr) : ∃ r, t.cs = (if t = .leaf then 46 else 40) :: r := by
  cases t with
  | leaf => exact ⟨[], rfl⟩
  | node l r => exact ⟨_, rfl⟩
theorem Ag.tr_nil {ag : Ag} (h : ag.tr = []) : ag = [] := by
  match ag with
  | [] => rfl
  | none :: r => simp [Ag.tr] at h
  | some p :: r =>
    obtain ⟨q, e⟩ := cs_head p.2
    simp [Ag.tr, e] at h
theorem Ag.tl_nil {ag : Ag} (h : ag.tl = []) : ag = [] := by
  match ag with
  | [] => rfl
  | none :: r => simp [Ag.tl] at h
  | some p :: r =>
    obtain ⟨q, e⟩ := cs_head p.1
    simp [Ag.tl, e] at h
theorem Sub_left {T l r : Tr} {k : Nat} (h : Tr.Sub T k (.node l r)) : Tr.Sub T (k + 1) l := .left h
theorem Sub_right {T l r : Tr} {k : Nat} (h : Tr.Sub T k (.node l r)) : Tr.Sub T (k + 1 + l.len) r := .right h
theorem drop_cons {α : Type} {l : List α} {k : Nat} {x : α} {r : List α} (h : l.drop k = x :: r) : l[k]? = some x ∧ k < l.length ∧ l.drop (k + 1) = r := by
  have hk : k < l.length := by
    by_cases hk : k < l.length
    · exact hk
    · rw [List.drop_eq_nil_of_le (by omega)] at h; cases h
  rw [List.drop_eq_getElem_cons hk] at h
  injection h with h1 h2
  exact ⟨by rw [List.getElem?_eq_getElem hk, h1], hk, h2⟩
theorem drop_app {α : Type} {l a r : List α} {k : Nat} (h : l.drop k = a ++ r) : l.drop (k + a.length) = r := by
  rw [← List.drop_drop, h, List.drop_left]
theorem rixs {l : List Nat} {k c : Nat} {H : L2.Hp} {Q : L2.VK} (hl : l.length ≤ 16000000) (h : l[k]? = some c) (q : Q (.str ⟨#[c]⟩) H) : L2.rIxS (.str (S l)) (.int (k : Nat)) H Q :=
  ⟨S l, (k : Int), c, rfl, rfl, by rw [S_len]; exact small5 hl, L2.atI_nat (by simpa using h), q⟩
theorem rixl {K : PySem.W.Frag} {a : Addr} {xs : List L2.V} {k : Nat} {x : L2.V} {H : L2.Hp} {Q : L2.VK} (ha : H a = some (.lst xs)) (h : xs[k]? = some x) (q : Q x H) : L2.rIxL K (.ref a) (.int (k : Nat)) H Q :=
  ⟨a, xs, (k : Int), x, rfl, rfl, L2.SqL.of ha, L2.atI_nat h, q⟩
namespace Ag
def outs : Ag → List Nat
  | [] => []
  | none :: r => 41 :: outs r
  | some p :: r => (Tr.meet p.1 p.2).cs ++ outs r
end Ag
theorem signs_join (l : List Nat) : Txt.join (S []) (l.map fun c => S [c]) = S l := by
  have e : (l.map fun c => S [c]) = (l.map fun c => [c]).map S := by rw [List.map_map]; rfl
  rw [e, join_S]
  congr 1
  clear e
  induction l with
  | nil => rfl
  | cons a r ih => rw [List.map_cons, List.flatten_cons]; show [a] ++ _ = _; rw [show (List.map (fun c => [c]) r).flatten = r from by simpa using ih]; rfl
theorem signs_sum (l : List Nat) : ((l.map fun c => S [c]).map (·.length)).sum = l.length := by
  induction l with
  | nil => rfl
  | cons a r ih => rw [List.map_cons, List.map_cons, List.sum_cons, ih, S_len]; simp; omega
theorem hang_size : ∀ (s c : Tr) (xs : List Tr), Tr.hang s c = some xs → ∀ x ∈ xs, x.size ≤ s.size
  | s, .leaf, xs, h => by
    simp [Tr.hang] at h; subst h
    intro x hx
    rw [List.mem_singleton.mp hx]
    exact Nat.le_refl _
  | .leaf, .node _ _, xs, h => by simp [Tr.hang] at h
  | .node a b, .node c d, xs, h => by
    simp only [Tr.hang, Option.bind_eq_some_iff, Option.map_eq_some_iff] at h
    obtain ⟨x, hx, y, hy, rfl⟩ := h
    intro z hz
    show z.size ≤ a.size + b.size + 1
    rcases List.mem_append.mp hz with hz | hz
    · have := hang_size a c x hx z hz; omega
    · have := hang_size b d y hy z hz; omega
theorem mem_pick : ∀ (xs ys : List Tr), ∀ x ∈ List.zipWith Tr.pick xs ys, x ∈ xs ∨ x ∈ ys
  | [], _, x, h => by simp at h
  | _ :: _, [], x, h => by simp at h
  | a :: xs, b :: ys, x, h => by
    rw [List.zipWith_cons_cons] at h
    rcases List.mem_cons.mp h with rfl | h
    · unfold Tr.pick
      split
      · exact .inr List.mem_cons_self
      · exact .inl List.mem_cons_self
    · rcases mem_pick xs ys x h with h | h
      · exact .inl (List.mem_cons_of_mem _ h)
      · exact .inr (List.mem_cons_of_mem _ h)
end TT

set_option Elab.async false
set_option linter.all false
set_option maxRecDepth 100000
set_option maxHeartbeats 4000000
/-! TX: errors that are kept as values: made, asked for their class, their field read; repr of plain data. -/
namespace TX
open PySem PySem.Spec PyProof.Rows L2

/-! ### classes -/
/-- what the written part says of an own error class: its line of ancestors, and what its instances are asked by -/
structure ErrC (K : PySem.W.Frag) (C : Addr) (l : List Value) : Prop where
  mro : (PySem.W.clsIn K C).map (·.mro) = some l
  ty : PySem.W.typeIn K (.ref C) = some (.type "type")
  ec : ExcC K C
theorem ErrC.isSome {K : PySem.W.Frag} {C : Addr} {l : List Value} (x : ErrC K C l) : (PySem.W.clsIn K C).isSome = true := by
  have e := x.mro
  cases q : PySem.W.clsIn K C with
  | some _ => rfl
  | none => rw [q] at e; cases e
theorem ErrC.sub {K : PySem.W.Frag} {C : Addr} {l : List Value} (x : ErrC K C l) (hl : l.isEmpty = false) (v : Value) : PySem.W.subIn K (.ref C) v = some (l.contains v) := by
  show PySem.W.mroIn K C v = _
  unfold PySem.W.mroIn
  have e := x.mro
  cases q : PySem.W.clsIn K C with
  | none => rw [q] at e; cases e
  | some cd =>
    rw [q] at e
    have e2 : cd.mro = l := Option.some.inj e
    rw [Option.bind_some, e2, hl]
    rfl
/-- isinstance's answer for two own classes -/
theorem kit_own {K : PySem.W.Frag} {C D : Addr} {l l' : List Value} (x : ErrC K C (.ref C :: l)) (y : ErrC K D l') : PySem.W.kitOne K (.ref C) (.ref D) = some (decide (C = D) || l.contains (.ref D)) := by
  unfold PySem.W.kitOne
  by_cases h : C = D
  · subst h
    simp
  · have e : ((Value.ref C) == (Value.ref D)) = false := beq_eq_false_iff_ne.mpr fun z => h (Value.ref.inj z)
    rw [e, if_neg Bool.false_ne_true]
    unfold PySem.W.kitCls
    dsimp only
    rw [if_pos (by rw [y.isSome, y.ty]; rfl), x.sub rfl, List.contains_cons]
    have e2 : ((Value.ref D) == (Value.ref C)) = false := beq_eq_false_iff_ne.mpr fun z => h (Value.ref.inj z).symm
    rw [e2]
    simp [h]
theorem kit_ve {K : PySem.W.Frag} {C : Addr} {l : List Value} (x : ErrC K C l) (hl : l.isEmpty = false) : PySem.W.kitOne K (.ref C) (.type "ValueError") = some (l.contains (.type "ValueError")) := by
  unfold PySem.W.kitOne
  have e : ((Value.ref C) == (Value.type "ValueError")) = false := rfl
  rw [e, if_neg Bool.false_ne_true]
  unfold PySem.W.kitCls
  dsimp only
  rw [if_pos (by decide +kernel), x.sub hl]

/-! ### an error as a value -/
/-- at a: an error of the class at C with the fields fs -/
def Err (H : Hp) (a C : Addr) (fs : List (Str × V)) : Prop := ∃ d, H a = some (exo a C (some d)) ∧ H d = some (exd d fs)
/-- at a: an error whose __init__ has stored nothing -/
def Err0 (H : Hp) (a C : Addr) : Prop := H a = some (exo a C none)
theorem Err.same {H H' : Hp} {a C : Addr} {fs : List (Str × V)} (e : Err H a C fs) (h : ∀ b o, H b = some o → H' b = some o) : Err H' a C fs :=
  let ⟨d, h1, h2⟩ := e
  ⟨d, h _ _ h1, h _ _ h2⟩

section
variable {X : Cx} {pins : List (Addr × Obj)} {σ : L2.St} {H : Hp} {s : Shared} {a C : Addr} {fs : List (Str × V)}
theorem inst_of (I : Inv X pins σ H s) (e : Err H a C fs ∨ Err0 H a C) : ∃ ox od, PySem.W.InstAt s.heap a ox C od := by
  rcases e with ⟨d, h1, h2⟩ | h1
  · obtain ⟨t1, ho⟩ := exo_at I.hok h1
    obtain ⟨mA, hns, _⟩ := exd_at I.hok h2
    obtain ⟨od, hd, _⟩ := lookIn_ns hns
    exact ⟨_, some od, ho, rfl, rfl, hd⟩
  · obtain ⟨t1, ho⟩ := exo_at I.hok h1
    exact ⟨_, none, ho, rfl, rfl, trivial⟩
end
/-- isinstance(e, c): e an error that is kept -/
def rIsX (K : PySem.W.Frag) : List V → Hp → VK → Prop := fun xs H Q => ∃ (a C : Addr) (fs : List (Str × V)) (c : V) (cv : Value) (b : Bool), xs = [.ref a, c] ∧ ExcC K C ∧ (Err H a C fs ∨ Err0 H a C) ∧ ClsV c cv ∧ PySem.W.kitOne K (.ref C) cv = some b ∧ Q (.bl b) H
theorem call_isX {X : Cx} : CallR X (.builtin "isinstance") (rIsX X.K) := by
  intro pins s σ H xs us Q I r h
  obtain ⟨a, C, fs, c, cv, b, rfl, hC, he, k, e, q⟩ := h
  obtain ⟨u1, u2, rfl, r1, r2⟩ := vals2 r
  cases (show u1 = Value.ref a from r1)
  have e2 := k.eq r2
  subst e2
  obtain ⟨ox, od, J⟩ := inst_of I he
  refine PySem.W.kia_one (PySem.W.kitx_exc (ox := ox) (od := od) ?_ hC.hg hC.hk hC.hs hC.ha hC.hn hC.ht hC.hm) I.kIn J e (fun z => nomatch z) fun tk => ⟨.bl b, H, I.tok tk, rfl, q⟩
  have z := hC.hd
  unfold PySem.W.hasDictIn at z
  cases w : PySem.W.clsIn X.K C with
  | some _ => rfl
  | none => rw [w] at z; cases z
/-- e.f: a field of an error that is kept -/
def tFx (K : PySem.W.Frag) (f : Str) (te : TE) : TE := fun σ H Q => te σ H fun x H1 => ∃ (a C : Addr) (fs : List (Str × V)) (v : V), x = .ref a ∧ XfC K C ∧ PySem.W.findIn K (.ref C) f = some none ∧ Err H1 a C fs ∧ fs.lookup f = some v ∧ Q v H1
theorem pe_fx {X : Cx} {e : Expr} {te : TE} {pos : Pos} {f : Str} (he : PE X e te) (hb : attributeBase e f X.env (eval e X.env) = eval e X.env := by rfl) : PE X (.Attribute e f pos) (tFx X.K f te) := by
  refine ⟨fun pins s σ H Q I h => attr_of hb (thn (he.run pins s σ H _ I h) fun u s1 ⟨x, H1, I1, rx, a, C, fs, v, ex, T, hno, ⟨d, h1, h2⟩, l, q⟩ => ?_)⟩
  subst ex
  cases (show u = Value.ref a from rx)
  obtain ⟨t1, ho⟩ := exo_at I1.hok h1
  obtain ⟨mA, hns, hr⟩ := exd_at I1.hok h2
  obtain ⟨od, hd, hl⟩ := lookIn_ns hns
  obtain ⟨y, hy, ry⟩ := RelO.some_of (v := v) (o := mA f) (by rw [← l]; exact hr f)
  have J : PySem.W.InstAt s1.heap a ({ cls := .ref C, dict := some d, data := .fields #[.ref t1, .none, .none, .none, .bool false, .none] } : Obj) C (some od) := ⟨ho, rfl, rfl, hd⟩
  exact HandSPX.exc_get I1.kIn J T.ga T.gg T.exC (PySem.W.findObj_own T.hdC hno rfl (by rw [hl, hy])) (handed_of ry) ⟨v, H1, I1.tok _, ry, q⟩
/-! ### an error is made -/
/-- C(e, ..): sp is what C's __init__ keeps -/
def tMx (C : Addr) (sp : Sp) (dvs : List V) (ta : TA) : TE := fun σ H Q => ta σ H fun vs H1 => vs.length ≤ 1000 ∧ ∀ a, H1 a = none → sp (.ref a :: (vs ++ dvs)) (upd H1 a (exo a C none)) (fun v H2 => v = .non ∧ Q (.ref a) H2) (fun _ _ _ => False)
section
variable {X : Cx} {CX : CXT} {x : Str} {C fI : Addr} {k : Nat} {fd : FuncData} {ps : List Str} {sp : Sp} {ds : List Value} {dvs : List V} {e : Expr} {es : List Expr} {ta : TA} {p pos : Pos}
theorem run_mx {pins : List (Addr × Obj)} {σ : L2.St} {H1 : Hp} {s1 : Shared} {Q : VK} {us : List Value} {vs : List V} (T : OexC X.K C) (iC : PySem.W.findIn X.K (.ref C) "__init__" = some (some (.ref fI))) (tI : PySem.W.typeIn X.K (.ref fI) = some (.type "function"))
    (F1 : FnOk X.prog X.w X.K X.mg X.base CX k fI fd ps sp) (hr : Room (k + 1) X.A) (hb : Binds X.K fd ps ds) (hd : Vals dvs ds) (hx : Passes CX X (fun _ _ _ => False)) (I1 : Inv X pins σ H1 s1) (r1 : Vals vs us) (hz : vs.length ≤ 1000)
    (q1 : ∀ a, H1 a = none → sp (.ref a :: (vs ++ dvs)) (upd H1 a (exo a C none)) (fun v H2 => v = .non ∧ Q (.ref a) H2) (fun _ _ _ => False)) : wpAny (model X.prog X.w) X.A (call (.ref C) us) (EP X pins σ Q) X.xe s1 := by
  obtain ⟨nm, qn, N, bs, bm, sn, sub, ab, col, dd, k0, k1, k2, k3, k5, hC, hbm⟩ := T.cls
  obtain ⟨hp, g, dr, tk, os⟩ := s1
  have above : hp.objs.size ≤ hp.objs.size + 1 := Nat.le_succ _
  have new : H1 (hp.objs.size + 1) = none := I1.hok.fresh above
  have run := q1 _ new
  have laid : ∀ b o, hp.get? b = some o → ((hp.push (PySem.W.kdv_tup us)).push (PySem.HandSPX.excO C hp.objs.size)).get? b = some o := fun b o z => Heap.get?_push_of_some _ (Heap.get?_push_of_some _ z)
  have there : ((hp.push (PySem.W.kdv_tup us)).push (PySem.HandSPX.excO C hp.objs.size)).get? (hp.objs.size + 1) = some (PySem.HandSPX.excO C hp.objs.size) := by heap_get
  have I2 : Inv X pins σ (upd H1 (hp.objs.size + 1) (exo (hp.objs.size + 1) C none)) ⟨(hp.push (PySem.W.kdv_tup us)).push (PySem.HandSPX.excO C hp.objs.size), g, dr, tk, os⟩ := I1.laid (t' := tk) laid above (exo_ok there)
  have vals : Vals (V.ref (hp.objs.size + 1) :: (vs ++ dvs)) (Value.ref (hp.objs.size + 1) :: (us ++ ds)) := .cons rfl (r1.append hd)
  have many : (Value.ref (hp.objs.size + 1) :: us ++ ds).length = ps.length := vals.length.symm.trans (F1.len _ _ _ _ run)
  have small : us.length ≤ sizeLine := by
    have z := Paired.length r1
    rw [sizeLine_eq]; omega
  have body := F1.run _ X.stack _ _ ⟨Value.ref (hp.objs.size + 1) :: us, []⟩ (Value.ref (hp.objs.size + 1) :: (us ++ ds)) _ _ (fun _ _ _ => False) (hr.make C us []) (I2.env0.make C us []) (hb _ (Value.ref (hp.objs.size + 1) :: us) I2.kIn many) vals run
  have made := PySem.HandSPX.call_own (R := fun r s' => match r with | .ok (.ret v) => EP X pins σ Q v s' | .ok _ => False | .error er => X.xe er s') F.excBase_ValueError (fun Y => PySem.HandSPX.refsVE_contains Y bm hbm) (I1.kIn _ _ hC) (PySem.W.looks_findIn I1.kIn iC) (fun self => PySem.W.bind_fn I1.kIn self tI) small
    (codeAny_mono body fun r s' z => by
      cases r with
      | error er => exact hx pins σ _ _ er s' I2 z
      | ok fl =>
        cases fl with
        | ret u =>
          obtain ⟨v, H2, J, rv, ev, q⟩ := I2.after z
          subst ev
          exact ⟨rv, ⟨V.ref (hp.objs.size + 1), H2, J, rfl, q⟩⟩
        | next => exact False.elim z
        | brk => exact False.elim z
        | cont => exact False.elim z)
  exact wpAny_call made
theorem pe_mx (T : OexC X.K C) (iC : PySem.W.findIn X.K (.ref C) "__init__" = some (some (.ref fI))) (tI : PySem.W.typeIn X.K (.ref fI) = some (.type "function"))
    (F1 : FnOk X.prog X.w X.K X.mg X.base CX k fI fd ps sp) (hr : Room (k + 1) X.A) (hb : Binds X.K fd ps ds) (hd : Vals dvs ds) (hx : Passes CX X (fun _ _ _ => False)) (hg : Gl X x) (hm : X.mg x = some (.ref C)) (ha : PA X (e :: es) ta)
    (hdb : (x == ("__debug__" : Str)) = false := by decide) (he : starEach (e :: es) X.env = (false, eval e X.env) :: starEach es X.env := by rfl) (hpl : (backTo pos (starEach es X.env)).any (·.1) = false := by rfl) : PE X (.Call (.Name x p) (e :: es) [] pos) (tMx C sp dvs ta) := by
  refine ⟨fun pins s σ H Q I h => wpAny_Call_Name_kw (ld_glob I hg hm ?_ hdb)⟩
  exact PySem.W.callWith_K (h₀ := X.base) I.ok.mod.kin T.kC (thn (ha.run pos pins s σ H _ I h) fun us s1 ⟨vs, H1, I1, r1, hz, q1⟩ => ⟨I1.kIn, run_mx T iC tI F1 hr hb hd hx I1 r1 hz q1⟩) he hpl
theorem pe_mx0 (T : OexC X.K C) (iC : PySem.W.findIn X.K (.ref C) "__init__" = some (some (.ref fI))) (tI : PySem.W.typeIn X.K (.ref fI) = some (.type "function"))
    (F1 : FnOk X.prog X.w X.K X.mg X.base CX k fI fd ps sp) (hr : Room (k + 1) X.A) (hb : Binds X.K fd ps ds) (hd : Vals dvs ds) (hx : Passes CX X (fun _ _ _ => False)) (hg : Gl X x) (hm : X.mg x = some (.ref C))
    (hdb : (x == ("__debug__" : Str)) = false := by decide) : PE X (.Call (.Name x p) [] [] pos) (tMx C sp dvs tNil) := by
  refine ⟨fun pins s σ H Q I h => wpAny_Call_Name_kw (ld_glob I hg hm ?_ hdb)⟩
  obtain ⟨hz, q1⟩ := h
  exact PySem.W.callWith_K0 I.kIn T.kC (run_mx (us := []) T iC tI F1 hr hb hd hx I .nil hz q1)
end

/-! ### C(k = v): keywords -/
namespace Kw
open PySem.HandSPX Builtin Builtin.ObjectAttr PySem.W PySem.Calls
section
variable {prog : Program} {w : World} {A : Around} {E : Value → Shared → Prop} {R : Result → Shared → Prop} {h : Heap} {g : Array GenState} {d : Drawn} {t : Nat} {os : OsState}
variable {nm q : Str} {C N : Addr} {bs bm bB : List Value} {hd : Bool} {sn : List Str} {sub : List Value} {ab : Bool} {col : Option Bool} {dd : Option Addr} {k0 k1 k2 k3 k5 : Option Value} {B nI iI : String} {rest : List Value} {kw : List (Str × Value)}
theorem may (F : ExcBaseFacts B nI iI bB) (hT : ∀ Y : String, bm.contains (.type Y) = bB.contains (.type Y)) {M : Model} {E' : Value → Shared → Prop} {Q : Unit → Shared → Prop}
    (hC : h.get? C = some (excClassObj nm q C N bs bm hd sn sub ab col dd k0 k1 k2 k3 k5 nI)) (hq : Q () ⟨h, g, d, t, os⟩) : wpAny M A (checkBuiltinCall nI ⟨.ref C :: rest, kw⟩) Q E' ⟨h, g, d, t, os⟩ := by
  have inB : (Value.ref C :: bm).contains (.type B) = true := by
    rw [List.contains_cons, hT, F.hasB, Bool.or_true]
  have star := F.noStar
  simp only [checkBuiltinCall, F.newKind, F.newSplit, F.newRow]
  repeat (first | refine wpAny_loadPart_at hC ?_ | (refine wpAny_isSubtype_exc hC ?_; rw [inB]) | refine wpAny_staticBase_exc hC ?_ | refine wpAny_madeBy_exc hC ?_ | simp only [bne_self_eq_false, Bool.false_eq_true, if_false] | wp_step)
  exact hq
theorem anew (F : ExcBaseFacts B nI iI bB) (hT : ∀ Y : String, bm.contains (.type Y) = bB.contains (.type Y)) (hC : h.get? C = some (excClassObj nm q C N bs bm hd sn sub ab col dd k0 k1 k2 k3 k5 nI))
    (hq : R (.ok (.ret (.ref (h.objs.size + 1)))) ⟨(h.push (kdv_tup rest)).push (excO C h.objs.size), g, d, t, os⟩) (hz : rest.length ≤ sizeLine) : codeAny (model prog w) A (.builtin nI ⟨.ref C :: rest, kw⟩) R ⟨h, g, d, t, os⟩ := by
  have fin := F.ends
  have inB : (Value.ref C :: bm).contains (.type B) = true := by
    rw [List.contains_cons, hT, F.hasB, Bool.or_true]
  have inA : (Value.ref C :: bm).contains (.type "AttributeError") = false := by
    rw [List.contains_cons, hT, F.noAttr]; rfl
  have inN : (Value.ref C :: bm).contains (.type "NameError") = false := by
    rw [List.contains_cons, hT, F.noName]; rfl
  refine codeAny_builtinAt F.entry ?_
  unfold Builtin.«BaseException.__new__»
  refine PySem.wpAt_bind ?_
  show PySem.wpAt _ _ _ (stack >>= _) _ _ _
  refine PySem.wpAt_bind (PySem.wpAt_stack fun _ _ => PySem.wpAt_of_wpAny ?_)
  wp_walk
  refine PySem.wpAt_of_wpAny ?_
  rw [F.owner]
  repeat (first | with_reducible refine wpAny_madeHere_exc F.canon hC ?_ | with_reducible refine wpAny_loadPart_at hC ?_ | (with_reducible refine wpAny_isSubtype_exc hC ?_; first | rw [inB] | rw [inA] | rw [inN]) | wp_step)
  show R _ _
  rw [Heap.size_push]
  exact hq
theorem made (F : ExcBaseFacts B nI iI bB) (hT : ∀ Y : String, bm.contains (.type Y) = bB.contains (.type Y)) {fI : Addr} {Q : Fin → Shared → Prop} {E' : Value → Shared → Prop}
    (hC : h.get? C = some (excClassObj nm q C N bs bm hd sn sub ab col dd k0 k1 k2 k3 k5 nI)) (hi : Looks (model prog w) h (typeLookup (.ref C) "__init__") (some (.ref fI))) (hb : ∀ self, Looks (model prog w) h (bindSpecial (.ref fI) self) (.ref fI, [self])) (hz : rest.length ≤ sizeLine)
    (hq : codeAny (model prog w) A (.call (.ref fI) ⟨.ref (h.objs.size + 1) :: rest, kw⟩) (fun r s' => match r with | .ok (.ret v) => v = .none ∧ Q (.done (.ret (.ref (h.objs.size + 1)))) s' | .ok _ => False | .error e => E' e s')
      ⟨(h.push (kdv_tup rest)).push (excO C h.objs.size), g, d, t, os⟩) : wpAny (model prog w) A (Builtin.«type.__call__» ⟨.ref C :: rest, kw⟩) Q E' ⟨h, g, d, t, os⟩ := by
  repeat (first | with_reducible refine wpAny_loadPart_at hC ?_ | with_reducible refine wpAny_madeBy_exc hC ?_ | wp_step)
  refine codeAny_call_builtin_code (Code.quiet_builtin _ F.quiet) (may F hT hC ?_)
  refine anew F hT hC ?_ hz
  show wpAny _ _ _ _ _ _
  have up : ∀ b o, h.get? b = some o → ((h.push (kdv_tup rest)).push (excO C h.objs.size)).get? b = some o := fun b o z => Heap.get?_push_of_some _ (Heap.get?_push_of_some _ z)
  have hC2 := up _ _ hC
  have self : ((h.push (kdv_tup rest)).push (excO C h.objs.size)).get? (h.objs.size + 1) = some (excO C h.objs.size) := by heap_get
  have own : (Value.ref C :: bm).contains (.ref C) = true := by simp
  have i2 := hi.keeps up
  have b2 := (hb (.ref (h.objs.size + 1))).keeps up
  unfold isInstance
  repeat (first | with_reducible refine wpAny_loadPart_at self ?_ | (with_reducible refine wpAny_isSubtype_exc hC2 ?_; rw [own]) | wp_step)
  show wpAny _ _ (typeLookup (.ref C) _) _ _ _
  refine i2.at (wpAny_holding (wpAny_bind (b2.at (wpAny_bind (wpAny_call (codeAny_mono hq fun r s' z => ?_))))))
  rcases r with e | (v | _ | _ | _) <;> first | exact z | exact z.elim | skip
  obtain ⟨rfl, z⟩ := z
  first
    | exact wpAny_pure (wpAny_pure z)
    | (wp_walk; exact z)
theorem called (F : ExcBaseFacts B nI iI bB) (hT : ∀ Y : String, bm.contains (.type Y) = bB.contains (.type Y)) {fI : Addr} (hC : h.get? C = some (excClassObj nm q C N bs bm hd sn sub ab col dd k0 k1 k2 k3 k5 nI))
    (hi : Looks (model prog w) h (typeLookup (.ref C) "__init__") (some (.ref fI))) (hb : ∀ self, Looks (model prog w) h (bindSpecial (.ref fI) self) (.ref fI, [self])) (hz : rest.length ≤ sizeLine)
    (hq : codeAny (model prog w) (A.under (.builtin "type.__call__" ⟨.ref C :: rest, kw⟩)) (.call (.ref fI) ⟨.ref (h.objs.size + 1) :: rest, kw⟩) (InitBack (h.objs.size + 1) R) ⟨(h.push (kdv_tup rest)).push (excO C h.objs.size), g, d, t, os⟩) :
    codeAny (model prog w) A (.call (.ref C) ⟨rest, kw⟩) R ⟨h, g, d, t, os⟩ := by
  have f1 := tc_lookup
  have f2 := tc_bind (.ref C)
  have ty : (⟨h, g, d, t, os⟩ : Shared).TypeIs (.ref C) "type" := ⟨_, hC, rfl⟩
  refine codeAny_of_tree ?_
  show wpAny _ _ (callAny (.ref C) _) _ _ _
  repeat (any_goals (first | assumption | with_reducible refine wpAny_loadPart_at hC ?_ | wp_step))
  refine ⟨rfl, codeAny_call_builtin_at (Code.quiet_builtin _ (by decide +kernel)) entry_typeCall (wpAny_check_type_call_sub hC (made F hT hC hi hb hz (codeAny_mono hq fun r s' z => ?_)))⟩
  rcases r with e | (v | _ | _ | _) <;> exact z
end
end Kw
/-- defaults, no keyword-only parameters; the keywords fill the places of the defaults -/
theorem kbinds1 {K : PySem.W.Frag} {x qual : Str} {params : Arguments} {body : List Stmt} {scope : Scope} {dvs : List V} {f : Addr} {fd : FuncData} {ps ks : List Str} {n : Nat} (F : FunD K x qual params body scope dvs [] f fd) (hd : dvs ≠ [])
    (h : ∀ (T : Addr) (kV doc pm : Value) (an : Option Addr) (cdv ct : Value) (us its ws : List Value), us.length = n → its.length = dvs.length → ws.length = ks.length →
      ∃ k, bindArgs (PySem.W.fnOf x qual params body scope (.ref T) kV doc pm an cdv ct) ⟨us, ks.zip ws⟩ = seqItems? (.ref T) >>= k ∧ k (some its.toArray) = pure (ps.zip (us ++ ws))) : KBn K fd ps n ks (fun us ws => us ++ ws) (fun vs zs => vs ++ zs) := by
  obtain ⟨oc, od, dV, kV, doc, pm, an, cdv, ct, osl, rfl, lk, hcd, hD, hK⟩ := F.ex
  rcases hD with ⟨e, _⟩ | ⟨_, T, o, its, m, rfl, lT, oT, rT⟩
  · exact absurd e hd
  · refine ⟨fun s us ws X l1 l2 => BindsTo.of_looks fun M => ?_, fun r1 r2 => r1.append r2⟩
    obtain ⟨k, e1, e2⟩ := h T kV doc pm an cdv ct us its ws l1 rT.length.symm l2
    rw [e1]
    exact looks_items X lT oT (.of_pure e2)
def tMxK (C : Addr) (m : Nat) (sp : Sp) (tk : TA) : TE := fun σ H Q => tk σ H fun zs H1 => zs.length = m ∧ ∀ a, H1 a = none → sp (.ref a :: zs) (upd H1 a (exo a C none)) (fun v H2 => v = .non ∧ Q (.ref a) H2) (fun _ _ _ => False)
section
variable {X : Cx} {CX : CXT} {x : Str} {C fI : Addr} {k : Nat} {fd : FuncData} {ps ks : List Str} {sp : Sp} {kws : List Keyword} {tk : TA} {p pos : Pos}
theorem run_mxK {pins : List (Addr × Obj)} {σ : L2.St} {H1 : Hp} {s1 : Shared} {Q : VK} {ws : List Value} {zs : List V} (T : OexC X.K C) (iC : PySem.W.findIn X.K (.ref C) "__init__" = some (some (.ref fI))) (tI : PySem.W.typeIn X.K (.ref fI) = some (.type "function"))
    (F1 : FnOk X.prog X.w X.K X.mg X.base CX k fI fd ps sp) (hr : Room (k + 1) X.A) (hb : KBn X.K fd ps 1 ks (fun us ws => us ++ ws) (fun vs zs => vs ++ zs)) (hx : Passes CX X (fun _ _ _ => False)) (I1 : Inv X pins σ H1 s1) (rz : Vals zs ws) (hz : zs.length = ks.length)
    (q1 : ∀ a, H1 a = none → sp (.ref a :: zs) (upd H1 a (exo a C none)) (fun v H2 => v = .non ∧ Q (.ref a) H2) (fun _ _ _ => False)) : wpAny (model X.prog X.w) X.A (call (.ref C) [] (ks.zip ws)) (EP X pins σ Q) X.xe s1 := by
  obtain ⟨nm, qn, N, bs, bm, sn, sub, ab, col, dd, k0, k1, k2, k3, k5, hC, hbm⟩ := T.cls
  obtain ⟨hp, g, dr, tn, os⟩ := s1
  have above : hp.objs.size ≤ hp.objs.size + 1 := Nat.le_succ _
  have run := q1 _ (I1.hok.fresh above)
  have laid : ∀ b o, hp.get? b = some o → ((hp.push (PySem.W.kdv_tup [])).push (PySem.HandSPX.excO C hp.objs.size)).get? b = some o := fun b o z => Heap.get?_push_of_some _ (Heap.get?_push_of_some _ z)
  have there : ((hp.push (PySem.W.kdv_tup [])).push (PySem.HandSPX.excO C hp.objs.size)).get? (hp.objs.size + 1) = some (PySem.HandSPX.excO C hp.objs.size) := by heap_get
  have I2 : Inv X pins σ (upd H1 (hp.objs.size + 1) (exo (hp.objs.size + 1) C none)) ⟨(hp.push (PySem.W.kdv_tup [])).push (PySem.HandSPX.excO C hp.objs.size), g, dr, tn, os⟩ := I1.laid (t' := tn) laid above (exo_ok there)
  have body := F1.run _ X.stack _ _ ⟨[Value.ref (hp.objs.size + 1)], ks.zip ws⟩ (Value.ref (hp.objs.size + 1) :: ws) (V.ref (hp.objs.size + 1) :: zs) _ (fun _ _ _ => False) (hr.make C [] (ks.zip ws)) (I2.env0.make C [] (ks.zip ws)) (hb.to _ [Value.ref (hp.objs.size + 1)] ws I2.kIn rfl (rz.length.symm.trans hz)) (Paired.cons (show RelV (V.ref _) _ from rfl) rz) run
  exact wpAny_call (Kw.called (R := fun r s' => match r with | .ok (.ret v) => EP X pins σ Q v s' | .ok _ => False | .error er => X.xe er s') F.excBase_ValueError (fun Y => PySem.HandSPX.refsVE_contains Y bm hbm) (I1.kIn _ _ hC) (PySem.W.looks_findIn I1.kIn iC) (fun self => PySem.W.bind_fn I1.kIn self tI) (Nat.zero_le _)
    (codeAny_mono body fun r s' z => by
      cases r with
      | error er => exact hx pins σ _ _ er s' I2 z
      | ok fl =>
        cases fl with
        | ret u =>
          obtain ⟨v, H2, J, rv, ev, q⟩ := I2.after z
          subst ev
          exact ⟨rv, ⟨V.ref (hp.objs.size + 1), H2, J, rfl, q⟩⟩
        | next => exact False.elim z
        | brk => exact False.elim z
        | cont => exact False.elim z))
end
/-! ### own error classes with one field -/
/-- what their __init__ keeps: self.f = y -/
def SpI (C : Addr) (f : Str) : Sp := fun vs H Q _ => ∃ a y, vs = [.ref a, y] ∧ H a = some (exo a C none) ∧ ∀ dx, H dx = none → dx ≠ a → Q .non (upd (upd H dx (exd dx [(f, y)])) a (exo a C (some dx)))
structure OwnE (K : PySem.W.Frag) (mg : Str → Option Value) (x : Str) (C : Addr) (f p : Str) : Prop where
  m : mg x = some (.ref C)
  ox : OexC K C
  ex : ∃ fI fd, PySem.W.findIn K (.ref C) "__init__" = some (some (.ref fI)) ∧ PySem.W.typeIn K (.ref fI) = some (.type "function") ∧ (∃ ds, Vals [V.non] ds ∧ Binds K fd ["self", p] ds) ∧ Binds K fd ["self", p] [] ∧
    KBn K fd ["self", p] 1 [p] (fun us ws => us ++ ws) (fun vs zs => vs ++ zs) ∧ ∀ P w base, FnOk P w K mg base CX0 1 fI fd ["self", p] (SpI C f)
/-- the reading: an error of the class at C with the field f -/
def tErr (C : Addr) (f : Str) (ta : TA) : TE := fun σ H Q => ta σ H fun vs H1 => ∃ y, vs = [y] ∧ ∀ a H2, Same H1 H2 → H1 a = none → Err H2 a C [(f, y)] → Q (.ref a) H2
theorem spi_of {C : Addr} {f : Str} {y : V} {H1 : Hp} {Q : VK} {E : XK} (h : ∀ a H2, Same H1 H2 → H1 a = none → Err H2 a C [(f, y)] → Q (.ref a) H2) (a : Addr) (na : H1 a = none) : SpI C f [.ref a, y] (upd H1 a (exo a C none)) (fun v H2 => v = .non ∧ Q (.ref a) H2) E := by
  refine ⟨a, y, rfl, upd_same, fun dx nd ne => ⟨rfl, h a _ (fun b o e => ?_) na ⟨dx, upd_same, ?_⟩⟩⟩
  · have e1 : b ≠ a := fun z => by rw [z, na] at e; cases e
    rw [upd_ne ne] at nd
    have e2 : b ≠ dx := fun z => by rw [z, nd] at e; cases e
    rw [upd_ne e1, upd_ne e2, upd_ne e1]
    exact e
  · rw [upd_ne ne, upd_same]
section
variable {X : Cx} {x f q : Str} {C : Addr} {e : Expr} {te : TE} {p pos : Pos}
theorem pe_err (O : OwnE X.K X.mg x C f q) (hr : Room 2 X.A) (hg : Gl X x) (he : PE X e te)
    (hdb : (x == ("__debug__" : Str)) = false := by decide) (hs : starEach [e] X.env = (false, eval e X.env) :: starEach [] X.env := by rfl) : PE X (.Call (.Name x p) [e] [] pos) (tErr C f (tCons te tNil)) := by
  obtain ⟨fI, fd, iC, tI, _, b1, _, ok⟩ := O.ex
  refine ⟨fun pins s σ H Q I h => wpAny_Call_Name_kw (ld_glob I hg O.m ?_ hdb)⟩
  exact PySem.W.callWith_K (h₀ := X.base) I.ok.mod.kin O.ox.kC (thn ((pa_cons he pa_nil hs).run pos pins s σ H _ I h) fun us s1 ⟨vs, H1, I1, r1, y, ey, q1⟩ => ⟨I1.kIn, by
    subst ey
    exact run_mx (vs := [y]) (dvs := []) O.ox iC tI (ok X.prog X.w X.base) hr b1 .nil pass0 I1 r1 (by simp) (fun a na => spi_of q1 a na)⟩) hs (by rfl)
theorem pe_err0 (O : OwnE X.K X.mg x C f q) (hr : Room 2 X.A) (hg : Gl X x) (hdb : (x == ("__debug__" : Str)) = false := by decide) : PE X (.Call (.Name x p) [] [] pos) (tErr C f (tCons (tC .non) tNil)) := by
  obtain ⟨fI, fd, iC, tI, ⟨ds, hd, b0⟩, _, _, ok⟩ := O.ex
  refine ⟨fun pins s σ H Q I h => wpAny_Call_Name_kw (ld_glob I hg O.m ?_ hdb)⟩
  have h' : ∃ y, [V.non] = [y] ∧ ∀ a H2, Same H H2 → H a = none → Err H2 a C [(f, y)] → Q (.ref a) H2 := h
  obtain ⟨y, ey, q1⟩ := h'
  cases ey
  exact PySem.W.callWith_K0 I.kIn O.ox.kC (run_mx (us := []) (vs := []) (dvs := [V.non]) O.ox iC tI (ok X.prog X.w X.base) hr b0 hd pass0 I .nil (by simp) (fun a na => spi_of q1 a na))
theorem pe_errK {kp : Pos} (O : OwnE X.K X.mg x C f q) (hr : Room 2 X.A) (hg : Gl X x) (he : PE X e te) (hdb : (x == ("__debug__" : Str)) = false := by decide) 
    (hall : (backToKw pos (keywordEach [⟨some q, e, kp⟩] X.env)).all (·.1.isSome) = true := by rfl) (hks : (backToKw pos (keywordEach [⟨some q, e, kp⟩] X.env)).filterMap (·.1) = [q] := by rfl)
    (hpl : ((backTo pos (starEach [] X.env)).any (·.1) || (backToKw pos (keywordEach [⟨some q, e, kp⟩] X.env)).any (·.1.isNone)) = false := by rfl) : PE X (.Call (.Name x p) [] [⟨some q, e, kp⟩] pos) (tErr C f (tCons te tNil)) := by
  obtain ⟨fI, fd, iC, tI, _, _, bk, ok⟩ := O.ex
  refine ⟨fun pins s σ H Q I h => wpAny_Call_Name_kw (ld_glob I hg O.m ?_ hdb)⟩
  refine PySem.W.callWith_KW0 (h₀ := X.base) I.ok.mod.kin O.ox.kC hall ?_ hpl
  refine thn ((pk_cons he pk_nil).run pos pins s σ H _ I h) fun ws s1 ⟨zs, H1, I1, rz, y, ey, q1⟩ => ⟨I1.kIn, ?_⟩
  subst ey
  rw [hks]
  exact run_mxK O.ox iC tI (ok X.prog X.w X.base) hr bk pass0 I1 rz rfl (fun a na => spi_of q1 a na)
end
/-- C(), C an own error class without an __init__ of its own -/
def tErr0 (C : Addr) : TE := fun _ H Q => ∀ a, H a = none → Q (.ref a) (upd H a (exo a C none))
theorem pe_bare {X : Cx} {C : Addr} {bB : List Value} {B nI iI : String} {x : Str} {p pos : Pos} (F : ExcBaseFacts B nI iI bB) (q : PySem.W.excIn X.K C bB nI = true) (gC : X.mg x = some (.ref C)) (kC : PySem.W.keepIn X.K (.ref C) = true) (hg : Gl X x)
    (hdb : (x == ("__debug__" : Str)) = false := by decide) : PE X (.Call (.Name x p) [] [] pos) (tErr0 C) := by
  refine ⟨fun pins s σ H Q I h => wpAny_Call_Name_kw (ld_glob I hg gC ?_ hdb)⟩
  refine PySem.W.callWith_K0 I.kIn kC ?_
  obtain ⟨bm, N, nm, qn, bs, hdct, sn, sub, ab, col, dd, k0, k1, k2, k3, k5, mN, hC, hN, hni, T⟩ := exc_obj I.kIn q
  refine wpAny_call_exc_subT F T hC hN hni (fun h' a hm => ?_) (Nat.zero_le _)
  have hn : H a = none := I.hok.gone hm.new
  obtain ⟨t, ht, _, _⟩ := hm.there
  exact ⟨.ref a, _, I.laidN hm.keeps hm.new hn (exo_ok ht), rfl, h a hn⟩
end TX

set_option Elab.async false
set_option linter.all false
set_option maxRecDepth 100000
set_option maxHeartbeats 4000000
/-! TR: repr of plain data; defs that ask for it (no repr is under way around them). -/
namespace TR
open PySem PySem.Spec PyProof.Rows L2

/-! ### plain data over the abstract heap -/
def keyD : Key → PyData
  | .inl i => .int i
  | .inr x => .str x
mutual
inductive DV (H : Hp) (c : Bool) : V → PyData → Prop
  | non : DV H c .non .none
  | bl (b : Bool) : DV H c (.bl b) (.bool b)
  | int (i : Int) : DV H c (.int i) (.int i)
  | str (x : Str) : DV H c (.str x) (.str x)
  | lst {a : Addr} {xs : List V} {ds : List PyData} : (c = true → a ≠ sysModules) → H a = some (.lst xs) → DVs H c xs ds → DV H c (.ref a) (.list ds)
  | tup {a : Addr} {xs : List V} {ds : List PyData} : H a = some (.tup xs) → DVs H c xs ds → DV H c (.ref a) (.tuple ds)
  | dic {a : Addr} {kvs : List (Key × V)} {ds : List (PyData × PyData)} : H a = some (.dK kvs) → DVk H c kvs ds → DV H c (.ref a) (.dict ds)
inductive DVs (H : Hp) (c : Bool) : List V → List PyData → Prop
  | nil : DVs H c [] []
  | cons {x : V} {d : PyData} {xs : List V} {ds : List PyData} : DV H c x d → DVs H c xs ds → DVs H c (x :: xs) (d :: ds)
inductive DVk (H : Hp) (c : Bool) : List (Key × V) → List (PyData × PyData) → Prop
  | nil : DVk H c [] []
  | cons {k : Key} {x : V} {d : PyData} {xs : List (Key × V)} {ds : List (PyData × PyData)} : DV H c x d → DVk H c xs ds → DVk H c ((k, x) :: xs) ((keyD k, d) :: ds)
end
mutual
theorem DV.same {H H' : Hp} {c : Bool} (h : ∀ a o, H a = some o → H' a = some o) : ∀ {x : V} {d : PyData}, DV H c x d → DV H' c x d
  | _, _, .non => .non
  | _, _, .bl b => .bl b
  | _, _, .int i => .int i
  | _, _, .str x => .str x
  | _, _, .lst z e r => .lst z (h _ _ e) (DVs.same h r)
  | _, _, .tup e r => .tup (h _ _ e) (DVs.same h r)
  | _, _, .dic e r => .dic (h _ _ e) (DVk.same h r)
theorem DVs.same {H H' : Hp} {c : Bool} (h : ∀ a o, H a = some o → H' a = some o) : ∀ {x : List V} {d : List PyData}, DVs H c x d → DVs H' c x d
  | _, _, .nil => .nil
  | _, _, .cons r t => .cons (DV.same h r) (DVs.same h t)
theorem DVk.same {H H' : Hp} {c : Bool} (h : ∀ a o, H a = some o → H' a = some o) : ∀ {x : List (Key × V)} {d : List (PyData × PyData)}, DVk H c x d → DVk H' c x d
  | _, _, .nil => .nil
  | _, _, .cons r t => .cons (DV.same h r) (DVk.same h t)
end
theorem pairs_rd {P : Program} {w : World} : ∀ {es : List DictEntry} {kvs : List (Key × V)} {vs : List (Key × Value)}, PySem.Pairs (mixKind P w) es vs → KV kvs vs →
    Paired (fun (p : Key × V) (e : DictEntry) => keyIs p.1 e.key = true ∧ RelV p.2 e.val) kvs es
  | _, _, _, .nil, .nil => .nil
  | _, _, _, .cons h1 h2 t, .cons r k => .cons ⟨by rw [r.1]; exact h1, by rw [h2]; exact r.2⟩ (pairs_rd t k)
theorem key_rd {h : Heap} {k : Key} {v : Value} (e : keyIs k v = true) : Reads h v (keyD k) [] := by
  rcases keyIs_shape e with ⟨i, t, rfl, rfl⟩ | ⟨x, t, rfl, rfl⟩
  · exact .int i t
  · exact .str x t
section
variable {P : Program} {w : World} {H : Hp} {h : Heap} {c : Bool}
mutual
theorem DV.rd (ok : HOk P w H h) : ∀ {x : V} {d : PyData} {u : Value}, DV H c x d → RelV x u → ∃ as, Reads h u d as ∧ (c = true → sysModules ∉ as)
  | _, _, _, .non, r => by cases (show _ = Value.none from r); exact ⟨_, .none, fun _ => by simp⟩
  | _, _, _, .bl b, r => by cases (show _ = Value.bool b from r); exact ⟨_, .bool b, fun _ => by simp⟩
  | _, _, _, .int i, r => by obtain ⟨t, rfl⟩ := (show ∃ t, _ = Value.int i t from r); exact ⟨_, .int i t, fun _ => by simp⟩
  | _, _, _, .str x, r => by obtain ⟨t, rfl⟩ := (show ∃ t, _ = Value.str x t from r); exact ⟨_, .str x t, fun _ => by simp⟩
  | _, _, _, @DV.lst _ _ a xs ds y e q, r => by
    cases (show _ = Value.ref a from r)
    obtain ⟨_, its, n, rv, g⟩ := (show ObjOk P w H h a (.lst xs) from ok a _ e)
    obtain ⟨as, z, zs⟩ := DVs.rd ok q rv
    exact ⟨_, .list (vs := its.toArray) g rfl rfl z, fun hc => by simpa using ⟨(y hc).symm, zs hc⟩⟩
  | _, _, _, @DV.tup _ _ a xs ds e q, r => by
    cases (show _ = Value.ref a from r)
    obtain ⟨_, its, rv, o, g, k, n, dt⟩ := (show ObjOk P w H h a (.tup xs) from ok a _ e)
    obtain ⟨as, z, zs⟩ := DVs.rd ok q rv
    exact ⟨_, .tuple (vs := its.toArray) g k dt z, zs⟩
  | _, _, _, @DV.dic _ _ a kvs ds e q, r => by
    cases (show _ = Value.ref a from r)
    obtain ⟨_, sm, vs, kv, o, es, ep, g, k, dt, _, pr, _⟩ := (show ObjOk P w H h a (.dK kvs) from ok a _ e)
    obtain ⟨as, bs, z1, z2, z3, z4⟩ := DVk.rd ok q (pairs_rd pr kv)
    exact ⟨_, .dict g k.1 dt z1 z2, fun hc => by simpa using ⟨(beq_eq_false_iff_ne.mp sm).symm, z3 hc, z4 hc⟩⟩
theorem DVs.rd (ok : HOk P w H h) : ∀ {x : List V} {d : List PyData} {u : List Value}, DVs H c x d → Vals x u → ∃ as, ReadsAll h u d as ∧ (c = true → sysModules ∉ as)
  | _, _, _, .nil, .nil => ⟨_, .nil, fun _ => by simp⟩
  | _, _, _, .cons q t, .cons r s => by
    obtain ⟨_, z, y⟩ := DV.rd ok q r
    obtain ⟨_, z', y'⟩ := DVs.rd ok t s
    exact ⟨_, .cons z z', fun hc => by simpa using ⟨y hc, y' hc⟩⟩
theorem DVk.rd (ok : HOk P w H h) : ∀ {x : List (Key × V)} {d : List (PyData × PyData)} {es : List DictEntry}, DVk H c x d → Paired (fun (p : Key × V) (e : DictEntry) => keyIs p.1 e.key = true ∧ RelV p.2 e.val) x es →
    ∃ as bs, ReadsAll h (es.map (·.key)) (d.map (·.1)) as ∧ ReadsAll h (es.map (·.val)) (d.map (·.2)) bs ∧ (c = true → sysModules ∉ as) ∧ (c = true → sysModules ∉ bs)
  | _, _, _, .nil, .nil => ⟨_, _, .nil, .nil, fun _ => by simp, fun _ => by simp⟩
  | _, _, _, .cons q t, .cons r s => by
    obtain ⟨_, z, y⟩ := DV.rd ok q r.2
    obtain ⟨_, _, z1, z2, z3, z4⟩ := DVk.rd ok t s
    exact ⟨_, _, .cons (key_rd r.1) z1, .cons z z2, fun hc => by simpa using z3 hc, fun hc => by simpa using ⟨y hc, z4 hc⟩⟩
end
end
/-- repr(x) of plain data -/
def rRepr : List V → Hp → VK → Prop := fun xs H Q => ∃ (a : Addr) (d : PyData) (c : Bool), xs = [.ref a] ∧ DV H c (.ref a) d ∧ (d.hasDict = true → c = true) ∧ d.showable = true ∧ d.depth ≤ 60 ∧ d.shown.length ≤ sizeLine ∧ Q (.str d.shown) H
theorem cr_repr {X : Cx} (hg : X.A.guards = some []) (hu : X.A.units + 64 < cLine) : CallR X (.builtin "repr") rRepr := by
  intro pins s σ H xs us Q I r h
  obtain ⟨a, d, c, rfl, hd, hc, hs, hp, hz, q⟩ := h
  obtain ⟨u, rfl, ru⟩ := r.one
  cases (show u = Value.ref a from ru)
  obtain ⟨as, rd, ap⟩ := DV.rd I.hok hd (show RelV (.ref a) (.ref a) from rfl)
  exact repr_of_reads' rd hs (fun z => ap (hc z)) hg (by omega) (fun _ _ z => z) (fun h' u tk hk => ⟨.str d.shown, H, I.kept (t' := tk) hk, ⟨u, rfl⟩, q⟩) hz

/-! ### lists whose address is known not to be the table of modules -/
def rCatN : R2 := fun x y H Q => ∃ l b xs zs, x = .ref l ∧ y = .ref b ∧ H l = some (.lst xs) ∧ H b = some (.lst zs) ∧ xs.length + zs.length ≤ sizeLine ∧ ∀ p, H p = none → p ≠ sysModules → Q (.ref p) (upd H p (.lst (xs ++ zs)))
theorem op_catN {X : Cx} : OpR X (binaryOp .Add) rCatN := by
  intro pins s σ H x y v u Q I rx ry hh
  obtain ⟨l, b, xs, zs, e1, e2, hl, hb, hz, k⟩ := hh
  subst e1 e2
  cases rx
  cases ry
  obtain ⟨_, us, n, rl, ll, gl⟩ := I.lstM hl
  obtain ⟨_, ws, m, rb, lb, gb⟩ := I.lstM hb
  refine PySem.P.add_list gl gb ?_ (by simp only [List.size_toArray]; omega)
  rw [show us.toArray ++ ws.toArray = (us ++ ws).toArray by simp]
  exact ⟨.ref _, _, I.lnew (t' := s.toks) (rl.append rb) (by simpa using hz), rfl, k _ I.fresh (Nat.ne_of_gt I.big)⟩
def rRepN : R2 := fun x y H Q => ∃ l z k, x = .ref l ∧ y = .int k ∧ H l = some (.lst [z]) ∧ 0 ≤ k ∧ k ≤ 1000 ∧ ∀ p, H p = none → p ≠ sysModules → Q (.ref p) (upd H p (.lst (List.replicate k.toNat z)))
theorem op_repN {X : Cx} : OpR X (binaryOp .Mult) rRepN := by
  intro pins s σ H x y v u Q I rx ry hh
  obtain ⟨l, z, k, e1, e2, hl, k0, k1, go⟩ := hh
  subst e1 e2
  cases rx
  obtain ⟨tk, rfl⟩ := ry
  obtain ⟨_, us, n, rl, ll, gl⟩ := I.lstM hl
  have small : us.toArray.size * k.toNat ≤ sizeLine := by
    rw [List.size_toArray, ← ll, sizeLine_eq]; simp; omega
  have cap : ¬ us.toArray.size * k.toNat > (2 ^ 63 - 1) / 8 := by
    have : (sizeLine : Nat) ≤ (2 ^ 63 - 1) / 8 := by decide
    omega
  have fits : ¬ (!Builtin.List.listFitsIndex k) = true := by
    rw [fitsIndex_both (by omega) (by omega)]; decide
  have long : ¬ Builtin.List.listTooLong (us.toArray.size * k.toNat) = true := by
    rw [notLongL small]; decide
  have all : List.foldl (fun x1 x2 => x1 ++ x2) #[] (List.replicate (if us.toArray.isEmpty = true then 0 else k.toNat) us.toArray) = (List.replicate k.toNat us).flatten.toArray := by
    have go : ∀ m : Nat, List.foldl (fun x1 x2 => x1 ++ x2) #[] (List.replicate m us.toArray) = (List.replicate m us).flatten.toArray := fun m => by
      simpa using foldl_rep us m []
    rw [go]
    cases us with
    | nil => simp
    | cons _ _ => simp
  refine wpAny_binaryOp_repeat_ref (T := "list") (U := "int") (by decide) ⟨_, gl, rfl⟩ (fun s' => typeIs_int s' k tk) noFill_list_mul F.fills_int_mul F.slot_int_rmul repeat_list F.slot_int_index.lookup ?_
  refine call_meets F.slot_int_rmul (typeIs_int s k tk) F.entry_int_rmul (F.args_int_rmul_2 _ _) (int___rmul___int_list k tk l us.toArray n) ⟨gl, rfl, ⟨_, gl, rfl⟩, ?_⟩
  refine call_meets F.slot_list_mul ⟨_, gl, rfl⟩ F.entry_list_mul (F.args_list_mul_2 _ _) (AutoListH.list___mul___list_int_3 l us.toArray n k tk fits cap long) ⟨gl, ?_⟩
  rw [all]
  have e : (List.replicate k.toNat [z]).flatten = List.replicate k.toNat z := by
    simp [List.flatten_replicate_singleton]
  have rr := rl.rep k.toNat
  rw [e] at rr
  exact ⟨.ref _, _, I.lnew (t' := s.toks) rr (by rw [List.length_replicate, sizeLine_eq]; omega), rfl, go _ I.fresh (Nat.ne_of_gt I.big)⟩

/-! ### defs around which no repr is under way -/
structure FnG (P : Program) (w : World) (K : PySem.W.Frag) (mg : Str → Option Value) (base : Heap) (CX : CXT) (k : Nat) (f : Addr) (fd : FuncData) (ps : List Str) (sp : Sp) : Prop where
  len : ∀ vs H Q E, sp vs H Q E → vs.length = ps.length
  run : ∀ (A : Around), A.guards = some [] → ∀ (outer : List Env) (s : Shared) (H : Hp) (args : Args) (us : List Value) (vs : List V) (Q : VK) (E : XK), Room k A → Env0 P w K mg base A outer s H → BindsTo s fd args (ps.zip us) → Vals vs us → sp vs H Q E →
    codeAny (model P w) A (.call (.ref f) args) (CR CX outer P w H s Q E) s
section
variable {X : Cx} {CX : CXT} {k : Nat} {f : Addr} {fd : FuncData} {ps : List Str} {sp : Sp} {ds : List Value} {dvs : List V} {E : XK} {x : Str} {e : Expr} {es : List Expr} {t : TA} {p pos : Pos}
theorem pe_callG (F : FnG X.prog X.w X.K X.mg X.base CX k f fd ps sp) (hG : X.A.guards = some []) (hr : Room k X.A) (hg : Gl X x) (hm : X.mg x = some (.ref f)) (hk : PySem.W.keepIn X.K (.ref f) = true) (hb : Binds X.K fd ps ds) (hd : Vals dvs ds) (hx : Passes CX X E)
    (ha : PA X (e :: es) t) (hdb : (x == ("__debug__" : Str)) = false := by decide) (he : starEach (e :: es) X.env = (false, eval e X.env) :: starEach es X.env := by rfl) (hpl : (backTo pos (starEach es X.env)).any (·.1) = false := by rfl) :
    PE X (.Call (.Name x p) (e :: es) [] pos) (tCall sp dvs E t) := by
  refine ⟨fun pins s σ H Q I h => wpAny_Call_Name_kw (ld_glob I hg hm ?_ hdb)⟩
  refine PySem.W.callWith_K (h₀ := X.base) I.ok.mod.kin hk (thn (ha.run pos pins s σ H _ I h) fun us s1 ⟨vs, H1, J, r, q⟩ => ⟨J.kIn, ?_⟩) he hpl
  have rr : Vals (vs ++ dvs) (us ++ ds) := r.append hd
  have bound := hb s1 us J.kIn (rr.length.symm.trans (F.len _ _ _ _ q))
  refine wpAny_call (codeAny_mono (F.run X.A hG X.stack s1 H1 ⟨us, []⟩ (us ++ ds) (vs ++ dvs) Q E hr J.env0 bound rr q) fun res s' z => ?_)
  cases res with
  | error er => exact hx pins σ H1 s1 er s' J z
  | ok fl =>
    cases fl with
    | ret u => exact J.after z
    | next => exact False.elim z
    | brk => exact False.elim z
    | cont => exact False.elim z
end
section
variable {P : Program} {w : World} {K : PySem.W.Frag} {mg : Str → Option Value} {base : Heap}
/-- a def by its body, no repr under way -/
theorem okG {x qual : Str} {st : Stmt} {f : Addr} {fd : FuncData} {N ps : List Str} {k : Nat} {sp : Sp} (F : Fun K x qual st f fd) (S : FnScope N ps (defScope st)) (len : ∀ vs H Q E, sp vs H Q E → vs.length = ps.length)
    (hbody : ∀ (cdv : Value) (A : Around) (outer : List Env) (s : Shared) (H : Hp) (vs : List V) (Q : VK) (E : XK), (A.deeper (envOfC qual (defScope st) s.heap.objs.size f cdv)).guards = some [] → Room k (A.deeper (envOfC qual (defScope st) s.heap.objs.size f cdv)) → sp vs H Q E →
      ∃ t, PSs (cxOf CX0 P w K mg base N qual (defScope st) f cdv A outer s H E).nox (defBody st) t ∧ t { nx := fun _ H' => Q .non H', rt := Q } (start N vs) H) : FnG P w K mg base CX0 (k + 1) f fd ps sp := by
  obtain ⟨oc, od, kV, doc, pm, an, cdv, ct, osl, rfl, lk, hcd⟩ := F.ex
  refine ⟨len, fun A hG outer s H args us vs Q E room e0 bound r pre => ?_⟩
  have many := len _ _ _ _ pre
  have KX : K.In s.heap := e0.mod.kin.keeps fun b o z => (e0.bs b o z).1
  have lim : s.heap.NoLimit := e0.mod.nolimit.keeps fun b o z => (e0.bs b o z).1
  have kinds : ∀ y ∈ ps.zip us, (defScope st).names.lookup y.1 = some .local ∨ ((defScope st).names.lookup y.1 = some .cell ∧ ((cellsFrom (s.heap.objs.size + 1) (defScope st).names []).lookup y.1).isSome = true) := fun y hy => by
    have mem : y.1 ∈ ps := (List.of_mem_zip (show (y.1, y.2) ∈ ps.zip us from hy)).1
    rcases S.par y.1 mem with z | z
    · exact .inl z
    · exact .inr ⟨z, PySem.W.cellsFrom_some _ _ _ (.inl z)⟩
  refine codeAny_call_function room.depth (KX _ _ lk) rfl S.co S.gen rfl (PySem.W.codeRec_of KX hcd) (bound _ _ _ _ ?_)
  refine wpAny_newFunctionEnv_cells S.kind kinds fun env henv s1 inside => ?_
  subst henv
  refine ⟨lim.keeps inside.toInCall.keep, codeAny_func ?_⟩
  obtain ⟨t, ht0, go⟩ := hbody cdv A outer s H vs Q E hG (room.deeper _) pre
  have ht := ht0.nox
  have I : Inv (cxOf CX0 P w K mg base N qual (defScope st) f cdv A outer s H E) [] (start N vs) H s1 := inv_start S room.hd e0 many r inside
  refine wpAny_mono (ht.run [] s1 (start N vs) H _ I go) (fun fl s' z => ?_) fun _ _ z => z
  have back : ∀ {σ' : L2.St} {H' : Hp} {v : V} {u : Value}, Inv (cxOf CX0 P w K mg base N qual (defScope st) f cdv A outer s H E) [] σ' H' s' → RelV v u → Q v H' → CE outer P w H s Q u s' := fun {σ' H' v u} J rv q => ⟨v, H', J.os, J.bare, J.base, J.hok, rv, q⟩
  cases fl with
  | ret u =>
    obtain ⟨v, σ', H', J, rv, q⟩ := z
    exact back J rv q
  | next =>
    obtain ⟨σ', H', J, q⟩ := z
    exact back (v := V.non) (u := Value.none) J rfl q
  | brk => exact False.elim z.choose_spec.choose_spec.2
  | cont => exact False.elim z.choose_spec.choose_spec.2
end

/-! ### the law's own def -/
section
variable {P : Program} {w : World} {K : PySem.W.Frag} {mg mb : Str → Option Value} {CX : CXT} {k : Nat} {fa a : Addr} {fd : FuncData} {x : Str} {sp : Sp} {t : Shared} {us : List Value} {ns : List Int}
/-- what the call leaves -/
abbrev Fine (t : Shared) : Result → Shared → Prop := fun r t' => r = .ok (.ret (.bool true)) ∧ OldK t.heap t'.heap ∧ t'.os = t.os ∧ AllBare t'.gens
theorem lawH (inK : K.In t.heap) (nsM : t.heap.Ns mainGlobals mg) (nsB : t.heap.Ns builtinsNs mb) (bb : ∀ y : Str, y ≠ "__name__" → mb y = bootBuiltins y) (nl : t.heap.NoLimit) (ng : t.gens = #[])
    (at_a : t.heap.get? a = some { cls := .type "list", data := .seq us.toArray }) (room : Room k callerA) (F : ∀ base : Heap, K.In base → base.Ns mainGlobals mg → FnG P w K mg base CX k fa fd [x] sp)
    (bind1 : ∀ (s : Shared) (u : Value), BindsTo s fd ⟨[u], []⟩ [(x, u)]) (noX : ∀ H e s', CX [] H t (fun _ _ _ => False) e s' → False)
    {H : Hp} (only : Only H) (pre : sp [.ref a] H (fun v _ => v = .bl true) fun _ _ _ => False) (hok : HOk P w H t.heap) (onA : ∀ b, H b ≠ none → b = a) (offK : H a ≠ none → K.lookup a = none) :
    codeAny (model P w) callerA (.call (.ref fa) ⟨[.ref a], []⟩) (Fine t) t := by
  have sees : ∀ {b : Addr} {o : Obj}, t.heap.get? b = some o → H b = none → (hidT t.heap H).get? b = some o := fun z n => hidT_get z n
  have untr : ∀ {b : Addr}, b ≠ a → H b = none := fun {b} nb => by
    cases q : H b with
    | none => rfl
    | some u => exact absurd (onA b (by rw [q]; simp)) nb
  have dictNs : ∀ {b : Addr} {m : Str → Option Value}, t.heap.Ns b m → (hidT t.heap H).Ns b m := fun {b m} ⟨o, es, ep, g, d, r⟩ => by
    refine ⟨o, es, ep, sees g (untr fun z => ?_), d, r⟩
    subst z
    rw [at_a] at g
    cases g
    exact nomatch (show Data.seq us.toArray _ = Data.dict es ep from d)
  have inB : K.In (hidT t.heap H) := fun b o z => by
    refine sees (inK b o z) ?_
    cases q : H b with
    | none => rfl
    | some u =>
      have nn : H b ≠ none := by rw [q]; simp
      have eb := onA b nn
      subst eb
      rw [offK nn] at z
      cases z
  obtain ⟨mc, l1, l2⟩ := nl
  have md : Mod K mg (hidT t.heap H) := ⟨inB, dictNs nsM, ⟨mb, dictNs nsB, bb⟩, ⟨mc, dictNs l1, l2⟩⟩
  have e0 : Env0 P w K mg (hidT t.heap H) callerA [] t H := ⟨rfl, md, fun b o z => of_hidT z, Nat.le_of_eq (hidT_size _ _), trivial, fun b z => (by cases z), hok, .of_eq ng⟩
  refine codeAny_mono ((F _ inB (dictNs nsM)).run callerA rfl [] t H ⟨[.ref a], []⟩ [.ref a] [.ref a] _ _ room e0 (bind1 t (.ref a)) (.cons rfl .nil) pre) fun r t' z => ?_
  cases r with
  | error e => exact (noX H e t' z).elim
  | ok fl =>
    cases fl with
    | next => exact False.elim z
    | brk => exact False.elim z
    | cont => exact False.elim z
    | ret u =>
      obtain ⟨v, H', os, bare, un, hok', rv, ev⟩ := z
      cases (show v = .bl true from ev)
      cases (show u = Value.bool true from rv)
      refine ⟨rfl, OldK.of_keep fun b o g => ?_, os, bare⟩
      rcases only b with n | ⟨ob, xs, z⟩
      · exact un.keep b o g n (fun q => by cases q) (fun q => by cases q)
      · have g1 := (hok b _ z).1
        have g2 := (hok' b _ (un.frzs b ob _ z)).1
        rw [g] at g1
        cases g1
        exact g2
theorem lawG (inK : K.In t.heap) (nsM : t.heap.Ns mainGlobals mg) (nsB : t.heap.Ns builtinsNs mb) (bb : ∀ y : Str, y ≠ "__name__" → mb y = bootBuiltins y) (nl : t.heap.NoLimit) (ng : t.gens = #[])
    (at_a : t.heap.get? a = some { cls := .type "list", data := .seq us.toArray }) (areInts : IntsAre us ns) (hz : ns.length ≤ sizeLine) (room : Room k callerA) (F : ∀ base : Heap, K.In base → base.Ns mainGlobals mg → FnG P w K mg base CX k fa fd [x] sp)
    (bind1 : ∀ (s : Shared) (u : Value), BindsTo s fd ⟨[u], []⟩ [(x, u)]) (noX : ∀ H e s', CX [] H t (fun _ _ _ => False) e s' → False)
    (pre : ∀ H : Hp, Only H → SqL K H a (ns.map V.int) → sp [.ref a] H (fun v _ => v = .bl true) fun _ _ _ => False) : codeAny (model P w) callerA (.call (.ref fa) ⟨[.ref a], []⟩) (Fine t) t := by
  have rv := vals_ints areInts
  have many := areInts.length
  cases own : K.lookup a with
  | some o =>
    have g := inK a o own
    rw [at_a] at g
    cases g
    have none0 : Only fun _ => none := fun _ => .inl rfl
    exact lawH inK nsM nsB bb nl ng at_a room F bind1 noX none0 (pre _ none0 (.inr ⟨_, us.toArray, _, own, rfl, rfl, rfl, by rw [List.size_toArray, many]; exact hz, by simpa using rv⟩)) (fun b u z => nomatch (show (none : Option HO) = some u from z)) (fun b z => absurd rfl z) fun z => absurd rfl z
  | none =>
    let H1 : Hp := fun b => if b = a then some (.frz { cls := .type "list", data := .seq us.toArray } (.lst (ns.map V.int))) else none
    have yes : H1 a = some (.frz { cls := .type "list", data := .seq us.toArray } (.lst (ns.map V.int))) := if_pos rfl
    have no : ∀ {b : Addr}, b ≠ a → H1 b = none := fun nb => if_neg nb
    have one : Only H1 := fun b => by
      by_cases e : b = a
      · exact .inr ⟨_, _, by rw [e]; exact yes⟩
      · exact .inl (no e)
    refine lawH inK nsM nsB bb nl ng at_a room F bind1 noX one (pre _ one (.inl (.inr ⟨_, yes⟩))) (fun b u z => ?_) (fun b z => ?_) fun _ => own
    · by_cases e : b = a
      · subst e
        rw [yes] at z
        cases z
        exact ⟨at_a, by rw [List.length_map]; exact hz, us, _, rv, at_a⟩
      · rw [no e] at z
        cases z
    · exact Decidable.byContradiction fun e => z (no e)
end
theorem walkG {l : PySem.W.OpenLaw} {n k : Nat} {q : Program} {loose : List Str} {XP : (Str → Option Value) → Heap → Prop} {YP : World → Heap → Prop} {d : DefRec} {K : Params → PySem.W.Frag} {sp : World → Sp} {x : Str}
    (hn : l.most = some n) (hz : n ≤ sizeLine) (hdf : d.params.defaults = []) (room : Room k callerA) (hY : ∀ (w : World) (h : Heap), YP w h → (K w.params).In h)
    (F : ∀ (w : World) (mg : Str → Option Value) (fa : Addr) (h : Heap), (K w.params).In h → h.Ns mainGlobals mg → mg d.name = some (.ref fa) →
      ∃ fd : FuncData, (∀ (s : Shared) (u : Value), BindsTo s fd ⟨[u], []⟩ [(x, u)]) ∧ ∀ base : Heap, (K w.params).In base → base.Ns mainGlobals mg → FnG l.prog w (K w.params) mg base CX0 k fa fd [x] (sp w))
    (pre : ∀ (w : World) (H : Hp) (a : Addr) (ns : List Int), ns.length ≤ n → Only H → SqL (K w.params) H a (ns.map V.int) → sp w [.ref a] H (fun v _ => v = .bl true) fun _ _ _ => False) :
    PySem.W.WalkO q loose XP YP l.row.toRowW d [] (fun f vs => PySem.call f vs) := by
  refine Att.attach_call hn hdf fun w t0 t mg mb fa o pm cd doc a us ns G Y ho hd hcd hmg at_a areInts many ng => ?_
  obtain ⟨fd, hb, hF⟩ := F w mg fa _ (hY w _ Y) G.T.g hmg
  exact lawG (hY w _ Y) G.T.g G.T.b G.T.builtins G.T.nolimit ng at_a areInts (Nat.le_trans many hz) room hF hb (fun _ _ _ z => z) fun H h1 h2 => pre w H a ns many h1 h2
end TR

set_option Elab.async false
set_option linter.all false
set_option maxRecDepth 100000
set_option maxHeartbeats 4000000
/-! TQ: an error that is caught and kept in a name. -/
namespace TQ
open PySem PySem.Spec PyProof.Rows L2 TX

/-- at a: a caught error of the class at C, its dict at d -/
def kxo (a C : Addr) (d : Option Addr) : HO := .ext fun h => ∃ (oe : Obj) (vs : Array Value), h.get? a = some oe ∧ Zc (.ref C) d oe ∧ oe.data = .fields vs
theorem kxo_ok {P : Program} {w : World} {H : Hp} {h : Heap} {a C : Addr} {d : Option Addr} {oe : Obj} {vs : Array Value} (e : h.get? a = some oe) (z : Zc (.ref C) d oe) (f : oe.data = .fields vs) : ObjOk P w H h a (kxo a C d) :=
  ⟨⟨oe, vs, e, z, f⟩, ⟨oe, e⟩, fun h1 h2 ⟨o, us, q, r⟩ k => ⟨o, us, k _ q, r⟩⟩
theorem kxo_at {P : Program} {w : World} {H : Hp} {h : Heap} {a C : Addr} {d : Option Addr} (ok : HOk P w H h) (e : H a = some (kxo a C d)) : ∃ (oe : Obj) (vs : Array Value), h.get? a = some oe ∧ Zc (.ref C) d oe ∧ oe.data = .fields vs := by
  have x : ObjOk P w H h a (.ext fun h => ∃ (oe : Obj) (vs : Array Value), h.get? a = some oe ∧ Zc (.ref C) d oe ∧ oe.data = .fields vs) := ok a _ e
  exact x.1
/-- a caught error with the field f -/
def Kept (H : Hp) (a C : Addr) (fs : List (Str × V)) : Prop := ∃ d, H a = some (kxo a C (some d)) ∧ H d = some (.xd fs)
theorem Kept.same {H H' : Hp} {a C : Addr} {fs : List (Str × V)} (e : Kept H a C fs) (h : ∀ b o, H b = some o → H' b = some o) : Kept H' a C fs :=
  let ⟨d, h1, h2⟩ := e
  ⟨d, h _ _ h1, h _ _ h2⟩
section
variable {X : Cx} {pins : List (Addr × Obj)} {σ : L2.St} {H : Hp} {s : Shared} {a C : Addr} {fs : List (Str × V)}
/-- an object that was made since the entry is looked at from here on -/
theorem track {φ : Heap → Prop} (I : Inv X pins σ H s) (new : ObjOk X.prog X.w (upd H a (.ext φ)) s.heap a (.ext φ)) (na : H a = none) (n0 : X.s_0.heap.get? a = none) (nL : a ≠ X.env.locals) (nC : ∀ x c, X.env.cells.lookup x = some c → c ≠ a) (nP : ∀ p ∈ X.pn ++ pins, p.1 ≠ a) :
    Inv X pins σ (upd H a (.ext φ)) s := by
  have ne : ∀ {b : Addr} {o : HO}, H b = some o → b ≠ a := fun {b o} e z => by
    rw [z, na] at e
    cases e
  have up : ∀ {b : Addr} {o : HO}, H b = some o → upd H a (.ext φ) b = some o := fun {b o} e => by
    rw [upd_ne (ne e)]
    exact e
  have off : ∀ {b : Addr}, b ≠ a → H b = none → upd H a (.ext φ) b = none := fun {b} nb e => by
    rw [upd_ne nb]
    exact e
  refine ⟨I.ok, I.os, I.bare, ⟨I.base.keep, I.base.slot, fun b o e n hx => off (fun z => ?_) (I.base.free b o e n hx), I.base.there, fun b xs e => up (I.base.tups b xs e), fun b o u e => up (I.base.frzs b o u e), fun b ps e => ?_⟩, I.loc, I.cell, off nL.symm I.free, fun x c e => off (nC x c e) (I.freeC x c e), fun p hp => ?_, fun b o e => ?_, I.len⟩
  · rw [z, n0] at e
    cases e
  · obtain ⟨more, q⟩ := I.base.tbls b ps e
    exact ⟨more, up q⟩
  · obtain ⟨h1, h2, h3⟩ := I.pin p hp
    exact ⟨h1, off (nP p hp) h2, h3⟩
  · by_cases hb : b = a
    · subst hb
      rw [upd_same] at e
      cases e
      exact new
    · rw [upd_ne hb] at e
      exact (I.hok b o e).stay (fun _ _ _ q => q) (fun _ q => up q) fun _ _ q => up q
theorem kinst_of (I : Inv X pins σ H s) (e : Kept H a C fs) : ∃ ox od, PySem.W.InstAt s.heap a ox C (some od) ∧ ∃ d, ox.dict = some d ∧ H d = some (.xd fs) ∧ s.heap.get? d = some od := by
  obtain ⟨d, h1, h2⟩ := e
  obtain ⟨oe, vs, ho, hz, hf⟩ := kxo_at I.hok h1
  have hx : ObjOk X.prog X.w H s.heap d (.xd fs) := I.hok d _ h2
  obtain ⟨mA, hns, _⟩ := hx
  obtain ⟨od, hd, _⟩ := lookIn_ns hns
  exact ⟨oe, od, ⟨ho, hz.1, by unfold PySem.W.notCls; rw [hf] <;> rfl, by rw [hz.2]; exact hd⟩, d, hz.2, h2, hd⟩
end
/-- isinstance(e, c): e a caught error -/
def rIsQ (K : PySem.W.Frag) : List V → Hp → VK → Prop := fun xs H Q => ∃ (a C : Addr) (fs : List (Str × V)) (c : V) (cv : Value) (b : Bool), xs = [.ref a, c] ∧ ExcC K C ∧ Kept H a C fs ∧ ClsV c cv ∧ PySem.W.kitOne K (.ref C) cv = some b ∧ Q (.bl b) H
theorem call_isQ {X : Cx} : CallR X (.builtin "isinstance") (rIsQ X.K) := by
  intro pins s σ H xs us Q I r h
  obtain ⟨a, C, fs, c, cv, b, rfl, hC, he, k, e, q⟩ := h
  obtain ⟨u1, u2, rfl, r1, r2⟩ := vals2 r
  cases (show u1 = Value.ref a from r1)
  have e2 := k.eq r2
  subst e2
  obtain ⟨ox, od, J, _⟩ := kinst_of I he
  refine PySem.W.kia_one (PySem.W.kitx_exc (ox := ox) (od := some od) ?_ hC.hg hC.hk hC.hs hC.ha hC.hn hC.ht hC.hm) I.kIn J e (fun z => nomatch z) fun tk => ⟨.bl b, H, I.tok tk, rfl, q⟩
  have z := hC.hd
  unfold PySem.W.hasDictIn at z
  cases w : PySem.W.clsIn X.K C with
  | some _ => rfl
  | none => rw [w] at z; cases z
/-- e.f: a field of a caught error -/
def tQx (K : PySem.W.Frag) (f : Str) (te : TE) : TE := fun σ H Q => te σ H fun x H1 => ∃ (a C : Addr) (fs : List (Str × V)) (v : V), x = .ref a ∧ XfC K C ∧ PySem.W.findIn K (.ref C) f = some none ∧ Kept H1 a C fs ∧ fs.lookup f = some v ∧ Q v H1
theorem pe_qx {X : Cx} {e : Expr} {te : TE} {pos : Pos} {f : Str} (he : PE X e te) (hb : attributeBase e f X.env (eval e X.env) = eval e X.env := by rfl) : PE X (.Attribute e f pos) (tQx X.K f te) := by
  refine ⟨fun pins s σ H Q I h => attr_of hb (thn (he.run pins s σ H _ I h) fun u s1 ⟨x, H1, I1, rx, a, C, fs, v, ex, T, hno, he, l, q⟩ => ?_)⟩
  subst ex
  cases (show u = Value.ref a from rx)
  obtain ⟨d, h1, h2⟩ := he
  obtain ⟨oe, vs, ho, hz, hf⟩ := kxo_at I1.hok h1
  have hx : ObjOk X.prog X.w H1 s1.heap d (.xd fs) := I1.hok d _ h2
  obtain ⟨mA, hns, hr⟩ := hx
  obtain ⟨od, hd, hl⟩ := lookIn_ns hns
  obtain ⟨y, hy, ry⟩ := RelO.some_of (v := v) (o := mA f) (by rw [← l]; exact hr f)
  have J : PySem.W.InstAt s1.heap a oe C (some od) := ⟨ho, hz.1, by unfold PySem.W.notCls; rw [hf] <;> rfl, by rw [hz.2]; exact hd⟩
  exact HandSPX.exc_get I1.kIn J T.ga T.gg T.exC (PySem.W.findObj_own T.hdC hno rfl (by rw [hl, hy])) (handed_of ry) ⟨v, H1, I1.tok _, ry, q⟩

/-! ### try: body, except x as n: y = n -/
def wKeep (K : PySem.W.Frag) (c : Value) (i j : Nat) (Wout : WX) (D : Ends) : WX := fun cls d σ H => ∃ (C : Addr) (b : Bool), cls = .ref C ∧ PySem.W.exmOne K cls c = some b ∧
  (b = true → ∀ a, H a = none → D.nx (((σ.set i (some (.ref a))).set j (some (.ref a))).set i none) (upd H a (kxo a C d))) ∧ (b = false → Wout cls d σ H)
section
variable {X : Cx} {x n y : Str} {c : Value} {i j : Nat} {body : List Stmt} {np np2 yp ap pos pos' : Pos} {tb : WX → TS} {Wout : WX}
theorem ps_try_keep (hex : X.ex = []) (hs : X.stack = X.env :: X.outer) (hf : X.env.frame = some X.env.locals) (hN : X.N.Nodup) (hi : X.N[i]? = some n) (hln : X.env.kindOf n = some .local) (hj : X.N[j]? = some y) (hly : X.env.kindOf y = some .local) (hij : i ≠ j) (hc : Names X x c) (tk : Takes X Wout)
    (hb : ∀ (W : WX) (pn : List (Addr × Obj)) (xe : Value → Shared → Prop), Takes (X.tr pn xe) W → PassesOwn (model X.prog X.w) X.A X.env xe → PSs (X.tr pn xe) body (tb W))
    (hsu : ∀ (a : Addr) (pn : List (Addr × Obj)), PSs (X.suite a pn) [.Assign [.Name y yp] (.Name n np2) ap] (tAsg (tVar i) (gName j))) :
    PS X (.Try body [.ExceptHandler (some (.Name x np)) (some n) [.Assign [.Name y yp] (.Name n np2) ap] pos'] [] [] pos) (fun D σ H => tb (wKeep X.K c i j Wout D) D σ H) := by
  refine ⟨fun pins s σ H D I h => ?_⟩
  have ok := I.ok
  have frames : X.A.frames = some (X.env :: X.outer) := by rw [ok.frames, hs]
  refine wpAny_Try_except ?_
  refine wpAny_mono ((hb (wKeep X.K c i j Wout D) (X.pn ++ pins) (fun e t1 => wpAny (model X.prog X.w) X.A (noteFrame e X.env) (fun _ t2 => wpAny (model X.prog X.w) X.A (setFlight e none) (fun _ t3 =>
    wpAny (model X.prog X.w) X.A (handleBy e X.env [.ExceptHandler (some (.Name x np)) (some n) [.Assign [.Name y yp] (.Name n np2) ap] pos']) (SP X pins D) X.xe t3) X.xe t2) X.xe t1) (fun u s' air => ?_) PassesOwn.looking).run [] s σ H D (I.toTry _) h) (fun fl s1 q => ?_) (fun _ _ q => q)
  · obtain ⟨a, B, sI, pins', σ', H', cls, d, rfl, J', nb, up, sky, na, os, ag, C, b, hcls, hb1, yes, no⟩ := air
    have J : Inv X pins σ' H' sI := J'.ofTry ok
    rw [show (X.tr (X.pn ++ pins) _).stack = X.env :: X.outer from hs] at sky
    show wpAny (model X.prog X.w) X.A (noteFrame (.ref a) X.env) _ _ _
    refine Sky.land Zc.steady frames hf sky fun h3 fl3 up3 => ?_
    have J3 : Inv X pins σ' H' { s' with heap := h3 } := J.landed nb fl3.1 (up.trans up3) os ag
    obtain ⟨o3, f3, g3, z3, d3⟩ := fl3.there
    have outside : ∀ {h : Heap} {o : Obj} {vs : Array Value}, h.FunFrames B (X.env :: X.outer) → h.get? a = some o → o.data = .fields vs → a ∉ frs (X.env :: X.outer) := fun {h o vs} ff e dd hm => by
      obtain ⟨_, o', e', nf⟩ := ff.mem hm
      rw [e] at e'
      cases e'
      exact nf _ dd
    have off := outside fl3.2.2.1 g3 d3
    have nL : a ≠ X.env.locals := fun z => off (List.mem_filterMap.mpr ⟨X.env, List.mem_cons_self, by rw [hf, z]⟩)
    have nF : a ∉ X.fs := fun hm => by
      obtain ⟨e, he, q⟩ := List.mem_filterMap.mp hm
      exact off (List.mem_filterMap.mpr ⟨e, List.mem_cons_of_mem _ he, q⟩)
    -- it is new to the state ahead of it
    have newI : ∀ {b : Addr} {o : Obj}, sI.heap.get? b = some o → b ∉ frs X.stack → b ≠ a := fun {b o} e nf z => by
      have q := nb b o e nf
      rw [z, fl3.2.1] at q
      cases q
    have n0 : X.s_0.heap.get? a = none := by
      cases q : X.s_0.heap.get? a with
      | none => rfl
      | some o =>
        by_cases hx : a ∈ X.ex
        · rw [hex] at hx
          cases hx
        · obtain ⟨o', e'⟩ := J.base.there a o q hx
          exact absurd rfl (newI e' (by rw [hs]; exact off))
    have nP : ∀ p ∈ X.pn ++ pins, p.1 ≠ a := fun p hp z => by
      have q := (J.pin p hp).1
      rw [z] at q
      exact newI q (by rw [hs]; exact off) rfl
    have S3 := J3.suite g3 d3 na nL nF
    refine wpAny_handleBy_cons (codeAny_handlers_test ?_) (by intro q; cases q)
    have LT : PySem.W.Looks (model X.prog X.w) h3 (typeOf (.ref a)) cls := fun A Q E s k q => wpAny_typeOf_ref (k _ _ g3) (by rw [z3.1]; exact q)
    have LM := PySem.W.exm_one (M := model X.prog X.w) J3.kIn LT hb1
    have named : ∀ {Q : Value → Shared → Prop} {E : Value → Shared → Prop}, Q c { s' with heap := h3 } → wpAny (model X.prog X.w) (X.A.mark (some (.ref a))) (eval (.Name x np) X.env) Q E { s' with heap := h3 } := fun {Q E} q => by
      obtain ⟨hg, hdbg, hm | ⟨hm, hv, hnn⟩⟩ := hc
      · exact ld_glob (X := X.suite a ((a, o3) :: (X.pn ++ pins))) S3 hg hm q hdbg
      · exact ld_blt (X := X.suite a ((a, o3) :: (X.pn ++ pins))) S3 hg hm hv q hnn hdbg
    refine named (LM.here ?_)
    cases b with
    | true =>
      refine codeAny_handlers_suite_as (HandSPX.lands_againZ fl3 fun h4 fl4 up4 => ?_)
      have J4 : Inv X pins σ' H' { s' with heap := h4 } := J.landed nb fl4.1 ((up.trans up3).trans up4) os ag
      obtain ⟨o4, f4, g4, z4, d4⟩ := fl4.there
      have S4 := J4.suite g4 d4 na nL nF
      have hiσ : i < σ'.length := by rw [J.len]; exact (List.getElem?_eq_some_iff.mp hi).1
      refine store_ok (X := X.suite a ((a, o4) :: (X.pn ++ pins))) (v := .ref a) S4 hN hi (.inl hln) rfl (fun s5 S5 => ?_) (.inr hln)
      have go := (hsu a ((a, o4) :: (X.pn ++ pins))).run [] s5 _ H' { nx := fun σ6 H6 => σ6 = (σ'.set i (some (.ref a))).set j (some (.ref a)) ∧ H6 = H', rt := fun _ _ => False, bk := fun _ _ => False, ct := fun _ _ => False } S5
        ⟨.ref a, by rw [List.getElem?_set_self hiσ], rfl, rfl⟩
      refine wpAny_mono go (fun fl s6 q => ?_) (fun _ _ z => False.elim z)
      cases fl with
      | next =>
        obtain ⟨σ6, H6, S6, e6, e7⟩ := q
        rw [e6, e7] at S6
        show wpAny (model X.prog X.w) X.A (do bindName X.env n .none; unbindBehindTheSuite X.env n pos') _ _ _
        refine gone_ok (X := X.suite a ((a, o4) :: (X.pn ++ pins))) S6 hN hi hln fun s7 S7 => ?_
        have g7 : s7.heap.get? a = some o4 := (S7.pin (a, o4) (List.mem_append_left _ List.mem_cons_self)).1
        have J7 : Inv X pins _ H' s7 := S7.unsuite ok
        rw [hcls] at z4
        refine ⟨_, _, track J7 (kxo_ok g7 z4 d4) na n0 nL (fun x0 c0 e z => ?_) nP, yes rfl a na⟩
        obtain ⟨v, hv⟩ := J7.cell x0 c0 e
        rw [z] at hv
        obtain ⟨oc, hoc, hdc⟩ := hv
        rw [g7] at hoc
        cases hoc
        rw [d4] at hdc
        cases hdc
      | brk => obtain ⟨_, _, _, z⟩ := q; exact False.elim z
      | cont => obtain ⟨_, _, _, z⟩ := q; exact False.elim z
      | ret u => obtain ⟨_, _, _, _, _, z⟩ := q; exact False.elim z
    | false =>
      show wpAny _ X.A (handleBy (.ref a) X.env []) _ _ _
      refine wpAny_handleBy_nil ?_
      obtain ⟨_, _, _, oe, vs, T, oT, ts', he, hz, hd, h1, hr⟩ := id fl3
      unfold PySem.passOn
      refine wpAny_bind (wpAny_field he hd h1 ?_)
      rw [if_neg (show ¬ ((Value.ref T == Value.none) = true) from by simp)]
      have away : wpAny (model X.prog X.w) X.A (setFlight (.ref a) X.env.frame) (fun _ s4 => wpAny (model X.prog X.w) X.A (throw (.ref a) : Sem Flow) (SP X pins D) X.xe s4) X.xe { s' with heap := h3 } := by
        rw [hf]
        refine HandSPX.setFlight_upZ fl3 fun h4 hh4 up4 => wpAny_throw (tk _ _ ⟨a, B, sI, pins, σ', H', cls, d, rfl, J, nb, (up.trans up3).trans up4, .inr (.inr (by rw [hs]; exact hh4)), na, os, ag, no rfl⟩)
      first
        | exact wpAny_bind (wpAny_pure (wpAny_bind away))
        | exact wpAny_bind away
  · cases fl with
    | next =>
      obtain ⟨σ', H', J', q⟩ := q
      exact wpAny_execs_nil ⟨σ', H', J'.ofTry ok, q⟩
    | brk =>
      obtain ⟨σ', H', J', q⟩ := q
      exact ⟨σ', H', J'.ofTry ok, q⟩
    | cont =>
      obtain ⟨σ', H', J', q⟩ := q
      exact ⟨σ', H', J'.ofTry ok, q⟩
    | ret u =>
      obtain ⟨v, σ', H', J', r, q⟩ := q
      exact ⟨v, σ', H', J'.ofTry ok, r, q⟩
end

/-! ### raise, and calls that may raise -/
/-- a reading that may be weakened -/
def tLax (te : TE) : TE := fun σ H Q => ∃ Q0 : VK, te σ H Q0 ∧ ∀ v H1, Q0 v H1 → Q v H1
theorem pe_lax {X : Cx} {e : Expr} {te : TE} (h : PE X e te) : PE X e (tLax te) :=
  ⟨fun pins s σ H Q I ⟨Q0, h0, im⟩ => wpAny_mono (h.run pins s σ H Q0 I h0) (fun u s' ⟨v, H1, J, r, q⟩ => ⟨v, H1, J, r, im v H1 q⟩) fun _ _ z => z⟩
/-- raise C(e) -/
def tRs (C : Addr) (f : Str) (te : TE) : L2.St → Hp → XK → Prop := fun σ H Q => te σ H fun y H1 => ∀ d H2, Same H1 H2 → H1 d = none → H2 d = some (.xd [(f, y)]) → Q (.ref C) (some d) H2
section
variable {X : Cx} {x f q : Str} {C : Addr} {e : Expr} {te : TE} {p pos : Pos}
theorem pmk_err (O : OwnE X.K X.mg x C f q) (hr : Room 2 X.A) (hg : Gl X x) (he : PE X e te) (hdb : (x == ("__debug__" : Str)) = false := by decide) (hs : starEach [e] X.env = (false, eval e X.env) :: starEach [] X.env := by rfl) :
    PMk X (.Call (.Name x p) [e] [] pos) (tRs C f te) := by
  obtain ⟨fI, fd, iC, tI, _, b1, _, ok⟩ := O.ex
  intro pins s σ H Q I h
  refine pmk_oex (ta := tCons (tLax te) tNil) (dvs := []) (ds := []) O.ox iC tI (ok X.prog X.w X.base) hr b1 .nil pass0 hg O.m (pa_cons (pe_lax he) pa_nil hs) hdb hs (by rfl) pins s σ H Q I ⟨_, h, fun y H1 hy => ?_⟩
  refine ⟨by simp, fun a na => ⟨a, y, rfl, upd_same, fun dx nd ne => ⟨rfl, dx, [(f, y)], upd_same, ?_, ?_, ?_⟩⟩⟩
  · rw [upd_ne ne, upd_same]
  · rw [upd_ne ne] at nd
    exact nd
  · rw [upd_ne ne] at nd
    refine hy dx _ (fun b o hb => ?_) nd upd_same
    have e1 : b ≠ a := fun z => by rw [z, na] at hb; cases hb
    have e2 : b ≠ dx := fun z => by rw [z, nd] at hb; cases hb
    rw [upd_ne e2, del_ne e1, upd_ne e1, upd_ne e2, upd_ne e1]
    exact hb
end
/-- f(e, ..), f may raise: W by the slots as they stand -/
def tCallX (sp : Sp) (dvs : List V) (W : WX) (t : TA) : TE := fun σ H Q => t σ H fun vs H1 => sp (vs ++ dvs) H1 Q fun cls d H2 => W cls d σ H2
section
variable {X : Cx} {k : Nat} {f : Addr} {fd : FuncData} {ps : List Str} {sp : Sp} {ds : List Value} {dvs : List V} {W : WX} {x : Str} {e : Expr} {es : List Expr} {t : TA} {p pos : Pos}
theorem run_fnX {pins : List (Addr × Obj)} {σ : L2.St} {H : Hp} {s : Shared} {Q : VK} {us : List Value} {vs : List V} (F : FnOk X.prog X.w X.K X.mg X.base (L2.CX X.prog X.w) k f fd ps sp) (tk : Takes X W) (hr : Room k X.A) (hb : Binds X.K fd ps ds) (hd : Vals dvs ds)
    (J : Inv X pins σ H s) (r : Vals vs us) (q : sp (vs ++ dvs) H Q fun cls d H2 => W cls d σ H2) : wpAny (model X.prog X.w) X.A (call (.ref f) us) (EP X pins σ Q) X.xe s := by
  have rr : Vals (vs ++ dvs) (us ++ ds) := r.append hd
  refine wpAny_call (codeAny_mono (F.run X.A X.stack s H ⟨us, []⟩ (us ++ ds) (vs ++ dvs) Q _ hr J.env0 (hb s us J.kIn (rr.length.symm.trans (F.len _ _ _ _ q))) rr q) fun res s' z => ?_)
  cases res with
  | error er => exact tk er s' (XE.of_call J (fun cls d H' w => w) z)
  | ok fl =>
    cases fl with
    | ret u => exact J.after z
    | next => exact False.elim z
    | brk => exact False.elim z
    | cont => exact False.elim z
theorem pe_callX (F : FnOk X.prog X.w X.K X.mg X.base (L2.CX X.prog X.w) k f fd ps sp) (tk : Takes X W) (hr : Room k X.A) (hg : Gl X x) (hm : X.mg x = some (.ref f)) (hk : PySem.W.keepIn X.K (.ref f) = true) (hb : Binds X.K fd ps ds) (hd : Vals dvs ds)
    (ha : PA X (e :: es) t) (hdb : (x == ("__debug__" : Str)) = false := by decide) (he : starEach (e :: es) X.env = (false, eval e X.env) :: starEach es X.env := by rfl) (hpl : (backTo pos (starEach es X.env)).any (·.1) = false := by rfl) :
    PE X (.Call (.Name x p) (e :: es) [] pos) (tCallX sp dvs W t) :=
  ⟨fun pins s σ H Q I h => wpAny_Call_Name_kw (ld_glob I hg hm (PySem.W.callWith_K (h₀ := X.base) I.ok.mod.kin hk (thn (ha.run pos pins s σ H _ I h) fun us s1 ⟨vs, H1, J, r, q⟩ => ⟨J.kIn, run_fnX F tk hr hb hd J r q⟩) he hpl) hdb)⟩
end

open TR in
/-- repr(x) of plain data of any kind -/
def rReprV : List V → Hp → VK → Prop := fun xs H Q => ∃ (x : V) (d : PyData) (c : Bool), xs = [x] ∧ DV H c x d ∧ (d.hasDict = true → c = true) ∧ d.showable = true ∧ d.depth ≤ 60 ∧ d.shown.length ≤ sizeLine ∧ Q (.str d.shown) H
open TR in
theorem cr_reprV {X : Cx} (hg : X.A.guards = some []) (hu : X.A.units + 64 < cLine) : CallR X (.builtin "repr") rReprV := by
  intro pins s σ H xs us Q I r h
  obtain ⟨x, d, c, rfl, hd, hc, hs, hp, hz, q⟩ := h
  have asRef : ∀ a, x = .ref a → wpAny (model X.prog X.w) X.A (call (.builtin "repr") us) (EP X pins σ Q) X.xe s := fun a e => by
    subst e
    exact cr_repr hg hu pins s σ H _ us Q I r ⟨a, d, c, rfl, hd, hc, hs, hp, hz, q⟩
  cases hd with
  | non =>
    obtain ⟨u, rfl, ru⟩ := r.one
    cases (show u = Value.none from ru)
    simp only [PyData.shown] at q
    exact PySem.P.repr_of_none ⟨.str "None", H, I.tok _, ⟨_, rfl⟩, q⟩
  | bl b =>
    obtain ⟨u, rfl, ru⟩ := r.one
    cases (show u = Value.bool b from ru)
    simp only [PyData.shown] at q
    exact PySem.P.repr_of_bool ⟨.str (if b then "True" else "False"), H, I.tok _, ⟨_, rfl⟩, q⟩
  | int i =>
    obtain ⟨u, rfl, ru⟩ := r.one
    obtain ⟨t, rfl⟩ := (show ∃ t, u = Value.int i t from ru)
    simp only [PyData.shown] at q
    exact PySem.P.repr_of_int (by simpa only [PyData.showable, decide_eq_true_eq] using hs) ⟨.str (toString i), H, I.tok _, ⟨_, rfl⟩, q⟩
  | str z =>
    obtain ⟨u, rfl, ru⟩ := r.one
    obtain ⟨t, rfl⟩ := (show ∃ t, u = Value.str z t from ru)
    simp only [PyData.shown] at q hz
    exact PySem.P.repr_of_str ⟨.str (reprText z), H, I.tok _, ⟨_, rfl⟩, q⟩ hz
  | lst a b c => exact asRef _ rfl
  | tup a b => exact asRef _ rfl
  | dic a b => exact asRef _ rfl

/-- fs[i](e, ..): a function out of a list, it may raise -/
def tCallSX (P : Program) (w : World) (K : PySem.W.Frag) (mg : Str → Option Value) (base : Heap) (A : Around) (W : WX) (tf : TE) (t : TA) : TE := fun σ H Q => tf σ H fun x H1 => ∃ (f : Addr) (fd : FuncData) (ps : List Str) (sp : Sp) (k : Nat), x = .ref f ∧ FnOk P w K mg base (L2.CX P w) k f fd ps sp ∧ Room k A ∧ PySem.W.keepIn K (.ref f) = true ∧ Binds K fd ps [] ∧
  t σ H1 fun vs H2 => sp vs H2 Q fun cls d H3 => W cls d σ H3
theorem pe_callSX {X : Cx} {W : WX} {a i : Expr} {e : Expr} {es : List Expr} {tf : TE} {t : TA} {p pos : Pos} (tk : Takes X W) (hf : PE X (.Subscript a i p) tf) (ha : PA X (e :: es) t)
    (hc : eval (.Call (.Subscript a i p) (e :: es) [] pos) X.env = (do let f ← eval (.Subscript a i p) X.env; callWith pos f [] (backTo pos (starEach (e :: es) X.env)) (backToKw pos (keywordEach [] X.env))) := by rfl)
    (he : starEach (e :: es) X.env = (false, eval e X.env) :: starEach es X.env := by rfl) (hpl : (backTo pos (starEach es X.env)).any (·.1) = false := by rfl) :
    PE X (.Call (.Subscript a i p) (e :: es) [] pos) (tCallSX X.prog X.w X.K X.mg X.base X.A W tf t) := by
  refine ⟨fun pins s σ H Q I h => ?_⟩
  rw [hc]
  refine wpAny_bind (thn (hf.run pins s σ H _ I h) fun u s1 ⟨x, H1, J, rx, f, fd, ps, sp, k, ex, F, hr, hk, hb, q⟩ => ?_)
  subst ex
  cases (show u = Value.ref f from rx)
  exact PySem.W.callWith_K (h₀ := X.base) J.ok.mod.kin hk (thn (ha.run pos pins s1 σ H1 _ J q) fun us s2 ⟨vs, H2, J2, r, q2⟩ => ⟨J2.kIn, run_fnX (dvs := []) (ds := []) F tk hr hb .nil J2 r (by rw [List.append_nil]; exact q2)⟩) he hpl
end TQ

set_option Elab.async false
set_option linter.all false
set_option maxRecDepth 100000
set_option maxHeartbeats 4000000
/-! TV: texts with a sign struck out, behind a list of a written text; nested data beside an empty tuple. -/
namespace TV
open PySem PySem.Spec PyProof.Rows L2 TX CwR
section
variable {X : Cx} {rest : List Stmt} {u : TS}
/-- a list of one written text is stored under a name: behind it a token is out -/
theorem pss_lstT {i j : Nat} {x c : Str} {cpos lpos pos' pos : Pos} (hN : X.N.Nodup) (hi : X.N[i]? = some x) (hx : Loc X.env.scope x) (h2 : PSsT X rest u)
    (hs : swapsWith (.List [.Constant (.str c) j cpos] lpos) (some (.Name x pos')) pos.line X.env = pure false := by rfl) (hf : X.fn x = true ∨ X.env.scope.names.lookup x = some .local := by first | exact .inl rfl | exact .inr rfl | assumption) :
    PSs X (.Assign [.Name x pos'] (.List [.Constant (.str c) j cpos] lpos) pos :: rest) (tSeq (tAsg (tLst (tCons (tC (.str c)) tNil)) (gName i)) u) := by
  refine ⟨fun pins s σ H D I h => ?_⟩
  refine wpAny_execs_cons (wpAny_Assign_Name (wpAny_List_spliced ?_) hs)
  show wpAny _ _ (spliced ((false, eval (.Constant (.str c) j cpos) X.env) :: backTo lpos (starEach [] X.env))) _ _ s
  refine Calls.spliced_cons (Calls.Constant_str (Calls.spliced_nil ?_))
  have h1 : (1 : Nat) ≤ sizeLine := by decide
  refine ⟨h1, ?_⟩
  have hfr : H s.heap.objs.size = none := I.hok.fresh (Nat.le_refl _)
  have I1 : Inv X pins σ (upd H s.heap.objs.size (.lst [.str c])) _ := I.laid (t' := s.toks + 1) (fun b u e => Heap.get?_push_of_some _ e) (Nat.le_refl _) ⟨h1, [.str c s.toks], 0, .cons ⟨_, rfl⟩ .nil, Heap.get?_push_size _ rfl⟩
  refine wpAny_mono (PySem.wpAny_toks (store_ok (v := V.ref s.heap.objs.size) (u := Value.ref s.heap.objs.size) (Q := fun _ s2 => Inv X pins (σ.set i (some (V.ref s.heap.objs.size))) (upd H s.heap.objs.size (.lst [.str c])) s2) I1 hN hi hx rfl (fun _ I2 => I2) hf)) (fun _ s2 q => ?_) fun _ _ z => z.2
  have hk : s.toks + 1 ≤ s2.toks := q.1
  exact h2 pins s2 _ _ D (by omega) q.2 (h.2 _ hfr)
theorem pit_str {tg e : Expr} {te : TE} (he : PET X e te) : PIT X tg e (iStr te) := by
  intro pins s σ H R h0 I h
  refine thn (he pins s σ H _ h0 I h) fun v s1 ⟨y, H1, I1, r1, x, ex, q⟩ => ?_
  subst ex
  obtain ⟨t, rfl⟩ := r1
  cases ha : x.cps.all (· < 128)
  · exact wpAny_pyIter_wide ha (pi_one (tk := s1.toks) I1 _ (turn_str _ x t "str_iterator" (.inr rfl)) ⟨_, Heap.get?_push_size _ rfl, rfl, rfl⟩ q)
  · exact wpAny_pyIter_ascii ha (pi_one (tk := s1.toks) I1 _ (turn_str _ x t "str_ascii_iterator" (.inl rfl)) ⟨_, Heap.get?_push_size _ rfl, rfl, rfl⟩ q)
end
section
variable {X : Cx}
/-- equality of data one of which is not deep -/
def rEqE (K : PySem.W.Frag) : R2 := fun x y H Q => ∃ d e, Dp K H x d ∧ Dp K H y e ∧ d.canLay0 = true ∧ e.canLay0 = true ∧ min d.depth e.depth ≤ 64 ∧ Q (.bl (PyData.eqv d e)) H
theorem op_eqE (hu : X.A.units + 64 < cLine) : OpR X (compareOp .Eq) (rEqE X.K) := by
  intro pins s σ H x y v u Q I rx ry h
  obtain ⟨d, e, hd, he, sd, se, hm, q⟩ := h
  obtain ⟨as, r1⟩ := Dp.reads I d x v hd rx
  obtain ⟨bs, r2⟩ := Dp.reads I e y u he ry
  exact PySem.SeqAt.compareEq_reads r1 r2 sd se (by omega) ⟨.bl _, H, I, rfl, q⟩
end
end TV

set_option Elab.async false
set_option linter.all false
set_option maxRecDepth 100000
set_option maxHeartbeats 4000000
/-! TU: a text from its end to its beginning. -/
namespace TU
open PySem PySem.Spec PyProof.Rows L2
def tRevS (te : TE) : TE := fun σ H Q => te σ H fun x H1 => ∃ z : Str, x = .str z ∧ z.length ≤ sizeLine ∧ Q (.str ⟨z.cps.toList.reverse.toArray⟩) H1
theorem rev_list (x : Str) (u : Tok) : ((Builtin.Str.strSliceIndices none none (-1) x.length).filterMap (x.cps[·]?)) = x.cps.toList.reverse := by
  rw [picked_rev, filterMap_get, List.map_map]
  · refine List.ext_getElem (by simp [Str.length]) fun i h1 h2 => ?_
    simp only [List.length_map, List.length_range] at h1
    have hx : x.length - 1 - i < x.cps.size := by show x.length - 1 - i < x.length; omega
    rw [List.getElem_map, List.getElem_range, List.getElem_reverse]
    show x.cps.getD (x.length - 1 - i) 0 = _
    rw [Array.getD_eq_getD_getElem?, Array.getElem?_eq_getElem hx]
    simp [Str.length]
  · intro i hi
    obtain ⟨k, hk, rfl⟩ := List.mem_map.mp hi
    have hk' : k < x.length := List.mem_range.mp hk
    show x.length - 1 - k < x.length
    omega
section
variable {X : Cx}
theorem pe_revS {e : Expr} {te : TE} {k : Nat} {p1 p2 p3 pos : Pos} (he : PE X e te) : PE X (.Subscript e (.Slice none none (some (.UnaryOp .USub (.Constant (.int 1) k p1) p2)) p3) pos) (tRevS te) := by
  refine ⟨fun pins s σ H Q I h => ?_⟩
  refine Subscript_ (thn (he.run pins s σ H _ I h) fun v s1 ⟨x, H1, I1, r1, q1⟩ => ?_)
  obtain ⟨z, ex, hz, q⟩ := q1
  subst ex
  obtain ⟨t, rfl⟩ := r1
  have hst : PO X (some (.UnaryOp .USub (.Constant (.int 1) k p1) p2)) (tPart (tUn (rU fun i => .int (-i)) (tC (.int 1)))) := po_some (pe_un un_neg pe_int)
  refine wpAny_Slice (thn (po_none.run pins s1 σ H1 (fun o H2 => o = none ∧ H2 = H1) I1 ⟨rfl, rfl⟩) fun vl s2 ⟨l, H2, I2, pl, el, e2⟩ => ?_)
  subst el e2
  refine thn (po_none.run pins s2 σ H2 (fun o H3 => o = none ∧ H3 = H2) I2 ⟨rfl, rfl⟩) fun vu s3 ⟨u, H3, I3, pu, eu, e3⟩ => ?_
  subst eu e3
  refine thn (hst.run pins s3 σ H3 (fun o H4 => o = some (-1) ∧ H4 = H3) I3 ⟨1, rfl, -1, rfl, rfl, rfl⟩) fun vs s4 ⟨o, H4, I4, ps, eo, e4⟩ => ?_
  subst eo e4
  have I5 : Inv X pins σ H4 { s4 with heap := s4.heap.push { cls := .type "slice", data := .fields #[vl, vu, vs] } } := I4.kept (t' := s4.toks) fun b ob q => Heap.get?_push_of_some _ q
  show wpAny (model X.prog X.w) X.A (subscriptTail e (.Slice none none (some (.UnaryOp .USub (.Constant (.int 1) k p1) p2)) p3) (.str z t) (.ref s4.heap.objs.size)) (EP X pins σ Q) X.xe { s4 with heap := s4.heap.push { cls := .type "slice", data := .fields #[vl, vu, vs] } }
  cases pl
  cases pu
  obtain ⟨tk, rfl⟩ : ∃ tk, vs = Value.int (-1) tk := by
    cases ps
    exact ⟨_, rfl⟩
  have hsl : ({ s4 with heap := s4.heap.push { cls := .type "slice", data := .fields #[_, _, _] } } : Shared).heap.IsSlice s4.heap.objs.size none none (some (-1, tk)) := ⟨_, Heap.get?_push_size _ rfl, rfl, rfl⟩
  refine tail_any (ops := [.str z t, .ref s4.heap.objs.size]) (typeIs_str _ _ _) (PySem.F.slot_str_getitem.lookup) ?_ (by with_unfolding_all rfl)
  refine wpAny_getItem_str_slice (l := none) (u := none) (st := some (-1, tk)) hsl rfl ?_
  have e9 : ((Builtin.Str.strSliceIndices none none (-1) z.length).filterMap (z.cps[·]?)) = z.cps.toList.reverse := rev_list z tk
  show Made.post (if ((-1 : Int) == 1 && (Builtin.Str.strSliceIndices none none (-1) z.length).length == z.length) = true then Made.val (.str z t)
    else Made.str ⟨((Builtin.Str.strSliceIndices none none (-1) z.length).filterMap (z.cps[·]?)).toArray⟩) (EP X pins σ Q) _
  rw [if_neg (by rw [show ((-1 : Int) == 1) = false from rfl]; simp), e9]
  exact ⟨by show (z.cps.toList.reverse.toArray).size ≤ _; simp only [List.size_toArray, List.length_reverse]; exact hz, .str _, H4, I5.tok _, ⟨_, rfl⟩, q⟩
/-- text * n -/
def rRep1 : R2 := fun x y H Q => ∃ (z : Str) (n : Nat), x = .str z ∧ y = .int (n : Nat) ∧ 2 ≤ n ∧ n ≤ 100000 ∧ 1 ≤ z.length ∧ z.length ≤ 100 ∧ Q (.str ⟨(List.replicate n z.cps.toList).flatten.toArray⟩) H
theorem fold_rep (a : Array Nat) : ∀ (k : Nat) (acc : Array Nat), (List.replicate k a).foldl (· ++ ·) acc = acc ++ (List.replicate k a.toList).flatten.toArray
  | 0, acc => by simp
  | k + 1, acc => by
    rw [List.replicate_succ, List.foldl_cons, fold_rep a k, List.replicate_succ, List.flatten_cons]
    apply Array.ext'
    simp
theorem op_rep_str : OpR X (binaryOp .Mult) rRep1 := by
  intro pins s σ H x y v u Q I rx ry h
  obtain ⟨z, n, rfl, rfl, h2, h3, h4, h5, q⟩ := h
  obtain ⟨t, rfl⟩ := rx
  obtain ⟨t', rfl⟩ := ry
  have hz : z.length * n ≤ 100 * 100000 := Nat.mul_le_mul h5 h3
  have e : (⟨(List.replicate n z.cps).foldl (· ++ ·) #[]⟩ : Str) = ⟨(List.replicate n z.cps.toList).flatten.toArray⟩ := by
    rw [fold_rep]
    simp
  have e1 : ((n : Int) == 1 || z.length == 0) = false := by
    have a1 : ((n : Int) == 1) = false := by simp; omega
    have a2 : (z.length == 0) = false := by simp; omega
    rw [a1, a2]
    rfl
  refine PySem.P.mul_str ?_ (fun _ _ => ?_) (fun _ _ => ?_) ?_
  · have a1 : ¬ ((n : Int) < -(2 ^ 63 : Int)) := by omega
    have a2 : ¬ ((n : Int) ≥ 2 ^ 63) := by omega
    rw [decide_eq_false a1, decide_eq_false a2]
    rfl
  · have : (100000 : Int) ≤ (2 ^ 63 - 1) / (n : Int) := by
      refine (Int.le_ediv_iff_mul_le (by omega)).mpr ?_
      omega
    omega
  · rw [Int.toNat_natCast]
    unfold PySem.Builtin.Str.tooLong
    simp
    have := sizeLine_eq
    omega
  · rw [if_neg (by omega), e1, if_neg Bool.false_ne_true, Int.toNat_natCast, e]
    refine ⟨?_, .str _, H, I.tok _, ⟨_, rfl⟩, q⟩
    show ((List.replicate n z.cps.toList).flatten.toArray).size ≤ _
    have hl : z.cps.toList.length = z.length := by simp [Str.length]
    have : (List.replicate n z.cps.toList).flatten.length = n * z.length := by
      rw [List.length_flatten, List.map_replicate, List.sum_replicate_nat, hl]
    rw [List.size_toArray, this, Nat.mul_comm, sizeLine_eq]
    omega
end
end TU

set_option Elab.async false
set_option linter.all false
set_option maxRecDepth 100000
set_option maxHeartbeats 4000000

/-! TY: defs that call themselves some hundred levels down. -/
namespace TY
open PySem PySem.Spec PyProof.Rows L2
open TR
/-- room for n calls straight down, and for k more as Room counts them -/
structure RoomD (n k : Nat) (A : Around) : Prop where
  hd : A.handled = none
  dp : A.depth + n + 3 * k + 5 < recursionLimit
  un : A.units + 3 * n + 16 * k + 200 < cLine
theorem RoomD.mono {j n i k : Nat} {A : Around} (r : RoomD n k A) (h : j ≤ n) (g : i ≤ k) : RoomD j i A := ⟨r.hd, by have := r.dp; omega, by have := r.un; omega⟩
theorem RoomD.deeper {n k : Nat} {A : Around} (r : RoomD (n + 1) k A) (env : Env) : RoomD n k (A.deeper env) :=
  ⟨r.hd, by have := r.dp; show A.depth + 1 + n + 3 * k + 5 < _; omega, by have := r.un; show A.units + 3 + 3 * n + 16 * k + 200 < _; omega⟩
theorem RoomD.room {n k : Nat} {A : Around} (r : RoomD n k A) : Room k A := ⟨r.hd, by have := r.dp; omega, by have := r.un; omega⟩
structure FnD (P : Program) (w : World) (K : PySem.W.Frag) (mg : Str → Option Value) (base : Heap) (CX : CXT) (n k : Nat) (f : Addr) (fd : FuncData) (ps : List Str) (sp : Sp) : Prop where
  len : ∀ vs H Q E, sp vs H Q E → vs.length = ps.length
  run : ∀ (A : Around) (outer : List Env) (s : Shared) (H : Hp) (args : Args) (us : List Value) (vs : List V) (Q : VK) (E : XK), RoomD n k A → Env0 P w K mg base A outer s H → BindsTo s fd args (ps.zip us) → Vals vs us → sp vs H Q E →
    codeAny (model P w) A (.call (.ref f) args) (CR CX outer P w H s Q E) s
section
variable {X : Cx} {CX : CXT} {n k : Nat} {f : Addr} {fd : FuncData} {ps : List Str} {sp : Sp} {ds : List Value} {dvs : List V} {E : XK} {x : Str} {e : Expr} {es : List Expr} {t : TA} {p pos : Pos}
theorem pe_callD (F : FnD X.prog X.w X.K X.mg X.base CX n k f fd ps sp) (hr : RoomD n k X.A) (hg : Gl X x) (hm : X.mg x = some (.ref f)) (hk : PySem.W.keepIn X.K (.ref f) = true) (hb : Binds X.K fd ps ds) (hd : Vals dvs ds) (hx : Passes CX X E)
    (ha : PA X (e :: es) t) (hdb : (x == ("__debug__" : Str)) = false := by decide) (he : starEach (e :: es) X.env = (false, eval e X.env) :: starEach es X.env := by rfl) (hpl : (backTo pos (starEach es X.env)).any (·.1) = false := by rfl) :
    PE X (.Call (.Name x p) (e :: es) [] pos) (tCall sp dvs E t) := by
  refine ⟨fun pins s σ H Q I h => wpAny_Call_Name_kw (ld_glob I hg hm ?_ hdb)⟩
  refine PySem.W.callWith_K (h₀ := X.base) I.ok.mod.kin hk (thn (ha.run pos pins s σ H _ I h) fun us s1 ⟨vs, H1, J, r, q⟩ => ⟨J.kIn, ?_⟩) he hpl
  have rr : Vals (vs ++ dvs) (us ++ ds) := r.append hd
  have bound := hb s1 us J.kIn (rr.length.symm.trans (F.len _ _ _ _ q))
  refine wpAny_call (codeAny_mono (F.run X.A X.stack s1 H1 ⟨us, []⟩ (us ++ ds) (vs ++ dvs) Q E hr J.env0 bound rr q) fun res s' z => ?_)
  cases res with
  | error er => exact hx pins σ H1 s1 er s' J z
  | ok fl =>
    cases fl with
    | ret u => exact J.after z
    | next => exact False.elim z
    | brk => exact False.elim z
    | cont => exact False.elim z
end
section
variable {P : Program} {w : World} {K : PySem.W.Frag} {mg : Str → Option Value} {base : Heap}
/-- a def by its body, no repr under way -/
theorem okD {x qual : Str} {st : Stmt} {f : Addr} {fd : FuncData} {N ps : List Str} {n k : Nat} {sp : Sp} (F : Fun K x qual st f fd) (S : FnScope N ps (defScope st)) (len : ∀ vs H Q E, sp vs H Q E → vs.length = ps.length)
    (hbody : ∀ (cdv : Value) (A : Around) (outer : List Env) (s : Shared) (H : Hp) (vs : List V) (Q : VK) (E : XK), RoomD n k (A.deeper (envOfC qual (defScope st) s.heap.objs.size f cdv)) → sp vs H Q E →
      ∃ t, PSs (cxOf CX0 P w K mg base N qual (defScope st) f cdv A outer s H E).nox (defBody st) t ∧ t { nx := fun _ H' => Q .non H', rt := Q } (start N vs) H) : FnD P w K mg base CX0 (n + 1) k f fd ps sp := by
  obtain ⟨oc, od, kV, doc, pm, an, cdv, ct, osl, rfl, lk, hcd⟩ := F.ex
  refine ⟨len, fun A outer s H args us vs Q E room e0 bound r pre => ?_⟩
  have many := len _ _ _ _ pre
  have KX : K.In s.heap := e0.mod.kin.keeps fun b o z => (e0.bs b o z).1
  have lim : s.heap.NoLimit := e0.mod.nolimit.keeps fun b o z => (e0.bs b o z).1
  have kinds : ∀ y ∈ ps.zip us, (defScope st).names.lookup y.1 = some .local ∨ ((defScope st).names.lookup y.1 = some .cell ∧ ((cellsFrom (s.heap.objs.size + 1) (defScope st).names []).lookup y.1).isSome = true) := fun y hy => by
    have mem : y.1 ∈ ps := (List.of_mem_zip (show (y.1, y.2) ∈ ps.zip us from hy)).1
    rcases S.par y.1 mem with z | z
    · exact .inl z
    · exact .inr ⟨z, PySem.W.cellsFrom_some _ _ _ (.inl z)⟩
  refine codeAny_call_function room.room.depth (KX _ _ lk) rfl S.co S.gen rfl (PySem.W.codeRec_of KX hcd) (bound _ _ _ _ ?_)
  refine wpAny_newFunctionEnv_cells S.kind kinds fun env henv s1 inside => ?_
  subst henv
  refine ⟨lim.keeps inside.toInCall.keep, codeAny_func ?_⟩
  obtain ⟨t, ht0, go⟩ := hbody cdv A outer s H vs Q E (room.deeper _) pre
  have ht := ht0.nox
  have I : Inv (cxOf CX0 P w K mg base N qual (defScope st) f cdv A outer s H E) [] (start N vs) H s1 := inv_start S room.hd e0 many r inside
  refine wpAny_mono (ht.run [] s1 (start N vs) H _ I go) (fun fl s' z => ?_) fun _ _ z => z
  have back : ∀ {σ' : L2.St} {H' : Hp} {v : V} {u : Value}, Inv (cxOf CX0 P w K mg base N qual (defScope st) f cdv A outer s H E) [] σ' H' s' → RelV v u → Q v H' → CE outer P w H s Q u s' := fun {σ' H' v u} J rv q => ⟨v, H', J.os, J.bare, J.base, J.hok, rv, q⟩
  cases fl with
  | ret u =>
    obtain ⟨v, σ', H', J, rv, q⟩ := z
    exact back J rv q
  | next =>
    obtain ⟨σ', H', J, q⟩ := z
    exact back (v := V.non) (u := Value.none) J rfl q
  | brk => exact False.elim z.choose_spec.choose_spec.2
  | cont => exact False.elim z.choose_spec.choose_spec.2
end

structure FnDG (P : Program) (w : World) (K : PySem.W.Frag) (mg : Str → Option Value) (base : Heap) (CX : CXT) (n k : Nat) (f : Addr) (fd : FuncData) (ps : List Str) (sp : Sp) : Prop where
  len : ∀ vs H Q E, sp vs H Q E → vs.length = ps.length
  run : ∀ (A : Around), A.guards = some [] → ∀ (outer : List Env) (s : Shared) (H : Hp) (args : Args) (us : List Value) (vs : List V) (Q : VK) (E : XK), RoomD n k A → Env0 P w K mg base A outer s H → BindsTo s fd args (ps.zip us) → Vals vs us → sp vs H Q E →
    codeAny (model P w) A (.call (.ref f) args) (CR CX outer P w H s Q E) s
section
variable {X : Cx} {CX : CXT} {n k : Nat} {f : Addr} {fd : FuncData} {ps : List Str} {sp : Sp} {ds : List Value} {dvs : List V} {E : XK} {x : Str} {e : Expr} {es : List Expr} {t : TA} {p pos : Pos}
theorem pe_callDG (F : FnDG X.prog X.w X.K X.mg X.base CX n k f fd ps sp) (hG : X.A.guards = some []) (hr : RoomD n k X.A) (hg : Gl X x) (hm : X.mg x = some (.ref f)) (hk : PySem.W.keepIn X.K (.ref f) = true) (hb : Binds X.K fd ps ds) (hd : Vals dvs ds) (hx : Passes CX X E)
    (ha : PA X (e :: es) t) (hdb : (x == ("__debug__" : Str)) = false := by decide) (he : starEach (e :: es) X.env = (false, eval e X.env) :: starEach es X.env := by rfl) (hpl : (backTo pos (starEach es X.env)).any (·.1) = false := by rfl) :
    PE X (.Call (.Name x p) (e :: es) [] pos) (tCall sp dvs E t) := by
  refine ⟨fun pins s σ H Q I h => wpAny_Call_Name_kw (ld_glob I hg hm ?_ hdb)⟩
  refine PySem.W.callWith_K (h₀ := X.base) I.ok.mod.kin hk (thn (ha.run pos pins s σ H _ I h) fun us s1 ⟨vs, H1, J, r, q⟩ => ⟨J.kIn, ?_⟩) he hpl
  have rr : Vals (vs ++ dvs) (us ++ ds) := r.append hd
  have bound := hb s1 us J.kIn (rr.length.symm.trans (F.len _ _ _ _ q))
  refine wpAny_call (codeAny_mono (F.run X.A hG X.stack s1 H1 ⟨us, []⟩ (us ++ ds) (vs ++ dvs) Q E hr J.env0 bound rr q) fun res s' z => ?_)
  cases res with
  | error er => exact hx pins σ H1 s1 er s' J z
  | ok fl =>
    cases fl with
    | ret u => exact J.after z
    | next => exact False.elim z
    | brk => exact False.elim z
    | cont => exact False.elim z
end
section
variable {P : Program} {w : World} {K : PySem.W.Frag} {mg : Str → Option Value} {base : Heap}
/-- a def by its body, no repr under way -/
theorem okDG {x qual : Str} {st : Stmt} {f : Addr} {fd : FuncData} {N ps : List Str} {n k : Nat} {sp : Sp} (F : Fun K x qual st f fd) (S : FnScope N ps (defScope st)) (len : ∀ vs H Q E, sp vs H Q E → vs.length = ps.length)
    (hbody : ∀ (cdv : Value) (A : Around) (outer : List Env) (s : Shared) (H : Hp) (vs : List V) (Q : VK) (E : XK), (A.deeper (envOfC qual (defScope st) s.heap.objs.size f cdv)).guards = some [] → RoomD n k (A.deeper (envOfC qual (defScope st) s.heap.objs.size f cdv)) → sp vs H Q E →
      ∃ t, PSs (cxOf CX0 P w K mg base N qual (defScope st) f cdv A outer s H E).nox (defBody st) t ∧ t { nx := fun _ H' => Q .non H', rt := Q } (start N vs) H) : FnDG P w K mg base CX0 (n + 1) k f fd ps sp := by
  obtain ⟨oc, od, kV, doc, pm, an, cdv, ct, osl, rfl, lk, hcd⟩ := F.ex
  refine ⟨len, fun A hG outer s H args us vs Q E room e0 bound r pre => ?_⟩
  have many := len _ _ _ _ pre
  have KX : K.In s.heap := e0.mod.kin.keeps fun b o z => (e0.bs b o z).1
  have lim : s.heap.NoLimit := e0.mod.nolimit.keeps fun b o z => (e0.bs b o z).1
  have kinds : ∀ y ∈ ps.zip us, (defScope st).names.lookup y.1 = some .local ∨ ((defScope st).names.lookup y.1 = some .cell ∧ ((cellsFrom (s.heap.objs.size + 1) (defScope st).names []).lookup y.1).isSome = true) := fun y hy => by
    have mem : y.1 ∈ ps := (List.of_mem_zip (show (y.1, y.2) ∈ ps.zip us from hy)).1
    rcases S.par y.1 mem with z | z
    · exact .inl z
    · exact .inr ⟨z, PySem.W.cellsFrom_some _ _ _ (.inl z)⟩
  refine codeAny_call_function room.room.depth (KX _ _ lk) rfl S.co S.gen rfl (PySem.W.codeRec_of KX hcd) (bound _ _ _ _ ?_)
  refine wpAny_newFunctionEnv_cells S.kind kinds fun env henv s1 inside => ?_
  subst henv
  refine ⟨lim.keeps inside.toInCall.keep, codeAny_func ?_⟩
  obtain ⟨t, ht0, go⟩ := hbody cdv A outer s H vs Q E hG (room.deeper _) pre
  have ht := ht0.nox
  have I : Inv (cxOf CX0 P w K mg base N qual (defScope st) f cdv A outer s H E) [] (start N vs) H s1 := inv_start S room.hd e0 many r inside
  refine wpAny_mono (ht.run [] s1 (start N vs) H _ I go) (fun fl s' z => ?_) fun _ _ z => z
  have back : ∀ {σ' : L2.St} {H' : Hp} {v : V} {u : Value}, Inv (cxOf CX0 P w K mg base N qual (defScope st) f cdv A outer s H E) [] σ' H' s' → RelV v u → Q v H' → CE outer P w H s Q u s' := fun {σ' H' v u} J rv q => ⟨v, H', J.os, J.bare, J.base, J.hok, rv, q⟩
  cases fl with
  | ret u =>
    obtain ⟨v, σ', H', J, rv, q⟩ := z
    exact back J rv q
  | next =>
    obtain ⟨σ', H', J, q⟩ := z
    exact back (v := V.non) (u := Value.none) J rfl q
  | brk => exact False.elim z.choose_spec.choose_spec.2
  | cont => exact False.elim z.choose_spec.choose_spec.2
end

/-! ### the law's own def -/
section
variable {P : Program} {w : World} {K : PySem.W.Frag} {mg mb : Str → Option Value} {CX : CXT} {m k : Nat} {fa a : Addr} {fd : FuncData} {x : Str} {sp : Sp} {t : Shared} {us : List Value} {ns : List Int}
/-- what the call leaves -/
abbrev FineD (t : Shared) : Result → Shared → Prop := fun r t' => r = .ok (.ret (.bool true)) ∧ OldK t.heap t'.heap ∧ t'.os = t.os ∧ AllBare t'.gens
theorem lawHD (inK : K.In t.heap) (nsM : t.heap.Ns mainGlobals mg) (nsB : t.heap.Ns builtinsNs mb) (bb : ∀ y : Str, y ≠ "__name__" → mb y = bootBuiltins y) (nl : t.heap.NoLimit) (ng : t.gens = #[])
    (at_a : t.heap.get? a = some { cls := .type "list", data := .seq us.toArray }) (room : RoomD m k callerA) (F : ∀ base : Heap, K.In base → base.Ns mainGlobals mg → FnDG P w K mg base CX m k fa fd [x] sp)
    (bind1 : ∀ (s : Shared) (u : Value), BindsTo s fd ⟨[u], []⟩ [(x, u)]) (noX : ∀ H e s', CX [] H t (fun _ _ _ => False) e s' → False)
    {H : Hp} (only : Only H) (pre : sp [.ref a] H (fun v _ => v = .bl true) fun _ _ _ => False) (hok : HOk P w H t.heap) (onA : ∀ b, H b ≠ none → b = a) (offK : H a ≠ none → K.lookup a = none) :
    codeAny (model P w) callerA (.call (.ref fa) ⟨[.ref a], []⟩) (FineD t) t := by
  have sees : ∀ {b : Addr} {o : Obj}, t.heap.get? b = some o → H b = none → (hidT t.heap H).get? b = some o := fun z n => hidT_get z n
  have untr : ∀ {b : Addr}, b ≠ a → H b = none := fun {b} nb => by
    cases q : H b with
    | none => rfl
    | some u => exact absurd (onA b (by rw [q]; simp)) nb
  have dictNs : ∀ {b : Addr} {m : Str → Option Value}, t.heap.Ns b m → (hidT t.heap H).Ns b m := fun {b m} ⟨o, es, ep, g, d, r⟩ => by
    refine ⟨o, es, ep, sees g (untr fun z => ?_), d, r⟩
    subst z
    rw [at_a] at g
    cases g
    exact nomatch (show Data.seq us.toArray _ = Data.dict es ep from d)
  have inB : K.In (hidT t.heap H) := fun b o z => by
    refine sees (inK b o z) ?_
    cases q : H b with
    | none => rfl
    | some u =>
      have nn : H b ≠ none := by rw [q]; simp
      have eb := onA b nn
      subst eb
      rw [offK nn] at z
      cases z
  obtain ⟨mc, l1, l2⟩ := nl
  have md : Mod K mg (hidT t.heap H) := ⟨inB, dictNs nsM, ⟨mb, dictNs nsB, bb⟩, ⟨mc, dictNs l1, l2⟩⟩
  have e0 : Env0 P w K mg (hidT t.heap H) callerA [] t H := ⟨rfl, md, fun b o z => of_hidT z, Nat.le_of_eq (hidT_size _ _), trivial, fun b z => (by cases z), hok, .of_eq ng⟩
  refine codeAny_mono ((F _ inB (dictNs nsM)).run callerA rfl [] t H ⟨[.ref a], []⟩ [.ref a] [.ref a] _ _ room e0 (bind1 t (.ref a)) (.cons rfl .nil) pre) fun r t' z => ?_
  cases r with
  | error e => exact (noX H e t' z).elim
  | ok fl =>
    cases fl with
    | next => exact False.elim z
    | brk => exact False.elim z
    | cont => exact False.elim z
    | ret u =>
      obtain ⟨v, H', os, bare, un, hok', rv, ev⟩ := z
      cases (show v = .bl true from ev)
      cases (show u = Value.bool true from rv)
      refine ⟨rfl, OldK.of_keep fun b o g => ?_, os, bare⟩
      rcases only b with n | ⟨ob, xs, z⟩
      · exact un.keep b o g n (fun q => by cases q) (fun q => by cases q)
      · have g1 := (hok b _ z).1
        have g2 := (hok' b _ (un.frzs b ob _ z)).1
        rw [g] at g1
        cases g1
        exact g2
theorem lawGD (inK : K.In t.heap) (nsM : t.heap.Ns mainGlobals mg) (nsB : t.heap.Ns builtinsNs mb) (bb : ∀ y : Str, y ≠ "__name__" → mb y = bootBuiltins y) (nl : t.heap.NoLimit) (ng : t.gens = #[])
    (at_a : t.heap.get? a = some { cls := .type "list", data := .seq us.toArray }) (areInts : IntsAre us ns) (hz : ns.length ≤ sizeLine) (room : RoomD m k callerA) (F : ∀ base : Heap, K.In base → base.Ns mainGlobals mg → FnDG P w K mg base CX m k fa fd [x] sp)
    (bind1 : ∀ (s : Shared) (u : Value), BindsTo s fd ⟨[u], []⟩ [(x, u)]) (noX : ∀ H e s', CX [] H t (fun _ _ _ => False) e s' → False)
    (pre : ∀ H : Hp, Only H → SqL K H a (ns.map V.int) → sp [.ref a] H (fun v _ => v = .bl true) fun _ _ _ => False) : codeAny (model P w) callerA (.call (.ref fa) ⟨[.ref a], []⟩) (FineD t) t := by
  have rv := vals_ints areInts
  have many := areInts.length
  cases own : K.lookup a with
  | some o =>
    have g := inK a o own
    rw [at_a] at g
    cases g
    have none0 : Only fun _ => none := fun _ => .inl rfl
    exact lawHD inK nsM nsB bb nl ng at_a room F bind1 noX none0 (pre _ none0 (.inr ⟨_, us.toArray, _, own, rfl, rfl, rfl, by rw [List.size_toArray, many]; exact hz, by simpa using rv⟩)) (fun b u z => nomatch (show (none : Option HO) = some u from z)) (fun b z => absurd rfl z) fun z => absurd rfl z
  | none =>
    let H1 : Hp := fun b => if b = a then some (.frz { cls := .type "list", data := .seq us.toArray } (.lst (ns.map V.int))) else none
    have yes : H1 a = some (.frz { cls := .type "list", data := .seq us.toArray } (.lst (ns.map V.int))) := if_pos rfl
    have no : ∀ {b : Addr}, b ≠ a → H1 b = none := fun nb => if_neg nb
    have one : Only H1 := fun b => by
      by_cases e : b = a
      · exact .inr ⟨_, _, by rw [e]; exact yes⟩
      · exact .inl (no e)
    refine lawHD inK nsM nsB bb nl ng at_a room F bind1 noX one (pre _ one (.inl (.inr ⟨_, yes⟩))) (fun b u z => ?_) (fun b z => ?_) fun _ => own
    · by_cases e : b = a
      · subst e
        rw [yes] at z
        cases z
        exact ⟨at_a, by rw [List.length_map]; exact hz, us, _, rv, at_a⟩
      · rw [no e] at z
        cases z
    · exact Decidable.byContradiction fun e => z (no e)
end
theorem walkGD {l : PySem.W.OpenLaw} {n m k : Nat} {q : Program} {loose : List Str} {XP : (Str → Option Value) → Heap → Prop} {YP : World → Heap → Prop} {d : DefRec} {K : Params → PySem.W.Frag} {sp : World → Sp} {x : Str}
    (hn : l.most = some n) (hz : n ≤ sizeLine) (hdf : d.params.defaults = []) (room : RoomD m k callerA) (hY : ∀ (w : World) (h : Heap), YP w h → (K w.params).In h)
    (F : ∀ (w : World) (mg : Str → Option Value) (fa : Addr) (h : Heap), (K w.params).In h → h.Ns mainGlobals mg → mg d.name = some (.ref fa) →
      ∃ fd : FuncData, (∀ (s : Shared) (u : Value), BindsTo s fd ⟨[u], []⟩ [(x, u)]) ∧ ∀ base : Heap, (K w.params).In base → base.Ns mainGlobals mg → FnDG l.prog w (K w.params) mg base CX0 m k fa fd [x] (sp w))
    (pre : ∀ (w : World) (H : Hp) (a : Addr) (ns : List Int), ns.length ≤ n → Only H → SqL (K w.params) H a (ns.map V.int) → sp w [.ref a] H (fun v _ => v = .bl true) fun _ _ _ => False) :
    PySem.W.WalkO q loose XP YP l.row.toRowW d [] (fun f vs => PySem.call f vs) := by
  refine Att.attach_call hn hdf fun w t0 t mg mb fa o pm cd doc a us ns G Y ho hd hcd hmg at_a areInts many ng => ?_
  obtain ⟨fd, hb, hF⟩ := F w mg fa _ (hY w _ Y) G.T.g hmg
  exact lawGD (hY w _ Y) G.T.g G.T.b G.T.builtins G.T.nolimit ng at_a areInts (Nat.le_trans many hz) room hF hb (fun _ _ _ z => z) fun H h1 h2 => pre w H a ns many h1 h2
end TY

set_option Elab.async false
set_option linter.all false
set_option maxRecDepth 100000
set_option maxHeartbeats 4000000
/-! TZ: two lists of the same plain values. -/
namespace TZ
open PySem PySem.Spec PyProof.Rows L2
theorem valsAt : ∀ {xs : List V} {us ws : List Value}, Vals xs us → Vals xs ws → (∀ z ∈ xs, flatB z = true) → ∀ (A : Around) (s : Shared) (j : Nat) (h1 : j < us.length) (h2 : j < ws.length), SeqAt.EqAt A s us[j] ws[j] true
  | _, _, _, .nil, .nil, _, _, _, j, h1, _ => absurd h1 (Nat.not_lt_zero j)
  | _, _, _, .cons r1 t1, .cons r2 t2, hf, A, s, 0, _, _ => eqAt_same r1 r2 (hf _ (List.mem_cons_self ..))
  | _, _, _, .cons r1 t1, .cons r2 t2, hf, A, s, j + 1, h1, h2 => valsAt t1 t2 (fun z hz => hf z (List.mem_cons_of_mem _ hz)) A s j (by simpa using h1) (by simpa using h2)
section
variable {X : Cx}
def rNeV (K : PySem.W.Frag) : R2 := fun x y H Q => ∃ a b xs, x = .ref a ∧ y = .ref b ∧ SqL K H a xs ∧ SqL K H b xs ∧ (∀ z ∈ xs, flatB z = true) ∧ Q (.bl false) H
theorem op_neV (hu : X.A.units + 64 < cLine) : OpR X (compareOp .NotEq) (rNeV X.K) := by
  intro pins s σ H x y v u Q I rx ry h
  obtain ⟨a, b, xs, rfl, rfl, ha, hb, hf, q⟩ := h
  cases (show v = Value.ref a from rx)
  cases (show u = Value.ref b from ry)
  obtain ⟨us, r1, p1, _⟩ := I.list ha
  obtain ⟨ws, r2, p2, _⟩ := I.list hb
  have hsz : us.toArray.size = ws.toArray.size := by
    rw [List.size_toArray, List.size_toArray, ← r1.length, ← r2.length]
  have he : ∀ j (h1 : j < us.toArray.size) (h2 : j < ws.toArray.size), SeqAt.EqAt X.A.in1 s us.toArray[j] ws.toArray[j] ((fun _ => true) j) := fun j h1 h2 => by
    have k := valsAt r1 r2 hf X.A.in1 s j (by simpa using h1) (by simpa using h2)
    simpa using k
  refine SeqAt.RcNeAt.lists (e := fun _ => true) p1.isList p2.isList hsz (by omega) he _ _ _ _ ?_
  rw [show (!(List.range us.toArray.size).all fun _ => true) = false from by rw [show ((List.range us.toArray.size).all fun _ => true) = true from List.all_eq_true.mpr fun _ _ => rfl]; rfl]
  exact ⟨.bl false, H, I, rfl, q⟩
end
end TZ

namespace Toy
open PySem L2 TT TX TR TQ TV TU TY CwR
def top (i : Nat) : Stmt := PySem.Challenge.pw_treeturns_k03_parts_of_trees.main.body.getD i (.Pass ⟨0, 0, 0, 0⟩)
def ini : Stmt → Stmt
  | .ClassDef (body := b) .. => b.headD (.Pass ⟨0, 0, 0, 0⟩)
  | s => s
abbrev i_InvalidTree : Stmt := ini (top 2)
theorem si_InvalidTree : FnScope ["self", "value"] ["self", "value"] (defScope i_InvalidTree) := ⟨rfl, rfl, rfl, by decide +kernel, rfl, by decide +kernel, by decide +kernel⟩
abbrev i_InvalidAddress : Stmt := ini (top 3)
theorem si_InvalidAddress : FnScope ["self", "value"] ["self", "value"] (defScope i_InvalidAddress) := ⟨rfl, rfl, rfl, by decide +kernel, rfl, by decide +kernel, by decide +kernel⟩
abbrev s_is_tree : Stmt := top 5
abbrev nm_is_tree : List Str := ["value", "awaited", "sign", "want"]
theorem sc_is_tree : FnScope ["value", "awaited", "sign", "want"] ["value"] (defScope s_is_tree) := ⟨rfl, rfl, rfl, by decide +kernel, rfl, by decide +kernel, by decide +kernel⟩
abbrev s_is_address : Stmt := top 6
abbrev nm_is_address : List Str := ["value"]
theorem sc_is_address : FnScope ["value"] ["value"] (defScope s_is_address) := ⟨rfl, rfl, rfl, by decide +kernel, rfl, by decide +kernel, by decide +kernel⟩
abbrev s_check_tree : Stmt := top 7
abbrev nm_check_tree : List Str := ["value"]
theorem sc_check_tree : FnScope ["value"] ["value"] (defScope s_check_tree) := ⟨rfl, rfl, rfl, by decide +kernel, rfl, by decide +kernel, by decide +kernel⟩
abbrev s_check_address : Stmt := top 8
abbrev nm_check_address : List Str := ["value"]
theorem sc_check_address : FnScope ["value"] ["value"] (defScope s_check_address) := ⟨rfl, rfl, rfl, by decide +kernel, rfl, by decide +kernel, by decide +kernel⟩
abbrev s_ends : Stmt := top 9
abbrev nm_ends : List Str := ["tree", "behind", "begun", "at", "sign"]
theorem sc_ends : FnScope ["tree", "behind", "begun", "at", "sign"] ["tree"] (defScope s_ends) := ⟨rfl, rfl, rfl, by decide +kernel, rfl, by decide +kernel, by decide +kernel⟩
abbrev s_stretch : Stmt := top 10
abbrev nm_stretch : List Str := ["tree", "address", "behind", "at", "letter"]
theorem sc_stretch : FnScope ["tree", "address", "behind", "at", "letter"] ["tree", "address"] (defScope s_stretch) := ⟨rfl, rfl, rfl, by decide +kernel, rfl, by decide +kernel, by decide +kernel⟩
abbrev s_checked_stretch : Stmt := top 11
abbrev nm_checked_stretch : List Str := ["tree", "address", "found"]
theorem sc_checked_stretch : FnScope ["tree", "address", "found"] ["tree", "address"] (defScope s_checked_stretch) := ⟨rfl, rfl, rfl, by decide +kernel, rfl, by decide +kernel, by decide +kernel⟩
abbrev s_part : Stmt := top 12
abbrev nm_part : List Str := ["tree", "address", "begin", "end"]
theorem sc_part : FnScope ["tree", "address", "begin", "end"] ["tree", "address"] (defScope s_part) := ⟨rfl, rfl, rfl, by decide +kernel, rfl, by decide +kernel, by decide +kernel⟩
abbrev s_addressed : Stmt := top 13
abbrev nm_addressed : List Str := ["tree", "found", "ahead", "sign", "address"]
theorem sc_addressed : FnScope ["tree", "found", "ahead", "sign", "address"] ["tree"] (defScope s_addressed) := ⟨rfl, rfl, rfl, by decide +kernel, rfl, by decide +kernel, by decide +kernel⟩
abbrev s_leaves : Stmt := top 14
abbrev nm_leaves : List Str := ["tree", "address", "sign"]
theorem sc_leaves : FnScope ["tree", "address", "sign"] ["tree"] (defScope s_leaves) := ⟨rfl, rfl, rfl, by decide +kernel, rfl, by decide +kernel, by decide +kernel⟩
abbrev s_nodes : Stmt := top 15
abbrev nm_nodes : List Str := ["tree", "address"]
theorem sc_nodes : FnScope ["tree", "address"] ["tree"] (defScope s_nodes) := ⟨rfl, rfl, rfl, by decide +kernel, rfl, by decide +kernel, by decide +kernel⟩
abbrev s_replaced : Stmt := top 16
abbrev nm_replaced : List Str := ["tree", "address", "other", "begin", "end"]
theorem sc_replaced : FnScope ["tree", "address", "other", "begin", "end"] ["tree", "address", "other"] (defScope s_replaced) := ⟨rfl, rfl, rfl, by decide +kernel, rfl, by decide +kernel, by decide +kernel⟩
abbrev s_law_cell : Stmt := top 18
abbrev nm_law_cell : List Str := ["_law_script", "_law_index"]
theorem sc_law_cell : FnScope ["_law_script", "_law_index"] ["_law_script", "_law_index"] (defScope s_law_cell) := ⟨rfl, rfl, rfl, by decide +kernel, rfl, by decide +kernel, by decide +kernel⟩
abbrev s_law_hash : Stmt := top 19
abbrev nm_law_hash : List Str := ["_law_seed", "_law_index", "_law_mixed"]
theorem sc_law_hash : FnScope ["_law_seed", "_law_index", "_law_mixed"] ["_law_seed", "_law_index"] (defScope s_law_hash) := ⟨rfl, rfl, rfl, by decide +kernel, rfl, by decide +kernel, by decide +kernel⟩
abbrev s_law_generator : Stmt := top 20
abbrev nm_law_generator : List Str := ["_law_script", "_law_index", "_law_seed"]
theorem sc_law_generator : FnScope ["_law_script", "_law_index", "_law_seed"] ["_law_script", "_law_index"] (defScope s_law_generator) := ⟨rfl, rfl, rfl, by decide +kernel, rfl, by decide +kernel, by decide +kernel⟩
abbrev s_law_random : Stmt := top 21
abbrev nm_law_random : List Str := ["_law_generator_here", "_law_bound", "_law_drawn", "_law_turn"]
theorem sc_law_random : FnScope ["_law_generator_here", "_law_bound", "_law_drawn", "_law_turn"] ["_law_generator_here", "_law_bound"] (defScope s_law_random) := ⟨rfl, rfl, rfl, by decide +kernel, rfl, by decide +kernel, by decide +kernel⟩
abbrev s_law_tree : Stmt := top 22
abbrev nm_law_tree : List Str := ["_law_generator_here", "_law_many", "_law_left"]
theorem sc_law_tree : FnScope ["_law_generator_here", "_law_many", "_law_left"] ["_law_generator_here", "_law_many"] (defScope s_law_tree) := ⟨rfl, rfl, rfl, by decide +kernel, rfl, by decide +kernel, by decide +kernel⟩
abbrev s_law_parsed : Stmt := top 23
abbrev nm_law_parsed : List Str := ["_law_tree_here", "_law_found", "_law_sign"]
theorem sc_law_parsed : FnScope ["_law_tree_here", "_law_found", "_law_sign"] ["_law_tree_here"] (defScope s_law_parsed) := ⟨rfl, rfl, rfl, by decide +kernel, rfl, by decide +kernel, by decide +kernel⟩
abbrev s_law_text : Stmt := top 24
abbrev nm_law_text : List Str := ["_law_parsed_here"]
theorem sc_law_text : FnScope ["_law_parsed_here"] ["_law_parsed_here"] (defScope s_law_text) := ⟨rfl, rfl, rfl, by decide +kernel, rfl, by decide +kernel, by decide +kernel⟩
abbrev s_law_leaves : Stmt := top 25
abbrev nm_law_leaves : List Str := ["_law_parsed_here", "_law_road"]
theorem sc_law_leaves : FnScope ["_law_parsed_here", "_law_road"] ["_law_parsed_here", "_law_road"] (defScope s_law_leaves) := ⟨rfl, rfl, rfl, by decide +kernel, rfl, by decide +kernel, by decide +kernel⟩
abbrev s_law_nodes : Stmt := top 26
abbrev nm_law_nodes : List Str := ["_law_parsed_here", "_law_road"]
theorem sc_law_nodes : FnScope ["_law_parsed_here", "_law_road"] ["_law_parsed_here", "_law_road"] (defScope s_law_nodes) := ⟨rfl, rfl, rfl, by decide +kernel, rfl, by decide +kernel, by decide +kernel⟩
abbrev s_law_at : Stmt := top 27
abbrev nm_law_at : List Str := ["_law_parsed_here", "_law_road", "_law_letter"]
theorem sc_law_at : FnScope ["_law_parsed_here", "_law_road", "_law_letter"] ["_law_parsed_here", "_law_road"] (defScope s_law_at) := ⟨rfl, rfl, rfl, by decide +kernel, rfl, by decide +kernel, by decide +kernel⟩
abbrev s_law_put : Stmt := top 28
abbrev nm_law_put : List Str := ["_law_parsed_here", "_law_road", "_law_other"]
theorem sc_law_put : FnScope ["_law_parsed_here", "_law_road", "_law_other"] ["_law_parsed_here", "_law_road", "_law_other"] (defScope s_law_put) := ⟨rfl, rfl, rfl, by decide +kernel, rfl, by decide +kernel, by decide +kernel⟩
abbrev s_law_caught : Stmt := top 29
abbrev nm_law_caught : List Str := ["_law_door", "_law_tree_here", "_law_address", "_law_other", "_law_caught_here", "error"]
theorem sc_law_caught : FnScope ["_law_door", "_law_tree_here", "_law_address", "_law_other", "_law_caught_here", "error"] ["_law_door", "_law_tree_here", "_law_address", "_law_other"] (defScope s_law_caught) := ⟨rfl, rfl, rfl, by decide +kernel, rfl, by decide +kernel, by decide +kernel⟩
abbrev s_law_refused : Stmt := top 30
abbrev nm_law_refused : List Str := ["_law_tree_here", "_law_address", "_law_door", "_law_bad"]
theorem sc_law_refused : FnScope ["_law_tree_here", "_law_address", "_law_door", "_law_bad"] ["_law_tree_here", "_law_address"] (defScope s_law_refused) := ⟨rfl, rfl, rfl, by decide +kernel, rfl, by decide +kernel, by decide +kernel⟩
abbrev s_law_deep_right : Stmt := top 31
abbrev nm_law_deep_right : List Str := ["_law_generator_here", "_law_tree_here", "_law_turn", "_law_parsed_here", "_law_spot", "_law_road"]
theorem sc_law_deep_right : FnScope ["_law_generator_here", "_law_tree_here", "_law_turn", "_law_parsed_here", "_law_spot", "_law_road"] ["_law_generator_here"] (defScope s_law_deep_right) := ⟨rfl, rfl, rfl, by decide +kernel, rfl, by decide +kernel, by decide +kernel⟩
abbrev s_law : Stmt := top 32
abbrev nm_law : List Str := ["_law_script", "_law_index", "_law_generator_here", "_law_tree_here", "_law_other", "_law_parsed_here", "_law_places", "_law_address", "_law_leaf", "_law_bad", "_law_door"]
theorem sc_law : FnScope ["_law_script", "_law_index", "_law_generator_here", "_law_tree_here", "_law_other", "_law_parsed_here", "_law_places", "_law_address", "_law_leaf", "_law_bad", "_law_door"] ["_law_script"] (defScope s_law) := ⟨rfl, rfl, rfl, by decide +kernel, rfl, by decide +kernel, by decide +kernel⟩
abbrev veL : List Value := [.type "ValueError", .type "Exception", .type "BaseException", .type "object"]
structure Txt (K : PySem.W.Frag) (mg : Str → Option Value) where
  c_TurnError : Addr
  g_TurnError : mg "TurnError" = some (.ref c_TurnError)
  e_TurnError : ErrC K c_TurnError (.ref c_TurnError :: veL)
  c_InvalidTree : Addr
  o_InvalidTree : OwnE K mg "InvalidTree" c_InvalidTree "value" "value"
  g_InvalidTree : mg "InvalidTree" = some (.ref c_InvalidTree)
  e_InvalidTree : ErrC K c_InvalidTree (.ref c_InvalidTree :: .ref c_TurnError :: veL)
  x_InvalidTree : XfC K c_InvalidTree
  n_InvalidTree : PySem.W.findIn K (.ref c_InvalidTree) "value" = some none
  c_InvalidAddress : Addr
  o_InvalidAddress : OwnE K mg "InvalidAddress" c_InvalidAddress "value" "value"
  g_InvalidAddress : mg "InvalidAddress" = some (.ref c_InvalidAddress)
  e_InvalidAddress : ErrC K c_InvalidAddress (.ref c_InvalidAddress :: .ref c_TurnError :: veL)
  x_InvalidAddress : XfC K c_InvalidAddress
  n_InvalidAddress : PySem.W.findIn K (.ref c_InvalidAddress) "value" = some none
  nd : [c_InvalidTree, c_InvalidAddress, c_TurnError].Nodup
  a_is_tree : Addr
  fd_is_tree : FuncData
  F_is_tree : Fun K "is_tree" "is_tree" s_is_tree a_is_tree fd_is_tree
  b_is_tree : Binds K fd_is_tree ["value"] []
  m_is_tree : mg "is_tree" = some (.ref a_is_tree)
  a_is_address : Addr
  fd_is_address : FuncData
  F_is_address : Fun K "is_address" "is_address" s_is_address a_is_address fd_is_address
  b_is_address : Binds K fd_is_address ["value"] []
  m_is_address : mg "is_address" = some (.ref a_is_address)
  a_check_tree : Addr
  fd_check_tree : FuncData
  F_check_tree : Fun K "check_tree" "check_tree" s_check_tree a_check_tree fd_check_tree
  b_check_tree : Binds K fd_check_tree ["value"] []
  m_check_tree : mg "check_tree" = some (.ref a_check_tree)
  a_check_address : Addr
  fd_check_address : FuncData
  F_check_address : Fun K "check_address" "check_address" s_check_address a_check_address fd_check_address
  b_check_address : Binds K fd_check_address ["value"] []
  m_check_address : mg "check_address" = some (.ref a_check_address)
  a_ends : Addr
  fd_ends : FuncData
  F_ends : Fun K "ends" "ends" s_ends a_ends fd_ends
  b_ends : Binds K fd_ends ["tree"] []
  m_ends : mg "ends" = some (.ref a_ends)
  a_stretch : Addr
  fd_stretch : FuncData
  F_stretch : Fun K "stretch" "stretch" s_stretch a_stretch fd_stretch
  b_stretch : Binds K fd_stretch ["tree", "address"] []
  m_stretch : mg "stretch" = some (.ref a_stretch)
  a_checked_stretch : Addr
  fd_checked_stretch : FuncData
  F_checked_stretch : Fun K "checked_stretch" "checked_stretch" s_checked_stretch a_checked_stretch fd_checked_stretch
  b_checked_stretch : Binds K fd_checked_stretch ["tree", "address"] []
  m_checked_stretch : mg "checked_stretch" = some (.ref a_checked_stretch)
  a_part : Addr
  fd_part : FuncData
  F_part : Fun K "part" "part" s_part a_part fd_part
  b_part : Binds K fd_part ["tree", "address"] []
  m_part : mg "part" = some (.ref a_part)
  a_addressed : Addr
  fd_addressed : FuncData
  F_addressed : Fun K "addressed" "addressed" s_addressed a_addressed fd_addressed
  b_addressed : Binds K fd_addressed ["tree"] []
  m_addressed : mg "addressed" = some (.ref a_addressed)
  a_leaves : Addr
  fd_leaves : FuncData
  F_leaves : Fun K "leaves" "leaves" s_leaves a_leaves fd_leaves
  b_leaves : Binds K fd_leaves ["tree"] []
  m_leaves : mg "leaves" = some (.ref a_leaves)
  a_nodes : Addr
  fd_nodes : FuncData
  F_nodes : Fun K "nodes" "nodes" s_nodes a_nodes fd_nodes
  b_nodes : Binds K fd_nodes ["tree"] []
  m_nodes : mg "nodes" = some (.ref a_nodes)
  a_replaced : Addr
  fd_replaced : FuncData
  F_replaced : Fun K "replaced" "replaced" s_replaced a_replaced fd_replaced
  b_replaced : Binds K fd_replaced ["tree", "address", "other"] []
  m_replaced : mg "replaced" = some (.ref a_replaced)
  a_law_cell : Addr
  fd_law_cell : FuncData
  F_law_cell : Fun K "_law_cell" "_law_cell" s_law_cell a_law_cell fd_law_cell
  b_law_cell : Binds K fd_law_cell ["_law_script", "_law_index"] []
  m_law_cell : mg "_law_cell" = some (.ref a_law_cell)
  a_law_hash : Addr
  fd_law_hash : FuncData
  F_law_hash : Fun K "_law_hash" "_law_hash" s_law_hash a_law_hash fd_law_hash
  b_law_hash : Binds K fd_law_hash ["_law_seed", "_law_index"] []
  m_law_hash : mg "_law_hash" = some (.ref a_law_hash)
  a_law_generator : Addr
  fd_law_generator : FuncData
  F_law_generator : Fun K "_law_generator" "_law_generator" s_law_generator a_law_generator fd_law_generator
  b_law_generator : Binds K fd_law_generator ["_law_script", "_law_index"] []
  m_law_generator : mg "_law_generator" = some (.ref a_law_generator)
  a_law_random : Addr
  fd_law_random : FuncData
  F_law_random : Fun K "_law_random" "_law_random" s_law_random a_law_random fd_law_random
  b_law_random : Binds K fd_law_random ["_law_generator_here", "_law_bound"] []
  m_law_random : mg "_law_random" = some (.ref a_law_random)
  a_law_tree : Addr
  fd_law_tree : FuncData
  F_law_tree : Fun K "_law_tree" "_law_tree" s_law_tree a_law_tree fd_law_tree
  b_law_tree : Binds K fd_law_tree ["_law_generator_here", "_law_many"] []
  m_law_tree : mg "_law_tree" = some (.ref a_law_tree)
  a_law_parsed : Addr
  fd_law_parsed : FuncData
  F_law_parsed : Fun K "_law_parsed" "_law_parsed" s_law_parsed a_law_parsed fd_law_parsed
  b_law_parsed : Binds K fd_law_parsed ["_law_tree_here"] []
  m_law_parsed : mg "_law_parsed" = some (.ref a_law_parsed)
  a_law_text : Addr
  fd_law_text : FuncData
  F_law_text : Fun K "_law_text" "_law_text" s_law_text a_law_text fd_law_text
  b_law_text : Binds K fd_law_text ["_law_parsed_here"] []
  m_law_text : mg "_law_text" = some (.ref a_law_text)
  a_law_leaves : Addr
  fd_law_leaves : FuncData
  F_law_leaves : Fun K "_law_leaves" "_law_leaves" s_law_leaves a_law_leaves fd_law_leaves
  b_law_leaves : Binds K fd_law_leaves ["_law_parsed_here", "_law_road"] []
  m_law_leaves : mg "_law_leaves" = some (.ref a_law_leaves)
  a_law_nodes : Addr
  fd_law_nodes : FuncData
  F_law_nodes : Fun K "_law_nodes" "_law_nodes" s_law_nodes a_law_nodes fd_law_nodes
  b_law_nodes : Binds K fd_law_nodes ["_law_parsed_here", "_law_road"] []
  m_law_nodes : mg "_law_nodes" = some (.ref a_law_nodes)
  a_law_at : Addr
  fd_law_at : FuncData
  F_law_at : Fun K "_law_at" "_law_at" s_law_at a_law_at fd_law_at
  b_law_at : Binds K fd_law_at ["_law_parsed_here", "_law_road"] []
  m_law_at : mg "_law_at" = some (.ref a_law_at)
  a_law_put : Addr
  fd_law_put : FuncData
  F_law_put : Fun K "_law_put" "_law_put" s_law_put a_law_put fd_law_put
  b_law_put : Binds K fd_law_put ["_law_parsed_here", "_law_road", "_law_other"] []
  m_law_put : mg "_law_put" = some (.ref a_law_put)
  a_law_caught : Addr
  fd_law_caught : FuncData
  F_law_caught : Fun K "_law_caught" "_law_caught" s_law_caught a_law_caught fd_law_caught
  b_law_caught : Binds K fd_law_caught ["_law_door", "_law_tree_here", "_law_address", "_law_other"] []
  m_law_caught : mg "_law_caught" = some (.ref a_law_caught)
  a_law_refused : Addr
  fd_law_refused : FuncData
  F_law_refused : Fun K "_law_refused" "_law_refused" s_law_refused a_law_refused fd_law_refused
  b_law_refused : Binds K fd_law_refused ["_law_tree_here", "_law_address"] []
  m_law_refused : mg "_law_refused" = some (.ref a_law_refused)
  a_law_deep_right : Addr
  fd_law_deep_right : FuncData
  F_law_deep_right : Fun K "_law_deep_right" "_law_deep_right" s_law_deep_right a_law_deep_right fd_law_deep_right
  b_law_deep_right : Binds K fd_law_deep_right ["_law_generator_here"] []
  m_law_deep_right : mg "_law_deep_right" = some (.ref a_law_deep_right)
  a_law : Addr
  fd_law : FuncData
  F_law : Fun K "law" "law" s_law a_law fd_law
  b_law : Binds K fd_law ["_law_script"] []
  m_law : mg "law" = some (.ref a_law)
  z_isinstance : mg "isinstance" = none
  z_str : mg "str" = none
  z_len : mg "len" = none
  z_list : mg "list" = none
  z_int : mg "int" = none
  z_max : mg "max" = none
  z_range : mg "range" = none
  z_repr : mg "repr" = none
  z_enumerate : mg "enumerate" = none
/-! ### words for trees -/
abbrev trV (t : Tr) : V := .str (S t.cs)
/-- all but what stands at g is as it was -/
def Keep (g : Addr) (H H' : Hp) : Prop := ∀ b o, b ≠ g → H b = some o → H' b = some o
/-- a generator: its third number is at most n -/
def GenAt (H : Hp) (g : Addr) (n : Nat) : Prop := ∃ a b c : Int, H g = some (.lst [.int a, .int b, .int c]) ∧ 0 ≤ c ∧ c ≤ (n : Int)
def NotStr (K : PySem.W.Frag) (H : Hp) (v : V) : Prop := ∃ t, TyX K H v t ∧ PySem.W.kitOne K t (.type "str") = some false
/-- how is_tree reads, its stack's top first -/
def isT : List Nat → List Str → Bool
  | [], st => st.isEmpty
  | c :: cs, st =>
    if st.headD "end" = "tree" ∧ S [c] = "(" then isT cs ("tree" :: "tree" :: ")" :: st.tail)
    else if st.headD "end" ≠ S [c] ∧ ¬ (st.headD "end" = "tree" ∧ S [c] = ".") then false
    else isT cs st.tail
def sp_is_tree (K : PySem.W.Frag) : Sp := fun vs H Q _ => ∃ v, vs = [v] ∧ ((∃ x : Str, v = .str x ∧ x.length ≤ 1000000 ∧ ∀ H', Same H H' → Q (.bl (isT x.cps.toList ["tree"])) H') ∨ (NotStr K H v ∧ Q (.bl false) H))
def sp_law_cell (K : PySem.W.Frag) : Sp := fun vs H Q _ => ∃ (a : Addr) (ns : List Int) (i : Nat), vs = [.ref a, .int i] ∧ SqL K H a (ns.map V.int) ∧ Q (.int (ns.getD i 0)) H
def sp_law_hash (K : PySem.W.Frag) : Sp := fun vs H Q _ => ∃ s i : Int, vs = [.int s, .int i] ∧ 0 ≤ i ∧ i ≤ 1000000000000000 ∧ ∀ r : Int, Q (.int r) H
def sp_law_generator (K : PySem.W.Frag) : Sp := fun vs H Q _ => ∃ (a : Addr) (ns : List Int) (i : Nat), vs = [.ref a, .int i] ∧ SqL K H a (ns.map V.int) ∧ ∀ g H', H g = none → Same H H' → GenAt H' g (1000 * i) → Q (.ref g) H'
def sp_law_random (K : PySem.W.Frag) : Sp := fun vs H Q _ => ∃ (g : Addr) (b : Int) (n : Nat), vs = [.ref g, .int b] ∧ GenAt H g n ∧ n ≤ 100000000000000 ∧ 1 ≤ b ∧ b < 1000000000000000 ∧
  ∀ (r : Int) H', 0 ≤ r → r < b → Keep g H H' → GenAt H' g (n + 3) → Q (.int r) H'
def sp_law_tree (K : PySem.W.Frag) (k : Nat) : Sp := fun vs H Q _ => ∃ (g : Addr) (m n : Nat), vs = [.ref g, .int m] ∧ m < k ∧ m ≤ 2000 ∧ GenAt H g n ∧ n + 6 * m ≤ 10000000000000 ∧
  ∀ (t : Tr) H', t.size = m → Keep g H H' → GenAt H' g (n + 6 * m) → Q (trV t) H'
theorem tyX_same {K : PySem.W.Frag} {H H' : Hp} {x : V} {t : Value} (h : TyX K H x t) (s : Same H H') : TyX K H' x t := by
  cases h with
  | base h =>
    cases h with
    | non => exact .base .non
    | bl b => exact .base (.bl b)
    | int i => exact .base (.int i)
    | str z => exact .base (.str z)
    | flt z => exact .base (.flt z)
    | lst e => exact .base (.lst (s _ _ e))
    | frz e => exact .base (.frz (s _ _ e))
    | tup e => exact .base (.tup (s _ _ e))
    | dK e => exact .base (.dK (s _ _ e))
    | dT e => exact .base (.dT (s _ _ e))
    | ins e cl a b c d => exact .base (.ins (s _ _ e) cl a b c d)
  | byt b => exact .byt b
  | set e => exact .set (s _ _ e)
  | kList e c => exact .kList e c
  | kTuple e c => exact .kTuple e c
  | kDict e c => exact .kDict e c
  | fTuple e => exact .fTuple (s _ _ e)
  | fDict e => exact .fDict (s _ _ e)

/-! ### what may be refused -/
def NotTree (K : PySem.W.Frag) (H : Hp) (v : V) : Prop := (∃ x : Str, v = .str x ∧ x.length ≤ 1000000 ∧ isT x.cps.toList ["tree"] = false) ∨ NotStr K H v
/-- an error of the class at C with the value v leaves -/
def Out (C : Addr) (v : V) (H : Hp) (E : XK) : Prop := ∀ d H', Same H H' → H d = none → H' d = some (.xd [("value", v)]) → E (.ref C) (some d) H'
def GoodL (H : Hp) (t : Tr) (v : V) (xs : List Tr) : Prop := ∃ a, v = .ref a ∧ H a = some (.lst (xs.map trV)) ∧ xs.length = t.lvs ∧ ∀ x ∈ xs, x.size ≤ 2000
def BadL (K : PySem.W.Frag) (H : Hp) (t : Tr) (v : V) : Prop := (∃ ty, TyX K H v ty ∧ PySem.W.kitOne K ty (.type "list") = some false) ∨
  ∃ a ws, v = .ref a ∧ H a = some (.lst ws) ∧ ws.length ≤ 100000 ∧ (ws.length ≠ t.lvs ∨ (∀ u ∈ ws, (∃ x : Tr, u = trV x ∧ x.size ≤ 2000) ∨ NotTree K H u) ∧ ∃ u ∈ ws, NotTree K H u)
section
variable {K : PySem.W.Frag} {mg : Str → Option Value}
def sp_check_tree (T : Txt K mg) : Sp := fun vs H Q E => ∃ v, vs = [v] ∧ ((∃ t : Tr, v = trV t ∧ t.size ≤ 2000 ∧ ∀ H', Same H H' → Q .non H') ∨ (NotTree K H v ∧ Out T.c_InvalidTree v H E))
end
theorem NotStr.same {K : PySem.W.Frag} {H H' : Hp} {v : V} (h : NotStr K H v) (s : Same H H') : NotStr K H' v := let ⟨t, a, b⟩ := h; ⟨t, tyX_same a s, b⟩
theorem NotTree.same {K : PySem.W.Frag} {H H' : Hp} {v : V} (h : NotTree K H v) (s : Same H H') : NotTree K H' v := h.imp id fun z => z.same s
theorem Out.same {C : Addr} {v : V} {H H' : Hp} {E : XK} (h : Out C v H E) (s : Same H H') : Out C v H' E := fun d H2 s2 n e => h d H2 (s.trans s2) (s.free n) e
theorem GoodL.same {H H' : Hp} {t : Tr} {v : V} {xs : List Tr} (h : GoodL H t v xs) (s : Same H H') : GoodL H' t v xs := let ⟨a, e, g, r⟩ := h; ⟨a, e, s _ _ g, r⟩
theorem BadL.same {K : PySem.W.Frag} {H H' : Hp} {t : Tr} {v : V} (h : BadL K H t v) (s : Same H H') : BadL K H' t v := by
  rcases h with ⟨ty, a, b⟩ | ⟨a, ws, e, g, l, r⟩
  · exact .inl ⟨ty, tyX_same a s, b⟩
  · refine .inr ⟨a, ws, e, s _ _ g, l, r.imp id fun ⟨al, u, hu, nu⟩ => ⟨fun z hz => (al z hz).imp id fun n => n.same s, u, hu, nu.same s⟩⟩

/-! ### trees as nested tuples -/
def Tr.hgt : Tr → Nat
  | .leaf => 0
  | .node l r => max (hgt l) (hgt r) + 1
inductive PT (H : Hp) : V → Tr → Prop
  | leaf {p : Addr} : H p = some (.tup []) → PT H (.ref p) .leaf
  | node {p : Addr} {x y : V} {l r : Tr} : H p = some (.tup [x, y]) → PT H x l → PT H y r → PT H (.ref p) (.node l r)
theorem PT.same {H H' : Hp} (s : Same H H') : ∀ {v : V} {t : Tr}, PT H v t → PT H' v t
  | _, _, .leaf h => .leaf (s _ _ h)
  | _, _, .node h a b => .node (s _ _ h) (PT.same s a) (PT.same s b)
/-- all but what stands at g, which is a list -/
theorem PT.keep {H H' : Hp} {g : Addr} {ws : List V} (s : Keep g H H') (hg : H g = some (.lst ws)) : ∀ {v : V} {t : Tr}, PT H v t → PT H' v t
  | _, _, .leaf h => .leaf (s _ _ (ne_of h hg fun z => by cases z) h)
  | _, _, .node h a b => .node (s _ _ (ne_of h hg fun z => by cases z) h) (PT.keep s hg a) (PT.keep s hg b)
def tD : Tr → PyData
  | .leaf => .tuple []
  | .node l r => .tuple [tD l, tD r]
theorem PT.dp {K : PySem.W.Frag} {H : Hp} : ∀ {v : V} {t : Tr}, PT H v t → Dp K H v (tD t)
  | _, _, .leaf h => .tup (SqT.of h) .nil
  | _, _, .node h a b => .tup (SqT.of h) (.cons (PT.dp a) (.cons (PT.dp b) .nil))
theorem tD_depth : ∀ t : Tr, (tD t).depth = Tr.hgt t + 1
  | .leaf => by simp [tD, PyData.depth, PyData.depthAll, Tr.hgt]
  | .node l r => by
    have h1 := tD_depth l
    have h2 := tD_depth r
    simp only [tD, PyData.depth, PyData.depthAll, Tr.hgt, h1, h2]
    omega
theorem tD_lay : ∀ t : Tr, (tD t).canLay0 = true
  | .leaf => by simp [tD, PyData.canLay0, PyData.canLayAll0]
  | .node l r => by
    simp only [tD, PyData.canLay0, PyData.canLayAll0, tD_lay l, tD_lay r]
    rfl
theorem tD_shaped {t : Tr} (h : Tr.hgt t ≤ 62) : SeqAt.shaped (tD t) = true := by
  unfold SeqAt.shaped
  rw [tD_lay, tD_depth]
  simp
  omega
theorem tD_leaf : ∀ t : Tr, PyData.eqv (tD t) (.tuple []) = decide (t = .leaf)
  | .leaf => by simp [tD, PyData.eqv, PyData.eqvAll]
  | .node l r => by simp [tD, PyData.eqv, PyData.eqvAll]
/-- x == () -/
theorem eqLeaf {K : PySem.W.Frag} {H : Hp} {v : V} {t : Tr} {p : Addr} {Q : VK} (h : PT H v t) (ht : Tr.hgt t ≤ 62) (hp : H p = some (.tup [])) (q : Q (.bl (decide (t = .leaf))) H) : rEqD K v (.ref p) H Q :=
  ⟨tD t, .tuple [], h.dp, .tup (SqT.of hp) .nil, tD_shaped ht, by decide +kernel, by rw [tD_leaf]; exact q⟩
section
variable {K : PySem.W.Frag} {mg : Str → Option Value}
def sp_law_parsed (K : PySem.W.Frag) : Sp := fun vs H Q _ => ∃ t : Tr, vs = [trV t] ∧ t.size ≤ 2000 ∧ ∀ v H', Same H H' → PT H' v t → Q v H'
end
inductive PTs (H : Hp) : List V → List Tr → Prop
  | nil : PTs H [] []
  | cons {v : V} {t : Tr} {vs : List V} {ts : List Tr} : PT H v t → PTs H vs ts → PTs H (v :: vs) (t :: ts)
theorem PTs.same {H H' : Hp} (s : Same H H') : ∀ {vs : List V} {ts : List Tr}, PTs H vs ts → PTs H' vs ts
  | _, _, .nil => .nil
  | _, _, .cons a b => .cons (a.same s) (PTs.same s b)
theorem PTs.keep {H H' : Hp} {g : Addr} {ws : List V} (s : Keep g H H') (hg : H g = some (.lst ws)) : ∀ {vs : List V} {ts : List Tr}, PTs H vs ts → PTs H' vs ts
  | _, _, .nil => .nil
  | _, _, .cons a b => .cons (a.keep s hg) (PTs.keep s hg b)
theorem PTs.length {H : Hp} : ∀ {vs : List V} {ts : List Tr}, PTs H vs ts → vs.length = ts.length
  | _, _, .nil => rfl
  | _, _, .cons _ b => congrArg Nat.succ (PTs.length b)
theorem PTs.append {H : Hp} : ∀ {vs : List V} {ts : List Tr} {us : List V} {rs : List Tr}, PTs H vs ts → PTs H us rs → PTs H (vs ++ us) (ts ++ rs)
  | _, _, _, _, .nil, b => b
  | _, _, _, _, .cons a c, b => .cons a (PTs.append c b)
section
variable {K : PySem.W.Frag} {mg : Str → Option Value}
/-- a value that can be shown -/
structure Good (H : Hp) (y : V) (d : PyData) : Prop where
  dv : DV H d.hasDict y d
  sh : d.showable = true
  dp : d.depth ≤ 20
  ln : d.shown.length ≤ 1000000
def sp_law (K : PySem.W.Frag) : Sp := fun vs H Q _ => ∃ (a : Addr) (ns : List Int), vs = [.ref a] ∧ SqL K H a (ns.map V.int) ∧ ns.length ≤ 63 ∧ ∀ H', Q (.bl true) H'
end

section
variable {K : PySem.W.Frag} {mg : Str → Option Value}
abbrev sV (a : List Nat) : V := .str (S a)
/-- a tree, or a value that is none -/
def OnTree (K : PySem.W.Frag) (C : Addr) (vs : List V) (H : Hp) (E : XK) (G : Tr → Prop) : Prop := ∃ v, vs = [v] ∧ ((∃ t : Tr, v = trV t ∧ t.size ≤ 2000 ∧ G t) ∨ (NotTree K H v ∧ Out C v H E))
inductive Tups (H : Hp) : List V → List (List Nat × Nat) → Prop
  | nil : Tups H [] []
  | cons {p : Addr} {x : List Nat × Nat} {vs : List V} {xs : List (List Nat × Nat)} : H p = some (.tup [sV x.1, sV [x.2]]) → Tups H vs xs → Tups H (.ref p :: vs) (x :: xs)
def sp_addressed (K : PySem.W.Frag) : Sp := fun vs H Q _ => ∃ t : Tr, vs = [trV t] ∧ t.size ≤ 2000 ∧ ∀ p ws H', H p = none → Same H H' → H' p = some (.lst ws) → Tups H' ws (t.adrs []) → Q (.ref p) H'
def sp_leaves (T : Txt K mg) : Sp := fun vs H Q E => OnTree K T.c_InvalidTree vs H E fun t => ∀ p H', H p = none → Same H H' → H' p = some (.lst ((t.lvA []).map sV)) → Q (.ref p) H'
def sp_law_leaves (K : PySem.W.Frag) (k : Nat) : Sp := fun vs H Q _ => ∃ (v : V) (a : List Nat) (t : Tr), vs = [v, sV a] ∧ PT H v t ∧ Tr.hgt t < k ∧ a.length + t.size ≤ 100000 ∧ ∀ p H', H p = none → Same H H' → H' p = some (.lst ((t.lvA a).map sV)) → Q (.ref p) H'
def sp_law_nodes (K : PySem.W.Frag) (k : Nat) : Sp := fun vs H Q _ => ∃ (v : V) (a : List Nat) (t : Tr), vs = [v, sV a] ∧ PT H v t ∧ Tr.hgt t < k ∧ a.length + t.size ≤ 100000 ∧ ∀ p H', H p = none → Same H H' → H' p = some (.lst ((t.ndA a).map sV)) → Q (.ref p) H'
def sp_nodes (T : Txt K mg) : Sp := fun vs H Q E => OnTree K T.c_InvalidTree vs H E fun t => ∀ p H', H p = none → Same H H' → H' p = some (.lst ((t.ndA []).map sV)) → Q (.ref p) H'
def sp_ends (K : PySem.W.Frag) : Sp := fun vs H Q _ => ∃ t : Tr, vs = [trV t] ∧ t.size ≤ 2000 ∧ ∀ p H', H p = none → Same H H' → H' p = some (.lst ((Tr.ends 0 t).map fun n => V.int (n : Nat))) → Q (.ref p) H'
def isA (a : List Nat) : Bool := a.all fun c => c == 108 || c == 114
def tat : Tr → List Nat → Option Tr
  | t, [] => some t
  | .leaf, _ :: _ => none
  | .node l r, c :: cs => if c = 108 then tat l cs else tat r cs
def offs : Tr → List Nat → Nat
  | _, [] => 0
  | .leaf, _ :: _ => 0
  | .node l r, c :: cs => if c = 108 then 1 + offs l cs else 1 + l.len + offs r cs
def put : Tr → List Nat → Tr → Tr
  | _, [], x => x
  | .leaf, _ :: _, _ => .leaf
  | .node l r, c :: cs, x => if c = 108 then .node (put l cs x) r else .node l (put r cs x)
def NotAdr (K : PySem.W.Frag) (H : Hp) (v : V) : Prop := (∃ a : List Nat, v = sV a ∧ a.length ≤ 1000000 ∧ isA a = false) ∨ NotStr K H v
def BadAdr (K : PySem.W.Frag) (H : Hp) (t : Tr) (v : V) : Prop := NotAdr K H v ∨ ∃ a : List Nat, v = sV a ∧ a.length ≤ 1000 ∧ isA a = true ∧ tat t a = none
def sp_is_address (K : PySem.W.Frag) : Sp := fun vs H Q _ => ∃ v, vs = [v] ∧ ((∃ a : List Nat, v = sV a ∧ a.length ≤ 1000000 ∧ Q (.bl (isA a)) H) ∨ (NotStr K H v ∧ Q (.bl false) H))
def sp_check_address (T : Txt K mg) : Sp := fun vs H Q E => ∃ v, vs = [v] ∧ ((∃ a : List Nat, v = sV a ∧ a.length ≤ 1000 ∧ isA a = true ∧ Q .non H) ∨ (NotAdr K H v ∧ Out T.c_InvalidAddress v H E))
def sp_stretch (K : PySem.W.Frag) : Sp := fun vs H Q _ => ∃ (t : Tr) (a : List Nat), vs = [trV t, sV a] ∧ t.size ≤ 2000 ∧ a.length ≤ 1000 ∧ (tat t a = none → ∀ H', Same H H' → Q .non H') ∧
  ∀ s, tat t a = some s → ∀ p H', H p = none → Same H H' → H' p = some (.tup [.int (offs t a : Nat), .int ((offs t a + s.len : Nat) : Int)]) → Q (.ref p) H'
def sp_checked_stretch (T : Txt K mg) : Sp := fun vs H Q E => ∃ (t : Tr) (v : V), vs = [trV t, v] ∧ t.size ≤ 2000 ∧ ((∃ (a : List Nat) (s : Tr), v = sV a ∧ a.length ≤ 1000 ∧ isA a = true ∧ tat t a = some s ∧
  ∀ p H', H p = none → Same H H' → H' p = some (.tup [.int (offs t a : Nat), .int ((offs t a + s.len : Nat) : Int)]) → Q (.ref p) H') ∨ (BadAdr K H t v ∧ Out T.c_InvalidAddress v H E))
def sp_part (T : Txt K mg) : Sp := fun vs H Q E => ∃ (u v : V), vs = [u, v] ∧ ((∃ t : Tr, u = trV t ∧ t.size ≤ 2000 ∧ ((∃ (a : List Nat) (s : Tr), v = sV a ∧ a.length ≤ 1000 ∧ isA a = true ∧ tat t a = some s ∧ ∀ H', Same H H' → Q (trV s) H') ∨ (BadAdr K H t v ∧ Out T.c_InvalidAddress v H E))) ∨ (NotTree K H u ∧ Out T.c_InvalidTree u H E))
def sp_replaced (T : Txt K mg) : Sp := fun vs H Q E => ∃ (u v x : V), vs = [u, v, x] ∧ ((∃ t : Tr, u = trV t ∧ t.size ≤ 2000 ∧ ((∃ (a : List Nat) (s : Tr), v = sV a ∧ a.length ≤ 1000 ∧ isA a = true ∧ tat t a = some s ∧
  ((∃ z : Tr, x = trV z ∧ z.size ≤ 2000 ∧ ∀ H', Same H H' → Q (trV (put t a z)) H') ∨ (NotTree K H x ∧ Out T.c_InvalidTree x H E))) ∨ (BadAdr K H t v ∧ Out T.c_InvalidAddress v H E))) ∨ (NotTree K H u ∧ Out T.c_InvalidTree u H E))
def sp_law_text (K : PySem.W.Frag) (k : Nat) : Sp := fun vs H Q _ => ∃ (v : V) (t : Tr), vs = [v] ∧ PT H v t ∧ Tr.hgt t < k ∧ t.size ≤ 2000 ∧ ∀ H', Same H H' → Q (trV t) H'
def sp_law_at (K : PySem.W.Frag) : Sp := fun vs H Q _ => ∃ (v : V) (t : Tr) (a : List Nat), vs = [v, sV a] ∧ PT H v t ∧ a.length ≤ 1000 ∧ isA a = true ∧ (tat t a = none → ∀ H', Same H H' → Q .non H') ∧ ∀ s, tat t a = some s → ∀ u H', Same H H' → PT H' u s → Q u H'
def sp_law_put (K : PySem.W.Frag) (k : Nat) : Sp := fun vs H Q _ => ∃ (v x : V) (t z s : Tr) (a : List Nat), vs = [v, sV a, x] ∧ PT H v t ∧ PT H x z ∧ tat t a = some s ∧ isA a = true ∧ a.length < k ∧ a.length ≤ 1000 ∧ ∀ u H', Same H H' → PT H' u (put t a z) → Q u H'
/-- what part and replaced refuse -/
def Refusal (K : PySem.W.Frag) (H : Hp) (n : Nat) (u v x b : V) (c : Bool) : Prop :=
  (c = true ∧ b = u ∧ NotTree K H u) ∨ (c = false ∧ b = v ∧ ∃ t : Tr, u = trV t ∧ t.size ≤ 2000 ∧ BadAdr K H t v) ∨
  (c = true ∧ b = x ∧ n = 1 ∧ ∃ (t : Tr) (a : List Nat) (s : Tr), u = trV t ∧ t.size ≤ 2000 ∧ v = sV a ∧ a.length ≤ 1000 ∧ isA a = true ∧ tat t a = some s ∧ NotTree K H x)
/-- a refused value is shown, or is a list of texts that grows -/
def Shows (K : PySem.W.Frag) (H : Hp) (b : V) (q : PyData → Hp → Prop) : Prop := (∃ d ty, Good H b d ∧ TyX K H b ty ∧ PySem.W.kitOne K ty (.type "list") = some false ∧ ∀ H', Same H H' → q d H') ∨
  (∃ (l : Addr) (ws : List Str), b = .ref l ∧ H l = some (.lst (ws.map V.str)) ∧ ws.length ≤ 40 ∧ (∀ z ∈ ws, (reprText z).length ≤ 10000) ∧ ∀ H', Keep l H H' → H' l = some (.lst ((ws ++ [("more" : Str)]).map V.str)) → q (.list ((ws ++ [("more" : Str)]).map PyData.str)) H')
def sp_law_caught (T : Txt K mg) : Sp := fun vs H Q _ => ∃ (n : Nat) (u v x b : V) (c : Bool), vs = [.int (n : Nat), u, v, x] ∧ n < 2 ∧ Refusal K H n u v x b c ∧ Shows K H b fun d H' => ∀ p H2, H' p = none → Same H' H2 → H2 p = some (.lst [.bl c, .bl (!c), .str d.shown]) → Q (.ref p) H2
def sp_law_refused (T : Txt K mg) : Sp := fun vs H Q _ => ∃ (t : Tr) (v : V), vs = [trV t, v] ∧ t.size ≤ 100 ∧ BadAdr K H t v ∧ ((∃ d ty, Good H v d ∧ TyX K H v ty ∧ PySem.W.kitOne K ty (.type "list") = some false ∧ ∀ H', Same H H' → Q (.bl true) H') ∨
  (∃ (l : Addr) (ws : List Str), v = .ref l ∧ H l = some (.lst (ws.map V.str)) ∧ ws.length ≤ 10 ∧ (∀ z ∈ ws, (reprText z).length ≤ 1000) ∧ ∀ H', Keep l H H' → Q (.bl true) H'))
def sp_law_deep_right (T : Txt K mg) : Sp := fun vs H Q _ => ∃ (g : Addr) (n : Nat), vs = [.ref g] ∧ GenAt H g n ∧ n ≤ 1000000000000 ∧ ∀ H', Q (.bl true) H'
end

section
variable {P : Program} {w : World} {K : PySem.W.Frag} {mg : Str → Option Value} {base : Heap}
theorem isT_nil (st : List Str) : isT [] st = st.isEmpty := rfl
theorem isT_open {c : Nat} {cs : List Nat} {st : List Str} {wd : Str} {st' : List Str} (hw : st.headD "end" = wd) (ht : st.tail = st') (h : wd = "tree" ∧ S [c] = "(") : isT (c :: cs) st = isT cs ("tree" :: "tree" :: ")" :: st') := by
  subst hw; subst ht
  show (if _ then _ else _) = _
  rw [if_pos h]
theorem isT_bad {c : Nat} {cs : List Nat} {st : List Str} {wd : Str} (hw : st.headD "end" = wd) (h : ¬ (wd = "tree" ∧ S [c] = "(")) (h2 : wd ≠ S [c] ∧ ¬ (wd = "tree" ∧ S [c] = ".")) : isT (c :: cs) st = false := by
  subst hw
  show (if _ then _ else _) = _
  rw [if_neg h, if_pos h2]
theorem isT_on {c : Nat} {cs : List Nat} {st : List Str} {wd : Str} {st' : List Str} (hw : st.headD "end" = wd) (ht : st.tail = st') (h : ¬ (wd = "tree" ∧ S [c] = "(")) (h2 : ¬ (wd ≠ S [c] ∧ ¬ (wd = "tree" ∧ S [c] = "."))) : isT (c :: cs) st = isT cs st' := by
  subst hw; subst ht
  show (if _ then _ else _) = _
  rw [if_neg h, if_neg h2]
theorem ok_is_tree (T : Txt K mg) : FnOk P w K mg base CX0 1 T.a_is_tree T.fd_is_tree ["value"] (sp_is_tree K) := by
  refine T.F_is_tree.ok sc_is_tree (fun vs H Q E h => ?_) (fun cdv A outer s H vs Q E hr h => ?_)
  · obtain ⟨v, rfl, _⟩ := h; rfl
  obtain ⟨v, rfl, h⟩ := h
  refine ⟨_, (pss_cons (ps_if (pt_not (pt_val (pe_callB call_isi (by rfl) T.z_isinstance (by decide +kernel) (pa_cons (pv 0) (pa_cons (pe_bltn (v := .ty "str") (by rfl) T.z_str (by decide +kernel) rfl) pa_nil))))) (pss_one (ps_ret pe_bl)) pss_nil)
    (pss_cons (ps_set (i := 1) sc_is_tree.nd rfl (by first | exact Or.inl rfl | exact Or.inr rfl) (pe_lst (pa_cons pe_str pa_nil)))
    (pss_cons (ps_for PassesOwn.never rfl (pi_str (pv 0)) (pg_name (i := 2) sc_is_tree.nd rfl (by first | exact Or.inl rfl | exact Or.inr rfl)) (pss_cons (ps_set (i := 3) sc_is_tree.nd rfl (by first | exact Or.inl rfl | exact Or.inr rfl) (pe_ifExp (pt_truth (pv 1) (fun _ => rfl)) (pe_bm0 PySem.F.plainAttrs_list PySem.F.slot_list_pop PySem.F.type_list_pop mt_pop (pv 1)) pe_str))
    (pss_one (ps_if (pw_and (pt_cmpR op_eq (pv 3) pe_str (nomark _)) (pw_and1 (pt_cmpR op_eq (pv 2) pe_str (nomark _)))).pt (pss_one (ps_expr (pe_bm PySem.F.plainAttrs_list PySem.F.slot_list_extend PySem.F.type_list_extend mt_extend (pv 1) (pa_cons (pe_lst (pa_cons pe_str (pa_cons pe_str (pa_cons pe_str pa_nil)))) pa_nil)))) (pss_one (ps_if (pw_and (pt_cmpR op_ne (pv 3) (pv 2) (nomark _)) (pw_and1 (pt_not (pw_and (pt_cmpR op_eq (pv 3) pe_str (nomark _)) (pw_and1 (pt_cmpR op_eq (pv 2) pe_str (nomark _)))).pt))).pt (pss_one (ps_ret pe_bl)) pss_nil))))))
    (pss_one (ps_ret (pe_notT (pv 1))))))), ?_⟩
  rcases h with ⟨x, rfl, hx, q⟩ | ⟨⟨t, ht, hk⟩, q⟩
  · simp only [cxOf_K, tAsg2, tYes, wipe, tSeq, tIfS, tNot, tB, tCB, tCons, tNil, tVar, tC, tTest, tOp, tAnd, tOr, tAsg, gName, tRet, tRetN, tDrop, tNext, tIf, tCall, tTup, tLst, tNotV, tAndV, tOrV, tUn, rI0, rI, rU, rEq, rNe, tM1, tM0, tBM, tBM0, tSl, tPart, tNoPart, iStr, iEnumS, iRng1, iRng2, iList, gSub, tBits, tAug, tPar, L2.start, List.map_cons, List.map_nil, List.length_cons, List.length_nil, List.getElem?_cons_zero, List.getElem?_cons_succ, List.cons_append, List.nil_append, List.append_nil, List.set_cons_zero, List.set_cons_succ, List.replicate_succ, List.replicate_zero, Option.some.injEq, exists_eq_left', V.int.injEq, V.str.injEq, V.ref.injEq, V.bl.injEq, exists_and_left, exists_eq_left, List.cons.injEq, and_true, true_and, tCallX, tRs]
    refine ⟨_, _, _, _, true, rfl, .ty _, .base (.str x), kit_ty (by decide +kernel), _, rfl, ?_⟩
    refine ⟨by decide, fun p hp => ⟨_, rfl, x, rfl, for_str (fun i σ H' => ∃ (st : List Str) (a2 a3 : Option V), σ = [some (.str x), some (.ref p), a2, a3] ∧ Same H H' ∧ H' p = some (.lst (st.reverse.map V.str)) ∧
      isT (x.cps.toList.drop i) st = isT x.cps.toList ["tree"] ∧ st.length ≤ 1 + 2 * i) ⟨_, none, none, rfl, (L2.Same.refl H).new hp _, upd_same, rfl, by decide⟩ ?_ ?_⟩⟩
    · rintro i c σ H' hc ⟨st, a2, a3, rfl, s0, hl, he, hn⟩
      have hi : i < x.cps.size := (Array.getElem?_eq_some_iff.mp hc).1
      have hxl : x.cps.size = x.length := rfl
      have hd : x.cps.toList.drop i = c :: x.cps.toList.drop (i + 1) := by
        rw [List.drop_eq_getElem_cons (by simpa using hi)]
        congr 1
        have := (Array.getElem?_eq_some_iff.mp hc).2
        simpa using this
      rw [hd] at he
      simp only [cxOf_K, tAsg2, tYes, wipe, tSeq, tIfS, tNot, tB, tCB, tCons, tNil, tVar, tC, tTest, tOp, tAnd, tOr, tAsg, gName, tRet, tRetN, tDrop, tNext, tIf, tCall, tTup, tLst, tNotV, tAndV, tOrV, tUn, rI0, rI, rU, rEq, rNe, tM1, tM0, tBM, tBM0, tSl, tPart, tNoPart, iStr, iEnumS, iRng1, iRng2, iList, gSub, tBits, tAug, tPar, L2.start, List.map_cons, List.map_nil, List.length_cons, List.length_nil, List.getElem?_cons_zero, List.getElem?_cons_succ, List.cons_append, List.nil_append, List.append_nil, List.set_cons_zero, List.set_cons_succ, List.replicate_succ, List.replicate_zero, Option.some.injEq, exists_eq_left', V.int.injEq, V.str.injEq, V.ref.injEq, V.bl.injEq, exists_and_left, exists_eq_left, List.cons.injEq, and_true, true_and, tCallX, tRs]
      have hS : ({ cps := #[c] } : Str) = S [c] := rfl
      rcases st with _ | ⟨w0, st⟩
      · refine ⟨false, .inl ⟨_, SqL.of hl, rfl⟩, ?_⟩
        rw [if_neg Bool.false_ne_true]
        obtain ⟨st0, hst0⟩ : ∃ st0 : List Str, st0 = [] := ⟨_, rfl⟩
        replace he : isT (c :: x.cps.toList.drop (i + 1)) st0 = isT x.cps.toList ["tree"] := by rw [hst0]; exact he
        obtain ⟨wd, hwd⟩ : ∃ wd, wd = Str.ofString "end" := ⟨_, rfl⟩
        rw [← hwd]
        obtain ⟨st', hst'⟩ : ∃ st' : List Str, st' = [] := ⟨_, rfl⟩
        have hw : st0.headD "end" = wd := by rw [hst0, hwd]; rfl
        have ht : st0.tail = st' := by rw [hst0, hst']; rfl
        have hn' : st'.length ≤ 2 * i := by rw [hst']; exact Nat.zero_le _
        rw [← hst'] at hl
        try simp only [V.str.injEq]
        refine ⟨rfl, ?_⟩
        have yes : wd = "tree" → S [c] = "(" → ∀ l, H' l = none → ∃ st2 a2 a3, (some (V.str ⟨#[c]⟩) = a2 ∧ some (V.str wd) = a3) ∧ Same H (upd (upd H' l (.lst [.str ")", .str "tree", .str "tree"])) p (.lst (st'.reverse.map V.str ++ [.str ")", .str "tree", .str "tree"]))) ∧
            upd (upd H' l (.lst [.str ")", .str "tree", .str "tree"])) p (.lst (st'.reverse.map V.str ++ [.str ")", .str "tree", .str "tree"])) p = some (.lst (List.map V.str st2.reverse)) ∧ isT (x.cps.toList.drop (i + 1)) st2 = isT x.cps.toList ["tree"] ∧ st2.length ≤ 1 + 2 * (i + 1) := fun h1 h2 l hl' => by
          refine ⟨"tree" :: "tree" :: ")" :: st', _, _, ⟨rfl, rfl⟩, ((s0.new (s0.free hl') _).new hp _), ?_, ?_, ?_⟩
          · rw [upd_same]; simp
          · rw [← he, isT_open hw ht ⟨h1, h2⟩]
          · simp only [List.length_cons]; omega
        have no : ¬ (wd = "tree" ∧ S [c] = "(") → (if (!decide (wd = S [c])) = true then scal (V.str wd) (V.str "tree") = true ∧ (if decide (wd = "tree") = true then scal (V.str (S [c])) (V.str ".") = true ∧ (if (!decide (S [c] = ".")) = true then Q (V.bl false) H' else
              ∃ st2 a2 a3, (some (V.str ⟨#[c]⟩) = a2 ∧ some (V.str wd) = a3) ∧ Same H H' ∧ H' p = some (.lst (List.map V.str st2.reverse)) ∧ isT (x.cps.toList.drop (i + 1)) st2 = isT x.cps.toList ["tree"] ∧ st2.length ≤ 1 + 2 * (i + 1))
              else if (!false) = true then Q (V.bl false) H' else ∃ st2 a2 a3, (some (V.str ⟨#[c]⟩) = a2 ∧ some (V.str wd) = a3) ∧ Same H H' ∧ H' p = some (.lst (List.map V.str st2.reverse)) ∧ isT (x.cps.toList.drop (i + 1)) st2 = isT x.cps.toList ["tree"] ∧ st2.length ≤ 1 + 2 * (i + 1))
            else if false = true then Q (V.bl false) H' else ∃ st2 a2 a3, (some (V.str ⟨#[c]⟩) = a2 ∧ some (V.str wd) = a3) ∧ Same H H' ∧ H' p = some (.lst (List.map V.str st2.reverse)) ∧ isT (x.cps.toList.drop (i + 1)) st2 = isT x.cps.toList ["tree"] ∧ st2.length ≤ 1 + 2 * (i + 1)) := fun hno => by
          have bad : wd ≠ S [c] → ¬ (wd = "tree" ∧ S [c] = ".") → Q (V.bl false) H' := fun h1 h2 => by
            rw [isT_bad hw hno ⟨h1, h2⟩] at he
            rw [he]; exact q _ s0
          have good : ¬ (wd ≠ S [c] ∧ ¬ (wd = "tree" ∧ S [c] = ".")) → ∃ st2 a2 a3, (some (V.str ⟨#[c]⟩) = a2 ∧ some (V.str wd) = a3) ∧ Same H H' ∧ H' p = some (.lst (List.map V.str st2.reverse)) ∧ isT (x.cps.toList.drop (i + 1)) st2 = isT x.cps.toList ["tree"] ∧ st2.length ≤ 1 + 2 * (i + 1) := fun h => by
            rw [isT_on hw ht hno h] at he
            exact ⟨st', _, _, ⟨rfl, rfl⟩, s0, hl, he, by omega⟩
          by_cases e1 : wd = S [c]
          · rw [if_neg (by simp [e1]), if_neg Bool.false_ne_true]
            exact good (fun h => h.1 e1)
          · rw [if_pos (by simp [e1])]
            refine ⟨rfl, ?_⟩
            by_cases e2 : wd = "tree"
            · rw [if_pos (decide_eq_true e2)]
              refine ⟨rfl, ?_⟩
              by_cases e3 : S [c] = "."
              · rw [if_neg (by simp [e3])]
                exact good (fun h => h.2 ⟨e2, e3⟩)
              · rw [if_pos (by simp [e3])]
                exact bad e1 (fun h => e3 h.2)
            · rw [if_neg (by simp [e2]), if_pos (show (!false) = true from rfl)]
              exact bad e1 (fun h => e2 h.1)
        by_cases h1 : wd = "tree"
        · rw [if_pos (decide_eq_true h1)]
          refine ⟨rfl, ?_⟩
          by_cases h2 : S [c] = "("
          · rw [if_pos (decide_eq_true h2)]
            refine ⟨tyV_lst hl, by decide, fun l hl' => ⟨p, l, st'.reverse.map V.str, _, rfl, rfl, ?_, upd_same, ?_, ?_⟩⟩
            · rw [upd_ne (ne_of_none hl hl')]; exact hl
            · simp only [List.length_map, List.length_reverse, List.length_cons, List.length_nil]
              exact small5 (by omega)
            · exact yes h1 h2 l hl'
          · rw [if_neg (by simp only [decide_eq_true_eq]; exact h2)]
            exact ⟨rfl, no (fun h => h2 h.2)⟩
        · rw [if_neg (by simp only [decide_eq_true_eq]; exact h1), if_neg Bool.false_ne_true]
          exact ⟨rfl, no (fun h => h1 h.1)⟩
      · refine ⟨true, .inl ⟨_, SqL.of hl, by simp⟩, ?_⟩
        rw [if_pos rfl]
        refine ⟨tyV_lst hl, p, _, .str w0, rfl, rfl, hl, by simp, ?_⟩
        have hl' : (upd H' p (.lst ((List.map V.str (w0 :: st).reverse).dropLast))) p = some (.lst (st.reverse.map V.str)) := by
          rw [upd_same]; simp
        have s0' := s0.new hp (.lst ((List.map V.str (w0 :: st).reverse).dropLast))
        generalize upd H' p (.lst ((List.map V.str (w0 :: st).reverse).dropLast)) = H' at hl' s0' ⊢
        replace hl := hl'
        replace s0 := s0'
        have hn' : st.length ≤ 2 * i := by simp only [List.length_cons] at hn; omega
        obtain ⟨st0, hst0⟩ : ∃ st0 : List Str, st0 = w0 :: st := ⟨_, rfl⟩
        rw [← hst0] at he
        have hw : st0.headD "end" = w0 := by rw [hst0]; rfl
        have ht : st0.tail = st := by rw [hst0]; rfl
        obtain ⟨wd, hwd⟩ : ∃ wd, wd = w0 := ⟨_, rfl⟩
        rw [← hwd] at hw ⊢
        obtain ⟨st', hst'⟩ : ∃ st' : List Str, st' = st := ⟨_, rfl⟩
        rw [← hst'] at ht hl hn'
        try simp only [V.str.injEq]
        refine ⟨rfl, ?_⟩
        have yes : wd = "tree" → S [c] = "(" → ∀ l, H' l = none → ∃ st2 a2 a3, (some (V.str ⟨#[c]⟩) = a2 ∧ some (V.str wd) = a3) ∧ Same H (upd (upd H' l (.lst [.str ")", .str "tree", .str "tree"])) p (.lst (st'.reverse.map V.str ++ [.str ")", .str "tree", .str "tree"]))) ∧
            upd (upd H' l (.lst [.str ")", .str "tree", .str "tree"])) p (.lst (st'.reverse.map V.str ++ [.str ")", .str "tree", .str "tree"])) p = some (.lst (List.map V.str st2.reverse)) ∧ isT (x.cps.toList.drop (i + 1)) st2 = isT x.cps.toList ["tree"] ∧ st2.length ≤ 1 + 2 * (i + 1) := fun h1 h2 l hl' => by
          refine ⟨"tree" :: "tree" :: ")" :: st', _, _, ⟨rfl, rfl⟩, ((s0.new (s0.free hl') _).new hp _), ?_, ?_, ?_⟩
          · rw [upd_same]; simp
          · rw [← he, isT_open hw ht ⟨h1, h2⟩]
          · simp only [List.length_cons]; omega
        have no : ¬ (wd = "tree" ∧ S [c] = "(") → (if (!decide (wd = S [c])) = true then scal (V.str wd) (V.str "tree") = true ∧ (if decide (wd = "tree") = true then scal (V.str (S [c])) (V.str ".") = true ∧ (if (!decide (S [c] = ".")) = true then Q (V.bl false) H' else
              ∃ st2 a2 a3, (some (V.str ⟨#[c]⟩) = a2 ∧ some (V.str wd) = a3) ∧ Same H H' ∧ H' p = some (.lst (List.map V.str st2.reverse)) ∧ isT (x.cps.toList.drop (i + 1)) st2 = isT x.cps.toList ["tree"] ∧ st2.length ≤ 1 + 2 * (i + 1))
              else if (!false) = true then Q (V.bl false) H' else ∃ st2 a2 a3, (some (V.str ⟨#[c]⟩) = a2 ∧ some (V.str wd) = a3) ∧ Same H H' ∧ H' p = some (.lst (List.map V.str st2.reverse)) ∧ isT (x.cps.toList.drop (i + 1)) st2 = isT x.cps.toList ["tree"] ∧ st2.length ≤ 1 + 2 * (i + 1))
            else if false = true then Q (V.bl false) H' else ∃ st2 a2 a3, (some (V.str ⟨#[c]⟩) = a2 ∧ some (V.str wd) = a3) ∧ Same H H' ∧ H' p = some (.lst (List.map V.str st2.reverse)) ∧ isT (x.cps.toList.drop (i + 1)) st2 = isT x.cps.toList ["tree"] ∧ st2.length ≤ 1 + 2 * (i + 1)) := fun hno => by
          have bad : wd ≠ S [c] → ¬ (wd = "tree" ∧ S [c] = ".") → Q (V.bl false) H' := fun h1 h2 => by
            rw [isT_bad hw hno ⟨h1, h2⟩] at he
            rw [he]; exact q _ s0
          have good : ¬ (wd ≠ S [c] ∧ ¬ (wd = "tree" ∧ S [c] = ".")) → ∃ st2 a2 a3, (some (V.str ⟨#[c]⟩) = a2 ∧ some (V.str wd) = a3) ∧ Same H H' ∧ H' p = some (.lst (List.map V.str st2.reverse)) ∧ isT (x.cps.toList.drop (i + 1)) st2 = isT x.cps.toList ["tree"] ∧ st2.length ≤ 1 + 2 * (i + 1) := fun h => by
            rw [isT_on hw ht hno h] at he
            exact ⟨st', _, _, ⟨rfl, rfl⟩, s0, hl, he, by omega⟩
          by_cases e1 : wd = S [c]
          · rw [if_neg (by simp [e1]), if_neg Bool.false_ne_true]
            exact good (fun h => h.1 e1)
          · rw [if_pos (by simp [e1])]
            refine ⟨rfl, ?_⟩
            by_cases e2 : wd = "tree"
            · rw [if_pos (decide_eq_true e2)]
              refine ⟨rfl, ?_⟩
              by_cases e3 : S [c] = "."
              · rw [if_neg (by simp [e3])]
                exact good (fun h => h.2 ⟨e2, e3⟩)
              · rw [if_pos (by simp [e3])]
                exact bad e1 (fun h => e3 h.2)
            · rw [if_neg (by simp [e2]), if_pos (show (!false) = true from rfl)]
              exact bad e1 (fun h => e2 h.1)
        by_cases h1 : wd = "tree"
        · rw [if_pos (decide_eq_true h1)]
          refine ⟨rfl, ?_⟩
          by_cases h2 : S [c] = "("
          · rw [if_pos (decide_eq_true h2)]
            refine ⟨tyV_lst hl, by decide, fun l hl' => ⟨p, l, st'.reverse.map V.str, _, rfl, rfl, ?_, upd_same, ?_, ?_⟩⟩
            · rw [upd_ne (ne_of_none hl hl')]; exact hl
            · simp only [List.length_map, List.length_reverse, List.length_cons, List.length_nil]
              exact small5 (by omega)
            · exact yes h1 h2 l hl'
          · rw [if_neg (by simp only [decide_eq_true_eq]; exact h2)]
            exact ⟨rfl, no (fun h => h2 h.2)⟩
        · rw [if_neg (by simp only [decide_eq_true_eq]; exact h1), if_neg Bool.false_ne_true]
          exact ⟨rfl, no (fun h => h1 h.1)⟩
    · rintro σ H' ⟨st, a2, a3, rfl, s0, hl, he, hn⟩
      have : x.cps.toList.drop x.cps.size = [] := List.drop_eq_nil_of_le (by simp)
      rw [this, isT_nil] at he
      simp only [cxOf_K, tAsg2, tYes, wipe, tSeq, tIfS, tNot, tB, tCB, tCons, tNil, tVar, tC, tTest, tOp, tAnd, tOr, tAsg, gName, tRet, tRetN, tDrop, tNext, tIf, tCall, tTup, tLst, tNotV, tAndV, tOrV, tUn, rI0, rI, rU, rEq, rNe, tM1, tM0, tBM, tBM0, tSl, tPart, tNoPart, iStr, iEnumS, iRng1, iRng2, iList, gSub, tBits, tAug, tPar, L2.start, List.map_cons, List.map_nil, List.length_cons, List.length_nil, List.getElem?_cons_zero, List.getElem?_cons_succ, List.cons_append, List.nil_append, List.append_nil, List.set_cons_zero, List.set_cons_succ, List.replicate_succ, List.replicate_zero, Option.some.injEq, exists_eq_left', V.int.injEq, V.str.injEq, V.ref.injEq, V.bl.injEq, exists_and_left, exists_eq_left, List.cons.injEq, and_true, true_and, tCallX, tRs, tNotT]
      refine ⟨!st.isEmpty, .inl ⟨_, SqL.of hl, by simp⟩, ?_⟩
      rw [Bool.not_not, he]
      exact q _ s0
  · simp only [cxOf_K, tAsg2, tYes, wipe, tSeq, tIfS, tNot, tB, tCB, tCons, tNil, tVar, tC, tTest, tOp, tAnd, tOr, tAsg, gName, tRet, tRetN, tDrop, tNext, tIf, tCall, tTup, tLst, tNotV, tAndV, tOrV, tUn, rI0, rI, rU, rEq, rNe, tM1, tM0, tBM, tBM0, tSl, tPart, tNoPart, iStr, iEnumS, iRng1, iRng2, iList, gSub, tBits, tAug, tPar, L2.start, List.map_cons, List.map_nil, List.length_cons, List.length_nil, List.getElem?_cons_zero, List.getElem?_cons_succ, List.cons_append, List.nil_append, List.append_nil, List.set_cons_zero, List.set_cons_succ, List.replicate_succ, List.replicate_zero, Option.some.injEq, exists_eq_left', V.int.injEq, V.str.injEq, V.ref.injEq, V.bl.injEq, exists_and_left, exists_eq_left, List.cons.injEq, and_true, true_and, tCallX, tRs]
    exact ⟨_, _, _, _, false, rfl, .ty _, ht, hk, _, rfl, q⟩

theorem lit_ne (c : Nat) : ("tree" : Str) ≠ S [c] := by
  intro h
  rw [lit_tree] at h
  have := S_inj h
  simp at this
theorem isT_tree : ∀ (t : Tr) (rest : List Nat) (st : List Str), isT (t.cs ++ rest) ("tree" :: st) = isT rest st
  | .leaf, rest, st => by
    show isT (46 :: rest) ("tree" :: st) = _
    refine isT_on (st := "tree" :: st) (wd := "tree") rfl rfl (fun h => ?_) (fun h => h.2 ⟨rfl, lit_dot.symm⟩)
    have := h.2
    rw [lit_open] at this
    have := S_inj this
    simp at this
  | .node l r, rest, st => by
    show isT (40 :: ((l.cs ++ (r.cs ++ [41])) ++ rest)) ("tree" :: st) = _
    rw [isT_open (st := "tree" :: st) (wd := "tree") (st' := st) rfl rfl ⟨rfl, lit_open.symm⟩, List.append_assoc, isT_tree l, List.append_assoc, isT_tree r]
    show isT (41 :: ([] ++ rest)) (")" :: st) = _
    rw [isT_on (st := ")" :: st) (wd := ")") (st' := st) rfl rfl]
    · rfl
    · intro h; exact absurd h.1 (by decide +kernel)
    · intro h; exact h.1 lit_close
theorem isT_text (t : Tr) : isT t.cs ["tree"] = true := by
  have := isT_tree t [] []
  rw [List.append_nil] at this
  rw [this]; rfl
theorem tr_len {t : Tr} (h : t.size ≤ 2000) : t.cs.length ≤ 6001 := by rw [Tr.cs_length, Tr.len_size]; omega
theorem ok_check_tree (T : Txt K mg) : FnOk P w K mg base (L2.CX P w) 3 T.a_check_tree T.fd_check_tree ["value"] (sp_check_tree T) := by
  refine T.F_check_tree.okX sc_check_tree (fun vs H Q E h => ?_) (fun cdv A outer s H vs Q E hr h => ?_)
  · obtain ⟨v, rfl, _⟩ := h; rfl
  obtain ⟨v, rfl, h⟩ := h
  refine ⟨_, (pss_one (ps_if (pt_not (pt_val (pe_call (ok_is_tree T) (hr.mono (by first | decide | omega)) (by rfl) T.m_is_tree T.F_is_tree.kp T.b_is_tree .nil pass0 (pa_cons (pv 0) pa_nil)))) (pss_one (ps_raise rfl (takes_of rfl rfl rfl rfl) (pmk_err T.o_InvalidTree (hr.mono (by first | decide | omega)) (by rfl) (pv 0)))) pss_nil)), ?_⟩
  simp only [cxOf_K, tAsg2, tYes, wipe, tSeq, tIfS, tNot, tB, tCB, tCons, tNil, tVar, tC, tTest, tOp, tAnd, tOr, tAsg, gName, tRet, tRetN, tDrop, tNext, tIf, tCall, tTup, tLst, tNotV, tAndV, tOrV, tUn, rI0, rI, rU, rEq, rNe, tM1, tM0, tBM, tBM0, tSl, tPart, tNoPart, iStr, iEnumS, iRng1, iRng2, iList, gSub, tBits, tAug, tPar, L2.start, List.map_cons, List.map_nil, List.length_cons, List.length_nil, List.getElem?_cons_zero, List.getElem?_cons_succ, List.cons_append, List.nil_append, List.append_nil, List.set_cons_zero, List.set_cons_succ, List.replicate_succ, List.replicate_zero, Option.some.injEq, exists_eq_left', V.int.injEq, V.str.injEq, V.ref.injEq, V.bl.injEq, exists_and_left, exists_eq_left, List.cons.injEq, and_true, true_and, tCallX, tRs]
  rcases h with ⟨t, rfl, ht, q⟩ | ⟨nt, out⟩
  · refine ⟨_, rfl, .inl ⟨_, rfl, by rw [S_len]; have := tr_len ht; omega, fun H' s0 => ?_⟩⟩
    refine ⟨true, by rw [← isT_text t], ?_⟩
    exact iteF (q _ s0)
  · rcases nt with ⟨x, rfl, hx, e⟩ | ns
    · refine ⟨_, rfl, .inl ⟨x, rfl, hx, fun H' s0 => ⟨false, by rw [e], ?_⟩⟩⟩
      rw [if_pos (show (!false) = true from rfl)]
      exact fun d H2 s2 n e2 => out d H2 (s0.trans s2) (s0.free n) e2
    · refine ⟨v, rfl, .inr ⟨ns, false, rfl, ?_⟩⟩
      rw [if_pos (show (!false) = true from rfl)]
      exact out

theorem isA_count : ∀ a : List Nat, a.count 108 + a.count 114 ≤ a.length ∧ (isA a = true ↔ a.count 108 + a.count 114 = a.length)
  | [] => ⟨Nat.le_refl _, by simp [isA]⟩
  | c :: a => by
    obtain ⟨h1, h2⟩ := isA_count a
    have e : isA (c :: a) = ((c == 108 || c == 114) && isA a) := rfl
    rw [e, List.count_cons, List.count_cons, List.length_cons]
    by_cases h : c = 108
    · subst h
      rw [show ((108 : Nat) == 108) = true from rfl, show ((108 : Nat) == 114) = false from rfl, Bool.true_or, Bool.true_and, h2]
      simp
      omega
    · by_cases h' : c = 114
      · subst h'
        rw [show ((114 : Nat) == 108) = false from rfl, show ((114 : Nat) == 114) = true from rfl, Bool.or_true, Bool.true_and, h2]
        simp
        omega
      · have e1 : (c == 108) = false := by simp [h]
        have e2 : (c == 114) = false := by simp [h']
        rw [e1, e2]
        simp
        omega
theorem isA_dec (a : List Nat) : decide (((a.count 108 : Nat) : Int) + ((a.count 114 : Nat) : Int) = ((a.length : Nat) : Int)) = isA a := by
  obtain ⟨_, h⟩ := isA_count a
  cases e : isA a with
  | true => exact decide_eq_true (by have := h.mp e; omega)
  | false => exact decide_eq_false (fun z => by rw [h.mpr (by omega)] at e; cases e)
theorem ok_is_address (T : Txt K mg) : FnOk P w K mg base CX0 1 T.a_is_address T.fd_is_address ["value"] (sp_is_address K) := by
  refine T.F_is_address.ok sc_is_address (fun vs H Q E h => ?_) (fun cdv A outer s H vs Q E hr h => ?_)
  · obtain ⟨v, rfl, _⟩ := h; rfl
  obtain ⟨v, rfl, h⟩ := h
  refine ⟨_, (pss_one (ps_ret (pe_and (pe_callB call_isi (by rfl) T.z_isinstance (by decide +kernel) (pa_cons (pv 0) (pa_cons (pe_bltn (v := .ty "str") (by rfl) T.z_str (by decide +kernel) rfl) pa_nil))) (pe_one (pe_cmpR op_eq (pe_op op_add (pe_m1 PySem.F.slot_str_count PySem.F.type_str_count mt_count (pv 0) pe_str) (pe_m1 PySem.F.slot_str_count PySem.F.type_str_count mt_count (pv 0) pe_str)) (pe_callB call_len_str (by rfl) T.z_len PySem.boot_len (pa_cons (pv 0) pa_nil)) (nomark _)))))), ?_⟩
  simp only [cxOf_K, tAsg2, tYes, wipe, tSeq, tIfS, tNot, tB, tCB, tCons, tNil, tVar, tC, tTest, tOp, tAnd, tOr, tAsg, gName, tRet, tRetN, tDrop, tNext, tIf, tCall, tTup, tLst, tNotV, tAndV, tOrV, tUn, rI0, rI, rU, rEq, rNe, tM1, tM0, tBM, tBM0, tSl, tPart, tNoPart, iStr, iEnumS, iRng1, iRng2, iList, gSub, tBits, tAug, tPar, L2.start, List.map_cons, List.map_nil, List.length_cons, List.length_nil, List.getElem?_cons_zero, List.getElem?_cons_succ, List.cons_append, List.nil_append, List.append_nil, List.set_cons_zero, List.set_cons_succ, List.replicate_succ, List.replicate_zero, Option.some.injEq, exists_eq_left', V.int.injEq, V.str.injEq, V.ref.injEq, V.bl.injEq, exists_and_left, exists_eq_left, List.cons.injEq, and_true, true_and, tCallX, tRs]
  rcases h with ⟨x, rfl, hx, q⟩ | ⟨⟨t, ht, hk⟩, q⟩
  · refine ⟨_, _, _, _, true, rfl, .ty _, .base (.str _), kit_ty (by decide +kernel), _, rfl, ?_⟩
    rw [if_pos rfl]
    have sl : (S x).length = x.length := S_len x
    refine ⟨⟨_, rfl⟩, S x, rfl, ⟨_, rfl⟩, S x, rfl, S x, rfl, small5 (by omega), rfl, ?_⟩
    rw [show Str.ofString "l" = S [108] by decide +kernel, show Str.ofString "r" = S [114] by decide +kernel, count_S, count_S, sl, isA_dec]
    exact q
  · refine ⟨_, _, _, _, false, rfl, .ty _, ht, hk, _, rfl, ?_⟩
    rw [if_neg Bool.false_ne_true]
    exact q

theorem ok_check_address (T : Txt K mg) : FnOk P w K mg base (L2.CX P w) 3 T.a_check_address T.fd_check_address ["value"] (sp_check_address T) := by
  refine T.F_check_address.okX sc_check_address (fun vs H Q E h => ?_) (fun cdv A outer s H vs Q E hr h => ?_)
  · obtain ⟨v, rfl, _⟩ := h; rfl
  obtain ⟨v, rfl, h⟩ := h
  refine ⟨_, (pss_one (ps_if (pt_not (pt_val (pe_call (ok_is_address T) (hr.mono (by first | decide | omega)) (by rfl) T.m_is_address T.F_is_address.kp T.b_is_address .nil pass0 (pa_cons (pv 0) pa_nil)))) (pss_one (ps_raise rfl (takes_of rfl rfl rfl rfl) (pmk_err T.o_InvalidAddress (hr.mono (by first | decide | omega)) (by rfl) (pv 0)))) pss_nil)), ?_⟩
  simp only [cxOf_K, tAsg2, tYes, wipe, tSeq, tIfS, tNot, tB, tCB, tCons, tNil, tVar, tC, tTest, tOp, tAnd, tOr, tAsg, gName, tRet, tRetN, tDrop, tNext, tIf, tCall, tTup, tLst, tNotV, tAndV, tOrV, tUn, rI0, rI, rU, rEq, rNe, tM1, tM0, tBM, tBM0, tSl, tPart, tNoPart, iStr, iEnumS, iRng1, iRng2, iList, gSub, tBits, tAug, tPar, L2.start, List.map_cons, List.map_nil, List.length_cons, List.length_nil, List.getElem?_cons_zero, List.getElem?_cons_succ, List.cons_append, List.nil_append, List.append_nil, List.set_cons_zero, List.set_cons_succ, List.replicate_succ, List.replicate_zero, Option.some.injEq, exists_eq_left', V.int.injEq, V.str.injEq, V.ref.injEq, V.bl.injEq, exists_and_left, exists_eq_left, List.cons.injEq, and_true, true_and, tCallX, tRs]
  rcases h with ⟨a, rfl, ha, hi, q⟩ | ⟨na, out⟩
  · refine ⟨_, rfl, .inl ⟨a, rfl, by omega, true, by rw [hi], ?_⟩⟩
    rw [if_neg (by decide)]
    exact q
  · rcases na with ⟨a, rfl, ha, hi⟩ | ns
    · refine ⟨_, rfl, .inl ⟨a, rfl, ha, false, by rw [hi], ?_⟩⟩
      rw [if_pos (by decide)]
      exact out
    · refine ⟨v, rfl, .inr ⟨ns, false, rfl, ?_⟩⟩
      rw [if_pos (by decide)]
      exact out

abbrev nV (n : Nat) : V := .int (n : Nat)
theorem ok_ends (T : Txt K mg) : FnOk P w K mg base CX0 1 T.a_ends T.fd_ends ["tree"] (sp_ends K) := by
  refine T.F_ends.ok sc_ends (fun vs H Q E h => ?_) (fun cdv A outer s H vs Q E hr h => ?_)
  · obtain ⟨t, rfl, _⟩ := h; rfl
  obtain ⟨t, rfl, ht, q⟩ := h
  have hcl := tr_len ht
  have hS : (S t.cs).length = t.len := by rw [S_len, Tr.cs_length]
  have hsz : (S t.cs).cps.size = t.len := hS
  have htl : t.len ≤ 6001 := by rw [← Tr.cs_length]; exact hcl
  refine ⟨_, (pss_cons (ps_set (i := 1) sc_ends.nd rfl (by first | exact Or.inl rfl | exact Or.inr rfl) (pe_op op_rep (pe_lst (pa_cons pe_int pa_nil)) (pe_callB call_len_str (by rfl) T.z_len PySem.boot_len (pa_cons (pv 0) pa_nil))))
    (pss_cons (ps_set (i := 2) sc_ends.nd rfl (by first | exact Or.inl rfl | exact Or.inr rfl) (pe_lst pa_nil))
    (pss_cons (ps_for PassesOwn.never rfl (pi_enumS (by rfl) T.z_enumerate (pa_cons (pv 0) pa_nil)) (pg_tup rfl (pgs_cons (pg_name (i := 3) sc_ends.nd rfl (by first | exact Or.inl rfl | exact Or.inr rfl)) (pgs_cons (pg_name (i := 4) sc_ends.nd rfl (by first | exact Or.inl rfl | exact Or.inr rfl)) pgs_nil))) (pss_one (ps_if (pt_cmpR op_eq (pv 4) pe_str (nomark _)) (pss_one (ps_expr (pe_bm PySem.F.plainAttrs_list PySem.F.slot_list_append PySem.F.type_list_append mt_append (pv 2) (pa_cons (pv 3) pa_nil)))) (pss_one (ps_if (pt_cmpR op_eq (pv 4) pe_str (nomark _)) (pss_one (ps_asg (pe_op op_add (pv 3) pe_int) (pg_sub (pv 1) (pe_bm0 PySem.F.plainAttrs_list PySem.F.slot_list_pop PySem.F.type_list_pop mt_pop (pv 2)) set_list))) (pss_one (ps_asg (pe_op op_add (pv 3) pe_int) (pg_sub (pv 1) (pv 3) set_list))))))))
    (pss_one (ps_ret (pv 1)))))), ?_⟩
  simp only [cxOf_K, tAsg2, tYes, wipe, tSeq, tIfS, tNot, tB, tCB, tCons, tNil, tVar, tC, tTest, tOp, tAnd, tOr, tAsg, gName, tRet, tRetN, tDrop, tNext, tIf, tCall, tTup, tLst, tNotV, tAndV, tOrV, tUn, rI0, rI, rU, rEq, rNe, tM1, tM0, tBM, tBM0, tSl, tPart, tNoPart, iStr, iEnumS, iRng1, iRng2, iList, gSub, tBits, tAug, tPar, L2.start, List.map_cons, List.map_nil, List.length_cons, List.length_nil, List.getElem?_cons_zero, List.getElem?_cons_succ, List.cons_append, List.nil_append, List.append_nil, List.set_cons_zero, List.set_cons_succ, List.replicate_succ, List.replicate_zero, Option.some.injEq, exists_eq_left', V.int.injEq, V.str.injEq, V.ref.injEq, V.bl.injEq, exists_and_left, exists_eq_left, List.cons.injEq, and_true, true_and, tCallX, tRs]
  refine ⟨by decide, fun z hz => ?_⟩
  refine ⟨by rw [hS]; exact small5 (by omega), z, _, [.int 0], rfl, rfl, upd_same, by omega, by rw [hS]; omega, by rw [hS]; simp; exact small5 (by omega), fun p hp => ?_⟩
  refine ⟨by decide, fun g hg => ?_⟩
  have npz : p ≠ z := fun e => by rw [e, upd_same] at hp; cases hp
  have hp0 : H p = none := by rw [upd_ne npz] at hp; exact hp
  have ngp : g ≠ p := fun e => by rw [e, upd_same] at hg; cases hg
  have hg0 : H g = none := by
    rw [upd_ne ngp] at hg
    by_cases e : g = z
    · rw [e]; exact hz
    · rw [upd_ne e] at hg; exact hg
  have hb : (List.replicate ((S t.cs).length : Int).toNat [V.int 0]).flatten = (List.replicate t.len 0).map nV := by
    rw [hS, Int.toNat_natCast]
    induction t.len with
    | zero => rfl
    | succ n ih => rw [List.replicate_succ, List.flatten_cons, ih, List.replicate_succ, List.map_cons]; rfl
  rw [hb]
  refine ⟨_, rfl, _, rfl, for_enumS (fun i σ H' => ∃ (b st : List Nat) (a3 a4 : Option V), σ = [some (trV t), some (.ref p), some (.ref g), a3, a4] ∧ Same H H' ∧ H' p = some (.lst (b.map nV)) ∧ H' g = some (.lst (st.reverse.map nV)) ∧
      endsRun (t.cs.drop i) i b st = some (Tr.ends 0 t) ∧ b.length = t.len ∧ st.length ≤ i) ⟨List.replicate t.len 0, [], none, none, rfl, (((L2.Same.refl H).new hz _).new hp0 _).new hg0 _, ?_, upd_same, ?_, ?_, ?_⟩ ?_ ?_⟩
  · rw [upd_ne ngp.symm, upd_same]
  · rw [List.drop_zero]; exact endsRun_text t
  · simp
  · simp
  · rintro i c σ H' d hc ⟨b, st, a3, a4, rfl, s0, h1, h2, he, hbl, hst⟩ hd
    have hi : i < t.len := by rw [← hsz]; exact (Array.getElem?_eq_some_iff.mp hc).1
    have hd' : t.cs.drop i = c :: t.cs.drop (i + 1) := by
      rw [List.drop_eq_getElem_cons (by rw [Tr.cs_length]; exact hi)]
      congr 1
      have := (Array.getElem?_eq_some_iff.mp hc).2
      simpa using this
    rw [hd'] at he
    have n1 : p ≠ d := ne_of_none h1 hd
    have n2 : g ≠ d := ne_of_none h2 hd
    have h1' : upd H' d (.tup [.int (i : Nat), .str ⟨#[c]⟩]) p = some (.lst (b.map nV)) := by rw [upd_ne n1]; exact h1
    have h2' : upd H' d (.tup [.int (i : Nat), .str ⟨#[c]⟩]) g = some (.lst (st.reverse.map nV)) := by rw [upd_ne n2]; exact h2
    refine ⟨d, _, rfl, SqT.of upd_same, rfl, _, _, rfl, _, _, rfl, rfl, ?_⟩
    have s1 := s0.new (s0.free hd) (.tup [.int (i : Nat), .str ⟨#[c]⟩])
    generalize upd H' d (.tup [.int (i : Nat), .str ⟨#[c]⟩]) = H' at h1' h2' s1 ⊢
    simp only [cxOf_K, tAsg2, tYes, wipe, tSeq, tIfS, tNot, tB, tCB, tCons, tNil, tVar, tC, tTest, tOp, tAnd, tOr, tAsg, gName, tRet, tRetN, tDrop, tNext, tIf, tCall, tTup, tLst, tNotV, tAndV, tOrV, tUn, rI0, rI, rU, rEq, rNe, tM1, tM0, tBM, tBM0, tSl, tPart, tNoPart, iStr, iEnumS, iRng1, iRng2, iList, gSub, tBits, tAug, tPar, L2.start, List.map_cons, List.map_nil, List.length_cons, List.length_nil, List.getElem?_cons_zero, List.getElem?_cons_succ, List.cons_append, List.nil_append, List.append_nil, List.set_cons_zero, List.set_cons_succ, List.replicate_succ, List.replicate_zero, Option.some.injEq, exists_eq_left', V.int.injEq, V.str.injEq, V.ref.injEq, V.bl.injEq, exists_and_left, exists_eq_left, List.cons.injEq, and_true, true_and, tCallX, tRs]
    refine ⟨rfl, ?_⟩
    rcases endsRun_step he with ⟨rfl, he'⟩ | ⟨rfl, o, st', rfl, ho, he'⟩ | ⟨c1, c2, hk, he'⟩
    · refine ifdT (sg_eq lit_open) ?_
      refine ⟨tyV_lst h2', g, _, _, rfl, rfl, h2', by simp; exact small5' (by omega), ?_⟩
      refine ⟨b, i :: st, _, _, ⟨rfl, rfl⟩, s1.new hg0 _, ?_, ?_, he', hbl, by simp; omega⟩
      · rw [upd_ne ngp.symm]; exact h1'
      · rw [upd_same]; simp
    · refine ifdF (sg_ne lit_open (by decide)) ?_
      refine ⟨rfl, ?_⟩
      refine ifdT (sg_eq lit_close) ?_
      refine ⟨tyV_lst h2', g, _, nV o, rfl, rfl, h2', by simp, ?_⟩
      have hdl : (List.map nV (o :: st').reverse).dropLast = st'.reverse.map nV := by simp
      rw [hdl]
      refine ⟨p, b.map nV, (o : Int), o, rfl, rfl, by rw [upd_ne ngp.symm]; exact h1', by rw [List.length_map]; exact ixN_nat ho, ?_⟩
      refine ⟨b.set o (i + 1), st', _, _, ⟨rfl, rfl⟩, (s1.new hg0 _).new hp0 _, ?_, ?_, he', by rw [List.length_set]; exact hbl, by simp at hst; omega⟩
      · rw [upd_same, List.map_set]; rfl
      · rw [upd_ne ngp, upd_same]
    · refine ifdF (sg_ne lit_open c1) ?_
      refine ⟨rfl, ?_⟩
      refine ifdF (sg_ne lit_close c2) ?_
      refine ⟨p, b.map nV, (i : Int), i, rfl, rfl, h1', by rw [List.length_map]; exact ixN_nat hk, ?_⟩
      refine ⟨b.set i (i + 1), st, _, _, ⟨rfl, rfl⟩, s1.new hp0 _, ?_, ?_, he', by rw [List.length_set]; exact hbl, by omega⟩
      · rw [upd_same, List.map_set]; rfl
      · rw [upd_ne ngp]; exact h2'
  · rintro σ H' ⟨b, st, a3, a4, rfl, s0, h1, h2, he, hbl, hst⟩
    rw [hsz, List.drop_eq_nil_of_le (by rw [Tr.cs_length]; exact Nat.le_refl _)] at he
    have he : (if st = [] then some b else none) = some (Tr.ends 0 t) := he
    simp only [cxOf_K, tAsg2, tYes, wipe, tSeq, tIfS, tNot, tB, tCB, tCons, tNil, tVar, tC, tTest, tOp, tAnd, tOr, tAsg, gName, tRet, tRetN, tDrop, tNext, tIf, tCall, tTup, tLst, tNotV, tAndV, tOrV, tUn, rI0, rI, rU, rEq, rNe, tM1, tM0, tBM, tBM0, tSl, tPart, tNoPart, iStr, iEnumS, iRng1, iRng2, iList, gSub, tBits, tAug, tPar, L2.start, List.map_cons, List.map_nil, List.length_cons, List.length_nil, List.getElem?_cons_zero, List.getElem?_cons_succ, List.cons_append, List.nil_append, List.append_nil, List.set_cons_zero, List.set_cons_succ, List.replicate_succ, List.replicate_zero, Option.some.injEq, exists_eq_left', V.int.injEq, V.str.injEq, V.ref.injEq, V.bl.injEq, exists_and_left, exists_eq_left, List.cons.injEq, and_true, true_and, tCallX, tRs]
    by_cases hs : st = []
    · rw [if_pos hs] at he
      have : b = Tr.ends 0 t := Option.some.inj he
      subst this
      exact q p H' hp0 s0 h1
    · rw [if_neg hs] at he; cases he

theorem tat_sub : ∀ (s : Tr) (T : Tr) (o : Nat) (a : List Nat) (r : Tr), Tr.Sub T o s → tat s a = some r → Tr.Sub T (o + offs s a) r
  | s, T, o, [], r, h, e => by
    have e' : tat s [] = some s := by cases s <;> rfl
    rw [e'] at e
    cases e
    have e2 : offs s [] = 0 := by cases s <;> rfl
    rw [e2]
    exact h
  | .leaf, T, o, c :: a, r, h, e => by cases e
  | .node l rr, T, o, c :: a, r, h, e => by
    have e1 : tat (.node l rr) (c :: a) = if c = 108 then tat l a else tat rr a := rfl
    have e2 : offs (.node l rr) (c :: a) = if c = 108 then 1 + offs l a else 1 + l.len + offs rr a := rfl
    rw [e1] at e
    rw [e2]
    by_cases hc : c = 108
    · rw [if_pos hc] at e ⊢
      have := tat_sub l T (o + 1) a r h.left e
      rw [← Nat.add_assoc]
      exact this
    · rw [if_neg hc] at e ⊢
      have := tat_sub rr T (o + 1 + l.len) a r h.right e
      rw [← Nat.add_assoc, ← Nat.add_assoc]
      exact this
theorem tat_nil (t : Tr) : tat t [] = some t := by cases t <;> rfl
theorem offs_nil (t : Tr) : offs t [] = 0 := by cases t <;> rfl
theorem Sub.sign {T s : Tr} {o : Nat} (h : Tr.Sub T o s) : T.cs[o]? = some (s.cs.headD 0) := by
  obtain ⟨A, B, e, hl⟩ := h.cut
  rw [e, ← hl, List.getElem?_append_right (Nat.le_refl _), Nat.sub_self]
  cases s <;> rfl
theorem ok_stretch (T : Txt K mg) : FnOk P w K mg base CX0 3 T.a_stretch T.fd_stretch ["tree", "address"] (sp_stretch K) := by
  refine T.F_stretch.ok sc_stretch (fun vs H Q E h => ?_) (fun cdv A outer s H vs Q E hr h => ?_)
  · obtain ⟨t, a, rfl, _⟩ := h; rfl
  obtain ⟨t, a, rfl, ht, ha, qn, qs⟩ := h
  refine ⟨_, (pss_cons (ps_set (i := 2) sc_stretch.nd rfl (by first | exact Or.inl rfl | exact Or.inr rfl) (pe_call (ok_ends T) (hr.mono (by first | decide | omega)) (by rfl) T.m_ends T.F_ends.kp T.b_ends .nil pass0 (pa_cons (pv 0) pa_nil)))
    (pss_cons (ps_set (i := 3) sc_stretch.nd rfl (by first | exact Or.inl rfl | exact Or.inr rfl) pe_int)
    (pss_cons (ps_for PassesOwn.never rfl (pi_str (pv 1)) (pg_name (i := 4) sc_stretch.nd rfl (by first | exact Or.inl rfl | exact Or.inr rfl)) (pss_cons (ps_if (pt_cmpR op_eq (pe_ix ix_str (pv 0) (pv 3) (fun _ _ => rfl)) pe_str (nomark _)) (pss_one (ps_ret pe_non)) pss_nil)
    (pss_one (ps_set (i := 3) sc_stretch.nd rfl (by first | exact Or.inl rfl | exact Or.inr rfl) (pe_ifExp (pt_cmpR op_eq (pv 4) pe_str (nomark _)) (pe_op op_add (pv 3) pe_int) (pe_ix ix_list (pv 2) (pe_op op_add (pv 3) pe_int) (fun _ _ => rfl)))))))
    (pss_one (ps_ret (pe_tup (pa_cons (pv 3) (pa_cons (pe_ix ix_list (pv 2) (pv 3) (fun _ _ => rfl)) pa_nil)))))))), ?_⟩
  simp only [cxOf_K, tAsg2, tYes, wipe, tSeq, tIfS, tNot, tB, tCB, tCons, tNil, tVar, tC, tTest, tOp, tAnd, tOr, tAsg, gName, tRet, tRetN, tDrop, tNext, tIf, tCall, tTup, tLst, tNotV, tAndV, tOrV, tUn, rI0, rI, rU, rEq, rNe, tM1, tM0, tBM, tBM0, tSl, tPart, tNoPart, iStr, iEnumS, iRng1, iRng2, iList, gSub, tBits, tAug, tPar, L2.start, List.map_cons, List.map_nil, List.length_cons, List.length_nil, List.getElem?_cons_zero, List.getElem?_cons_succ, List.cons_append, List.nil_append, List.append_nil, List.set_cons_zero, List.set_cons_succ, List.replicate_succ, List.replicate_zero, Option.some.injEq, exists_eq_left', V.int.injEq, V.str.injEq, V.ref.injEq, V.bl.injEq, exists_and_left, exists_eq_left, List.cons.injEq, and_true, true_and, tCallX, tRs]
  have cl := tr_len ht
  have tl := Tr.cs_length t
  refine ⟨t, rfl, ht, fun p H1 np s1 hp => ?_⟩
  refine ⟨_, rfl, S a, rfl, for_str (fun i σ H' => H' = H1 ∧ ∃ (o : Nat) (r : Tr) (a4 : Option V), σ = [some (trV t), some (sV a), some (.ref p), some (.int (o : Nat)), a4] ∧ Tr.Sub t o r ∧ tat r (a.drop i) = tat t a ∧ (∀ z, tat r (a.drop i) = some z → o + offs r (a.drop i) = offs t a)) ⟨rfl, 0, t, none, rfl, .root, by rw [List.drop_zero], fun z hz => by rw [List.drop_zero, Nat.zero_add]⟩ ?_ ?_⟩
  · rintro i c σ H' hi ⟨rfl, o, r, a4, rfl, su, et, eo⟩
    have hil : i < (S a).length := (Array.getElem?_eq_some_iff.mp hi).1
    rw [S_len] at hil
    have hd : a[i]? = some c := by
      have := (Array.getElem?_eq_some_iff.mp hi).2
      rw [List.getElem?_eq_some_iff]
      exact ⟨hil, by simpa using this⟩
    have ed : a.drop i = c :: a.drop (i + 1) := by
      rw [List.drop_eq_getElem_cons hil]
      rw [(List.getElem?_eq_some_iff.mp hd).2]
    rw [ed] at et eo
    have so := Sub.sign su
    have sle := su.le
    simp only [cxOf_K, tAsg2, tYes, wipe, tSeq, tIfS, tNot, tB, tCB, tCons, tNil, tVar, tC, tTest, tOp, tAnd, tOr, tAsg, gName, tRet, tRetN, tDrop, tNext, tIf, tCall, tTup, tLst, tNotV, tAndV, tOrV, tUn, rI0, rI, rU, rEq, rNe, tM1, tM0, tBM, tBM0, tSl, tPart, tNoPart, iStr, iEnumS, iRng1, iRng2, iList, gSub, tBits, tAug, tPar, L2.start, List.map_cons, List.map_nil, List.length_cons, List.length_nil, List.getElem?_cons_zero, List.getElem?_cons_succ, List.cons_append, List.nil_append, List.append_nil, List.set_cons_zero, List.set_cons_succ, List.replicate_succ, List.replicate_zero, Option.some.injEq, exists_eq_left', V.int.injEq, V.str.injEq, V.ref.injEq, V.bl.injEq, exists_and_left, exists_eq_left, List.cons.injEq, and_true, true_and, tCallX, tRs]
    have sg : (({ cps := #[c] } : Str) = S [c]) := rfl
    rw [sg]
    have sc : (S t.cs).cps.toList = t.cs := by simp
    refine ⟨S t.cs, (o : Nat), r.cs.headD 0, rfl, rfl, small5 (by rw [S_len]; omega), by rw [sc]; exact atI_nat so, rfl, ?_⟩
    have si : ∀ x y : Nat, (S [x] = S [y]) ↔ x = y := fun x y => ⟨fun z => by have := S_inj z; simpa using this, fun z => by rw [z]⟩
    have sd : (({ cps := #[r.cs.headD 0] } : Str) = S [r.cs.headD 0]) := rfl
    rw [sd, lit_dot, show Str.ofString "l" = S [108] by decide +kernel]
    cases r with
    | leaf =>
      refine ifdT rfl ?_
      refine qn ?_ _ s1
      rw [← et]
      rfl
    | node l rr =>
      refine ifdF (fun z => ?_) ⟨rfl, ?_⟩
      · have := (si _ _).mp (V.str.inj z)
        have h40 : (Tr.node l rr).cs.headD 0 = 40 := rfl
        rw [h40] at this
        exact absurd this (by decide)
      have e1 : tat (.node l rr) (c :: a.drop (i + 1)) = if c = 108 then tat l (a.drop (i + 1)) else tat rr (a.drop (i + 1)) := rfl
      have e2 : offs (.node l rr) (c :: a.drop (i + 1)) = if c = 108 then 1 + offs l (a.drop (i + 1)) else 1 + l.len + offs rr (a.drop (i + 1)) := rfl
      rw [e1] at et
      rw [e1, e2] at eo
      by_cases hc : c = 108
      · rw [if_pos hc] at et
        rw [if_pos hc, if_pos hc] at eo
        refine ifdT ((si _ _).mpr hc) ⟨rfl, o + 1, l, _, ⟨by omega, rfl⟩, su.left, et, fun z hz => ?_⟩
        have := eo z hz
        omega
      · rw [if_neg hc] at et
        rw [if_neg hc, if_neg hc] at eo
        refine ifdF (fun z => hc ((si _ _).mp z)) ?_
        have he := su.left.end_get
        refine ⟨p, _, _, _, rfl, rfl, SqL.of hp, ?_, rfl, o + 1 + l.len, rr, _, ⟨rfl, rfl⟩, su.right, et, fun z hz => ?_⟩
        · rw [show (o : Int) + 1 = ((o + 1 : Nat) : Int) by omega]
          exact atI_nat (by rw [List.getElem?_map, he]; rfl)
        · have := eo z hz
          omega
  · rintro σ H' ⟨rfl, o, r, a4, rfl, su, et, eo⟩
    have e : a.drop (S a).cps.size = [] := List.drop_eq_nil_of_le (by simp)
    rw [e, tat_nil] at et
    rw [e, tat_nil, offs_nil] at eo
    have eo := eo r rfl
    simp only [cxOf_K, tAsg2, tYes, wipe, tSeq, tIfS, tNot, tB, tCB, tCons, tNil, tVar, tC, tTest, tOp, tAnd, tOr, tAsg, gName, tRet, tRetN, tDrop, tNext, tIf, tCall, tTup, tLst, tNotV, tAndV, tOrV, tUn, rI0, rI, rU, rEq, rNe, tM1, tM0, tBM, tBM0, tSl, tPart, tNoPart, iStr, iEnumS, iRng1, iRng2, iList, gSub, tBits, tAug, tPar, L2.start, List.map_cons, List.map_nil, List.length_cons, List.length_nil, List.getElem?_cons_zero, List.getElem?_cons_succ, List.cons_append, List.nil_append, List.append_nil, List.set_cons_zero, List.set_cons_succ, List.replicate_succ, List.replicate_zero, Option.some.injEq, exists_eq_left', V.int.injEq, V.str.injEq, V.ref.injEq, V.bl.injEq, exists_and_left, exists_eq_left, List.cons.injEq, and_true, true_and, tCallX, tRs]
    have he := su.end_get
    refine ⟨p, _, _, _, rfl, rfl, SqL.of hp, atI_nat (by rw [List.getElem?_map, he]; rfl), by decide, fun p2 np2 => ?_⟩
    refine qs r et.symm p2 _ (s1.free np2) (s1.new (s1.free np2) _) ?_
    rw [upd_same, ← eo]
    rfl

theorem ok_checked_stretch (T : Txt K mg) : FnOk P w K mg base (L2.CX P w) 6 T.a_checked_stretch T.fd_checked_stretch ["tree", "address"] (sp_checked_stretch T) := by
  refine T.F_checked_stretch.okX sc_checked_stretch (fun vs H Q E h => ?_) (fun cdv A outer s H vs Q E hr h => ?_)
  · obtain ⟨t, v, rfl, _⟩ := h; rfl
  obtain ⟨t, v, rfl, ht, h⟩ := h
  refine ⟨_, (pss_cons (ps_expr (pe_callX (ok_check_address T) (takes_of rfl rfl rfl rfl) (hr.mono (by first | decide | omega)) (by rfl) T.m_check_address T.F_check_address.kp T.b_check_address .nil (pa_cons (pv 1) pa_nil)))
    (pss_cons (ps_set (i := 2) sc_checked_stretch.nd rfl (by first | exact Or.inl rfl | exact Or.inr rfl) (pe_call (ok_stretch T) (hr.mono (by first | decide | omega)) (by rfl) T.m_stretch T.F_stretch.kp T.b_stretch .nil pass0 (pa_cons (pv 0) (pa_cons (pv 1) pa_nil))))
    (pss_cons (ps_if (pt_cmpR op_isN (pv 2) pe_non (nomark _)) (pss_one (ps_raise rfl (takes_of rfl rfl rfl rfl) (pmk_err T.o_InvalidAddress (hr.mono (by first | decide | omega)) (by rfl) (pv 1)))) pss_nil)
    (pss_one (ps_ret (pv 2)))))), ?_⟩
  simp only [cxOf_K, tAsg2, tYes, wipe, tSeq, tIfS, tNot, tB, tCB, tCons, tNil, tVar, tC, tTest, tOp, tAnd, tOr, tAsg, gName, tRet, tRetN, tDrop, tNext, tIf, tCall, tTup, tLst, tNotV, tAndV, tOrV, tUn, rI0, rI, rU, rEq, rNe, tM1, tM0, tBM, tBM0, tSl, tPart, tNoPart, iStr, iEnumS, iRng1, iRng2, iList, gSub, tBits, tAug, tPar, L2.start, List.map_cons, List.map_nil, List.length_cons, List.length_nil, List.getElem?_cons_zero, List.getElem?_cons_succ, List.cons_append, List.nil_append, List.append_nil, List.set_cons_zero, List.set_cons_succ, List.replicate_succ, List.replicate_zero, Option.some.injEq, exists_eq_left', V.int.injEq, V.str.injEq, V.ref.injEq, V.bl.injEq, exists_and_left, exists_eq_left, List.cons.injEq, and_true, true_and, tCallX, tRs]
  rcases h with ⟨a, s', rfl, ha, hi, e, q⟩ | ⟨na | ⟨a, rfl, ha, hi, e⟩, out⟩
  · refine ⟨_, rfl, .inl ⟨a, rfl, ha, hi, ?_⟩⟩
    refine ⟨t, a, rfl, ht, ha, fun z => (by rw [e] at z; cases z), fun s2 e2 p H1 np s1 hp => ?_⟩
    rw [e] at e2
    cases e2
    rw [if_neg (by simp)]
    exact q p H1 np s1 hp
  · exact ⟨v, rfl, .inr ⟨na, out⟩⟩
  · refine ⟨_, rfl, .inl ⟨a, rfl, ha, hi, ?_⟩⟩
    refine ⟨t, a, rfl, ht, ha, fun _ H1 s1 => ?_, fun s2 e2 => (by rw [e] at e2; cases e2)⟩
    show if decide (V.non = V.non) = true then _ else _
    rw [if_pos (by decide)]
    exact fun d H2 s2 n e2 => out d H2 (s1.trans s2) (s1.free n) e2

theorem tat_cut : ∀ (t : Tr) (a : List Nat) (s : Tr), tat t a = some s → ∃ A B, t.cs = A ++ (s.cs ++ B) ∧ A.length = offs t a ∧ ∀ x : Tr, (put t a x).cs = A ++ (x.cs ++ B)
  | t, [], s, e => by
    rw [tat_nil] at e
    cases e
    exact ⟨[], [], by simp, by rw [offs_nil]; rfl, fun x => by
      have : put t [] x = x := by cases t <;> rfl
      rw [this]; simp⟩
  | .leaf, c :: a, s, e => by cases e
  | .node l r, c :: a, s, e => by
    have e1 : tat (.node l r) (c :: a) = if c = 108 then tat l a else tat r a := rfl
    have e2 : offs (.node l r) (c :: a) = if c = 108 then 1 + offs l a else 1 + l.len + offs r a := rfl
    have e3 : ∀ x, put (.node l r) (c :: a) x = if c = 108 then .node (put l a x) r else .node l (put r a x) := fun _ => rfl
    rw [e1] at e
    rw [e2]
    by_cases hc : c = 108
    · rw [if_pos hc] at e ⊢
      obtain ⟨A, B, h1, h2, h3⟩ := tat_cut l a s e
      refine ⟨40 :: A, B ++ (r.cs ++ [41]), ?_, by simp [h2]; omega, fun x => ?_⟩
      · show 40 :: (l.cs ++ (r.cs ++ [41])) = _
        rw [h1]; simp
      · rw [e3, if_pos hc]
        show 40 :: ((put l a x).cs ++ (r.cs ++ [41])) = _
        rw [h3]; simp
    · rw [if_neg hc] at e ⊢
      obtain ⟨A, B, h1, h2, h3⟩ := tat_cut r a s e
      refine ⟨40 :: (l.cs ++ A), B ++ [41], ?_, by simp [h2, Tr.cs_length]; omega, fun x => ?_⟩
      · show 40 :: (l.cs ++ (r.cs ++ [41])) = _
        rw [h1]; simp
      · rw [e3, if_neg hc]
        show 40 :: (l.cs ++ ((put r a x).cs ++ [41])) = _
        rw [h3]; simp
theorem cutS_mid (cs : List Nat) (i j : Nat) (h : i ≤ j) (hj : j ≤ cs.length) : cutS (S cs) (some (i : Int)) (some (j : Int)) = S ((cs.drop i).take (j - i)) := by
  have e : (S cs).length = cs.length := S_len cs
  have e2 : (S cs).cps.toList = cs := by simp
  unfold cutS
  rw [e, e2, HT.sIx_nat, HT.sIx_nat, Nat.min_eq_left hj, Nat.min_eq_left (Nat.le_trans h hj)]
theorem cutS_head (cs : List Nat) (i : Nat) (h : i ≤ cs.length) : cutS (S cs) none (some (i : Int)) = S (cs.take i) := by
  have e : (S cs).length = cs.length := S_len cs
  have e2 : (S cs).cps.toList = cs := by simp
  unfold cutS
  rw [HT.sIx_none, e, e2, HT.sIx_nat, Nat.min_eq_left h, List.drop_zero, Nat.sub_zero]
theorem cutS_tail (cs : List Nat) (i : Nat) (h : i ≤ cs.length) : cutS (S cs) (some (i : Int)) none = S (cs.drop i) := by
  have e : (S cs).length = cs.length := S_len cs
  have e2 : (S cs).cps.toList = cs := by simp
  unfold cutS
  rw [HT.sIx_none, e, e2, HT.sIx_nat, Nat.min_eq_left h]
  refine congrArg S ?_
  exact List.take_of_length_le (by rw [List.length_drop]; omega)
theorem ok_part (T : Txt K mg) : FnOk P w K mg base (L2.CX P w) 8 T.a_part T.fd_part ["tree", "address"] (sp_part T) := by
  refine T.F_part.okX sc_part (fun vs H Q E h => ?_) (fun cdv A outer s H vs Q E hr h => ?_)
  · obtain ⟨u, v, rfl, _⟩ := h; rfl
  obtain ⟨u, v, rfl, h⟩ := h
  refine ⟨_, (pss_cons (ps_expr (pe_callX (ok_check_tree T) (takes_of rfl rfl rfl rfl) (hr.mono (by first | decide | omega)) (by rfl) T.m_check_tree T.F_check_tree.kp T.b_check_tree .nil (pa_cons (pv 0) pa_nil)))
    (pss_cons (ps_asg (pe_callX (ok_checked_stretch T) (takes_of rfl rfl rfl rfl) (hr.mono (by first | decide | omega)) (by rfl) T.m_checked_stretch T.F_checked_stretch.kp T.b_checked_stretch .nil (pa_cons (pv 0) (pa_cons (pv 1) pa_nil))) (pg_tup rfl (pgs_cons (pg_name (i := 2) sc_part.nd rfl (by first | exact Or.inl rfl | exact Or.inr rfl)) (pgs_cons (pg_name (i := 3) sc_part.nd rfl (by first | exact Or.inl rfl | exact Or.inr rfl)) pgs_nil))))
    (pss_one (ps_ret (pe_slice sl_str (pv 0) (po_some (pv 2)) (po_some (pv 3))))))), ?_⟩
  simp only [gCons, gNil, cxOf_K, tAsg2, tYes, wipe, tSeq, tIfS, tNot, tB, tCB, tCons, tNil, tVar, tC, tTest, tOp, tAnd, tOr, tAsg, gName, tRet, tRetN, tDrop, tNext, tIf, tCall, tTup, tLst, tNotV, tAndV, tOrV, tUn, rI0, rI, rU, rEq, rNe, tM1, tM0, tBM, tBM0, tSl, tPart, tNoPart, iStr, iEnumS, iRng1, iRng2, iList, gSub, tBits, tAug, tPar, L2.start, List.map_cons, List.map_nil, List.length_cons, List.length_nil, List.getElem?_cons_zero, List.getElem?_cons_succ, List.cons_append, List.nil_append, List.append_nil, List.set_cons_zero, List.set_cons_succ, List.replicate_succ, List.replicate_zero, Option.some.injEq, exists_eq_left', V.int.injEq, V.str.injEq, V.ref.injEq, V.bl.injEq, exists_and_left, exists_eq_left, List.cons.injEq, and_true, true_and, tCallX, tRs]
  rcases h with ⟨t, rfl, ht, h⟩ | ⟨nt, out⟩
  case inr => exact ⟨u, rfl, .inr ⟨nt, out⟩⟩
  refine ⟨_, rfl, .inl ⟨t, rfl, ht, fun H1 s1 => ?_⟩⟩
  rcases h with ⟨a, s', rfl, ha, hi, e, q⟩ | ⟨ba, out⟩
  · refine ⟨t, _, rfl, ht, .inl ⟨a, s', rfl, ha, hi, e, fun p H2 np s2 hp => ?_⟩⟩
    refine ⟨p, _, rfl, SqT.of hp, rfl, ?_⟩
    simp only [gCons, gNil, cxOf_K, tAsg2, tYes, wipe, tSeq, tIfS, tNot, tB, tCB, tCons, tNil, tVar, tC, tTest, tOp, tAnd, tOr, tAsg, gName, tRet, tRetN, tDrop, tNext, tIf, tCall, tTup, tLst, tNotV, tAndV, tOrV, tUn, rI0, rI, rU, rEq, rNe, tM1, tM0, tBM, tBM0, tSl, tPart, tNoPart, iStr, iEnumS, iRng1, iRng2, iList, gSub, tBits, tAug, tPar, L2.start, List.map_cons, List.map_nil, List.length_cons, List.length_nil, List.getElem?_cons_zero, List.getElem?_cons_succ, List.cons_append, List.nil_append, List.append_nil, List.set_cons_zero, List.set_cons_succ, List.replicate_succ, List.replicate_zero, Option.some.injEq, exists_eq_left', V.int.injEq, V.str.injEq, V.ref.injEq, V.bl.injEq, exists_and_left, exists_eq_left, List.cons.injEq, and_true, true_and, tCallX, tRs]
    obtain ⟨A, B, h1, h2, h3⟩ := tat_cut t a s' e
    have cl := tr_len ht
    have sl := Tr.cs_length s'
    have ll : t.cs.length = A.length + (s'.cs.length + B.length) := by rw [h1]; simp
    refine ⟨_, _, ⟨rfl, rfl⟩, _, _, rfl, rfl, _, rfl, _, rfl, ?_⟩
    refine ⟨S t.cs, rfl, small5 (by rw [S_len]; omega), ?_⟩
    rw [cutS_mid t.cs _ _ (by omega) (by omega)]
    have : (t.cs.drop (offs t a)).take (offs t a + s'.len - offs t a) = s'.cs := by
      rw [Nat.add_sub_cancel_left, h1, ← h2, List.drop_left, ← sl, List.take_left]
    rw [this]
    exact q _ (s1.trans s2)
  · refine ⟨t, v, rfl, ht, .inr ⟨?_, fun d H2 s2 n e2 => out d H2 (s1.trans s2) (s1.free n) e2⟩⟩
    exact ba.imp (fun z => z.imp id fun y => NotStr.same y s1) id

theorem ok_replaced (T : Txt K mg) : FnOk P w K mg base (L2.CX P w) 8 T.a_replaced T.fd_replaced ["tree", "address", "other"] (sp_replaced T) := by
  refine T.F_replaced.okX sc_replaced (fun vs H Q E h => ?_) (fun cdv A outer s H vs Q E hr h => ?_)
  · obtain ⟨u, v, x, rfl, _⟩ := h; rfl
  obtain ⟨u, v, x, rfl, h⟩ := h
  refine ⟨_, (pss_cons (ps_expr (pe_callX (ok_check_tree T) (takes_of rfl rfl rfl rfl) (hr.mono (by first | decide | omega)) (by rfl) T.m_check_tree T.F_check_tree.kp T.b_check_tree .nil (pa_cons (pv 0) pa_nil)))
    (pss_cons (ps_asg (pe_callX (ok_checked_stretch T) (takes_of rfl rfl rfl rfl) (hr.mono (by first | decide | omega)) (by rfl) T.m_checked_stretch T.F_checked_stretch.kp T.b_checked_stretch .nil (pa_cons (pv 0) (pa_cons (pv 1) pa_nil))) (pg_tup rfl (pgs_cons (pg_name (i := 3) sc_replaced.nd rfl (by first | exact Or.inl rfl | exact Or.inr rfl)) (pgs_cons (pg_name (i := 4) sc_replaced.nd rfl (by first | exact Or.inl rfl | exact Or.inr rfl)) pgs_nil))))
    (pss_cons (ps_expr (pe_callX (ok_check_tree T) (takes_of rfl rfl rfl rfl) (hr.mono (by first | decide | omega)) (by rfl) T.m_check_tree T.F_check_tree.kp T.b_check_tree .nil (pa_cons (pv 2) pa_nil)))
    (pss_one (ps_ret (pe_op op_add_str (pe_op op_add_str (pe_slice sl_str (pv 0) po_none (po_some (pv 3))) (pv 2)) (pe_slice sl_str (pv 0) (po_some (pv 4)) po_none))))))), ?_⟩
  simp only [gCons, gNil, cxOf_K, tAsg2, tYes, wipe, tSeq, tIfS, tNot, tB, tCB, tCons, tNil, tVar, tC, tTest, tOp, tAnd, tOr, tAsg, gName, tRet, tRetN, tDrop, tNext, tIf, tCall, tTup, tLst, tNotV, tAndV, tOrV, tUn, rI0, rI, rU, rEq, rNe, tM1, tM0, tBM, tBM0, tSl, tPart, tNoPart, iStr, iEnumS, iRng1, iRng2, iList, gSub, tBits, tAug, tPar, L2.start, List.map_cons, List.map_nil, List.length_cons, List.length_nil, List.getElem?_cons_zero, List.getElem?_cons_succ, List.cons_append, List.nil_append, List.append_nil, List.set_cons_zero, List.set_cons_succ, List.replicate_succ, List.replicate_zero, Option.some.injEq, exists_eq_left', V.int.injEq, V.str.injEq, V.ref.injEq, V.bl.injEq, exists_and_left, exists_eq_left, List.cons.injEq, and_true, true_and, tCallX, tRs]
  rcases h with ⟨t, rfl, ht, h⟩ | ⟨nt, out⟩
  case inr => exact ⟨u, rfl, .inr ⟨nt, out⟩⟩
  refine ⟨_, rfl, .inl ⟨t, rfl, ht, fun H1 s1 => ?_⟩⟩
  rcases h with ⟨a, s', rfl, ha, hi, e, h⟩ | ⟨ba, out⟩
  · refine ⟨t, _, rfl, ht, .inl ⟨a, s', rfl, ha, hi, e, fun p H2 np s2 hp => ?_⟩⟩
    refine ⟨p, _, rfl, SqT.of hp, rfl, ?_⟩
    simp only [gCons, gNil, cxOf_K, tAsg2, tYes, wipe, tSeq, tIfS, tNot, tB, tCB, tCons, tNil, tVar, tC, tTest, tOp, tAnd, tOr, tAsg, gName, tRet, tRetN, tDrop, tNext, tIf, tCall, tTup, tLst, tNotV, tAndV, tOrV, tUn, rI0, rI, rU, rEq, rNe, tM1, tM0, tBM, tBM0, tSl, tPart, tNoPart, iStr, iEnumS, iRng1, iRng2, iList, gSub, tBits, tAug, tPar, L2.start, List.map_cons, List.map_nil, List.length_cons, List.length_nil, List.getElem?_cons_zero, List.getElem?_cons_succ, List.cons_append, List.nil_append, List.append_nil, List.set_cons_zero, List.set_cons_succ, List.replicate_succ, List.replicate_zero, Option.some.injEq, exists_eq_left', V.int.injEq, V.str.injEq, V.ref.injEq, V.bl.injEq, exists_and_left, exists_eq_left, List.cons.injEq, and_true, true_and, tCallX, tRs]
    refine ⟨_, _, ⟨rfl, rfl⟩, _, _, rfl, rfl, ?_⟩
    have s12 := s1.trans s2
    rcases h with ⟨z, rfl, hz, q⟩ | ⟨nt, out⟩
    case inr => exact ⟨x, rfl, .inr ⟨nt.same s12, fun d H3 s3 n e2 => out d H3 (s12.trans s3) (s12.free n) e2⟩⟩
    refine ⟨_, rfl, .inl ⟨z, rfl, hz, fun H3 s3 => ?_⟩⟩
    obtain ⟨A, B, h1, h2, h3⟩ := tat_cut t a s' e
    have cl := tr_len ht
    have cz := tr_len hz
    have sl := Tr.cs_length s'
    have ll : t.cs.length = A.length + (s'.cs.length + B.length) := by rw [h1]; simp
    have e1 : t.cs.take (offs t a) = A := by rw [h1, ← h2, List.take_left]
    have e2 : t.cs.drop (offs t a + s'.len) = B := by
      rw [h1, ← h2, ← sl, ← List.append_assoc, ← List.length_append, List.drop_left]
    refine ⟨_, rfl, S t.cs, rfl, small5 (by rw [S_len]; omega), ?_⟩
    rw [cutS_head t.cs _ (by omega), e1]
    refine ⟨S A, rfl, S z.cs, rfl, small5 (by rw [S_len, S_len]; omega), ?_⟩
    refine ⟨_, rfl, S t.cs, rfl, small5 (by rw [S_len]; omega), ?_⟩
    rw [cutS_tail t.cs _ (by omega), e2]
    refine ⟨S B, rfl, ?_, ?_⟩
    · rw [S_app A z.cs, S_len, S_len, List.length_append]
      exact small5 (by omega)
    · rw [S_app A z.cs, S_app (A ++ z.cs) B]
      have : S (A ++ z.cs ++ B) = S (put t a z).cs := by rw [h3, List.append_assoc]
      rw [this]
      exact q _ (s12.trans s3)
  · refine ⟨t, v, rfl, ht, .inr ⟨?_, fun d H2 s2 n e2 => out d H2 (s1.trans s2) (s1.free n) e2⟩⟩
    exact ba.imp (fun z => z.imp id fun y => NotStr.same y s1) id

theorem Tups.same {H H' : Hp} (s : Same H H') : ∀ {vs : List V} {xs : List (List Nat × Nat)}, Tups H vs xs → Tups H' vs xs
  | _, _, .nil => .nil
  | _, _, .cons a b => .cons (s _ _ a) (Tups.same s b)
theorem Tups.keep {H H' : Hp} {g : Addr} {ws : List V} (s : Keep g H H') (hg : H g = some (.lst ws)) : ∀ {vs : List V} {xs : List (List Nat × Nat)}, Tups H vs xs → Tups H' vs xs
  | _, _, .nil => .nil
  | _, _, .cons a b => .cons (s _ _ (ne_of a hg fun z => by cases z) a) (Tups.keep s hg b)
theorem Tups.append {H : Hp} : ∀ {vs : List V} {xs : List (List Nat × Nat)} {us : List V} {ys : List (List Nat × Nat)}, Tups H vs xs → Tups H us ys → Tups H (vs ++ us) (xs ++ ys)
  | _, _, _, _, .nil, b => b
  | _, _, _, _, .cons a c, b => .cons a (Tups.append c b)
theorem Tups.length {H : Hp} : ∀ {vs : List V} {xs : List (List Nat × Nat)}, Tups H vs xs → vs.length = xs.length
  | _, _, .nil => rfl
  | _, _, .cons _ b => congrArg Nat.succ (Tups.length b)
theorem Tups.get {H : Hp} : ∀ {vs : List V} {xs : List (List Nat × Nat)} {i : Nat} {v : V}, Tups H vs xs → vs[i]? = some v → ∃ p x, v = .ref p ∧ xs[i]? = some x ∧ H p = some (.tup [sV x.1, sV [x.2]])
  | _, _, 0, _, .cons a _, h => by
    cases h
    exact ⟨_, _, rfl, rfl, a⟩
  | _, _, i + 1, _, .cons _ b, h => Tups.get (i := i) b h
/-- the walk through the text, the stack's top first -/
def walkA : List Nat → List (List Nat) → List (List Nat × Nat)
  | [], _ => []
  | _ :: _, [] => []
  | c :: cs, a :: st => (a, c) :: walkA cs (if c = 40 then (a ++ [108]) :: (a ++ [114]) :: st else st)
theorem walkA_tree : ∀ (t : Tr) (rest : List Nat) (a : List Nat) (st : List (List Nat)), walkA (t.ps ++ rest) (a :: st) = t.adrs a ++ walkA rest st
  | .leaf, rest, a, st => rfl
  | .node l r, rest, a, st => by
    show (a, 40) :: walkA ((l.ps ++ r.ps) ++ rest) ((a ++ [108]) :: (a ++ [114]) :: st) = _
    rw [List.append_assoc, walkA_tree l, walkA_tree r, ← List.append_assoc]
    rfl
theorem replace_ps (t : Tr) : Txt.replace (S t.cs) (Str.ofString ")") (Str.ofString "") = S t.ps := by
  have h := PyProof.Rows.replace_strikes (S t.cs) 41
  rw [S_of (Txt.replace (S t.cs) (Str.ofString ")") (Str.ofString ""))]
  refine congrArg S ?_
  refine (show _ = ((Txt.replace (S t.cs) ⟨#[41]⟩ ⟨#[]⟩)).cps.toList from rfl).trans (h.trans ?_)
  rw [← Tr.ps_filter t]
theorem ok_addressed (T : Txt K mg) : FnOk P w K mg base CX0 4 T.a_addressed T.fd_addressed ["tree"] (sp_addressed K) := by
  refine T.F_addressed.ok sc_addressed (fun vs H Q E h => ?_) (fun cdv A outer s H vs Q E hr h => ?_)
  · obtain ⟨t, rfl, _⟩ := h; rfl
  obtain ⟨t, rfl, ht, q⟩ := h
  refine ⟨_, (pss_cons (ps_set (i := 1) sc_addressed.nd rfl (by first | exact Or.inl rfl | exact Or.inr rfl) (pe_lst pa_nil)) (TV.pss_lstT (i := 2) sc_addressed.nd rfl (by first | exact Or.inl rfl | exact Or.inr rfl) (psst_cons (pst_for PassesOwn.never rfl (TV.pit_str (pet_replC (pv 0))) (pg_name (i := 3) sc_addressed.nd rfl (by first | exact Or.inl rfl | exact Or.inr rfl)) (pss_cons (ps_set (i := 4) sc_addressed.nd rfl (by first | exact Or.inl rfl | exact Or.inr rfl) (pe_bm0 PySem.F.plainAttrs_list PySem.F.slot_list_pop PySem.F.type_list_pop mt_pop (pv 2)))
    (pss_cons (ps_expr (pe_bm PySem.F.plainAttrs_list PySem.F.slot_list_append PySem.F.type_list_append mt_append (pv 1) (pa_cons (pe_tup (pa_cons (pv 4) (pa_cons (pv 3) pa_nil))) pa_nil)))
    (pss_one (ps_if (pt_cmpR op_eq (pv 3) pe_str (nomark _)) (pss_one (ps_expr (pe_bm PySem.F.plainAttrs_list PySem.F.slot_list_extend PySem.F.type_list_extend mt_extend (pv 2) (pa_cons (pe_lst (pa_cons (pe_op op_add_str (pv 4) pe_str) (pa_cons (pe_op op_add_str (pv 4) pe_str) pa_nil))) pa_nil)))) pss_nil))))) (PSsT.of (pss_one (ps_ret (pv 1))))))), ?_⟩
  simp only [cxOf_K, tAsg2, tYes, wipe, tSeq, tIfS, tNot, tB, tCB, tCons, tNil, tVar, tC, tTest, tOp, tAnd, tOr, tAsg, gName, tRet, tRetN, tDrop, tNext, tIf, tCall, tTup, tLst, tNotV, tAndV, tOrV, tUn, rI0, rI, rU, rEq, rNe, tM1, tM0, tBM, tBM0, tSl, tPart, tNoPart, iStr, iEnumS, iRng1, iRng2, iList, gSub, tBits, tAug, tPar, L2.start, List.map_cons, List.map_nil, List.length_cons, List.length_nil, List.getElem?_cons_zero, List.getElem?_cons_succ, List.cons_append, List.nil_append, List.append_nil, List.set_cons_zero, List.set_cons_succ, List.replicate_succ, List.replicate_zero, Option.some.injEq, exists_eq_left', V.int.injEq, V.str.injEq, V.ref.injEq, V.bl.injEq, exists_and_left, exists_eq_left, List.cons.injEq, and_true, true_and, tCallX, tRs]
  have tl := Tr.ps_length t
  have cl := tr_len ht
  refine ⟨Nat.zero_le _, fun p np => ?_⟩
  have s1 := (L2.Same.refl H).new np (.lst [])
  have hp : upd H p (.lst []) p = some _ := upd_same
  generalize upd H p (.lst []) = H1 at s1 hp ⊢
  refine ⟨by decide, fun p1 np1 => ?_⟩
  have hpp1 : p ≠ p1 := ne_of_none hp np1
  have np1' := s1.free np1
  have s2 := s1.new np1' (.lst [V.str (Str.ofString "")])
  have hp2 : upd H1 p1 (.lst [V.str (Str.ofString "")]) p = some (.lst []) := by rw [upd_ne hpp1]; exact hp
  have hp1 : upd H1 p1 (.lst [V.str (Str.ofString "")]) p1 = some (.lst (([[]] : List (List Nat)).reverse.map sV)) := upd_same
  generalize upd H1 p1 (.lst [V.str (Str.ofString "")]) = H2 at s2 hp2 hp1 ⊢
  refine ⟨_, rfl, S t.cs, rfl, ?_, S t.ps, by rw [replace_ps], for_str (fun i σ H' => ∃ st ws fs a3 a4, σ = [some (trV t), some (.ref p), some (.ref p1), a3, a4] ∧ Same H H' ∧ H' p = some (.lst ws) ∧ Tups H' ws fs ∧ H' p1 = some (.lst ((st : List (List Nat)).reverse.map sV)) ∧
    fs ++ walkA (t.ps.drop i) st = t.adrs [] ∧ fs.length = i ∧ st.length ≤ 1 + i ∧ ∀ a ∈ st, a.length ≤ i) ?_ ?_ ?_⟩
  · have e0 : (Str.ofString "").length = 0 := rfl
    rw [e0, S_len]
    omega
  · refine ⟨[[]], [], [], none, none, rfl, s2, hp2, .nil, hp1, ?_, rfl, by decide, fun a ha => by rw [List.mem_singleton.mp ha]; exact Nat.le_refl _⟩
    have := walkA_tree t [] [] []
    rw [List.append_nil] at this
    rw [List.nil_append, List.drop_zero, this]
    simp [walkA]
  · rintro i d σ H' hi ⟨st, ws, fs, a3, a4, rfl, s0, h1, tu, h2, ew, el, es, ea⟩
    have hil : i < (S t.ps).length := (Array.getElem?_eq_some_iff.mp hi).1
    rw [S_len] at hil
    have hd : t.ps[i]? = some d := by
      have := (Array.getElem?_eq_some_iff.mp hi).2
      rw [List.getElem?_eq_some_iff]
      exact ⟨hil, by simpa using this⟩
    have ed : t.ps.drop i = d :: t.ps.drop (i + 1) := by
      rw [List.drop_eq_getElem_cons hil]
      rw [(List.getElem?_eq_some_iff.mp hd).2]
    rw [ed] at ew
    have wl := tu.length
    obtain ⟨a, st, rfl⟩ : ∃ a st', st = a :: st' := by
      cases st with
      | nil =>
        have := congrArg List.length ew
        rw [Tr.adrs_length] at this
        simp [walkA] at this
        omega
      | cons a st => exact ⟨a, st, rfl⟩
    have ha := ea a (List.mem_cons_self ..)
    simp only [cxOf_K, tAsg2, tYes, wipe, tSeq, tIfS, tNot, tB, tCB, tCons, tNil, tVar, tC, tTest, tOp, tAnd, tOr, tAsg, gName, tRet, tRetN, tDrop, tNext, tIf, tCall, tTup, tLst, tNotV, tAndV, tOrV, tUn, rI0, rI, rU, rEq, rNe, tM1, tM0, tBM, tBM0, tSl, tPart, tNoPart, iStr, iEnumS, iRng1, iRng2, iList, gSub, tBits, tAug, tPar, L2.start, List.map_cons, List.map_nil, List.length_cons, List.length_nil, List.getElem?_cons_zero, List.getElem?_cons_succ, List.cons_append, List.nil_append, List.append_nil, List.set_cons_zero, List.set_cons_succ, List.replicate_succ, List.replicate_zero, Option.some.injEq, exists_eq_left', V.int.injEq, V.str.injEq, V.ref.injEq, V.bl.injEq, exists_and_left, exists_eq_left, List.cons.injEq, and_true, true_and, tCallX, tRs]
    have sg : (({ cps := #[d] } : Str) = S [d]) := rfl
    rw [sg]
    refine ⟨tyV_lst h2, p1, _, sV a, rfl, rfl, h2, by simp, ?_⟩
    have s3 := s0.new np1' (.lst ((List.map sV (a :: st).reverse).dropLast))
    have k3 : Keep p1 H' (upd H' p1 (.lst ((List.map sV (a :: st).reverse).dropLast))) := fun b o nb hb => by rw [upd_ne nb]; exact hb
    have h23 : upd H' p1 (.lst ((List.map sV (a :: st).reverse).dropLast)) p1 = some (.lst (st.reverse.map sV)) := by
      rw [upd_same]; simp
    have h13 := k3 _ _ hpp1 h1
    have tu := tu.keep k3 h2
    generalize upd H' p1 (.lst ((List.map sV (a :: st).reverse).dropLast)) = H3 at s3 h23 h13 tu ⊢
    clear k3 h1 h2
    refine ⟨tyV_lst h13, by decide, fun q1 nq1 => ?_⟩
    have s4 := s3.new (s3.free nq1) (.tup [sV a, sV [d]])
    have h14 : upd H3 q1 (.tup [sV a, sV [d]]) p = _ := (upd_ne (ne_of_none h13 nq1)).trans h13
    have h24 : upd H3 q1 (.tup [sV a, sV [d]]) p1 = _ := (upd_ne (ne_of_none h23 nq1)).trans h23
    have tq : upd H3 q1 (.tup [sV a, sV [d]]) q1 = some _ := upd_same
    have tu := (tu.same ((L2.Same.refl H3).new nq1 (.tup [sV a, sV [d]]))).append (.cons (x := (a, d)) tq .nil)
    generalize upd H3 q1 (.tup [sV a, sV [d]]) = H4 at s4 h14 h24 tu ⊢
    refine ⟨p, _, _, rfl, rfl, h14, small5' (by omega), ?_⟩
    have s5 := s4.new np (.lst (ws ++ [V.ref q1]))
    have k5 : Keep p H4 (upd H4 p (.lst (ws ++ [V.ref q1]))) := fun b o nb hb => by rw [upd_ne nb]; exact hb
    have h25 := k5 _ _ hpp1.symm h24
    have h15 : upd H4 p (.lst (ws ++ [V.ref q1])) p = some _ := upd_same
    have tu := tu.keep k5 h14
    generalize upd H4 p (.lst (ws ++ [V.ref q1])) = H5 at s5 h25 h15 tu ⊢
    clear k5 s4 h14 h24 tq h13 h23 s3
    have ew' : fs ++ [(a, d)] ++ walkA (t.ps.drop (i + 1)) (if d = 40 then (a ++ [108]) :: (a ++ [114]) :: st else st) = t.adrs [] := by
      rw [← ew, List.append_assoc]
      rfl
    refine ⟨rfl, ?_⟩
    rw [lit_open]
    by_cases h40 : d = 40
    · rw [if_pos (decide_eq_true (by rw [h40]))]
      have ll : (Str.ofString "l").length = 1 := rfl
      have lr : (Str.ofString "r").length = 1 := rfl
      have al : (S a).length = a.length := S_len a
      refine ⟨tyV_lst h25, S a, rfl, small5 (by rw [al, lr]; omega), S a, rfl, small5 (by rw [al, ll]; omega), by decide, fun q2 nq2 => ?_⟩
      rw [show Str.ofString "l" = S [108] by decide +kernel, show Str.ofString "r" = S [114] by decide +kernel, S_app, S_app]
      have s6 := s5.new (s5.free nq2) (.lst [sV (a ++ [114]), sV (a ++ [108])])
      have h16 : upd H5 q2 (.lst [sV (a ++ [114]), sV (a ++ [108])]) p = _ := (upd_ne (ne_of_none h15 nq2)).trans h15
      have h26 : upd H5 q2 (.lst [sV (a ++ [114]), sV (a ++ [108])]) p1 = _ := (upd_ne (ne_of_none h25 nq2)).trans h25
      have tq : upd H5 q2 (.lst [sV (a ++ [114]), sV (a ++ [108])]) q2 = some _ := upd_same
      have tu := tu.same ((L2.Same.refl H5).new nq2 (.lst [sV (a ++ [114]), sV (a ++ [108])]))
      generalize upd H5 q2 (.lst [sV (a ++ [114]), sV (a ++ [108])]) = H6 at s6 h16 h26 tq tu ⊢
      refine ⟨p1, q2, _, _, rfl, rfl, h26, tq, ?_, ?_⟩
      · simp only [List.length_map, List.length_reverse, List.length_cons, List.length_nil] at es ⊢
        exact small5 (by omega)
      have k7 : Keep p1 H6 (upd H6 p1 (.lst (st.reverse.map sV ++ [sV (a ++ [114]), sV (a ++ [108])]))) := fun b o nb hb => by rw [upd_ne nb]; exact hb
      refine ⟨(a ++ [108]) :: (a ++ [114]) :: st, _, fs ++ [(a, d)], _, _, ⟨rfl, rfl⟩, s6.new np1' _, k7 _ _ hpp1 h16, tu.keep k7 h26, ?_, ?_, by simp [el], ?_, ?_⟩
      · rw [upd_same]; simp
      · rw [if_pos h40] at ew'
        exact ew'
      · simp only [List.length_cons] at es ⊢
        omega
      · intro b hb
        simp only [List.mem_cons] at hb
        rcases hb with rfl | rfl | hb
        · simp; omega
        · simp; omega
        · have := ea b (List.mem_cons_of_mem _ hb)
          omega
    · rw [if_neg (by simp only [decide_eq_true_eq]; intro z; exact h40 (by have := S_inj z; simpa using this))]
      refine ⟨st, _, fs ++ [(a, d)], _, _, ⟨rfl, rfl⟩, s5, h15, tu, h25, ?_, by simp [el], ?_, ?_⟩
      · rw [if_neg h40] at ew'
        exact ew'
      · simp only [List.length_cons] at es
        omega
      · intro b hb
        have := ea b (List.mem_cons_of_mem _ hb)
        omega
  · rintro σ H' ⟨st, ws, fs, a3, a4, rfl, s0, h1, tu, h2, ew, el, es, ea⟩
    have e : t.ps.drop (S t.ps).cps.size = [] := List.drop_eq_nil_of_le (by simp)
    rw [e] at ew
    have : fs = t.adrs [] := by
      rw [← ew]
      simp [walkA]
    subst this
    simp only [cxOf_K, tAsg2, tYes, wipe, tSeq, tIfS, tNot, tB, tCB, tCons, tNil, tVar, tC, tTest, tOp, tAnd, tOr, tAsg, gName, tRet, tRetN, tDrop, tNext, tIf, tCall, tTup, tLst, tNotV, tAndV, tOrV, tUn, rI0, rI, rU, rEq, rNe, tM1, tM0, tBM, tBM0, tSl, tPart, tNoPart, iStr, iEnumS, iRng1, iRng2, iList, gSub, tBits, tAug, tPar, L2.start, List.map_cons, List.map_nil, List.length_cons, List.length_nil, List.getElem?_cons_zero, List.getElem?_cons_succ, List.cons_append, List.nil_append, List.append_nil, List.set_cons_zero, List.set_cons_succ, List.replicate_succ, List.replicate_zero, Option.some.injEq, exists_eq_left', V.int.injEq, V.str.injEq, V.ref.injEq, V.bl.injEq, exists_and_left, exists_eq_left, List.cons.injEq, and_true, true_and, tCallX, tRs]
    exact q p ws H' np s0 h1 tu

theorem ok_leaves (T : Txt K mg) : FnOk P w K mg base (L2.CX P w) 6 T.a_leaves T.fd_leaves ["tree"] (sp_leaves T) := by
  refine T.F_leaves.okX sc_leaves (fun vs H Q E h => ?_) (fun cdv A outer s H vs Q E hr h => ?_)
  · obtain ⟨v, rfl, _⟩ := h; rfl
  obtain ⟨v, rfl, h⟩ := h
  refine ⟨_, (pss_cons (ps_expr (pe_callX (ok_check_tree T) (takes_of rfl rfl rfl rfl) (hr.mono (by first | decide | omega)) (by rfl) T.m_check_tree T.F_check_tree.kp T.b_check_tree .nil (pa_cons (pv 0) pa_nil)))
    (pss_one (ps_ret (pe_lc (own := [("address", 1), ("sign", 2)]) rfl sc_leaves.nd (pi_list (pe_call (ok_addressed T) (hr.mono (by first | decide | omega)) (by rfl) T.m_addressed T.F_addressed.kp T.b_addressed .nil pass0 (pa_cons (pv 0) pa_nil))) (blkOk_by (own := [("address", 1), ("sign", 2)]) (N := nm_leaves) (sc := defScope s_leaves) (by decide +kernel)) (fun _ _ _ _ _ => by exact (show PG _ _ (gTup K 2 _) from (pg_tup rfl (pgs_cons (pg_name (i := 1) sc_leaves.nd rfl (by first | exact Or.inl rfl | exact Or.inr rfl)) (pgs_cons (pg_name (i := 2) sc_leaves.nd rfl (by first | exact Or.inl rfl | exact Or.inr rfl)) pgs_nil))))) (fun _ _ _ _ _ => by exact (pts_one (pt_cmpR op_eq (pv 2) pe_str (nomark _)))) (fun _ _ _ _ _ => by exact (pv 1)))))), ?_⟩
  simp only [cxOf_K, tAsg2, tYes, wipe, tSeq, tIfS, tNot, tB, tCB, tCons, tNil, tVar, tC, tTest, tOp, tAnd, tOr, tAsg, gName, tRet, tRetN, tDrop, tNext, tIf, tCall, tTup, tLst, tNotV, tAndV, tOrV, tUn, rI0, rI, rU, rEq, rNe, tM1, tM0, tBM, tBM0, tSl, tPart, tNoPart, iStr, iEnumS, iRng1, iRng2, iList, gSub, tBits, tAug, tPar, L2.start, List.map_cons, List.map_nil, List.length_cons, List.length_nil, List.getElem?_cons_zero, List.getElem?_cons_succ, List.cons_append, List.nil_append, List.append_nil, List.set_cons_zero, List.set_cons_succ, List.replicate_succ, List.replicate_zero, Option.some.injEq, exists_eq_left', V.int.injEq, V.str.injEq, V.ref.injEq, V.bl.injEq, exists_and_left, exists_eq_left, List.cons.injEq, and_true, true_and, tCallX, tRs]
  rcases h with ⟨t, rfl, ht, q⟩ | ⟨nt, out⟩
  case inr => exact ⟨v, rfl, .inr ⟨nt, out⟩⟩
  refine ⟨_, rfl, .inl ⟨t, rfl, ht, fun H1 s1 => ?_⟩⟩
  refine ⟨_, rfl, t, rfl, ht, fun p ws H2 np s2 hp tu => ?_⟩
  refine ⟨p, rfl, ⟨_, SqL.of hp⟩, fun D hD => ?_⟩
  have s2 := s1.trans s2
  have hpD : p ≠ D := ne_of_none hp hD
  have wl := tu.length
  rw [Tr.adrs_length, Tr.ps_length] at wl
  refine lc_list (K := K) (a := p) (xs := ws) (fun i H' => Same H2 H' ∧ H' D = some (.lst (((((t.adrs []).take i).filter (fun x => x.2 == 46)).map (·.1)).map sV))) ⟨(L2.Same.refl H2).new hD _, upd_same⟩ (fun i H' _ hp' => SqL.of (hp'.1 _ _ hp)) ?_ ?_
  · rintro i x H' hi ⟨s3, hd⟩
    obtain ⟨qq, y, rfl, hy, hq⟩ := tu.get hi
    refine ⟨qq, _, rfl, SqT.of (s3 _ _ hq), rfl, ?_⟩
    simp only [gCons, gNil, cxOf_K, tAsg2, tYes, wipe, tSeq, tIfS, tNot, tB, tCB, tCons, tNil, tVar, tC, tTest, tOp, tAnd, tOr, tAsg, gName, tRet, tRetN, tDrop, tNext, tIf, tCall, tTup, tLst, tNotV, tAndV, tOrV, tUn, rI0, rI, rU, rEq, rNe, tM1, tM0, tBM, tBM0, tSl, tPart, tNoPart, iStr, iEnumS, iRng1, iRng2, iList, gSub, tBits, tAug, tPar, L2.start, List.map_cons, List.map_nil, List.length_cons, List.length_nil, List.getElem?_cons_zero, List.getElem?_cons_succ, List.cons_append, List.nil_append, List.append_nil, List.set_cons_zero, List.set_cons_succ, List.replicate_succ, List.replicate_zero, Option.some.injEq, exists_eq_left', V.int.injEq, V.str.injEq, V.ref.injEq, V.bl.injEq, exists_and_left, exists_eq_left, List.cons.injEq, and_true, true_and, tCallX, tRs]
    have hil : i < (t.adrs []).length := (List.getElem?_eq_some_iff.mp hy).1
    rw [Tr.adrs_length, Tr.ps_length] at hil
    have tk : (t.adrs []).take (i + 1) = (t.adrs []).take i ++ [y] := by
      rw [List.take_add_one, hy]
      rfl
    refine ⟨_, _, ⟨rfl, rfl⟩, _, _, rfl, rfl, rfl, ?_⟩
    rw [lit_dot]
    by_cases h46 : y.2 = 46
    · rw [if_pos (decide_eq_true (by rw [h46]))]
      refine ⟨_, hd, ?_, s3.new hD _, ?_⟩
      · rw [List.length_map, List.length_map]
        have := List.length_filter_le (fun x : List Nat × Nat => x.2 == 46) ((t.adrs []).take i)
        rw [List.length_take] at this
        exact small5' (by omega)
      · rw [upd_same, tk, List.filter_append, List.filter_cons_of_pos (by simp [h46])]
        simp
    · rw [if_neg (by simp only [decide_eq_true_eq]; intro z; exact h46 (by have := S_inj (V.str.inj z); simpa using this))]
      refine ⟨s3, ?_⟩
      rw [tk, List.filter_append, List.filter_cons_of_neg (by simp [h46])]
      simpa using hd
  · rintro H' ⟨s3, hd⟩
    have e : (t.adrs []).take ws.length = t.adrs [] := List.take_of_length_le (by rw [Tr.adrs_length, Tr.ps_length]; omega)
    rw [e, Tr.lvA_adrs] at hd
    exact q D H' (s2.free hD) (s2.trans s3) hd

theorem rstrip_S (c : Nat) (a : List Nat) : Txt.rstripChars (S a) (S [c]) = S (topOf c a) := by
  unfold Txt.rstripChars
  rw [PySem.W.stripBy_eq]
  rw [S_of (PySem.W.stripped _ false true (S a))]
  refine congrArg S ?_
  show ((S a).cps.extract 0 ((S a).length - (((S a).cps.toList.drop 0).reverse.takeWhile (S [c]).cps.contains).length)).toList = _
  rw [List.drop_zero, S_len]
  have e : (S a).cps.toList = a := by simp
  have e2 : (fun x => (S [c]).cps.contains x) = (fun x => x == c) := by
    funext x
    show (#[c] : Array Nat).contains x = _
    simp [Array.contains, eq_comm]
  rw [Array.toList_extract, e]
  show (a.take _).drop 0 = _
  rw [List.drop_zero]
  unfold topOf trail
  rw [show (S [c]).cps.contains = (fun x => x == c) from e2]
  rfl
theorem cutS_less (cs : List Nat) : cutS (S cs) none (some (-1)) = S cs.dropLast := by
  have e : (S cs).length = cs.length := S_len cs
  have e2 : (S cs).cps.toList = cs := by simp
  unfold cutS
  rw [HT.sIx_none, e, e2, List.drop_zero]
  have e3 : HT.sIx cs.length cs.length (some (-1)) - 0 = cs.length - 1 := by
    show (if (-1 : Int) < 0 then ((-1 : Int) + (cs.length : Int)).toNat else min (-1 : Int).toNat cs.length) - 0 = _
    rw [if_pos (by decide)]
    omega
  rw [e3, List.dropLast_eq_take]
theorem cut_one (xs : List (List Nat)) : cutV (xs.map sV) (some 1) none = (xs.drop 1).map sV := by
  unfold cutV
  rw [show (some (1 : Int)) = some ((1 : Nat) : Int) from rfl, HT.sIx_nat, HT.sIx_none, List.length_map, List.map_drop]
  by_cases h : 1 ≤ xs.length
  · rw [Nat.min_eq_left h]
    exact List.take_of_length_le (by simp)
  · rw [Nat.min_eq_right (by omega), Nat.sub_self, List.take_zero]
    exact (List.drop_eq_nil_of_le (by simp; omega)).symm
def ndF (x : List Nat) : List Nat := (topOf 108 x).dropLast
theorem lvA_head : ∀ (t : Tr) (a : List Nat), ∃ k xs, t.lvA a = (a ++ List.replicate k 108) :: xs
  | .leaf, a => ⟨0, [], by simp [Tr.lvA]⟩
  | .node l r, a => by
    obtain ⟨k, xs, h⟩ := lvA_head l (a ++ [108])
    refine ⟨k + 1, xs ++ r.lvA (a ++ [114]), ?_⟩
    show l.lvA (a ++ [108]) ++ r.lvA (a ++ [114]) = _
    rw [h, List.append_assoc, List.replicate_succ]
    rfl
theorem topOf_rep (a : List Nat) : ∀ k, topOf 108 (a ++ List.replicate k 108) = topOf 108 a
  | 0 => by simp
  | k + 1 => by
    rw [List.replicate_succ', ← List.append_assoc, topOf_same, topOf_rep a k]
theorem nd_tail : ∀ (t : Tr) (a : List Nat), ((t.lvA a).drop 1).map ndF = t.ndA a
  | .leaf, a => rfl
  | .node l r, a => by
    have h1 := nd_tail l (a ++ [108])
    have h2 := nd_tail r (a ++ [114])
    obtain ⟨k, xs, e1⟩ := lvA_head l (a ++ [108])
    obtain ⟨j, ys, e2⟩ := lvA_head r (a ++ [114])
    show ((l.lvA (a ++ [108]) ++ r.lvA (a ++ [114])).drop 1).map ndF = l.ndA (a ++ [108]) ++ [a] ++ r.ndA (a ++ [114])
    rw [← h1, ← h2, e1, e2]
    have e3 : ndF (a ++ [114] ++ List.replicate j 108) = a := by
      unfold ndF
      rw [topOf_rep, topOf_other (by decide), List.dropLast_concat]
    show (xs ++ ((a ++ [114] ++ List.replicate j 108) :: ys)).map ndF = xs.map ndF ++ [a] ++ ys.map ndF
    rw [List.map_append, List.map_cons, e3, List.append_assoc]
    rfl
theorem ok_nodes (T : Txt K mg) : FnOk P w K mg base (L2.CX P w) 8 T.a_nodes T.fd_nodes ["tree"] (sp_nodes T) := by
  refine T.F_nodes.okX sc_nodes (fun vs H Q E h => ?_) (fun cdv A outer s H vs Q E hr h => ?_)
  · obtain ⟨v, rfl, _⟩ := h; rfl
  obtain ⟨v, rfl, h⟩ := h
  refine ⟨_, (pss_one (ps_ret (pe_lc (own := [("address", 1)]) rfl sc_nodes.nd (pi_list (pe_slice sl_list (pe_callX (ok_leaves T) (takes_of rfl rfl rfl rfl) (hr.mono (by first | decide | omega)) (by rfl) T.m_leaves T.F_leaves.kp T.b_leaves .nil (pa_cons (pv 0) pa_nil)) (po_some pe_int) po_none)) (blkOk_by (own := [("address", 1)]) (N := nm_nodes) (sc := defScope s_nodes) (by decide +kernel)) (fun _ _ _ _ _ => by exact (pg_name (i := 1) sc_nodes.nd rfl (by first | exact Or.inl rfl | exact Or.inr rfl))) (fun _ _ _ _ _ => by exact pts_nil) (fun _ _ _ _ _ => by exact (pe_slice sl_str (pe_m1 PySem.F.slot_str_rstrip PySem.F.type_str_rstrip mt_rstripChars (pv 1) pe_str) po_none (po_some (pe_un un_neg pe_int))))))), ?_⟩
  rcases h with ⟨t, rfl, ht, q⟩ | ⟨nt, out⟩
  case inr => exact ⟨_, rfl, v, rfl, .inr ⟨nt, out⟩⟩
  refine ⟨_, rfl, _, rfl, .inl ⟨t, rfl, ht, fun p H1 np s1 hp => ?_⟩⟩
  refine ⟨1, rfl, p, _, rfl, SqL.of hp, fun p2 np2 => ?_⟩
  rw [cut_one]
  have s2 := s1.new (s1.free np2) (.lst (((t.lvA []).drop 1).map sV))
  have hp2 : upd H1 p2 (.lst (((t.lvA []).drop 1).map sV)) p2 = some _ := upd_same
  generalize upd H1 p2 (.lst (((t.lvA []).drop 1).map sV)) = H2 at s2 hp2 ⊢
  refine ⟨p2, rfl, ⟨_, SqL.of hp2⟩, fun D hD => ?_⟩
  refine lc_list (K := K) (a := p2) (xs := ((t.lvA []).drop 1).map sV) (fun i H' => Same H2 H' ∧ H' D = some (.lst (((((t.lvA []).drop 1).take i).map ndF).map sV))) ⟨(L2.Same.refl H2).new hD _, upd_same⟩ (fun i H' _ hp' => SqL.of (hp'.1 _ _ hp2)) ?_ ?_
  · rintro i x H' hi ⟨s3, hd⟩
    rw [List.getElem?_map, Option.map_eq_some_iff] at hi
    obtain ⟨a, hi, rfl⟩ := hi
    have la := Tr.lvA_len t [] a (List.mem_of_mem_drop (List.mem_of_getElem? hi))
    have hil : i < ((t.lvA []).drop 1).length := (List.getElem?_eq_some_iff.mp hi).1
    rw [List.length_drop, Tr.lvA_length, Tr.lvs_size] at hil
    simp only [List.length_nil] at la
    have al : (S a).length = a.length := S_len a
    have tl : (topOf 108 a).length ≤ a.length := by
      unfold topOf
      rw [List.length_take]
      omega
    have tp : (S (topOf 108 a)).length = (topOf 108 a).length := S_len _
    simp only [cxOf_K, tAsg2, tYes, wipe, tSeq, tIfS, tNot, tB, tCB, tCons, tNil, tVar, tC, tTest, tOp, tAnd, tOr, tAsg, gName, tRet, tRetN, tDrop, tNext, tIf, tCall, tTup, tLst, tNotV, tAndV, tOrV, tUn, rI0, rI, rU, rEq, rNe, tM1, tM0, tBM, tBM0, tSl, tPart, tNoPart, iStr, iEnumS, iRng1, iRng2, iList, gSub, tBits, tAug, tPar, L2.start, List.map_cons, List.map_nil, List.length_cons, List.length_nil, List.getElem?_cons_zero, List.getElem?_cons_succ, List.cons_append, List.nil_append, List.append_nil, List.set_cons_zero, List.set_cons_succ, List.replicate_succ, List.replicate_zero, Option.some.injEq, exists_eq_left', V.int.injEq, V.str.injEq, V.ref.injEq, V.bl.injEq, exists_and_left, exists_eq_left, List.cons.injEq, and_true, true_and, tCallX, tRs]
    rw [if_pos True.intro]
    refine ⟨⟨_, rfl⟩, small5 (by omega), ?_⟩
    rw [show Str.ofString "l" = S [108] by decide +kernel, rstrip_S]
    refine ⟨_, rfl, small5 (by omega), ?_⟩
    rw [cutS_less]
    refine ⟨_, hd, ?_, s3.new hD _, ?_⟩
    · rw [List.length_map, List.length_map, List.length_take]
      exact small5' (by omega)
    · rw [upd_same, List.take_add_one, hi]
      simp [ndF]
  · rintro H' ⟨s3, hd⟩
    have e : ((t.lvA []).drop 1).take (((t.lvA []).drop 1).map sV).length = (t.lvA []).drop 1 := List.take_of_length_le (by simp)
    rw [e, nd_tail] at hd
    exact q D H' (s2.free hD) (s2.trans s3) hd

theorem ok_law_cell (T : Txt K mg) : FnOk P w K mg base CX0 1 T.a_law_cell T.fd_law_cell ["_law_script", "_law_index"] (sp_law_cell K) := by
  refine T.F_law_cell.ok sc_law_cell (fun vs H Q E h => ?_) (fun cdv A outer s H vs Q E hr h => ?_)
  · obtain ⟨a, ns, i, rfl, _⟩ := h; rfl
  obtain ⟨a, ns, i, rfl, ha, q⟩ := h
  refine ⟨_, (pss_cons (ps_if (pt_cmpR op_lt (pv 1) (pe_callB call_len_seq (by rfl) T.z_len PySem.boot_len (pa_cons (pv 0) pa_nil)) (nomark _)) (pss_one (ps_ret (pe_ix ix_list (pv 0) (pv 1) (fun _ _ => rfl)))) pss_nil)
    (pss_one (ps_ret pe_int))), ?_⟩
  simp only [cxOf_K, tAsg2, tYes, wipe, tSeq, tIfS, tNot, tB, tCB, tCons, tNil, tVar, tC, tTest, tOp, tAnd, tOr, tAsg, gName, tRet, tRetN, tDrop, tNext, tIf, tCall, tTup, tLst, tNotV, tAndV, tOrV, tUn, rI0, rI, rU, rEq, rNe, tM1, tM0, tBM, tBM0, tSl, tPart, tNoPart, iStr, iEnumS, iRng1, iRng2, iList, gSub, tBits, tAug, tPar, L2.start, List.map_cons, List.map_nil, List.length_cons, List.length_nil, List.getElem?_cons_zero, List.getElem?_cons_succ, List.cons_append, List.nil_append, List.append_nil, List.set_cons_zero, List.set_cons_succ, List.replicate_succ, List.replicate_zero, Option.some.injEq, exists_eq_left', V.int.injEq, V.str.injEq, V.ref.injEq, V.bl.injEq, exists_and_left, exists_eq_left, List.cons.injEq, and_true, true_and, tCallX, tRs]
  refine ⟨_, .inl ha, ?_⟩
  rw [List.length_map]
  by_cases h : (i : Int) < (ns.length : Int)
  · refine ifdT h ?_
    have hi : i < ns.length := by omega
    refine ⟨a, _, (i : Int), _, rfl, rfl, ha, atI_nat (by rw [List.getElem?_map, List.getElem?_eq_getElem hi]; rfl), ?_⟩
    rw [List.getD_eq_getElem?_getD, List.getElem?_eq_getElem hi] at q
    exact q
  · refine ifdF h ?_
    rw [List.getD_eq_getElem?_getD, List.getElem?_eq_none (by omega)] at q
    exact q
theorem ok_law_hash (T : Txt K mg) : FnOk P w K mg base CX0 1 T.a_law_hash T.fd_law_hash ["_law_seed", "_law_index"] (sp_law_hash K) := by
  refine T.F_law_hash.ok sc_law_hash (fun vs H Q E h => ?_) (fun cdv A outer s H vs Q E hr h => ?_)
  · obtain ⟨a, i, rfl, _⟩ := h; rfl
  obtain ⟨a, i, rfl, h0, h1, q⟩ := h
  refine ⟨_, (pss_cons (ps_set (i := 2) sc_law_hash.nd rfl (by first | exact Or.inl rfl | exact Or.inr rfl) (pe_op op_mod (pe_callTy call_intI (by rfl) T.z_int (by decide +kernel) (pa_cons (pe_op op_add (pe_op op_add (pe_op op_add (pe_op op_mul (pv 0) pe_int) (pe_op op_mul (pe_op op_mul pe_int (pv 1)) (pv 1))) (pv 1)) pe_int) pa_nil)) pe_int))
    (pss_cons (ps_set (i := 2) sc_law_hash.nd rfl (by first | exact Or.inl rfl | exact Or.inr rfl) (pe_op op_mod (pe_callTy call_intI (by rfl) T.z_int (by decide +kernel) (pa_cons (pe_op op_add (pe_op op_mul (pv 2) (pv 2)) pe_int) pa_nil)) pe_int))
    (pss_one (ps_ret (pe_op op_mod (pe_callTy call_intI (by rfl) T.z_int (by decide +kernel) (pa_cons (pe_op op_mul (pv 2) pe_int) pa_nil)) pe_int))))), ?_⟩
  simp only [cxOf_K, tAsg2, tYes, wipe, tSeq, tIfS, tNot, tB, tCB, tCons, tNil, tVar, tC, tTest, tOp, tAnd, tOr, tAsg, gName, tRet, tRetN, tDrop, tNext, tIf, tCall, tTup, tLst, tNotV, tAndV, tOrV, tUn, rI0, rI, rU, rEq, rNe, tM1, tM0, tBM, tBM0, tSl, tPart, tNoPart, iStr, iEnumS, iRng1, iRng2, iList, gSub, tBits, tAug, tPar, L2.start, List.map_cons, List.map_nil, List.length_cons, List.length_nil, List.getElem?_cons_zero, List.getElem?_cons_succ, List.cons_append, List.nil_append, List.append_nil, List.set_cons_zero, List.set_cons_succ, List.replicate_succ, List.replicate_zero, Option.some.injEq, exists_eq_left', V.int.injEq, V.str.injEq, V.ref.injEq, V.bl.injEq, exists_and_left, exists_eq_left, List.cons.injEq, and_true, true_and, tCallX, tRs]
  refine ⟨cmulR (by decide), cmulL (by decide), cmulR (by omega), by decide, cmulR (cmod _ (by decide) (by decide)), by decide, cmulR (by decide), by decide, q _⟩
theorem ok_law_generator (T : Txt K mg) : FnOk P w K mg base CX0 2 T.a_law_generator T.fd_law_generator ["_law_script", "_law_index"] (sp_law_generator K) := by
  refine T.F_law_generator.ok sc_law_generator (fun vs H Q E h => ?_) (fun cdv A outer s H vs Q E hr h => ?_)
  · obtain ⟨a, ns, i, rfl, _⟩ := h; rfl
  obtain ⟨a, ns, i, rfl, ha, q⟩ := h
  refine ⟨_, (pss_cons (ps_set (i := 2) sc_law_generator.nd rfl (by first | exact Or.inl rfl | exact Or.inr rfl) (pe_call (ok_law_cell T) (hr.mono (by first | decide | omega)) (by rfl) T.m_law_cell T.F_law_cell.kp T.b_law_cell .nil pass0 (pa_cons (pv 0) (pa_cons (pv 1) pa_nil))))
    (pss_one (ps_ret (pe_lst (pa_cons (pe_op op_mod (pe_callTy call_intI (by rfl) T.z_int (by decide +kernel) (pa_cons (pe_callB (call_max2 rfl) (by rfl) T.z_max (by decide +kernel) (pa_cons (pe_op op_sub (pv 2) (pe_op op_powB pe_int pe_int)) (pa_cons pe_int pa_nil))) pa_nil)) (pe_op op_powB (pe_op op_powB pe_int pe_int) pe_int)) (pa_cons (pe_op op_mod (pe_callTy call_intI (by rfl) T.z_int (by decide +kernel) (pa_cons (pv 2) pa_nil)) pe_int) (pa_cons (pe_op op_mul pe_int (pv 1)) pa_nil))))))), ?_⟩
  simp only [cxOf_K, tAsg2, tYes, wipe, tSeq, tIfS, tNot, tB, tCB, tCons, tNil, tVar, tC, tTest, tOp, tAnd, tOr, tAsg, gName, tRet, tRetN, tDrop, tNext, tIf, tCall, tTup, tLst, tNotV, tAndV, tOrV, tUn, rI0, rI, rU, rEq, rNe, tM1, tM0, tBM, tBM0, tSl, tPart, tNoPart, iStr, iEnumS, iRng1, iRng2, iList, gSub, tBits, tAug, tPar, L2.start, List.map_cons, List.map_nil, List.length_cons, List.length_nil, List.getElem?_cons_zero, List.getElem?_cons_succ, List.cons_append, List.nil_append, List.append_nil, List.set_cons_zero, List.set_cons_succ, List.replicate_succ, List.replicate_zero, Option.some.injEq, exists_eq_left', V.int.injEq, V.str.injEq, V.ref.injEq, V.bl.injEq, exists_and_left, exists_eq_left, List.cons.injEq, and_true, true_and, tCallX, tRs]
  refine ⟨a, ns, i, rfl, ha, ?_⟩
  simp only [cxOf_K, tAsg2, tYes, wipe, tSeq, tIfS, tNot, tB, tCB, tCons, tNil, tVar, tC, tTest, tOp, tAnd, tOr, tAsg, gName, tRet, tRetN, tDrop, tNext, tIf, tCall, tTup, tLst, tNotV, tAndV, tOrV, tUn, rI0, rI, rU, rEq, rNe, tM1, tM0, tBM, tBM0, tSl, tPart, tNoPart, iStr, iEnumS, iRng1, iRng2, iList, gSub, tBits, tAug, tPar, L2.start, List.map_cons, List.map_nil, List.length_cons, List.length_nil, List.getElem?_cons_zero, List.getElem?_cons_succ, List.cons_append, List.nil_append, List.append_nil, List.set_cons_zero, List.set_cons_succ, List.replicate_succ, List.replicate_zero, Option.some.injEq, exists_eq_left', V.int.injEq, V.str.injEq, V.ref.injEq, V.bl.injEq, exists_and_left, exists_eq_left, List.cons.injEq, and_true, true_and, tCallX, tRs]
  refine ⟨⟨by decide, by decide +kernel⟩, _, _, ⟨rfl, rfl⟩, ⟨by decide, by decide +kernel⟩, ⟨by decide, by decide +kernel⟩, by decide +kernel, by decide, cmulL (by decide), by decide, fun g hg => ?_⟩
  exact q g _ hg ((L2.Same.refl H).new hg _) ⟨_, _, _, upd_same, by omega, by omega⟩
theorem ok_law_random (T : Txt K mg) : FnOk P w K mg base CX0 2 T.a_law_random T.fd_law_random ["_law_generator_here", "_law_bound"] (sp_law_random K) := by
  refine T.F_law_random.ok sc_law_random (fun vs H Q E h => ?_) (fun cdv A outer s H vs Q E hr h => ?_)
  · obtain ⟨g, b, n, rfl, _⟩ := h; rfl
  obtain ⟨g, b, n, rfl, ⟨x, y, z, hg, z0, z1⟩, hn, b0, b1, q⟩ := h
  refine ⟨_, (pss_cons (ps_if (pt_cmpR op_gt (pe_ix ix_list (pv 0) pe_int (fun _ _ => rfl)) pe_int (nomark _)) (pss_cons (ps_set (i := 2) sc_law_random.nd rfl (by first | exact Or.inl rfl | exact Or.inr rfl) (pe_op op_mod (pe_callTy call_intI (by rfl) T.z_int (by decide +kernel) (pa_cons (pe_ix ix_list (pv 0) pe_int (fun _ _ => rfl)) pa_nil)) (pv 1)))
    (pss_cons (ps_asg (pe_op op_fdivW (pe_ix ix_list (pv 0) pe_int (fun _ _ => rfl)) (pv 1)) (pg_sub (pv 0) pe_int set_list))
    (pss_one (ps_ret (pv 2))))) pss_nil)
    (pss_cons (ps_set (i := 2) sc_law_random.nd rfl (by first | exact Or.inl rfl | exact Or.inr rfl) pe_int)
    (pss_cons (ps_for PassesOwn.never rfl (pi_range1 rfl T.z_range (pa_cons (pe_op op_add pe_int (pe_op op_fdivW (pe_bits (pv 1)) pe_int)) pa_nil)) (pg_name (i := 3) sc_law_random.nd rfl (by first | exact Or.inl rfl | exact Or.inr rfl)) (pss_cons (ps_asg (pe_op op_add (pe_ix ix_list (pv 0) pe_int (fun _ _ => rfl)) pe_int) (pg_sub (pv 0) pe_int set_list))
    (pss_one (ps_set (i := 2) sc_law_random.nd rfl (by first | exact Or.inl rfl | exact Or.inr rfl) (pe_op op_add (pe_op op_mul (pv 2) pe_int) (pe_call (ok_law_hash T) (hr.mono (by first | decide | omega)) (by rfl) T.m_law_hash T.F_law_hash.kp T.b_law_hash .nil pass0 (pa_cons (pe_ix ix_list (pv 0) pe_int (fun _ _ => rfl)) (pa_cons (pe_ix ix_list (pv 0) pe_int (fun _ _ => rfl)) pa_nil))))))))
    (pss_one (ps_ret (pe_op op_mod (pe_callTy call_intI (by rfl) T.z_int (by decide +kernel) (pa_cons (pv 2) pa_nil)) (pv 1))))))), ?_⟩
  simp only [cxOf_K, tAsg2, tYes, wipe, tSeq, tIfS, tNot, tB, tCB, tCons, tNil, tVar, tC, tTest, tOp, tAnd, tOr, tAsg, gName, tRet, tRetN, tDrop, tNext, tIf, tCall, tTup, tLst, tNotV, tAndV, tOrV, tUn, rI0, rI, rU, rEq, rNe, tM1, tM0, tBM, tBM0, tSl, tPart, tNoPart, iStr, iEnumS, iRng1, iRng2, iList, gSub, tBits, tAug, tPar, L2.start, List.map_cons, List.map_nil, List.length_cons, List.length_nil, List.getElem?_cons_zero, List.getElem?_cons_succ, List.cons_append, List.nil_append, List.append_nil, List.set_cons_zero, List.set_cons_succ, List.replicate_succ, List.replicate_zero, Option.some.injEq, exists_eq_left', V.int.injEq, V.str.injEq, V.ref.injEq, V.bl.injEq, exists_and_left, exists_eq_left, List.cons.injEq, and_true, true_and, tCallX, tRs]
  refine ⟨g, _, 0, .int x, rfl, rfl, SqL.of hg, rfl, ?_⟩
  simp only [cxOf_K, tAsg2, tYes, wipe, tSeq, tIfS, tNot, tB, tCB, tCons, tNil, tVar, tC, tTest, tOp, tAnd, tOr, tAsg, gName, tRet, tRetN, tDrop, tNext, tIf, tCall, tTup, tLst, tNotV, tAndV, tOrV, tUn, rI0, rI, rU, rEq, rNe, tM1, tM0, tBM, tBM0, tSl, tPart, tNoPart, iStr, iEnumS, iRng1, iRng2, iList, gSub, tBits, tAug, tPar, L2.start, List.map_cons, List.map_nil, List.length_cons, List.length_nil, List.getElem?_cons_zero, List.getElem?_cons_succ, List.cons_append, List.nil_append, List.append_nil, List.set_cons_zero, List.set_cons_succ, List.replicate_succ, List.replicate_zero, Option.some.injEq, exists_eq_left', V.int.injEq, V.str.injEq, V.ref.injEq, V.bl.injEq, exists_and_left, exists_eq_left, List.cons.injEq, and_true, true_and, tCallX, tRs]
  by_cases hx : 0 < x
  · refine ifdT hx ⟨g, _, 0, .int x, rfl, rfl, SqL.of hg, rfl, ?_⟩
    simp only [cxOf_K, tAsg2, tYes, wipe, tSeq, tIfS, tNot, tB, tCB, tCons, tNil, tVar, tC, tTest, tOp, tAnd, tOr, tAsg, gName, tRet, tRetN, tDrop, tNext, tIf, tCall, tTup, tLst, tNotV, tAndV, tOrV, tUn, rI0, rI, rU, rEq, rNe, tM1, tM0, tBM, tBM0, tSl, tPart, tNoPart, iStr, iEnumS, iRng1, iRng2, iList, gSub, tBits, tAug, tPar, L2.start, List.map_cons, List.map_nil, List.length_cons, List.length_nil, List.getElem?_cons_zero, List.getElem?_cons_succ, List.cons_append, List.nil_append, List.append_nil, List.set_cons_zero, List.set_cons_succ, List.replicate_succ, List.replicate_zero, Option.some.injEq, exists_eq_left', V.int.injEq, V.str.injEq, V.ref.injEq, V.bl.injEq, exists_and_left, exists_eq_left, List.cons.injEq, and_true, true_and, tCallX, tRs]
    refine ⟨by omega, g, _, 0, .int x, rfl, rfl, SqL.of hg, rfl, ?_⟩
    simp only [cxOf_K, tAsg2, tYes, wipe, tSeq, tIfS, tNot, tB, tCB, tCons, tNil, tVar, tC, tTest, tOp, tAnd, tOr, tAsg, gName, tRet, tRetN, tDrop, tNext, tIf, tCall, tTup, tLst, tNotV, tAndV, tOrV, tUn, rI0, rI, rU, rEq, rNe, tM1, tM0, tBM, tBM0, tSl, tPart, tNoPart, iStr, iEnumS, iRng1, iRng2, iList, gSub, tBits, tAug, tPar, L2.start, List.map_cons, List.map_nil, List.length_cons, List.length_nil, List.getElem?_cons_zero, List.getElem?_cons_succ, List.cons_append, List.nil_append, List.append_nil, List.set_cons_zero, List.set_cons_succ, List.replicate_succ, List.replicate_zero, Option.some.injEq, exists_eq_left', V.int.injEq, V.str.injEq, V.ref.injEq, V.bl.injEq, exists_and_left, exists_eq_left, List.cons.injEq, and_true, true_and, tCallX, tRs]
    refine ⟨cdivW b0 b1, g, _, 0, 0, rfl, rfl, hg, rfl, ?_⟩
    exact q _ _ (Int.emod_nonneg _ (by omega)) (Int.emod_lt_of_pos _ (by omega)) (fun p o hp ho => by rw [upd_ne hp]; exact ho) ⟨_, _, _, upd_same, z0, by omega⟩
  · refine ifdF hx ?_
    have hb : (Builtin.Int.intBits b : Int) ≤ 50 := by
      have : Builtin.Int.intBits b ≤ 50 := PyProof.Rows.intBits_le (by omega)
      omega
    have hj0 : (0 : Int) ≤ 1 + (Builtin.Int.intBits b : Int) / 30 := by omega
    have hj1 : (1 : Int) + (Builtin.Int.intBits b : Int) / 30 ≤ 2 := by omega
    refine ⟨_, rfl, _, rfl, _, _, rfl, rfl, cdivW (by decide) (by decide), _, _, rfl, rfl, _, rfl, by omega, by omega, for_range (fun i σ H' => ∃ (d : Int) (a3 : Option V) (z' : Int), σ = [some (.ref g), some (.int b), some (.int d), a3] ∧ Keep g H H' ∧ H' g = some (.lst [.int x, .int y, .int z']) ∧ z' = z + i)
      ⟨0, none, z, rfl, fun p o _ ho => ho, hg, by simp⟩ ?_ ?_⟩
    · rintro i σ H' hi ⟨d, a3, z', rfl, k0, hg', rfl⟩
      simp only [cxOf_K, tAsg2, tYes, wipe, tSeq, tIfS, tNot, tB, tCB, tCons, tNil, tVar, tC, tTest, tOp, tAnd, tOr, tAsg, gName, tRet, tRetN, tDrop, tNext, tIf, tCall, tTup, tLst, tNotV, tAndV, tOrV, tUn, rI0, rI, rU, rEq, rNe, tM1, tM0, tBM, tBM0, tSl, tPart, tNoPart, iStr, iEnumS, iRng1, iRng2, iList, gSub, tBits, tAug, tPar, L2.start, List.map_cons, List.map_nil, List.length_cons, List.length_nil, List.getElem?_cons_zero, List.getElem?_cons_succ, List.cons_append, List.nil_append, List.append_nil, List.set_cons_zero, List.set_cons_succ, List.replicate_succ, List.replicate_zero, Option.some.injEq, exists_eq_left', V.int.injEq, V.str.injEq, V.ref.injEq, V.bl.injEq, exists_and_left, exists_eq_left, List.cons.injEq, and_true, true_and, tCallX, tRs]
      refine ⟨g, _, 2, .int (z + i), rfl, rfl, SqL.of hg', rfl, ?_⟩
      simp only [cxOf_K, tAsg2, tYes, wipe, tSeq, tIfS, tNot, tB, tCB, tCons, tNil, tVar, tC, tTest, tOp, tAnd, tOr, tAsg, gName, tRet, tRetN, tDrop, tNext, tIf, tCall, tTup, tLst, tNotV, tAndV, tOrV, tUn, rI0, rI, rU, rEq, rNe, tM1, tM0, tBM, tBM0, tSl, tPart, tNoPart, iStr, iEnumS, iRng1, iRng2, iList, gSub, tBits, tAug, tPar, L2.start, List.map_cons, List.map_nil, List.length_cons, List.length_nil, List.getElem?_cons_zero, List.getElem?_cons_succ, List.cons_append, List.nil_append, List.append_nil, List.set_cons_zero, List.set_cons_succ, List.replicate_succ, List.replicate_zero, Option.some.injEq, exists_eq_left', V.int.injEq, V.str.injEq, V.ref.injEq, V.bl.injEq, exists_and_left, exists_eq_left, List.cons.injEq, and_true, true_and, tCallX, tRs]
      refine ⟨g, _, 2, 2, rfl, rfl, hg', rfl, ?_⟩
      refine ⟨cmulR (by decide), g, _, 1, .int y, rfl, rfl, SqL.of upd_same, rfl, ?_⟩
      refine ⟨g, _, 2, .int (z + i + 1), rfl, rfl, SqL.of upd_same, rfl, ?_⟩
      refine ⟨y, z + i + 1, rfl, by omega, by omega, fun r => ?_⟩
      simp only [cxOf_K, tAsg2, tYes, wipe, tSeq, tIfS, tNot, tB, tCB, tCons, tNil, tVar, tC, tTest, tOp, tAnd, tOr, tAsg, gName, tRet, tRetN, tDrop, tNext, tIf, tCall, tTup, tLst, tNotV, tAndV, tOrV, tUn, rI0, rI, rU, rEq, rNe, tM1, tM0, tBM, tBM0, tSl, tPart, tNoPart, iStr, iEnumS, iRng1, iRng2, iList, gSub, tBits, tAug, tPar, L2.start, List.map_cons, List.map_nil, List.length_cons, List.length_nil, List.getElem?_cons_zero, List.getElem?_cons_succ, List.cons_append, List.nil_append, List.append_nil, List.set_cons_zero, List.set_cons_succ, List.replicate_succ, List.replicate_zero, Option.some.injEq, exists_eq_left', V.int.injEq, V.str.injEq, V.ref.injEq, V.bl.injEq, exists_and_left, exists_eq_left, List.cons.injEq, and_true, true_and, tCallX, tRs]
      exact ⟨_, _, ⟨rfl, rfl⟩, fun p o hp ho => by rw [upd_ne hp]; exact k0 p o hp ho, z + i + 1, by rw [upd_same], by omega⟩
    · rintro σ H' ⟨d, a3, z', rfl, k0, hg', rfl⟩
      simp only [cxOf_K, tAsg2, tYes, wipe, tSeq, tIfS, tNot, tB, tCB, tCons, tNil, tVar, tC, tTest, tOp, tAnd, tOr, tAsg, gName, tRet, tRetN, tDrop, tNext, tIf, tCall, tTup, tLst, tNotV, tAndV, tOrV, tUn, rI0, rI, rU, rEq, rNe, tM1, tM0, tBM, tBM0, tSl, tPart, tNoPart, iStr, iEnumS, iRng1, iRng2, iList, gSub, tBits, tAug, tPar, L2.start, List.map_cons, List.map_nil, List.length_cons, List.length_nil, List.getElem?_cons_zero, List.getElem?_cons_succ, List.cons_append, List.nil_append, List.append_nil, List.set_cons_zero, List.set_cons_succ, List.replicate_succ, List.replicate_zero, Option.some.injEq, exists_eq_left', V.int.injEq, V.str.injEq, V.ref.injEq, V.bl.injEq, exists_and_left, exists_eq_left, List.cons.injEq, and_true, true_and, tCallX, tRs]
      exact ⟨by omega, q _ _ (Int.emod_nonneg _ (by omega)) (Int.emod_lt_of_pos _ (by omega)) k0 ⟨_, _, _, hg', by omega, by omega⟩⟩

theorem Keep.trans {g : Addr} {H H1 H2 : Hp} (a : Keep g H H1) (b : Keep g H1 H2) : Keep g H H2 := fun p o hp ho => b p o hp (a p o hp ho)
theorem Keep.new {g p : Addr} {H H' : Hp} (a : Keep g H H') (hp : H p = none) (o : HO) : Keep g H (upd H' p o) := fun b u hb hu => by
  rw [upd_ne (ne_of_none hu hp)]; exact a b u hb hu
theorem Keep.of {g : Addr} {H H' : Hp} (a : Same H H') : Keep g H H' := fun p o _ ho => a p o ho
theorem GenAt.same {g : Addr} {H H' : Hp} {n : Nat} (h : GenAt H g n) (s : Same H H') : GenAt H' g n := by
  obtain ⟨a, b, c, h, x, y⟩ := h
  exact ⟨a, b, c, s _ _ h, x, y⟩
theorem GenAt.new {g p : Addr} {H : Hp} {n : Nat} {o : HO} (h : GenAt H g n) (hp : H p = none) : GenAt (upd H p o) g n := by
  obtain ⟨a, b, c, h, x, y⟩ := h
  exact ⟨a, b, c, by rw [upd_ne (ne_of_none h hp)]; exact h, x, y⟩
theorem GenAt.mono {g : Addr} {H : Hp} {n m : Nat} (h : GenAt H g n) (l : n ≤ m) : GenAt H g m := by
  obtain ⟨a, b, c, h, x, y⟩ := h
  exact ⟨a, b, c, h, x, by omega⟩
theorem GenAt.some {g : Addr} {H : Hp} {n : Nat} (h : GenAt H g n) : ∃ o, H g = some o := by
  obtain ⟨a, b, c, h, x, y⟩ := h
  exact ⟨_, h⟩
theorem Keep.free {g p : Addr} {H H' : Hp} (k : Keep g H H') (hg : ∃ o, H' g = some o) (h : H' p = none) (hgH : ∃ o, H g = some o) : H p = none := by
  cases e : H p with
  | none => rfl
  | some o =>
    obtain ⟨o', ho'⟩ := hg
    have : p ≠ g := fun z => by rw [z, ho'] at h; cases h
    rw [k p o this e] at h; cases h
theorem lit_str (t : Tr) : ("." : Str) = S t.cs ↔ t = .leaf := by
  rw [lit_dot, S_iff]
  constructor
  · intro h; exact Tr.cs_inj (t := .leaf) h.symm
  · intro h; rw [h]; rfl
theorem ok_law_tree (T : Txt K mg) : ∀ k : Nat, FnD P w K mg base CX0 (k + 1) 3 T.a_law_tree T.fd_law_tree ["_law_generator_here", "_law_many"] (sp_law_tree K k)
  | 0 => by
    have no : ∀ vs H Q E, ¬ sp_law_tree K 0 vs H Q E := fun vs H Q E h => by
      obtain ⟨_, _, _, _, h, _⟩ := h
      omega
    exact ⟨fun vs H Q E h => absurd h (no vs H Q E), fun A outer s H args us vs Q E _ _ _ _ h => absurd h (no vs H Q E)⟩
  | k + 1 => by
    have rec_law_tree := ok_law_tree T k
    refine okD T.F_law_tree sc_law_tree (fun vs H Q E h => ?_) (fun cdv A outer s H vs Q E hr h => ?_)
    · obtain ⟨g, m, n, rfl, _⟩ := h; rfl
    obtain ⟨g, m, n, rfl, hm, hm2, hg, hn, q⟩ := h
    refine ⟨_, (pss_cons (ps_if (pt_cmpR op_eq (pv 1) pe_int (nomark _)) (pss_one (ps_ret pe_str)) pss_nil)
    (pss_cons (ps_set (i := 2) sc_law_tree.nd rfl (by first | exact Or.inl rfl | exact Or.inr rfl) (pe_ix ix_list (pe_lst (pa_cons pe_int (pa_cons (pe_op op_sub (pv 1) pe_int) (pa_cons (pe_call (ok_law_random T) (hr.room.mono (by first | decide | omega)) (by rfl) T.m_law_random T.F_law_random.kp T.b_law_random .nil pass0 (pa_cons (pv 0) (pa_cons (pv 1) pa_nil))) (pa_cons (pe_op op_fdivW (pv 1) pe_int) pa_nil))))) (pe_call (ok_law_random T) (hr.room.mono (by first | decide | omega)) (by rfl) T.m_law_random T.F_law_random.kp T.b_law_random .nil pass0 (pa_cons (pv 0) (pa_cons pe_int pa_nil))) (fun _ _ => rfl)))
    (pss_one (ps_ret (pe_op op_add_str (pe_op op_add_str (pe_op op_add_str pe_str (pe_callD rec_law_tree (hr.mono (by first | decide | omega) (by first | decide | omega)) (by rfl) T.m_law_tree T.F_law_tree.kp T.b_law_tree .nil pass0 (pa_cons (pv 0) (pa_cons (pv 2) pa_nil)))) (pe_callD rec_law_tree (hr.mono (by first | decide | omega) (by first | decide | omega)) (by rfl) T.m_law_tree T.F_law_tree.kp T.b_law_tree .nil pass0 (pa_cons (pv 0) (pa_cons (pe_op op_sub (pe_op op_sub (pv 1) pe_int) (pv 2)) pa_nil)))) pe_str))))), ?_⟩
    simp only [cxOf_K, tAsg2, tYes, wipe, tSeq, tIfS, tNot, tB, tCB, tCons, tNil, tVar, tC, tTest, tOp, tAnd, tOr, tAsg, gName, tRet, tRetN, tDrop, tNext, tIf, tCall, tTup, tLst, tNotV, tAndV, tOrV, tUn, rI0, rI, rU, rEq, rNe, tM1, tM0, tBM, tBM0, tSl, tPart, tNoPart, iStr, iEnumS, iRng1, iRng2, iList, gSub, tBits, tAug, tPar, L2.start, List.map_cons, List.map_nil, List.length_cons, List.length_nil, List.getElem?_cons_zero, List.getElem?_cons_succ, List.cons_append, List.nil_append, List.append_nil, List.set_cons_zero, List.set_cons_succ, List.replicate_succ, List.replicate_zero, Option.some.injEq, exists_eq_left', V.int.injEq, V.str.injEq, V.ref.injEq, V.bl.injEq, exists_and_left, exists_eq_left, List.cons.injEq, and_true, true_and, tCallX, tRs]
    refine ⟨rfl, ?_⟩
    by_cases h0 : (m : Int) = 0
    · refine ifdT h0 ?_
      have : m = 0 := by omega
      subst this
      rw [lit_dot]
      exact q .leaf H rfl (fun p o _ ho => ho) (hg.mono (by omega))
    · refine ifdF h0 ?_
      have hm0 : 0 < m := by omega
      refine ⟨g, m, n, rfl, hg, by omega, by omega, by omega, fun r H1 r0 r1 k1 g1 => ?_⟩
      simp only [cxOf_K, tAsg2, tYes, wipe, tSeq, tIfS, tNot, tB, tCB, tCons, tNil, tVar, tC, tTest, tOp, tAnd, tOr, tAsg, gName, tRet, tRetN, tDrop, tNext, tIf, tCall, tTup, tLst, tNotV, tAndV, tOrV, tUn, rI0, rI, rU, rEq, rNe, tM1, tM0, tBM, tBM0, tSl, tPart, tNoPart, iStr, iEnumS, iRng1, iRng2, iList, gSub, tBits, tAug, tPar, L2.start, List.map_cons, List.map_nil, List.length_cons, List.length_nil, List.getElem?_cons_zero, List.getElem?_cons_succ, List.cons_append, List.nil_append, List.append_nil, List.set_cons_zero, List.set_cons_succ, List.replicate_succ, List.replicate_zero, Option.some.injEq, exists_eq_left', V.int.injEq, V.str.injEq, V.ref.injEq, V.bl.injEq, exists_and_left, exists_eq_left, List.cons.injEq, and_true, true_and, tCallX, tRs]
      refine ⟨cdivW (by decide) (by decide), by decide, fun p hp => ?_⟩
      have g1' := g1.new (o := .lst [.int 0, .int ((m : Int) - 1), .int r, .int ((m : Int) / 2)]) hp
      refine ⟨g, 4, n + 3, rfl, g1', by omega, by decide, by decide, fun r2 H2 r20 r21 k2 g2 => ?_⟩
      obtain ⟨og, hog⟩ := hg.some
      have hgp : g ≠ p := by obtain ⟨o, ho⟩ := g1.some; exact ne_of_none ho hp
      have hp2 : H2 p = some (.lst [.int 0, .int ((m : Int) - 1), .int r, .int ((m : Int) / 2)]) := k2 p _ hgp.symm upd_same
      have hp0 : H p = none := k1.free g1.some hp ⟨_, hog⟩
      have k2' : Keep g H H2 := (k1.new hp0 _).trans k2
      obtain ⟨L, hL, hL2⟩ : ∃ L : Nat, atI [V.int 0, .int ((m : Int) - 1), .int r, .int ((m : Int) / 2)] r2 = some (.int (L : Nat)) ∧ L < m := by
        have : r2 = 0 ∨ r2 = 1 ∨ r2 = 2 ∨ r2 = 3 := by omega
        rcases this with rfl | rfl | rfl | rfl
        · exact ⟨0, rfl, hm0⟩
        · exact ⟨m - 1, by rw [show ((m - 1 : Nat) : Int) = (m : Int) - 1 by omega]; rfl, by omega⟩
        · exact ⟨r.toNat, by rw [show ((r.toNat : Nat) : Int) = r by omega]; rfl, by omega⟩
        · exact ⟨m / 2, by rw [show ((m / 2 : Nat) : Int) = (m : Int) / 2 by omega]; rfl, by omega⟩
      refine ⟨p, _, r2, .int (L : Nat), rfl, rfl, SqL.of hp2, hL, ?_⟩
      simp only [cxOf_K, tAsg2, tYes, wipe, tSeq, tIfS, tNot, tB, tCB, tCons, tNil, tVar, tC, tTest, tOp, tAnd, tOr, tAsg, gName, tRet, tRetN, tDrop, tNext, tIf, tCall, tTup, tLst, tNotV, tAndV, tOrV, tUn, rI0, rI, rU, rEq, rNe, tM1, tM0, tBM, tBM0, tSl, tPart, tNoPart, iStr, iEnumS, iRng1, iRng2, iList, gSub, tBits, tAug, tPar, L2.start, List.map_cons, List.map_nil, List.length_cons, List.length_nil, List.getElem?_cons_zero, List.getElem?_cons_succ, List.cons_append, List.nil_append, List.append_nil, List.set_cons_zero, List.set_cons_succ, List.replicate_succ, List.replicate_zero, Option.some.injEq, exists_eq_left', V.int.injEq, V.str.injEq, V.ref.injEq, V.bl.injEq, exists_and_left, exists_eq_left, List.cons.injEq, and_true, true_and, tCallX, tRs]
      refine ⟨g, L, n + 3 + 3, rfl, by omega, by omega, g2, by omega, fun t1 H3 ht1 k3 g3 => ?_⟩
      have l1 : t1.cs.length = 3 * L + 1 := by rw [Tr.cs_length, Tr.len_size, ht1]
      simp only [cxOf_K, tAsg2, tYes, wipe, tSeq, tIfS, tNot, tB, tCB, tCons, tNil, tVar, tC, tTest, tOp, tAnd, tOr, tAsg, gName, tRet, tRetN, tDrop, tNext, tIf, tCall, tTup, tLst, tNotV, tAndV, tOrV, tUn, rI0, rI, rU, rEq, rNe, tM1, tM0, tBM, tBM0, tSl, tPart, tNoPart, iStr, iEnumS, iRng1, iRng2, iList, gSub, tBits, tAug, tPar, L2.start, List.map_cons, List.map_nil, List.length_cons, List.length_nil, List.getElem?_cons_zero, List.getElem?_cons_succ, List.cons_append, List.nil_append, List.append_nil, List.set_cons_zero, List.set_cons_succ, List.replicate_succ, List.replicate_zero, Option.some.injEq, exists_eq_left', V.int.injEq, V.str.injEq, V.ref.injEq, V.bl.injEq, exists_and_left, exists_eq_left, List.cons.injEq, and_true, true_and, tCallX, tRs]
      refine ⟨by rw [lit_open]; simp only [S_len, List.length_append, List.length_cons, List.length_nil]; exact small5 (by omega), ?_⟩
      refine ⟨g, m - 1 - L, n + 3 + 3 + 6 * L, by rw [show ((m - 1 - L : Nat) : Int) = (m : Int) - 1 - (L : Int) by omega], by omega, by omega, g3, by omega, fun t2 H4 ht2 k4 g4 => ?_⟩
      have l2 : t2.cs.length = 3 * (m - 1 - L) + 1 := by rw [Tr.cs_length, Tr.len_size, ht2]
      simp only [cxOf_K, tAsg2, tYes, wipe, tSeq, tIfS, tNot, tB, tCB, tCons, tNil, tVar, tC, tTest, tOp, tAnd, tOr, tAsg, gName, tRet, tRetN, tDrop, tNext, tIf, tCall, tTup, tLst, tNotV, tAndV, tOrV, tUn, rI0, rI, rU, rEq, rNe, tM1, tM0, tBM, tBM0, tSl, tPart, tNoPart, iStr, iEnumS, iRng1, iRng2, iList, gSub, tBits, tAug, tPar, L2.start, List.map_cons, List.map_nil, List.length_cons, List.length_nil, List.getElem?_cons_zero, List.getElem?_cons_succ, List.cons_append, List.nil_append, List.append_nil, List.set_cons_zero, List.set_cons_succ, List.replicate_succ, List.replicate_zero, Option.some.injEq, exists_eq_left', V.int.injEq, V.str.injEq, V.ref.injEq, V.bl.injEq, exists_and_left, exists_eq_left, List.cons.injEq, and_true, true_and, tCallX, tRs]
      rw [lit_open, lit_close, S_app, S_app, S_app, S_len, S_len]
      refine ⟨by simp only [S_len, List.length_append, List.length_cons, List.length_nil]; exact small5 (by omega), by simp only [S_len, List.length_append, List.length_cons, List.length_nil]; exact small5 (by omega), ?_⟩
      have ek : [40] ++ t1.cs ++ t2.cs ++ [41] = (Tr.node t1 t2).cs := by simp [Tr.cs]
      rw [ek]
      exact q (.node t1 t2) H4 (by show t1.size + t2.size + 1 = m; omega) (k2'.trans (k3.trans k4)) (g4.mono (by omega))

/-- how a text is read: the stack, its top first -/
def prs : List Nat → List Tr → Option (List Tr)
  | [], st => some st
  | c :: cs, st => if c = 41 then (match st with | r :: l :: st' => prs cs (.node l r :: st') | _ => none) else if c = 46 then prs cs (.leaf :: st) else prs cs st
theorem prs_tree : ∀ (t : Tr) (rest : List Nat) (st : List Tr), prs (t.cs ++ rest) st = prs rest (t :: st)
  | .leaf, rest, st => rfl
  | .node l r, rest, st => by
    show prs (40 :: ((l.cs ++ (r.cs ++ [41])) ++ rest)) st = _
    show prs ((l.cs ++ (r.cs ++ [41])) ++ rest) st = _
    rw [List.append_assoc, prs_tree l, List.append_assoc, prs_tree r]
    rfl
theorem cut_m2 (xs : List V) (x y : V) : cutV (xs ++ [x, y]) none (some (-2)) = xs := by
  unfold cutV
  have e : HT.sIx (xs ++ [x, y]).length (xs ++ [x, y]).length (some (-2)) = xs.length := by
    unfold HT.sIx
    dsimp only
    rw [if_pos (by decide)]
    simp
    omega
  rw [e, HT.sIx_none]
  simp
theorem at_m2 (xs : List V) (x y : V) : atI (xs ++ [x, y]) (-2) = some x := by
  have h1 : ixN (xs ++ [x, y]).length (-2) = some xs.length := by
    unfold ixN
    rw [if_neg (by decide), if_pos (by simp; omega)]
    congr 1
    simp
    omega
  unfold atI
  rw [h1]
  simp
theorem ok_law_parsed (T : Txt K mg) : FnOk P w K mg base CX0 2 T.a_law_parsed T.fd_law_parsed ["_law_tree_here"] (sp_law_parsed K) := by
  refine T.F_law_parsed.ok sc_law_parsed (fun vs H Q E h => ?_) (fun cdv A outer s H vs Q E hr h => ?_)
  · obtain ⟨t, rfl, _⟩ := h; rfl
  obtain ⟨t, rfl, ht, q⟩ := h
  have hru := hr.units
  refine ⟨_, (pss_cons (ps_set (i := 1) sc_law_parsed.nd rfl (by first | exact Or.inl rfl | exact Or.inr rfl) (pe_lst pa_nil))
    (pss_cons (ps_for PassesOwn.never rfl (pi_str (pv 0)) (pg_name (i := 2) sc_law_parsed.nd rfl (by first | exact Or.inl rfl | exact Or.inr rfl)) (pss_one (ps_if (pt_cmpR op_eq (pv 2) pe_str (nomark _)) (pss_one (ps_set (i := 1) sc_law_parsed.nd rfl (by first | exact Or.inl rfl | exact Or.inr rfl) (pe_op op_cat (pe_slice sl_list (pv 1) po_none (po_some (pe_un un_neg pe_int))) (pe_lst (pa_cons (pe_tup (pa_cons (pe_ix ix_list (pv 1) (pe_un un_neg pe_int) (fun _ _ => rfl)) (pa_cons (pe_ix ix_list (pv 1) (pe_un un_neg pe_int) (fun _ _ => rfl)) pa_nil))) pa_nil))))) (pss_one (ps_if (pt_cmpR op_eq (pv 2) pe_str (nomark _)) (pss_one (ps_expr (pe_bm PySem.F.plainAttrs_list PySem.F.slot_list_append PySem.F.type_list_append mt_append (pv 1) (pa_cons (pe_tup pa_nil) pa_nil)))) pss_nil)))))
    (pss_one (ps_ret (pe_ix ix_list (pv 1) pe_int (fun _ _ => rfl)))))), ?_⟩
  simp only [cxOf_K, tAsg2, tYes, wipe, tSeq, tIfS, tNot, tB, tCB, tCons, tNil, tVar, tC, tTest, tOp, tAnd, tOr, tAsg, gName, tRet, tRetN, tDrop, tNext, tIf, tCall, tTup, tLst, tNotV, tAndV, tOrV, tUn, rI0, rI, rU, rEq, rNe, tM1, tM0, tBM, tBM0, tSl, tPart, tNoPart, iStr, iEnumS, iRng1, iRng2, iList, gSub, tBits, tAug, tPar, L2.start, List.map_cons, List.map_nil, List.length_cons, List.length_nil, List.getElem?_cons_zero, List.getElem?_cons_succ, List.cons_append, List.nil_append, List.append_nil, List.set_cons_zero, List.set_cons_succ, List.replicate_succ, List.replicate_zero, Option.some.injEq, exists_eq_left', V.int.injEq, V.str.injEq, V.ref.injEq, V.bl.injEq, exists_and_left, exists_eq_left, List.cons.injEq, and_true, true_and, tCallX, tRs]
  refine ⟨by decide, fun p hp => ?_⟩
  have hcl := tr_len ht
  refine ⟨_, rfl, _, rfl, for_str (fun i σ H' => ∃ (f : Addr) (st : List Tr) (vs : List V) (a3 : Option V), σ = [some (trV t), some (.ref f), a3] ∧ Same H H' ∧ H f = none ∧ H' f = some (.lst vs.reverse) ∧ PTs H' vs st ∧ prs (t.cs.drop i) st = some [t] ∧ vs.length ≤ i) ?_ ?_ ?_⟩
  · refine ⟨p, [], [], none, rfl, (L2.Same.refl H).new hp _, hp, upd_same, .nil, ?_, Nat.le_refl _⟩
    have := prs_tree t [] []
    rw [List.append_nil] at this
    exact this
  · rintro i d σ H' hi ⟨f, st, vs, a3, rfl, s0, nf, hf, hv, e1, e2⟩
    have hil : i < (S t.cs).length := (Array.getElem?_eq_some_iff.mp hi).1
    rw [S_len] at hil
    have hd : t.cs[i]? = some d := by
      have := (Array.getElem?_eq_some_iff.mp hi).2
      rw [List.getElem?_eq_some_iff]
      exact ⟨hil, by simpa using this⟩
    have ed : t.cs.drop i = d :: t.cs.drop (i + 1) := by
      rw [List.drop_eq_getElem_cons hil]
      rw [(List.getElem?_eq_some_iff.mp hd).2]
    rw [ed] at e1
    simp only [cxOf_K, tAsg2, tYes, wipe, tSeq, tIfS, tNot, tB, tCB, tCons, tNil, tVar, tC, tTest, tOp, tAnd, tOr, tAsg, gName, tRet, tRetN, tDrop, tNext, tIf, tCall, tTup, tLst, tNotV, tAndV, tOrV, tUn, rI0, rI, rU, rEq, rNe, tM1, tM0, tBM, tBM0, tSl, tPart, tNoPart, iStr, iEnumS, iRng1, iRng2, iList, gSub, tBits, tAug, tPar, L2.start, List.map_cons, List.map_nil, List.length_cons, List.length_nil, List.getElem?_cons_zero, List.getElem?_cons_succ, List.cons_append, List.nil_append, List.append_nil, List.set_cons_zero, List.set_cons_succ, List.replicate_succ, List.replicate_zero, Option.some.injEq, exists_eq_left', V.int.injEq, V.str.injEq, V.ref.injEq, V.bl.injEq, exists_and_left, exists_eq_left, List.cons.injEq, and_true, true_and, tCallX, tRs]
    have sg : (({ cps := #[d] } : Str) = S [d]) := rfl
    rw [sg]
    refine ⟨rfl, ?_⟩
    by_cases c1 : d = 41
    · subst c1
      rw [if_pos (decide_eq_true lit_close.symm)]
      cases hv with
      | nil => exact absurd e1 (by simp [prs])
      | @cons v1 r vs1 st1 pr hv =>
        cases hv with
        | nil => exact absurd e1 (by simp [prs])
        | @cons v2 l vs2 st2 pl hv =>
          have e1' : prs (t.cs.drop (i + 1)) (.node l r :: st2) = some [t] := e1
          have ev : (v1 :: v2 :: vs2).reverse = vs2.reverse ++ [v2, v1] := by simp
          rw [ev] at hf
          refine ⟨f, _, rfl, SqL.of hf, fun g hg => ?_⟩
          rw [cut_m2]
          have nfg : f ≠ g := ne_of_none hf hg
          have s1 := (L2.Same.refl H').new hg (.lst vs2.reverse)
          have hf1 := s1 _ _ hf
          have hg1 : upd H' g (.lst vs2.reverse) g = some (.lst vs2.reverse) := upd_same
          generalize upd H' g (.lst vs2.reverse) = H1 at s1 hf1 hg1 ⊢
          refine ⟨f, _, -2, v2, rfl, rfl, SqL.of hf1, at_m2 _ _ _, f, _, -1, v1, rfl, rfl, SqL.of hf1, by rw [show vs2.reverse ++ [v2, v1] = (vs2.reverse ++ [v2]) ++ [v1] by simp]; exact atI_last _ _, by decide, fun p1 hp1 => ⟨by decide, fun p2 hp2 => ?_⟩⟩
          have s2 := (L2.Same.refl H1).new hp1 (.tup [v2, v1])
          have h1 : upd H1 p1 (.tup [v2, v1]) p1 = some _ := upd_same
          generalize upd H1 p1 (.tup [v2, v1]) = H2 at s2 h1 hp2 ⊢
          have s3 := (L2.Same.refl H2).new hp2 (.lst [V.ref p1])
          have h2 : upd H2 p2 (.lst [V.ref p1]) p2 = some _ := upd_same
          generalize upd H2 p2 (.lst [V.ref p1]) = H3 at s3 h2 ⊢
          have s123 := s1.trans (s2.trans s3)
          refine ⟨g, p2, _, _, rfl, rfl, s3 _ _ (s2 _ _ hg1), h2, small5 (by simp at e2 ⊢; omega), fun p3 hp3 => ?_⟩
          have s4 := (L2.Same.refl H3).new hp3 (.lst (vs2.reverse ++ [V.ref p1]))
          have sa := s123.trans s4
          refine ⟨p3, .node l r :: st2, V.ref p1 :: vs2, _, ⟨rfl, rfl⟩, s0.trans sa, (s0.trans s123).free hp3, by rw [upd_same]; simp, .cons (.node (s4 _ _ (s3 _ _ h1)) (pl.same sa) (pr.same sa)) (hv.same sa), e1', by simp at e2 ⊢; omega⟩
    · rw [if_neg (by simp only [decide_eq_true_eq]; rw [lit_close, S_iff]; simpa using c1)]
      refine ⟨rfl, ?_⟩
      by_cases c2 : d = 46
      · subst c2
        rw [if_pos (decide_eq_true lit_dot.symm)]
        refine ⟨tyV_lst hf, by decide, fun p1 hp1 => ?_⟩
        have s1 := (L2.Same.refl H').new hp1 (.tup [])
        have h1 : upd H' p1 (.tup []) p1 = some _ := upd_same
        generalize upd H' p1 (.tup []) = H1 at s1 h1 ⊢
        have hf1 := s1 _ _ hf
        refine ⟨f, _, _, rfl, rfl, hf1, small5' (by simp at e2 ⊢; omega), ?_⟩
        have kf : Keep f H1 (upd H1 f (.lst (vs.reverse ++ [V.ref p1]))) := fun b o nb hb => by rw [upd_ne nb]; exact hb
        refine ⟨f, .leaf :: st, V.ref p1 :: vs, _, ⟨rfl, rfl⟩, (s0.trans s1).new nf _, nf, by rw [upd_same]; simp, .cons (.leaf (kf _ _ (ne_of h1 hf1 fun z => by cases z) h1)) ((hv.same s1).keep kf hf1), ?_, by simp; omega⟩
        exact e1
      · rw [if_neg (by simp only [decide_eq_true_eq]; rw [lit_dot, S_iff]; simpa using c2)]
        refine ⟨f, st, vs, _, ⟨rfl, rfl⟩, s0, nf, hf, hv, ?_, by omega⟩
        rw [show prs (d :: t.cs.drop (i + 1)) st = prs (t.cs.drop (i + 1)) st by simp [prs, c1, c2]] at e1
        exact e1
  · rintro σ H' ⟨f, st, vs, a3, rfl, s0, nf, hf, hv, e1, e2⟩
    simp only [cxOf_K, tAsg2, tYes, wipe, tSeq, tIfS, tNot, tB, tCB, tCons, tNil, tVar, tC, tTest, tOp, tAnd, tOr, tAsg, gName, tRet, tRetN, tDrop, tNext, tIf, tCall, tTup, tLst, tNotV, tAndV, tOrV, tUn, rI0, rI, rU, rEq, rNe, tM1, tM0, tBM, tBM0, tSl, tPart, tNoPart, iStr, iEnumS, iRng1, iRng2, iList, gSub, tBits, tAug, tPar, L2.start, List.map_cons, List.map_nil, List.length_cons, List.length_nil, List.getElem?_cons_zero, List.getElem?_cons_succ, List.cons_append, List.nil_append, List.append_nil, List.set_cons_zero, List.set_cons_succ, List.replicate_succ, List.replicate_zero, Option.some.injEq, exists_eq_left', V.int.injEq, V.str.injEq, V.ref.injEq, V.bl.injEq, exists_and_left, exists_eq_left, List.cons.injEq, and_true, true_and, tCallX, tRs]
    have e0 : t.cs.drop (S t.cs).length = [] := by rw [S_len]; simp
    have e0' : t.cs.drop (S t.cs).cps.size = [] := e0
    rw [e0'] at e1
    have e3 : st = [t] := Option.some.inj e1
    subst e3
    cases hv with
    | @cons v1 _ vs1 _ pv hv =>
      cases hv
      exact ⟨f, _, 0, v1, rfl, rfl, SqL.of hf, rfl, q _ _ s0 pv⟩

theorem eqLeafE {K : PySem.W.Frag} {H : Hp} {v : V} {t : Tr} {p : Addr} {Q : VK} (h : PT H v t) (hp : H p = some (.tup [])) (q : Q (.bl (decide (t = .leaf))) H) : TV.rEqE K v (.ref p) H Q :=
  ⟨tD t, .tuple [], h.dp, .tup (SqT.of hp) .nil, tD_lay t, by decide +kernel, by simp [PyData.depth, PyData.depthAll]; omega, by rw [tD_leaf]; exact q⟩
theorem ok_law_leaves (T : Txt K mg) : ∀ k : Nat, FnD P w K mg base CX0 (k + 1) 3 T.a_law_leaves T.fd_law_leaves ["_law_parsed_here", "_law_road"] (sp_law_leaves K k)
  | 0 => by
    have no : ∀ vs H Q E, ¬ sp_law_leaves K 0 vs H Q E := fun vs H Q E h => by
      obtain ⟨_, _, _, _, _, h, _⟩ := h
      omega
    exact ⟨fun vs H Q E h => absurd h (no vs H Q E), fun A outer s H args us vs Q E _ _ _ _ h => absurd h (no vs H Q E)⟩
  | k + 1 => by
    have rec_law_leaves := ok_law_leaves T k
    refine okD T.F_law_leaves sc_law_leaves (fun vs H Q E h => ?_) (fun cdv A outer s H vs Q E hr h => ?_)
    · obtain ⟨v, a, t, rfl, _⟩ := h; rfl
    obtain ⟨v, a, t, rfl, hv, hk, ha, q⟩ := h
    have hru := hr.room.units
    refine ⟨_, (pss_cons (ps_if (pt_cmpR (TV.op_eqE hru) (pv 0) (pe_tup pa_nil) (nomark _)) (pss_one (ps_ret (pe_lst (pa_cons (pv 1) pa_nil)))) pss_nil)
    (pss_one (ps_ret (pe_op op_cat (pe_callD rec_law_leaves (hr.mono (by first | decide | omega) (by first | decide | omega)) (by rfl) T.m_law_leaves T.F_law_leaves.kp T.b_law_leaves .nil pass0 (pa_cons (pe_ix ix_tup (pv 0) pe_int (fun _ _ => rfl)) (pa_cons (pe_op op_add_str (pv 1) pe_str) pa_nil))) (pe_callD rec_law_leaves (hr.mono (by first | decide | omega) (by first | decide | omega)) (by rfl) T.m_law_leaves T.F_law_leaves.kp T.b_law_leaves .nil pass0 (pa_cons (pe_ix ix_tup (pv 0) pe_int (fun _ _ => rfl)) (pa_cons (pe_op op_add_str (pv 1) pe_str) pa_nil))))))), ?_⟩
    simp only [cxOf_K, tAsg2, tYes, wipe, tSeq, tIfS, tNot, tB, tCB, tCons, tNil, tVar, tC, tTest, tOp, tAnd, tOr, tAsg, gName, tRet, tRetN, tDrop, tNext, tIf, tCall, tTup, tLst, tNotV, tAndV, tOrV, tUn, rI0, rI, rU, rEq, rNe, tM1, tM0, tBM, tBM0, tSl, tPart, tNoPart, iStr, iEnumS, iRng1, iRng2, iList, gSub, tBits, tAug, tPar, L2.start, List.map_cons, List.map_nil, List.length_cons, List.length_nil, List.getElem?_cons_zero, List.getElem?_cons_succ, List.cons_append, List.nil_append, List.append_nil, List.set_cons_zero, List.set_cons_succ, List.replicate_succ, List.replicate_zero, Option.some.injEq, exists_eq_left', V.int.injEq, V.str.injEq, V.ref.injEq, V.bl.injEq, exists_and_left, exists_eq_left, List.cons.injEq, and_true, true_and, tCallX, tRs]
    refine ⟨by decide, fun p hp => ?_⟩
    have s0 := (L2.Same.refl H).new hp (.tup [])
    refine eqLeafE (hv.same s0) upd_same ⟨_, rfl, ?_⟩
    have al : (S a).length = a.length := S_len a
    cases hv with
    | leaf h =>
      rw [if_pos (by decide)]
      generalize upd H p (HO.tup []) = H0 at s0 ⊢
      refine ⟨by decide, fun p2 np2 => ?_⟩
      exact q p2 _ (s0.free np2) (s0.new (s0.free np2) _) upd_same
    | @node pn x y l r h hx hy =>
      rw [if_neg (by simp)]
      generalize upd H p (HO.tup []) = H0 at s0 ⊢
      have e1 : Tr.hgt (Tr.node l r) = max (Tr.hgt l) (Tr.hgt r) + 1 := rfl
      have e2 : (Tr.node l r).size = l.size + r.size + 1 := rfl
      have ll : (Str.ofString "l").length = 1 := rfl
      have lr : (Str.ofString "r").length = 1 := rfl
      refine ⟨pn, _, 0, x, rfl, rfl, SqT.of (s0 _ _ h), rfl, small5 (by rw [al, ll]; omega), ?_⟩
      rw [show Str.ofString "l" = S [108] by decide +kernel, S_app]
      refine ⟨x, a ++ [108], l, rfl, hx.same s0, by omega, by simp; omega, fun p1 H1 np1 s1 hp1 => ?_⟩
      have s1 := s0.trans s1
      refine ⟨pn, _, 1, y, rfl, rfl, SqT.of (s1 _ _ h), rfl, small5 (by rw [al, lr]; omega), ?_⟩
      rw [show Str.ofString "r" = S [114] by decide +kernel, S_app]
      refine ⟨y, a ++ [114], r, rfl, hy.same s1, by omega, by simp; omega, fun p2 H2 np2 s2 hp2 => ?_⟩
      have z1 := Tr.lvA_length l (a ++ [108])
      have z2 := Tr.lvA_length r (a ++ [114])
      have z3 := Tr.lvs_size l
      have z4 := Tr.lvs_size r
      have s12 := s1.trans s2
      refine ⟨p1, p2, _, _, rfl, rfl, s2 _ _ hp1, hp2, small5 (by rw [List.length_map, List.length_map]; omega), fun p3 np3 => ?_⟩
      refine q p3 _ (s12.free np3) (s12.new (s12.free np3) _) ?_
      rw [upd_same, ← List.map_append]
      rfl

theorem ok_law_nodes (T : Txt K mg) : ∀ k : Nat, FnD P w K mg base CX0 (k + 1) 3 T.a_law_nodes T.fd_law_nodes ["_law_parsed_here", "_law_road"] (sp_law_nodes K k)
  | 0 => by
    have no : ∀ vs H Q E, ¬ sp_law_nodes K 0 vs H Q E := fun vs H Q E h => by
      obtain ⟨_, _, _, _, _, h, _⟩ := h
      omega
    exact ⟨fun vs H Q E h => absurd h (no vs H Q E), fun A outer s H args us vs Q E _ _ _ _ h => absurd h (no vs H Q E)⟩
  | k + 1 => by
    have rec_law_nodes := ok_law_nodes T k
    refine okD T.F_law_nodes sc_law_nodes (fun vs H Q E h => ?_) (fun cdv A outer s H vs Q E hr h => ?_)
    · obtain ⟨v, a, t, rfl, _⟩ := h; rfl
    obtain ⟨v, a, t, rfl, hv, hk, ha, q⟩ := h
    have hru := hr.room.units
    refine ⟨_, (pss_cons (ps_if (pt_cmpR (TV.op_eqE hru) (pv 0) (pe_tup pa_nil) (nomark _)) (pss_one (ps_ret (pe_lst pa_nil))) pss_nil)
    (pss_one (ps_ret (pe_op op_cat (pe_op op_cat (pe_callD rec_law_nodes (hr.mono (by first | decide | omega) (by first | decide | omega)) (by rfl) T.m_law_nodes T.F_law_nodes.kp T.b_law_nodes .nil pass0 (pa_cons (pe_ix ix_tup (pv 0) pe_int (fun _ _ => rfl)) (pa_cons (pe_op op_add_str (pv 1) pe_str) pa_nil))) (pe_lst (pa_cons (pv 1) pa_nil))) (pe_callD rec_law_nodes (hr.mono (by first | decide | omega) (by first | decide | omega)) (by rfl) T.m_law_nodes T.F_law_nodes.kp T.b_law_nodes .nil pass0 (pa_cons (pe_ix ix_tup (pv 0) pe_int (fun _ _ => rfl)) (pa_cons (pe_op op_add_str (pv 1) pe_str) pa_nil))))))), ?_⟩
    simp only [cxOf_K, tAsg2, tYes, wipe, tSeq, tIfS, tNot, tB, tCB, tCons, tNil, tVar, tC, tTest, tOp, tAnd, tOr, tAsg, gName, tRet, tRetN, tDrop, tNext, tIf, tCall, tTup, tLst, tNotV, tAndV, tOrV, tUn, rI0, rI, rU, rEq, rNe, tM1, tM0, tBM, tBM0, tSl, tPart, tNoPart, iStr, iEnumS, iRng1, iRng2, iList, gSub, tBits, tAug, tPar, L2.start, List.map_cons, List.map_nil, List.length_cons, List.length_nil, List.getElem?_cons_zero, List.getElem?_cons_succ, List.cons_append, List.nil_append, List.append_nil, List.set_cons_zero, List.set_cons_succ, List.replicate_succ, List.replicate_zero, Option.some.injEq, exists_eq_left', V.int.injEq, V.str.injEq, V.ref.injEq, V.bl.injEq, exists_and_left, exists_eq_left, List.cons.injEq, and_true, true_and, tCallX, tRs]
    refine ⟨by decide, fun p hp => ?_⟩
    have s0 := (L2.Same.refl H).new hp (.tup [])
    refine eqLeafE (hv.same s0) upd_same ⟨_, rfl, ?_⟩
    have al : (S a).length = a.length := S_len a
    cases hv with
    | leaf h =>
      rw [if_pos (by decide)]
      generalize upd H p (HO.tup []) = H0 at s0 ⊢
      refine ⟨Nat.zero_le _, fun p2 np2 => ?_⟩
      exact q p2 _ (s0.free np2) (s0.new (s0.free np2) _) upd_same
    | @node pn x y l r h hx hy =>
      rw [if_neg (by simp)]
      generalize upd H p (HO.tup []) = H0 at s0 ⊢
      have e1 : Tr.hgt (Tr.node l r) = max (Tr.hgt l) (Tr.hgt r) + 1 := rfl
      have e2 : (Tr.node l r).size = l.size + r.size + 1 := rfl
      have ll : (Str.ofString "l").length = 1 := rfl
      have lr : (Str.ofString "r").length = 1 := rfl
      refine ⟨pn, _, 0, x, rfl, rfl, SqT.of (s0 _ _ h), rfl, small5 (by rw [al, ll]; omega), ?_⟩
      rw [show Str.ofString "l" = S [108] by decide +kernel, S_app]
      refine ⟨x, a ++ [108], l, rfl, hx.same s0, by omega, by simp; omega, fun p1 H1 np1 s1 hp1 => ?_⟩
      have s1 := s0.trans s1
      have z1 := Tr.ndA_length l (a ++ [108])
      have z2 := Tr.ndA_length r (a ++ [114])
      refine ⟨by decide, fun p2 np2 => ?_⟩
      have s2 := s1.new (s1.free np2) (.lst [sV a])
      have h12 : upd H1 p2 (.lst [sV a]) p1 = _ := (upd_ne (ne_of_none hp1 np2)).trans hp1
      have h22 : upd H1 p2 (.lst [sV a]) p2 = some _ := upd_same
      generalize upd H1 p2 (.lst [sV a]) = H2 at s2 h12 h22 ⊢
      refine ⟨p1, p2, _, _, rfl, rfl, h12, h22, small5 (by rw [List.length_map, List.length_singleton]; omega), fun p3 np3 => ?_⟩
      have s3 := s2.new (s2.free np3) (.lst ((l.ndA (a ++ [108])).map sV ++ [sV a]))
      have h33 : upd H2 p3 (.lst ((l.ndA (a ++ [108])).map sV ++ [sV a])) p3 = some _ := upd_same
      generalize upd H2 p3 (.lst ((l.ndA (a ++ [108])).map sV ++ [sV a])) = H3 at s3 h33 ⊢
      refine ⟨pn, _, 1, y, rfl, rfl, SqT.of (s3 _ _ h), rfl, small5 (by rw [al, lr]; omega), ?_⟩
      rw [show Str.ofString "r" = S [114] by decide +kernel, S_app]
      refine ⟨y, a ++ [114], r, rfl, hy.same s3, by omega, by simp; omega, fun p4 H4 np4 s4 hp4 => ?_⟩
      have s34 := s3.trans s4
      refine ⟨p3, p4, _, _, rfl, rfl, s4 _ _ h33, hp4, small5 (by simp; omega), fun p5 np5 => ?_⟩
      refine q p5 _ (s34.free np5) (s34.new (s34.free np5) _) ?_
      rw [upd_same]
      simp [Tr.ndA]

theorem ok_law_text (T : Txt K mg) : ∀ k : Nat, FnD P w K mg base CX0 (k + 1) 3 T.a_law_text T.fd_law_text ["_law_parsed_here"] (sp_law_text K k)
  | 0 => by
    have no : ∀ vs H Q E, ¬ sp_law_text K 0 vs H Q E := fun vs H Q E h => by
      obtain ⟨_, _, _, _, h, _⟩ := h
      omega
    exact ⟨fun vs H Q E h => absurd h (no vs H Q E), fun A outer s H args us vs Q E _ _ _ _ h => absurd h (no vs H Q E)⟩
  | k + 1 => by
    have rec_law_text := ok_law_text T k
    refine okD T.F_law_text sc_law_text (fun vs H Q E h => ?_) (fun cdv A outer s H vs Q E hr h => ?_)
    · obtain ⟨v, t, rfl, _⟩ := h; rfl
    obtain ⟨v, t, rfl, hv, hk, hs, q⟩ := h
    have hru := hr.room.units
    refine ⟨_, (pss_cons (ps_if (pt_cmpR (TV.op_eqE hru) (pv 0) (pe_tup pa_nil) (nomark _)) (pss_one (ps_ret pe_str)) pss_nil)
    (pss_one (ps_ret (pe_op op_add_str (pe_op op_add_str (pe_op op_add_str pe_str (pe_callD rec_law_text (hr.mono (by first | decide | omega) (by first | decide | omega)) (by rfl) T.m_law_text T.F_law_text.kp T.b_law_text .nil pass0 (pa_cons (pe_ix ix_tup (pv 0) pe_int (fun _ _ => rfl)) pa_nil))) (pe_callD rec_law_text (hr.mono (by first | decide | omega) (by first | decide | omega)) (by rfl) T.m_law_text T.F_law_text.kp T.b_law_text .nil pass0 (pa_cons (pe_ix ix_tup (pv 0) pe_int (fun _ _ => rfl)) pa_nil))) pe_str)))), ?_⟩
    simp only [cxOf_K, tAsg2, tYes, wipe, tSeq, tIfS, tNot, tB, tCB, tCons, tNil, tVar, tC, tTest, tOp, tAnd, tOr, tAsg, gName, tRet, tRetN, tDrop, tNext, tIf, tCall, tTup, tLst, tNotV, tAndV, tOrV, tUn, rI0, rI, rU, rEq, rNe, tM1, tM0, tBM, tBM0, tSl, tPart, tNoPart, iStr, iEnumS, iRng1, iRng2, iList, gSub, tBits, tAug, tPar, L2.start, List.map_cons, List.map_nil, List.length_cons, List.length_nil, List.getElem?_cons_zero, List.getElem?_cons_succ, List.cons_append, List.nil_append, List.append_nil, List.set_cons_zero, List.set_cons_succ, List.replicate_succ, List.replicate_zero, Option.some.injEq, exists_eq_left', V.int.injEq, V.str.injEq, V.ref.injEq, V.bl.injEq, exists_and_left, exists_eq_left, List.cons.injEq, and_true, true_and, tCallX, tRs]
    refine ⟨by decide, fun p hp => ?_⟩
    have s0 := (L2.Same.refl H).new hp (.tup [])
    refine eqLeafE (hv.same s0) upd_same ⟨_, rfl, ?_⟩
    cases hv with
    | leaf h =>
      rw [if_pos (by decide)]
      have := q _ s0
      rw [show trV .leaf = V.str "." from congrArg V.str lit_dot.symm] at this
      exact this
    | @node pn x y l r h hx hy =>
      rw [if_neg (by simp)]
      have e1 : Tr.hgt (Tr.node l r) = max (Tr.hgt l) (Tr.hgt r) + 1 := rfl
      have e2 : (Tr.node l r).size = l.size + r.size + 1 := rfl
      refine ⟨pn, _, 0, x, rfl, rfl, SqT.of (s0 _ _ h), rfl, ?_⟩
      refine ⟨x, l, rfl, hx.same s0, by omega, by omega, fun H1 s1 => ?_⟩
      have s1 := s0.trans s1
      have c1 := tr_len (t := l) (by omega)
      have c2 := tr_len (t := r) (by omega)
      refine ⟨_, rfl, by rw [lit_open, S_len, S_len]; exact small5 (by simp; omega), ?_⟩
      refine ⟨pn, _, 1, y, rfl, rfl, SqT.of (s1 _ _ h), rfl, ?_⟩
      refine ⟨y, r, rfl, hy.same s1, by omega, by omega, fun H2 s2 => ?_⟩
      refine ⟨_, rfl, ?_⟩
      have lc : (")" : Str) = S [41] := lit_close
      rw [lit_open, lc, S_app, S_app, S_app, S_len, S_len, S_len, S_len]
      have e3 : trV (Tr.node l r) = V.str (S ([40] ++ l.cs ++ r.cs ++ [41])) := by
        show V.str (S (40 :: (l.cs ++ (r.cs ++ [41])))) = _
        simp
      refine ⟨small5 (by simp; omega), small5 (by simp; omega), ?_⟩
      rw [← e3]
      exact q _ (s1.trans s2)

theorem ok_law_at (T : Txt K mg) : FnOk P w K mg base CX0 3 T.a_law_at T.fd_law_at ["_law_parsed_here", "_law_road"] (sp_law_at K) := by
  refine T.F_law_at.ok sc_law_at (fun vs H Q E h => ?_) (fun cdv A outer s H vs Q E hr h => ?_)
  · obtain ⟨v, t, a, rfl, _⟩ := h; rfl
  obtain ⟨v, t, a, rfl, hv, ha, hi, qn, qs⟩ := h
  have hru := hr.units
  refine ⟨_, (pss_cons (ps_for PassesOwn.never rfl (pi_str (pv 1)) (pg_name (i := 2) sc_law_at.nd rfl (by first | exact Or.inl rfl | exact Or.inr rfl)) (pss_cons (ps_if (pt_cmpR (TV.op_eqE hru) (pv 0) (pe_tup pa_nil) (nomark _)) (pss_one (ps_ret pe_non)) pss_nil)
    (pss_one (ps_set (i := 0) sc_law_at.nd rfl (by first | exact Or.inl rfl | exact Or.inr rfl) (pe_ix ix_tup (pv 0) (pe_callTy call_intB (by rfl) T.z_int (by decide +kernel) (pa_cons (pe_cmpR op_eq (pv 2) pe_str (nomark _)) pa_nil)) (fun _ _ => rfl))))))
    (pss_one (ps_ret (pv 0)))), ?_⟩
  simp only [cxOf_K, tAsg2, tYes, wipe, tSeq, tIfS, tNot, tB, tCB, tCons, tNil, tVar, tC, tTest, tOp, tAnd, tOr, tAsg, gName, tRet, tRetN, tDrop, tNext, tIf, tCall, tTup, tLst, tNotV, tAndV, tOrV, tUn, rI0, rI, rU, rEq, rNe, tM1, tM0, tBM, tBM0, tSl, tPart, tNoPart, iStr, iEnumS, iRng1, iRng2, iList, gSub, tBits, tAug, tPar, L2.start, List.map_cons, List.map_nil, List.length_cons, List.length_nil, List.getElem?_cons_zero, List.getElem?_cons_succ, List.cons_append, List.nil_append, List.append_nil, List.set_cons_zero, List.set_cons_succ, List.replicate_succ, List.replicate_zero, Option.some.injEq, exists_eq_left', V.int.injEq, V.str.injEq, V.ref.injEq, V.bl.injEq, exists_and_left, exists_eq_left, List.cons.injEq, and_true, true_and, tCallX, tRs]
  refine ⟨_, rfl, S a, rfl, for_str (fun i σ H' => ∃ (u : V) (r : Tr) (a2 : Option V), σ = [some u, some (sV a), a2] ∧ Same H H' ∧ PT H' u r ∧ tat r (a.drop i) = tat t a) ⟨v, t, none, rfl, L2.Same.refl H, hv, by rw [List.drop_zero]⟩ ?_ ?_⟩
  · rintro i c σ H' hi2 ⟨u, r, a2, rfl, s0, pu, et⟩
    have hil : i < (S a).length := (Array.getElem?_eq_some_iff.mp hi2).1
    rw [S_len] at hil
    have hd : a[i]? = some c := by
      have := (Array.getElem?_eq_some_iff.mp hi2).2
      rw [List.getElem?_eq_some_iff]
      exact ⟨hil, by simpa using this⟩
    have ed : a.drop i = c :: a.drop (i + 1) := by
      rw [List.drop_eq_getElem_cons hil]
      rw [(List.getElem?_eq_some_iff.mp hd).2]
    rw [ed] at et
    have hc : c = 108 ∨ c = 114 := by
      have := List.all_eq_true.mp hi c (List.mem_of_getElem? hd)
      simpa using this
    simp only [cxOf_K, tAsg2, tYes, wipe, tSeq, tIfS, tNot, tB, tCB, tCons, tNil, tVar, tC, tTest, tOp, tAnd, tOr, tAsg, gName, tRet, tRetN, tDrop, tNext, tIf, tCall, tTup, tLst, tNotV, tAndV, tOrV, tUn, rI0, rI, rU, rEq, rNe, tM1, tM0, tBM, tBM0, tSl, tPart, tNoPart, iStr, iEnumS, iRng1, iRng2, iList, gSub, tBits, tAug, tPar, L2.start, List.map_cons, List.map_nil, List.length_cons, List.length_nil, List.getElem?_cons_zero, List.getElem?_cons_succ, List.cons_append, List.nil_append, List.append_nil, List.set_cons_zero, List.set_cons_succ, List.replicate_succ, List.replicate_zero, Option.some.injEq, exists_eq_left', V.int.injEq, V.str.injEq, V.ref.injEq, V.bl.injEq, exists_and_left, exists_eq_left, List.cons.injEq, and_true, true_and, tCallX, tRs]
    have sg : (({ cps := #[c] } : Str) = S [c]) := rfl
    rw [sg]
    refine ⟨by decide, fun p np => ?_⟩
    have s1 := s0.new (s0.free np) (.tup [])
    have k1 := (L2.Same.refl H').new np (.tup [])
    refine eqLeafE (pu.same k1) upd_same ⟨_, rfl, ?_⟩
    cases pu with
    | leaf h =>
      rw [if_pos (by decide)]
      exact qn (by rw [← et]; rfl) _ s1
    | @node pn x y l rr h hx hy =>
      rw [if_neg (by simp)]
      generalize upd H' p (HO.tup []) = H2 at s1 k1 ⊢
      have si : ∀ x y : Nat, (S [x] = S [y]) ↔ x = y := fun x y => ⟨fun z => by have := S_inj z; simpa using this, fun z => by rw [z]⟩
      rw [show Str.ofString "r" = S [114] by decide +kernel]
      have e1 : tat (.node l rr) (c :: a.drop (i + 1)) = if c = 108 then tat l (a.drop (i + 1)) else tat rr (a.drop (i + 1)) := rfl
      rw [e1] at et
      refine ⟨rfl, ?_⟩
      rcases hc with rfl | rfl
      · rw [if_pos rfl] at et
        rw [if_neg (by simp only [decide_eq_true_eq]; intro z; exact absurd ((si _ _).mp z) (by decide))]
        exact ⟨pn, _, 0, x, rfl, rfl, SqT.of (k1 _ _ h), rfl, _, _, _, ⟨rfl, rfl⟩, s1, hx.same k1, et⟩
      · rw [if_neg (by decide)] at et
        rw [if_pos (decide_eq_true rfl)]
        exact ⟨pn, _, 1, y, rfl, rfl, SqT.of (k1 _ _ h), rfl, _, _, _, ⟨rfl, rfl⟩, s1, hy.same k1, et⟩
  · rintro σ H' ⟨u, r, a2, rfl, s0, pu, et⟩
    have e : a.drop (S a).cps.size = [] := List.drop_eq_nil_of_le (by simp)
    rw [e, tat_nil] at et
    simp only [cxOf_K, tAsg2, tYes, wipe, tSeq, tIfS, tNot, tB, tCB, tCons, tNil, tVar, tC, tTest, tOp, tAnd, tOr, tAsg, gName, tRet, tRetN, tDrop, tNext, tIf, tCall, tTup, tLst, tNotV, tAndV, tOrV, tUn, rI0, rI, rU, rEq, rNe, tM1, tM0, tBM, tBM0, tSl, tPart, tNoPart, iStr, iEnumS, iRng1, iRng2, iList, gSub, tBits, tAug, tPar, L2.start, List.map_cons, List.map_nil, List.length_cons, List.length_nil, List.getElem?_cons_zero, List.getElem?_cons_succ, List.cons_append, List.nil_append, List.append_nil, List.set_cons_zero, List.set_cons_succ, List.replicate_succ, List.replicate_zero, Option.some.injEq, exists_eq_left', V.int.injEq, V.str.injEq, V.ref.injEq, V.bl.injEq, exists_and_left, exists_eq_left, List.cons.injEq, and_true, true_and, tCallX, tRs]
    exact qs r et.symm u H' s0 pu

theorem ok_law_put (T : Txt K mg) : ∀ k : Nat, FnD P w K mg base CX0 (k + 1) 3 T.a_law_put T.fd_law_put ["_law_parsed_here", "_law_road", "_law_other"] (sp_law_put K k)
  | 0 => by
    have no : ∀ vs H Q E, ¬ sp_law_put K 0 vs H Q E := fun vs H Q E h => by
      obtain ⟨_, _, _, _, _, _, _, _, _, _, _, h, _⟩ := h
      omega
    exact ⟨fun vs H Q E h => absurd h (no vs H Q E), fun A outer s H args us vs Q E _ _ _ _ h => absurd h (no vs H Q E)⟩
  | k + 1 => by
    have rec_law_put := ok_law_put T k
    refine okD T.F_law_put sc_law_put (fun vs H Q E h => ?_) (fun cdv A outer s H vs Q E hr h => ?_)
    · obtain ⟨v, x, t, z, s', a, rfl, _⟩ := h; rfl
    obtain ⟨v, x, t, z, s', a, rfl, hv, hx, e, hi, hk, ha, q⟩ := h
    have hru := hr.room.units
    refine ⟨_, (pss_cons (ps_if (pt_cmpR op_eq (pv 1) pe_str (nomark _)) (pss_one (ps_ret (pv 2))) pss_nil)
    (pss_cons (ps_if (pt_cmpR op_eq (pe_ix ix_str (pv 1) pe_int (fun _ _ => rfl)) pe_str (nomark _)) (pss_one (ps_ret (pe_tup (pa_cons (pe_callD rec_law_put (hr.mono (by first | decide | omega) (by first | decide | omega)) (by rfl) T.m_law_put T.F_law_put.kp T.b_law_put .nil pass0 (pa_cons (pe_ix ix_tup (pv 0) pe_int (fun _ _ => rfl)) (pa_cons (pe_slice sl_str (pv 1) (po_some pe_int) po_none) (pa_cons (pv 2) pa_nil)))) (pa_cons (pe_ix ix_tup (pv 0) pe_int (fun _ _ => rfl)) pa_nil))))) pss_nil)
    (pss_one (ps_ret (pe_tup (pa_cons (pe_ix ix_tup (pv 0) pe_int (fun _ _ => rfl)) (pa_cons (pe_callD rec_law_put (hr.mono (by first | decide | omega) (by first | decide | omega)) (by rfl) T.m_law_put T.F_law_put.kp T.b_law_put .nil pass0 (pa_cons (pe_ix ix_tup (pv 0) pe_int (fun _ _ => rfl)) (pa_cons (pe_slice sl_str (pv 1) (po_some pe_int) po_none) (pa_cons (pv 2) pa_nil)))) pa_nil))))))), ?_⟩
    simp only [cxOf_K, tAsg2, tYes, wipe, tSeq, tIfS, tNot, tB, tCB, tCons, tNil, tVar, tC, tTest, tOp, tAnd, tOr, tAsg, gName, tRet, tRetN, tDrop, tNext, tIf, tCall, tTup, tLst, tNotV, tAndV, tOrV, tUn, rI0, rI, rU, rEq, rNe, tM1, tM0, tBM, tBM0, tSl, tPart, tNoPart, iStr, iEnumS, iRng1, iRng2, iList, gSub, tBits, tAug, tPar, L2.start, List.map_cons, List.map_nil, List.length_cons, List.length_nil, List.getElem?_cons_zero, List.getElem?_cons_succ, List.cons_append, List.nil_append, List.append_nil, List.set_cons_zero, List.set_cons_succ, List.replicate_succ, List.replicate_zero, Option.some.injEq, exists_eq_left', V.int.injEq, V.str.injEq, V.ref.injEq, V.bl.injEq, exists_and_left, exists_eq_left, List.cons.injEq, and_true, true_and, tCallX, tRs]
    have si : ∀ x y : Nat, (V.str (S [x]) = V.str (S [y])) ↔ x = y := fun x y => ⟨fun z => by have := S_inj (V.str.inj z); simpa using this, fun z => by rw [z]⟩
    have al : (S a).length = a.length := S_len a
    have ac : (S a).cps.toList = a := by simp
    rw [show Str.ofString "" = S [] by decide +kernel, show Str.ofString "l" = S [108] by decide +kernel]
    refine ⟨rfl, ?_⟩
    cases a with
    | nil =>
      rw [if_pos (decide_eq_true rfl)]
      have : put t [] z = z := by cases t <;> rfl
      rw [this] at q
      exact q x H (L2.Same.refl H) hx
    | cons c a =>
      rw [if_neg (by simp only [decide_eq_true_eq]; intro w; have := S_inj w; cases this)]
      have hc : c = 108 ∨ c = 114 := by
        have := List.all_eq_true.mp hi c (List.mem_cons_self ..)
        simpa using this
      have hi' : isA a = true := by
        have : isA (c :: a) = ((c == 108 || c == 114) && isA a) := rfl
        rw [this, Bool.and_eq_true] at hi
        exact hi.2
      simp only [List.length_cons] at hk ha
      cases hv with
      | leaf h => cases e
      | @node pn y1 y2 l rr h h1 h2 =>
        have e1 : tat (.node l rr) (c :: a) = if c = 108 then tat l a else tat rr a := rfl
        have e3 : put (.node l rr) (c :: a) z = if c = 108 then .node (put l a z) rr else .node l (put rr a z) := rfl
        rw [e1] at e
        rw [e3] at q
        have cut : cutS (S (c :: a)) (some 1) none = S a := by
          have := cutS_tail (c :: a) 1 (by simp)
          exact this
        have fit : (S (c :: a)).length ≤ sizeLine := small5 (by rw [al, List.length_cons]; omega)
        refine ⟨S (c :: a), 0, c, rfl, rfl, fit, by rw [ac]; exact atI_nat (j := 0) rfl, ?_⟩
        have sd : (({ cps := #[c] } : Str) = S [c]) := rfl
        rw [sd]
        refine ⟨rfl, ?_⟩
        rcases hc with rfl | rfl
        · rw [if_pos rfl] at e q
          refine ifdT rfl ?_
          refine ⟨pn, _, 0, y1, rfl, rfl, SqT.of h, rfl, S (108 :: a), rfl, fit, ?_⟩
          rw [cut]
          refine ⟨y1, x, l, z, s', a, rfl, h1, hx, e, hi', by omega, by omega, fun u H1 s1 pu => ?_⟩
          refine ⟨pn, _, 1, y2, rfl, rfl, SqT.of (s1 _ _ h), rfl, by decide, fun p np => ?_⟩
          have k1 := (L2.Same.refl H1).new np (.tup [u, y2])
          exact q (.ref p) _ (s1.new (s1.free np) _) (.node upd_same (pu.same k1) ((h2.same s1).same k1))
        · rw [if_neg (by decide)] at e q
          refine ifdF (fun w => absurd ((si _ _).mp w) (by decide)) ?_
          refine ⟨pn, _, 0, y1, rfl, rfl, SqT.of h, rfl, pn, _, 1, y2, rfl, rfl, SqT.of h, rfl, S (114 :: a), rfl, fit, ?_⟩
          rw [cut]
          refine ⟨y2, x, rr, z, s', a, rfl, h2, hx, e, hi', by omega, by omega, fun u H1 s1 pu => ⟨by decide, fun p np => ?_⟩⟩
          have k1 := (L2.Same.refl H1).new np (.tup [y1, u])
          exact q (.ref p) _ (s1.new (s1.free np) _) (.node upd_same ((h1.same s1).same k1) (pu.same k1))

structure It (H : Hp) (c : Bool) (u : V) (d : PyData) : Prop where
  dv : DV H c u d
  sh : d.showable = true
  dp : d.depth ≤ 3
  ln : d.shown.length ≤ 10000
  di : d.hasDict = true → c = true
inductive Its (H : Hp) (c : Bool) : List V → List PyData → Prop
  | nil : Its H c [] []
  | cons {u : V} {d : PyData} {us : List V} {ds : List PyData} : It H c u d → Its H c us ds → Its H c (u :: us) (d :: ds)
theorem Its.append {H : Hp} {c : Bool} : ∀ {us : List V} {ds : List PyData} {ws : List V} {es : List PyData}, Its H c us ds → Its H c ws es → Its H c (us ++ ws) (ds ++ es)
  | _, _, _, _, .nil, b => b
  | _, _, _, _, .cons a r, b => .cons a (Its.append r b)
theorem Its.length {H : Hp} {c : Bool} : ∀ {us : List V} {ds : List PyData}, Its H c us ds → us.length = ds.length
  | _, _, .nil => rfl
  | _, _, .cons _ r => congrArg Nat.succ (Its.length r)
theorem Its.dvs {H : Hp} {c : Bool} : ∀ {us : List V} {ds : List PyData}, Its H c us ds → DVs H c us ds ∧ PyData.showableAll ds = true ∧ PyData.depthAll ds ≤ 3 ∧ (PyData.hasDictAll ds = true → c = true) ∧ ∀ x ∈ PyData.shownAll ds, x.length ≤ 10000
  | _, _, .nil => ⟨.nil, by simp [PyData.showableAll], by simp [PyData.depthAll], by simp [PyData.hasDictAll], by simp [PyData.shownAll]⟩
  | _, _, .cons a r => by
    obtain ⟨h1, h2, h3, h4, h5⟩ := Its.dvs r
    have hd := a.dp
    refine ⟨.cons a.dv h1, ?_, ?_, fun z => ?_, fun x hx => ?_⟩
    · simp only [PyData.showableAll, a.sh, h2]; rfl
    · simp only [PyData.depthAll]; omega
    · simp only [PyData.hasDictAll, Bool.or_eq_true] at z
      exact z.elim a.di h4
    · simp only [PyData.shownAll, List.mem_cons] at hx
      rcases hx with rfl | hx
      · exact a.ln
      · exact h5 x hx
theorem textFrom_le : ∀ (ts : List Str) (k : Nat) (acc : Str) (B : Nat), (∀ t ∈ ts, t.length ≤ B) → (PySem.textFrom k acc ts).length ≤ acc.length + ts.length * (B + 2)
  | [], k, acc, B, _ => by show acc.length ≤ _; omega
  | t :: r, k, acc, B, h => by
    have h1 := textFrom_le r (k + 1) (acc ++ (if k > 0 then ", " else "" : String) ++ t) B fun x hx => h x (List.mem_cons_of_mem _ hx)
    have h2 := h t (List.mem_cons_self ..)
    have e : (acc ++ (if k > 0 then ", " else "" : String) ++ t).length = acc.length + (if k > 0 then 2 else 0) + t.length := by
      rw [strLen_append, strLen_append]
      split <;> rfl
    show (PySem.textFrom (k + 1) (acc ++ (if k > 0 then ", " else "" : String) ++ t) r).length ≤ _
    rw [e] at h1
    have hh : (if k > 0 then 2 else 0) ≤ 2 := by split <;> omega
    rw [List.length_cons, Nat.succ_mul]
    refine Nat.le_trans h1 ?_
    omega
theorem shownAll_length : ∀ ds : List PyData, (PyData.shownAll ds).length = ds.length
  | [] => by simp [PyData.shownAll]
  | d :: ds => by simp only [PyData.shownAll, List.length_cons, shownAll_length ds]
theorem Its.good {H : Hp} {c : Bool} {a : Addr} {us : List V} {ds : List PyData} (i : Its H c us ds) (h : H a = some (.lst us)) (n : us.length ≤ 50) (hc : c = true → PyData.hasDictAll ds = true ∧ a ≠ sysModules) : Good H (.ref a) (.list ds) := by
  obtain ⟨h1, h2, h3, h4, h5⟩ := i.dvs
  have e : (PyData.list ds).hasDict = c := by
    simp only [PyData.hasDict]
    cases c with
    | true => exact (hc rfl).1
    | false =>
      cases hz : PyData.hasDictAll ds with
      | false => rfl
      | true => exact (h4 hz).symm
  refine ⟨?_, by simpa only [PyData.showable] using h2, by simp only [PyData.depth]; omega, ?_⟩
  · rw [e]
    exact .lst (fun z => (hc z).2) h h1
  · simp only [PyData.shown]
    show (PySem.textFrom 0 "[" (PyData.shownAll ds) ++ "]").length ≤ _
    have := textFrom_le (PyData.shownAll ds) 0 "[" 10000 h5
    have l := i.length
    rw [shownAll_length] at this
    rw [strLen_append]
    have e1 : (("[" : String) : Str).length = 1 := rfl
    have e2 : (("]" : String) : Str).length = 1 := rfl
    have : ds.length * (10000 + 2) ≤ 50 * (10000 + 2) := Nat.mul_le_mul_right _ (by omega)
    omega
theorem exmT (T : Txt K mg) {C : Addr} {l : List Value} (e : ErrC K C (.ref C :: .ref T.c_TurnError :: l)) : PySem.W.exmOne K (.ref C) (.ref T.c_TurnError) = some true := by
  refine PySem.W.exm_ref T.e_TurnError.ec.hs T.e_TurnError.ec.hd T.e_TurnError.ty ?_
  rw [e.sub rfl, List.contains_cons, List.contains_cons, show ((Value.ref T.c_TurnError) == (Value.ref T.c_TurnError)) = true from beq_self_eq_true _, Bool.true_or, Bool.or_true]
theorem kitSelf {C : Addr} : PySem.W.kitOne K (.ref C) (.ref C) = some true := by
  unfold PySem.W.kitOne
  rw [if_pos (beq_self_eq_true _)]
theorem Good.same {H H' : Hp} {y : V} {d : PyData} (g : Good H y d) (s : Same H H') : Good H' y d := ⟨g.dv.same s, g.sh, g.dp, g.ln⟩
theorem Good.repr {H : Hp} {y : V} {d : PyData} {Q : VK} (g : Good H y d) (q : Q (.str d.shown) H) : rReprV [y] H Q := by
  have h1 := g.dp
  have h2 := g.ln
  exact ⟨y, d, d.hasDict, rfl, g.dv, id, g.sh, by omega, by rw [sizeLine_eq]; omega, q⟩
theorem Kept.keep {H H' : Hp} {g a C : Addr} {fs : List (Str × V)} {ws : List V} (x : Kept H a C fs) (k : Keep g H H') (hg : H g = some (.lst ws)) : Kept H' a C fs := by
  obtain ⟨d, h1, h2⟩ := x
  exact ⟨d, k _ _ (ne_of h1 hg fun z => by have z' : HO.ext _ = HO.lst _ := z; cases z') h1, k _ _ (ne_of h2 hg fun z => by cases z) h2⟩
theorem strD : ∀ ws : List Str, ∃ ds : List PyData, ds = ws.map PyData.str := fun ws => ⟨_, rfl⟩
theorem itStr {H : Hp} {c : Bool} (z : Str) (l : (reprText z).length ≤ 10000) : It H c (.str z) (.str z) := ⟨.str _, by simp [PyData.showable], by simp [PyData.depth], by simp only [PyData.shown]; omega, by simp [PyData.hasDict]⟩
theorem itsStr {H : Hp} : ∀ ws : List Str, (∀ z ∈ ws, (reprText z).length ≤ 10000) → Its H false (ws.map V.str) (ws.map PyData.str)
  | [], _ => .nil
  | z :: zs, h => .cons (itStr z (h z (List.mem_cons_self ..))) (itsStr zs fun y hy => h y (List.mem_cons_of_mem _ hy))
theorem goodStr {H : Hp} {a : Addr} (ws : List Str) (h : H a = some (.lst (ws.map V.str))) (n : ws.length ≤ 50) (hw : ∀ z ∈ ws, (reprText z).length ≤ 10000) : Good H (.ref a) (.list (ws.map PyData.str)) :=
  (itsStr ws hw).good h (by rw [List.length_map]; exact n) fun z => by cases z
def clsC (T : Txt K mg) (c : Bool) : Addr := if c then T.c_InvalidTree else T.c_InvalidAddress
theorem kitFalse (T : Txt K mg) {C D : Addr} (x : ErrC K C (.ref C :: .ref T.c_TurnError :: veL)) (y : ErrC K D (.ref D :: .ref T.c_TurnError :: veL)) (h1 : C ≠ D) (h2 : D ≠ T.c_TurnError) : PySem.W.kitOne K (.ref C) (.ref D) = some false := by
  rw [kit_own x y, decide_eq_false h1, Bool.false_or]
  have e : ((Value.ref D) == (Value.ref T.c_TurnError)) = false := beq_eq_false_iff_ne.mpr fun z => h2 (Value.ref.inj z)
  have ve : veL.contains (Value.ref D) = false := rfl
  rw [List.contains_cons, e, ve]
  rfl
theorem kitT (T : Txt K mg) : ∀ c : Bool, PySem.W.kitOne K (.ref (clsC T c)) (.ref T.c_InvalidTree) = some c
  | true => kitSelf
  | false => by
    have nd := T.nd
    simp only [List.nodup_cons, List.mem_cons, List.not_mem_nil, or_false, not_or] at nd
    exact kitFalse T T.e_InvalidAddress T.e_InvalidTree (fun z => nd.1.1 z.symm) nd.1.2
theorem kitA (T : Txt K mg) : ∀ c : Bool, PySem.W.kitOne K (.ref (clsC T c)) (.ref T.c_InvalidAddress) = some (!c)
  | false => kitSelf
  | true => by
    have nd := T.nd
    simp only [List.nodup_cons, List.mem_cons, List.not_mem_nil, or_false, not_or] at nd
    exact kitFalse T T.e_InvalidTree T.e_InvalidAddress nd.1.1 nd.2.1
theorem ecC (T : Txt K mg) : ∀ c : Bool, ErrC K (clsC T c) (.ref (clsC T c) :: .ref T.c_TurnError :: veL)
  | true => T.e_InvalidTree
  | false => T.e_InvalidAddress
theorem xfC (T : Txt K mg) : ∀ c : Bool, XfC K (clsC T c)
  | true => T.x_InvalidTree
  | false => T.x_InvalidAddress
theorem noC (T : Txt K mg) : ∀ c : Bool, PySem.W.findIn K (.ref (clsC T c)) "value" = some none
  | true => T.n_InvalidTree
  | false => T.n_InvalidAddress
theorem ok_law_caught (T : Txt K mg) : FnG P w K mg base CX0 14 T.a_law_caught T.fd_law_caught ["_law_door", "_law_tree_here", "_law_address", "_law_other"] (sp_law_caught T) := by
  refine okG T.F_law_caught sc_law_caught (fun vs H Q E h => ?_) (fun cdv A outer s H vs Q E hG hr h => ?_)
  · obtain ⟨n, u, v, x, b, c, rfl, _⟩ := h; rfl
  obtain ⟨n, u, v, x, b, c, rfl, hn, ref, sh⟩ := h
  have hru := hr.units
  refine ⟨_, (pss_cons (ps_set (i := 4) sc_law_caught.nd rfl (by first | exact Or.inl rfl | exact Or.inr rfl) pe_non)
    (pss_cons (ps_try_keep (i := 5) (j := 4) rfl rfl rfl sc_law_caught.nd rfl rfl rfl rfl (by decide) ⟨by rfl, by decide, .inl T.g_TurnError⟩ takes0 (fun W pn xe tk po => (pss_one (ps_if (pt_cmpR op_eq (pv 0) pe_int (nomark _)) (pss_one (ps_expr (pe_callX (ok_part T) tk (hr.mono (by first | decide | omega)) (by rfl) T.m_part T.F_part.kp T.b_part .nil (pa_cons (pv 1) (pa_cons (pv 2) pa_nil))))) (pss_one (ps_expr (pe_callX (ok_replaced T) tk (hr.mono (by first | decide | omega)) (by rfl) T.m_replaced T.F_replaced.kp T.b_replaced .nil (pa_cons (pv 1) (pa_cons (pv 2) (pa_cons (pv 3) pa_nil))))))))) (fun a pn => pss_one (ps_set (i := 4) sc_law_caught.nd rfl (by first | exact Or.inl rfl | exact Or.inr rfl) (pv 5))))
    (pss_cons (ps_if (pt_cmpR op_isN (pv 4) pe_non (nomark _)) (pss_one (ps_ret pe_non)) pss_nil)
    (pss_cons (ps_if (pt_val (pe_callB call_isi (by rfl) T.z_isinstance (by decide +kernel) (pa_cons (pe_qx (pv 4)) (pa_cons (pe_bltn (v := .ty "list") (by rfl) T.z_list (by decide +kernel) rfl) pa_nil)))) (pss_one (ps_expr (pe_bm PySem.F.plainAttrs_list PySem.F.slot_list_append PySem.F.type_list_append mt_append (pe_qx (pv 4)) (pa_cons pe_str pa_nil)))) pss_nil)
    (pss_one (ps_ret (pe_lst (pa_cons (pe_callB call_isQ (by rfl) T.z_isinstance (by decide +kernel) (pa_cons (pv 4) (pa_cons (pe_glob (v := .ref T.c_InvalidTree) (by rfl) T.g_InvalidTree rfl) pa_nil))) (pa_cons (pe_callB call_isQ (by rfl) T.z_isinstance (by decide +kernel) (pa_cons (pv 4) (pa_cons (pe_glob (v := .ref T.c_InvalidAddress) (by rfl) T.g_InvalidAddress rfl) pa_nil))) (pa_cons (pe_callB (cr_reprV hG hru) (by rfl) T.z_repr (by decide +kernel) (pa_cons (pe_qx (pv 4)) pa_nil)) pa_nil)))))))))), ?_⟩
  simp only [cxOf_K, tAsg2, tYes, wipe, tSeq, tIfS, tNot, tB, tCB, tCons, tNil, tVar, tC, tTest, tOp, tAnd, tOr, tAsg, gName, tRet, tRetN, tDrop, tNext, tIf, tCall, tTup, tLst, tNotV, tAndV, tOrV, tUn, rI0, rI, rU, rEq, rNe, tM1, tM0, tBM, tBM0, tSl, tPart, tNoPart, iStr, iEnumS, iRng1, iRng2, iList, gSub, tBits, tAug, tPar, L2.start, List.map_cons, List.map_nil, List.length_cons, List.length_nil, List.getElem?_cons_zero, List.getElem?_cons_succ, List.cons_append, List.nil_append, List.append_nil, List.set_cons_zero, List.set_cons_succ, List.replicate_succ, List.replicate_zero, Option.some.injEq, exists_eq_left', V.int.injEq, V.str.injEq, V.ref.injEq, V.bl.injEq, exists_and_left, exists_eq_left, List.cons.injEq, and_true, true_and, tCallX, tRs]
  have fin : ∀ (H4 : Hp), Same H H4 → ∀ a, Kept H4 a (clsC T c) [("value", b)] → tSeq (tIfS (tTest (tOp (fun x y H Q => y = V.non ∧ Q (V.bl (decide (x = V.non))) H) (tVar 4) (tC V.non))) (tRet (tC V.non)) tNext)
      (tSeq (tIfS (tB (tCB (rIsi K) (tCons (tQx K (Str.ofString "value") (tVar 4)) (tCons (tC (V.ty "list")) tNil)))) (tDrop (tBM K "list" rAppend (tQx K (Str.ofString "value") (tVar 4)) (tCons (tC (V.str (Str.ofString "more"))) tNil))) tNext)
        (tRet (tLst (tCons (tCB (rIsQ K) (tCons (tVar 4) (tCons (tC (V.ref T.c_InvalidTree)) tNil))) (tCons (tCB (rIsQ K) (tCons (tVar 4) (tCons (tC (V.ref T.c_InvalidAddress)) tNil))) (tCons (tCB rReprV (tCons (tQx K (Str.ofString "value") (tVar 4)) tNil)) tNil))))))
      { nx := fun x H' => Q V.non H', rt := Q } [some (V.int (n : Nat)), some u, some v, some x, some (.ref a), none] H4 := fun H4 s4 a kp => by
    simp only [tQx, cxOf_K, tAsg2, tYes, wipe, tSeq, tIfS, tNot, tB, tCB, tCons, tNil, tVar, tC, tTest, tOp, tAnd, tOr, tAsg, gName, tRet, tRetN, tDrop, tNext, tIf, tCall, tTup, tLst, tNotV, tAndV, tOrV, tUn, rI0, rI, rU, rEq, rNe, tM1, tM0, tBM, tBM0, tSl, tPart, tNoPart, iStr, iEnumS, iRng1, iRng2, iList, gSub, tBits, tAug, tPar, L2.start, List.map_cons, List.map_nil, List.length_cons, List.length_nil, List.getElem?_cons_zero, List.getElem?_cons_succ, List.cons_append, List.nil_append, List.append_nil, List.set_cons_zero, List.set_cons_succ, List.replicate_succ, List.replicate_zero, Option.some.injEq, exists_eq_left', V.int.injEq, V.str.injEq, V.ref.injEq, V.bl.injEq, exists_and_left, exists_eq_left, List.cons.injEq, and_true, true_and, tCallX, tRs]
    rw [if_neg (by simp)]
    rcases sh with ⟨d, ty, gd, tx, hk, q⟩ | ⟨l, ws, rfl, hl, hw, hr2, q⟩
    · refine ⟨clsC T c, xfC T c, noC T c, _, kp, b, rfl, b, _, ty, _, false, rfl, .ty _, tyX_same tx s4, hk, false, rfl, ?_⟩
      rw [if_neg (by decide)]
      refine ⟨a, clsC T c, _, _, _, c, rfl, (ecC T c).ec, kp, .own _, kitT T c, a, clsC T c, _, _, _, !c, rfl, (ecC T c).ec, kp, .own _, kitA T c, clsC T c, xfC T c, noC T c, _, kp, b, rfl, (Good.same gd s4).repr ⟨by decide, fun p np => ?_⟩⟩
      exact q H4 s4 p _ np ((L2.Same.refl H4).new np _) upd_same
    · have h4 := s4 _ _ hl
      refine ⟨clsC T c, xfC T c, noC T c, _, kp, .ref l, rfl, _, _, _, _, true, rfl, .ty _, .base (.lst h4), kit_ty (by decide +kernel), true, rfl, ?_⟩
      rw [if_pos rfl]
      refine ⟨clsC T c, xfC T c, noC T c, _, kp, .ref l, rfl, tyV_lst h4, l, _, _, rfl, rfl, h4, by rw [List.length_map]; exact small5' (by omega), ?_⟩
      have k1 : Keep l H4 (upd H4 l (.lst (ws.map V.str ++ [V.str (Str.ofString "more")]))) := fun b o nb hb => by rw [upd_ne nb]; exact hb
      have h1 : upd H4 l (.lst (ws.map V.str ++ [V.str (Str.ofString "more")])) l = some (.lst ((ws ++ [("more" : Str)]).map V.str)) := by
        rw [upd_same, List.map_append]
        rfl
      have kp1 := Kept.keep kp k1 h4
      generalize upd H4 l (.lst (ws.map V.str ++ [V.str (Str.ofString "more")])) = H5 at k1 h1 kp1 ⊢
      have gd : Good H5 (.ref l) _ := goodStr _ h1 (by simp; omega) (fun z hz => by
        rcases List.mem_append.mp hz with hz | hz
        · exact hr2 z hz
        · rw [List.mem_singleton.mp hz]; decide +kernel)
      refine ⟨a, clsC T c, _, _, _, c, rfl, (ecC T c).ec, kp1, .own _, kitT T c, a, clsC T c, _, _, _, !c, rfl, (ecC T c).ec, kp1, .own _, kitA T c, clsC T c, xfC T c, noC T c, _, kp1, .ref l, rfl, Good.repr gd ⟨by decide, fun p np => ?_⟩⟩
      exact q H5 (fun b o nb hb => k1 b o nb (s4 _ _ hb)) h1 p _ np ((L2.Same.refl H5).new np _) upd_same
  have out : ∀ (D : Ends) (σ : L2.St), (∀ H4, Same H H4 → ∀ a, Kept H4 a (clsC T c) [("value", b)] → D.nx (((σ.set 5 (some (.ref a))).set 4 (some (.ref a))).set 5 none) H4) →
      Out (clsC T c) b H fun cls d H3 => wKeep K (.ref T.c_TurnError) 5 4 (fun _ _ _ _ => False) D cls d σ H3 := fun D σ go d' H2 s2 nd hd => by
    refine ⟨clsC T c, true, rfl, exmT T (ecC T c), fun _ a na => ?_, fun z => by cases z⟩
    have da : d' ≠ a := fun z => by rw [z, na] at hd; cases hd
    exact go _ (s2.new (s2.free na) (kxo a (clsC T c) (some d'))) a ⟨d', upd_same, by rw [upd_ne da]; exact hd⟩
  refine ⟨rfl, ?_⟩
  have h01 : n = 0 ∨ n = 1 := by omega
  rcases h01 with rfl | rfl
  · rw [if_pos (by decide)]
    rcases ref with ⟨rfl, rfl, nt⟩ | ⟨rfl, rfl, t, rfl, ht, ba⟩ | ⟨_, _, z, _⟩
    · exact ⟨_, _, rfl, .inr ⟨nt, out _ _ fun H4 s4 a kp => fin H4 s4 a kp⟩⟩
    · exact ⟨_, _, rfl, .inl ⟨t, rfl, ht, .inr ⟨ba, out _ _ fun H4 s4 a kp => fin H4 s4 a kp⟩⟩⟩
    · cases z
  · rw [if_neg (by decide)]
    rcases ref with ⟨rfl, rfl, nt⟩ | ⟨rfl, rfl, t, rfl, ht, ba⟩ | ⟨rfl, rfl, _, t, a0, s', rfl, ht, rfl, ha, hi, e, nt⟩
    · exact ⟨_, _, _, rfl, .inr ⟨nt, out _ _ fun H4 s4 a kp => fin H4 s4 a kp⟩⟩
    · exact ⟨_, _, _, rfl, .inl ⟨t, rfl, ht, .inr ⟨ba, out _ _ fun H4 s4 a kp => fin H4 s4 a kp⟩⟩⟩
    · exact ⟨_, _, _, rfl, .inl ⟨t, rfl, ht, .inl ⟨a0, s', rfl, ha, hi, e, .inr ⟨nt, out _ _ fun H4 s4 a kp => fin H4 s4 a kp⟩⟩⟩⟩

theorem csLt : ∀ (t : Tr) (c : Nat), c ∈ t.cs → c < 0x110000
  | .leaf, c, h => by rw [List.mem_singleton.mp h]; decide
  | .node l r, c, h => by
    have h' : c = 40 ∨ c ∈ l.cs ∨ c ∈ r.cs ∨ c = 41 := by simpa [Tr.cs] using h
    rcases h' with rfl | h' | h' | rfl
    · decide
    · exact csLt l c h'
    · exact csLt r c h'
    · decide
theorem BadAdr.same {H H' : Hp} {t : Tr} {v : V} (b : BadAdr K H t v) (s : Same H H') : BadAdr K H' t v := b.imp (fun z => z.imp id fun y => NotStr.same y s) id
theorem ok_law_refused (T : Txt K mg) : FnG P w K mg base CX0 18 T.a_law_refused T.fd_law_refused ["_law_tree_here", "_law_address"] (sp_law_refused T) := by
  refine okG T.F_law_refused sc_law_refused (fun vs H Q E h => ?_) (fun cdv A outer s H vs Q E hG hr h => ?_)
  · obtain ⟨t, v, rfl, _⟩ := h; rfl
  obtain ⟨t, v, rfl, ht, bad, h⟩ := h
  have hru := hr.units
  refine ⟨_, (pss_cons (ps_for PassesOwn.never rfl (pi_range1 rfl T.z_range (pa_cons pe_int pa_nil)) (pg_name (i := 2) sc_law_refused.nd rfl (by first | exact Or.inl rfl | exact Or.inr rfl)) (pss_cons (ps_if (pt_cmpR (TZ.op_neV hru) (pe_callG (ok_law_caught T) hG (hr.mono (by first | decide | omega)) (by rfl) T.m_law_caught T.F_law_caught.kp T.b_law_caught .nil pass0 (pa_cons (pv 2) (pa_cons (pv 0) (pa_cons (pv 1) (pa_cons pe_int pa_nil))))) (pe_lst (pa_cons pe_bl (pa_cons pe_bl (pa_cons (pe_callB (cr_reprV hG hru) (by rfl) T.z_repr (by decide +kernel) (pa_cons (pv 1) pa_nil)) pa_nil)))) (nomark _)) (pss_one (ps_ret pe_bl)) pss_nil)
    (pss_one (ps_for PassesOwn.never rfl (pi_list (pe_lst (pa_cons pe_non (pa_cons pe_str (pa_cons pe_str (pa_cons (pe_lst (pa_cons (pv 0) pa_nil)) (pa_cons pe_int pa_nil))))))) (pg_name (i := 3) sc_law_refused.nd rfl (by first | exact Or.inl rfl | exact Or.inr rfl)) (pss_one (ps_if (pt_cmpR (TZ.op_neV hru) (pe_callG (ok_law_caught T) hG (hr.mono (by first | decide | omega)) (by rfl) T.m_law_caught T.F_law_caught.kp T.b_law_caught .nil pass0 (pa_cons (pv 2) (pa_cons (pv 3) (pa_cons (pv 1) (pa_cons pe_int pa_nil))))) (pe_lst (pa_cons pe_bl (pa_cons pe_bl (pa_cons (pe_callB (cr_reprV hG hru) (by rfl) T.z_repr (by decide +kernel) (pa_cons (pv 3) pa_nil)) pa_nil)))) (nomark _)) (pss_one (ps_ret pe_bl)) pss_nil))))))
    (pss_one (ps_ret pe_bl))), ?_⟩
  simp only [cxOf_K, tAsg2, tYes, wipe, tSeq, tIfS, tNot, tB, tCB, tCons, tNil, tVar, tC, tTest, tOp, tAnd, tOr, tAsg, gName, tRet, tRetN, tDrop, tNext, tIf, tCall, tTup, tLst, tNotV, tAndV, tOrV, tUn, rI0, rI, rU, rEq, rNe, tM1, tM0, tBM, tBM0, tSl, tPart, tNoPart, iStr, iEnumS, iRng1, iRng2, iList, gSub, tBits, tAug, tPar, L2.start, List.map_cons, List.map_nil, List.length_cons, List.length_nil, List.getElem?_cons_zero, List.getElem?_cons_succ, List.cons_append, List.nil_append, List.append_nil, List.set_cons_zero, List.set_cons_succ, List.replicate_succ, List.replicate_zero, Option.some.injEq, exists_eq_left', V.int.injEq, V.str.injEq, V.ref.injEq, V.bl.injEq, exists_and_left, exists_eq_left, List.cons.injEq, and_true, true_and, tCallX, tRs]
  obtain ⟨W, w0, wF, wE, wS⟩ : ∃ W : Nat → Hp → Prop, W 0 H ∧
      (∀ i H', i < 3 → W i H' → BadAdr K H' t v ∧ (∀ p, H' p = none → H p = none) ∧ (∀ g H2, H g = none → Keep g H' H2 → W i H2) ∧ (∀ H2, Same H' H2 → W i H2)) ∧
      (∀ H', W 2 H' → Q (.bl true) H') ∧
      (∀ (i : Nat) (H' : Hp) (q : PyData → Hp → Prop), i < 2 → W i H' → (∀ d H2, W (i + 1) H2 → Good H2 v d → q d H2) → Shows K H' v q) := by
    rcases h with ⟨d, ty, gd, h1, h2, q⟩ | ⟨l, ws, rfl, hl, hw, hr2, q⟩
    · refine ⟨fun _ H' => Same H H', L2.Same.refl H, fun i H' _ s => ⟨bad.same s, fun p hp => s.free hp, fun g H2 hg k b o hb => k b o (ne_of_none hb hg) (s b o hb), fun H2 s2 => s.trans s2⟩, q, fun i H' q0 hi s go => .inl ⟨d, ty, Good.same gd s, tyX_same h1 s, h2, fun H2 s2 => go d H2 (s.trans s2) (Good.same gd (s.trans s2))⟩⟩
    · refine ⟨fun i H' => Keep l H H' ∧ H' l = some (.lst ((ws ++ List.replicate i ("more" : Str)).map V.str)), ⟨Keep.of (L2.Same.refl H), by simpa using hl⟩, fun i H' _ s => ⟨.inl (.inr ⟨_, .base (.lst s.2), kit_ty (by decide +kernel)⟩), fun p hp => ?_, fun g H2 hg k => ⟨fun b o nb hb => k b o (ne_of_none hb hg) (s.1 b o nb hb), k _ _ (ne_of_none hl hg) s.2⟩, fun H2 s2 => ⟨s.1.trans (Keep.of s2), s2 _ _ s.2⟩⟩, fun H' s => q H' s.1, fun i H' q0 hi s go => .inr ⟨l, _, rfl, s.2, by simp; omega, fun z hz => ?_, fun H2 k2 h2 => ?_⟩⟩
      · cases hq : H p with
        | none => rfl
        | some o =>
          by_cases e : p = l
          · rw [e, s.2] at hp; cases hp
          · rw [s.1 p o e hq] at hp; cases hp
      · rcases List.mem_append.mp hz with hz | hz
        · exact Nat.le_trans (hr2 z hz) (by decide)
        · rw [(List.mem_replicate.mp hz).2]; decide +kernel
      · have e : ws ++ List.replicate i ("more" : Str) ++ [("more" : Str)] = ws ++ List.replicate (i + 1) ("more" : Str) := by rw [List.replicate_succ', List.append_assoc]
        refine go _ H2 ⟨s.1.trans k2, by rw [h2, e]⟩ (goodStr _ h2 (by simp; omega) fun z hz => ?_)
        rcases List.mem_append.mp hz with hz | hz
        · rcases List.mem_append.mp hz with hz | hz
          · exact Nat.le_trans (hr2 z hz) (by decide)
          · rw [(List.mem_replicate.mp hz).2]; decide +kernel
        · rw [List.mem_singleton.mp hz]; decide +kernel
  refine ⟨2, rfl, by decide, by decide, for_range (fun i σ H' => ∃ a2 a3, σ = [some (trV t), some v, a2, a3] ∧ W i H') ⟨none, none, rfl, w0⟩ ?_ ?_⟩
  · rintro i σ H' hi ⟨a2, a3, rfl, s⟩
    have hi2 : i < 2 := hi
    simp only [cxOf_K, tAsg2, tYes, wipe, tSeq, tIfS, tNot, tB, tCB, tCons, tNil, tVar, tC, tTest, tOp, tAnd, tOr, tAsg, gName, tRet, tRetN, tDrop, tNext, tIf, tCall, tTup, tLst, tNotV, tAndV, tOrV, tUn, rI0, rI, rU, rEq, rNe, tM1, tM0, tBM, tBM0, tSl, tPart, tNoPart, iStr, iEnumS, iRng1, iRng2, iList, gSub, tBits, tAug, tPar, L2.start, List.map_cons, List.map_nil, List.length_cons, List.length_nil, List.getElem?_cons_zero, List.getElem?_cons_succ, List.cons_append, List.nil_append, List.append_nil, List.set_cons_zero, List.set_cons_succ, List.replicate_succ, List.replicate_zero, Option.some.injEq, exists_eq_left', V.int.injEq, V.str.injEq, V.ref.injEq, V.bl.injEq, exists_and_left, exists_eq_left, List.cons.injEq, and_true, true_and, tCallX, tRs]
    rw [show (0 : Int) + (i : Int) = ((i : Nat) : Int) by omega]
    obtain ⟨bd, fr, wK, wSm⟩ := wF i H' (by omega) s
    refine ⟨i, trV t, v, _, v, false, rfl, hi2, .inr (.inl ⟨rfl, rfl, t, rfl, by omega, bd⟩), wS i H' _ hi2 s fun d H2 w2 gd p H3 np s3 hp => ?_⟩
    obtain ⟨_, fr2, wK2, wSm2⟩ := wF (i + 1) H2 (by omega) w2
    have w3 := wSm2 _ s3
    refine (Good.same gd s3).repr ⟨by decide, fun p2 np2 => ?_⟩
    have hp2 := @upd_same H3 p2 (.lst [V.bl false, V.bl true, V.str d.shown])
    have hp1 : upd H3 p2 (.lst [V.bl false, V.bl true, V.str d.shown]) p = some (.lst [V.bl false, V.bl true, V.str d.shown]) := by
      rw [upd_ne (fun z => by rw [z, np2] at hp; cases hp)]; exact hp
    have w4 := (wF (i + 1) H3 (by omega) w3).2.2.2 _ ((L2.Same.refl H3).new np2 (.lst [V.bl false, V.bl true, V.str d.shown]))
    have fr4 : ∀ b, upd H3 p2 (.lst [V.bl false, V.bl true, V.str d.shown]) b = none → H3 b = none := fun b hb => by
      by_cases e : b = p2
      · rw [e]; exact np2
      · rw [upd_ne e] at hb; exact hb
    refine ⟨p, p2, _, rfl, rfl, SqL.of hp1, SqL.of hp2, fun z hz => ?_, false, rfl, ?_⟩
    · simp only [List.mem_cons, List.mem_nil_iff, or_false] at hz
      rcases hz with rfl | rfl | rfl <;> rfl
    rw [if_neg (by decide)]
    generalize upd H3 p2 (.lst [V.bl false, V.bl true, V.str d.shown]) = H4 at hp2 hp1 w4 fr4 ⊢
    refine ⟨_, rfl, small5 (by simp), fun q1 n1 => ⟨small5 (by simp), fun q2 n2 => ?_⟩⟩
    have s5 := (L2.Same.refl H4).new n1 (.lst [trV t])
    have h5 : upd H4 q1 (.lst [trV t]) q1 = some _ := upd_same
    generalize upd H4 q1 (.lst [trV t]) = H5 at s5 h5 n2 ⊢
    have s6 := (L2.Same.refl H5).new n2 (.lst [V.non, .str "", .str "(.)", .ref q1, .int 5])
    have h6 : upd H5 q2 (.lst [V.non, .str "", .str "(.)", .ref q1, .int 5]) q2 = some _ := upd_same
    generalize hHL : upd H5 q2 _ = HL at s6 h6 ⊢
    have k1 := s6 _ _ h5
    have q12 : q1 ≠ q2 := fun z => by rw [z, n2] at h5; cases h5
    have nq1 : H q1 = none := (wF (i + 1) H4 (by omega) w4).2.1 _ n1
    have w5 := (wF (i + 1) H4 (by omega) w4).2.2.2 _ (s5.trans s6)
    clear hHL s5 s6 h5 n1 n2 fr4 hp2 hp1 w4 w3 w2 s3 hp np np2 gd fr2 wK2 wSm2 wSm wK fr bd s
    refine ⟨q2, rfl, ⟨_, SqL.of h6⟩, for_list (K := K) (a := q2) (xs := [V.non, .str "", .str "(.)", .ref q1, .int 5])
      (fun j σ H' => ∃ b3, σ = [some (trV t), some v, some (.int (i : Nat)), b3] ∧ W (i + 1) H' ∧ H' q2 = some (.lst [V.non, .str "", .str "(.)", .ref q1, .int 5]) ∧ (j ≤ 3 → H' q1 = some (.lst [trV t]))) ⟨_, rfl, w5, h6, fun _ => k1⟩ ?_ ?_ ?_⟩
    · rintro j σ H' hj ⟨b3, rfl, wj, hq2, hq1⟩
      exact SqL.of hq2
    · rintro j x σ H' hj ⟨b3, rfl, wj, hq2, hq1⟩
      simp only [cxOf_K, tAsg2, tYes, wipe, tSeq, tIfS, tNot, tB, tCB, tCons, tNil, tVar, tC, tTest, tOp, tAnd, tOr, tAsg, gName, tRet, tRetN, tDrop, tNext, tIf, tCall, tTup, tLst, tNotV, tAndV, tOrV, tUn, rI0, rI, rU, rEq, rNe, tM1, tM0, tBM, tBM0, tSl, tPart, tNoPart, iStr, iEnumS, iRng1, iRng2, iList, gSub, tBits, tAug, tPar, L2.start, List.map_cons, List.map_nil, List.length_cons, List.length_nil, List.getElem?_cons_zero, List.getElem?_cons_succ, List.cons_append, List.nil_append, List.append_nil, List.set_cons_zero, List.set_cons_succ, List.replicate_succ, List.replicate_zero, Option.some.injEq, exists_eq_left', V.int.injEq, V.str.injEq, V.ref.injEq, V.bl.injEq, exists_and_left, exists_eq_left, List.cons.injEq, and_true, true_and, tCallX, tRs]
      have fin : ∀ (d : PyData) (H1 : Hp), Good H1 x d → W (i + 1) H1 → H1 q2 = some (.lst [V.non, .str "", .str "(.)", .ref q1, .int 5]) → (j + 1 ≤ 3 → H1 q1 = some (.lst [trV t])) →
          ∀ p H2, H1 p = none → Same H1 H2 → H2 p = some (.lst [.bl true, .bl (!true), .str d.shown]) →
            rReprV [x] H2 fun x H1 => 0 + 1 + 1 + 1 ≤ sizeLine ∧ ∀ (p' : Addr), H1 p' = none → TZ.rNeV K (.ref p) (V.ref p') (upd H1 p' (HO.lst [V.bl true, V.bl false, x])) fun x H' =>
                ∃ k, x = V.bl k ∧ if k = true then Q (V.bl false) H' else W (i + 1) H' ∧ H' q2 = some (HO.lst [V.non, V.str (Str.ofString ""), V.str (Str.ofString "(.)"), V.ref q1, V.int 5]) ∧ (j + 1 ≤ 3 → H' q1 = some (HO.lst [trV t])) := by
        intro d H1 gd w1 e2 e1 p H2 np s2 hp
        refine (Good.same gd s2).repr ⟨by decide, fun p' np' => ?_⟩
        have s3 := s2.new (s2.free np') (.lst [V.bl true, V.bl false, V.str d.shown])
        have hp1 := ((L2.Same.refl H2).new np' (.lst [V.bl true, V.bl false, V.str d.shown])) _ _ hp
        refine ⟨p, p', _, rfl, rfl, SqL.of hp1, SqL.of upd_same, fun z hz => ?_, false, rfl, ?_⟩
        · simp only [List.mem_cons, List.mem_nil_iff, or_false] at hz
          rcases hz with rfl | rfl | rfl <;> rfl
        rw [if_neg (by decide)]
        exact ⟨(wF (i + 1) H1 (by omega) w1).2.2.2 _ s3, s3 _ _ e2, fun z => s3 _ _ (e1 z)⟩
      suffices hs : ∀ QQ : VK, (∀ (d : PyData) (H1 : Hp), Good H1 x d → W (i + 1) H1 → H1 q2 = some (.lst [V.non, .str "", .str "(.)", .ref q1, .int 5]) → (j + 1 ≤ 3 → H1 q1 = some (.lst [trV t])) →
          ∀ p H2, H1 p = none → Same H1 H2 → H2 p = some (.lst [.bl true, .bl (!true), .str d.shown]) → QQ (.ref p) H2) → sp_law_caught T [V.int (i : Nat), x, v, V.int 7] H' QQ E0 from hs _ fin
      clear fin
      intro QQ fin
      have flat : ∀ (d : PyData) ty, NotTree K H' x → Good H' x d → TyX K H' x ty → PySem.W.kitOne K ty (.type "list") = some false → (j + 1 ≤ 3 → H' q1 = some (.lst [trV t])) → sp_law_caught T [V.int (i : Nat), x, v, V.int 7] H' QQ E0 := fun d ty nt gd h1 h2 e1 =>
        ⟨i, x, v, _, x, true, rfl, hi2, .inl ⟨rfl, rfl, nt⟩, .inl ⟨d, ty, gd, h1, h2, fun H1 s1 => fin d H1 (Good.same gd s1) ((wF (i + 1) H' (by omega) wj).2.2.2 _ s1) (s1 _ _ hq2) fun z => s1 _ _ (e1 z)⟩⟩
      have txt : ∀ z : Str, x = .str z → isT z.cps.toList ["tree"] = false → z.length ≤ 1000 → (reprText z).length ≤ 1000000 → (j + 1 ≤ 3 → H' q1 = some (.lst [trV t])) → sp_law_caught T [V.int (i : Nat), x, v, V.int 7] H' QQ E0 := fun z hx h1 h2 h3 e1 =>
        by
        subst hx
        exact flat (.str z) _ (.inl ⟨z, rfl, by omega, h1⟩) ⟨.str z, rfl, by simp [PyData.depth], by simpa only [PyData.shown] using h3⟩ (.base (.str z)) (kit_ty (by decide +kernel)) e1
      match j, hj with
      | 0, hj => cases hj; exact flat .none _ (.inr ⟨_, .base .non, kit_ty (by decide +kernel)⟩) ⟨.non, by decide +kernel, by decide +kernel, by decide +kernel⟩ (.base .non) (kit_ty (by decide +kernel)) fun _ => hq1 (by decide)
      | 1, hj => cases hj; exact txt _ rfl (by decide +kernel) (by decide +kernel) (by decide +kernel) fun _ => hq1 (by decide)
      | 2, hj => cases hj; exact txt _ rfl (by decide +kernel) (by decide +kernel) (by decide +kernel) fun _ => hq1 (by decide)
      | 3, hj =>
        cases hj
        have cl : t.cs.length ≤ 301 := by rw [Tr.cs_length, Tr.len_size]; omega
        have rl := PySem.StrLaws.reprText_len (S t.cs) (fun c hc => Nat.lt_of_lt_of_le (csLt t c (by simpa using hc)) (by decide))
        rw [S_len t.cs] at rl
        have h1 := hq1 (by decide)
        refine ⟨i, _, v, _, _, true, rfl, hi2, .inl ⟨rfl, rfl, .inr ⟨_, .base (.lst h1), kit_ty (by decide +kernel)⟩⟩, .inr ⟨q1, [S t.cs], rfl, h1, by simp, fun z hz => by rw [List.mem_singleton.mp hz]; omega, fun H1 k e => ?_⟩⟩
        refine fin _ H1 (goodStr [S t.cs, "more"] e (by simp) fun z hz => ?_) ((wF (i + 1) H' (by omega) wj).2.2.1 q1 H1 nq1 k) (k _ _ (fun z => q12 z.symm) hq2) fun z => absurd z (by decide)
        simp only [List.mem_cons, List.mem_nil_iff, or_false] at hz
        rcases hz with rfl | rfl
        · omega
        · decide +kernel
      | 4, hj => cases hj; exact flat (.int 5) _ (.inr ⟨_, .base (.int _), kit_ty (by decide +kernel)⟩) ⟨.int 5, by decide +kernel, by decide +kernel, by decide +kernel⟩ (.base (.int _)) (kit_ty (by decide +kernel)) fun z => absurd z (by decide)
      | n + 5, hj => cases hj
    · rintro σ H' ⟨b3, rfl, wj, hq2, hq1⟩
      exact ⟨_, _, rfl, wj⟩
  · rintro σ H' ⟨a2, a3, rfl, s⟩
    simp only [cxOf_K, tAsg2, tYes, wipe, tSeq, tIfS, tNot, tB, tCB, tCons, tNil, tVar, tC, tTest, tOp, tAnd, tOr, tAsg, gName, tRet, tRetN, tDrop, tNext, tIf, tCall, tTup, tLst, tNotV, tAndV, tOrV, tUn, rI0, rI, rU, rEq, rNe, tM1, tM0, tBM, tBM0, tSl, tPart, tNoPart, iStr, iEnumS, iRng1, iRng2, iList, gSub, tBits, tAug, tPar, L2.start, List.map_cons, List.map_nil, List.length_cons, List.length_nil, List.getElem?_cons_zero, List.getElem?_cons_succ, List.cons_append, List.nil_append, List.append_nil, List.set_cons_zero, List.set_cons_succ, List.replicate_succ, List.replicate_zero, Option.some.injEq, exists_eq_left', V.int.injEq, V.str.injEq, V.ref.injEq, V.bl.injEq, exists_and_left, exists_eq_left, List.cons.injEq, and_true, true_and, tCallX, tRs]
    exact wE H' s

theorem tat_leaf : ∀ (t : Tr) (a : List Nat), ∀ x ∈ t.lvA a, ∃ b, x = a ++ b ∧ isA b = true ∧ tat t b = some .leaf ∧ b.length ≤ t.size
  | .leaf, a, x, h => ⟨[], by rw [List.mem_singleton.mp h, List.append_nil], rfl, rfl, Nat.le_refl _⟩
  | .node l r, a, x, h => by
    rcases List.mem_append.mp h with h | h
    · obtain ⟨b, e, h1, h2, h3⟩ := tat_leaf l _ x h
      refine ⟨108 :: b, by rw [e]; simp, by simpa [isA] using h1, ?_, ?_⟩
      · show (if 108 = 108 then tat l b else tat r b) = _
        rw [if_pos rfl, h2]
      · show b.length + 1 ≤ l.size + r.size + 1
        omega
    · obtain ⟨b, e, h1, h2, h3⟩ := tat_leaf r _ x h
      refine ⟨114 :: b, by rw [e]; simp, by simpa [isA] using h1, ?_, ?_⟩
      · show (if 114 = 108 then tat l b else tat r b) = _
        rw [if_neg (by decide), h2]
      · show b.length + 1 ≤ l.size + r.size + 1
        omega
theorem tat_node : ∀ (t : Tr) (a : List Nat), ∀ x ∈ t.ndA a, ∃ b, x = a ++ b ∧ isA b = true ∧ (∃ s, tat t b = some s) ∧ b.length ≤ t.size
  | .leaf, a, x, h => by cases h
  | .node l r, a, x, h => by
    simp only [Tr.ndA, List.mem_append, List.mem_singleton] at h
    rcases h with (h | h) | h
    · obtain ⟨b, e, h1, ⟨s, h2⟩, h3⟩ := tat_node l _ x h
      refine ⟨108 :: b, by rw [e]; simp, by simpa [isA] using h1, ⟨s, ?_⟩, ?_⟩
      · show (if 108 = 108 then tat l b else tat r b) = _
        rw [if_pos rfl, h2]
      · show b.length + 1 ≤ l.size + r.size + 1
        omega
    · exact ⟨[], by rw [h, List.append_nil], rfl, ⟨_, rfl⟩, Nat.zero_le _⟩
    · obtain ⟨b, e, h1, ⟨s, h2⟩, h3⟩ := tat_node r _ x h
      refine ⟨114 :: b, by rw [e]; simp, by simpa [isA] using h1, ⟨s, ?_⟩, ?_⟩
      · show (if 114 = 108 then tat l b else tat r b) = _
        rw [if_neg (by decide), h2]
      · show b.length + 1 ≤ l.size + r.size + 1
        omega
theorem lvA0 {t : Tr} {x : List Nat} (h : x ∈ t.lvA []) : isA x = true ∧ tat t x = some .leaf ∧ x.length ≤ t.size := by
  obtain ⟨b, rfl, h1, h2, h3⟩ := tat_leaf t [] x h
  exact ⟨h1, h2, h3⟩
theorem ndA0 {t : Tr} {x : List Nat} (h : x ∈ t.ndA []) : isA x = true ∧ (∃ s, tat t x = some s) ∧ x.length ≤ t.size := by
  obtain ⟨b, rfl, h1, h2, h3⟩ := tat_node t [] x h
  exact ⟨h1, h2, h3⟩
theorem tat_off : ∀ (t : Tr) (b c : List Nat), tat t b = some .leaf → c ≠ [] → tat t (b ++ c) = none
  | t, [], c, h, hc => by
    cases c with
    | nil => exact absurd rfl hc
    | cons d ds =>
      have e : t = .leaf := by
        have : tat t [] = some t := by cases t <;> rfl
        rw [this] at h
        exact Option.some.inj h
      rw [e]
      rfl
  | .leaf, d :: b, c, h, hc => by cases h
  | .node l r, d :: b, c, h, hc => by
    show (if d = 108 then tat l (b ++ c) else tat r (b ++ c)) = none
    have h' : (if d = 108 then tat l b else tat r b) = some .leaf := h
    by_cases e : d = 108
    · rw [if_pos e] at h' ⊢
      exact tat_off l b c h' hc
    · rw [if_neg e] at h' ⊢
      exact tat_off r b c h' hc
theorem put_size : ∀ (t : Tr) (a : List Nat) (x : Tr), (put t a x).size ≤ t.size + x.size
  | t, [], x => by
    have : put t [] x = x := by cases t <;> rfl
    rw [this]
    omega
  | .leaf, d :: a, x => Nat.zero_le _
  | .node l r, d :: a, x => by
    show (if d = 108 then Tr.node (put l a x) r else Tr.node l (put r a x)).size ≤ l.size + r.size + 1 + x.size
    have h1 := put_size l a x
    have h2 := put_size r a x
    split
    · show (put l a x).size + r.size + 1 ≤ _
      omega
    · show l.size + (put r a x).size + 1 ≤ _
      omega
theorem tat_size : ∀ (t : Tr) (a : List Nat) (s : Tr), tat t a = some s → s.size ≤ t.size
  | t, [], s, h => by
    have : tat t [] = some t := by cases t <;> rfl
    rw [this] at h
    rw [Option.some.inj h]
    exact Nat.le_refl _
  | .leaf, d :: a, s, h => by cases h
  | .node l r, d :: a, s, h => by
    have h' : (if d = 108 then tat l a else tat r a) = some s := h
    show s.size ≤ l.size + r.size + 1
    split at h'
    · have := tat_size l a s h'; omega
    · have := tat_size r a s h'; omega
theorem hgt_size : ∀ t : Tr, Tr.hgt t ≤ t.size
  | .leaf => Nat.le_refl _
  | .node l r => by
    have h1 := hgt_size l
    have h2 := hgt_size r
    show max (Tr.hgt l) (Tr.hgt r) + 1 ≤ l.size + r.size + 1
    omega
theorem isA_app (a b : List Nat) : isA (a ++ b) = (isA a && isA b) := by simp [isA]
theorem isA_le {a : List Nat} (h : isA a = true) : ∀ c ∈ a, c < 0x110000 := fun c hc => by
  have := List.all_eq_true.mp h c hc
  simp at this
  rcases this with rfl | rfl <;> decide
theorem reprA {a : List Nat} (h : isA a = true) (n : Nat) (hn : a.length ≤ n) : (reprText (S a)).length ≤ 10 * n + 2 := by
  have rl := PySem.StrLaws.reprText_len (S a) (fun c hc => Nat.lt_of_lt_of_le (isA_le h c (by simpa using hc)) (by decide))
  rw [S_len a] at rl
  omega
theorem okL (a : List Nat) (h : ∀ c ∈ a, c < 0x110000) : PyData.strOk (S a) = true := by
  unfold PyData.strOk
  rw [Array.all_eq_true_iff_forall_mem]
  intro c hc
  exact decide_eq_true (h c (by simpa using hc))
theorem dpL {H : Hp} : ∀ xs : List (List Nat), DpAll K H (xs.map sV) (xs.map fun a => PyData.str (S a))
  | [] => .nil
  | x :: xs => .cons (.str _) (dpL xs)
theorem layL : ∀ xs : List (List Nat), (∀ a ∈ xs, isA a = true) → PyData.canLayAll0 (xs.map fun a => PyData.str (S a)) = true
  | [], _ => by simp [PyData.canLayAll0]
  | x :: xs, h => by
    simp only [List.map_cons, PyData.canLayAll0, PyData.canLay0, layL xs fun y hy => h y (List.mem_cons_of_mem _ hy), okL x (isA_le (h x (List.mem_cons_self ..)))]
    rfl
theorem depL : ∀ xs : List (List Nat), PyData.depthAll (xs.map fun a => PyData.str (S a)) = 0
  | [] => by simp [PyData.depthAll]
  | x :: xs => by simp only [List.map_cons, PyData.depthAll, PyData.depth, depL xs]; rfl
theorem eqL0 : ∀ xs : List (List Nat), PyData.eqvAll (xs.map fun a => PyData.str (S a)) (xs.map fun a => PyData.str (S a)) = true
  | [] => by simp [PyData.eqvAll]
  | x :: xs => by simp only [List.map_cons, PyData.eqvAll, PyData.eqv, eqL0 xs, beq_self_eq_true]; rfl
theorem eqAs {H : Hp} {a b : Addr} {xs : List (List Nat)} {Q : VK} (hx : ∀ a ∈ xs, isA a = true) (ha : H a = some (.lst (xs.map sV))) (hb : H b = some (.lst (xs.map sV))) (q : Q (.bl true) H) : rEqD K (.ref a) (.ref b) H Q := by
  have sh : SeqAt.shaped (.list (xs.map fun a => PyData.str (S a))) = true := by
    unfold SeqAt.shaped
    simp only [PyData.canLay0, PyData.depth, layL xs hx, depL]
    decide
  refine ⟨.list (xs.map fun a => PyData.str (S a)), .list (xs.map fun a => PyData.str (S a)), .lst (SqL.of ha) (dpL xs), .lst (SqL.of hb) (dpL xs), sh, sh, ?_⟩
  simp only [PyData.eqv, eqL0 xs]
  exact q

theorem lcStep {H4 H' : Hp} {D : Addr} {xs : List (List Nat)} {y : List Nat} {i B : Nat} {c : Int} (hc : c = (B : Int)) (hD : H4 D = none) (s5 : Same H4 H') (hy : xs[i]? = some y)
    (hd : H' D = some (.lst (((xs.take i).filter (fun x => decide (B < x.length))).map sV))) (hx : xs.length ≤ 1000) (hl : y.length ≤ 1000) :
    (S y).length ≤ sizeLine ∧ if decide (c < ((S y).length : Int)) = true then ∃ acc, H' D = some (HO.lst acc) ∧ acc.length < sizeLine ∧ Same H4 (upd H' D (HO.lst (acc ++ [sV y]))) ∧
        upd H' D (HO.lst (acc ++ [sV y])) D = some (HO.lst (((xs.take (i + 1)).filter (fun x => decide (B < x.length))).map sV))
      else Same H4 H' ∧ H' D = some (HO.lst (((xs.take (i + 1)).filter (fun x => decide (B < x.length))).map sV)) := by
  have tk : xs.take (i + 1) = xs.take i ++ [y] := by
    rw [List.take_add_one, hy]
    rfl
  rw [S_len y, hc, tk, List.filter_append]
  refine ⟨small5 (by omega), ?_⟩
  by_cases h : B < y.length
  · rw [if_pos (by simp; omega)]
    refine ⟨_, hd, ?_, s5.new hD _, ?_⟩
    · rw [List.length_map]
      have := List.length_filter_le (fun x : List Nat => decide (B < x.length)) (xs.take i)
      rw [List.length_take] at this
      exact small5' (by omega)
    · rw [upd_same, List.filter_cons_of_pos (by simp [h])]
      simp
  · rw [if_neg (by simp; omega)]
    refine ⟨s5, ?_⟩
    rw [List.filter_cons_of_neg (by simp [h])]
    simpa using hd
theorem ok_law_deep_right (T : Txt K mg) : FnDG P w K mg base CX0 203 15 T.a_law_deep_right T.fd_law_deep_right ["_law_generator_here"] (sp_law_deep_right T) := by
  refine okDG T.F_law_deep_right sc_law_deep_right (fun vs H Q E h => ?_) (fun cdv A outer s H vs Q E hG hr h => ?_)
  · obtain ⟨g, n, rfl, _⟩ := h; rfl
  obtain ⟨g, n, rfl, hg, hn, q⟩ := h
  have hru := hr.room.units
  refine ⟨_, (pss_cons (ps_set (i := 1) sc_law_deep_right.nd rfl (by first | exact Or.inl rfl | exact Or.inr rfl) pe_str)
    (pss_cons (ps_for PassesOwn.never rfl (pi_range1 rfl T.z_range (pa_cons (pe_op op_add pe_int (pe_call (ok_law_random T) (hr.room.mono (by first | decide | omega)) (by rfl) T.m_law_random T.F_law_random.kp T.b_law_random .nil pass0 (pa_cons (pv 0) (pa_cons pe_int pa_nil)))) pa_nil)) (pg_name (i := 2) sc_law_deep_right.nd rfl (by first | exact Or.inl rfl | exact Or.inr rfl)) (pss_one (ps_set (i := 1) sc_law_deep_right.nd rfl (by first | exact Or.inl rfl | exact Or.inr rfl) (pe_ix ix_list (pe_lst (pa_cons (pe_op op_add_str (pe_op op_add_str pe_str (pv 1)) pe_str) (pa_cons (pe_op op_add_str (pe_op op_add_str pe_str (pv 1)) pe_str) pa_nil))) (pe_call (ok_law_random T) (hr.room.mono (by first | decide | omega)) (by rfl) T.m_law_random T.F_law_random.kp T.b_law_random .nil pass0 (pa_cons (pv 0) (pa_cons pe_int pa_nil))) (fun _ _ => rfl)))))
    (pss_cons (ps_set (i := 3) sc_law_deep_right.nd rfl (by first | exact Or.inl rfl | exact Or.inr rfl) (pe_call (ok_law_parsed T) (hr.room.mono (by first | decide | omega)) (by rfl) T.m_law_parsed T.F_law_parsed.kp T.b_law_parsed .nil pass0 (pa_cons (pv 1) pa_nil)))
    (pss_cons (ps_for PassesOwn.never rfl (pi_list (pe_lc (own := [("_law_road", 5)]) rfl sc_law_deep_right.nd (pi_list (pe_call (ok_leaves T) (hr.room.mono (by first | decide | omega)) (by rfl) T.m_leaves T.F_leaves.kp T.b_leaves .nil passL (pa_cons (pv 1) pa_nil))) (blkOk_by (own := [("_law_road", 5)]) (N := nm_law_deep_right) (sc := defScope s_law_deep_right) (by decide +kernel)) (fun _ _ _ _ _ => by exact (pg_name (i := 5) sc_law_deep_right.nd rfl (by first | exact Or.inl rfl | exact Or.inr rfl))) (fun _ _ _ _ _ => by exact (pts_one (pt_cmpR op_gt (pe_callB call_len_str (by rfl) T.z_len PySem.boot_len (pa_cons (pv 5) pa_nil)) pe_int (nomark _)))) (fun _ _ _ _ _ => by exact (pv 5)))) (pg_name (i := 4) sc_law_deep_right.nd rfl (by first | exact Or.inl rfl | exact Or.inr rfl)) (pss_one (ps_if (pw_or (pt_cmpR op_ne (pe_call (ok_part T) (hr.room.mono (by first | decide | omega)) (by rfl) T.m_part T.F_part.kp T.b_part .nil passL (pa_cons (pv 1) (pa_cons (pv 4) pa_nil))) pe_str (nomark _)) (pw_or1 (pt_cmpR (TZ.op_neV hru) (pe_callG (ok_law_caught T) hG (hr.room.mono (by first | decide | omega)) (by rfl) T.m_law_caught T.F_law_caught.kp T.b_law_caught .nil pass0 (pa_cons pe_int (pa_cons (pv 1) (pa_cons (pe_op op_add_str (pv 4) pe_str) (pa_cons pe_str pa_nil))))) (pe_lst (pa_cons pe_bl (pa_cons pe_bl (pa_cons (pe_callB (cr_reprV hG hru) (by rfl) T.z_repr (by decide +kernel) (pa_cons (pe_op op_add_str (pv 4) pe_str) pa_nil)) pa_nil)))) (nomark _)))).pt (pss_one (ps_ret pe_bl)) pss_nil)))
    (pss_cons (ps_for PassesOwn.never rfl (pi_list (pe_lc (own := [("_law_road", 5)]) rfl sc_law_deep_right.nd (pi_list (pe_call (ok_nodes T) (hr.room.mono (by first | decide | omega)) (by rfl) T.m_nodes T.F_nodes.kp T.b_nodes .nil passL (pa_cons (pv 1) pa_nil))) (blkOk_by (own := [("_law_road", 5)]) (N := nm_law_deep_right) (sc := defScope s_law_deep_right) (by decide +kernel)) (fun _ _ _ _ _ => by exact (pg_name (i := 5) sc_law_deep_right.nd rfl (by first | exact Or.inl rfl | exact Or.inr rfl))) (fun _ _ _ _ _ => by exact (pts_one (pt_cmpR op_gt (pe_callB call_len_str (by rfl) T.z_len PySem.boot_len (pa_cons (pv 5) pa_nil)) pe_int (nomark _)))) (fun _ _ _ _ _ => by exact (pv 5)))) (pg_name (i := 4) sc_law_deep_right.nd rfl (by first | exact Or.inl rfl | exact Or.inr rfl)) (pss_one (ps_if (pt_cmpR op_ne (pe_call (ok_replaced T) (hr.room.mono (by first | decide | omega)) (by rfl) T.m_replaced T.F_replaced.kp T.b_replaced .nil passL (pa_cons (pv 1) (pa_cons (pv 4) (pa_cons pe_str pa_nil)))) (pe_callD (ok_law_text T 200) (hr.mono (by first | decide | omega) (by first | decide | omega)) (by rfl) T.m_law_text T.F_law_text.kp T.b_law_text .nil pass0 (pa_cons (pe_callD (ok_law_put T 200) (hr.mono (by first | decide | omega) (by first | decide | omega)) (by rfl) T.m_law_put T.F_law_put.kp T.b_law_put .nil pass0 (pa_cons (pv 3) (pa_cons (pv 4) (pa_cons (pe_tup pa_nil) pa_nil)))) pa_nil)) (nomark _)) (pss_one (ps_ret pe_bl)) pss_nil)))
    (pss_one (ps_ret (pe_cmpR (op_eqD hru) (pe_call (ok_leaves T) (hr.room.mono (by first | decide | omega)) (by rfl) T.m_leaves T.F_leaves.kp T.b_leaves .nil passL (pa_cons (pv 1) pa_nil)) (pe_callD (ok_law_leaves T 200) (hr.mono (by first | decide | omega) (by first | decide | omega)) (by rfl) T.m_law_leaves T.F_law_leaves.kp T.b_law_leaves .nil pass0 (pa_cons (pv 3) (pa_cons pe_str pa_nil))) (nomark _))))))))), ?_⟩
  simp only [cxOf_K, tAsg2, tYes, wipe, tSeq, tIfS, tNot, tB, tCB, tCons, tNil, tVar, tC, tTest, tOp, tAnd, tOr, tAsg, gName, tRet, tRetN, tDrop, tNext, tIf, tCall, tTup, tLst, tNotV, tAndV, tOrV, tUn, rI0, rI, rU, rEq, rNe, tM1, tM0, tBM, tBM0, tSl, tPart, tNoPart, iStr, iEnumS, iRng1, iRng2, iList, gSub, tBits, tAug, tPar, L2.start, List.map_cons, List.map_nil, List.length_cons, List.length_nil, List.getElem?_cons_zero, List.getElem?_cons_succ, List.cons_append, List.nil_append, List.append_nil, List.set_cons_zero, List.set_cons_succ, List.replicate_succ, List.replicate_zero, Option.some.injEq, exists_eq_left', V.int.injEq, V.str.injEq, V.ref.injEq, V.bl.injEq, exists_and_left, exists_eq_left, List.cons.injEq, and_true, true_and, tCallX, tRs]
  refine ⟨_, rfl, g, 60, n, rfl, hg, by omega, by decide, by decide, fun r H1 r0 r1 k1 g1 => ?_⟩
  refine ⟨121, r, rfl, rfl, 121 + r, rfl, by omega, by omega, for_range (fun i σ H' => ∃ (t : Tr) (a2 : Option V), σ = [some (.ref g), some (trV t), a2, none, none, none] ∧ t.size = i ∧ GenAt H' g (n + 3 + 3 * i)) ⟨.leaf, none, by rw [lit_dot]; rfl, rfl, g1⟩ ?_ ?_⟩
  · rintro i σ H2 hi ⟨t, a2, rfl, ht, g2⟩
    have hi2 : i < 181 := by omega
    simp only [cxOf_K, tAsg2, tYes, wipe, tSeq, tIfS, tNot, tB, tCB, tCons, tNil, tVar, tC, tTest, tOp, tAnd, tOr, tAsg, gName, tRet, tRetN, tDrop, tNext, tIf, tCall, tTup, tLst, tNotV, tAndV, tOrV, tUn, rI0, rI, rU, rEq, rNe, tM1, tM0, tBM, tBM0, tSl, tPart, tNoPart, iStr, iEnumS, iRng1, iRng2, iList, gSub, tBits, tAug, tPar, L2.start, List.map_cons, List.map_nil, List.length_cons, List.length_nil, List.getElem?_cons_zero, List.getElem?_cons_succ, List.cons_append, List.nil_append, List.append_nil, List.set_cons_zero, List.set_cons_succ, List.replicate_succ, List.replicate_zero, Option.some.injEq, exists_eq_left', V.int.injEq, V.str.injEq, V.ref.injEq, V.bl.injEq, exists_and_left, exists_eq_left, List.cons.injEq, and_true, true_and, tCallX, tRs]
    have lL : t.cs.length = 3 * i + 1 := by rw [Tr.cs_length, Tr.len_size, ht]
    have t1 : Str.ofString "(" ++ S t.cs ++ Str.ofString ".)" = S (Tr.node t .leaf).cs := by
      rw [show Str.ofString "(" = S [40] by decide +kernel, show Str.ofString ".)" = S [46, 41] by decide +kernel, S_app, S_app]
      refine congrArg S ?_
      simp [Tr.cs]
    have t2 : Str.ofString "(." ++ S t.cs ++ Str.ofString ")" = S (Tr.node .leaf t).cs := by
      rw [show Str.ofString "(." = S [40, 46] by decide +kernel, show Str.ofString ")" = S [41] by decide +kernel, S_app, S_app]
      refine congrArg S ?_
      simp [Tr.cs]
    have e1 : (Str.ofString "(").length = 1 := rfl
    have e2 : (Str.ofString ".)").length = 2 := rfl
    have e3 : (Str.ofString "(.").length = 2 := rfl
    have e4 : (Str.ofString ")").length = 1 := rfl
    have e5 : (Str.ofString "(" ++ S t.cs).length = 1 + (3 * i + 1) := by
      rw [show Str.ofString "(" = S [40] by decide +kernel, S_app, S_len, List.length_append, lL]; rfl
    have e6 : (Str.ofString "(." ++ S t.cs).length = 2 + (3 * i + 1) := by
      rw [show Str.ofString "(." = S [40, 46] by decide +kernel, S_app, S_len, List.length_append, lL]; rfl
    have e7 : (S t.cs).length = 3 * i + 1 := by rw [S_len, lL]
    rw [t1, t2, e1, e2, e3, e4, e5, e6, e7]
    refine ⟨small5 (by omega), small5 (by omega), small5 (by omega), small5 (by omega), small5 (by omega), fun p np => ⟨g, 2, _, rfl, g2.new np, by omega, by decide, by decide, fun z H3 z0 z1 k3 g3 => ?_⟩⟩
    have pg : p ≠ g := by obtain ⟨o, ho⟩ := g2.some; exact (ne_of_none ho np).symm
    have hp := k3 _ _ pg (upd_same (H := H2) (a := p) (o := .lst [V.str (S (Tr.node t .leaf).cs), .str (S (Tr.node .leaf t).cs)]))
    have g4 : GenAt H3 g (n + 3 + 3 * (i + 1)) := by rw [show n + 3 + 3 * (i + 1) = n + 3 + 3 * i + 3 by omega]; exact g3
    have : z = 0 ∨ z = 1 := by omega
    rcases this with rfl | rfl
    · exact ⟨p, _, 0, _, rfl, rfl, SqL.of hp, rfl, .node t .leaf, _, ⟨rfl, rfl⟩, by show t.size + 0 + 1 = _; omega, g4⟩
    · exact ⟨p, _, 1, _, rfl, rfl, SqL.of hp, rfl, .node .leaf t, _, ⟨rfl, rfl⟩, by show 0 + t.size + 1 = _; omega, g4⟩
  · rintro σ H2 ⟨t, a2, rfl, ht, g2⟩
    have ht1 : 121 ≤ t.size := by omega
    have ht2 : t.size ≤ 181 := by omega
    simp only [cxOf_K, tAsg2, tYes, wipe, tSeq, tIfS, tNot, tB, tCB, tCons, tNil, tVar, tC, tTest, tOp, tAnd, tOr, tAsg, gName, tRet, tRetN, tDrop, tNext, tIf, tCall, tTup, tLst, tNotV, tAndV, tOrV, tUn, rI0, rI, rU, rEq, rNe, tM1, tM0, tBM, tBM0, tSl, tPart, tNoPart, iStr, iEnumS, iRng1, iRng2, iList, gSub, tBits, tAug, tPar, L2.start, List.map_cons, List.map_nil, List.length_cons, List.length_nil, List.getElem?_cons_zero, List.getElem?_cons_succ, List.cons_append, List.nil_append, List.append_nil, List.set_cons_zero, List.set_cons_succ, List.replicate_succ, List.replicate_zero, Option.some.injEq, exists_eq_left', V.int.injEq, V.str.injEq, V.ref.injEq, V.bl.injEq, exists_and_left, exists_eq_left, List.cons.injEq, and_true, true_and, tCallX, tRs]
    refine ⟨t, rfl, by omega, fun v H3 s3 pt => ?_⟩
    clear s3 g2 k1 g1 hg
    refine ⟨_, rfl, _, rfl, .inl ⟨t, rfl, by omega, fun p1 H4 np1 s4 hp1 => ?_⟩⟩
    have pt := pt.same s4
    clear s4 np1
    have lv := Tr.lvA_length t []
    have nv := Tr.ndA_length t []
    have lvs := Tr.lvs_size t
    refine ⟨p1, rfl, ⟨_, SqL.of hp1⟩, fun D hD => ?_⟩
    refine lc_list (K := K) (a := p1) (xs := (t.lvA []).map sV) (fun i H' => Same H4 H' ∧ H' D = some (.lst ((((t.lvA []).take i).filter (fun x => decide (118 < x.length))).map sV))) ⟨(L2.Same.refl H4).new hD _, upd_same⟩ (fun i H' _ hp' => SqL.of (hp'.1 _ _ hp1)) ?_ ?_
    · rintro i x H' hi ⟨s5, hd⟩
      rw [List.getElem?_map, Option.map_eq_some_iff] at hi
      obtain ⟨y, hy, rfl⟩ := hi
      have ly := (lvA0 (List.mem_of_getElem? hy)).2.2
      simp only [gCons, gNil, cxOf_K, tAsg2, tYes, wipe, tSeq, tIfS, tNot, tB, tCB, tCons, tNil, tVar, tC, tTest, tOp, tAnd, tOr, tAsg, gName, tRet, tRetN, tDrop, tNext, tIf, tCall, tTup, tLst, tNotV, tAndV, tOrV, tUn, rI0, rI, rU, rEq, rNe, tM1, tM0, tBM, tBM0, tSl, tPart, tNoPart, iStr, iEnumS, iRng1, iRng2, iList, gSub, tBits, tAug, tPar, L2.start, List.map_cons, List.map_nil, List.length_cons, List.length_nil, List.getElem?_cons_zero, List.getElem?_cons_succ, List.cons_append, List.nil_append, List.append_nil, List.set_cons_zero, List.set_cons_succ, List.replicate_succ, List.replicate_zero, Option.some.injEq, exists_eq_left', V.int.injEq, V.str.injEq, V.ref.injEq, V.bl.injEq, exists_and_left, exists_eq_left, List.cons.injEq, and_true, true_and, tCallX, tRs]
      exact lcStep (by rfl) hD s5 hy hd (by omega) (by omega)
    · rintro H' ⟨s5, hd⟩
      rw [List.length_map, List.take_length] at hd
      have pt := pt.same s5
      have hF : ∀ a ∈ (t.lvA []).filter (fun x => decide (118 < x.length)), a ∈ t.lvA [] := fun a h => (List.mem_filter.mp h).1
      generalize (t.lvA []).filter (fun x => decide (118 < x.length)) = F at hd hF
      refine ⟨D, rfl, ⟨_, SqL.of hd⟩, for_list (K := K) (a := D) (xs := F.map sV) (fun j σ H2 => ∃ b4, σ = [some (.ref g), some (trV t), a2, some v, b4, none] ∧ Same H' H2) ⟨_, rfl, L2.Same.refl H'⟩ ?_ ?_ ?_⟩
      · rintro j σ H2 hj ⟨b4, rfl, s0⟩
        exact SqL.of (s0 _ _ hd)
      · rintro j x σ H2 hj ⟨b4, rfl, s0⟩
        rw [List.getElem?_map, Option.map_eq_some_iff] at hj
        obtain ⟨a, hj, rfl⟩ := hj
        obtain ⟨aA, aL, al⟩ := lvA0 (hF a (List.mem_of_getElem? hj))
        simp only [cxOf_K, tAsg2, tYes, wipe, tSeq, tIfS, tNot, tB, tCB, tCons, tNil, tVar, tC, tTest, tOp, tAnd, tOr, tAsg, gName, tRet, tRetN, tDrop, tNext, tIf, tCall, tTup, tLst, tNotV, tAndV, tOrV, tUn, rI0, rI, rU, rEq, rNe, tM1, tM0, tBM, tBM0, tSl, tPart, tNoPart, iStr, iEnumS, iRng1, iRng2, iList, gSub, tBits, tAug, tPar, L2.start, List.map_cons, List.map_nil, List.length_cons, List.length_nil, List.getElem?_cons_zero, List.getElem?_cons_succ, List.cons_append, List.nil_append, List.append_nil, List.set_cons_zero, List.set_cons_succ, List.replicate_succ, List.replicate_zero, Option.some.injEq, exists_eq_left', V.int.injEq, V.str.injEq, V.ref.injEq, V.bl.injEq, exists_and_left, exists_eq_left, List.cons.injEq, and_true, true_and, tCallX, tRs]
        have eL : S a ++ Str.ofString "l" = S (a ++ [108]) := by rw [show Str.ofString "l" = S [108] by decide +kernel, S_app]
        have aA2 : isA (a ++ [108]) = true := by rw [isA_app, aA]; rfl
        have al2 : (a ++ [108]).length ≤ 182 := by rw [List.length_append]; simp only [List.length_cons, List.length_nil]; omega
        have rl := reprA aA2 182 al2
        have gd : ∀ H, Good H (sV (a ++ [108])) (.str (S (a ++ [108]))) := fun H => ⟨.str _, rfl, by simp [PyData.depth], by simp only [PyData.shown]; omega⟩
        have tn := tat_off t a [108] aL (by decide)
        have el : (Str.ofString "l").length = 1 := rfl
        rw [eL, el, S_len a]
        refine ⟨_, _, rfl, .inl ⟨t, rfl, by omega, .inl ⟨a, .leaf, rfl, by omega, aA, aL, fun H3 s3 => ⟨rfl, ?_⟩⟩⟩⟩
        rw [if_neg (by rw [lit_dot]; simp [Tr.cs])]
        refine ⟨small5 (by omega), 0, trV t, sV (a ++ [108]), _, _, false, rfl, by decide, .inr (.inl ⟨rfl, rfl, t, rfl, by omega, .inr ⟨_, rfl, by omega, aA2, tn⟩⟩), .inl ⟨_, _, gd _, .base (.str _), kit_ty (by decide +kernel), fun H4 s4 p H5 np s5 hp => ?_⟩⟩
        refine ⟨small5 (by omega), (gd _).repr ⟨small5 (by omega), fun p' np' => ?_⟩⟩
        have s6 := (L2.Same.refl H5).new np' (.lst [V.bl false, V.bl true, V.str (PyData.str (S (a ++ [108]))).shown])
        have hp1 := s6 _ _ hp
        refine ⟨p, p', _, rfl, rfl, SqL.of hp1, SqL.of upd_same, fun z hz => ?_, false, rfl, ?_⟩
        · simp only [List.mem_cons, List.mem_nil_iff, or_false] at hz
          rcases hz with rfl | rfl | rfl <;> rfl
        rw [if_neg (by decide)]
        exact s0.trans (s3.trans (s4.trans (s5.trans s6)))
      · rintro σ H2 ⟨b4, rfl, s0⟩
        simp only [cxOf_K, tAsg2, tYes, wipe, tSeq, tIfS, tNot, tB, tCB, tCons, tNil, tVar, tC, tTest, tOp, tAnd, tOr, tAsg, gName, tRet, tRetN, tDrop, tNext, tIf, tCall, tTup, tLst, tNotV, tAndV, tOrV, tUn, rI0, rI, rU, rEq, rNe, tM1, tM0, tBM, tBM0, tSl, tPart, tNoPart, iStr, iEnumS, iRng1, iRng2, iList, gSub, tBits, tAug, tPar, L2.start, List.map_cons, List.map_nil, List.length_cons, List.length_nil, List.getElem?_cons_zero, List.getElem?_cons_succ, List.cons_append, List.nil_append, List.append_nil, List.set_cons_zero, List.set_cons_succ, List.replicate_succ, List.replicate_zero, Option.some.injEq, exists_eq_left', V.int.injEq, V.str.injEq, V.ref.injEq, V.bl.injEq, exists_and_left, exists_eq_left, List.cons.injEq, and_true, true_and, tCallX, tRs]
        have pt := pt.same s0
        refine ⟨_, rfl, _, rfl, .inl ⟨t, rfl, by omega, fun p2 H5 np2 s6 hp2 => ?_⟩⟩
        have pt := pt.same s6
        refine ⟨p2, rfl, ⟨_, SqL.of hp2⟩, fun D2 hD2 => ?_⟩
        refine lc_list (K := K) (a := p2) (xs := (t.ndA []).map sV) (fun i H' => Same H5 H' ∧ H' D2 = some (.lst ((((t.ndA []).take i).filter (fun x => decide (117 < x.length))).map sV))) ⟨(L2.Same.refl H5).new hD2 _, upd_same⟩ (fun i H' _ hp' => SqL.of (hp'.1 _ _ hp2)) ?_ ?_
        · rintro i x H' hi ⟨s7, hd⟩
          rw [List.getElem?_map, Option.map_eq_some_iff] at hi
          obtain ⟨y, hy, rfl⟩ := hi
          have ly := (ndA0 (List.mem_of_getElem? hy)).2.2
          simp only [gCons, gNil, cxOf_K, tAsg2, tYes, wipe, tSeq, tIfS, tNot, tB, tCB, tCons, tNil, tVar, tC, tTest, tOp, tAnd, tOr, tAsg, gName, tRet, tRetN, tDrop, tNext, tIf, tCall, tTup, tLst, tNotV, tAndV, tOrV, tUn, rI0, rI, rU, rEq, rNe, tM1, tM0, tBM, tBM0, tSl, tPart, tNoPart, iStr, iEnumS, iRng1, iRng2, iList, gSub, tBits, tAug, tPar, L2.start, List.map_cons, List.map_nil, List.length_cons, List.length_nil, List.getElem?_cons_zero, List.getElem?_cons_succ, List.cons_append, List.nil_append, List.append_nil, List.set_cons_zero, List.set_cons_succ, List.replicate_succ, List.replicate_zero, Option.some.injEq, exists_eq_left', V.int.injEq, V.str.injEq, V.ref.injEq, V.bl.injEq, exists_and_left, exists_eq_left, List.cons.injEq, and_true, true_and, tCallX, tRs]
          exact lcStep (by rfl) hD2 s7 hy hd (by omega) (by omega)
        rintro H' ⟨s7, hd⟩
        rw [List.length_map, List.take_length] at hd
        have pt := pt.same s7
        have hF : ∀ a ∈ (t.ndA []).filter (fun x => decide (117 < x.length)), a ∈ t.ndA [] := fun a h => (List.mem_filter.mp h).1
        generalize (t.ndA []).filter (fun x => decide (117 < x.length)) = F2 at hd hF
        refine ⟨D2, rfl, ⟨_, SqL.of hd⟩, for_list (K := K) (a := D2) (xs := F2.map sV) (fun j σ H2 => ∃ b4, σ = [some (.ref g), some (trV t), a2, some v, b4, none] ∧ Same H' H2) ⟨_, rfl, L2.Same.refl H'⟩ ?_ ?_ ?_⟩
        · rintro j σ H2 hj ⟨b4, rfl, s0⟩
          exact SqL.of (s0 _ _ hd)
        · rintro j x σ H2 hj ⟨b4, rfl, s0⟩
          rw [List.getElem?_map, Option.map_eq_some_iff] at hj
          obtain ⟨a, hj, rfl⟩ := hj
          obtain ⟨aA, ⟨s8, aL⟩, al⟩ := ndA0 (hF a (List.mem_of_getElem? hj))
          simp only [cxOf_K, tAsg2, tYes, wipe, tSeq, tIfS, tNot, tB, tCB, tCons, tNil, tVar, tC, tTest, tOp, tAnd, tOr, tAsg, gName, tRet, tRetN, tDrop, tNext, tIf, tCall, tTup, tLst, tNotV, tAndV, tOrV, tUn, rI0, rI, rU, rEq, rNe, tM1, tM0, tBM, tBM0, tSl, tPart, tNoPart, iStr, iEnumS, iRng1, iRng2, iList, gSub, tBits, tAug, tPar, L2.start, List.map_cons, List.map_nil, List.length_cons, List.length_nil, List.getElem?_cons_zero, List.getElem?_cons_succ, List.cons_append, List.nil_append, List.append_nil, List.set_cons_zero, List.set_cons_succ, List.replicate_succ, List.replicate_zero, Option.some.injEq, exists_eq_left', V.int.injEq, V.str.injEq, V.ref.injEq, V.bl.injEq, exists_and_left, exists_eq_left, List.cons.injEq, and_true, true_and, tCallX, tRs]
          refine ⟨_, _, _, rfl, .inl ⟨t, rfl, by omega, .inl ⟨a, s8, rfl, by omega, aA, aL, .inl ⟨.leaf, congrArg V.str lit_dot, by decide, fun H3 s3 => ?_⟩⟩⟩⟩
          refine ⟨by decide, fun p np => ?_⟩
          have s9 := (L2.Same.refl H3).new np (.tup [])
          have hp : upd H3 p (.tup []) p = some _ := upd_same
          generalize upd H3 p (.tup []) = H4 at s9 hp ⊢
          have sz := put_size t a .leaf
          have hz := hgt_size (put t a .leaf)
          have z0 : Tr.leaf.size = 0 := rfl
          refine ⟨v, .ref p, t, .leaf, s8, a, rfl, pt.same (s0.trans (s3.trans s9)), .leaf hp, aL, aA, by omega, by omega, fun u H6 s10 pu => ?_⟩
          refine ⟨u, _, rfl, pu, by omega, by omega, fun H7 s11 => ⟨rfl, ?_⟩⟩
          rw [if_neg (by simp)]
          exact s0.trans (s3.trans (s9.trans (s10.trans s11)))
        · rintro σ H2 ⟨b4, rfl, s0⟩
          simp only [cxOf_K, tAsg2, tYes, wipe, tSeq, tIfS, tNot, tB, tCB, tCons, tNil, tVar, tC, tTest, tOp, tAnd, tOr, tAsg, gName, tRet, tRetN, tDrop, tNext, tIf, tCall, tTup, tLst, tNotV, tAndV, tOrV, tUn, rI0, rI, rU, rEq, rNe, tM1, tM0, tBM, tBM0, tSl, tPart, tNoPart, iStr, iEnumS, iRng1, iRng2, iList, gSub, tBits, tAug, tPar, L2.start, List.map_cons, List.map_nil, List.length_cons, List.length_nil, List.getElem?_cons_zero, List.getElem?_cons_succ, List.cons_append, List.nil_append, List.append_nil, List.set_cons_zero, List.set_cons_succ, List.replicate_succ, List.replicate_zero, Option.some.injEq, exists_eq_left', V.int.injEq, V.str.injEq, V.ref.injEq, V.bl.injEq, exists_and_left, exists_eq_left, List.cons.injEq, and_true, true_and, tCallX, tRs]
          have pt := pt.same s0
          have hz := hgt_size t
          refine ⟨_, rfl, .inl ⟨t, rfl, by omega, fun p3 H6 np3 s8 hp3 => ?_⟩⟩
          have pt := pt.same s8
          refine ⟨v, [], t, by rw [show Str.ofString "" = S [] by decide +kernel], pt, by omega, by simp; omega, fun p4 H7 np4 s9 hp4 => ?_⟩
          exact eqAs (fun a ha => (lvA0 ha).1) (s9 _ _ hp3) hp4 (q _)

theorem Keep.same {g : Addr} {H H' : Hp} (k : Keep g H H') (h : H g = none) : Same H H' := fun b o hb => k b o (ne_of_none hb h) hb
theorem end_ne (c : Nat) : Str.ofString "end" ≠ S [c] := fun z => by
  have h := congrArg Str.length z
  have h3 : (Str.ofString "end").length = 3 := rfl
  rw [h3, S_len [c]] at h
  simp at h
theorem isT_more (t : Tr) : isT (t.cs ++ [46]) ["tree"] = false := by
  rw [isT_tree]
  exact isT_bad (wd := Str.ofString "end") rfl (fun z => absurd z.1 (by decide +kernel)) ⟨end_ne 46, fun z => absurd z.1 (by decide +kernel)⟩
theorem Shows.mono {H : Hp} {b : V} {q q' : PyData → Hp → Prop} (h : Shows K H b q) (m : ∀ d H, q d H → q' d H) : Shows K H b q' := by
  rcases h with ⟨d, ty, h1, h2, h3, h4⟩ | ⟨l, ws, h1, h2, h3, h4, h5⟩
  · exact .inl ⟨d, ty, h1, h2, h3, fun H' s => m _ _ (h4 H' s)⟩
  · exact .inr ⟨l, ws, h1, h2, h3, h4, fun H' k e => m _ _ (h5 H' k e)⟩
theorem cmpT {x : V} {d : PyData} {c c' : Bool} {H3 H4 : Hp} {p : Addr} {B R : Hp → Prop} (gd : Good H3 x d) (s : Same H3 H4) (hp : H4 p = some (.lst [.bl c, .bl c', .str d.shown])) (fin : ∀ H5, Same H3 H5 → R H5) :
    rReprV [x] H4 fun y H => 0 + 1 + 1 + 1 ≤ sizeLine ∧ ∀ p', H p' = none → TZ.rNeV K (.ref p) (.ref p') (upd H p' (.lst [.bl c, .bl c', y])) fun z H' => ∃ k, z = V.bl k ∧ if k = true then B H' else R H' := by
  refine (Good.same gd s).repr ⟨small5 (by omega), fun p' np' => ?_⟩
  have s3 := s.new (s.free np') (.lst [V.bl c, V.bl c', V.str d.shown])
  have hp1 := ((L2.Same.refl H4).new np' (.lst [V.bl c, V.bl c', V.str d.shown])) _ _ hp
  refine ⟨p, p', _, rfl, rfl, SqL.of hp1, SqL.of upd_same, fun z hz => ?_, false, rfl, ?_⟩
  · simp only [List.mem_cons, List.mem_nil_iff, or_false] at hz
    rcases hz with rfl | rfl | rfl <;> rfl
  rw [if_neg (by decide)]
  exact fin _ s3
theorem ok_law (T : Txt K mg) : FnDG P w K mg base CX0 205 18 T.a_law T.fd_law ["_law_script"] (sp_law K) := by
  refine okDG T.F_law sc_law (fun vs H Q E h => ?_) (fun cdv A outer s H vs Q E hG hr h => ?_)
  · obtain ⟨a, ns, rfl, _⟩ := h; rfl
  obtain ⟨a, ns, rfl, ha, hlen, q⟩ := h
  have hru := hr.room.units
  refine ⟨_, (pss_cons (ps_for PassesOwn.never rfl (pi_range1 rfl T.z_range (pa_cons pe_int pa_nil)) (pg_name (i := 1) sc_law.nd rfl (by first | exact Or.inl rfl | exact Or.inr rfl)) (pss_cons (ps_set (i := 2) sc_law.nd rfl (by first | exact Or.inl rfl | exact Or.inr rfl) (pe_call (ok_law_generator T) (hr.room.mono (by first | decide | omega)) (by rfl) T.m_law_generator T.F_law_generator.kp T.b_law_generator .nil pass0 (pa_cons (pv 0) (pa_cons (pv 1) pa_nil))))
    (pss_cons (ps_par (i := 3) (j := 4) rfl sc_law.nd rfl rfl (by decide) rfl rfl (pa_cons (pe_callD (ok_law_tree T 200) (hr.mono (by first | decide | omega) (by first | decide | omega)) (by rfl) T.m_law_tree T.F_law_tree.kp T.b_law_tree .nil pass0 (pa_cons (pv 2) (pa_cons (pe_call (ok_law_random T) (hr.room.mono (by first | decide | omega)) (by rfl) T.m_law_random T.F_law_random.kp T.b_law_random .nil pass0 (pa_cons (pv 2) (pa_cons pe_int pa_nil))) pa_nil))) (pa_cons (pe_callD (ok_law_tree T 200) (hr.mono (by first | decide | omega) (by first | decide | omega)) (by rfl) T.m_law_tree T.F_law_tree.kp T.b_law_tree .nil pass0 (pa_cons (pv 2) (pa_cons (pe_call (ok_law_random T) (hr.room.mono (by first | decide | omega)) (by rfl) T.m_law_random T.F_law_random.kp T.b_law_random .nil pass0 (pa_cons (pv 2) (pa_cons pe_int pa_nil))) pa_nil))) pa_nil)) rfl)
    (pss_cons (ps_set (i := 5) sc_law.nd rfl (by first | exact Or.inl rfl | exact Or.inr rfl) (pe_call (ok_law_parsed T) (hr.room.mono (by first | decide | omega)) (by rfl) T.m_law_parsed T.F_law_parsed.kp T.b_law_parsed .nil pass0 (pa_cons (pv 3) pa_nil)))
    (pss_cons (ps_set (i := 6) sc_law.nd rfl (by first | exact Or.inl rfl | exact Or.inr rfl) (pe_op op_catN (pe_callD (ok_law_leaves T 200) (hr.mono (by first | decide | omega) (by first | decide | omega)) (by rfl) T.m_law_leaves T.F_law_leaves.kp T.b_law_leaves .nil pass0 (pa_cons (pv 5) (pa_cons pe_str pa_nil))) (pe_callD (ok_law_nodes T 200) (hr.mono (by first | decide | omega) (by first | decide | omega)) (by rfl) T.m_law_nodes T.F_law_nodes.kp T.b_law_nodes .nil pass0 (pa_cons (pv 5) (pa_cons pe_str pa_nil)))))
    (pss_cons (ps_for PassesOwn.never rfl (pi_list (pv 6)) (pg_name (i := 7) sc_law.nd rfl (by first | exact Or.inl rfl | exact Or.inr rfl)) (pss_cons (ps_if (pt_cmpR op_ne (pe_call (ok_part T) (hr.room.mono (by first | decide | omega)) (by rfl) T.m_part T.F_part.kp T.b_part .nil passL (pa_cons (pv 3) (pa_cons (pv 7) pa_nil))) (pe_callD (ok_law_text T 200) (hr.mono (by first | decide | omega) (by first | decide | omega)) (by rfl) T.m_law_text T.F_law_text.kp T.b_law_text .nil pass0 (pa_cons (pe_call (ok_law_at T) (hr.room.mono (by first | decide | omega)) (by rfl) T.m_law_at T.F_law_at.kp T.b_law_at .nil pass0 (pa_cons (pv 5) (pa_cons (pv 7) pa_nil))) pa_nil)) (nomark _)) (pss_one (ps_ret pe_bl)) pss_nil)
    (pss_one (ps_if (pt_cmpR op_ne (pe_call (ok_replaced T) (hr.room.mono (by first | decide | omega)) (by rfl) T.m_replaced T.F_replaced.kp T.b_replaced .nil passL (pa_cons (pv 3) (pa_cons (pv 7) (pa_cons (pv 4) pa_nil)))) (pe_callD (ok_law_text T 200) (hr.mono (by first | decide | omega) (by first | decide | omega)) (by rfl) T.m_law_text T.F_law_text.kp T.b_law_text .nil pass0 (pa_cons (pe_callD (ok_law_put T 200) (hr.mono (by first | decide | omega) (by first | decide | omega)) (by rfl) T.m_law_put T.F_law_put.kp T.b_law_put .nil pass0 (pa_cons (pv 5) (pa_cons (pv 7) (pa_cons (pe_call (ok_law_parsed T) (hr.room.mono (by first | decide | omega)) (by rfl) T.m_law_parsed T.F_law_parsed.kp T.b_law_parsed .nil pass0 (pa_cons (pv 4) pa_nil)) pa_nil)))) pa_nil)) (nomark _)) (pss_one (ps_ret pe_bl)) pss_nil))))
    (pss_cons (ps_for PassesOwn.never rfl (pi_list (pe_callD (ok_law_leaves T 200) (hr.mono (by first | decide | omega) (by first | decide | omega)) (by rfl) T.m_law_leaves T.F_law_leaves.kp T.b_law_leaves .nil pass0 (pa_cons (pv 5) (pa_cons pe_str pa_nil)))) (pg_name (i := 8) sc_law.nd rfl (by first | exact Or.inl rfl | exact Or.inr rfl)) (pss_one (ps_if (pt_not (pt_val (pe_callG (ok_law_refused T) hG (hr.room.mono (by first | decide | omega)) (by rfl) T.m_law_refused T.F_law_refused.kp T.b_law_refused .nil pass0 (pa_cons (pv 3) (pa_cons (pe_op op_add_str (pv 8) (pe_ix ix_list (pe_lst (pa_cons pe_str (pa_cons pe_str (pa_cons pe_str (pa_cons pe_str pa_nil))))) (pe_call (ok_law_random T) (hr.room.mono (by first | decide | omega)) (by rfl) T.m_law_random T.F_law_random.kp T.b_law_random .nil pass0 (pa_cons (pv 2) (pa_cons pe_int pa_nil))) (fun _ _ => rfl))) pa_nil))))) (pss_one (ps_ret pe_bl)) pss_nil)))
    (pss_cons (ps_for PassesOwn.never rfl (pi_list (pe_lst (pa_cons pe_non (pa_cons pe_bl (pa_cons pe_int (pa_cons pe_str (pa_cons pe_str (pa_cons pe_str (pa_cons pe_str (pa_cons (pe_lst (pa_cons pe_str pa_nil)) (pa_cons (pe_tup (pa_cons pe_str (pa_cons pe_str pa_nil))) (pa_cons pe_dnewK (pa_cons pe_str (pa_cons pe_str pa_nil)))))))))))))) (pg_name (i := 7) sc_law.nd rfl (by first | exact Or.inl rfl | exact Or.inr rfl)) (pss_one (ps_if (pt_not (pt_val (pe_callG (ok_law_refused T) hG (hr.room.mono (by first | decide | omega)) (by rfl) T.m_law_refused T.F_law_refused.kp T.b_law_refused .nil pass0 (pa_cons (pv 3) (pa_cons (pv 7) pa_nil))))) (pss_one (ps_ret pe_bl)) pss_nil)))
    (pss_cons (ps_for PassesOwn.never rfl (pi_list (pe_lst (pa_cons pe_non (pa_cons pe_str (pa_cons pe_str (pa_cons pe_str (pa_cons pe_str (pa_cons (pe_op op_add_str (pv 3) pe_str) (pa_cons pe_int (pa_cons (pe_lst (pa_cons (pv 3) pa_nil)) (pa_cons pe_dnewK pa_nil))))))))))) (pg_name (i := 9) sc_law.nd rfl (by first | exact Or.inl rfl | exact Or.inr rfl)) (pss_one (ps_for PassesOwn.never rfl (pi_range1 rfl T.z_range (pa_cons pe_int pa_nil)) (pg_name (i := 10) sc_law.nd rfl (by first | exact Or.inl rfl | exact Or.inr rfl)) (pss_one (ps_if (pt_cmpR (TZ.op_neV hru) (pe_callG (ok_law_caught T) hG (hr.room.mono (by first | decide | omega)) (by rfl) T.m_law_caught T.F_law_caught.kp T.b_law_caught .nil pass0 (pa_cons (pv 10) (pa_cons (pv 9) (pa_cons pe_str (pa_cons pe_str pa_nil))))) (pe_lst (pa_cons pe_bl (pa_cons pe_bl (pa_cons (pe_callB (cr_reprV hG hru) (by rfl) T.z_repr (by decide +kernel) (pa_cons (pv 9) pa_nil)) pa_nil)))) (nomark _)) (pss_one (ps_ret pe_bl)) pss_nil)))))
    (pss_one (ps_for PassesOwn.never rfl (pi_list (pe_lst (pa_cons pe_non (pa_cons pe_str (pa_cons pe_str (pa_cons pe_int (pa_cons (pe_lst (pa_cons (pv 4) pa_nil)) pa_nil))))))) (pg_name (i := 9) sc_law.nd rfl (by first | exact Or.inl rfl | exact Or.inr rfl)) (pss_one (ps_if (pt_cmpR (TZ.op_neV hru) (pe_callG (ok_law_caught T) hG (hr.room.mono (by first | decide | omega)) (by rfl) T.m_law_caught T.F_law_caught.kp T.b_law_caught .nil pass0 (pa_cons pe_int (pa_cons (pv 3) (pa_cons (pe_ix ix_list (pv 6) (pe_call (ok_law_random T) (hr.room.mono (by first | decide | omega)) (by rfl) T.m_law_random T.F_law_random.kp T.b_law_random .nil pass0 (pa_cons (pv 2) (pa_cons (pe_callB call_len_seq (by rfl) T.z_len PySem.boot_len (pa_cons (pv 6) pa_nil)) pa_nil))) (fun _ _ => rfl)) (pa_cons (pv 9) pa_nil))))) (pe_lst (pa_cons pe_bl (pa_cons pe_bl (pa_cons (pe_callB (cr_reprV hG hru) (by rfl) T.z_repr (by decide +kernel) (pa_cons (pv 9) pa_nil)) pa_nil)))) (nomark _)) (pss_one (ps_ret pe_bl)) pss_nil)))))))))))))
    (pss_one (ps_ret (pe_callDG (ok_law_deep_right T) hG (hr.mono (by first | decide | omega) (by first | decide | omega)) (by rfl) T.m_law_deep_right T.F_law_deep_right.kp T.b_law_deep_right .nil pass0 (pa_cons (pe_call (ok_law_generator T) (hr.room.mono (by first | decide | omega)) (by rfl) T.m_law_generator T.F_law_generator.kp T.b_law_generator .nil pass0 (pa_cons (pv 0) (pa_cons pe_int pa_nil))) pa_nil))))), ?_⟩
  simp only [tDNewK, cxOf_K, tAsg2, tYes, wipe, tSeq, tIfS, tNot, tB, tCB, tCons, tNil, tVar, tC, tTest, tOp, tAnd, tOr, tAsg, gName, tRet, tRetN, tDrop, tNext, tIf, tCall, tTup, tLst, tNotV, tAndV, tOrV, tUn, rI0, rI, rU, rEq, rNe, tM1, tM0, tBM, tBM0, tSl, tPart, tNoPart, iStr, iEnumS, iRng1, iRng2, iList, gSub, tBits, tAug, tPar, L2.start, List.map_cons, List.map_nil, List.length_cons, List.length_nil, List.getElem?_cons_zero, List.getElem?_cons_succ, List.cons_append, List.nil_append, List.append_nil, List.set_cons_zero, List.set_cons_succ, List.replicate_succ, List.replicate_zero, Option.some.injEq, exists_eq_left', V.int.injEq, V.str.injEq, V.ref.injEq, V.bl.injEq, exists_and_left, exists_eq_left, List.cons.injEq, and_true, true_and, tCallX, tRs]
  refine ⟨_, rfl, by decide, by decide, for_range (fun i σ H' => ∃ a1 a2 a3 a4 a5 a6 a7 a8 a9 a10, σ = [some (.ref a), a1, a2, a3, a4, a5, a6, a7, a8, a9, a10] ∧ Same H H') ⟨none, none, none, none, none, none, none, none, none, none, rfl, L2.Same.refl H⟩ ?_ ?_⟩
  · rintro i σ H1 hi ⟨a1, a2, a3, a4, a5, a6, a7, a8, a9, a10, rfl, s1⟩
    have hi3 : i < 4 := hi
    simp only [cxOf_K, tAsg2, tYes, wipe, tSeq, tIfS, tNot, tB, tCB, tCons, tNil, tVar, tC, tTest, tOp, tAnd, tOr, tAsg, gName, tRet, tRetN, tDrop, tNext, tIf, tCall, tTup, tLst, tNotV, tAndV, tOrV, tUn, rI0, rI, rU, rEq, rNe, tM1, tM0, tBM, tBM0, tSl, tPart, tNoPart, iStr, iEnumS, iRng1, iRng2, iList, gSub, tBits, tAug, tPar, L2.start, List.map_cons, List.map_nil, List.length_cons, List.length_nil, List.getElem?_cons_zero, List.getElem?_cons_succ, List.cons_append, List.nil_append, List.append_nil, List.set_cons_zero, List.set_cons_succ, List.replicate_succ, List.replicate_zero, Option.some.injEq, exists_eq_left', V.int.injEq, V.str.injEq, V.ref.injEq, V.bl.injEq, exists_and_left, exists_eq_left, List.cons.injEq, and_true, true_and, tCallX, tRs]
    rw [show (0 : Int) + (i : Int) = ((i : Nat) : Int) by omega]
    refine ⟨a, ns, i, rfl, s1.seq ha, fun g H2 hg s2 g2 => ?_⟩
    have s2' := s1.trans s2
    have hg0 : H g = none := s1.free hg
    refine ⟨g, 21, _, rfl, g2, by omega, by decide, by decide, fun r H3 r0 r1 k3 g3 => ?_⟩
    refine ⟨g, r.toNat, _, by rw [show ((r.toNat : Nat) : Int) = r by omega], by omega, by omega, g3, by omega, fun t H4 ht k4 g4 => ?_⟩
    refine ⟨g, 4, _, rfl, g4, by omega, by decide, by decide, fun r' H5 r0' r1' k5 g5 => ?_⟩
    refine ⟨g, r'.toNat, _, by rw [show ((r'.toNat : Nat) : Int) = r' by omega], by omega, by omega, g5, by omega, fun o H6 ho k6 g6 => ?_⟩
    have s6 : Same H H6 := Keep.same (k := (Keep.of (g := g) s2').trans (k3.trans (k4.trans (k5.trans k6)))) hg0
    have g7 : GenAt H6 g 4000 := by obtain ⟨x, y, z, e1, e2, e3⟩ := g6; exact ⟨x, y, z, e1, e2, by omega⟩
    clear k3 k4 k5 k6 g2 g3 g4 g5 g6 s2 s2' s1
    have ht20 : t.size ≤ 20 := by omega
    have ho3 : o.size ≤ 3 := by omega
    refine ⟨_, _, ⟨rfl, rfl⟩, t, rfl, by omega, fun pv H7 s7 pt => ?_⟩
    have e0 : V.str (Str.ofString "") = sV [] := congrArg V.str (show Str.ofString "" = S [] by decide +kernel)
    have th := hgt_size t
    have lv := Tr.lvA_length t []
    have nv := Tr.ndA_length t []
    have lvs := Tr.lvs_size t
    rw [e0]
    refine ⟨pv, [], t, rfl, pt, by omega, by simp; omega, fun p1 H8 np1 s8 h1 => ?_⟩
    have pt := pt.same s8
    refine ⟨pv, [], t, rfl, pt, by omega, by simp; omega, fun p2 H9 np2 s9 h2 => ?_⟩
    have pt := pt.same s9
    refine ⟨p1, p2, _, _, rfl, rfl, s9 _ _ h1, h2, by rw [List.length_map, List.length_map, lv, nv]; exact small5 (by omega), fun P nP _ => ?_⟩
    rw [← List.map_append]
    have hP : upd H9 P (.lst ((t.lvA [] ++ t.ndA []).map sV)) P = some _ := upd_same
    have s10 := (L2.Same.refl H9).new nP (.lst ((t.lvA [] ++ t.ndA []).map sV))
    generalize upd H9 P (.lst ((t.lvA [] ++ t.ndA []).map sV)) = HB at hP s10 ⊢
    have pt := pt.same s10
    have sB := s6.trans (s7.trans (s8.trans (s9.trans s10)))
    have gB := g7.same (s7.trans (s8.trans (s9.trans s10)))
    have gP : P ≠ g := by obtain ⟨o, ho⟩ := (g7.same (s7.trans (s8.trans s9))).some; exact (ne_of_none ho nP).symm
    clear s6 s7 s8 s9 s10 h1 h2 np1 np2 nP g7
    have adr : ∀ x ∈ t.lvA [] ++ t.ndA [], isA x = true ∧ (∃ s, tat t x = some s) ∧ x.length ≤ t.size := fun x hx => by
      rcases List.mem_append.mp hx with h | h
      · obtain ⟨h1, h2, h3⟩ := lvA0 h; exact ⟨h1, ⟨_, h2⟩, h3⟩
      · exact ndA0 h
    have plen : (t.lvA [] ++ t.ndA []).length = 2 * t.size + 1 := by rw [List.length_append, lv, nv]; omega
    generalize hPL : t.lvA [] ++ t.ndA [] = PL at hP adr plen ⊢
    refine ⟨_, rfl, P, rfl, ⟨_, SqL.of hP⟩, for_list (K := K) (a := P) (xs := PL.map sV) (fun j σ H' => ∃ b7, σ = [some (.ref a), some (.int i), some (.ref g), some (trV t), some (trV o), some pv, some (.ref P), b7, a8, a9, a10] ∧ Same HB H') ⟨_, rfl, L2.Same.refl HB⟩ ?_ ?_ ?_⟩
    · rintro j σ H' hj ⟨b7, rfl, s0⟩
      exact SqL.of (s0 _ _ hP)
    · rintro j x σ H' hj ⟨b7, rfl, s0⟩
      rw [List.getElem?_map, Option.map_eq_some_iff] at hj
      obtain ⟨x, hj, rfl⟩ := hj
      obtain ⟨aA, ⟨s8, aL⟩, al⟩ := adr x (List.mem_of_getElem? hj)
      have pt := pt.same s0
      have s8s := tat_size t x s8 aL
      have s8h := hgt_size s8
      simp only [cxOf_K, tAsg2, tYes, wipe, tSeq, tIfS, tNot, tB, tCB, tCons, tNil, tVar, tC, tTest, tOp, tAnd, tOr, tAsg, gName, tRet, tRetN, tDrop, tNext, tIf, tCall, tTup, tLst, tNotV, tAndV, tOrV, tUn, rI0, rI, rU, rEq, rNe, tM1, tM0, tBM, tBM0, tSl, tPart, tNoPart, iStr, iEnumS, iRng1, iRng2, iList, gSub, tBits, tAug, tPar, L2.start, List.map_cons, List.map_nil, List.length_cons, List.length_nil, List.getElem?_cons_zero, List.getElem?_cons_succ, List.cons_append, List.nil_append, List.append_nil, List.set_cons_zero, List.set_cons_succ, List.replicate_succ, List.replicate_zero, Option.some.injEq, exists_eq_left', V.int.injEq, V.str.injEq, V.ref.injEq, V.bl.injEq, exists_and_left, exists_eq_left, List.cons.injEq, and_true, true_and, tCallX, tRs]
      refine ⟨_, _, rfl, .inl ⟨t, rfl, by omega, .inl ⟨x, s8, rfl, by omega, aA, aL, fun H1' s1' => ?_⟩⟩⟩
      have pt := pt.same s1'
      refine ⟨pv, t, x, rfl, pt, by omega, aA, (fun e => by rw [e] at aL; cases aL), fun s e u H2' s2' pu => ?_⟩
      have es : s = s8 := by rw [e] at aL; exact Option.some.inj aL
      subst es
      refine ⟨u, s, rfl, pu, by omega, by omega, fun H3' s3' => ⟨rfl, ?_⟩⟩
      rw [if_neg (by simp)]
      have pt := pt.same (s2'.trans s3')
      refine ⟨_, _, _, rfl, .inl ⟨t, rfl, by omega, .inl ⟨x, s, rfl, by omega, aA, aL, .inl ⟨o, rfl, by omega, fun H4' s4' => ?_⟩⟩⟩⟩
      refine ⟨o, rfl, by omega, fun w' H5' s5' pw => ?_⟩
      have pt := pt.same (s4'.trans s5')
      have sz := put_size t x o
      have hz := hgt_size (put t x o)
      refine ⟨pv, w', t, o, s, x, rfl, pt, pw, aL, aA, by omega, by omega, fun u' H6' s6' pu' => ?_⟩
      refine ⟨u', _, rfl, pu', by omega, by omega, fun H7' s7' => ⟨rfl, ?_⟩⟩
      rw [if_neg (by simp)]
      exact s0.trans (s1'.trans (s2'.trans (s3'.trans (s4'.trans (s5'.trans (s6'.trans s7'))))))
    · rintro σ HC ⟨b7, rfl, sC⟩
      simp only [cxOf_K, tAsg2, tYes, wipe, tSeq, tIfS, tNot, tB, tCB, tCons, tNil, tVar, tC, tTest, tOp, tAnd, tOr, tAsg, gName, tRet, tRetN, tDrop, tNext, tIf, tCall, tTup, tLst, tNotV, tAndV, tOrV, tUn, rI0, rI, rU, rEq, rNe, tM1, tM0, tBM, tBM0, tSl, tPart, tNoPart, iStr, iEnumS, iRng1, iRng2, iList, gSub, tBits, tAug, tPar, L2.start, List.map_cons, List.map_nil, List.length_cons, List.length_nil, List.getElem?_cons_zero, List.getElem?_cons_succ, List.cons_append, List.nil_append, List.append_nil, List.set_cons_zero, List.set_cons_succ, List.replicate_succ, List.replicate_zero, Option.some.injEq, exists_eq_left', V.int.injEq, V.str.injEq, V.ref.injEq, V.bl.injEq, exists_and_left, exists_eq_left, List.cons.injEq, and_true, true_and, tCallX, tRs]
      refine ⟨_, rfl, pv, [], t, rfl, pt.same sC, by omega, by simp; omega, fun q1 HD nq1 sD hq1 => ?_⟩
      have pt := pt.same (sC.trans sD)
      have sH := sB.trans (sC.trans sD)
      have gD := gB.same (sC.trans sD)
      have hP := sD _ _ (sC _ _ hP)
      have gq : q1 ≠ g := by obtain ⟨o, ho⟩ := (gB.same sC).some; exact (ne_of_none ho nq1).symm
      clear sB sC gB sD nq1
      refine ⟨q1, rfl, ⟨_, SqL.of hq1⟩, for_list (K := K) (a := q1) (xs := (t.lvA []).map sV) (fun j σ H' => ∃ b8, σ = [some (.ref a), some (.int i), some (.ref g), some (trV t), some (trV o), some pv, some (.ref P), b7, b8, a9, a10] ∧ Keep g HD H' ∧ GenAt H' g (4000 + 3 * j)) ⟨_, rfl, Keep.of (L2.Same.refl HD), gD⟩ ?_ ?_ ?_⟩
      · rintro j σ H' hj ⟨b8, rfl, kD, gj⟩
        exact SqL.of (kD _ _ gq hq1)
      · rintro j x σ H' hj ⟨b8, rfl, kD, gj⟩
        rw [List.getElem?_map, Option.map_eq_some_iff] at hj
        obtain ⟨x, hj, rfl⟩ := hj
        obtain ⟨aA, aL, al⟩ := lvA0 (List.mem_of_getElem? hj)
        have jl : j < (t.lvA []).length := (List.getElem?_eq_some_iff.mp hj).1
        simp only [cxOf_K, tAsg2, tYes, wipe, tSeq, tIfS, tNot, tB, tCB, tCons, tNil, tVar, tC, tTest, tOp, tAnd, tOr, tAsg, gName, tRet, tRetN, tDrop, tNext, tIf, tCall, tTup, tLst, tNotV, tAndV, tOrV, tUn, rI0, rI, rU, rEq, rNe, tM1, tM0, tBM, tBM0, tSl, tPart, tNoPart, iStr, iEnumS, iRng1, iRng2, iList, gSub, tBits, tAug, tPar, L2.start, List.map_cons, List.map_nil, List.length_cons, List.length_nil, List.getElem?_cons_zero, List.getElem?_cons_succ, List.cons_append, List.nil_append, List.append_nil, List.set_cons_zero, List.set_cons_succ, List.replicate_succ, List.replicate_zero, Option.some.injEq, exists_eq_left', V.int.injEq, V.str.injEq, V.ref.injEq, V.bl.injEq, exists_and_left, exists_eq_left, List.cons.injEq, and_true, true_and, tCallX, tRs]
        refine ⟨small5 (by omega), fun p np => ⟨g, 4, _, rfl, gj.new np, by omega, by decide, by decide, fun z H3 z0 z1 k3 g3 => ?_⟩⟩
        have pg : p ≠ g := by obtain ⟨o, ho⟩ := gj.some; exact (ne_of_none ho np).symm
        have hp := k3 _ _ pg (upd_same (H := H') (a := p) (o := .lst [V.str (Str.ofString "l"), .str (Str.ofString "r"), .str (Str.ofString "lr"), .str (Str.ofString "rrr")]))
        have kp := (kD.trans (Keep.of ((L2.Same.refl H').new np (.lst [V.str (Str.ofString "l"), .str (Str.ofString "r"), .str (Str.ofString "lr"), .str (Str.ofString "rrr")])))).trans k3
        obtain ⟨c, hc, cA, cl, cn⟩ : ∃ c : List Nat, atI [V.str (Str.ofString "l"), .str (Str.ofString "r"), .str (Str.ofString "lr"), .str (Str.ofString "rrr")] z = some (.str (S c)) ∧ isA c = true ∧ c.length ≤ 3 ∧ c ≠ [] := by
          have : z = 0 ∨ z = 1 ∨ z = 2 ∨ z = 3 := by omega
          rcases this with rfl | rfl | rfl | rfl
          · exact ⟨[108], by rw [show S [108] = Str.ofString "l" by decide +kernel]; rfl, by decide, by decide, by decide⟩
          · exact ⟨[114], by rw [show S [114] = Str.ofString "r" by decide +kernel]; rfl, by decide, by decide, by decide⟩
          · exact ⟨[108, 114], by rw [show S [108, 114] = Str.ofString "lr" by decide +kernel]; rfl, by decide, by decide, by decide⟩
          · exact ⟨[114, 114, 114], by rw [show S [114, 114, 114] = Str.ofString "rrr" by decide +kernel]; rfl, by decide, by decide, by decide⟩
        refine ⟨p, _, z, _, rfl, rfl, SqL.of hp, hc, _, rfl, ?_⟩
        rw [S_app, S_len x, S_len c]
        have aA2 : isA (x ++ c) = true := by rw [isA_app, aA, cA]; rfl
        have al2 : (x ++ c).length ≤ 23 := by rw [List.length_append]; omega
        have rl := reprA aA2 23 al2
        refine ⟨small5 (by omega), t, sV (x ++ c), rfl, by omega, .inr ⟨x ++ c, rfl, by omega, aA2, tat_off t x c aL cn⟩, .inl ⟨.str (S (x ++ c)), _, ⟨.str _, rfl, by simp [PyData.depth], by simp only [PyData.shown]; omega⟩, .base (.str _), kit_ty (by decide +kernel), fun H4 s4 => ⟨true, rfl, ?_⟩⟩⟩
        rw [if_neg (by decide)]
        refine ⟨kp.trans (Keep.of s4), ?_⟩
        rw [show 4000 + 3 * (j + 1) = 4000 + 3 * j + 3 by omega]
        exact g3.same s4
      · rintro σ HE ⟨b8, rfl, kD, gE⟩
        rw [List.length_map, lv] at gE
        have hgD := gD
        obtain ⟨x1, x2, x3, gD1, gD2, gD3⟩ := hgD
        have pt := pt.keep kD gD1
        have sH : Same H HE := fun b o hb => kD b o (ne_of_none hb hg0) (sH b o hb)
        have hP := kD _ _ gP hP
        clear kD gD gD1 gD2 gD3 hq1 gq
        simp only [tDNewK, cxOf_K, tAsg2, tYes, wipe, tSeq, tIfS, tNot, tB, tCB, tCons, tNil, tVar, tC, tTest, tOp, tAnd, tOr, tAsg, gName, tRet, tRetN, tDrop, tNext, tIf, tCall, tTup, tLst, tNotV, tAndV, tOrV, tUn, rI0, rI, rU, rEq, rNe, tM1, tM0, tBM, tBM0, tSl, tPart, tNoPart, iStr, iEnumS, iRng1, iRng2, iList, gSub, tBits, tAug, tPar, L2.start, List.map_cons, List.map_nil, List.length_cons, List.length_nil, List.getElem?_cons_zero, List.getElem?_cons_succ, List.cons_append, List.nil_append, List.append_nil, List.set_cons_zero, List.set_cons_succ, List.replicate_succ, List.replicate_zero, Option.some.injEq, exists_eq_left', V.int.injEq, V.str.injEq, V.ref.injEq, V.bl.injEq, exists_and_left, exists_eq_left, List.cons.injEq, and_true, true_and, tCallX, tRs]
        refine ⟨small5 (by simp), fun l1 m1 => ?_⟩
        have k1 := (L2.Same.refl HE).new m1 (.lst [V.str (Str.ofString "l")])
        have w1 : upd HE l1 (.lst [V.str (Str.ofString "l")]) l1 = some _ := upd_same
        generalize upd HE l1 (.lst [V.str (Str.ofString "l")]) = H5 at w1 k1 ⊢
        refine ⟨small5 (by simp), fun t1 m2 => ?_⟩
        have k2 := (L2.Same.refl H5).new m2 (.tup [V.str (Str.ofString "l"), .str (Str.ofString "r")])
        have w2 : upd H5 t1 (.tup [V.str (Str.ofString "l"), .str (Str.ofString "r")]) t1 = some _ := upd_same
        have w1 := k2 _ _ w1
        generalize upd H5 t1 (.tup [V.str (Str.ofString "l"), .str (Str.ofString "r")]) = H6 at w1 w2 k2 ⊢
        refine fun d1 m3 => ?_
        have k3 := (L2.Same.refl H6).new m3 (.dK [])
        have w3 : upd H6 d1 (.dK []) d1 = some _ := upd_same
        have w1 := k3 _ _ w1
        have w2 := k3 _ _ w2
        generalize upd H6 d1 (.dK []) = H7 at w1 w2 w3 k3 ⊢
        refine ⟨small5 (by simp), fun p3 m4 => ?_⟩
        have k4 := (L2.Same.refl H7).new m4 (.lst [V.non, .bl true, .int 0, .str (Str.ofString "L"), .str (Str.ofString "x"), .str (Str.ofString "l "), .str (Str.ofString " "), .ref l1, .ref t1, .ref d1, .str (Str.ofString "lrx"), .str (Str.ofString "0")])
        have w4 : upd H7 p3 (.lst [V.non, .bl true, .int 0, .str (Str.ofString "L"), .str (Str.ofString "x"), .str (Str.ofString "l "), .str (Str.ofString " "), .ref l1, .ref t1, .ref d1, .str (Str.ofString "lrx"), .str (Str.ofString "0")]) p3 = some _ := upd_same
        have n41 : p3 ≠ l1 := (ne_of_none w1 m4).symm
        have w1 := k4 _ _ w1
        have w2 := k4 _ _ w2
        have w3 := k4 _ _ w3
        generalize upd H7 p3 _ = HF at w1 w2 w3 w4 k4 ⊢
        have sF := k1.trans (k2.trans (k3.trans k4))
        have gl1 : g ≠ l1 := by obtain ⟨o, ho⟩ := gE.some; exact ne_of_none ho m1
        have Pl1 : P ≠ l1 := ne_of_none hP m1
        have Hl1 : H l1 = none := sH.free m1
        have pt := pt.same sF
        have gF := gE.same sF
        have hP := sF _ _ hP
        have sH := sH.trans sF
        have n21 : t1 ≠ l1 := fun z => by rw [z, w1] at w2; cases w2
        have n31 : d1 ≠ l1 := fun z => by rw [z, w1] at w3; cases w3
        clear k1 k2 k3 k4 sF gE m1 m2 m3 m4
        refine ⟨p3, rfl, ⟨_, SqL.of w4⟩, for_list (K := K) (a := p3) (xs := [V.non, .bl true, .int 0, .str (Str.ofString "L"), .str (Str.ofString "x"), .str (Str.ofString "l "), .str (Str.ofString " "), .ref l1, .ref t1, .ref d1, .str (Str.ofString "lrx"), .str (Str.ofString "0")])
          (fun j σ H' => ∃ b7, σ = [some (.ref a), some (.int i), some (.ref g), some (trV t), some (trV o), some pv, some (.ref P), b7, b8, a9, a10] ∧ Keep l1 HF H' ∧ (j ≤ 7 → H' l1 = some (.lst [.str (Str.ofString "l")]))) ⟨_, rfl, Keep.of (L2.Same.refl HF), fun _ => w1⟩ ?_ ?_ ?_⟩
        · rintro j σ H' hj ⟨b7, rfl, kF, u1⟩
          exact SqL.of (kF _ _ n41 w4)
        · rintro j x σ H' hj ⟨b7, rfl, kF, u1⟩
          simp only [cxOf_K, tAsg2, tYes, wipe, tSeq, tIfS, tNot, tB, tCB, tCons, tNil, tVar, tC, tTest, tOp, tAnd, tOr, tAsg, gName, tRet, tRetN, tDrop, tNext, tIf, tCall, tTup, tLst, tNotV, tAndV, tOrV, tUn, rI0, rI, rU, rEq, rNe, tM1, tM0, tBM, tBM0, tSl, tPart, tNoPart, iStr, iEnumS, iRng1, iRng2, iList, gSub, tBits, tAug, tPar, L2.start, List.map_cons, List.map_nil, List.length_cons, List.length_nil, List.getElem?_cons_zero, List.getElem?_cons_succ, List.cons_append, List.nil_append, List.append_nil, List.set_cons_zero, List.set_cons_succ, List.replicate_succ, List.replicate_zero, Option.some.injEq, exists_eq_left', V.int.injEq, V.str.injEq, V.ref.injEq, V.bl.injEq, exists_and_left, exists_eq_left, List.cons.injEq, and_true, true_and, tCallX, tRs]
          suffices hs : ∀ QQ : VK, (∀ H2, Keep l1 HF H2 → (j + 1 ≤ 7 → H2 l1 = some (.lst [.str (Str.ofString "l")])) → QQ (.bl true) H2) → sp_law_refused T [trV t, x] H' QQ E0 from hs _ fun H2 k2 u2 => ⟨true, rfl, by rw [if_neg (by decide)]; exact ⟨k2, u2⟩⟩
          intro QQ fin
          have flat : ∀ (d : PyData) ty, NotAdr K H' x → Good H' x d → TyX K H' x ty → PySem.W.kitOne K ty (.type "list") = some false → (j + 1 ≤ 7 → H' l1 = some (.lst [.str (Str.ofString "l")])) → sp_law_refused T [trV t, x] H' QQ E0 := fun d ty nt gd h1 h2 e1 =>
            ⟨t, x, rfl, by omega, .inl nt, .inl ⟨d, ty, gd, h1, h2, fun H2 s2 => fin H2 (kF.trans (Keep.of s2)) fun z => s2 _ _ (e1 z)⟩⟩
          have txt : ∀ (z : Str) (c : List Nat), x = .str z → z = S c → isA c = false → c.length ≤ 1000 → (reprText z).length ≤ 1000000 → (j + 1 ≤ 7 → H' l1 = some (.lst [.str (Str.ofString "l")])) → sp_law_refused T [trV t, x] H' QQ E0 := fun z c hx hz h1 h2 h3 e1 => by
            subst hx
            exact flat (.str z) _ (.inl ⟨c, congrArg V.str hz, by omega, h1⟩) ⟨.str z, rfl, by simp [PyData.depth], by simpa only [PyData.shown] using h3⟩ (.base (.str z)) (kit_ty (by decide +kernel)) e1
          match j, hj with
          | 0, hj => cases hj; exact flat .none _ (.inr ⟨_, .base .non, kit_ty (by decide +kernel)⟩) ⟨.non, by decide +kernel, by decide +kernel, by decide +kernel⟩ (.base .non) (kit_ty (by decide +kernel)) fun _ => u1 (by decide)
          | 1, hj => cases hj; exact flat (.bool true) _ (.inr ⟨_, .base (.bl _), kit_ty (by decide +kernel)⟩) ⟨.bl _, by decide +kernel, by decide +kernel, by decide +kernel⟩ (.base (.bl _)) (kit_ty (by decide +kernel)) fun _ => u1 (by decide)
          | 2, hj => cases hj; exact flat (.int 0) _ (.inr ⟨_, .base (.int _), kit_ty (by decide +kernel)⟩) ⟨.int 0, by decide +kernel, by decide +kernel, by decide +kernel⟩ (.base (.int _)) (kit_ty (by decide +kernel)) fun _ => u1 (by decide)
          | 3, hj => cases hj; exact txt _ [76] rfl (by decide +kernel) (by decide) (by decide) (by decide +kernel) fun _ => u1 (by decide)
          | 4, hj => cases hj; exact txt _ [120] rfl (by decide +kernel) (by decide) (by decide) (by decide +kernel) fun _ => u1 (by decide)
          | 5, hj => cases hj; exact txt _ [108, 32] rfl (by decide +kernel) (by decide) (by decide) (by decide +kernel) fun _ => u1 (by decide)
          | 6, hj => cases hj; exact txt _ [32] rfl (by decide +kernel) (by decide) (by decide) (by decide +kernel) fun _ => u1 (by decide)
          | 7, hj =>
            cases hj
            have h1 := u1 (by decide)
            refine ⟨t, _, rfl, by omega, .inl (.inr ⟨_, .base (.lst h1), kit_ty (by decide +kernel)⟩), .inr ⟨l1, [Str.ofString "l"], rfl, h1, by decide, fun z hz => by rw [List.mem_singleton.mp hz]; decide +kernel, fun H2 k => fin H2 (kF.trans k) fun z => absurd z (by decide)⟩⟩
          | 8, hj => cases hj; exact flat (.tuple [.str "l", .str "r"]) _ (.inr ⟨_, .base (.tup (kF _ _ n21 w2)), kit_ty (by decide +kernel)⟩) ⟨.tup (kF _ _ n21 w2) (.cons (.str _) (.cons (.str _) .nil)), by decide +kernel, by decide +kernel, by decide +kernel⟩ (.base (.tup (kF _ _ n21 w2))) (kit_ty (by decide +kernel)) fun z => absurd z (by omega)
          | 9, hj => cases hj; exact flat (.dict []) _ (.inr ⟨_, .base (.dK (kF _ _ n31 w3)), kit_ty (by decide +kernel)⟩) ⟨.dic (kF _ _ n31 w3) .nil, by decide +kernel, by decide +kernel, by decide +kernel⟩ (.base (.dK (kF _ _ n31 w3))) (kit_ty (by decide +kernel)) fun z => absurd z (by omega)
          | 10, hj => cases hj; exact txt _ [108, 114, 120] rfl (by decide +kernel) (by decide) (by decide) (by decide +kernel) fun z => absurd z (by omega)
          | 11, hj => cases hj; exact txt _ [48] rfl (by decide +kernel) (by decide) (by decide) (by decide +kernel) fun z => absurd z (by omega)
          | n + 12, hj => cases hj
        · rintro σ HG ⟨b7, rfl, kF, _⟩
          have pt := pt.keep kF w1
          have gG : GenAt HG g (4000 + 3 * t.lvs) := by obtain ⟨x1, x2, x3, e, r⟩ := gF; exact ⟨x1, x2, x3, kF _ _ gl1 e, r⟩
          have hP := kF _ _ Pl1 hP
          have sH : Same H HG := fun b o hb => kF b o (ne_of_none hb Hl1) (sH b o hb)
          clear kF w1 w2 w3 w4 gF gl1 Pl1 Hl1 n21 n31 n41
          simp only [tDNewK, cxOf_K, tAsg2, tYes, wipe, tSeq, tIfS, tNot, tB, tCB, tCons, tNil, tVar, tC, tTest, tOp, tAnd, tOr, tAsg, gName, tRet, tRetN, tDrop, tNext, tIf, tCall, tTup, tLst, tNotV, tAndV, tOrV, tUn, rI0, rI, rU, rEq, rNe, tM1, tM0, tBM, tBM0, tSl, tPart, tNoPart, iStr, iEnumS, iRng1, iRng2, iList, gSub, tBits, tAug, tPar, L2.start, List.map_cons, List.map_nil, List.length_cons, List.length_nil, List.getElem?_cons_zero, List.getElem?_cons_succ, List.cons_append, List.nil_append, List.append_nil, List.set_cons_zero, List.set_cons_succ, List.replicate_succ, List.replicate_zero, Option.some.injEq, exists_eq_left', V.int.injEq, V.str.injEq, V.ref.injEq, V.bl.injEq, exists_and_left, exists_eq_left, List.cons.injEq, and_true, true_and, tCallX, tRs]
          have tl : t.cs.length ≤ 61 := by rw [Tr.cs_length, Tr.len_size]; omega
          have eD : S t.cs ++ Str.ofString "." = S (t.cs ++ [46]) := by rw [lit_dot, S_app]
          have eDl : (Str.ofString ".").length = 1 := rfl
          refine ⟨_, rfl, _, rfl, _, rfl, by rw [S_len, eDl]; exact small5 (by omega), ?_⟩
          rw [eD]
          refine ⟨_, rfl, small5 (by simp), fun l2 m1 => ?_⟩
          have k1 := (L2.Same.refl HG).new m1 (.lst [trV t])
          have w1 : upd HG l2 (.lst [trV t]) l2 = some _ := upd_same
          generalize upd HG l2 (.lst [trV t]) = H5 at w1 k1 ⊢
          refine fun d2 m3 => ?_
          have k3 := (L2.Same.refl H5).new m3 (.dK [])
          have w3 : upd H5 d2 (.dK []) d2 = some _ := upd_same
          have w1 := k3 _ _ w1
          generalize upd H5 d2 (.dK []) = H7 at w1 w3 k3 ⊢
          refine ⟨small5 (by simp), fun p4 m4 => ?_⟩
          have k4 := (L2.Same.refl H7).new m4 (.lst [V.non, sV [], .str (Str.ofString "(.)"), .str (Str.ofString "(.."), .str (Str.ofString ".."), sV (t.cs ++ [46]), .int 0, .ref l2, .ref d2])
          have w4 : upd H7 p4 (.lst [V.non, sV [], .str (Str.ofString "(.)"), .str (Str.ofString "(.."), .str (Str.ofString ".."), sV (t.cs ++ [46]), .int 0, .ref l2, .ref d2]) p4 = some _ := upd_same
          have n41 : p4 ≠ l2 := (ne_of_none w1 m4).symm
          have w1 := k4 _ _ w1
          have w3 := k4 _ _ w3
          generalize upd H7 p4 _ = HK at w1 w3 w4 k4 ⊢
          have sF := k1.trans (k3.trans k4)
          have gl2 : g ≠ l2 := by obtain ⟨o, ho⟩ := gG.some; exact ne_of_none ho m1
          have Pl2 : P ≠ l2 := ne_of_none hP m1
          have Hl2 : H l2 = none := sH.free m1
          have pt := pt.same sF
          have gF := gG.same sF
          have hP := sF _ _ hP
          have sH := sH.trans sF
          have n31 : d2 ≠ l2 := fun z => by rw [z, w1] at w3; cases w3
          clear k1 k3 k4 sF gG m1 m3 m4
          refine ⟨p4, rfl, ⟨_, SqL.of w4⟩, for_list (K := K) (a := p4) (xs := [V.non, sV [], .str (Str.ofString "(.)"), .str (Str.ofString "(.."), .str (Str.ofString ".."), sV (t.cs ++ [46]), .int 0, .ref l2, .ref d2])
            (fun j σ H' => ∃ b9 b10, σ = [some (.ref a), some (.int i), some (.ref g), some (trV t), some (trV o), some pv, some (.ref P), b7, b8, b9, b10] ∧ Keep l2 HK H' ∧ (j ≤ 7 → H' l2 = some (.lst [trV t]))) ⟨_, _, rfl, Keep.of (L2.Same.refl HK), fun _ => w1⟩ ?_ ?_ ?_⟩
          · rintro j σ H' hj ⟨b9, b10, rfl, kF, u1⟩
            exact SqL.of (kF _ _ n41 w4)
          · rintro j x σ H' hj ⟨b9, b10, rfl, kF, u1⟩
            simp only [cxOf_K, tAsg2, tYes, wipe, tSeq, tIfS, tNot, tB, tCB, tCons, tNil, tVar, tC, tTest, tOp, tAnd, tOr, tAsg, gName, tRet, tRetN, tDrop, tNext, tIf, tCall, tTup, tLst, tNotV, tAndV, tOrV, tUn, rI0, rI, rU, rEq, rNe, tM1, tM0, tBM, tBM0, tSl, tPart, tNoPart, iStr, iEnumS, iRng1, iRng2, iList, gSub, tBits, tAug, tPar, L2.start, List.map_cons, List.map_nil, List.length_cons, List.length_nil, List.getElem?_cons_zero, List.getElem?_cons_succ, List.cons_append, List.nil_append, List.append_nil, List.set_cons_zero, List.set_cons_succ, List.replicate_succ, List.replicate_zero, Option.some.injEq, exists_eq_left', V.int.injEq, V.str.injEq, V.ref.injEq, V.bl.injEq, exists_and_left, exists_eq_left, List.cons.injEq, and_true, true_and, tCallX, tRs]
            obtain ⟨W, w0, wNT, wEnd, wS⟩ : ∃ W : Nat → Hp → Prop, W 0 H' ∧ (∀ k H2, k ≤ 2 → W k H2 → NotTree K H2 x ∧ ∀ H3, Same H2 H3 → W k H3) ∧ (∀ H2, W 2 H2 → Keep l2 HK H2 ∧ (j + 1 ≤ 7 → H2 l2 = some (.lst [trV t]))) ∧
                ∀ (k : Nat) (H2 : Hp) (q : PyData → Hp → Prop), k < 2 → W k H2 → (∀ d H3, W (k + 1) H3 → Good H3 x d → q d H3) → Shows K H2 x q := by
              have flat : ∀ (d : PyData) ty, NotTree K H' x → Good H' x d → TyX K H' x ty → PySem.W.kitOne K ty (.type "list") = some false → (j + 1 ≤ 7 → H' l2 = some (.lst [trV t])) → ∃ W : Nat → Hp → Prop, W 0 H' ∧ (∀ k H2, k ≤ 2 → W k H2 → NotTree K H2 x ∧ ∀ H3, Same H2 H3 → W k H3) ∧ (∀ H2, W 2 H2 → Keep l2 HK H2 ∧ (j + 1 ≤ 7 → H2 l2 = some (.lst [trV t]))) ∧
                  ∀ (k : Nat) (H2 : Hp) (q : PyData → Hp → Prop), k < 2 → W k H2 → (∀ d H3, W (k + 1) H3 → Good H3 x d → q d H3) → Shows K H2 x q := fun d ty nt gd h1 h2 e1 =>
                ⟨fun _ H2 => Same H' H2, L2.Same.refl H', fun k H2 _ s => ⟨nt.same s, fun H3 s3 => s.trans s3⟩, fun H2 s => ⟨kF.trans (Keep.of s), fun z => s _ _ (e1 z)⟩, fun k H2 q _ s go => .inl ⟨d, ty, Good.same gd s, tyX_same h1 s, h2, fun H3 s3 => go d H3 (s.trans s3) (Good.same gd (s.trans s3))⟩⟩
              have txt : ∀ z : Str, x = .str z → isT z.cps.toList ["tree"] = false → z.length ≤ 1000 → (reprText z).length ≤ 1000000 → (j + 1 ≤ 7 → H' l2 = some (.lst [trV t])) → ∃ W : Nat → Hp → Prop, W 0 H' ∧ (∀ k H2, k ≤ 2 → W k H2 → NotTree K H2 x ∧ ∀ H3, Same H2 H3 → W k H3) ∧ (∀ H2, W 2 H2 → Keep l2 HK H2 ∧ (j + 1 ≤ 7 → H2 l2 = some (.lst [trV t]))) ∧
                  ∀ (k : Nat) (H2 : Hp) (q : PyData → Hp → Prop), k < 2 → W k H2 → (∀ d H3, W (k + 1) H3 → Good H3 x d → q d H3) → Shows K H2 x q := fun z hx h1 h2 h3 e1 => by
                subst hx
                exact flat (.str z) _ (.inl ⟨z, rfl, by omega, h1⟩) ⟨.str z, rfl, by simp [PyData.depth], by simpa only [PyData.shown] using h3⟩ (.base (.str z)) (kit_ty (by decide +kernel)) e1
              match j, hj with
              | 0, hj => cases hj; exact flat .none _ (.inr ⟨_, .base .non, kit_ty (by decide +kernel)⟩) ⟨.non, by decide +kernel, by decide +kernel, by decide +kernel⟩ (.base .non) (kit_ty (by decide +kernel)) fun _ => u1 (by decide)
              | 1, hj => cases hj; exact txt _ rfl (by decide +kernel) (by decide +kernel) (by decide +kernel) fun _ => u1 (by decide)
              | 2, hj => cases hj; exact txt _ rfl (by decide +kernel) (by decide +kernel) (by decide +kernel) fun _ => u1 (by decide)
              | 3, hj => cases hj; exact txt _ rfl (by decide +kernel) (by decide +kernel) (by decide +kernel) fun _ => u1 (by decide)
              | 4, hj => cases hj; exact txt _ rfl (by decide +kernel) (by decide +kernel) (by decide +kernel) fun _ => u1 (by decide)
              | 5, hj =>
                cases hj
                have h1 := isT_more t
                have l1 : (t.cs ++ [46]).length ≤ 62 := by rw [List.length_append]; simp only [List.length_cons, List.length_nil]; omega
                have rl := PySem.StrLaws.reprText_len (S (t.cs ++ [46])) (fun c hc => by
                  have hc : c ∈ t.cs ++ [46] := by simpa using hc
                  rcases List.mem_append.mp hc with hc | hc
                  · exact Nat.lt_of_lt_of_le (csLt t c hc) (by decide)
                  · rw [List.mem_singleton.mp hc]; decide)
                rw [S_len (t.cs ++ [46])] at rl
                exact txt (S (t.cs ++ [46])) rfl (by simpa using h1) (by rw [S_len]; omega) (by omega) fun _ => u1 (by decide)
              | 6, hj => cases hj; exact flat (.int 0) _ (.inr ⟨_, .base (.int _), kit_ty (by decide +kernel)⟩) ⟨.int 0, by decide +kernel, by decide +kernel, by decide +kernel⟩ (.base (.int _)) (kit_ty (by decide +kernel)) fun _ => u1 (by decide)
              | 7, hj =>
                cases hj
                have h1 := u1 (by decide)
                have rl := PySem.StrLaws.reprText_len (S t.cs) (fun c hc => Nat.lt_of_lt_of_le (csLt t c (by simpa using hc)) (by decide))
                rw [S_len t.cs] at rl
                have bnd : ∀ k : Nat, ∀ z ∈ [S t.cs] ++ List.replicate k (Str.ofString "more"), (reprText z).length ≤ 1000 := fun k z hz => by
                  rcases List.mem_append.mp hz with hz | hz
                  · rw [List.mem_singleton.mp hz]; omega
                  · rw [(List.mem_replicate.mp hz).2]; decide +kernel
                refine ⟨fun k H2 => Keep l2 H' H2 ∧ H2 l2 = some (.lst (([S t.cs] ++ List.replicate k (Str.ofString "more")).map V.str)), ⟨Keep.of (L2.Same.refl H'), h1⟩, fun k H2 _ s => ⟨.inr ⟨_, .base (.lst s.2), kit_ty (by decide +kernel)⟩, fun H3 s3 => ⟨s.1.trans (Keep.of s3), s3 _ _ s.2⟩⟩, fun H2 s => ⟨kF.trans s.1, fun z => absurd z (by decide)⟩, fun k H2 q hk s go => .inr ⟨l2, _, rfl, s.2, by simp; omega, fun z hz => Nat.le_trans (bnd k z hz) (by decide), fun H3 k3 e3 => ?_⟩⟩
                have e : [S t.cs] ++ List.replicate k (Str.ofString "more") ++ [("more" : Str)] = [S t.cs] ++ List.replicate (k + 1) (Str.ofString "more") := by rw [List.replicate_succ', List.append_assoc]
                rw [e] at e3 ⊢
                exact go _ H3 ⟨s.1.trans k3, e3⟩ (goodStr _ e3 (by simp; omega) fun z hz => Nat.le_trans (bnd (k + 1) z hz) (by decide))
              | 8, hj => cases hj; exact flat (.dict []) _ (.inr ⟨_, .base (.dK (kF _ _ n31 w3)), kit_ty (by decide +kernel)⟩) ⟨.dic (kF _ _ n31 w3) .nil, by decide +kernel, by decide +kernel, by decide +kernel⟩ (.base (.dK (kF _ _ n31 w3))) (kit_ty (by decide +kernel)) fun z => absurd z (by omega)
              | n + 9, hj => cases hj
            refine ⟨2, rfl, by decide, by decide, for_range (fun k σ H2 => ∃ b10, σ = [some (.ref a), some (.int i), some (.ref g), some (trV t), some (trV o), some pv, some (.ref P), b7, b8, some x, b10] ∧ W k H2) ⟨_, rfl, w0⟩ ?_ ?_⟩
            · rintro k σ H2 hk ⟨b10, rfl, wk⟩
              have hk2 : k < 2 := hk
              simp only [cxOf_K, tAsg2, tYes, wipe, tSeq, tIfS, tNot, tB, tCB, tCons, tNil, tVar, tC, tTest, tOp, tAnd, tOr, tAsg, gName, tRet, tRetN, tDrop, tNext, tIf, tCall, tTup, tLst, tNotV, tAndV, tOrV, tUn, rI0, rI, rU, rEq, rNe, tM1, tM0, tBM, tBM0, tSl, tPart, tNoPart, iStr, iEnumS, iRng1, iRng2, iList, gSub, tBits, tAug, tPar, L2.start, List.map_cons, List.map_nil, List.length_cons, List.length_nil, List.getElem?_cons_zero, List.getElem?_cons_succ, List.cons_append, List.nil_append, List.append_nil, List.set_cons_zero, List.set_cons_succ, List.replicate_succ, List.replicate_zero, Option.some.injEq, exists_eq_left', V.int.injEq, V.str.injEq, V.ref.injEq, V.bl.injEq, exists_and_left, exists_eq_left, List.cons.injEq, and_true, true_and, tCallX, tRs]
              rw [show (0 : Int) + (k : Int) = ((k : Nat) : Int) by omega]
              refine ⟨k, x, sV [], _, x, true, rfl, hk2, .inl ⟨rfl, rfl, (wNT k H2 (by omega) wk).1⟩, wS k H2 _ hk2 wk fun d H3 w3 gd p H4 np s4 hp => ?_⟩
              exact cmpT gd s4 hp fun H5 s5 => (wNT (k + 1) H3 (by omega) w3).2 _ s5
            · rintro σ H2 ⟨b10, rfl, wk⟩
              exact ⟨_, _, rfl, wEnd H2 wk⟩
          · rintro σ HL ⟨b9, b10, rfl, kF, _⟩
            have pt := pt.keep kF w1
            have gL : GenAt HL g (4000 + 3 * t.lvs) := by obtain ⟨x1, x2, x3, e, r⟩ := gF; exact ⟨x1, x2, x3, kF _ _ gl2 e, r⟩
            have hP := kF _ _ Pl2 hP
            have sH : Same H HL := fun b o hb => kF b o (ne_of_none hb Hl2) (sH b o hb)
            clear kF w1 w3 w4 gF gl2 Pl2 Hl2 n31 n41
            simp only [cxOf_K, tAsg2, tYes, wipe, tSeq, tIfS, tNot, tB, tCB, tCons, tNil, tVar, tC, tTest, tOp, tAnd, tOr, tAsg, gName, tRet, tRetN, tDrop, tNext, tIf, tCall, tTup, tLst, tNotV, tAndV, tOrV, tUn, rI0, rI, rU, rEq, rNe, tM1, tM0, tBM, tBM0, tSl, tPart, tNoPart, iStr, iEnumS, iRng1, iRng2, iList, gSub, tBits, tAug, tPar, L2.start, List.map_cons, List.map_nil, List.length_cons, List.length_nil, List.getElem?_cons_zero, List.getElem?_cons_succ, List.cons_append, List.nil_append, List.append_nil, List.set_cons_zero, List.set_cons_succ, List.replicate_succ, List.replicate_zero, Option.some.injEq, exists_eq_left', V.int.injEq, V.str.injEq, V.ref.injEq, V.bl.injEq, exists_and_left, exists_eq_left, List.cons.injEq, and_true, true_and, tCallX, tRs]
            have ol : o.cs.length ≤ 10 := by rw [Tr.cs_length, Tr.len_size]; omega
            refine ⟨_, rfl, small5 (by simp), fun l3 m1 => ?_⟩
            have k1 := (L2.Same.refl HL).new m1 (.lst [trV o])
            have w1 : upd HL l3 (.lst [trV o]) l3 = some _ := upd_same
            generalize upd HL l3 (.lst [trV o]) = H5 at w1 k1 ⊢
            refine ⟨small5 (by simp), fun p5 m4 => ?_⟩
            have k4 := (L2.Same.refl H5).new m4 (.lst [V.non, sV [], .str (Str.ofString "(.."), .int 0, .ref l3])
            have w4 : upd H5 p5 (.lst [V.non, sV [], .str (Str.ofString "(.."), .int 0, .ref l3]) p5 = some _ := upd_same
            have n41 : p5 ≠ l3 := (ne_of_none w1 m4).symm
            have gp5 : p5 ≠ g := by obtain ⟨o, ho⟩ := (gL.same k1).some; exact (ne_of_none ho m4).symm
            have w1 := k4 _ _ w1
            generalize upd H5 p5 _ = HM at w1 w4 k4 ⊢
            have sF := k1.trans k4
            have gl3 : g ≠ l3 := by obtain ⟨o, ho⟩ := gL.some; exact ne_of_none ho m1
            have Pl3 : P ≠ l3 := ne_of_none hP m1
            have Hl3 : H l3 = none := sH.free m1
            have gM := gL.same sF
            have hP := sF _ _ hP
            have sH := sH.trans sF
            clear k1 k4 sF gL m1 m4
            refine ⟨p5, rfl, ⟨_, SqL.of w4⟩, for_list (K := K) (a := p5) (xs := [V.non, sV [], .str (Str.ofString "(.."), .int 0, .ref l3])
              (fun j σ H' => ∃ b9, σ = [some (.ref a), some (.int i), some (.ref g), some (trV t), some (trV o), some pv, some (.ref P), b7, b8, b9, b10] ∧ (∀ b o, b ≠ g → b ≠ l3 → HM b = some o → H' b = some o) ∧ GenAt H' g (4000 + 3 * t.lvs + 3 * j) ∧ (j ≤ 4 → H' l3 = some (.lst [trV o]))) ⟨_, rfl, fun _ _ _ _ h => h, gM, fun _ => w1⟩ ?_ ?_ ?_⟩
            · rintro j σ H' hj ⟨b9, rfl, kF, gj, u1⟩
              exact SqL.of (kF _ _ gp5 n41 w4)
            · rintro j x σ H' hj ⟨b9, rfl, kF, gj, u1⟩
              have j5 : j < 5 := (List.getElem?_eq_some_iff.mp hj).1
              simp only [cxOf_K, tAsg2, tYes, wipe, tSeq, tIfS, tNot, tB, tCB, tCons, tNil, tVar, tC, tTest, tOp, tAnd, tOr, tAsg, gName, tRet, tRetN, tDrop, tNext, tIf, tCall, tTup, tLst, tNotV, tAndV, tOrV, tUn, rI0, rI, rU, rEq, rNe, tM1, tM0, tBM, tBM0, tSl, tPart, tNoPart, iStr, iEnumS, iRng1, iRng2, iList, gSub, tBits, tAug, tPar, L2.start, List.map_cons, List.map_nil, List.length_cons, List.length_nil, List.getElem?_cons_zero, List.getElem?_cons_succ, List.cons_append, List.nil_append, List.append_nil, List.set_cons_zero, List.set_cons_succ, List.replicate_succ, List.replicate_zero, Option.some.injEq, exists_eq_left', V.int.injEq, V.str.injEq, V.ref.injEq, V.bl.injEq, exists_and_left, exists_eq_left, List.cons.injEq, and_true, true_and, tCallX, tRs]
              have hP1 := kF P _ gP Pl3 hP
              refine ⟨PL.map sV, .inl (SqL.of hP1), g, _, _, rfl, gj, by omega, by rw [List.length_map]; omega, by rw [List.length_map]; omega, fun z H3 z0 z1 k3 g3 => ?_⟩
              rw [List.length_map] at z1
              obtain ⟨m, rfl⟩ : ∃ m : Nat, z = (m : Int) := ⟨z.toNat, by omega⟩
              have hm : m < PL.length := by omega
              obtain ⟨aA, ⟨s8, aL⟩, al⟩ := adr PL[m] (List.getElem_mem hm)
              refine ⟨P, _, _, sV PL[m], rfl, rfl, SqL.of (k3 _ _ gP hP1), atI_nat (by rw [List.getElem?_map, List.getElem?_eq_getElem hm]; rfl), ?_⟩
              have kF3 : ∀ b o, b ≠ g → b ≠ l3 → HM b = some o → H3 b = some o := fun b o x1 x2 hb => k3 _ _ x1 (kF b o x1 x2 hb)
              have u3 : j ≤ 4 → H3 l3 = some (.lst [trV o]) := fun z => k3 _ _ gl3.symm (u1 z)
              have g3' : GenAt H3 g (4000 + 3 * t.lvs + 3 * (j + 1)) := by rw [show 4000 + 3 * t.lvs + 3 * (j + 1) = 4000 + 3 * t.lvs + 3 * j + 3 by omega]; exact g3
              have call : ∀ QQ : VK, NotTree K H3 x → (Shows K H3 x fun d H4 => ∀ p H5, H4 p = none → Same H4 H5 → H5 p = some (.lst [.bl true, .bl (!true), .str d.shown]) → QQ (.ref p) H5) → sp_law_caught T [V.int 1, trV t, sV PL[m], x] H3 QQ E0 := fun QQ nt sh =>
                ⟨1, trV t, sV PL[m], x, x, true, rfl, by decide, .inr (.inr ⟨rfl, rfl, rfl, t, PL[m], s8, rfl, by omega, rfl, by omega, aA, aL, nt⟩), sh⟩
              have keepR : ∀ H4, Same H3 H4 → (j + 1 ≤ 4 → H4 l3 = some (.lst [trV o])) → (∀ b o, b ≠ g → b ≠ l3 → HM b = some o → H4 b = some o) ∧ GenAt H4 g (4000 + 3 * t.lvs + 3 * (j + 1)) ∧ (j + 1 ≤ 4 → H4 l3 = some (.lst [trV o])) := fun H4 s4 e =>
                ⟨fun b o x1 x2 hb => s4 _ _ (kF3 b o x1 x2 hb), g3'.same s4, e⟩
              obtain ⟨nt, sh⟩ : NotTree K H3 x ∧ Shows K H3 x fun d H4 => Good H4 x d ∧ (∀ b o, b ≠ g → b ≠ l3 → HM b = some o → H4 b = some o) ∧ GenAt H4 g (4000 + 3 * t.lvs + 3 * (j + 1)) ∧ (j + 1 ≤ 4 → H4 l3 = some (.lst [trV o])) := by
                have flat : ∀ (d : PyData) ty, NotTree K H3 x → Good H3 x d → TyX K H3 x ty → PySem.W.kitOne K ty (.type "list") = some false → j ≤ 3 → NotTree K H3 x ∧ Shows K H3 x fun d H4 => Good H4 x d ∧ (∀ b o, b ≠ g → b ≠ l3 → HM b = some o → H4 b = some o) ∧ GenAt H4 g (4000 + 3 * t.lvs + 3 * (j + 1)) ∧ (j + 1 ≤ 4 → H4 l3 = some (.lst [trV o])) := fun d ty nt gd h1 h2 e1 =>
                  ⟨nt, .inl ⟨d, ty, gd, h1, h2, fun H4 s4 => ⟨Good.same gd s4, keepR H4 s4 fun z => s4 _ _ (u3 (by omega))⟩⟩⟩
                have txt : ∀ z : Str, x = .str z → isT z.cps.toList ["tree"] = false → z.length ≤ 1000 → (reprText z).length ≤ 1000000 → j ≤ 3 → NotTree K H3 x ∧ Shows K H3 x fun d H4 => Good H4 x d ∧ (∀ b o, b ≠ g → b ≠ l3 → HM b = some o → H4 b = some o) ∧ GenAt H4 g (4000 + 3 * t.lvs + 3 * (j + 1)) ∧ (j + 1 ≤ 4 → H4 l3 = some (.lst [trV o])) := fun z hx h1 h2 h3 e1 => by
                  subst hx
                  exact flat (.str z) _ (.inl ⟨z, rfl, by omega, h1⟩) ⟨.str z, rfl, by simp [PyData.depth], by simpa only [PyData.shown] using h3⟩ (.base (.str z)) (kit_ty (by decide +kernel)) e1
                match j, hj with
                | 0, hj => cases hj; exact flat .none _ (.inr ⟨_, .base .non, kit_ty (by decide +kernel)⟩) ⟨.non, by decide +kernel, by decide +kernel, by decide +kernel⟩ (.base .non) (kit_ty (by decide +kernel)) (by decide)
                | 1, hj => cases hj; exact txt _ rfl (by decide +kernel) (by decide +kernel) (by decide +kernel) (by decide)
                | 2, hj => cases hj; exact txt _ rfl (by decide +kernel) (by decide +kernel) (by decide +kernel) (by decide)
                | 3, hj => cases hj; exact flat (.int 0) _ (.inr ⟨_, .base (.int _), kit_ty (by decide +kernel)⟩) ⟨.int 0, by decide +kernel, by decide +kernel, by decide +kernel⟩ (.base (.int _)) (kit_ty (by decide +kernel)) (by decide)
                | 4, hj =>
                  cases hj
                  have h1 := u3 (by decide)
                  have rl := PySem.StrLaws.reprText_len (S o.cs) (fun c hc => Nat.lt_of_lt_of_le (csLt o c (by simpa using hc)) (by decide))
                  rw [S_len o.cs] at rl
                  refine ⟨.inr ⟨_, .base (.lst h1), kit_ty (by decide +kernel)⟩, .inr ⟨l3, [S o.cs], rfl, h1, by simp, fun z hz => by rw [List.mem_singleton.mp hz]; omega, fun H4 k4 e4 => ⟨goodStr [S o.cs, "more"] e4 (by simp) fun z hz => ?_, fun b o x1 x2 hb => k4 _ _ x2 (kF3 b o x1 x2 hb), ?_, fun z => absurd z (by decide)⟩⟩⟩
                  · simp only [List.mem_cons, List.mem_nil_iff, or_false] at hz
                    rcases hz with rfl | rfl
                    · omega
                    · decide +kernel
                  · obtain ⟨x1, x2, x3, e, r⟩ := g3'
                    exact ⟨x1, x2, x3, k4 _ _ gl3 e, r⟩
                | n + 5, hj => cases hj
              exact call _ nt (sh.mono fun d H4 ⟨gd, r⟩ p H5 np s hp => cmpT gd s hp fun H6 s6 => ⟨fun b o x1 x2 hb => s6 _ _ (r.1 b o x1 x2 hb), r.2.1.same s6, fun z => s6 _ _ (r.2.2 z)⟩)
            · rintro σ H' ⟨b9, rfl, kF, _, _⟩
              exact ⟨_, _, _, _, _, _, _, _, _, _, rfl, fun b o hb => kF b o (ne_of_none hb hg0) (ne_of_none hb Hl3) (sH b o hb)⟩
  · rintro σ H1 ⟨a1, a2, a3, a4, a5, a6, a7, a8, a9, a10, rfl, s1⟩
    simp only [cxOf_K, tAsg2, tYes, wipe, tSeq, tIfS, tNot, tB, tCB, tCons, tNil, tVar, tC, tTest, tOp, tAnd, tOr, tAsg, gName, tRet, tRetN, tDrop, tNext, tIf, tCall, tTup, tLst, tNotV, tAndV, tOrV, tUn, rI0, rI, rU, rEq, rNe, tM1, tM0, tBM, tBM0, tSl, tPart, tNoPart, iStr, iEnumS, iRng1, iRng2, iList, gSub, tBits, tAug, tPar, L2.start, List.map_cons, List.map_nil, List.length_cons, List.length_nil, List.getElem?_cons_zero, List.getElem?_cons_succ, List.cons_append, List.nil_append, List.append_nil, List.set_cons_zero, List.set_cons_succ, List.replicate_succ, List.replicate_zero, Option.some.injEq, exists_eq_left', V.int.injEq, V.str.injEq, V.ref.injEq, V.bl.injEq, exists_and_left, exists_eq_left, List.cons.injEq, and_true, true_and, tCallX, tRs]
    refine ⟨a, ns, 9, rfl, s1.seq ha, fun g H2 hg s2 g2 => ?_⟩
    exact ⟨g, _, rfl, g2, by decide, q⟩

/-! ### what the classes must say -/
section
variable {K : PySem.W.Frag} {mg : Str → Option Value} {h : Heap} {C : Addr} {bm : List Value} {nm q : Str} {N : Addr} {bs : List Value} {sn : List Str} {sub : List Value} {ab : Bool} {col : Option Bool} {dd : Option Addr} {k0 k1 k2 k3 k5 : Option Value}
theorem cls_mk (l : K.lookup C = some (excClassObj nm q C N bs bm true sn sub ab col dd k0 k1 k2 k3 k5 "ValueError.__new__")) (r : PySem.HandSPX.refsVE bm = true) (ga : PySem.W.findIn K (.ref C) "__getattribute__" = some (some (.builtin "BaseException.__getattribute__"))) (gg : PySem.W.findIn K (.ref C) "__getattr__" = some none)
    (ha : PySem.W.findIn K (.ref C) "__class__" = some (some (.builtin "object.__class__"))) (hn : PySem.W.specialIn K (.builtin "object.__class__") "__get__" = some (some (.builtin "getset_descriptor.__get__"))) (ht : PySem.W.takesIn K (.builtin "object.__class__") = some true) :
    ErrC K C (.ref C :: bm) ∧ XfC K C := by
  have c : PySem.W.clsIn K C = some { name := nm, bases := bs, mro := .ref C :: bm, ns := N, qualname := q, hasDict := true, slotNames := sn, subclasses := sub, abstract := ab, collection := col, hasDel := false } := by unfold PySem.W.clsIn; rw [l] <;> rfl
  have sub : ∀ Y : String, PySem.HandSPX.veTail.contains (.type Y) = true → PySem.W.mroIn K C (.type Y) = some true := fun Y z => by
    unfold PySem.W.mroIn
    rw [c, Option.bind_some, List.contains_cons, PySem.HandSPX.refsVE_contains Y bm r, z, Bool.or_true]
    rfl
  have hd : PySem.W.hasDictIn K C = true := by unfold PySem.W.hasDictIn; rw [c]; rfl
  have sb : PySem.W.subIn K (.ref C) (.type "BaseException") = some true := sub "BaseException" (by decide +kernel)
  have ty : PySem.W.typeIn K (.ref C) = some (.type "type") := by show (K.lookup C).map (·.cls) = _; rw [l] <;> rfl
  exact ⟨⟨by rw [c]; rfl, ty, ⟨ga, gg, sb, hd, ha, hn, ht, sub "object" (by decide +kernel)⟩⟩, ⟨ga, gg, sb, hd⟩⟩
theorem oex_mk (l : K.lookup C = some (excClassObj nm q C N bs bm true sn sub ab col dd k0 k1 k2 k3 k5 "ValueError.__new__")) (r : PySem.HandSPX.refsVE bm = true) (sa : PySem.W.findIn K (.ref C) "__setattr__" = some (some (.builtin "object.__setattr__"))) (kC : PySem.W.keepIn K (.ref C) = true)
    (e : ErrC K C (.ref C :: bm)) : OexC K C := ⟨⟨_, _, _, _, _, _, _, _, _, _, _, _, _, _, _, l, r⟩, sa, e.ec.hs, e.ty, kC⟩
variable {st : Stmt} {fI TT0 : Addr} {od td : Option Addr} {kV doc pm cdv ct tc : Value} {an : Option Addr} {osl ts : Array (Option Value)} {n : Nat} {qual : Str}
theorem fund_mk (l : K.lookup fI = some ⟨.type "function", od, .func (PySem.W.fnOf "__init__" qual (defArgs st) (defBody st) (defScope st) (.ref TT0) kV doc pm an cdv ct), osl⟩) (c : PySem.W.codeIn K cdv qual = true) (lT : K.lookup TT0 = some ⟨tc, td, .seq #[.none] n, ts⟩) :
    FunD K "__init__" qual (defArgs st) (defBody st) (defScope st) [.non] [] fI (PySem.W.fnOf "__init__" qual (defArgs st) (defBody st) (defScope st) (.ref TT0) kV doc pm an cdv ct) :=
  ⟨⟨_, od, _, kV, doc, pm, an, cdv, ct, osl, rfl, l, c, .inr ⟨by simp, TT0, _, [.none], n, rfl, lT, rfl, .cons rfl .nil⟩, .inl rfl⟩, by unfold PySem.W.keepIn; dsimp only; rw [l] <;> rfl⟩
theorem fty (l : K.lookup fI = some ⟨.type "function", od, .func (PySem.W.fnOf "__init__" qual (defArgs st) (defBody st) (defScope st) (.ref TT0) kV doc pm an cdv ct), osl⟩) : PySem.W.typeIn K (.ref fI) = some (.type "function") := by
  show (K.lookup fI).map (·.cls) = _
  rw [l] <;> rfl
end

theorem own_InvalidTree {h : Heap} {C fI : Addr} {fd : FuncData} (X : K.In h) (G : h.Ns mainGlobals mg) (m : PySem.W.nsIn K mainGlobals "InvalidTree" = some (some (.ref C))) (ox : OexC K C) (no : PySem.W.findIn K (.ref C) "value" = some none)
    (iC : PySem.W.findIn K (.ref C) "__init__" = some (some (.ref fI))) (tI : PySem.W.typeIn K (.ref fI) = some (.type "function")) (F : FunD K "__init__" "InvalidTree.__init__" (defArgs i_InvalidTree) (defBody i_InvalidTree) (defScope i_InvalidTree) [.non] [] fI fd) : OwnE K mg "InvalidTree" C "value" "value" := by
  refine ⟨PySem.W.mg_of X G m, ox, fI, fd, iC, tI, F.binds1 1 0 (by simp) rfl (fun _ _ _ _ _ _ _ us its h1 h2 => match us, its, h1, h2 with | [_], [_], _, _ => ⟨_, rfl, rfl⟩), ?_, kbinds1 F (by simp) (fun _ _ _ _ _ _ _ us its ws h1 h2 h3 => match us, its, ws, h1, h2, h3 with | [_], [_], [_], _, _, _ => ⟨_, rfl, rfl⟩), fun P w base => ?_⟩
  · obtain ⟨ds, hd, b⟩ := F.binds1 (ps := ["self", "value"]) 2 1 (by simp) rfl (fun _ _ _ _ _ _ _ us its h1 h2 => match us, its, h1, h2 with | [_, _], [_], _, _ => ⟨_, rfl, rfl⟩)
    cases hd
    exact b
  · refine FunD.ok F si_InvalidTree (fun vs H Q E h => ?_) (fun cdv A outer s H vs Q E hr h => ?_)
    · obtain ⟨a, y, rfl, _⟩ := h; rfl
    obtain ⟨a, y, rfl, ha, q⟩ := h
    refine ⟨_, pss_one (ps_ost (pv 0) (pv 1)), ?_⟩
    simp only [tOst, cxOf_K, tAsg2, tYes, wipe, tSeq, tIfS, tNot, tB, tCB, tCons, tNil, tVar, tC, tTest, tOp, tAnd, tOr, tAsg, gName, tRet, tRetN, tDrop, tNext, tIf, tCall, tTup, tLst, tNotV, tAndV, tOrV, tUn, rI0, rI, rU, rEq, rNe, tM1, tM0, tBM, tBM0, tSl, tPart, tNoPart, iStr, iEnumS, iRng1, iRng2, iList, gSub, tBits, tAug, tPar, L2.start, List.map_cons, List.map_nil, List.length_cons, List.length_nil, List.getElem?_cons_zero, List.getElem?_cons_succ, List.cons_append, List.nil_append, List.append_nil, List.set_cons_zero, List.set_cons_succ, List.replicate_succ, List.replicate_zero, Option.some.injEq, exists_eq_left', V.int.injEq, V.str.injEq, V.ref.injEq, V.bl.injEq, exists_and_left, exists_eq_left, List.cons.injEq, and_true, true_and]
    exact ⟨C, ox, no, .inl ⟨ha, q⟩⟩

theorem own_InvalidAddress {h : Heap} {C fI : Addr} {fd : FuncData} (X : K.In h) (G : h.Ns mainGlobals mg) (m : PySem.W.nsIn K mainGlobals "InvalidAddress" = some (some (.ref C))) (ox : OexC K C) (no : PySem.W.findIn K (.ref C) "value" = some none)
    (iC : PySem.W.findIn K (.ref C) "__init__" = some (some (.ref fI))) (tI : PySem.W.typeIn K (.ref fI) = some (.type "function")) (F : FunD K "__init__" "InvalidAddress.__init__" (defArgs i_InvalidAddress) (defBody i_InvalidAddress) (defScope i_InvalidAddress) [.non] [] fI fd) : OwnE K mg "InvalidAddress" C "value" "value" := by
  refine ⟨PySem.W.mg_of X G m, ox, fI, fd, iC, tI, F.binds1 1 0 (by simp) rfl (fun _ _ _ _ _ _ _ us its h1 h2 => match us, its, h1, h2 with | [_], [_], _, _ => ⟨_, rfl, rfl⟩), ?_, kbinds1 F (by simp) (fun _ _ _ _ _ _ _ us its ws h1 h2 h3 => match us, its, ws, h1, h2, h3 with | [_], [_], [_], _, _, _ => ⟨_, rfl, rfl⟩), fun P w base => ?_⟩
  · obtain ⟨ds, hd, b⟩ := F.binds1 (ps := ["self", "value"]) 2 1 (by simp) rfl (fun _ _ _ _ _ _ _ us its h1 h2 => match us, its, h1, h2 with | [_, _], [_], _, _ => ⟨_, rfl, rfl⟩)
    cases hd
    exact b
  · refine FunD.ok F si_InvalidAddress (fun vs H Q E h => ?_) (fun cdv A outer s H vs Q E hr h => ?_)
    · obtain ⟨a, y, rfl, _⟩ := h; rfl
    obtain ⟨a, y, rfl, ha, q⟩ := h
    refine ⟨_, pss_one (ps_ost (pv 0) (pv 1)), ?_⟩
    simp only [tOst, cxOf_K, tAsg2, tYes, wipe, tSeq, tIfS, tNot, tB, tCB, tCons, tNil, tVar, tC, tTest, tOp, tAnd, tOr, tAsg, gName, tRet, tRetN, tDrop, tNext, tIf, tCall, tTup, tLst, tNotV, tAndV, tOrV, tUn, rI0, rI, rU, rEq, rNe, tM1, tM0, tBM, tBM0, tSl, tPart, tNoPart, iStr, iEnumS, iRng1, iRng2, iList, gSub, tBits, tAug, tPar, L2.start, List.map_cons, List.map_nil, List.length_cons, List.length_nil, List.getElem?_cons_zero, List.getElem?_cons_succ, List.cons_append, List.nil_append, List.append_nil, List.set_cons_zero, List.set_cons_succ, List.replicate_succ, List.replicate_zero, Option.some.injEq, exists_eq_left', V.int.injEq, V.str.injEq, V.ref.injEq, V.bl.injEq, exists_and_left, exists_eq_left, List.cons.injEq, and_true, true_and]
    exact ⟨C, ox, no, .inl ⟨ha, q⟩⟩

end
theorem all_mk {l : PySem.W.OpenLaw} {w : World} {K : PySem.W.Frag} {h : Heap} {mg : Str → Option Value} {fa : Addr} (X : K.In h) (G : h.Ns mainGlobals mg) (hfa : mg "law" = some (.ref fa))
    (hn : PySem.W.specialIn K (.builtin "object.__class__") "__get__" = some (some (.builtin "getset_descriptor.__get__"))) (ht : PySem.W.takesIn K (.builtin "object.__class__") = some true)
    {C_TurnError : Addr}
    {nm_TurnError q_TurnError : Str} {N_TurnError : Addr} {bs_TurnError : List Value} {sn_TurnError : List Str} {sub_TurnError : List Value} {ab_TurnError : Bool} {col_TurnError : Option Bool} {dd_TurnError : Option Addr} {k0_TurnError k1_TurnError k2_TurnError k3_TurnError k5_TurnError : Option Value}
    (m_TurnError : PySem.W.nsIn K mainGlobals "TurnError" = some (some (.ref C_TurnError)))
    (l_TurnError : K.lookup C_TurnError = some (excClassObj nm_TurnError q_TurnError C_TurnError N_TurnError bs_TurnError veL true sn_TurnError sub_TurnError ab_TurnError col_TurnError dd_TurnError k0_TurnError k1_TurnError k2_TurnError k3_TurnError k5_TurnError "ValueError.__new__"))
    (ga_TurnError : PySem.W.findIn K (.ref C_TurnError) "__getattribute__" = some (some (.builtin "BaseException.__getattribute__"))) (gg_TurnError : PySem.W.findIn K (.ref C_TurnError) "__getattr__" = some none) (ha_TurnError : PySem.W.findIn K (.ref C_TurnError) "__class__" = some (some (.builtin "object.__class__")))
    {C_InvalidTree : Addr}
    {nm_InvalidTree q_InvalidTree : Str} {N_InvalidTree : Addr} {bs_InvalidTree : List Value} {sn_InvalidTree : List Str} {sub_InvalidTree : List Value} {ab_InvalidTree : Bool} {col_InvalidTree : Option Bool} {dd_InvalidTree : Option Addr} {k0_InvalidTree k1_InvalidTree k2_InvalidTree k3_InvalidTree k5_InvalidTree : Option Value}
    (m_InvalidTree : PySem.W.nsIn K mainGlobals "InvalidTree" = some (some (.ref C_InvalidTree)))
    (l_InvalidTree : K.lookup C_InvalidTree = some (excClassObj nm_InvalidTree q_InvalidTree C_InvalidTree N_InvalidTree bs_InvalidTree (.ref C_TurnError :: veL) true sn_InvalidTree sub_InvalidTree ab_InvalidTree col_InvalidTree dd_InvalidTree k0_InvalidTree k1_InvalidTree k2_InvalidTree k3_InvalidTree k5_InvalidTree "ValueError.__new__"))
    (ga_InvalidTree : PySem.W.findIn K (.ref C_InvalidTree) "__getattribute__" = some (some (.builtin "BaseException.__getattribute__"))) (gg_InvalidTree : PySem.W.findIn K (.ref C_InvalidTree) "__getattr__" = some none) (ha_InvalidTree : PySem.W.findIn K (.ref C_InvalidTree) "__class__" = some (some (.builtin "object.__class__")))
    (sa_InvalidTree : PySem.W.findIn K (.ref C_InvalidTree) "__setattr__" = some (some (.builtin "object.__setattr__"))) (kC_InvalidTree : PySem.W.keepIn K (.ref C_InvalidTree) = true) (no_InvalidTree : PySem.W.findIn K (.ref C_InvalidTree) "value" = some none)
    {f_InvalidTree T_InvalidTree n_InvalidTree : Nat} {od_InvalidTree td_InvalidTree an_InvalidTree : Option Addr} {kV_InvalidTree doc_InvalidTree pm_InvalidTree cd_InvalidTree ct_InvalidTree tc_InvalidTree : Value} {ol_InvalidTree ts_InvalidTree : Array (Option Value)}
    (iC_InvalidTree : PySem.W.findIn K (.ref C_InvalidTree) "__init__" = some (some (.ref f_InvalidTree)))
    (lf_InvalidTree : K.lookup f_InvalidTree = some ⟨.type "function", od_InvalidTree, .func (PySem.W.fnOf "__init__" "InvalidTree.__init__" (defArgs i_InvalidTree) (defBody i_InvalidTree) (defScope i_InvalidTree) (.ref T_InvalidTree) kV_InvalidTree doc_InvalidTree pm_InvalidTree an_InvalidTree cd_InvalidTree ct_InvalidTree), ol_InvalidTree⟩)
    (cf_InvalidTree : PySem.W.codeIn K cd_InvalidTree "InvalidTree.__init__" = true) (lT_InvalidTree : K.lookup T_InvalidTree = some ⟨tc_InvalidTree, td_InvalidTree, .seq #[.none] n_InvalidTree, ts_InvalidTree⟩)
    {C_InvalidAddress : Addr}
    {nm_InvalidAddress q_InvalidAddress : Str} {N_InvalidAddress : Addr} {bs_InvalidAddress : List Value} {sn_InvalidAddress : List Str} {sub_InvalidAddress : List Value} {ab_InvalidAddress : Bool} {col_InvalidAddress : Option Bool} {dd_InvalidAddress : Option Addr} {k0_InvalidAddress k1_InvalidAddress k2_InvalidAddress k3_InvalidAddress k5_InvalidAddress : Option Value}
    (m_InvalidAddress : PySem.W.nsIn K mainGlobals "InvalidAddress" = some (some (.ref C_InvalidAddress)))
    (l_InvalidAddress : K.lookup C_InvalidAddress = some (excClassObj nm_InvalidAddress q_InvalidAddress C_InvalidAddress N_InvalidAddress bs_InvalidAddress (.ref C_TurnError :: veL) true sn_InvalidAddress sub_InvalidAddress ab_InvalidAddress col_InvalidAddress dd_InvalidAddress k0_InvalidAddress k1_InvalidAddress k2_InvalidAddress k3_InvalidAddress k5_InvalidAddress "ValueError.__new__"))
    (ga_InvalidAddress : PySem.W.findIn K (.ref C_InvalidAddress) "__getattribute__" = some (some (.builtin "BaseException.__getattribute__"))) (gg_InvalidAddress : PySem.W.findIn K (.ref C_InvalidAddress) "__getattr__" = some none) (ha_InvalidAddress : PySem.W.findIn K (.ref C_InvalidAddress) "__class__" = some (some (.builtin "object.__class__")))
    (sa_InvalidAddress : PySem.W.findIn K (.ref C_InvalidAddress) "__setattr__" = some (some (.builtin "object.__setattr__"))) (kC_InvalidAddress : PySem.W.keepIn K (.ref C_InvalidAddress) = true) (no_InvalidAddress : PySem.W.findIn K (.ref C_InvalidAddress) "value" = some none)
    {f_InvalidAddress T_InvalidAddress n_InvalidAddress : Nat} {od_InvalidAddress td_InvalidAddress an_InvalidAddress : Option Addr} {kV_InvalidAddress doc_InvalidAddress pm_InvalidAddress cd_InvalidAddress ct_InvalidAddress tc_InvalidAddress : Value} {ol_InvalidAddress ts_InvalidAddress : Array (Option Value)}
    (iC_InvalidAddress : PySem.W.findIn K (.ref C_InvalidAddress) "__init__" = some (some (.ref f_InvalidAddress)))
    (lf_InvalidAddress : K.lookup f_InvalidAddress = some ⟨.type "function", od_InvalidAddress, .func (PySem.W.fnOf "__init__" "InvalidAddress.__init__" (defArgs i_InvalidAddress) (defBody i_InvalidAddress) (defScope i_InvalidAddress) (.ref T_InvalidAddress) kV_InvalidAddress doc_InvalidAddress pm_InvalidAddress an_InvalidAddress cd_InvalidAddress ct_InvalidAddress), ol_InvalidAddress⟩)
    (cf_InvalidAddress : PySem.W.codeIn K cd_InvalidAddress "InvalidAddress.__init__" = true) (lT_InvalidAddress : K.lookup T_InvalidAddress = some ⟨tc_InvalidAddress, td_InvalidAddress, .seq #[.none] n_InvalidAddress, ts_InvalidAddress⟩)
    (nd : [C_InvalidTree, C_InvalidAddress, C_TurnError].Nodup)
    {f0 : Addr} {od0 an0 : Option Addr} {sl0 : Array (Option Value)} {oc0 kV0 dc0 pm0 cd0 ct0 : Value}
    (a0 : PySem.W.nsIn K mainGlobals "is_tree" = some (some (.ref f0))) (l0 : K.lookup f0 = some ⟨oc0, od0, .func (PySem.W.fnOf "is_tree" "is_tree" (defArgs s_is_tree) (defBody s_is_tree) (defScope s_is_tree) .none kV0 dc0 pm0 an0 cd0 ct0), sl0⟩) (c0 : PySem.W.codeIn K cd0 "is_tree" = true) (k0 : PySem.W.keepIn K (.ref f0) = true)
    {f1 : Addr} {od1 an1 : Option Addr} {sl1 : Array (Option Value)} {oc1 kV1 dc1 pm1 cd1 ct1 : Value}
    (a1 : PySem.W.nsIn K mainGlobals "is_address" = some (some (.ref f1))) (l1 : K.lookup f1 = some ⟨oc1, od1, .func (PySem.W.fnOf "is_address" "is_address" (defArgs s_is_address) (defBody s_is_address) (defScope s_is_address) .none kV1 dc1 pm1 an1 cd1 ct1), sl1⟩) (c1 : PySem.W.codeIn K cd1 "is_address" = true) (k1 : PySem.W.keepIn K (.ref f1) = true)
    {f2 : Addr} {od2 an2 : Option Addr} {sl2 : Array (Option Value)} {oc2 kV2 dc2 pm2 cd2 ct2 : Value}
    (a2 : PySem.W.nsIn K mainGlobals "check_tree" = some (some (.ref f2))) (l2 : K.lookup f2 = some ⟨oc2, od2, .func (PySem.W.fnOf "check_tree" "check_tree" (defArgs s_check_tree) (defBody s_check_tree) (defScope s_check_tree) .none kV2 dc2 pm2 an2 cd2 ct2), sl2⟩) (c2 : PySem.W.codeIn K cd2 "check_tree" = true) (k2 : PySem.W.keepIn K (.ref f2) = true)
    {f3 : Addr} {od3 an3 : Option Addr} {sl3 : Array (Option Value)} {oc3 kV3 dc3 pm3 cd3 ct3 : Value}
    (a3 : PySem.W.nsIn K mainGlobals "check_address" = some (some (.ref f3))) (l3 : K.lookup f3 = some ⟨oc3, od3, .func (PySem.W.fnOf "check_address" "check_address" (defArgs s_check_address) (defBody s_check_address) (defScope s_check_address) .none kV3 dc3 pm3 an3 cd3 ct3), sl3⟩) (c3 : PySem.W.codeIn K cd3 "check_address" = true) (k3 : PySem.W.keepIn K (.ref f3) = true)
    {f4 : Addr} {od4 an4 : Option Addr} {sl4 : Array (Option Value)} {oc4 kV4 dc4 pm4 cd4 ct4 : Value}
    (a4 : PySem.W.nsIn K mainGlobals "ends" = some (some (.ref f4))) (l4 : K.lookup f4 = some ⟨oc4, od4, .func (PySem.W.fnOf "ends" "ends" (defArgs s_ends) (defBody s_ends) (defScope s_ends) .none kV4 dc4 pm4 an4 cd4 ct4), sl4⟩) (c4 : PySem.W.codeIn K cd4 "ends" = true) (k4 : PySem.W.keepIn K (.ref f4) = true)
    {f5 : Addr} {od5 an5 : Option Addr} {sl5 : Array (Option Value)} {oc5 kV5 dc5 pm5 cd5 ct5 : Value}
    (a5 : PySem.W.nsIn K mainGlobals "stretch" = some (some (.ref f5))) (l5 : K.lookup f5 = some ⟨oc5, od5, .func (PySem.W.fnOf "stretch" "stretch" (defArgs s_stretch) (defBody s_stretch) (defScope s_stretch) .none kV5 dc5 pm5 an5 cd5 ct5), sl5⟩) (c5 : PySem.W.codeIn K cd5 "stretch" = true) (k5 : PySem.W.keepIn K (.ref f5) = true)
    {f6 : Addr} {od6 an6 : Option Addr} {sl6 : Array (Option Value)} {oc6 kV6 dc6 pm6 cd6 ct6 : Value}
    (a6 : PySem.W.nsIn K mainGlobals "checked_stretch" = some (some (.ref f6))) (l6 : K.lookup f6 = some ⟨oc6, od6, .func (PySem.W.fnOf "checked_stretch" "checked_stretch" (defArgs s_checked_stretch) (defBody s_checked_stretch) (defScope s_checked_stretch) .none kV6 dc6 pm6 an6 cd6 ct6), sl6⟩) (c6 : PySem.W.codeIn K cd6 "checked_stretch" = true) (k6 : PySem.W.keepIn K (.ref f6) = true)
    {f7 : Addr} {od7 an7 : Option Addr} {sl7 : Array (Option Value)} {oc7 kV7 dc7 pm7 cd7 ct7 : Value}
    (a7 : PySem.W.nsIn K mainGlobals "part" = some (some (.ref f7))) (l7 : K.lookup f7 = some ⟨oc7, od7, .func (PySem.W.fnOf "part" "part" (defArgs s_part) (defBody s_part) (defScope s_part) .none kV7 dc7 pm7 an7 cd7 ct7), sl7⟩) (c7 : PySem.W.codeIn K cd7 "part" = true) (k7 : PySem.W.keepIn K (.ref f7) = true)
    {f8 : Addr} {od8 an8 : Option Addr} {sl8 : Array (Option Value)} {oc8 kV8 dc8 pm8 cd8 ct8 : Value}
    (a8 : PySem.W.nsIn K mainGlobals "addressed" = some (some (.ref f8))) (l8 : K.lookup f8 = some ⟨oc8, od8, .func (PySem.W.fnOf "addressed" "addressed" (defArgs s_addressed) (defBody s_addressed) (defScope s_addressed) .none kV8 dc8 pm8 an8 cd8 ct8), sl8⟩) (c8 : PySem.W.codeIn K cd8 "addressed" = true) (k8 : PySem.W.keepIn K (.ref f8) = true)
    {f9 : Addr} {od9 an9 : Option Addr} {sl9 : Array (Option Value)} {oc9 kV9 dc9 pm9 cd9 ct9 : Value}
    (a9 : PySem.W.nsIn K mainGlobals "leaves" = some (some (.ref f9))) (l9 : K.lookup f9 = some ⟨oc9, od9, .func (PySem.W.fnOf "leaves" "leaves" (defArgs s_leaves) (defBody s_leaves) (defScope s_leaves) .none kV9 dc9 pm9 an9 cd9 ct9), sl9⟩) (c9 : PySem.W.codeIn K cd9 "leaves" = true) (k9 : PySem.W.keepIn K (.ref f9) = true)
    {f10 : Addr} {od10 an10 : Option Addr} {sl10 : Array (Option Value)} {oc10 kV10 dc10 pm10 cd10 ct10 : Value}
    (a10 : PySem.W.nsIn K mainGlobals "nodes" = some (some (.ref f10))) (l10 : K.lookup f10 = some ⟨oc10, od10, .func (PySem.W.fnOf "nodes" "nodes" (defArgs s_nodes) (defBody s_nodes) (defScope s_nodes) .none kV10 dc10 pm10 an10 cd10 ct10), sl10⟩) (c10 : PySem.W.codeIn K cd10 "nodes" = true) (k10 : PySem.W.keepIn K (.ref f10) = true)
    {f11 : Addr} {od11 an11 : Option Addr} {sl11 : Array (Option Value)} {oc11 kV11 dc11 pm11 cd11 ct11 : Value}
    (a11 : PySem.W.nsIn K mainGlobals "replaced" = some (some (.ref f11))) (l11 : K.lookup f11 = some ⟨oc11, od11, .func (PySem.W.fnOf "replaced" "replaced" (defArgs s_replaced) (defBody s_replaced) (defScope s_replaced) .none kV11 dc11 pm11 an11 cd11 ct11), sl11⟩) (c11 : PySem.W.codeIn K cd11 "replaced" = true) (k11 : PySem.W.keepIn K (.ref f11) = true)
    {f12 : Addr} {od12 an12 : Option Addr} {sl12 : Array (Option Value)} {oc12 kV12 dc12 pm12 cd12 ct12 : Value}
    (a12 : PySem.W.nsIn K mainGlobals "_law_cell" = some (some (.ref f12))) (l12 : K.lookup f12 = some ⟨oc12, od12, .func (PySem.W.fnOf "_law_cell" "_law_cell" (defArgs s_law_cell) (defBody s_law_cell) (defScope s_law_cell) .none kV12 dc12 pm12 an12 cd12 ct12), sl12⟩) (c12 : PySem.W.codeIn K cd12 "_law_cell" = true) (k12 : PySem.W.keepIn K (.ref f12) = true)
    {f13 : Addr} {od13 an13 : Option Addr} {sl13 : Array (Option Value)} {oc13 kV13 dc13 pm13 cd13 ct13 : Value}
    (a13 : PySem.W.nsIn K mainGlobals "_law_hash" = some (some (.ref f13))) (l13 : K.lookup f13 = some ⟨oc13, od13, .func (PySem.W.fnOf "_law_hash" "_law_hash" (defArgs s_law_hash) (defBody s_law_hash) (defScope s_law_hash) .none kV13 dc13 pm13 an13 cd13 ct13), sl13⟩) (c13 : PySem.W.codeIn K cd13 "_law_hash" = true) (k13 : PySem.W.keepIn K (.ref f13) = true)
    {f14 : Addr} {od14 an14 : Option Addr} {sl14 : Array (Option Value)} {oc14 kV14 dc14 pm14 cd14 ct14 : Value}
    (a14 : PySem.W.nsIn K mainGlobals "_law_generator" = some (some (.ref f14))) (l14 : K.lookup f14 = some ⟨oc14, od14, .func (PySem.W.fnOf "_law_generator" "_law_generator" (defArgs s_law_generator) (defBody s_law_generator) (defScope s_law_generator) .none kV14 dc14 pm14 an14 cd14 ct14), sl14⟩) (c14 : PySem.W.codeIn K cd14 "_law_generator" = true) (k14 : PySem.W.keepIn K (.ref f14) = true)
    {f15 : Addr} {od15 an15 : Option Addr} {sl15 : Array (Option Value)} {oc15 kV15 dc15 pm15 cd15 ct15 : Value}
    (a15 : PySem.W.nsIn K mainGlobals "_law_random" = some (some (.ref f15))) (l15 : K.lookup f15 = some ⟨oc15, od15, .func (PySem.W.fnOf "_law_random" "_law_random" (defArgs s_law_random) (defBody s_law_random) (defScope s_law_random) .none kV15 dc15 pm15 an15 cd15 ct15), sl15⟩) (c15 : PySem.W.codeIn K cd15 "_law_random" = true) (k15 : PySem.W.keepIn K (.ref f15) = true)
    {f16 : Addr} {od16 an16 : Option Addr} {sl16 : Array (Option Value)} {oc16 kV16 dc16 pm16 cd16 ct16 : Value}
    (a16 : PySem.W.nsIn K mainGlobals "_law_tree" = some (some (.ref f16))) (l16 : K.lookup f16 = some ⟨oc16, od16, .func (PySem.W.fnOf "_law_tree" "_law_tree" (defArgs s_law_tree) (defBody s_law_tree) (defScope s_law_tree) .none kV16 dc16 pm16 an16 cd16 ct16), sl16⟩) (c16 : PySem.W.codeIn K cd16 "_law_tree" = true) (k16 : PySem.W.keepIn K (.ref f16) = true)
    {f17 : Addr} {od17 an17 : Option Addr} {sl17 : Array (Option Value)} {oc17 kV17 dc17 pm17 cd17 ct17 : Value}
    (a17 : PySem.W.nsIn K mainGlobals "_law_parsed" = some (some (.ref f17))) (l17 : K.lookup f17 = some ⟨oc17, od17, .func (PySem.W.fnOf "_law_parsed" "_law_parsed" (defArgs s_law_parsed) (defBody s_law_parsed) (defScope s_law_parsed) .none kV17 dc17 pm17 an17 cd17 ct17), sl17⟩) (c17 : PySem.W.codeIn K cd17 "_law_parsed" = true) (k17 : PySem.W.keepIn K (.ref f17) = true)
    {f18 : Addr} {od18 an18 : Option Addr} {sl18 : Array (Option Value)} {oc18 kV18 dc18 pm18 cd18 ct18 : Value}
    (a18 : PySem.W.nsIn K mainGlobals "_law_text" = some (some (.ref f18))) (l18 : K.lookup f18 = some ⟨oc18, od18, .func (PySem.W.fnOf "_law_text" "_law_text" (defArgs s_law_text) (defBody s_law_text) (defScope s_law_text) .none kV18 dc18 pm18 an18 cd18 ct18), sl18⟩) (c18 : PySem.W.codeIn K cd18 "_law_text" = true) (k18 : PySem.W.keepIn K (.ref f18) = true)
    {f19 : Addr} {od19 an19 : Option Addr} {sl19 : Array (Option Value)} {oc19 kV19 dc19 pm19 cd19 ct19 : Value}
    (a19 : PySem.W.nsIn K mainGlobals "_law_leaves" = some (some (.ref f19))) (l19 : K.lookup f19 = some ⟨oc19, od19, .func (PySem.W.fnOf "_law_leaves" "_law_leaves" (defArgs s_law_leaves) (defBody s_law_leaves) (defScope s_law_leaves) .none kV19 dc19 pm19 an19 cd19 ct19), sl19⟩) (c19 : PySem.W.codeIn K cd19 "_law_leaves" = true) (k19 : PySem.W.keepIn K (.ref f19) = true)
    {f20 : Addr} {od20 an20 : Option Addr} {sl20 : Array (Option Value)} {oc20 kV20 dc20 pm20 cd20 ct20 : Value}
    (a20 : PySem.W.nsIn K mainGlobals "_law_nodes" = some (some (.ref f20))) (l20 : K.lookup f20 = some ⟨oc20, od20, .func (PySem.W.fnOf "_law_nodes" "_law_nodes" (defArgs s_law_nodes) (defBody s_law_nodes) (defScope s_law_nodes) .none kV20 dc20 pm20 an20 cd20 ct20), sl20⟩) (c20 : PySem.W.codeIn K cd20 "_law_nodes" = true) (k20 : PySem.W.keepIn K (.ref f20) = true)
    {f21 : Addr} {od21 an21 : Option Addr} {sl21 : Array (Option Value)} {oc21 kV21 dc21 pm21 cd21 ct21 : Value}
    (a21 : PySem.W.nsIn K mainGlobals "_law_at" = some (some (.ref f21))) (l21 : K.lookup f21 = some ⟨oc21, od21, .func (PySem.W.fnOf "_law_at" "_law_at" (defArgs s_law_at) (defBody s_law_at) (defScope s_law_at) .none kV21 dc21 pm21 an21 cd21 ct21), sl21⟩) (c21 : PySem.W.codeIn K cd21 "_law_at" = true) (k21 : PySem.W.keepIn K (.ref f21) = true)
    {f22 : Addr} {od22 an22 : Option Addr} {sl22 : Array (Option Value)} {oc22 kV22 dc22 pm22 cd22 ct22 : Value}
    (a22 : PySem.W.nsIn K mainGlobals "_law_put" = some (some (.ref f22))) (l22 : K.lookup f22 = some ⟨oc22, od22, .func (PySem.W.fnOf "_law_put" "_law_put" (defArgs s_law_put) (defBody s_law_put) (defScope s_law_put) .none kV22 dc22 pm22 an22 cd22 ct22), sl22⟩) (c22 : PySem.W.codeIn K cd22 "_law_put" = true) (k22 : PySem.W.keepIn K (.ref f22) = true)
    {f23 : Addr} {od23 an23 : Option Addr} {sl23 : Array (Option Value)} {oc23 kV23 dc23 pm23 cd23 ct23 : Value}
    (a23 : PySem.W.nsIn K mainGlobals "_law_caught" = some (some (.ref f23))) (l23 : K.lookup f23 = some ⟨oc23, od23, .func (PySem.W.fnOf "_law_caught" "_law_caught" (defArgs s_law_caught) (defBody s_law_caught) (defScope s_law_caught) .none kV23 dc23 pm23 an23 cd23 ct23), sl23⟩) (c23 : PySem.W.codeIn K cd23 "_law_caught" = true) (k23 : PySem.W.keepIn K (.ref f23) = true)
    {f24 : Addr} {od24 an24 : Option Addr} {sl24 : Array (Option Value)} {oc24 kV24 dc24 pm24 cd24 ct24 : Value}
    (a24 : PySem.W.nsIn K mainGlobals "_law_refused" = some (some (.ref f24))) (l24 : K.lookup f24 = some ⟨oc24, od24, .func (PySem.W.fnOf "_law_refused" "_law_refused" (defArgs s_law_refused) (defBody s_law_refused) (defScope s_law_refused) .none kV24 dc24 pm24 an24 cd24 ct24), sl24⟩) (c24 : PySem.W.codeIn K cd24 "_law_refused" = true) (k24 : PySem.W.keepIn K (.ref f24) = true)
    {f25 : Addr} {od25 an25 : Option Addr} {sl25 : Array (Option Value)} {oc25 kV25 dc25 pm25 cd25 ct25 : Value}
    (a25 : PySem.W.nsIn K mainGlobals "_law_deep_right" = some (some (.ref f25))) (l25 : K.lookup f25 = some ⟨oc25, od25, .func (PySem.W.fnOf "_law_deep_right" "_law_deep_right" (defArgs s_law_deep_right) (defBody s_law_deep_right) (defScope s_law_deep_right) .none kV25 dc25 pm25 an25 cd25 ct25), sl25⟩) (c25 : PySem.W.codeIn K cd25 "_law_deep_right" = true) (k25 : PySem.W.keepIn K (.ref f25) = true)
    {f26 : Addr} {od26 an26 : Option Addr} {sl26 : Array (Option Value)} {oc26 kV26 dc26 pm26 cd26 ct26 : Value}
    (a26 : PySem.W.nsIn K mainGlobals "law" = some (some (.ref f26))) (l26 : K.lookup f26 = some ⟨oc26, od26, .func (PySem.W.fnOf "law" "law" (defArgs s_law) (defBody s_law) (defScope s_law) .none kV26 dc26 pm26 an26 cd26 ct26), sl26⟩) (c26 : PySem.W.codeIn K cd26 "law" = true) (k26 : PySem.W.keepIn K (.ref f26) = true)
    (z_isinstance : PySem.W.nsIn K mainGlobals "isinstance" = some none)
    (z_str : PySem.W.nsIn K mainGlobals "str" = some none)
    (z_len : PySem.W.nsIn K mainGlobals "len" = some none)
    (z_list : PySem.W.nsIn K mainGlobals "list" = some none)
    (z_int : PySem.W.nsIn K mainGlobals "int" = some none)
    (z_max : PySem.W.nsIn K mainGlobals "max" = some none)
    (z_range : PySem.W.nsIn K mainGlobals "range" = some none)
    (z_repr : PySem.W.nsIn K mainGlobals "repr" = some none)
    (z_enumerate : PySem.W.nsIn K mainGlobals "enumerate" = some none)
    : ∃ fd : FuncData, (∀ (s : Shared) (v : Value), BindsTo s fd ⟨[v], []⟩ [("_law_script", v)]) ∧ ∀ base : Heap, K.In base → base.Ns mainGlobals mg → FnDG l.prog w K mg base CX0 205 18 fa fd ["_law_script"] (sp_law K) := by
  have e := hfa.symm.trans (PySem.W.mg_of X G a26)
  cases e
  obtain ⟨e_TurnError, x_TurnError⟩ := cls_mk l_TurnError rfl ga_TurnError gg_TurnError ha_TurnError hn ht
  obtain ⟨e_InvalidTree, x_InvalidTree⟩ := cls_mk l_InvalidTree rfl ga_InvalidTree gg_InvalidTree ha_InvalidTree hn ht
  have o_InvalidTree := own_InvalidTree X G m_InvalidTree (oex_mk l_InvalidTree rfl sa_InvalidTree kC_InvalidTree e_InvalidTree) no_InvalidTree iC_InvalidTree (fty lf_InvalidTree) (fund_mk lf_InvalidTree cf_InvalidTree lT_InvalidTree)
  obtain ⟨e_InvalidAddress, x_InvalidAddress⟩ := cls_mk l_InvalidAddress rfl ga_InvalidAddress gg_InvalidAddress ha_InvalidAddress hn ht
  have o_InvalidAddress := own_InvalidAddress X G m_InvalidAddress (oex_mk l_InvalidAddress rfl sa_InvalidAddress kC_InvalidAddress e_InvalidAddress) no_InvalidAddress iC_InvalidAddress (fty lf_InvalidAddress) (fund_mk lf_InvalidAddress cf_InvalidAddress lT_InvalidAddress)
  have F0 := fun_mk (st := s_is_tree) l0 c0 k0
  have b0 := F0.binds (ps := ["value"]) fun _ _ _ _ _ _ us hl => match us, hl with | [_], _ => rfl
  have F1 := fun_mk (st := s_is_address) l1 c1 k1
  have b1 := F1.binds (ps := ["value"]) fun _ _ _ _ _ _ us hl => match us, hl with | [_], _ => rfl
  have F2 := fun_mk (st := s_check_tree) l2 c2 k2
  have b2 := F2.binds (ps := ["value"]) fun _ _ _ _ _ _ us hl => match us, hl with | [_], _ => rfl
  have F3 := fun_mk (st := s_check_address) l3 c3 k3
  have b3 := F3.binds (ps := ["value"]) fun _ _ _ _ _ _ us hl => match us, hl with | [_], _ => rfl
  have F4 := fun_mk (st := s_ends) l4 c4 k4
  have b4 := F4.binds (ps := ["tree"]) fun _ _ _ _ _ _ us hl => match us, hl with | [_], _ => rfl
  have F5 := fun_mk (st := s_stretch) l5 c5 k5
  have b5 := F5.binds (ps := ["tree", "address"]) fun _ _ _ _ _ _ us hl => match us, hl with | [_, _], _ => rfl
  have F6 := fun_mk (st := s_checked_stretch) l6 c6 k6
  have b6 := F6.binds (ps := ["tree", "address"]) fun _ _ _ _ _ _ us hl => match us, hl with | [_, _], _ => rfl
  have F7 := fun_mk (st := s_part) l7 c7 k7
  have b7 := F7.binds (ps := ["tree", "address"]) fun _ _ _ _ _ _ us hl => match us, hl with | [_, _], _ => rfl
  have F8 := fun_mk (st := s_addressed) l8 c8 k8
  have b8 := F8.binds (ps := ["tree"]) fun _ _ _ _ _ _ us hl => match us, hl with | [_], _ => rfl
  have F9 := fun_mk (st := s_leaves) l9 c9 k9
  have b9 := F9.binds (ps := ["tree"]) fun _ _ _ _ _ _ us hl => match us, hl with | [_], _ => rfl
  have F10 := fun_mk (st := s_nodes) l10 c10 k10
  have b10 := F10.binds (ps := ["tree"]) fun _ _ _ _ _ _ us hl => match us, hl with | [_], _ => rfl
  have F11 := fun_mk (st := s_replaced) l11 c11 k11
  have b11 := F11.binds (ps := ["tree", "address", "other"]) fun _ _ _ _ _ _ us hl => match us, hl with | [_, _, _], _ => rfl
  have F12 := fun_mk (st := s_law_cell) l12 c12 k12
  have b12 := F12.binds (ps := ["_law_script", "_law_index"]) fun _ _ _ _ _ _ us hl => match us, hl with | [_, _], _ => rfl
  have F13 := fun_mk (st := s_law_hash) l13 c13 k13
  have b13 := F13.binds (ps := ["_law_seed", "_law_index"]) fun _ _ _ _ _ _ us hl => match us, hl with | [_, _], _ => rfl
  have F14 := fun_mk (st := s_law_generator) l14 c14 k14
  have b14 := F14.binds (ps := ["_law_script", "_law_index"]) fun _ _ _ _ _ _ us hl => match us, hl with | [_, _], _ => rfl
  have F15 := fun_mk (st := s_law_random) l15 c15 k15
  have b15 := F15.binds (ps := ["_law_generator_here", "_law_bound"]) fun _ _ _ _ _ _ us hl => match us, hl with | [_, _], _ => rfl
  have F16 := fun_mk (st := s_law_tree) l16 c16 k16
  have b16 := F16.binds (ps := ["_law_generator_here", "_law_many"]) fun _ _ _ _ _ _ us hl => match us, hl with | [_, _], _ => rfl
  have F17 := fun_mk (st := s_law_parsed) l17 c17 k17
  have b17 := F17.binds (ps := ["_law_tree_here"]) fun _ _ _ _ _ _ us hl => match us, hl with | [_], _ => rfl
  have F18 := fun_mk (st := s_law_text) l18 c18 k18
  have b18 := F18.binds (ps := ["_law_parsed_here"]) fun _ _ _ _ _ _ us hl => match us, hl with | [_], _ => rfl
  have F19 := fun_mk (st := s_law_leaves) l19 c19 k19
  have b19 := F19.binds (ps := ["_law_parsed_here", "_law_road"]) fun _ _ _ _ _ _ us hl => match us, hl with | [_, _], _ => rfl
  have F20 := fun_mk (st := s_law_nodes) l20 c20 k20
  have b20 := F20.binds (ps := ["_law_parsed_here", "_law_road"]) fun _ _ _ _ _ _ us hl => match us, hl with | [_, _], _ => rfl
  have F21 := fun_mk (st := s_law_at) l21 c21 k21
  have b21 := F21.binds (ps := ["_law_parsed_here", "_law_road"]) fun _ _ _ _ _ _ us hl => match us, hl with | [_, _], _ => rfl
  have F22 := fun_mk (st := s_law_put) l22 c22 k22
  have b22 := F22.binds (ps := ["_law_parsed_here", "_law_road", "_law_other"]) fun _ _ _ _ _ _ us hl => match us, hl with | [_, _, _], _ => rfl
  have F23 := fun_mk (st := s_law_caught) l23 c23 k23
  have b23 := F23.binds (ps := ["_law_door", "_law_tree_here", "_law_address", "_law_other"]) fun _ _ _ _ _ _ us hl => match us, hl with | [_, _, _, _], _ => rfl
  have F24 := fun_mk (st := s_law_refused) l24 c24 k24
  have b24 := F24.binds (ps := ["_law_tree_here", "_law_address"]) fun _ _ _ _ _ _ us hl => match us, hl with | [_, _], _ => rfl
  have F25 := fun_mk (st := s_law_deep_right) l25 c25 k25
  have b25 := F25.binds (ps := ["_law_generator_here"]) fun _ _ _ _ _ _ us hl => match us, hl with | [_], _ => rfl
  have F26 := fun_mk (st := s_law) l26 c26 k26
  have b26 := F26.binds (ps := ["_law_script"]) fun _ _ _ _ _ _ us hl => match us, hl with | [_], _ => rfl
  refine ⟨PySem.W.fnOf "law" "law" (defArgs s_law) (defBody s_law) (defScope s_law) .none kV26 dc26 pm26 an26 cd26 ct26, fun s v => .of_eq rfl, fun base _ _ => ?_⟩
  exact ok_law { c_TurnError := _, g_TurnError := PySem.W.mg_of X G m_TurnError, e_TurnError := e_TurnError, c_InvalidTree := _, g_InvalidTree := PySem.W.mg_of X G m_InvalidTree, e_InvalidTree := e_InvalidTree, o_InvalidTree := o_InvalidTree, x_InvalidTree := x_InvalidTree, n_InvalidTree := no_InvalidTree, c_InvalidAddress := _, g_InvalidAddress := PySem.W.mg_of X G m_InvalidAddress, e_InvalidAddress := e_InvalidAddress, o_InvalidAddress := o_InvalidAddress, x_InvalidAddress := x_InvalidAddress, n_InvalidAddress := no_InvalidAddress, nd := nd, a_is_tree := _, fd_is_tree := _, F_is_tree := F0, b_is_tree := b0, m_is_tree := PySem.W.mg_of X G a0, a_is_address := _, fd_is_address := _, F_is_address := F1, b_is_address := b1, m_is_address := PySem.W.mg_of X G a1, a_check_tree := _, fd_check_tree := _, F_check_tree := F2, b_check_tree := b2, m_check_tree := PySem.W.mg_of X G a2, a_check_address := _, fd_check_address := _, F_check_address := F3, b_check_address := b3, m_check_address := PySem.W.mg_of X G a3, a_ends := _, fd_ends := _, F_ends := F4, b_ends := b4, m_ends := PySem.W.mg_of X G a4, a_stretch := _, fd_stretch := _, F_stretch := F5, b_stretch := b5, m_stretch := PySem.W.mg_of X G a5, a_checked_stretch := _, fd_checked_stretch := _, F_checked_stretch := F6, b_checked_stretch := b6, m_checked_stretch := PySem.W.mg_of X G a6, a_part := _, fd_part := _, F_part := F7, b_part := b7, m_part := PySem.W.mg_of X G a7, a_addressed := _, fd_addressed := _, F_addressed := F8, b_addressed := b8, m_addressed := PySem.W.mg_of X G a8, a_leaves := _, fd_leaves := _, F_leaves := F9, b_leaves := b9, m_leaves := PySem.W.mg_of X G a9, a_nodes := _, fd_nodes := _, F_nodes := F10, b_nodes := b10, m_nodes := PySem.W.mg_of X G a10, a_replaced := _, fd_replaced := _, F_replaced := F11, b_replaced := b11, m_replaced := PySem.W.mg_of X G a11, a_law_cell := _, fd_law_cell := _, F_law_cell := F12, b_law_cell := b12, m_law_cell := PySem.W.mg_of X G a12, a_law_hash := _, fd_law_hash := _, F_law_hash := F13, b_law_hash := b13, m_law_hash := PySem.W.mg_of X G a13, a_law_generator := _, fd_law_generator := _, F_law_generator := F14, b_law_generator := b14, m_law_generator := PySem.W.mg_of X G a14, a_law_random := _, fd_law_random := _, F_law_random := F15, b_law_random := b15, m_law_random := PySem.W.mg_of X G a15, a_law_tree := _, fd_law_tree := _, F_law_tree := F16, b_law_tree := b16, m_law_tree := PySem.W.mg_of X G a16, a_law_parsed := _, fd_law_parsed := _, F_law_parsed := F17, b_law_parsed := b17, m_law_parsed := PySem.W.mg_of X G a17, a_law_text := _, fd_law_text := _, F_law_text := F18, b_law_text := b18, m_law_text := PySem.W.mg_of X G a18, a_law_leaves := _, fd_law_leaves := _, F_law_leaves := F19, b_law_leaves := b19, m_law_leaves := PySem.W.mg_of X G a19, a_law_nodes := _, fd_law_nodes := _, F_law_nodes := F20, b_law_nodes := b20, m_law_nodes := PySem.W.mg_of X G a20, a_law_at := _, fd_law_at := _, F_law_at := F21, b_law_at := b21, m_law_at := PySem.W.mg_of X G a21, a_law_put := _, fd_law_put := _, F_law_put := F22, b_law_put := b22, m_law_put := PySem.W.mg_of X G a22, a_law_caught := _, fd_law_caught := _, F_law_caught := F23, b_law_caught := b23, m_law_caught := PySem.W.mg_of X G a23, a_law_refused := _, fd_law_refused := _, F_law_refused := F24, b_law_refused := b24, m_law_refused := PySem.W.mg_of X G a24, a_law_deep_right := _, fd_law_deep_right := _, F_law_deep_right := F25, b_law_deep_right := b25, m_law_deep_right := PySem.W.mg_of X G a25, a_law := _, fd_law := _, F_law := F26, b_law := b26, m_law := PySem.W.mg_of X G a26, z_isinstance := PySem.W.mg_none_of X G z_isinstance, z_str := PySem.W.mg_none_of X G z_str, z_len := PySem.W.mg_none_of X G z_len, z_list := PySem.W.mg_none_of X G z_list, z_int := PySem.W.mg_none_of X G z_int, z_max := PySem.W.mg_none_of X G z_max, z_range := PySem.W.mg_none_of X G z_range, z_repr := PySem.W.mg_none_of X G z_repr, z_enumerate := PySem.W.mg_none_of X G z_enumerate }
theorem walk {l : PySem.W.OpenLaw} {q : Program} {loose : List Str} {XP : (Str → Option Value) → Heap → Prop} {YP : World → Heap → Prop} {d : DefRec} {K : Params → PySem.W.Frag} (hn : l.most = some 63) (hdf : d.params.defaults = [])
    (hY : ∀ (w : World) (h : Heap), YP w h → (K w.params).In h)
    (F : ∀ (w : World) (mg : Str → Option Value) (fa : Addr) (h : Heap), (K w.params).In h → h.Ns mainGlobals mg → mg d.name = some (.ref fa) →
      ∃ fd : FuncData, (∀ (s : Shared) (u : Value), BindsTo s fd ⟨[u], []⟩ [("_law_script", u)]) ∧ ∀ base : Heap, (K w.params).In base → base.Ns mainGlobals mg → FnDG l.prog w (K w.params) mg base CX0 205 18 fa fd ["_law_script"] (sp_law (K w.params))) :
    PySem.W.WalkO q loose XP YP l.row.toRowW d [] (fun f vs => PySem.call f vs) :=
  walkGD (n := 63) (m := 205) (k := 18) (x := "_law_script") (sp := fun w => sp_law (K w.params)) hn (by decide) hdf ⟨rfl, by decide, by decide⟩ hY F (fun _ _ a ns hl _ hS => ⟨a, ns, rfl, hS, hl, fun _ => rfl⟩)
end Toy

open PySem PySem.W PyProof.Rows in
set_option maxRecDepth 100000 in
set_option maxHeartbeats 0 in
theorem PySem.Challenge.cw_treeturns_k03_parts_of_trees_holds : PySem.Challenge.rw_treeturns_k03_parts_of_trees.Holds := by
  w_on; o_law; k_head; (case hw => w_witness2)
  k_fill
  refine Toy.walk (l := PySem.Challenge.rw_treeturns_k03_parts_of_trees) rfl rfl (fun w h Y => PySem.W.kIn_of Y) ?F
  case F =>
    intro w mg fa h KX G hmg
    refine' Toy.all_mk KX G hmg ?hn ?ht ?m_TurnError ?l_TurnError ?ga_TurnError ?gg_TurnError ?ha_TurnError ?m_InvalidTree ?l_InvalidTree ?ga_InvalidTree ?gg_InvalidTree ?ha_InvalidTree ?sa_InvalidTree ?kC_InvalidTree ?no_InvalidTree ?iC_InvalidTree ?lf_InvalidTree ?cf_InvalidTree ?lT_InvalidTree ?m_InvalidAddress ?l_InvalidAddress ?ga_InvalidAddress ?gg_InvalidAddress ?ha_InvalidAddress ?sa_InvalidAddress ?kC_InvalidAddress ?no_InvalidAddress ?iC_InvalidAddress ?lf_InvalidAddress ?cf_InvalidAddress ?lT_InvalidAddress ?nd ?a0 ?l0 ?c0 ?k0 ?a1 ?l1 ?c1 ?k1 ?a2 ?l2 ?c2 ?k2 ?a3 ?l3 ?c3 ?k3 ?a4 ?l4 ?c4 ?k4 ?a5 ?l5 ?c5 ?k5 ?a6 ?l6 ?c6 ?k6 ?a7 ?l7 ?c7 ?k7 ?a8 ?l8 ?c8 ?k8 ?a9 ?l9 ?c9 ?k9 ?a10 ?l10 ?c10 ?k10 ?a11 ?l11 ?c11 ?k11 ?a12 ?l12 ?c12 ?k12 ?a13 ?l13 ?c13 ?k13 ?a14 ?l14 ?c14 ?k14 ?a15 ?l15 ?c15 ?k15 ?a16 ?l16 ?c16 ?k16 ?a17 ?l17 ?c17 ?k17 ?a18 ?l18 ?c18 ?k18 ?a19 ?l19 ?c19 ?k19 ?a20 ?l20 ?c20 ?k20 ?a21 ?l21 ?c21 ?k21 ?a22 ?l22 ?c22 ?k22 ?a23 ?l23 ?c23 ?k23 ?a24 ?l24 ?c24 ?k24 ?a25 ?l25 ?c25 ?k25 ?a26 ?l26 ?c26 ?k26 ?z_isinstance ?z_str ?z_len ?z_list ?z_int ?z_max ?z_range ?z_repr ?z_enumerate
    (case hn => k_is)
    (case ht => k_is)
    (case m_TurnError => k_is)
    (case l_TurnError => k_is)
    (case ga_TurnError => k_is)
    (case gg_TurnError => k_is)
    (case ha_TurnError => k_is)
    (case m_InvalidTree => k_is)
    (case l_InvalidTree => k_is)
    (case ga_InvalidTree => k_is)
    (case gg_InvalidTree => k_is)
    (case ha_InvalidTree => k_is)
    (case sa_InvalidTree => k_is)
    (case kC_InvalidTree => k_is)
    (case no_InvalidTree => k_is)
    (case iC_InvalidTree => k_is)
    (case lf_InvalidTree => k_is)
    (case cf_InvalidTree => k_is)
    (case lT_InvalidTree => k_is)
    (case m_InvalidAddress => k_is)
    (case l_InvalidAddress => k_is)
    (case ga_InvalidAddress => k_is)
    (case gg_InvalidAddress => k_is)
    (case ha_InvalidAddress => k_is)
    (case sa_InvalidAddress => k_is)
    (case kC_InvalidAddress => k_is)
    (case no_InvalidAddress => k_is)
    (case iC_InvalidAddress => k_is)
    (case lf_InvalidAddress => k_is)
    (case cf_InvalidAddress => k_is)
    (case lT_InvalidAddress => k_is)
    (case nd => decide)
    (case a0 => k_is)
    (case l0 => k_is)
    (case c0 => k_is)
    (case k0 => k_is)
    (case a1 => k_is)
    (case l1 => k_is)
    (case c1 => k_is)
    (case k1 => k_is)
    (case a2 => k_is)
    (case l2 => k_is)
    (case c2 => k_is)
    (case k2 => k_is)
    (case a3 => k_is)
    (case l3 => k_is)
    (case c3 => k_is)
    (case k3 => k_is)
    (case a4 => k_is)
    (case l4 => k_is)
    (case c4 => k_is)
    (case k4 => k_is)
    (case a5 => k_is)
    (case l5 => k_is)
    (case c5 => k_is)
    (case k5 => k_is)
    (case a6 => k_is)
    (case l6 => k_is)
    (case c6 => k_is)
    (case k6 => k_is)
    (case a7 => k_is)
    (case l7 => k_is)
    (case c7 => k_is)
    (case k7 => k_is)
    (case a8 => k_is)
    (case l8 => k_is)
    (case c8 => k_is)
    (case k8 => k_is)
    (case a9 => k_is)
    (case l9 => k_is)
    (case c9 => k_is)
    (case k9 => k_is)
    (case a10 => k_is)
    (case l10 => k_is)
    (case c10 => k_is)
    (case k10 => k_is)
    (case a11 => k_is)
    (case l11 => k_is)
    (case c11 => k_is)
    (case k11 => k_is)
    (case a12 => k_is)
    (case l12 => k_is)
    (case c12 => k_is)
    (case k12 => k_is)
    (case a13 => k_is)
    (case l13 => k_is)
    (case c13 => k_is)
    (case k13 => k_is)
    (case a14 => k_is)
    (case l14 => k_is)
    (case c14 => k_is)
    (case k14 => k_is)
    (case a15 => k_is)
    (case l15 => k_is)
    (case c15 => k_is)
    (case k15 => k_is)
    (case a16 => k_is)
    (case l16 => k_is)
    (case c16 => k_is)
    (case k16 => k_is)
    (case a17 => k_is)
    (case l17 => k_is)
    (case c17 => k_is)
    (case k17 => k_is)
    (case a18 => k_is)
    (case l18 => k_is)
    (case c18 => k_is)
    (case k18 => k_is)
    (case a19 => k_is)
    (case l19 => k_is)
    (case c19 => k_is)
    (case k19 => k_is)
    (case a20 => k_is)
    (case l20 => k_is)
    (case c20 => k_is)
    (case k20 => k_is)
    (case a21 => k_is)
    (case l21 => k_is)
    (case c21 => k_is)
    (case k21 => k_is)
    (case a22 => k_is)
    (case l22 => k_is)
    (case c22 => k_is)
    (case k22 => k_is)
    (case a23 => k_is)
    (case l23 => k_is)
    (case c23 => k_is)
    (case k23 => k_is)
    (case a24 => k_is)
    (case l24 => k_is)
    (case c24 => k_is)
    (case k24 => k_is)
    (case a25 => k_is)
    (case l25 => k_is)
    (case c25 => k_is)
    (case k25 => k_is)
    (case a26 => k_is)
    (case l26 => k_is)
    (case c26 => k_is)
    (case k26 => k_is)
    (case z_isinstance => k_is)
    (case z_str => k_is)
    (case z_len => k_is)
    (case z_list => k_is)
    (case z_int => k_is)
    (case z_max => k_is)
    (case z_range => k_is)
    (case z_repr => k_is)
    (case z_enumerate => k_is)

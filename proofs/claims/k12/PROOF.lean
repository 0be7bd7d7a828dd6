import PyProof.Rows.All
import Wide.All
import OpenK.AllK
import Wide.FinOn
import HandS.ForMost
import HandS.Flow
import HandS.Wide
import HandS.WideBits
import HandS.NoneIn
import HandS.IsInst
import PyProof.Rows.RegReprOcc
import KE.KExcIs
import HandS.Base
import HandS.Call
import HandS.List
import HandS.Ends
import HandS.Exc
import HandS.ExcInit
import HandS.ExcField
import HandS.ExcIs
import HandS.Defaults
import HandS.MakeKwOnly
import PyProof.ReprRoads
import PyProof.ReprReads
import PyProof.StrLawsRepr
import PyProof.ReprBulk
import HandS.ExcValue
import HandS.Words
import HandS.Codes
import HandS.Dict
import HandS.WordsExc
import HandS.Replace
import HandS.ReplaceLit
import HandS.Iter
import HandS.Steps
import HandS.StrMore
import HandS.Text
import PyProof.EqLayable
import PyProof.Rows.StrStrike
import HandS.Style
import PyProof.Rows.StrRev
import PyProof.StrOps2
import KE.KRevSl
import HandS.DeepEq
import PyProof.NeData
import HandS.More
import HandS.TupAny
import PySem.Challenge.RW_treeturns_k12_scripts_undone_and_written
set_option Elab.async false
set_option linter.all false
set_option maxRecDepth 100000
set_option maxHeartbeats 4000000
set_option linter.all false
/-! Trees, plainly: growing, hanging, meet and join. -/
namespace TT
inductive Tr where
  | leaf
  | node (l r : Tr)
  deriving DecidableEq
namespace Tr
def size : Tr → Nat
  | leaf => 0
  | node l r => l.size + r.size + 1
/-- the text's length -/
def len : Tr → Nat
  | leaf => 1
  | node l r => l.len + r.len + 2
/-- the text -/
def cs : Tr → List Nat
  | leaf => [46]
  | node l r => 40 :: (l.cs ++ (r.cs ++ [41]))
theorem cs_length : ∀ t : Tr, t.cs.length = t.len
  | leaf => rfl
  | node l r => by simp [cs, len, cs_length l, cs_length r]; omega
theorem len_size : ∀ t : Tr, t.len = 3 * t.size + 1
  | leaf => rfl
  | node l r => by simp [size, len, len_size l, len_size r]; omega
theorem len_pos (t : Tr) : 0 < t.len := by rw [len_size]; omega
theorem cs_inj' : ∀ (s t : Tr) (a b : List Nat), s.cs ++ a = t.cs ++ b → s = t ∧ a = b
  | leaf, leaf, a, b, h => by simp [cs] at h; exact ⟨rfl, h⟩
  | leaf, node l r, a, b, h => by simp [cs] at h
  | node l r, leaf, a, b, h => by simp [cs] at h
  | node l r, node l' r', a, b, h => by
    simp only [cs, List.cons_append, List.append_assoc, List.cons.injEq, true_and] at h
    obtain ⟨e1, h1⟩ := cs_inj' l l' _ _ h
    obtain ⟨e2, h2⟩ := cs_inj' r r' _ _ h1
    simp at h2
    exact ⟨by rw [e1, e2], h2⟩
theorem cs_inj {s t : Tr} (h : s.cs = t.cs) : s = t := (cs_inj' s t [] [] (by rw [h])).1

/-- number of leaves -/
def lvs : Tr → Nat
  | leaf => 1
  | node l r => l.lvs + r.lvs
theorem lvs_size : ∀ t : Tr, t.lvs = t.size + 1
  | leaf => rfl
  | node l r => by simp [lvs, size, lvs_size l, lvs_size r]; omega

/-- grow the tree by the list, and what is left of it -/
def growR : Tr → List Tr → Tr × List Tr
  | leaf, [] => (leaf, [])
  | leaf, x :: xs => (x, xs)
  | node l r, xs => ((node (l.growR xs).1 (r.growR (l.growR xs).2).1), (r.growR (l.growR xs).2).2)
def grow (t : Tr) (xs : List Tr) : Tr := (t.growR xs).1
/-- the list with which the second tree grows into the first -/
def hang : Tr → Tr → Option (List Tr)
  | s, leaf => some [s]
  | leaf, node _ _ => none
  | node a b, node c d => (hang a c).bind fun x => (hang b d).map fun y => x ++ y
def meet : Tr → Tr → Tr
  | node a b, node c d => node (meet a c) (meet b d)
  | _, _ => leaf
def join : Tr → Tr → Tr
  | leaf, t => t
  | s, leaf => s
  | node a b, node c d => node (join a c) (join b d)

theorem growR_len : ∀ (t : Tr) (xs : List Tr), t.lvs ≤ xs.length → (t.growR xs).2.length + t.lvs = xs.length
  | leaf, [], h => by simp [lvs] at h
  | leaf, x :: xs, h => by simp [growR, lvs]
  | node l r, xs, h => by
    simp only [lvs] at h
    have h1 := growR_len l xs (by omega)
    have h2 := growR_len r (l.growR xs).2 (by omega)
    simp only [growR, lvs]
    omega
theorem hang_len : ∀ (s c : Tr) (xs : List Tr), hang s c = some xs → xs.length = c.lvs
  | s, leaf, xs, h => by simp [hang] at h; subst h; rfl
  | leaf, node _ _, xs, h => by simp [hang] at h
  | node a b, node c d, xs, h => by
    simp only [hang, Option.bind_eq_some_iff, Option.map_eq_some_iff] at h
    obtain ⟨x, hx, y, hy, rfl⟩ := h
    simp [lvs, hang_len a c x hx, hang_len b d y hy]
theorem growR_hang : ∀ (s c : Tr) (xs rest : List Tr), hang s c = some xs → c.growR (xs ++ rest) = (s, rest)
  | s, leaf, xs, rest, h => by simp [hang] at h; subst h; rfl
  | leaf, node _ _, xs, rest, h => by simp [hang] at h
  | node a b, node c d, xs, rest, h => by
    simp only [hang, Option.bind_eq_some_iff, Option.map_eq_some_iff] at h
    obtain ⟨x, hx, y, hy, rfl⟩ := h
    simp only [growR, List.append_assoc, growR_hang a c x _ hx, growR_hang b d y _ hy]
theorem grow_hang {s c : Tr} {xs : List Tr} (h : hang s c = some xs) : c.grow xs = s := by
  have := growR_hang s c xs [] h
  rw [List.append_nil] at this
  unfold grow; rw [this]
/-- hanging what was grown -/
theorem hang_growR : ∀ (c : Tr) (xs : List Tr), c.lvs ≤ xs.length → hang (c.growR xs).1 c = some (xs.take c.lvs) ∧ (c.growR xs).2 = xs.drop c.lvs
  | leaf, [], h => by simp [lvs] at h
  | leaf, x :: xs, h => by simp [growR, hang, lvs]
  | node l r, xs, h => by
    simp only [lvs] at h
    obtain ⟨h1, e1⟩ := hang_growR l xs (by omega)
    have hl : r.lvs ≤ (l.growR xs).2.length := by rw [e1, List.length_drop]; omega
    obtain ⟨h2, e2⟩ := hang_growR r (l.growR xs).2 hl
    refine ⟨?_, ?_⟩
    · simp only [growR, hang, h1, h2, Option.bind_some, Option.map_some, lvs]
      rw [e1, List.take_add]
    · show (r.growR (l.growR xs).2).2 = _
      rw [e2, e1, List.drop_drop]; rfl
theorem hang_grow {c : Tr} {xs : List Tr} (h : xs.length = c.lvs) : hang (c.grow xs) c = some xs := by
  have := (hang_growR c xs (by omega)).1
  unfold grow; rw [this, ← h, List.take_length]

theorem meet_comm : ∀ s t : Tr, meet s t = meet t s
  | leaf, leaf => rfl
  | leaf, node _ _ => rfl
  | node _ _, leaf => rfl
  | node a b, node c d => by simp only [meet, meet_comm a c, meet_comm b d]
theorem join_comm : ∀ s t : Tr, join s t = join t s
  | leaf, leaf => rfl
  | leaf, node _ _ => rfl
  | node _ _, leaf => rfl
  | node a b, node c d => by simp only [join, join_comm a c, join_comm b d]
theorem meet_leaf (t : Tr) : meet t leaf = leaf := by cases t <;> rfl
theorem leaf_meet (t : Tr) : meet leaf t = leaf := rfl
theorem join_leaf (t : Tr) : join t leaf = t := by cases t <;> rfl
theorem leaf_join (t : Tr) : join leaf t = t := rfl
theorem meet_self : ∀ t : Tr, meet t t = t
  | leaf => rfl
  | node a b => by simp only [meet, meet_self a, meet_self b]
theorem join_self : ∀ t : Tr, join t t = t
  | leaf => rfl
  | node a b => by simp only [join, join_self a, join_self b]
theorem meet_assoc : ∀ a b c : Tr, meet (meet a b) c = meet a (meet b c)
  | leaf, _, _ => rfl
  | node _ _, leaf, c => by simp [meet]
  | node _ _, node _ _, leaf => by simp [meet]
  | node a b, node c d, node e f => by simp only [meet, meet_assoc a c e, meet_assoc b d f]
theorem join_assoc : ∀ a b c : Tr, join (join a b) c = join a (join b c)
  | leaf, _, _ => rfl
  | node _ _, leaf, c => by rw [join_leaf, leaf_join]
  | node a b, node c d, leaf => by rw [join_leaf, join_leaf]
  | node a b, node c d, node e f => by simp only [join, join_assoc a c e, join_assoc b d f]
theorem join_meet_self : ∀ a b : Tr, join a (meet a b) = a
  | leaf, _ => rfl
  | node _ _, leaf => rfl
  | node a b, node c d => by simp only [meet, join, join_meet_self a c, join_meet_self b d]
theorem meet_join_self : ∀ a b : Tr, meet a (join a b) = a
  | leaf, _ => rfl
  | node a b, leaf => by rw [join_leaf, meet_self]
  | node a b, node c d => by simp only [meet, join, meet_join_self a c, meet_join_self b d]
theorem join_meet_distrib : ∀ a b c : Tr, join a (meet b c) = meet (join a b) (join a c)
  | leaf, b, c => rfl
  | node a b, leaf, c => by rw [leaf_meet, join_leaf, meet_join_self]
  | node a b, node c d, leaf => by rw [meet_leaf, join_leaf, meet_comm, meet_join_self]
  | node a b, node c d, node e f => by simp only [meet, join, join_meet_distrib a c e, join_meet_distrib b d f]
theorem size_join_meet : ∀ a b : Tr, (join a b).size + (meet a b).size = a.size + b.size
  | leaf, leaf => rfl
  | leaf, node _ _ => by simp [join, meet, size]
  | node _ _, leaf => by simp [join, meet, size]
  | node a b, node c d => by
    have := size_join_meet a c
    have := size_join_meet b d
    simp only [join, meet, size]; omega
theorem size_join_le (a b : Tr) : (join a b).size ≤ a.size + b.size := by have := size_join_meet a b; omega
theorem size_meet_le : ∀ (a b : Tr), (meet a b).size ≤ a.size
  | leaf, _ => Nat.le_refl _
  | node _ _, leaf => Nat.zero_le _
  | node a b, node c d => by
    have := size_meet_le a c
    have := size_meet_le b d
    simp only [meet, size]; omega
/-- the second tree grows into the first exactly if the join is the first, if the meet is the second -/
theorem hang_iff_join : ∀ s c : Tr, (hang s c).isSome = true ↔ join s c = s
  | s, leaf => by simp [hang, join_leaf]
  | leaf, node _ _ => by simp [hang, join]
  | node a b, node c d => by
    have h1 := hang_iff_join a c
    have h2 := hang_iff_join b d
    simp only [hang, join, node.injEq, ← h1, ← h2]
    cases hang a c <;> cases hang b d <;> simp
theorem hang_iff_meet : ∀ s c : Tr, (hang s c).isSome = true ↔ meet s c = c
  | s, leaf => by simp [hang, meet_leaf]
  | leaf, node _ _ => by simp [hang, meet]
  | node a b, node c d => by
    have h1 := hang_iff_meet a c
    have h2 := hang_iff_meet b d
    simp only [hang, meet, node.injEq, ← h1, ← h2]
    cases hang a c <;> cases hang b d <;> simp
theorem hang_meet (a b : Tr) : ∃ xs, hang a (meet a b) = some xs :=
  Option.isSome_iff_exists.mp ((hang_iff_meet _ _).mpr (by rw [← meet_assoc, meet_self]))
theorem hang_meet' (a b : Tr) : ∃ xs, hang b (meet a b) = some xs := by rw [meet_comm]; exact hang_meet b a
theorem hang_join (a b : Tr) : ∃ xs, hang (join a b) a = some xs :=
  Option.isSome_iff_exists.mp ((hang_iff_meet _ _).mpr (by rw [meet_comm, meet_join_self]))
/-- what the program makes of the two lists -/
def pick (x y : Tr) : Tr := if x = leaf then y else x
theorem growR_pick : ∀ (a b : Tr) (xs ys rs : List Tr), hang a (meet a b) = some xs → hang b (meet a b) = some ys →
    (meet a b).growR (List.zipWith pick xs ys ++ rs) = (join a b, rs)
  | leaf, b, xs, ys, rs, h1, h2 => by
    simp [meet, hang] at h1 h2; subst h1; subst h2
    simp [meet, growR, join, pick]
  | node a b, leaf, xs, ys, rs, h1, h2 => by
    simp [meet, hang] at h1 h2; subst h1; subst h2
    simp [meet, growR, join, pick]
  | node a b, node c d, xs, ys, rs, h1, h2 => by
    simp only [meet, hang, Option.bind_eq_some_iff, Option.map_eq_some_iff] at h1 h2
    obtain ⟨x1, hx1, x2, hx2, rfl⟩ := h1
    obtain ⟨y1, hy1, y2, hy2, rfl⟩ := h2
    have e : x1.length = y1.length := by rw [hang_len _ _ _ hx1, hang_len _ _ _ hy1]
    rw [List.zipWith_append e]
    simp only [meet, growR, join, List.append_assoc, growR_pick a c x1 y1 _ hx1 hy1, growR_pick b d x2 y2 _ hx2 hy2]
theorem grow_pick {a b : Tr} {xs ys : List Tr} (h1 : hang a (meet a b) = some xs) (h2 : hang b (meet a b) = some ys) : (meet a b).grow (List.zipWith pick xs ys) = join a b := by
  have := growR_pick a b xs ys [] h1 h2
  rw [List.append_nil] at this
  unfold grow; rw [this]

/-! ### a part at an offset of the text -/
inductive Sub (T : Tr) : Nat → Tr → Prop where
  | root : Sub T 0 T
  | left {o : Nat} {l r : Tr} : Sub T o (node l r) → Sub T (o + 1) l
  | right {o : Nat} {l r : Tr} : Sub T o (node l r) → Sub T (o + 1 + l.len) r
theorem Sub.cut {T s : Tr} {o : Nat} (h : Sub T o s) : ∃ A B, T.cs = A ++ (s.cs ++ B) ∧ A.length = o := by
  induction h with
  | root => exact ⟨[], [], by simp, rfl⟩
  | @left o l r _ ih =>
    obtain ⟨A, B, e, h⟩ := ih
    exact ⟨A ++ [40], r.cs ++ [41] ++ B, by rw [e]; simp [cs], by simp [h]⟩
  | @right o l r _ ih =>
    obtain ⟨A, B, e, h⟩ := ih
    exact ⟨A ++ [40] ++ l.cs, [41] ++ B, by rw [e]; simp [cs], by simp [h, cs_length]; omega⟩
/-- where each part ends, by its first sign's index (0 at closing signs) -/
def ends : Nat → Tr → List Nat
  | o, leaf => [o + 1]
  | o, node l r => (o + (node l r).len) :: (ends (o + 1) l ++ (ends (o + 1 + l.len) r ++ [0]))
theorem ends_length : ∀ (o : Nat) (t : Tr), (ends o t).length = t.len
  | o, leaf => rfl
  | o, node l r => by simp [ends, len, ends_length _ l, ends_length _ r]; omega
theorem Sub.ends_at {T s : Tr} {o : Nat} (h : Sub T o s) : ∃ A B, ends 0 T = A ++ (ends o s ++ B) ∧ A.length = o := by
  induction h with
  | root => exact ⟨[], [], by simp, rfl⟩
  | @left o l r _ ih =>
    obtain ⟨A, B, e, h⟩ := ih
    exact ⟨A ++ [o + (node l r).len], ends (o + 1 + l.len) r ++ [0] ++ B, by rw [e]; simp [ends], by simp [h]⟩
  | @right o l r _ ih =>
    obtain ⟨A, B, e, h⟩ := ih
    exact ⟨A ++ [o + (node l r).len] ++ ends (o + 1) l, [0] ++ B, by rw [e]; simp [ends], by simp [h, ends_length]; omega⟩
theorem ends_head (o : Nat) (s : Tr) : ∃ B, ends o s = (o + s.len) :: B := by
  cases s with
  | leaf => exact ⟨[], rfl⟩
  | node l r => exact ⟨_, rfl⟩
theorem Sub.end_get {T s : Tr} {o : Nat} (h : Sub T o s) : (ends 0 T)[o]? = some (o + s.len) := by
  obtain ⟨A, B, e, hl⟩ := h.ends_at
  obtain ⟨C, e2⟩ := ends_head o s
  rw [e, e2, ← hl, List.getElem?_append_right (Nat.le_refl _), Nat.sub_self]
  simp
theorem Sub.le {T s : Tr} {o : Nat} (h : Sub T o s) : o + s.len ≤ T.len := by
  obtain ⟨A, B, e, hl⟩ := h.cut
  have := congrArg List.length e
  simp [cs_length, hl] at this
  omega
theorem Sub.size_le {T s : Tr} {o : Nat} (h : Sub T o s) : s.size ≤ T.size := by
  have h1 := h.le
  rw [len_size, len_size] at h1
  omega
end Tr
end TT

set_option linter.all false
/-! TW: addresses of leaves and nodes, nodes off the right arm. -/
namespace TT
/-- how many signs c stand at the end -/
def trail (c : Nat) (a : List Nat) : Nat := (a.reverse.takeWhile (· == c)).length
def topOf (c : Nat) (a : List Nat) : List Nat := a.take (a.length - trail c a)
theorem trail_same (c : Nat) (a : List Nat) : trail c (a ++ [c]) = trail c a + 1 := by
  unfold trail
  rw [List.reverse_append]
  simp
theorem trail_other {c d : Nat} (h : d ≠ c) (a : List Nat) : trail c (a ++ [d]) = 0 := by
  unfold trail
  rw [List.reverse_append]
  simp [h]
theorem trail_le (c : Nat) (a : List Nat) : trail c a ≤ a.length := by
  unfold trail
  have := (List.takeWhile_sublist (p := (· == c)) (l := a.reverse)).length_le
  simpa using this
theorem topOf_same (c : Nat) (a : List Nat) : topOf c (a ++ [c]) = topOf c a := by
  unfold topOf
  have := trail_le c a
  rw [trail_same, List.length_append, List.length_singleton, Nat.add_sub_add_right, List.take_append_of_le_length (by omega)]
theorem topOf_other {c d : Nat} (h : d ≠ c) (a : List Nat) : topOf c (a ++ [d]) = a ++ [d] := by
  unfold topOf
  rw [trail_other h, Nat.sub_zero, List.take_length]
theorem topOf_none {c : Nat} {a : List Nat} (h : trail c a = 0) : topOf c a = a := by
  unfold topOf
  rw [h, Nat.sub_zero, List.take_length]
theorem takeWhile_all {p : Nat → Bool} : ∀ {l : List Nat} {x : Nat}, x ∈ l.takeWhile p → p x = true
  | [], x, h => by cases h
  | y :: ys, x, h => by
    rw [List.takeWhile_cons] at h
    split at h
    · rename_i hy
      rcases List.mem_cons.mp h with rfl | h
      · exact hy
      · exact takeWhile_all h
    · cases h
theorem mem_of_trail {c : Nat} {a : List Nat} (h : 0 < trail c a) : c ∈ a := by
  unfold trail at h
  cases e : a.reverse.takeWhile (· == c) with
  | nil => rw [e] at h; exact absurd h (by decide)
  | cons x xs =>
    have m : x ∈ a.reverse.takeWhile (· == c) := by rw [e]; exact List.mem_cons_self ..
    have h1 := takeWhile_all m
    have h2 := (List.takeWhile_sublist _).subset m
    have : x = c := by simpa using h1
    rw [← this]
    simpa using h2
theorem mem_topOf {c : Nat} {a : List Nat} (h : c ∈ topOf c a) : c ∈ a := List.mem_of_mem_take h
/-- the nodes off the arm whose leftmost leaf is at a -/
def bg (a : List Nat) : Nat := if 0 < trail 108 a ∧ 108 ∉ topOf 108 a then trail 108 a - 1 else trail 108 a
theorem bg_nil : bg [] = 0 := by decide
theorem bg_r (a : List Nat) : bg (a ++ [114]) = 0 := by
  unfold bg
  rw [trail_other (by decide)]
  simp
theorem bg_l (a : List Nat) : bg (a ++ [108]) = bg a + (if 108 ∈ a then 1 else 0) := by
  unfold bg
  rw [trail_same, topOf_same]
  by_cases h0 : trail 108 a = 0
  · rw [h0, topOf_none h0]
    by_cases h : 108 ∈ a
    · simp [h]
    · simp [h]
  · have hm : 108 ∈ a := mem_of_trail (by omega)
    rw [if_pos hm]
    by_cases h : 108 ∈ topOf 108 a
    · rw [if_neg (by simp [h]), if_neg (by simp [h])]
    · rw [if_pos ⟨by omega, h⟩, if_pos ⟨by omega, h⟩]
      omega
namespace Tr
/-- each part's address and first sign, in the text's order -/
def adrs : Tr → List Nat → List (List Nat × Nat)
  | leaf, a => [(a, 46)]
  | node l r, a => (a, 40) :: (adrs l (a ++ [108]) ++ adrs r (a ++ [114]))
def lvA : Tr → List Nat → List (List Nat)
  | leaf, a => [a]
  | node l r, a => lvA l (a ++ [108]) ++ lvA r (a ++ [114])
def ndA : Tr → List Nat → List (List Nat)
  | leaf, _ => []
  | node l r, a => ndA l (a ++ [108]) ++ [a] ++ ndA r (a ++ [114])
/-- the text without closing signs -/
def ps : Tr → List Nat
  | leaf => [46]
  | node l r => 40 :: (ps l ++ ps r)
theorem ps_filter : ∀ t : Tr, t.cs.filter (· != 41) = t.ps
  | leaf => by decide
  | node l r => by
    simp only [cs, ps, List.filter_cons, List.filter_append, ps_filter l, ps_filter r]
    simp
theorem adrs_length : ∀ (t : Tr) (a : List Nat), (t.adrs a).length = t.ps.length
  | leaf, a => rfl
  | node l r, a => by simp [adrs, ps, adrs_length l, adrs_length r]
theorem ps_length : ∀ t : Tr, t.ps.length = 2 * t.size + 1
  | leaf => rfl
  | node l r => by simp [ps, size, ps_length l, ps_length r]; omega
theorem lvA_adrs : ∀ (t : Tr) (a : List Nat), ((t.adrs a).filter (fun x => x.2 == 46)).map (·.1) = t.lvA a
  | leaf, a => rfl
  | node l r, a => by
    simp only [adrs, lvA, List.filter_cons, List.filter_append, List.map_append, lvA_adrs l, lvA_adrs r]
    simp [lvA_adrs l, lvA_adrs r]
theorem lvA_length : ∀ (t : Tr) (a : List Nat), (t.lvA a).length = t.lvs
  | leaf, a => rfl
  | node l r, a => by simp [lvA, lvs, lvA_length l, lvA_length r]
theorem ndA_length : ∀ (t : Tr) (a : List Nat), (t.ndA a).length = t.size
  | leaf, a => rfl
  | node l r, a => by simp [ndA, size, ndA_length l, ndA_length r]; omega
theorem adrs_len : ∀ (t : Tr) (a : List Nat), ∀ x ∈ t.adrs a, x.1.length ≤ a.length + t.size
  | leaf, a, x, h => by rw [List.mem_singleton.mp h]; exact Nat.le_add_right _ _
  | node l r, a, x, h => by
    simp only [adrs, List.mem_cons, List.mem_append] at h
    simp only [size]
    rcases h with rfl | h | h
    · simp
    · have := adrs_len l _ x h
      simp at this; omega
    · have := adrs_len r _ x h
      simp at this; omega
theorem lvA_len : ∀ (t : Tr) (a : List Nat), ∀ x ∈ t.lvA a, x.length ≤ a.length + t.size
  | leaf, a, x, h => by rw [List.mem_singleton.mp h]; exact Nat.le_add_right _ _
  | node l r, a, x, h => by
    simp only [lvA, List.mem_append] at h
    simp only [size]
    rcases h with h | h
    · have := lvA_len l _ x h
      simp at this; omega
    · have := lvA_len r _ x h
      simp at this; omega
theorem ndA_len : ∀ (t : Tr) (a : List Nat), ∀ x ∈ t.ndA a, x.length ≤ a.length + t.size
  | leaf, a, x, h => by cases h
  | node l r, a, x, h => by
    simp only [ndA, List.mem_append, List.mem_singleton] at h
    simp only [size]
    rcases h with (h | h) | h
    · have := ndA_len l _ x h
      simp at this; omega
    · rw [h]; omega
    · have := ndA_len r _ x h
      simp at this; omega
/-- the nodes of the right arm -/
def arm : Tr → Nat
  | leaf => 0
  | node _ r => arm r + 1
def off : Tr → Nat
  | leaf => 0
  | node l r => l.size + off r
theorem off_arm : ∀ t : Tr, t.off + t.arm = t.size
  | leaf => rfl
  | node l r => by simp only [off, arm, size]; have := off_arm r; omega
theorem trail_cs : ∀ t : Tr, trail 41 t.cs = t.arm
  | leaf => by decide
  | node l r => by
    have e : (node l r).cs = (40 :: (l.cs ++ r.cs)) ++ [41] := by simp [cs]
    rw [e, trail_same]
    show _ = arm r + 1
    refine congrArg (· + 1) ?_
    rw [← trail_cs r]
    unfold trail
    have : ∃ x xs, r.cs.reverse = xs ++ x :: [] ∧ x ≠ 41 := by
      cases r with
      | leaf => exact ⟨46, [], rfl, by decide⟩
      | node p q => exact ⟨40, (p.cs ++ (q.cs ++ [41])).reverse, by simp [cs], by decide⟩
    obtain ⟨x, xs, h1, h2⟩ := this
    have h3 : (40 :: (l.cs ++ r.cs)).reverse = r.cs.reverse ++ (l.cs.reverse ++ [40]) := by simp
    rw [h3, h1, List.append_assoc]
    have : ∀ (ys zs : List Nat), ((ys ++ x :: zs).takeWhile (· == 41)) = ((ys ++ [x]).takeWhile (· == 41)) := by
      intro ys
      induction ys with
      | nil => intro zs; simp [h2]
      | cons y ys ih =>
        intro zs
        simp only [List.cons_append, List.takeWhile_cons]
        rw [ih zs]
    exact congrArg List.length (this xs _)
/-! ### counting at the leaves -/
def addH (k : Nat) : List Nat → List Nat
  | [] => []
  | x :: xs => (k + x) :: xs
theorem addH_zero : ∀ xs : List Nat, addH 0 xs = xs
  | [] => rfl
  | x :: xs => by simp [addH]
theorem addH_add (i j : Nat) : ∀ xs : List Nat, addH i (addH j xs) = addH (i + j) xs
  | [] => rfl
  | x :: xs => by simp [addH, Nat.add_assoc]
theorem addH_append (k : Nat) : ∀ {xs ys : List Nat}, xs ≠ [] → addH k (xs ++ ys) = addH k xs ++ ys
  | [], _, h => absurd rfl h
  | x :: xs, ys, _ => rfl
theorem addH_length (k : Nat) : ∀ xs : List Nat, (addH k xs).length = xs.length
  | [] => rfl
  | x :: xs => rfl
def Dn : Tr → List Nat → List Nat
  | leaf, _ => [0]
  | node l r, a => addH (if 108 ∈ a then 1 else 0) (Dn l (a ++ [108])) ++ Dn r (a ++ [114])
theorem Dn_length : ∀ (t : Tr) (a : List Nat), (Dn t a).length = t.lvs
  | leaf, a => rfl
  | node l r, a => by simp [Dn, lvs, addH_length, Dn_length l, Dn_length r]
theorem lvs_pos (t : Tr) : 0 < t.lvs := by rw [lvs_size]; omega
theorem Dn_ne (t : Tr) (a : List Nat) : Dn t a ≠ [] := fun z => by
  have h1 := Dn_length t a
  have h2 := lvs_pos t
  rw [z] at h1
  simp at h1
  omega
theorem addH_ne (k : Nat) {xs : List Nat} (h : xs ≠ []) : addH k xs ≠ [] := by
  cases xs with
  | nil => exact absurd rfl h
  | cons x xs => simp [addH]
theorem bg_map : ∀ (t : Tr) (a : List Nat), (t.lvA a).map bg = addH (bg a) (Dn t a)
  | leaf, a => rfl
  | node l r, a => by
    simp only [lvA, Dn, List.map_append]
    rw [bg_map l, bg_map r, bg_l, bg_r, addH_zero, addH_append _ (addH_ne _ (Dn_ne l _)), addH_add]
theorem bg_all (t : Tr) : (t.lvA []).map bg = Dn t [] := by rw [bg_map, bg_nil, addH_zero]
theorem addH_sum (k : Nat) {xs : List Nat} (h : xs ≠ []) : (addH k xs).sum = k + xs.sum := by
  cases xs with
  | nil => exact absurd rfl h
  | cons x xs => simp [addH]; omega
theorem Dn_sum : ∀ (t : Tr) (a : List Nat), (Dn t a).sum = if 108 ∈ a then t.size else t.off
  | leaf, a => by simp [Dn, size, off]
  | node l r, a => by
    simp only [Dn, List.sum_append, addH_sum _ (Dn_ne l _), Dn_sum l, Dn_sum r, size, off]
    by_cases h : 108 ∈ a
    · simp [h]; omega
    · simp [h]
theorem bg_sum (t : Tr) : ((t.lvA []).map bg).sum = t.off := by
  rw [bg_all, Dn_sum]
  simp
/-! ### counting by the nodes -/
def fi (A : List (List Nat)) (n : List Nat) : Nat := A.findIdx fun s => n.isPrefixOf s
def bump (f : List Nat) (i : Nat) : List Nat := f.set i (f.getD i 0 + 1)
def bumps (A ns : List (List Nat)) (f : List Nat) : List Nat := ns.foldl (fun f n => if 108 ∈ n then bump f (fi A n) else f) f
theorem pre_self (a m : List Nat) : a.isPrefixOf (a ++ m) = true := List.isPrefixOf_iff_prefix.mpr (List.prefix_append a m)
theorem lvA_pre : ∀ (t : Tr) (a : List Nat), ∀ s ∈ t.lvA a, a <+: s
  | leaf, a, s, h => by rw [List.mem_singleton.mp h]; exact List.prefix_refl _
  | node l r, a, s, h => by
    rcases List.mem_append.mp h with h | h
    · exact (List.prefix_append a [108]).trans (lvA_pre l _ s h)
    · exact (List.prefix_append a [114]).trans (lvA_pre r _ s h)
theorem ndA_pre : ∀ (t : Tr) (a : List Nat), ∀ n ∈ t.ndA a, a <+: n
  | leaf, a, n, h => by cases h
  | node l r, a, n, h => by
    simp only [ndA, List.mem_append, List.mem_singleton] at h
    rcases h with (h | h) | h
    · exact (List.prefix_append a [108]).trans (ndA_pre l _ n h)
    · rw [h]; exact List.prefix_refl _
    · exact (List.prefix_append a [114]).trans (ndA_pre r _ n h)
theorem ndA_leaf : ∀ (t : Tr) (a : List Nat), ∀ n ∈ t.ndA a, ∃ s ∈ t.lvA a, n <+: s
  | leaf, a, n, h => by cases h
  | node l r, a, n, h => by
    simp only [ndA, List.mem_append, List.mem_singleton] at h
    rcases h with (h | h) | h
    · obtain ⟨s, hs, hp⟩ := ndA_leaf l _ n h
      exact ⟨s, List.mem_append_left _ hs, hp⟩
    · obtain ⟨s, hs⟩ : ∃ s, s ∈ l.lvA (a ++ [108]) := List.exists_mem_of_length_pos (by rw [lvA_length]; exact lvs_pos l)
      exact ⟨s, List.mem_append_left _ hs, by rw [h]; exact (List.prefix_append a [108]).trans (lvA_pre l _ s hs)⟩
    · obtain ⟨s, hs, hp⟩ := ndA_leaf r _ n h
      exact ⟨s, List.mem_append_right _ hs, hp⟩
theorem fi_lt {A : List (List Nat)} {n s : List Nat} (hs : s ∈ A) (h : n <+: s) : fi A n < A.length := List.findIdx_lt_length_of_exists ⟨s, hs, List.isPrefixOf_iff_prefix.mpr h⟩
theorem fi_left {A B : List (List Nat)} {n s : List Nat} (hs : s ∈ A) (h : n <+: s) : fi (A ++ B) n = fi A n := by
  have := fi_lt hs h
  unfold fi at this ⊢
  rw [List.findIdx_append, if_pos this]
theorem fi_right {A B : List (List Nat)} {n : List Nat} (h : ∀ s ∈ A, ¬ n <+: s) : fi (A ++ B) n = fi B n + A.length := by
  have e : A.findIdx (fun s => n.isPrefixOf s) = A.length := List.findIdx_eq_length.mpr fun s hs => by
    cases hz : n.isPrefixOf s with
    | false => rfl
    | true => exact absurd (List.isPrefixOf_iff_prefix.mp hz) (h s hs)
  unfold fi
  rw [List.findIdx_append, if_neg (by rw [e]; omega)]
theorem bump_left {x y : List Nat} {i : Nat} (h : i < x.length) : bump (x ++ y) i = bump x i ++ y := by
  unfold bump
  rw [List.set_append_left _ _ h, List.getD_eq_getElem?_getD, List.getD_eq_getElem?_getD, List.getElem?_append_left h]
theorem bump_right (x y : List Nat) (i : Nat) : bump (x ++ y) (i + x.length) = x ++ bump y i := by
  unfold bump
  rw [List.set_append_right _ _ (by omega), List.getD_eq_getElem?_getD, List.getD_eq_getElem?_getD, List.getElem?_append_right (by omega), Nat.add_sub_cancel]
theorem bump_length (x : List Nat) (i : Nat) : (bump x i).length = x.length := List.length_set
theorem bumps_length (A : List (List Nat)) : ∀ (ns : List (List Nat)) (f : List Nat), (bumps A ns f).length = f.length
  | [], f => rfl
  | n :: ns, f => by
    show (bumps A ns (if 108 ∈ n then bump f (fi A n) else f)).length = _
    rw [bumps_length A ns]
    split
    · exact bump_length _ _
    · rfl
theorem bumps_left {A B : List (List Nat)} : ∀ {ns : List (List Nat)} {x y : List Nat}, x.length = A.length → (∀ n ∈ ns, ∃ s ∈ A, n <+: s) → bumps (A ++ B) ns (x ++ y) = bumps A ns x ++ y
  | [], x, y, _, _ => rfl
  | n :: ns, x, y, hl, h => by
    obtain ⟨s, hs, hp⟩ := h n (List.mem_cons_self ..)
    show bumps (A ++ B) ns (if 108 ∈ n then bump (x ++ y) (fi (A ++ B) n) else x ++ y) = bumps A ns (if 108 ∈ n then bump x (fi A n) else x) ++ y
    have hl' := fi_lt hs hp
    rw [fi_left hs hp, bump_left (by rw [hl]; exact hl')]
    split
    · exact bumps_left (by rw [bump_length, hl]) fun m hm => h m (List.mem_cons_of_mem _ hm)
    · exact bumps_left hl fun m hm => h m (List.mem_cons_of_mem _ hm)
theorem bumps_right {A B : List (List Nat)} : ∀ {ns : List (List Nat)} {x y : List Nat}, x.length = A.length → (∀ n ∈ ns, ∀ s ∈ A, ¬ n <+: s) → bumps (A ++ B) ns (x ++ y) = x ++ bumps B ns y
  | [], x, y, _, _ => rfl
  | n :: ns, x, y, hl, h => by
    have hn := h n (List.mem_cons_self ..)
    show bumps (A ++ B) ns (if 108 ∈ n then bump (x ++ y) (fi (A ++ B) n) else x ++ y) = x ++ bumps B ns (if 108 ∈ n then bump y (fi B n) else y)
    rw [fi_right hn, ← hl, bump_right]
    split
    · exact bumps_right hl fun m hm => h m (List.mem_cons_of_mem _ hm)
    · exact bumps_right hl fun m hm => h m (List.mem_cons_of_mem _ hm)
theorem bumps_append (A : List (List Nat)) (ns ms : List (List Nat)) (f : List Nat) : bumps A (ns ++ ms) f = bumps A ms (bumps A ns f) := List.foldl_append
theorem bump_zero : ∀ {x : List Nat}, x ≠ [] → bump x 0 = addH 1 x
  | [], h => absurd rfl h
  | y :: ys, _ => by
    show (y + 1) :: ys = (1 + y) :: ys
    rw [Nat.add_comm]
theorem parted {a n s : List Nat} (h1 : a ++ [114] <+: n) (h2 : a ++ [108] <+: s) : ¬ n <+: s := fun h => by
  obtain ⟨m, e1⟩ := h1.trans h
  obtain ⟨k, e2⟩ := h2
  rw [← e2, List.append_assoc, List.append_assoc] at e1
  have := List.append_cancel_left e1
  simp at this
theorem bumps_Dn : ∀ (t : Tr) (a : List Nat), bumps (t.lvA a) (t.ndA a) (List.replicate t.lvs 0) = Dn t a
  | leaf, a => rfl
  | node l r, a => by
    simp only [lvA, ndA, lvs, Dn]
    rw [← List.replicate_append_replicate, bumps_append, bumps_append, bumps_left (by rw [lvA_length, List.length_replicate]) (ndA_leaf l _), bumps_Dn l]
    obtain ⟨s, hs⟩ : ∃ s, s ∈ l.lvA (a ++ [108]) := List.exists_mem_of_length_pos (by rw [lvA_length]; exact lvs_pos l)
    have f0 : fi (l.lvA (a ++ [108]) ++ r.lvA (a ++ [114])) a = 0 := by
      cases e : l.lvA (a ++ [108]) with
      | nil => rw [e] at hs; cases hs
      | cons z zs =>
        have hz := lvA_pre l (a ++ [108]) z (by rw [e]; exact List.mem_cons_self ..)
        have : a.isPrefixOf z = true := List.isPrefixOf_iff_prefix.mpr ((List.prefix_append a [108]).trans hz)
        unfold fi
        rw [List.cons_append, List.findIdx_cons, this]
        rfl
    have e1 : bumps (l.lvA (a ++ [108]) ++ r.lvA (a ++ [114])) [a] (Dn l (a ++ [108]) ++ List.replicate r.lvs 0) = addH (if 108 ∈ a then 1 else 0) (Dn l (a ++ [108])) ++ List.replicate r.lvs 0 := by
      show (if 108 ∈ a then bump (Dn l (a ++ [108]) ++ List.replicate r.lvs 0) (fi _ a) else _) = _
      rw [f0]
      split
      · rw [bump_zero (by simp [Dn_ne]), addH_append _ (Dn_ne l _)]
      · rw [addH_zero]
    rw [e1, bumps_right (by rw [addH_length, Dn_length, lvA_length]) (fun n hn s hs => parted (ndA_pre r _ n hn) (lvA_pre l _ s hs)), bumps_Dn r]
end Tr
end TT
namespace TT
namespace Tr
def cL : Nat → Tr
  | 0 => leaf
  | n + 1 => node (cL n) leaf
def cR : Nat → Tr
  | 0 => leaf
  | n + 1 => node leaf (cR n)
theorem cL_size : ∀ n, (cL n).size = n
  | 0 => rfl
  | n + 1 => by simp [cL, size, cL_size n]
theorem cR_size : ∀ n, (cR n).size = n
  | 0 => rfl
  | n + 1 => by simp [cR, size, cR_size n]
theorem cL_Dn : ∀ (n : Nat) (a : List Nat), 108 ∈ a → Dn (cL n) a = n :: List.replicate n 0
  | 0, a, _ => rfl
  | n + 1, a, h => by
    show addH (if 108 ∈ a then 1 else 0) (Dn (cL n) (a ++ [108])) ++ [0] = _
    rw [if_pos h, cL_Dn n _ (by simp)]
    show (1 + n) :: (List.replicate n 0 ++ [0]) = _
    rw [Nat.add_comm 1 n]
    refine congrArg _ ?_
    exact List.replicate_succ'.symm
theorem cL_top (n : Nat) : Dn (cL (n + 1)) [] = n :: List.replicate (n + 1) 0 := by
  show addH (if 108 ∈ [] then 1 else 0) (Dn (cL n) ([] ++ [108])) ++ [0] = _
  rw [if_neg (by simp), addH_zero, cL_Dn n _ (by simp)]
  exact congrArg (List.cons n) List.replicate_succ'.symm
theorem cR_Dn : ∀ (n : Nat) (a : List Nat), 108 ∉ a → Dn (cR n) a = List.replicate (n + 1) 0
  | 0, a, _ => rfl
  | n + 1, a, h => by
    show addH (if 108 ∈ a then 1 else 0) [0] ++ Dn (cR n) (a ++ [114]) = _
    rw [if_neg h, addH_zero, cR_Dn n _ (by simp [h])]
    rfl
theorem cL_off (n : Nat) : (cL (n + 1)).off = n := by
  show (cL n).size + 0 = n
  rw [cL_size]
  rfl
theorem cR_off : ∀ n, (cR n).off = 0
  | 0 => rfl
  | n + 1 => by
    show leaf.size + (cR n).off = 0
    rw [cR_off n]
    rfl
end Tr
end TT

set_option Elab.async false
set_option linter.all false
set_option maxRecDepth 100000
set_option maxHeartbeats 4000000
/-! further rules over the hand layer -/
namespace TT
open PySem PySem.Spec PyProof.Rows L2

/-! ### texts as lists of signs -/
abbrev S (l : List Nat) : Str := ⟨l.toArray⟩
theorem S_app (a b : List Nat) : S a ++ S b = S (a ++ b) := by
  show Str.append (S a) (S b) = _
  unfold Str.append
  simp
theorem S_len (a : List Nat) : (S a).length = a.length := by simp [Str.length]
theorem S_inj {a b : List Nat} (h : S a = S b) : a = b := by
  have := congrArg (fun x => x.cps.toList) h
  simpa using this
theorem S_iff {a b : List Nat} : S a = S b ↔ a = b := ⟨S_inj, fun h => by rw [h]⟩
theorem S_of (x : Str) : x = S x.cps.toList := by cases x; simp
theorem lit_open : ("(" : Str) = S [40] := by decide +kernel
theorem lit_close : (")" : Str) = S [41] := by decide +kernel
theorem lit_dot : ("." : Str) = S [46] := by decide +kernel
theorem lit_empty : ("" : Str) = S [] := by decide +kernel
theorem lit_l : ("l" : Str) = S [108] := by decide +kernel
theorem lit_r : ("r" : Str) = S [114] := by decide +kernel
theorem lit_tree : ("tree" : Str) = S [116, 114, 101, 101] := by decide +kernel
theorem lit_end : ("end" : Str) = S [101, 110, 100] := by decide +kernel

section
variable {X : Cx}
theorem sg_eq {d : Nat} {x : Str} (hx : x = S [d]) : ({ cps := #[d] } : Str) = x := hx.symm
theorem sg_ne {c d : Nat} {x : Str} (hx : x = S [d]) (h : c ≠ d) : ¬ ({ cps := #[c] } : Str) = x := fun e => h (by
  have := S_inj (a := [c]) (b := [d]) (e.trans hx)
  simpa using this)
theorem ifdT {p A B : Prop} [Decidable p] (h : p) (a : A) : if decide p = true then A else B := by rw [if_pos (decide_eq_true h)]; exact a
theorem ifdF {p A B : Prop} [Decidable p] (h : ¬ p) (b : B) : if decide p = true then A else B := by rw [if_neg (by rw [decide_eq_true_eq]; exact h)]; exact b
theorem ifnT {p A B : Prop} [Decidable p] (h : ¬ p) (a : A) : if (!decide p) = true then A else B := by rw [if_pos (by rw [decide_eq_false h]; rfl)]; exact a
theorem ifnF {p A B : Prop} [Decidable p] (h : p) (b : B) : if (!decide p) = true then A else B := by rw [if_neg (by rw [decide_eq_true h]; exact Bool.false_ne_true)]; exact b
theorem ixN_nat {n j : Nat} (h : j < n) : ixN n (j : Int) = some j := by
  unfold ixN
  rw [if_pos (by omega), if_pos (by omega)]; simp
/-- readings told with K -/
def tTruK (K : PySem.W.Frag) (ta : TE) : TT := fun σ H Q => ta σ H fun x H' => ∃ k, TruV K x H' k ∧ Q k H'
def rLenSK (K : PySem.W.Frag) : List V → Hp → VK → Prop := fun xs H Q => ∃ p ys, xs = [.ref p] ∧ (SqL K H p ys ∨ SqT K H p ys) ∧ Q (.int ys.length) H
theorem cxOf_K {CX : CXT} {P : Program} {w : World} {K : PySem.W.Frag} {mg : Str → Option Value} {base : Heap} {N : List Str} {qual : Str} {scope : Scope} {f : Addr} {cd : Value} {A : Around} {outer : List Env} {s : Shared} {H : Hp} {E : XK} :
    (cxOf CX P w K mg base N qual scope f cd A outer s H E).K = K := rfl
/-- a text, a list: of their own kind -/
theorem tyV_lst {K : PySem.W.Frag} {H : Hp} {a : Addr} {xs : List V} (h : H a = some (.lst xs)) : tyV K "list" (.ref a) H := .inl ⟨rfl, _, SqL.of h⟩
theorem _root_.L2.Same.new {H H' : Hp} {p : Addr} (e : Same H H') (h : H p = none) (o : HO) : Same H (upd H' p o) := fun b u q => by
  rw [upd_ne (ne_of_none q h)]; exact e b u q
theorem _root_.L2.Same.get {H H' : Hp} {a : Addr} {o : HO} (e : Same H H') (h : H a = some o) : H' a = some o := e a o h
theorem small5 {n : Nat} (h : n ≤ 16000000) : n ≤ sizeLine := by rw [sizeLine_eq]; omega
theorem small5' {n : Nat} (h : n ≤ 16000000) : n < sizeLine := by rw [sizeLine_eq]; omega
/-! ### powers -/
def CPowB (i j : Int) : Prop := 0 ≤ j ∧ (Builtin.Int.intBits i : Int) * j ≤ 2 ^ 27
theorem op_powB : OpR X (binaryOp .Pow) (rI CPowB fun i j => .int (i ^ j.toNat)) := opI fun _ _ _ _ _ _ _ hc q => pow_int hc.1 hc.2 q

theorem call_intI : CallR X (.type "int") (fun xs H Q => ∃ i, xs = [.int i] ∧ Q (.int i) H) := fun pins s σ H xs us Q I r h => call_int1 pins s σ H xs us Q I r (.inl h)
theorem call_intB : CallR X (.type "int") (fun xs H Q => ∃ k, xs = [.bl k] ∧ Q (.int (if k then 1 else 0)) H) := fun pins s σ H xs us Q I r h => call_int1 pins s σ H xs us Q I r (.inr h)
theorem cmulR {i j : Int} (h : -(2 ^ 64) < j ∧ j < 2 ^ 64) : CMul i j := .inr h
theorem cmulL {i j : Int} (h : -(2 ^ 64) < i ∧ i < 2 ^ 64) : CMul i j := .inl h
theorem cmod (x : Int) {m : Int} (h : 0 < m) (h2 : m < 2 ^ 64) : -(2 ^ 64) < x % m ∧ x % m < 2 ^ 64 := by
  have h3 := Int.emod_nonneg x (show m ≠ 0 by omega)
  have h4 := Int.emod_lt_of_pos x h
  omega
theorem cdivW {i b : Int} (h : 1 ≤ b) (h2 : b < 1000000000000000) : CDivW i b := by
  refine ⟨by omega, ?_⟩
  have : b.natAbs.log2 < 50 := (Nat.log2_lt (by omega)).mpr (by omega)
  omega
/-! ### enumerate of a text -/
def Ites (x : Str) : It :=
  ⟨fun i _ => i < x.cps.size, fun i H v H' => ∃ T c, v = .ref T ∧ H T = none ∧ x.cps[i]? = some c ∧ H' = upd H T (.tup [.int (i : Nat), .str ⟨#[c]⟩]), fun i _ => x.cps.size ≤ i⟩
theorem turn_enumS {P : Program} {w : World} {K : PySem.W.Frag} {elts : List Expr} {kk : Nat} {tpos : Pos} (e it : Addr) (x : Str) (t : Tok) (ty : String) (hty : ty = "str_ascii_iterator" ∨ ty = "str_iterator") :
    Turn P w K (.Tuple elts kk tpos) (Ites x) [e, it] e (fun i h => (∃ old, IsEnum h e it ((i : Nat) : Int) old) ∧ h.IsStrIter it ty x t i ∧ e ≠ it) where
  mem := by simp
  obj := fun i h st b hb => by
    obtain ⟨⟨old, he⟩, ⟨o, ho, hc, hd⟩, _⟩ := st
    have e' : b = e ∨ b = it := by simpa using hb
    rcases e' with z | z
    · rw [z]; exact ⟨_, he, fun v q => nomatch q⟩
    · rw [z]; exact ⟨o, ho, fun v q => by rw [hd] at q; cases q⟩
  keep := fun i h h' st k => by
    obtain ⟨⟨old, he⟩, ⟨o, ho, r⟩, hne⟩ := st
    exact ⟨⟨old, k e (by simp) _ he⟩, ⟨o, k it (by simp) o ho, r⟩, hne⟩
  item := by
    intro X hP hw hK hc i pins s σ H E I hf st hg
    subst hP hw hK
    obtain ⟨⟨old, he⟩, hit, hne⟩ := st
    have hel : e < s.heap.objs.size := Heap.lt_size he
    have hil : it < s.heap.objs.size := by obtain ⟨_, q, _⟩ := hit; exact Heap.lt_size q
    have D : Draws X.prog X.w X.A.in1 it [it] x.cps.size (fun i v => ∃ c u, x.cps[i]? = some c ∧ v = .str ⟨#[c]⟩ u) (fun i h => h.IsStrIter it ty x t i) := by
      rcases hty with q | q
      · rw [q]; exact Draws.strAscii (A := X.A.in1) (I.ok.hd hc) it x t
      · rw [q]; exact Draws.strWide (A := X.A.in1) (I.ok.hd hc) it x t
    refine wpAny_pyNext_enum_itemD D he hit hg hne (by simpa using hne) fun y h' tk hy ho hit' hT hsz hk => ?_
    obtain ⟨c, u, hcx, rfl⟩ := hy
    refine ⟨_, rfl, wpAny_letOwnedTupleGo_enum (s := { s with heap := h', toks := tk + 1 }) ho fun h'' he' sb => ?_⟩
    have hT2 : h''.get? s.heap.objs.size = some { cls := .type "tuple", data := .seq #[.int i tk, .str ⟨#[c]⟩ u] } := (sb.2 _ (Nat.ne_of_gt hel)).trans hT
    have new : ObjOk X.prog X.w (upd H s.heap.objs.size (.tup [.int (i : Nat), .str ⟨#[c]⟩])) h'' s.heap.objs.size (.tup [.int (i : Nat), .str ⟨#[c]⟩]) :=
      ⟨by show 2 ≤ sizeLine; decide, [.int i tk, .str ⟨#[c]⟩ u], .cons ⟨_, rfl⟩ (.cons ⟨_, rfl⟩ .nil), ⟨_, hT2, rfl, _, rfl⟩⟩
    have I1 : Inv X pins σ (upd H s.heap.objs.size (.tup [.int (i : Nat), .str ⟨#[c]⟩])) { s with heap := h'', toks := tk + 1 } :=
      I.turnedNew (ch := [e, it]) (fun b ob hb q => (sb.2 b (fun z => hb (by simp [z]))).trans (hk b ob (fun z => hb (by simp [z])) (fun z => hb (by simp [z])) q)) hf (Nat.le_refl _) new
    refine ⟨.ref s.heap.objs.size, _, I1, rfl, ⟨_, c, rfl, I.hok.fresh (Nat.le_refl _), hcx, rfl⟩, ⟨⟨.str ⟨#[c]⟩ u, ?_⟩, ?_, hne⟩, fun b hb => ?_⟩
    · have e1 : ((i + 1 : Nat) : Int) = (i : Int) + 1 := by omega
      rw [e1]; exact he'
    · obtain ⟨o, ho', r⟩ := hit'
      exact ⟨o, (sb.2 it (Ne.symm hne)).trans ho', r⟩
    · have hb' : b < s.heap.objs.size := by
        have e' : b = e ∨ b = it := by simpa using hb
        rcases e' with z | z
        · rw [z]; exact hel
        · rw [z]; exact hil
      rw [upd_ne (Nat.ne_of_lt hb')]
      exact (hf b hb).1
  done := by
    intro X hP hw hK hc i pins s σ H E I hf st hg
    subst hP hw hK
    obtain ⟨⟨old, he⟩, hit, hne⟩ := st
    obtain ⟨f0, f1, f2, f3, f4, f5⟩ := hf it (by simp)
    have hx : x.cps[i]? = none := Array.getElem?_eq_none hg
    have hT : s.TypeIs (.ref e) "enumerate" := ⟨_, he, rfl⟩
    unfold pyNext
    refine wpAny_bind (wpAny_attempt (wpAny_callSpecial?_slot (name := Str.ofString "__next__") hT F.slot_enumerate_next
      (wpAny_call_entry F.slot_enumerate_next hT F.entry_enumerate_next ?_ (F.args_enumerate_next_1 _))))
    show wpAny _ _ (field (.ref e) 2 >>= _) _ _ _
    refine wpAny_bind (wpAny_field he rfl (x := .ref it) rfl ?_)
    rcases hty with q | q
    · subst q
      refine wpAny_bind (wpAny_nextOf_ascii_end (A := X.A.in1) (I.ok.hd hc) hit hx fun h' e2 he2 hx' => ?_)
      obtain ⟨o, ho, hcc⟩ := hx'
      refine wpAny_bind (wpAny_isInstance (T := "StopIteration") (b := true) ⟨o, ho, hcc⟩ isSubtype_stop ?_)
      exact wpAny_pure ⟨rfl, I.turned (t' := s.toks) (fun b o hb y => he2 b o hb y) f0 f1 f3 f4 f5⟩
    · subst q
      refine wpAny_bind (wpAny_nextOf_wide_end (A := X.A.in1) (I.ok.hd hc) hit hx fun h' e2 he2 hx' => ?_)
      obtain ⟨o, ho, hcc⟩ := hx'
      refine wpAny_bind (wpAny_isInstance (T := "StopIteration") (b := true) ⟨o, ho, hcc⟩ isSubtype_stop ?_)
      exact wpAny_pure ⟨rfl, I.turned (t' := s.toks) (fun b o hb y => he2 b o hb y) f0 f1 f3 f4 f5⟩
  self := fun A i s Q E st h => let ⟨⟨_, he⟩, _⟩ := st; wpAny_pyIter_enum he h
def iEnumS (ta : TA) : TI := fun σ H R => ta σ H fun vs H1 => ∃ x, vs = [.str x] ∧ R (Ites x) H1
theorem pi_enumS {e : Expr} {ta : TA} {p pos tpos : Pos} {elts : List Expr} {kk : Nat} (hg : Gl X "enumerate") (hm : X.mg "enumerate" = none) (ha : PA X [e] ta) (hs : starEach [e] X.env = [(false, eval e X.env)] := by rfl) :
    PI X (.Tuple elts kk tpos) (.Call (.Name "enumerate" p) [e] [] pos) (iEnumS ta) := by
  refine ⟨fun pins s σ H R I h => ?_⟩
  refine Call_ (ld_blt I hg hm boot_enumerate (PyProof.Rows.callWith_type1 (thn (ha.run pos pins s σ H _ I h) fun us s1 ⟨vs, H1, I1, r1, q1⟩ => ?_) hs rfl))
  obtain ⟨x, ex, q⟩ := q1
  subst ex
  cases r1 with
  | cons r rr =>
    cases rr
    obtain ⟨t, rfl⟩ := r
    refine call_enumerate_str fun h' he hit hsz hk => wpAny_pyIter_enum he ?_
    have I2 : Inv X pins σ H1 { s1 with heap := h' } := I1.kept (t' := s1.toks) hk
    have hty : strIterType x = "str_ascii_iterator" ∨ strIterType x = "str_iterator" := by
      unfold strIterType
      split
      · exact .inl rfl
      · exact .inr rfl
    refine ⟨s1.heap.objs.size + 1, [s1.heap.objs.size + 1, s1.heap.objs.size], _, _, H1, rfl, I2, turn_enumS (s1.heap.objs.size + 1) s1.heap.objs.size x t _ hty, ⟨⟨.none, he⟩, hit, Nat.succ_ne_self _⟩, fun b hb => ?_, q⟩
    have e' : b = s1.heap.objs.size + 1 ∨ b = s1.heap.objs.size := by simpa using hb
    have hle : s1.heap.objs.size ≤ b := by
      rcases e' with z | z
      · rw [z]; exact Nat.le_add_right _ _
      · rw [z]; exact Nat.le_refl _
    exact I1.fpOk hle (I1.hok.fresh hle)
end
/-- a loop over enumerate(text) -/
theorem for_enumS {x : Str} {g : TG} {tb : TS} {D : Ends} {σ : L2.St} {H : Hp} (Pv : Nat → L2.St → Hp → Prop) (h0 : Pv 0 σ H)
    (hs : ∀ i c σ H T, x.cps[i]? = some c → Pv i σ H → H T = none → g (.ref T) σ (upd H T (.tup [.int (i : Nat), .str ⟨#[c]⟩])) fun σ2 H2 => tb { D with nx := Pv (i + 1), ct := Pv (i + 1), bk := D.nx } σ2 H2) (hd : ∀ σ H, Pv x.cps.size σ H → D.nx σ H) :
    ∃ W : Nat → Nat → L2.St → Hp → Prop, (∃ m, W 0 m σ H) ∧ ∀ i m σ H, W i m σ H →
      ((Ites x).stop i H ∧ D.nx σ H) ∨ ((Ites x).go i H ∧ ∃ N : L2.St → Hp → Prop, (∀ σ' H', N σ' H' → ∃ m', m' < m ∧ W (i + 1) m' σ' H') ∧ ∀ v H', (Ites x).yld i H v H' → g v σ H' fun σ2 H2 => tb { D with nx := N, ct := N, bk := D.nx } σ2 H2) := by
  refine ⟨fun i m σ H => m = x.cps.size - i ∧ i ≤ x.cps.size ∧ Pv i σ H, ⟨x.cps.size, by simp, Nat.zero_le _, h0⟩, ?_⟩
  rintro i m σ H ⟨rfl, hi, p⟩
  by_cases hlt : i < x.cps.size
  · refine .inr ⟨hlt, Pv (i + 1), fun σ' H' q => ⟨x.cps.size - (i + 1), by omega, rfl, hlt, q⟩, fun v H' y => ?_⟩
    obtain ⟨T, c, rfl, hT, hc, rfl⟩ := y
    exact hs i c σ H T hc p hT
  · have : i = x.cps.size := by omega
    subst this
    exact .inl ⟨Nat.le_refl _, hd σ H p⟩
/-- a loop over a text's signs -/
theorem for_str {x : Str} {g : TG} {tb : TS} {D : Ends} {σ : L2.St} {H : Hp} (Pv : Nat → L2.St → Hp → Prop) (h0 : Pv 0 σ H)
    (hs : ∀ i c σ H, x.cps[i]? = some c → Pv i σ H → g (.str ⟨#[c]⟩) σ H fun σ2 H2 => tb { D with nx := Pv (i + 1), ct := Pv (i + 1), bk := D.nx } σ2 H2) (hd : ∀ σ H, Pv x.cps.size σ H → D.nx σ H) :
    ∃ W : Nat → Nat → L2.St → Hp → Prop, (∃ m, W 0 m σ H) ∧ ∀ i m σ H, W i m σ H →
      ((Its x).stop i H ∧ D.nx σ H) ∨ ((Its x).go i H ∧ ∃ N : L2.St → Hp → Prop, (∀ σ' H', N σ' H' → ∃ m', m' < m ∧ W (i + 1) m' σ' H') ∧ ∀ v H', (Its x).yld i H v H' → g v σ H' fun σ2 H2 => tb { D with nx := N, ct := N, bk := D.nx } σ2 H2) := by
  refine ⟨fun i m σ H => m = x.cps.size - i ∧ i ≤ x.cps.size ∧ Pv i σ H, ⟨x.cps.size, by simp, Nat.zero_le _, h0⟩, ?_⟩
  rintro i m σ H ⟨rfl, hi, p⟩
  by_cases hlt : i < x.cps.size
  · refine .inr ⟨hlt, Pv (i + 1), fun σ' H' q => ⟨x.cps.size - (i + 1), by omega, rfl, hlt, q⟩, fun v H' y => ?_⟩
    obtain ⟨rfl, c, hc, rfl⟩ := y
    exact hs i c σ H' hc p
  · have : i = x.cps.size := by omega
    subst this
    exact .inl ⟨Nat.le_refl _, hd σ H p⟩
/-- a comprehension over zip(two lists) -/
theorem lc_zip {K : PySem.W.Frag} {a b : Addr} {xs ys : List V} {g : TG} {tt : TT} {te : TE} {vs : List Nat} {σ : L2.St} {H1 : Hp} {D : Addr} {Qd : Hp → Prop} (Pv : Nat → Hp → Prop) (h0 : Pv 0 (upd H1 D (.lst [])))
    (hl : ∀ i H, Pv i H → SqL K H a xs ∧ SqL K H b ys)
    (hs : ∀ i x y H T, xs[i]? = some x → ys[i]? = some y → Pv i H → H T = none → g (.ref T) (wipe σ vs) (upd H T (.tup [x, y])) fun σ2 H2 => wipe σ2 vs = wipe σ vs ∧ tt σ2 H2 fun b H3 =>
      if b = true then te σ2 H3 fun y H4 => ∃ acc, H4 D = some (.lst acc) ∧ acc.length < sizeLine ∧ Pv (i + 1) (upd H4 D (.lst (acc ++ [y]))) else Pv (i + 1) H3)
    (hd : ∀ H, Pv (min xs.length ys.length) H → Qd H) :
    ∃ W : Nat → Nat → Hp → Prop, (∃ m, W 0 m (upd H1 D (.lst []))) ∧ ∀ i m H, W i m H →
      ((Itz K a b).stop i H ∧ Qd H) ∨ ((Itz K a b).go i H ∧ ∃ Nx : Hp → Prop, (∀ H', Nx H' → ∃ m', m' < m ∧ W (i + 1) m' H') ∧ ∀ x H', (Itz K a b).yld i H x H' → g x (wipe σ vs) H' fun σ2 H2 => wipe σ2 vs = wipe σ vs ∧ tt σ2 H2 fun b H3 =>
        if b = true then te σ2 H3 fun y H4 => ∃ acc, H4 D = some (.lst acc) ∧ acc.length < sizeLine ∧ Nx (upd H4 D (.lst (acc ++ [y]))) else Nx H3) := by
  refine ⟨fun i m H => m = min xs.length ys.length - i ∧ i ≤ min xs.length ys.length ∧ Pv i H, ⟨_, rfl, Nat.zero_le _, h0⟩, ?_⟩
  rintro i m H ⟨rfl, hi, p⟩
  obtain ⟨q1, q2⟩ := hl i H p
  by_cases hlt : i < min xs.length ys.length
  · have l1 : i < xs.length := by omega
    have l2 : i < ys.length := by omega
    refine .inr ⟨⟨xs, ys, _, _, q1, q2, List.getElem?_eq_getElem l1, List.getElem?_eq_getElem l2⟩, Pv (i + 1), fun H' q => ⟨_, by omega, rfl, hlt, q⟩, fun v H' y => ?_⟩
    obtain ⟨T, x, y, rfl, hT, rfl, e1, e2⟩ := y
    exact hs i x y H T (e1 xs q1) (e2 ys q2) p hT
  · have : i = min xs.length ys.length := by omega
    subst this
    exact .inl ⟨⟨xs, ys, q1, q2, by omega⟩, hd H p⟩
theorem lst_len {P : Prop} (h : P) : P := h
end TT

set_option linter.all false
set_option maxRecDepth 100000
/-! texts cut and joined, as lists of signs -/
namespace TT
open PySem PySem.Spec PyProof.Rows L2
open TL (joinL join_eq tl_join split_join tl)
theorem cnt_count (c : Nat) : ∀ l : List Nat, cnt c l = ((l.count c : Nat) : Int)
  | [] => rfl
  | x :: r => by
    rw [cnt_cons, cnt_count c r, List.count_cons]
    by_cases h : x = c <;> simp [h] <;> omega
theorem count_S (l : List Nat) (c : Nat) : Txt.count (S l) (S [c]) = ((l.count c : Nat) : Int) := by
  have := count_cnt (S l) c
  rw [cnt_count] at this
  exact this
/-- cut at every c -/
def spl (c : Nat) : List Nat → List (List Nat)
  | [] => [[]]
  | x :: xs => if x = c then [] :: spl c xs else ((x :: (spl c xs).headD []) :: (spl c xs).tail)
theorem spl_ne (c : Nat) (l : List Nat) : spl c l ≠ [] := by
  cases l with
  | nil => simp [spl]
  | cons x xs => unfold spl; split <;> simp
theorem spl_eq (c : Nat) (l : List Nat) : spl c l = (spl c l).headD [] :: (spl c l).tail := by
  have := spl_ne c l
  cases h : spl c l with
  | nil => exact absurd h this
  | cons a b => rfl
theorem spl_length (c : Nat) : ∀ l : List Nat, (spl c l).length = l.count c + 1
  | [] => rfl
  | x :: xs => by
    unfold spl
    have ih := spl_length c xs
    rw [List.count_cons]
    by_cases h : x = c
    · simp [h, ih]
    · simp [h]; have := spl_eq c xs; omega
theorem spl_free (c : Nat) : ∀ l : List Nat, ∀ p ∈ spl c l, c ∉ p
  | [], p, hp => by simp [spl] at hp; subst hp; simp
  | x :: xs, p, hp => by
    have ih := spl_free c xs
    rw [spl_eq c xs] at ih
    unfold spl at hp
    by_cases h : x = c
    · simp only [h, if_true] at hp
      rcases List.mem_cons.mp hp with rfl | hp
      · simp
      · rw [spl_eq c xs] at hp; exact ih p hp
    · simp only [h, if_false] at hp
      rcases List.mem_cons.mp hp with rfl | hp
      · intro hc
        rcases List.mem_cons.mp hc with rfl | hc
        · exact h rfl
        · exact ih _ List.mem_cons_self hc
      · exact ih p (List.mem_cons_of_mem _ hp)
theorem spl_joinL (c : Nat) : ∀ l : List Nat, joinL [c] (spl c l) = l
  | [] => rfl
  | x :: xs => by
    have ih := spl_joinL c xs
    unfold spl
    by_cases h : x = c
    · simp only [h, if_true]
      rw [spl_eq c xs] at ih ⊢
      show [] ++ ([c] ++ joinL [c] (_ :: _)) = c :: xs
      rw [ih]; rfl
    · simp only [h, if_false]
      rw [spl_eq c xs] at ih
      cases ht : (spl c xs).tail with
      | nil =>
        rw [ht] at ih
        show x :: (spl c xs).headD [] = x :: xs
        have ih' : (spl c xs).headD [] = xs := ih
        rw [ih']
      | cons q r =>
        rw [ht] at ih
        show (x :: (spl c xs).headD []) ++ ([c] ++ joinL [c] (q :: r)) = x :: xs
        have ih' : (spl c xs).headD [] ++ ([c] ++ joinL [c] (q :: r)) = xs := ih
        rw [List.cons_append, ih']
theorem tl_S (l : List Nat) : tl (S l) = l := by simp [tl]
theorem tl_mapS : ∀ ls : List (List Nat), (ls.map S).map tl = ls
  | [] => rfl
  | l :: ls => by rw [List.map_cons, List.map_cons, tl_S, tl_mapS ls]
theorem S_tl (x : Str) : S (tl x) = x := by cases x; simp [tl]
theorem split_S (l : List Nat) (c : Nat) (hc : c < 256) : Txt.split (S l) (S [c]) = (spl c l).map S := by
  have e : Txt.join (S [c]) ((spl c l).map S) = S l := by
    rw [join_eq, ← S_tl (Str.join _ _), tl_join, tl_mapS, tl_S, spl_joinL]
  rw [← e]
  refine split_join (s := c) (S := []) (tl_S _) (by simp [hc]) (by simp [spl_ne]) fun p hp => ?_
  obtain ⟨q, hq, rfl⟩ := List.mem_map.mp hp
  rw [tl_S]
  exact spl_free c l q hq
theorem joinL_nil : ∀ ls : List (List Nat), joinL [] ls = ls.flatten
  | [] => rfl
  | [p] => by simp [joinL]
  | p :: q :: r => by
    show p ++ ([] ++ joinL [] (q :: r)) = _
    rw [joinL_nil (q :: r)]; simp
theorem join_S (ls : List (List Nat)) : Txt.join (S []) (ls.map S) = S ls.flatten := by
  rw [join_eq, ← S_tl (Str.join _ _), tl_join, tl_mapS, tl_S, joinL_nil]

/-! ### a text with its leaves' signs replaced -/
def sub46 : List Nat → List (List Nat) → List Nat
  | [], _ => []
  | x :: xs, ys => if x = 46 then ys.headD [] ++ sub46 xs ys.tail else x :: sub46 xs ys
theorem sub46_other {x : Nat} (xs : List Nat) (ys : List (List Nat)) (h : x ≠ 46) : sub46 (x :: xs) ys = x :: sub46 xs ys := by
  show (if x = 46 then _ else _) = _
  rw [if_neg h]
theorem weave : ∀ (l : List Nat) (ys : List (List Nat)), ys.length = l.count 46 → (spl 46 l).headD [] ++ (List.zipWith (fun i p => i ++ p) ys (spl 46 l).tail).flatten = sub46 l ys
  | [], ys, h => by simp [spl, sub46]
  | x :: xs, ys, h => by
    rw [List.count_cons] at h
    unfold spl sub46
    by_cases hx : x = 46
    · simp only [hx, if_true]
      cases ys with
      | nil => simp [hx] at h
      | cons y ys =>
        have hl : ys.length = xs.count 46 := by simp [hx] at h; exact h
        have ih := weave xs ys hl
        rw [spl_eq 46 xs]
        simp only [List.headD_cons, List.tail_cons, List.zipWith_cons_cons, List.flatten_cons, List.nil_append, List.append_assoc]
        rw [ih]
    · simp only [hx, if_false]
      have hl : ys.length = xs.count 46 := by simp [hx] at h; exact h
      have ih := weave xs ys hl
      simp only [List.headD_cons, List.tail_cons, List.cons_append]
      rw [ih]
theorem count_tree : ∀ t : Tr, t.cs.count 46 = t.lvs
  | .leaf => rfl
  | .node l r => by simp [Tr.cs, Tr.lvs, count_tree l, count_tree r]
theorem count_open : ∀ t : Tr, t.cs.count 40 = t.size
  | .leaf => rfl
  | .node l r => by simp [Tr.cs, Tr.size, count_open l, count_open r]
theorem sub_tree : ∀ (t : Tr) (rest : List Nat) (xs : List Tr), t.lvs ≤ xs.length → sub46 (t.cs ++ rest) (xs.map Tr.cs) = (t.growR xs).1.cs ++ sub46 rest ((t.growR xs).2.map Tr.cs)
  | .leaf, rest, [], h => by simp [Tr.lvs] at h
  | .leaf, rest, x :: xs, h => by simp [Tr.cs, sub46, Tr.growR]
  | .node l r, rest, xs, h => by
    simp only [Tr.lvs] at h
    have hl := Tr.growR_len l xs (by omega)
    show sub46 (40 :: ((l.cs ++ (r.cs ++ [41])) ++ rest)) _ = _
    rw [sub46_other _ _ (by decide), List.append_assoc, sub_tree l _ xs (by omega), List.append_assoc, sub_tree r _ _ (by omega)]
    show _ = (40 :: ((l.growR xs).1.cs ++ ((r.growR (l.growR xs).2).1.cs ++ [41]))) ++ _
    simp only [List.cons_append, List.append_assoc, List.nil_append]
    rw [sub46_other _ _ (by decide)]
    rfl
theorem grown_text (t : Tr) (xs : List Tr) (h : xs.length = t.lvs) :
    (spl 46 t.cs).headD [] ++ (List.zipWith (fun i p => i ++ p) (xs.map Tr.cs) (spl 46 t.cs).tail).flatten = (t.grow xs).cs := by
  rw [weave _ _ (by rw [List.length_map, count_tree]; exact h)]
  have := sub_tree t [] xs (by omega)
  rw [List.append_nil] at this
  rw [this]
  unfold Tr.grow
  show _ ++ [] = _
  rw [List.append_nil]
theorem spl_le (c : Nat) : ∀ l : List Nat, ∀ p ∈ spl c l, p.length ≤ l.length
  | [], p, hp => by simp [spl] at hp; subst hp; simp
  | x :: xs, p, hp => by
    have ih := spl_le c xs
    rw [spl_eq c xs] at ih
    unfold spl at hp
    by_cases h : x = c
    · simp only [h, if_true] at hp
      rcases List.mem_cons.mp hp with rfl | hp
      · simp
      · rw [spl_eq c xs] at hp
        exact Nat.le_succ_of_le (ih p hp)
    · simp only [h, if_false] at hp
      rcases List.mem_cons.mp hp with rfl | hp
      · exact Nat.succ_le_succ (ih _ List.mem_cons_self)
      · exact Nat.le_succ_of_le (ih p (List.mem_cons_of_mem _ hp))
theorem growR_size {B : Nat} : ∀ (t : Tr) (xs : List Tr), (∀ x ∈ xs, x.size ≤ B) → (t.growR xs).1.size ≤ t.size + t.lvs * B ∧ ∀ x ∈ (t.growR xs).2, x.size ≤ B
  | .leaf, [], h => by simp [Tr.growR, Tr.size]
  | .leaf, x :: xs, h => by
    have := h x List.mem_cons_self
    refine ⟨?_, fun y hy => h y (List.mem_cons_of_mem _ hy)⟩
    show x.size ≤ 0 + 1 * B
    omega
  | .node l r, xs, h => by
    obtain ⟨h1, h2⟩ := growR_size l xs h
    obtain ⟨h3, h4⟩ := growR_size r _ h2
    refine ⟨?_, h4⟩
    show (l.growR xs).1.size + (r.growR (l.growR xs).2).1.size + 1 ≤ l.size + r.size + 1 + (l.lvs + r.lvs) * B
    rw [Nat.add_mul]
    omega
theorem grow_size {B : Nat} (t : Tr) (xs : List Tr) (h : ∀ x ∈ xs, x.size ≤ B) : (t.grow xs).size ≤ t.size + t.lvs * B := (growR_size t xs h).1
theorem sumlen_S (ls : List (List Nat)) : ((ls.map S).map (·.length)).sum = ls.flatten.length := by
  induction ls with
  | nil => rfl
  | cons l ls ih => rw [List.map_cons, List.map_cons, List.sum_cons, ih, List.flatten_cons, List.length_append, S_len]
end TT

set_option linter.all false
set_option maxRecDepth 100000
/-! where the parts end: as the program goes along the signs -/
namespace TT
open PySem
def endsRun : List Nat → Nat → List Nat → List Nat → Option (List Nat)
  | [], _, b, st => if st = [] then some b else none
  | c :: cs, k, b, st =>
    if c = 40 then endsRun cs (k + 1) b (k :: st)
    else if c = 41 then
      match st with
      | [] => none
      | o :: st' => if o < b.length then endsRun cs (k + 1) (b.set o (k + 1)) st' else none
    else if k < b.length then endsRun cs (k + 1) (b.set k (k + 1)) st else none
theorem endsRun_open (cs : List Nat) (k : Nat) (b st : List Nat) : endsRun (40 :: cs) k b st = endsRun cs (k + 1) b (k :: st) := rfl
theorem endsRun_close (cs : List Nat) (k o : Nat) (b st : List Nat) (h : o < b.length) : endsRun (41 :: cs) k b (o :: st) = endsRun cs (k + 1) (b.set o (k + 1)) st := by
  show (if o < b.length then _ else _) = _
  rw [if_pos h]
theorem endsRun_dot (cs : List Nat) (k : Nat) (b st : List Nat) (h : k < b.length) : endsRun (46 :: cs) k b st = endsRun cs (k + 1) (b.set k (k + 1)) st := by
  show (if k < b.length then _ else _) = _
  rw [if_pos h]
theorem set_mid (A : List Nat) (x y : Nat) (B : List Nat) : (A ++ x :: B).set A.length y = A ++ y :: B := by
  rw [List.set_append_right _ _ (Nat.le_refl _), Nat.sub_self]; rfl
theorem endsRun_tree : ∀ (t : Tr) (rest : List Nat) (k : Nat) (A B st : List Nat), A.length = k →
    endsRun (t.cs ++ rest) k (A ++ (List.replicate t.len 0 ++ B)) st = endsRun rest (k + t.len) (A ++ (Tr.ends k t ++ B)) st
  | .leaf, rest, k, A, B, st, h => by
    subst h
    show endsRun (46 :: rest) A.length (A ++ (0 :: B)) st = endsRun rest (A.length + 1) (A ++ ((A.length + 1) :: B)) st
    rw [endsRun_dot _ _ _ _ (by simp), set_mid]
  | .node l r, rest, k, A, B, st, h => by
    subst h
    have e : List.replicate (Tr.node l r).len 0 ++ B = 0 :: (List.replicate l.len 0 ++ (List.replicate r.len 0 ++ (0 :: B))) := by
      show List.replicate (l.len + r.len + 2) 0 ++ B = _
      rw [show l.len + r.len + 2 = 1 + l.len + r.len + 1 by omega, ← List.replicate_append_replicate, ← List.replicate_append_replicate, ← List.replicate_append_replicate]
      show (([0] ++ List.replicate l.len 0) ++ List.replicate r.len 0 ++ [0]) ++ B = _
      simp only [List.append_assoc, List.cons_append, List.nil_append]
    rw [e]
    show endsRun (40 :: ((l.cs ++ (r.cs ++ [41])) ++ rest)) A.length _ st = _
    rw [endsRun_open, List.append_assoc]
    have e1 : A ++ 0 :: (List.replicate l.len 0 ++ (List.replicate r.len 0 ++ (0 :: B))) = (A ++ [0]) ++ (List.replicate l.len 0 ++ (List.replicate r.len 0 ++ (0 :: B))) := by simp
    rw [e1, endsRun_tree l _ (A.length + 1) (A ++ [0]) _ _ (by simp), List.append_assoc]
    have e2 : (A ++ [0]) ++ (Tr.ends (A.length + 1) l ++ (List.replicate r.len 0 ++ (0 :: B))) = (A ++ [0] ++ Tr.ends (A.length + 1) l) ++ (List.replicate r.len 0 ++ (0 :: B)) := by simp
    rw [e2, endsRun_tree r _ (A.length + 1 + l.len) _ _ _ (by simp [Tr.ends_length]; omega)]
    show endsRun (41 :: ([] ++ rest)) _ _ (A.length :: st) = _
    rw [endsRun_close _ _ _ _ _ (by simp)]
    have e3 : (A ++ [0] ++ Tr.ends (A.length + 1) l) ++ (Tr.ends (A.length + 1 + l.len) r ++ (0 :: B)) = A ++ 0 :: (Tr.ends (A.length + 1) l ++ (Tr.ends (A.length + 1 + l.len) r ++ (0 :: B))) := by simp
    rw [e3, set_mid]
    have e4 : A.length + 1 + l.len + r.len + 1 = A.length + (Tr.node l r).len := by show _ = A.length + (l.len + r.len + 2); omega
    rw [e4]
    simp only [List.nil_append, Tr.ends, List.cons_append, List.append_assoc]
theorem endsRun_text (t : Tr) : endsRun t.cs 0 (List.replicate t.len 0) [] = some (Tr.ends 0 t) := by
  have := endsRun_tree t [] 0 [] [] [] rfl
  simp only [List.append_nil, List.nil_append] at this
  rw [this]; rfl
/-- what a step says -/
theorem endsRun_step {c : Nat} {cs : List Nat} {k : Nat} {b st F : List Nat} (h : endsRun (c :: cs) k b st = some F) :
    (c = 40 ∧ endsRun cs (k + 1) b (k :: st) = some F) ∨ (c = 41 ∧ ∃ o st', st = o :: st' ∧ o < b.length ∧ endsRun cs (k + 1) (b.set o (k + 1)) st' = some F) ∨
    (c ≠ 40 ∧ c ≠ 41 ∧ k < b.length ∧ endsRun cs (k + 1) (b.set k (k + 1)) st = some F) := by
  by_cases h1 : c = 40
  · subst h1; exact .inl ⟨rfl, h⟩
  by_cases h2 : c = 41
  · subst h2
    cases st with
    | nil => exact nomatch (show (none : Option (List Nat)) = some F from h)
    | cons o st' =>
      have h : (if o < b.length then endsRun cs (k + 1) (b.set o (k + 1)) st' else none) = some F := h
      by_cases h3 : o < b.length
      · rw [if_pos h3] at h; exact .inr (.inl ⟨rfl, o, st', rfl, h3, h⟩)
      · rw [if_neg h3] at h; cases h
  · have h : (if c = 40 then endsRun cs (k + 1) b (k :: st) else if c = 41 then _ else if k < b.length then endsRun cs (k + 1) (b.set k (k + 1)) st else none) = some F := h
    rw [if_neg h1, if_neg h2] at h
    by_cases h3 : k < b.length
    · rw [if_pos h3] at h; exact .inr (.inr ⟨h1, h2, h3, h⟩)
    · rw [if_neg h3] at h; cases h
end TT

set_option linter.all false
set_option maxRecDepth 100000
/-! two trees gone along together: what is still ahead -/
namespace TT
open PySem
abbrev Ag := List (Option (Tr × Tr))
namespace Ag
def tl : Ag → List Nat
  | [] => []
  | none :: r => 41 :: tl r
  | some p :: r => p.1.cs ++ tl r
def tr : Ag → List Nat
  | [] => []
  | none :: r => 41 :: tr r
  | some p :: r => p.2.cs ++ tr r
def hangs : Ag → Option (List Tr)
  | [] => some []
  | none :: r => hangs r
  | some p :: r => (Tr.hang p.1 p.2).bind fun x => (hangs r).map fun y => x ++ y
/-- the parts ahead stand at their places of the first tree's text, of the second's -/
def AtL (T : Tr) : Nat → Ag → Prop
  | _, [] => True
  | k, none :: r => AtL T (k + 1) r
  | k, some p :: r => Tr.Sub T k p.1 ∧ AtL T (k + p.1.len) r
def AtR (T : Tr) : Nat → Ag → Prop
  | _, [] => True
  | k, none :: r => AtR T (k + 1) r
  | k, some p :: r => Tr.Sub T k p.2 ∧ AtR T (k + p.2.len) r
end Ag
theorem cs_head (t : Tr) : ∃ r, t.cs = (if t = .leaf then 46 else 40) :: r := by
  cases t with
  | leaf => exact ⟨[], rfl⟩
  | node l r => exact ⟨_, rfl⟩
theorem Ag.tr_nil {ag : Ag} (h : ag.tr = []) : ag = [] := by
  match ag with
  | [] => rfl
  | none :: r => simp [Ag.tr] at h
  | some p :: r =>
    obtain ⟨q, e⟩ := cs_head p.2
    simp [Ag.tr, e] at h
theorem Ag.tl_nil {ag : Ag} (h : ag.tl = []) : ag = [] := by
  match ag with
  | [] => rfl
  | none :: r => simp [Ag.tl] at h
  | some p :: r =>
    obtain ⟨q, e⟩ := cs_head p.1
    simp [Ag.tl, e] at h
theorem Sub_left {T l r : Tr} {k : Nat} (h : Tr.Sub T k (.node l r)) : Tr.Sub T (k + 1) l := .left h
theorem Sub_right {T l r : Tr} {k : Nat} (h : Tr.Sub T k (.node l r)) : Tr.Sub T (k + 1 + l.len) r := .right h
theorem drop_cons {α : Type} {l : List α} {k : Nat} {x : α} {r : List α} (h : l.drop k = x :: r) : l[k]? = some x ∧ k < l.length ∧ l.drop (k + 1) = r := by
  have hk : k < l.length := by
    by_cases hk : k < l.length
    · exact hk
    · rw [List.drop_eq_nil_of_le (by omega)] at h; cases h
  rw [List.drop_eq_getElem_cons hk] at h
  injection h with h1 h2
  exact ⟨by rw [List.getElem?_eq_getElem hk, h1], hk, h2⟩
theorem drop_app {α : Type} {l a r : List α} {k : Nat} (h : l.drop k = a ++ r) : l.drop (k + a.length) = r := by
  rw [← List.drop_drop, h, List.drop_left]
theorem rixs {l : List Nat} {k c : Nat} {H : L2.Hp} {Q : L2.VK} (hl : l.length ≤ 16000000) (h : l[k]? = some c) (q : Q (.str ⟨#[c]⟩) H) : L2.rIxS (.str (S l)) (.int (k : Nat)) H Q :=
  ⟨S l, (k : Int), c, rfl, rfl, by rw [S_len]; exact small5 hl, L2.atI_nat (by simpa using h), q⟩
theorem rixl {K : PySem.W.Frag} {a : Addr} {xs : List L2.V} {k : Nat} {x : L2.V} {H : L2.Hp} {Q : L2.VK} (ha : H a = some (.lst xs)) (h : xs[k]? = some x) (q : Q x H) : L2.rIxL K (.ref a) (.int (k : Nat)) H Q :=
  ⟨a, xs, (k : Int), x, rfl, rfl, L2.SqL.of ha, L2.atI_nat h, q⟩
namespace Ag
def outs : Ag → List Nat
  | [] => []
  | none :: r => 41 :: outs r
  | some p :: r => (Tr.meet p.1 p.2).cs ++ outs r
end Ag
theorem signs_join (l : List Nat) : Txt.join (S []) (l.map fun c => S [c]) = S l := by
  have e : (l.map fun c => S [c]) = (l.map fun c => [c]).map S := by rw [List.map_map]; rfl
  rw [e, join_S]
  congr 1
  clear e
  induction l with
  | nil => rfl
  | cons a r ih => rw [List.map_cons, List.flatten_cons]; show [a] ++ _ = _; rw [show (List.map (fun c => [c]) r).flatten = r from by simpa using ih]; rfl
theorem signs_sum (l : List Nat) : ((l.map fun c => S [c]).map (·.length)).sum = l.length := by
  induction l with
  | nil => rfl
  | cons a r ih => rw [List.map_cons, List.map_cons, List.sum_cons, ih, S_len]; simp; omega
theorem hang_size : ∀ (s c : Tr) (xs : List Tr), Tr.hang s c = some xs → ∀ x ∈ xs, x.size ≤ s.size
  | s, .leaf, xs, h => by
    simp [Tr.hang] at h; subst h
    intro x hx
    rw [List.mem_singleton.mp hx]
    exact Nat.le_refl _
  | .leaf, .node _ _, xs, h => by simp [Tr.hang] at h
  | .node a b, .node c d, xs, h => by
    simp only [Tr.hang, Option.bind_eq_some_iff, Option.map_eq_some_iff] at h
    obtain ⟨x, hx, y, hy, rfl⟩ := h
    intro z hz
    show z.size ≤ a.size + b.size + 1
    rcases List.mem_append.mp hz with hz | hz
    · have := hang_size a c x hx z hz; omega
    · have := hang_size b d y hy z hz; omega
theorem mem_pick : ∀ (xs ys : List Tr), ∀ x ∈ List.zipWith Tr.pick xs ys, x ∈ xs ∨ x ∈ ys
  | [], _, x, h => by simp at h
  | _ :: _, [], x, h => by simp at h
  | a :: xs, b :: ys, x, h => by
    rw [List.zipWith_cons_cons] at h
    rcases List.mem_cons.mp h with rfl | h
    · unfold Tr.pick
      split
      · exact .inr List.mem_cons_self
      · exact .inl List.mem_cons_self
    · rcases mem_pick xs ys x h with h | h
      · exact .inl (List.mem_cons_of_mem _ h)
      · exact .inr (List.mem_cons_of_mem _ h)
end TT

set_option Elab.async false
set_option linter.all false
set_option maxRecDepth 100000
set_option maxHeartbeats 4000000
/-! TX: errors that are kept as values: made, asked for their class, their field read; repr of plain data. -/
namespace TX
open PySem PySem.Spec PyProof.Rows L2

/-! ### classes -/
/-- what the written part says of an own error class: its line of ancestors, and what its instances are asked by -/
structure ErrC (K : PySem.W.Frag) (C : Addr) (l : List Value) : Prop where
  mro : (PySem.W.clsIn K C).map (·.mro) = some l
  ty : PySem.W.typeIn K (.ref C) = some (.type "type")
  ec : ExcC K C
theorem ErrC.isSome {K : PySem.W.Frag} {C : Addr} {l : List Value} (x : ErrC K C l) : (PySem.W.clsIn K C).isSome = true := by
  have e := x.mro
  cases q : PySem.W.clsIn K C with
  | some _ => rfl
  | none => rw [q] at e; cases e
theorem ErrC.sub {K : PySem.W.Frag} {C : Addr} {l : List Value} (x : ErrC K C l) (hl : l.isEmpty = false) (v : Value) : PySem.W.subIn K (.ref C) v = some (l.contains v) := by
  show PySem.W.mroIn K C v = _
  unfold PySem.W.mroIn
  have e := x.mro
  cases q : PySem.W.clsIn K C with
  | none => rw [q] at e; cases e
  | some cd =>
    rw [q] at e
    have e2 : cd.mro = l := Option.some.inj e
    rw [Option.bind_some, e2, hl]
    rfl
/-- isinstance's answer for two own classes -/
theorem kit_own {K : PySem.W.Frag} {C D : Addr} {l l' : List Value} (x : ErrC K C (.ref C :: l)) (y : ErrC K D l') : PySem.W.kitOne K (.ref C) (.ref D) = some (decide (C = D) || l.contains (.ref D)) := by
  unfold PySem.W.kitOne
  by_cases h : C = D
  · subst h
    simp
  · have e : ((Value.ref C) == (Value.ref D)) = false := beq_eq_false_iff_ne.mpr fun z => h (Value.ref.inj z)
    rw [e, if_neg Bool.false_ne_true]
    unfold PySem.W.kitCls
    dsimp only
    rw [if_pos (by rw [y.isSome, y.ty]; rfl), x.sub rfl, List.contains_cons]
    have e2 : ((Value.ref D) == (Value.ref C)) = false := beq_eq_false_iff_ne.mpr fun z => h (Value.ref.inj z).symm
    rw [e2]
    simp [h]
theorem kit_ve {K : PySem.W.Frag} {C : Addr} {l : List Value} (x : ErrC K C l) (hl : l.isEmpty = false) : PySem.W.kitOne K (.ref C) (.type "ValueError") = some (l.contains (.type "ValueError")) := by
  unfold PySem.W.kitOne
  have e : ((Value.ref C) == (Value.type "ValueError")) = false := rfl
  rw [e, if_neg Bool.false_ne_true]
  unfold PySem.W.kitCls
  dsimp only
  rw [if_pos (by decide +kernel), x.sub hl]

/-! ### an error as a value -/
/-- at a: an error of the class at C with the fields fs -/
def Err (H : Hp) (a C : Addr) (fs : List (Str × V)) : Prop := ∃ d, H a = some (exo a C (some d)) ∧ H d = some (exd d fs)
/-- at a: an error whose __init__ has stored nothing -/
def Err0 (H : Hp) (a C : Addr) : Prop := H a = some (exo a C none)
theorem Err.same {H H' : Hp} {a C : Addr} {fs : List (Str × V)} (e : Err H a C fs) (h : ∀ b o, H b = some o → H' b = some o) : Err H' a C fs :=
  let ⟨d, h1, h2⟩ := e
  ⟨d, h _ _ h1, h _ _ h2⟩

section
variable {X : Cx} {pins : List (Addr × Obj)} {σ : L2.St} {H : Hp} {s : Shared} {a C : Addr} {fs : List (Str × V)}
theorem inst_of (I : Inv X pins σ H s) (e : Err H a C fs ∨ Err0 H a C) : ∃ ox od, PySem.W.InstAt s.heap a ox C od := by
  rcases e with ⟨d, h1, h2⟩ | h1
  · obtain ⟨t1, ho⟩ := exo_at I.hok h1
    obtain ⟨mA, hns, _⟩ := exd_at I.hok h2
    obtain ⟨od, hd, _⟩ := lookIn_ns hns
    exact ⟨_, some od, ho, rfl, rfl, hd⟩
  · obtain ⟨t1, ho⟩ := exo_at I.hok h1
    exact ⟨_, none, ho, rfl, rfl, trivial⟩
end
/-- isinstance(e, c): e an error that is kept -/
def rIsX (K : PySem.W.Frag) : List V → Hp → VK → Prop := fun xs H Q => ∃ (a C : Addr) (fs : List (Str × V)) (c : V) (cv : Value) (b : Bool), xs = [.ref a, c] ∧ ExcC K C ∧ (Err H a C fs ∨ Err0 H a C) ∧ ClsV c cv ∧ PySem.W.kitOne K (.ref C) cv = some b ∧ Q (.bl b) H
theorem call_isX {X : Cx} : CallR X (.builtin "isinstance") (rIsX X.K) := by
  intro pins s σ H xs us Q I r h
  obtain ⟨a, C, fs, c, cv, b, rfl, hC, he, k, e, q⟩ := h
  obtain ⟨u1, u2, rfl, r1, r2⟩ := vals2 r
  cases (show u1 = Value.ref a from r1)
  have e2 := k.eq r2
  subst e2
  obtain ⟨ox, od, J⟩ := inst_of I he
  refine PySem.W.kia_one (PySem.W.kitx_exc (ox := ox) (od := od) ?_ hC.hg hC.hk hC.hs hC.ha hC.hn hC.ht hC.hm) I.kIn J e (fun z => nomatch z) fun tk => ⟨.bl b, H, I.tok tk, rfl, q⟩
  have z := hC.hd
  unfold PySem.W.hasDictIn at z
  cases w : PySem.W.clsIn X.K C with
  | some _ => rfl
  | none => rw [w] at z; cases z
/-- e.f: a field of an error that is kept -/
def tFx (K : PySem.W.Frag) (f : Str) (te : TE) : TE := fun σ H Q => te σ H fun x H1 => ∃ (a C : Addr) (fs : List (Str × V)) (v : V), x = .ref a ∧ XfC K C ∧ PySem.W.findIn K (.ref C) f = some none ∧ Err H1 a C fs ∧ fs.lookup f = some v ∧ Q v H1
theorem pe_fx {X : Cx} {e : Expr} {te : TE} {pos : Pos} {f : Str} (he : PE X e te) (hb : attributeBase e f X.env (eval e X.env) = eval e X.env := by rfl) : PE X (.Attribute e f pos) (tFx X.K f te) := by
  refine ⟨fun pins s σ H Q I h => attr_of hb (thn (he.run pins s σ H _ I h) fun u s1 ⟨x, H1, I1, rx, a, C, fs, v, ex, T, hno, ⟨d, h1, h2⟩, l, q⟩ => ?_)⟩
  subst ex
  cases (show u = Value.ref a from rx)
  obtain ⟨t1, ho⟩ := exo_at I1.hok h1
  obtain ⟨mA, hns, hr⟩ := exd_at I1.hok h2
  obtain ⟨od, hd, hl⟩ := lookIn_ns hns
  obtain ⟨y, hy, ry⟩ := RelO.some_of (v := v) (o := mA f) (by rw [← l]; exact hr f)
  have J : PySem.W.InstAt s1.heap a ({ cls := .ref C, dict := some d, data := .fields #[.ref t1, .none, .none, .none, .bool false, .none] } : Obj) C (some od) := ⟨ho, rfl, rfl, hd⟩
  exact HandSPX.exc_get I1.kIn J T.ga T.gg T.exC (PySem.W.findObj_own T.hdC hno rfl (by rw [hl, hy])) (handed_of ry) ⟨v, H1, I1.tok _, ry, q⟩
/-! ### an error is made -/
/-- C(e, ..): sp is what C's __init__ keeps -/
def tMx (C : Addr) (sp : Sp) (dvs : List V) (ta : TA) : TE := fun σ H Q => ta σ H fun vs H1 => vs.length ≤ 1000 ∧ ∀ a, H1 a = none → sp (.ref a :: (vs ++ dvs)) (upd H1 a (exo a C none)) (fun v H2 => v = .non ∧ Q (.ref a) H2) (fun _ _ _ => False)
section
variable {X : Cx} {CX : CXT} {x : Str} {C fI : Addr} {k : Nat} {fd : FuncData} {ps : List Str} {sp : Sp} {ds : List Value} {dvs : List V} {e : Expr} {es : List Expr} {ta : TA} {p pos : Pos}
theorem run_mx {pins : List (Addr × Obj)} {σ : L2.St} {H1 : Hp} {s1 : Shared} {Q : VK} {us : List Value} {vs : List V} (T : OexC X.K C) (iC : PySem.W.findIn X.K (.ref C) "__init__" = some (some (.ref fI))) (tI : PySem.W.typeIn X.K (.ref fI) = some (.type "function"))
    (F1 : FnOk X.prog X.w X.K X.mg X.base CX k fI fd ps sp) (hr : Room (k + 1) X.A) (hb : Binds X.K fd ps ds) (hd : Vals dvs ds) (hx : Passes CX X (fun _ _ _ => False)) (I1 : Inv X pins σ H1 s1) (r1 : Vals vs us) (hz : vs.length ≤ 1000)
    (q1 : ∀ a, H1 a = none → sp (.ref a :: (vs ++ dvs)) (upd H1 a (exo a C none)) (fun v H2 => v = .non ∧ Q (.ref a) H2) (fun _ _ _ => False)) : wpAny (model X.prog X.w) X.A (call (.ref C) us) (EP X pins σ Q) X.xe s1 := by
  obtain ⟨nm, qn, N, bs, bm, sn, sub, ab, col, dd, k0, k1, k2, k3, k5, hC, hbm⟩ := T.cls
  obtain ⟨hp, g, dr, tk, os⟩ := s1
  have above : hp.objs.size ≤ hp.objs.size + 1 := Nat.le_succ _
  have new : H1 (hp.objs.size + 1) = none := I1.hok.fresh above
  have run := q1 _ new
  have laid : ∀ b o, hp.get? b = some o → ((hp.push (PySem.W.kdv_tup us)).push (PySem.HandSPX.excO C hp.objs.size)).get? b = some o := fun b o z => Heap.get?_push_of_some _ (Heap.get?_push_of_some _ z)
  have there : ((hp.push (PySem.W.kdv_tup us)).push (PySem.HandSPX.excO C hp.objs.size)).get? (hp.objs.size + 1) = some (PySem.HandSPX.excO C hp.objs.size) := by heap_get
  have I2 : Inv X pins σ (upd H1 (hp.objs.size + 1) (exo (hp.objs.size + 1) C none)) ⟨(hp.push (PySem.W.kdv_tup us)).push (PySem.HandSPX.excO C hp.objs.size), g, dr, tk, os⟩ := I1.laid (t' := tk) laid above (exo_ok there)
  have vals : Vals (V.ref (hp.objs.size + 1) :: (vs ++ dvs)) (Value.ref (hp.objs.size + 1) :: (us ++ ds)) := .cons rfl (r1.append hd)
  have many : (Value.ref (hp.objs.size + 1) :: us ++ ds).length = ps.length := vals.length.symm.trans (F1.len _ _ _ _ run)
  have small : us.length ≤ sizeLine := by
    have z := Paired.length r1
    rw [sizeLine_eq]; omega
  have body := F1.run _ X.stack _ _ ⟨Value.ref (hp.objs.size + 1) :: us, []⟩ (Value.ref (hp.objs.size + 1) :: (us ++ ds)) _ _ (fun _ _ _ => False) (hr.make C us []) (I2.env0.make C us []) (hb _ (Value.ref (hp.objs.size + 1) :: us) I2.kIn many) vals run
  have made := PySem.HandSPX.call_own (R := fun r s' => match r with | .ok (.ret v) => EP X pins σ Q v s' | .ok _ => False | .error er => X.xe er s') F.excBase_ValueError (fun Y => PySem.HandSPX.refsVE_contains Y bm hbm) (I1.kIn _ _ hC) (PySem.W.looks_findIn I1.kIn iC) (fun self => PySem.W.bind_fn I1.kIn self tI) small
    (codeAny_mono body fun r s' z => by
      cases r with
      | error er => exact hx pins σ _ _ er s' I2 z
      | ok fl =>
        cases fl with
        | ret u =>
          obtain ⟨v, H2, J, rv, ev, q⟩ := I2.after z
          subst ev
          exact ⟨rv, ⟨V.ref (hp.objs.size + 1), H2, J, rfl, q⟩⟩
        | next => exact False.elim z
        | brk => exact False.elim z
        | cont => exact False.elim z)
  exact wpAny_call made
theorem pe_mx (T : OexC X.K C) (iC : PySem.W.findIn X.K (.ref C) "__init__" = some (some (.ref fI))) (tI : PySem.W.typeIn X.K (.ref fI) = some (.type "function"))
    (F1 : FnOk X.prog X.w X.K X.mg X.base CX k fI fd ps sp) (hr : Room (k + 1) X.A) (hb : Binds X.K fd ps ds) (hd : Vals dvs ds) (hx : Passes CX X (fun _ _ _ => False)) (hg : Gl X x) (hm : X.mg x = some (.ref C)) (ha : PA X (e :: es) ta)
    (hdb : (x == ("__debug__" : Str)) = false := by decide) (he : starEach (e :: es) X.env = (false, eval e X.env) :: starEach es X.env := by rfl) (hpl : (backTo pos (starEach es X.env)).any (·.1) = false := by rfl) : PE X (.Call (.Name x p) (e :: es) [] pos) (tMx C sp dvs ta) := by
  refine ⟨fun pins s σ H Q I h => wpAny_Call_Name_kw (ld_glob I hg hm ?_ hdb)⟩
  exact PySem.W.callWith_K (h₀ := X.base) I.ok.mod.kin T.kC (thn (ha.run pos pins s σ H _ I h) fun us s1 ⟨vs, H1, I1, r1, hz, q1⟩ => ⟨I1.kIn, run_mx T iC tI F1 hr hb hd hx I1 r1 hz q1⟩) he hpl
theorem pe_mx0 (T : OexC X.K C) (iC : PySem.W.findIn X.K (.ref C) "__init__" = some (some (.ref fI))) (tI : PySem.W.typeIn X.K (.ref fI) = some (.type "function"))
    (F1 : FnOk X.prog X.w X.K X.mg X.base CX k fI fd ps sp) (hr : Room (k + 1) X.A) (hb : Binds X.K fd ps ds) (hd : Vals dvs ds) (hx : Passes CX X (fun _ _ _ => False)) (hg : Gl X x) (hm : X.mg x = some (.ref C))
    (hdb : (x == ("__debug__" : Str)) = false := by decide) : PE X (.Call (.Name x p) [] [] pos) (tMx C sp dvs tNil) := by
  refine ⟨fun pins s σ H Q I h => wpAny_Call_Name_kw (ld_glob I hg hm ?_ hdb)⟩
  obtain ⟨hz, q1⟩ := h
  exact PySem.W.callWith_K0 I.kIn T.kC (run_mx (us := []) T iC tI F1 hr hb hd hx I .nil hz q1)
end

/-! ### C(k = v): keywords -/
namespace Kw
open PySem.HandSPX Builtin Builtin.ObjectAttr PySem.W PySem.Calls
section
variable {prog : Program} {w : World} {A : Around} {E : Value → Shared → Prop} {R : Result → Shared → Prop} {h : Heap} {g : Array GenState} {d : Drawn} {t : Nat} {os : OsState}
variable {nm q : Str} {C N : Addr} {bs bm bB : List Value} {hd : Bool} {sn : List Str} {sub : List Value} {ab : Bool} {col : Option Bool} {dd : Option Addr} {k0 k1 k2 k3 k5 : Option Value} {B nI iI : String} {rest : List Value} {kw : List (Str × Value)}
theorem may (F : ExcBaseFacts B nI iI bB) (hT : ∀ Y : String, bm.contains (.type Y) = bB.contains (.type Y)) {M : Model} {E' : Value → Shared → Prop} {Q : Unit → Shared → Prop}
    (hC : h.get? C = some (excClassObj nm q C N bs bm hd sn sub ab col dd k0 k1 k2 k3 k5 nI)) (hq : Q () ⟨h, g, d, t, os⟩) : wpAny M A (checkBuiltinCall nI ⟨.ref C :: rest, kw⟩) Q E' ⟨h, g, d, t, os⟩ := by
  have inB : (Value.ref C :: bm).contains (.type B) = true := by
    rw [List.contains_cons, hT, F.hasB, Bool.or_true]
  have star := F.noStar
  simp only [checkBuiltinCall, F.newKind, F.newSplit, F.newRow]
  repeat (first | refine wpAny_loadPart_at hC ?_ | (refine wpAny_isSubtype_exc hC ?_; rw [inB]) | refine wpAny_staticBase_exc hC ?_ | refine wpAny_madeBy_exc hC ?_ | simp only [bne_self_eq_false, Bool.false_eq_true, if_false] | wp_step)
  exact hq
theorem anew (F : ExcBaseFacts B nI iI bB) (hT : ∀ Y : String, bm.contains (.type Y) = bB.contains (.type Y)) (hC : h.get? C = some (excClassObj nm q C N bs bm hd sn sub ab col dd k0 k1 k2 k3 k5 nI))
    (hq : R (.ok (.ret (.ref (h.objs.size + 1)))) ⟨(h.push (kdv_tup rest)).push (excO C h.objs.size), g, d, t, os⟩) (hz : rest.length ≤ sizeLine) : codeAny (model prog w) A (.builtin nI ⟨.ref C :: rest, kw⟩) R ⟨h, g, d, t, os⟩ := by
  have fin := F.ends
  have inB : (Value.ref C :: bm).contains (.type B) = true := by
    rw [List.contains_cons, hT, F.hasB, Bool.or_true]
  have inA : (Value.ref C :: bm).contains (.type "AttributeError") = false := by
    rw [List.contains_cons, hT, F.noAttr]; rfl
  have inN : (Value.ref C :: bm).contains (.type "NameError") = false := by
    rw [List.contains_cons, hT, F.noName]; rfl
  refine codeAny_builtinAt F.entry ?_
  unfold Builtin.«BaseException.__new__»
  refine PySem.wpAt_bind ?_
  show PySem.wpAt _ _ _ (stack >>= _) _ _ _
  refine PySem.wpAt_bind (PySem.wpAt_stack fun _ _ => PySem.wpAt_of_wpAny ?_)
  wp_walk
  refine PySem.wpAt_of_wpAny ?_
  rw [F.owner]
  repeat (first | with_reducible refine wpAny_madeHere_exc F.canon hC ?_ | with_reducible refine wpAny_loadPart_at hC ?_ | (with_reducible refine wpAny_isSubtype_exc hC ?_; first | rw [inB] | rw [inA] | rw [inN]) | wp_step)
  show R _ _
  rw [Heap.size_push]
  exact hq
theorem made (F : ExcBaseFacts B nI iI bB) (hT : ∀ Y : String, bm.contains (.type Y) = bB.contains (.type Y)) {fI : Addr} {Q : Fin → Shared → Prop} {E' : Value → Shared → Prop}
    (hC : h.get? C = some (excClassObj nm q C N bs bm hd sn sub ab col dd k0 k1 k2 k3 k5 nI)) (hi : Looks (model prog w) h (typeLookup (.ref C) "__init__") (some (.ref fI))) (hb : ∀ self, Looks (model prog w) h (bindSpecial (.ref fI) self) (.ref fI, [self])) (hz : rest.length ≤ sizeLine)
    (hq : codeAny (model prog w) A (.call (.ref fI) ⟨.ref (h.objs.size + 1) :: rest, kw⟩) (fun r s' => match r with | .ok (.ret v) => v = .none ∧ Q (.done (.ret (.ref (h.objs.size + 1)))) s' | .ok _ => False | .error e => E' e s')
      ⟨(h.push (kdv_tup rest)).push (excO C h.objs.size), g, d, t, os⟩) : wpAny (model prog w) A (Builtin.«type.__call__» ⟨.ref C :: rest, kw⟩) Q E' ⟨h, g, d, t, os⟩ := by
  repeat (first | with_reducible refine wpAny_loadPart_at hC ?_ | with_reducible refine wpAny_madeBy_exc hC ?_ | wp_step)
  refine codeAny_call_builtin_code (Code.quiet_builtin _ F.quiet) (may F hT hC ?_)
  refine anew F hT hC ?_ hz
  show wpAny _ _ _ _ _ _
  have up : ∀ b o, h.get? b = some o → ((h.push (kdv_tup rest)).push (excO C h.objs.size)).get? b = some o := fun b o z => Heap.get?_push_of_some _ (Heap.get?_push_of_some _ z)
  have hC2 := up _ _ hC
  have self : ((h.push (kdv_tup rest)).push (excO C h.objs.size)).get? (h.objs.size + 1) = some (excO C h.objs.size) := by heap_get
  have own : (Value.ref C :: bm).contains (.ref C) = true := by simp
  have i2 := hi.keeps up
  have b2 := (hb (.ref (h.objs.size + 1))).keeps up
  unfold isInstance
  repeat (first | with_reducible refine wpAny_loadPart_at self ?_ | (with_reducible refine wpAny_isSubtype_exc hC2 ?_; rw [own]) | wp_step)
  show wpAny _ _ (typeLookup (.ref C) _) _ _ _
  refine i2.at (wpAny_holding (wpAny_bind (b2.at (wpAny_bind (wpAny_call (codeAny_mono hq fun r s' z => ?_))))))
  rcases r with e | (v | _ | _ | _) <;> first | exact z | exact z.elim | skip
  obtain ⟨rfl, z⟩ := z
  first
    | exact wpAny_pure (wpAny_pure z)
    | (wp_walk; exact z)
theorem called (F : ExcBaseFacts B nI iI bB) (hT : ∀ Y : String, bm.contains (.type Y) = bB.contains (.type Y)) {fI : Addr} (hC : h.get? C = some (excClassObj nm q C N bs bm hd sn sub ab col dd k0 k1 k2 k3 k5 nI))
    (hi : Looks (model prog w) h (typeLookup (.ref C) "__init__") (some (.ref fI))) (hb : ∀ self, Looks (model prog w) h (bindSpecial (.ref fI) self) (.ref fI, [self])) (hz : rest.length ≤ sizeLine)
    (hq : codeAny (model prog w) (A.under (.builtin "type.__call__" ⟨.ref C :: rest, kw⟩)) (.call (.ref fI) ⟨.ref (h.objs.size + 1) :: rest, kw⟩) (InitBack (h.objs.size + 1) R) ⟨(h.push (kdv_tup rest)).push (excO C h.objs.size), g, d, t, os⟩) :
    codeAny (model prog w) A (.call (.ref C) ⟨rest, kw⟩) R ⟨h, g, d, t, os⟩ := by
  have f1 := tc_lookup
  have f2 := tc_bind (.ref C)
  have ty : (⟨h, g, d, t, os⟩ : Shared).TypeIs (.ref C) "type" := ⟨_, hC, rfl⟩
  refine codeAny_of_tree ?_
  show wpAny _ _ (callAny (.ref C) _) _ _ _
  repeat (any_goals (first | assumption | with_reducible refine wpAny_loadPart_at hC ?_ | wp_step))
  refine ⟨rfl, codeAny_call_builtin_at (Code.quiet_builtin _ (by decide +kernel)) entry_typeCall (wpAny_check_type_call_sub hC (made F hT hC hi hb hz (codeAny_mono hq fun r s' z => ?_)))⟩
  rcases r with e | (v | _ | _ | _) <;> exact z
end
end Kw
/-- defaults, no keyword-only parameters; the keywords fill the places of the defaults -/
theorem kbinds1 {K : PySem.W.Frag} {x qual : Str} {params : Arguments} {body : List Stmt} {scope : Scope} {dvs : List V} {f : Addr} {fd : FuncData} {ps ks : List Str} {n : Nat} (F : FunD K x qual params body scope dvs [] f fd) (hd : dvs ≠ [])
    (h : ∀ (T : Addr) (kV doc pm : Value) (an : Option Addr) (cdv ct : Value) (us its ws : List Value), us.length = n → its.length = dvs.length → ws.length = ks.length →
      ∃ k, bindArgs (PySem.W.fnOf x qual params body scope (.ref T) kV doc pm an cdv ct) ⟨us, ks.zip ws⟩ = seqItems? (.ref T) >>= k ∧ k (some its.toArray) = pure (ps.zip (us ++ ws))) : KBn K fd ps n ks (fun us ws => us ++ ws) (fun vs zs => vs ++ zs) := by
  obtain ⟨oc, od, dV, kV, doc, pm, an, cdv, ct, osl, rfl, lk, hcd, hD, hK⟩ := F.ex
  rcases hD with ⟨e, _⟩ | ⟨_, T, o, its, m, rfl, lT, oT, rT⟩
  · exact absurd e hd
  · refine ⟨fun s us ws X l1 l2 => BindsTo.of_looks fun M => ?_, fun r1 r2 => r1.append r2⟩
    obtain ⟨k, e1, e2⟩ := h T kV doc pm an cdv ct us its ws l1 rT.length.symm l2
    rw [e1]
    exact looks_items X lT oT (.of_pure e2)
def tMxK (C : Addr) (m : Nat) (sp : Sp) (tk : TA) : TE := fun σ H Q => tk σ H fun zs H1 => zs.length = m ∧ ∀ a, H1 a = none → sp (.ref a :: zs) (upd H1 a (exo a C none)) (fun v H2 => v = .non ∧ Q (.ref a) H2) (fun _ _ _ => False)
section
variable {X : Cx} {CX : CXT} {x : Str} {C fI : Addr} {k : Nat} {fd : FuncData} {ps ks : List Str} {sp : Sp} {kws : List Keyword} {tk : TA} {p pos : Pos}
theorem run_mxK {pins : List (Addr × Obj)} {σ : L2.St} {H1 : Hp} {s1 : Shared} {Q : VK} {ws : List Value} {zs : List V} (T : OexC X.K C) (iC : PySem.W.findIn X.K (.ref C) "__init__" = some (some (.ref fI))) (tI : PySem.W.typeIn X.K (.ref fI) = some (.type "function"))
    (F1 : FnOk X.prog X.w X.K X.mg X.base CX k fI fd ps sp) (hr : Room (k + 1) X.A) (hb : KBn X.K fd ps 1 ks (fun us ws => us ++ ws) (fun vs zs => vs ++ zs)) (hx : Passes CX X (fun _ _ _ => False)) (I1 : Inv X pins σ H1 s1) (rz : Vals zs ws) (hz : zs.length = ks.length)
    (q1 : ∀ a, H1 a = none → sp (.ref a :: zs) (upd H1 a (exo a C none)) (fun v H2 => v = .non ∧ Q (.ref a) H2) (fun _ _ _ => False)) : wpAny (model X.prog X.w) X.A (call (.ref C) [] (ks.zip ws)) (EP X pins σ Q) X.xe s1 := by
  obtain ⟨nm, qn, N, bs, bm, sn, sub, ab, col, dd, k0, k1, k2, k3, k5, hC, hbm⟩ := T.cls
  obtain ⟨hp, g, dr, tn, os⟩ := s1
  have above : hp.objs.size ≤ hp.objs.size + 1 := Nat.le_succ _
  have run := q1 _ (I1.hok.fresh above)
  have laid : ∀ b o, hp.get? b = some o → ((hp.push (PySem.W.kdv_tup [])).push (PySem.HandSPX.excO C hp.objs.size)).get? b = some o := fun b o z => Heap.get?_push_of_some _ (Heap.get?_push_of_some _ z)
  have there : ((hp.push (PySem.W.kdv_tup [])).push (PySem.HandSPX.excO C hp.objs.size)).get? (hp.objs.size + 1) = some (PySem.HandSPX.excO C hp.objs.size) := by heap_get
  have I2 : Inv X pins σ (upd H1 (hp.objs.size + 1) (exo (hp.objs.size + 1) C none)) ⟨(hp.push (PySem.W.kdv_tup [])).push (PySem.HandSPX.excO C hp.objs.size), g, dr, tn, os⟩ := I1.laid (t' := tn) laid above (exo_ok there)
  have body := F1.run _ X.stack _ _ ⟨[Value.ref (hp.objs.size + 1)], ks.zip ws⟩ (Value.ref (hp.objs.size + 1) :: ws) (V.ref (hp.objs.size + 1) :: zs) _ (fun _ _ _ => False) (hr.make C [] (ks.zip ws)) (I2.env0.make C [] (ks.zip ws)) (hb.to _ [Value.ref (hp.objs.size + 1)] ws I2.kIn rfl (rz.length.symm.trans hz)) (Paired.cons (show RelV (V.ref _) _ from rfl) rz) run
  exact wpAny_call (Kw.called (R := fun r s' => match r with | .ok (.ret v) => EP X pins σ Q v s' | .ok _ => False | .error er => X.xe er s') F.excBase_ValueError (fun Y => PySem.HandSPX.refsVE_contains Y bm hbm) (I1.kIn _ _ hC) (PySem.W.looks_findIn I1.kIn iC) (fun self => PySem.W.bind_fn I1.kIn self tI) (Nat.zero_le _)
    (codeAny_mono body fun r s' z => by
      cases r with
      | error er => exact hx pins σ _ _ er s' I2 z
      | ok fl =>
        cases fl with
        | ret u =>
          obtain ⟨v, H2, J, rv, ev, q⟩ := I2.after z
          subst ev
          exact ⟨rv, ⟨V.ref (hp.objs.size + 1), H2, J, rfl, q⟩⟩
        | next => exact False.elim z
        | brk => exact False.elim z
        | cont => exact False.elim z))
end
/-! ### own error classes with one field -/
/-- what their __init__ keeps: self.f = y -/
def SpI (C : Addr) (f : Str) : Sp := fun vs H Q _ => ∃ a y, vs = [.ref a, y] ∧ H a = some (exo a C none) ∧ ∀ dx, H dx = none → dx ≠ a → Q .non (upd (upd H dx (exd dx [(f, y)])) a (exo a C (some dx)))
structure OwnE (K : PySem.W.Frag) (mg : Str → Option Value) (x : Str) (C : Addr) (f p : Str) : Prop where
  m : mg x = some (.ref C)
  ox : OexC K C
  ex : ∃ fI fd, PySem.W.findIn K (.ref C) "__init__" = some (some (.ref fI)) ∧ PySem.W.typeIn K (.ref fI) = some (.type "function") ∧ (∃ ds, Vals [V.non] ds ∧ Binds K fd ["self", p] ds) ∧ Binds K fd ["self", p] [] ∧
    KBn K fd ["self", p] 1 [p] (fun us ws => us ++ ws) (fun vs zs => vs ++ zs) ∧ ∀ P w base, FnOk P w K mg base CX0 1 fI fd ["self", p] (SpI C f)
/-- the reading: an error of the class at C with the field f -/
def tErr (C : Addr) (f : Str) (ta : TA) : TE := fun σ H Q => ta σ H fun vs H1 => ∃ y, vs = [y] ∧ ∀ a H2, Same H1 H2 → H1 a = none → Err H2 a C [(f, y)] → Q (.ref a) H2
theorem spi_of {C : Addr} {f : Str} {y : V} {H1 : Hp} {Q : VK} {E : XK} (h : ∀ a H2, Same H1 H2 → H1 a = none → Err H2 a C [(f, y)] → Q (.ref a) H2) (a : Addr) (na : H1 a = none) : SpI C f [.ref a, y] (upd H1 a (exo a C none)) (fun v H2 => v = .non ∧ Q (.ref a) H2) E := by
  refine ⟨a, y, rfl, upd_same, fun dx nd ne => ⟨rfl, h a _ (fun b o e => ?_) na ⟨dx, upd_same, ?_⟩⟩⟩
  · have e1 : b ≠ a := fun z => by rw [z, na] at e; cases e
    rw [upd_ne ne] at nd
    have e2 : b ≠ dx := fun z => by rw [z, nd] at e; cases e
    rw [upd_ne e1, upd_ne e2, upd_ne e1]
    exact e
  · rw [upd_ne ne, upd_same]
section
variable {X : Cx} {x f q : Str} {C : Addr} {e : Expr} {te : TE} {p pos : Pos}
theorem pe_err (O : OwnE X.K X.mg x C f q) (hr : Room 2 X.A) (hg : Gl X x) (he : PE X e te)
    (hdb : (x == ("__debug__" : Str)) = false := by decide) (hs : starEach [e] X.env = (false, eval e X.env) :: starEach [] X.env := by rfl) : PE X (.Call (.Name x p) [e] [] pos) (tErr C f (tCons te tNil)) := by
  obtain ⟨fI, fd, iC, tI, _, b1, _, ok⟩ := O.ex
  refine ⟨fun pins s σ H Q I h => wpAny_Call_Name_kw (ld_glob I hg O.m ?_ hdb)⟩
  exact PySem.W.callWith_K (h₀ := X.base) I.ok.mod.kin O.ox.kC (thn ((pa_cons he pa_nil hs).run pos pins s σ H _ I h) fun us s1 ⟨vs, H1, I1, r1, y, ey, q1⟩ => ⟨I1.kIn, by
    subst ey
    exact run_mx (vs := [y]) (dvs := []) O.ox iC tI (ok X.prog X.w X.base) hr b1 .nil pass0 I1 r1 (by simp) (fun a na => spi_of q1 a na)⟩) hs (by rfl)
theorem pe_err0 (O : OwnE X.K X.mg x C f q) (hr : Room 2 X.A) (hg : Gl X x) (hdb : (x == ("__debug__" : Str)) = false := by decide) : PE X (.Call (.Name x p) [] [] pos) (tErr C f (tCons (tC .non) tNil)) := by
  obtain ⟨fI, fd, iC, tI, ⟨ds, hd, b0⟩, _, _, ok⟩ := O.ex
  refine ⟨fun pins s σ H Q I h => wpAny_Call_Name_kw (ld_glob I hg O.m ?_ hdb)⟩
  have h' : ∃ y, [V.non] = [y] ∧ ∀ a H2, Same H H2 → H a = none → Err H2 a C [(f, y)] → Q (.ref a) H2 := h
  obtain ⟨y, ey, q1⟩ := h'
  cases ey
  exact PySem.W.callWith_K0 I.kIn O.ox.kC (run_mx (us := []) (vs := []) (dvs := [V.non]) O.ox iC tI (ok X.prog X.w X.base) hr b0 hd pass0 I .nil (by simp) (fun a na => spi_of q1 a na))
theorem pe_errK {kp : Pos} (O : OwnE X.K X.mg x C f q) (hr : Room 2 X.A) (hg : Gl X x) (he : PE X e te) (hdb : (x == ("__debug__" : Str)) = false := by decide) 
    (hall : (backToKw pos (keywordEach [⟨some q, e, kp⟩] X.env)).all (·.1.isSome) = true := by rfl) (hks : (backToKw pos (keywordEach [⟨some q, e, kp⟩] X.env)).filterMap (·.1) = [q] := by rfl)
    (hpl : ((backTo pos (starEach [] X.env)).any (·.1) || (backToKw pos (keywordEach [⟨some q, e, kp⟩] X.env)).any (·.1.isNone)) = false := by rfl) : PE X (.Call (.Name x p) [] [⟨some q, e, kp⟩] pos) (tErr C f (tCons te tNil)) := by
  obtain ⟨fI, fd, iC, tI, _, _, bk, ok⟩ := O.ex
  refine ⟨fun pins s σ H Q I h => wpAny_Call_Name_kw (ld_glob I hg O.m ?_ hdb)⟩
  refine PySem.W.callWith_KW0 (h₀ := X.base) I.ok.mod.kin O.ox.kC hall ?_ hpl
  refine thn ((pk_cons he pk_nil).run pos pins s σ H _ I h) fun ws s1 ⟨zs, H1, I1, rz, y, ey, q1⟩ => ⟨I1.kIn, ?_⟩
  subst ey
  rw [hks]
  exact run_mxK O.ox iC tI (ok X.prog X.w X.base) hr bk pass0 I1 rz rfl (fun a na => spi_of q1 a na)
end
/-- C(), C an own error class without an __init__ of its own -/
def tErr0 (C : Addr) : TE := fun _ H Q => ∀ a, H a = none → Q (.ref a) (upd H a (exo a C none))
theorem pe_bare {X : Cx} {C : Addr} {bB : List Value} {B nI iI : String} {x : Str} {p pos : Pos} (F : ExcBaseFacts B nI iI bB) (q : PySem.W.excIn X.K C bB nI = true) (gC : X.mg x = some (.ref C)) (kC : PySem.W.keepIn X.K (.ref C) = true) (hg : Gl X x)
    (hdb : (x == ("__debug__" : Str)) = false := by decide) : PE X (.Call (.Name x p) [] [] pos) (tErr0 C) := by
  refine ⟨fun pins s σ H Q I h => wpAny_Call_Name_kw (ld_glob I hg gC ?_ hdb)⟩
  refine PySem.W.callWith_K0 I.kIn kC ?_
  obtain ⟨bm, N, nm, qn, bs, hdct, sn, sub, ab, col, dd, k0, k1, k2, k3, k5, mN, hC, hN, hni, T⟩ := exc_obj I.kIn q
  refine wpAny_call_exc_subT F T hC hN hni (fun h' a hm => ?_) (Nat.zero_le _)
  have hn : H a = none := I.hok.gone hm.new
  obtain ⟨t, ht, _, _⟩ := hm.there
  exact ⟨.ref a, _, I.laidN hm.keeps hm.new hn (exo_ok ht), rfl, h a hn⟩
end TX

set_option Elab.async false
set_option linter.all false
set_option maxRecDepth 100000
set_option maxHeartbeats 4000000
/-! TR: repr of plain data; defs that ask for it (no repr is under way around them). -/
namespace TR
open PySem PySem.Spec PyProof.Rows L2

/-! ### plain data over the abstract heap -/
def keyD : Key → PyData
  | .inl i => .int i
  | .inr x => .str x
mutual
inductive DV (H : Hp) (c : Bool) : V → PyData → Prop
  | non : DV H c .non .none
  | bl (b : Bool) : DV H c (.bl b) (.bool b)
  | int (i : Int) : DV H c (.int i) (.int i)
  | str (x : Str) : DV H c (.str x) (.str x)
  | lst {a : Addr} {xs : List V} {ds : List PyData} : (c = true → a ≠ sysModules) → H a = some (.lst xs) → DVs H c xs ds → DV H c (.ref a) (.list ds)
  | tup {a : Addr} {xs : List V} {ds : List PyData} : H a = some (.tup xs) → DVs H c xs ds → DV H c (.ref a) (.tuple ds)
  | dic {a : Addr} {kvs : List (Key × V)} {ds : List (PyData × PyData)} : H a = some (.dK kvs) → DVk H c kvs ds → DV H c (.ref a) (.dict ds)
inductive DVs (H : Hp) (c : Bool) : List V → List PyData → Prop
  | nil : DVs H c [] []
  | cons {x : V} {d : PyData} {xs : List V} {ds : List PyData} : DV H c x d → DVs H c xs ds → DVs H c (x :: xs) (d :: ds)
inductive DVk (H : Hp) (c : Bool) : List (Key × V) → List (PyData × PyData) → Prop
  | nil : DVk H c [] []
  | cons {k : Key} {x : V} {d : PyData} {xs : List (Key × V)} {ds : List (PyData × PyData)} : DV H c x d → DVk H c xs ds → DVk H c ((k, x) :: xs) ((keyD k, d) :: ds)
end
mutual
theorem DV.same {H H' : Hp} {c : Bool} (h : ∀ a o, H a = some o → H' a = some o) : ∀ {x : V} {d : PyData}, DV H c x d → DV H' c x d
  | _, _, .non => .non
  | _, _, .bl b => .bl b
  | _, _, .int i => .int i
  | _, _, .str x => .str x
  | _, _, .lst z e r => .lst z (h _ _ e) (DVs.same h r)
  | _, _, .tup e r => .tup (h _ _ e) (DVs.same h r)
  | _, _, .dic e r => .dic (h _ _ e) (DVk.same h r)
theorem DVs.same {H H' : Hp} {c : Bool} (h : ∀ a o, H a = some o → H' a = some o) : ∀ {x : List V} {d : List PyData}, DVs H c x d → DVs H' c x d
  | _, _, .nil => .nil
  | _, _, .cons r t => .cons (DV.same h r) (DVs.same h t)
theorem DVk.same {H H' : Hp} {c : Bool} (h : ∀ a o, H a = some o → H' a = some o) : ∀ {x : List (Key × V)} {d : List (PyData × PyData)}, DVk H c x d → DVk H' c x d
  | _, _, .nil => .nil
  | _, _, .cons r t => .cons (DV.same h r) (DVk.same h t)
end
theorem pairs_rd {P : Program} {w : World} : ∀ {es : List DictEntry} {kvs : List (Key × V)} {vs : List (Key × Value)}, PySem.Pairs (mixKind P w) es vs → KV kvs vs →
    Paired (fun (p : Key × V) (e : DictEntry) => keyIs p.1 e.key = true ∧ RelV p.2 e.val) kvs es
  | _, _, _, .nil, .nil => .nil
  | _, _, _, .cons h1 h2 t, .cons r k => .cons ⟨by rw [r.1]; exact h1, by rw [h2]; exact r.2⟩ (pairs_rd t k)
theorem key_rd {h : Heap} {k : Key} {v : Value} (e : keyIs k v = true) : Reads h v (keyD k) [] := by
  rcases keyIs_shape e with ⟨i, t, rfl, rfl⟩ | ⟨x, t, rfl, rfl⟩
  · exact .int i t
  · exact .str x t
section
variable {P : Program} {w : World} {H : Hp} {h : Heap} {c : Bool}
mutual
theorem DV.rd (ok : HOk P w H h) : ∀ {x : V} {d : PyData} {u : Value}, DV H c x d → RelV x u → ∃ as, Reads h u d as ∧ (c = true → sysModules ∉ as)
  | _, _, _, .non, r => by cases (show _ = Value.none from r); exact ⟨_, .none, fun _ => by simp⟩
  | _, _, _, .bl b, r => by cases (show _ = Value.bool b from r); exact ⟨_, .bool b, fun _ => by simp⟩
  | _, _, _, .int i, r => by obtain ⟨t, rfl⟩ := (show ∃ t, _ = Value.int i t from r); exact ⟨_, .int i t, fun _ => by simp⟩
  | _, _, _, .str x, r => by obtain ⟨t, rfl⟩ := (show ∃ t, _ = Value.str x t from r); exact ⟨_, .str x t, fun _ => by simp⟩
  | _, _, _, @DV.lst _ _ a xs ds y e q, r => by
    cases (show _ = Value.ref a from r)
    obtain ⟨_, its, n, rv, g⟩ := (show ObjOk P w H h a (.lst xs) from ok a _ e)
    obtain ⟨as, z, zs⟩ := DVs.rd ok q rv
    exact ⟨_, .list (vs := its.toArray) g rfl rfl z, fun hc => by simpa using ⟨(y hc).symm, zs hc⟩⟩
  | _, _, _, @DV.tup _ _ a xs ds e q, r => by
    cases (show _ = Value.ref a from r)
    obtain ⟨_, its, rv, o, g, k, n, dt⟩ := (show ObjOk P w H h a (.tup xs) from ok a _ e)
    obtain ⟨as, z, zs⟩ := DVs.rd ok q rv
    exact ⟨_, .tuple (vs := its.toArray) g k dt z, zs⟩
  | _, _, _, @DV.dic _ _ a kvs ds e q, r => by
    cases (show _ = Value.ref a from r)
    obtain ⟨_, sm, vs, kv, o, es, ep, g, k, dt, _, pr, _⟩ := (show ObjOk P w H h a (.dK kvs) from ok a _ e)
    obtain ⟨as, bs, z1, z2, z3, z4⟩ := DVk.rd ok q (pairs_rd pr kv)
    exact ⟨_, .dict g k.1 dt z1 z2, fun hc => by simpa using ⟨(beq_eq_false_iff_ne.mp sm).symm, z3 hc, z4 hc⟩⟩
theorem DVs.rd (ok : HOk P w H h) : ∀ {x : List V} {d : List PyData} {u : List Value}, DVs H c x d → Vals x u → ∃ as, ReadsAll h u d as ∧ (c = true → sysModules ∉ as)
  | _, _, _, .nil, .nil => ⟨_, .nil, fun _ => by simp⟩
  | _, _, _, .cons q t, .cons r s => by
    obtain ⟨_, z, y⟩ := DV.rd ok q r
    obtain ⟨_, z', y'⟩ := DVs.rd ok t s
    exact ⟨_, .cons z z', fun hc => by simpa using ⟨y hc, y' hc⟩⟩
theorem DVk.rd (ok : HOk P w H h) : ∀ {x : List (Key × V)} {d : List (PyData × PyData)} {es : List DictEntry}, DVk H c x d → Paired (fun (p : Key × V) (e : DictEntry) => keyIs p.1 e.key = true ∧ RelV p.2 e.val) x es →
    ∃ as bs, ReadsAll h (es.map (·.key)) (d.map (·.1)) as ∧ ReadsAll h (es.map (·.val)) (d.map (·.2)) bs ∧ (c = true → sysModules ∉ as) ∧ (c = true → sysModules ∉ bs)
  | _, _, _, .nil, .nil => ⟨_, _, .nil, .nil, fun _ => by simp, fun _ => by simp⟩
  | _, _, _, .cons q t, .cons r s => by
    obtain ⟨_, z, y⟩ := DV.rd ok q r.2
    obtain ⟨_, _, z1, z2, z3, z4⟩ := DVk.rd ok t s
    exact ⟨_, _, .cons (key_rd r.1) z1, .cons z z2, fun hc => by simpa using z3 hc, fun hc => by simpa using ⟨y hc, z4 hc⟩⟩
end
end
/-- repr(x) of plain data -/
def rRepr : List V → Hp → VK → Prop := fun xs H Q => ∃ (a : Addr) (d : PyData) (c : Bool), xs = [.ref a] ∧ DV H c (.ref a) d ∧ (d.hasDict = true → c = true) ∧ d.showable = true ∧ d.depth ≤ 60 ∧ d.shown.length ≤ sizeLine ∧ Q (.str d.shown) H
theorem cr_repr {X : Cx} (hg : X.A.guards = some []) (hu : X.A.units + 64 < cLine) : CallR X (.builtin "repr") rRepr := by
  intro pins s σ H xs us Q I r h
  obtain ⟨a, d, c, rfl, hd, hc, hs, hp, hz, q⟩ := h
  obtain ⟨u, rfl, ru⟩ := r.one
  cases (show u = Value.ref a from ru)
  obtain ⟨as, rd, ap⟩ := DV.rd I.hok hd (show RelV (.ref a) (.ref a) from rfl)
  exact repr_of_reads' rd hs (fun z => ap (hc z)) hg (by omega) (fun _ _ z => z) (fun h' u tk hk => ⟨.str d.shown, H, I.kept (t' := tk) hk, ⟨u, rfl⟩, q⟩) hz

/-! ### lists whose address is known not to be the table of modules -/
def rCatN : R2 := fun x y H Q => ∃ l b xs zs, x = .ref l ∧ y = .ref b ∧ H l = some (.lst xs) ∧ H b = some (.lst zs) ∧ xs.length + zs.length ≤ sizeLine ∧ ∀ p, H p = none → p ≠ sysModules → Q (.ref p) (upd H p (.lst (xs ++ zs)))
theorem op_catN {X : Cx} : OpR X (binaryOp .Add) rCatN := by
  intro pins s σ H x y v u Q I rx ry hh
  obtain ⟨l, b, xs, zs, e1, e2, hl, hb, hz, k⟩ := hh
  subst e1 e2
  cases rx
  cases ry
  obtain ⟨_, us, n, rl, ll, gl⟩ := I.lstM hl
  obtain ⟨_, ws, m, rb, lb, gb⟩ := I.lstM hb
  refine PySem.P.add_list gl gb ?_ (by simp only [List.size_toArray]; omega)
  rw [show us.toArray ++ ws.toArray = (us ++ ws).toArray by simp]
  exact ⟨.ref _, _, I.lnew (t' := s.toks) (rl.append rb) (by simpa using hz), rfl, k _ I.fresh (Nat.ne_of_gt I.big)⟩
def rRepN : R2 := fun x y H Q => ∃ l z k, x = .ref l ∧ y = .int k ∧ H l = some (.lst [z]) ∧ 0 ≤ k ∧ k ≤ 1000 ∧ ∀ p, H p = none → p ≠ sysModules → Q (.ref p) (upd H p (.lst (List.replicate k.toNat z)))
theorem op_repN {X : Cx} : OpR X (binaryOp .Mult) rRepN := by
  intro pins s σ H x y v u Q I rx ry hh
  obtain ⟨l, z, k, e1, e2, hl, k0, k1, go⟩ := hh
  subst e1 e2
  cases rx
  obtain ⟨tk, rfl⟩ := ry
  obtain ⟨_, us, n, rl, ll, gl⟩ := I.lstM hl
  have small : us.toArray.size * k.toNat ≤ sizeLine := by
    rw [List.size_toArray, ← ll, sizeLine_eq]; simp; omega
  have cap : ¬ us.toArray.size * k.toNat > (2 ^ 63 - 1) / 8 := by
    have : (sizeLine : Nat) ≤ (2 ^ 63 - 1) / 8 := by decide
    omega
  have fits : ¬ (!Builtin.List.listFitsIndex k) = true := by
    rw [fitsIndex_both (by omega) (by omega)]; decide
  have long : ¬ Builtin.List.listTooLong (us.toArray.size * k.toNat) = true := by
    rw [notLongL small]; decide
  have all : List.foldl (fun x1 x2 => x1 ++ x2) #[] (List.replicate (if us.toArray.isEmpty = true then 0 else k.toNat) us.toArray) = (List.replicate k.toNat us).flatten.toArray := by
    have go : ∀ m : Nat, List.foldl (fun x1 x2 => x1 ++ x2) #[] (List.replicate m us.toArray) = (List.replicate m us).flatten.toArray := fun m => by
      simpa using foldl_rep us m []
    rw [go]
    cases us with
    | nil => simp
    | cons _ _ => simp
  refine wpAny_binaryOp_repeat_ref (T := "list") (U := "int") (by decide) ⟨_, gl, rfl⟩ (fun s' => typeIs_int s' k tk) noFill_list_mul F.fills_int_mul F.slot_int_rmul repeat_list F.slot_int_index.lookup ?_
  refine call_meets F.slot_int_rmul (typeIs_int s k tk) F.entry_int_rmul (F.args_int_rmul_2 _ _) (int___rmul___int_list k tk l us.toArray n) ⟨gl, rfl, ⟨_, gl, rfl⟩, ?_⟩
  refine call_meets F.slot_list_mul ⟨_, gl, rfl⟩ F.entry_list_mul (F.args_list_mul_2 _ _) (AutoListH.list___mul___list_int_3 l us.toArray n k tk fits cap long) ⟨gl, ?_⟩
  rw [all]
  have e : (List.replicate k.toNat [z]).flatten = List.replicate k.toNat z := by
    simp [List.flatten_replicate_singleton]
  have rr := rl.rep k.toNat
  rw [e] at rr
  exact ⟨.ref _, _, I.lnew (t' := s.toks) rr (by rw [List.length_replicate, sizeLine_eq]; omega), rfl, go _ I.fresh (Nat.ne_of_gt I.big)⟩

/-! ### defs around which no repr is under way -/
structure FnG (P : Program) (w : World) (K : PySem.W.Frag) (mg : Str → Option Value) (base : Heap) (CX : CXT) (k : Nat) (f : Addr) (fd : FuncData) (ps : List Str) (sp : Sp) : Prop where
  len : ∀ vs H Q E, sp vs H Q E → vs.length = ps.length
  run : ∀ (A : Around), A.guards = some [] → ∀ (outer : List Env) (s : Shared) (H : Hp) (args : Args) (us : List Value) (vs : List V) (Q : VK) (E : XK), Room k A → Env0 P w K mg base A outer s H → BindsTo s fd args (ps.zip us) → Vals vs us → sp vs H Q E →
    codeAny (model P w) A (.call (.ref f) args) (CR CX outer P w H s Q E) s
section
variable {X : Cx} {CX : CXT} {k : Nat} {f : Addr} {fd : FuncData} {ps : List Str} {sp : Sp} {ds : List Value} {dvs : List V} {E : XK} {x : Str} {e : Expr} {es : List Expr} {t : TA} {p pos : Pos}
theorem pe_callG (F : FnG X.prog X.w X.K X.mg X.base CX k f fd ps sp) (hG : X.A.guards = some []) (hr : Room k X.A) (hg : Gl X x) (hm : X.mg x = some (.ref f)) (hk : PySem.W.keepIn X.K (.ref f) = true) (hb : Binds X.K fd ps ds) (hd : Vals dvs ds) (hx : Passes CX X E)
    (ha : PA X (e :: es) t) (hdb : (x == ("__debug__" : Str)) = false := by decide) (he : starEach (e :: es) X.env = (false, eval e X.env) :: starEach es X.env := by rfl) (hpl : (backTo pos (starEach es X.env)).any (·.1) = false := by rfl) :
    PE X (.Call (.Name x p) (e :: es) [] pos) (tCall sp dvs E t) := by
  refine ⟨fun pins s σ H Q I h => wpAny_Call_Name_kw (ld_glob I hg hm ?_ hdb)⟩
  refine PySem.W.callWith_K (h₀ := X.base) I.ok.mod.kin hk (thn (ha.run pos pins s σ H _ I h) fun us s1 ⟨vs, H1, J, r, q⟩ => ⟨J.kIn, ?_⟩) he hpl
  have rr : Vals (vs ++ dvs) (us ++ ds) := r.append hd
  have bound := hb s1 us J.kIn (rr.length.symm.trans (F.len _ _ _ _ q))
  refine wpAny_call (codeAny_mono (F.run X.A hG X.stack s1 H1 ⟨us, []⟩ (us ++ ds) (vs ++ dvs) Q E hr J.env0 bound rr q) fun res s' z => ?_)
  cases res with
  | error er => exact hx pins σ H1 s1 er s' J z
  | ok fl =>
    cases fl with
    | ret u => exact J.after z
    | next => exact False.elim z
    | brk => exact False.elim z
    | cont => exact False.elim z
end
section
variable {P : Program} {w : World} {K : PySem.W.Frag} {mg : Str → Option Value} {base : Heap}
/-- a def by its body, no repr under way -/
theorem okG {x qual : Str} {st : Stmt} {f : Addr} {fd : FuncData} {N ps : List Str} {k : Nat} {sp : Sp} (F : Fun K x qual st f fd) (S : FnScope N ps (defScope st)) (len : ∀ vs H Q E, sp vs H Q E → vs.length = ps.length)
    (hbody : ∀ (cdv : Value) (A : Around) (outer : List Env) (s : Shared) (H : Hp) (vs : List V) (Q : VK) (E : XK), (A.deeper (envOfC qual (defScope st) s.heap.objs.size f cdv)).guards = some [] → Room k (A.deeper (envOfC qual (defScope st) s.heap.objs.size f cdv)) → sp vs H Q E →
      ∃ t, PSs (cxOf CX0 P w K mg base N qual (defScope st) f cdv A outer s H E).nox (defBody st) t ∧ t { nx := fun _ H' => Q .non H', rt := Q } (start N vs) H) : FnG P w K mg base CX0 (k + 1) f fd ps sp := by
  obtain ⟨oc, od, kV, doc, pm, an, cdv, ct, osl, rfl, lk, hcd⟩ := F.ex
  refine ⟨len, fun A hG outer s H args us vs Q E room e0 bound r pre => ?_⟩
  have many := len _ _ _ _ pre
  have KX : K.In s.heap := e0.mod.kin.keeps fun b o z => (e0.bs b o z).1
  have lim : s.heap.NoLimit := e0.mod.nolimit.keeps fun b o z => (e0.bs b o z).1
  have kinds : ∀ y ∈ ps.zip us, (defScope st).names.lookup y.1 = some .local ∨ ((defScope st).names.lookup y.1 = some .cell ∧ ((cellsFrom (s.heap.objs.size + 1) (defScope st).names []).lookup y.1).isSome = true) := fun y hy => by
    have mem : y.1 ∈ ps := (List.of_mem_zip (show (y.1, y.2) ∈ ps.zip us from hy)).1
    rcases S.par y.1 mem with z | z
    · exact .inl z
    · exact .inr ⟨z, PySem.W.cellsFrom_some _ _ _ (.inl z)⟩
  refine codeAny_call_function room.depth (KX _ _ lk) rfl S.co S.gen rfl (PySem.W.codeRec_of KX hcd) (bound _ _ _ _ ?_)
  refine wpAny_newFunctionEnv_cells S.kind kinds fun env henv s1 inside => ?_
  subst henv
  refine ⟨lim.keeps inside.toInCall.keep, codeAny_func ?_⟩
  obtain ⟨t, ht0, go⟩ := hbody cdv A outer s H vs Q E hG (room.deeper _) pre
  have ht := ht0.nox
  have I : Inv (cxOf CX0 P w K mg base N qual (defScope st) f cdv A outer s H E) [] (start N vs) H s1 := inv_start S room.hd e0 many r inside
  refine wpAny_mono (ht.run [] s1 (start N vs) H _ I go) (fun fl s' z => ?_) fun _ _ z => z
  have back : ∀ {σ' : L2.St} {H' : Hp} {v : V} {u : Value}, Inv (cxOf CX0 P w K mg base N qual (defScope st) f cdv A outer s H E) [] σ' H' s' → RelV v u → Q v H' → CE outer P w H s Q u s' := fun {σ' H' v u} J rv q => ⟨v, H', J.os, J.bare, J.base, J.hok, rv, q⟩
  cases fl with
  | ret u =>
    obtain ⟨v, σ', H', J, rv, q⟩ := z
    exact back J rv q
  | next =>
    obtain ⟨σ', H', J, q⟩ := z
    exact back (v := V.non) (u := Value.none) J rfl q
  | brk => exact False.elim z.choose_spec.choose_spec.2
  | cont => exact False.elim z.choose_spec.choose_spec.2
end

/-! ### the law's own def -/
section
variable {P : Program} {w : World} {K : PySem.W.Frag} {mg mb : Str → Option Value} {CX : CXT} {k : Nat} {fa a : Addr} {fd : FuncData} {x : Str} {sp : Sp} {t : Shared} {us : List Value} {ns : List Int}
/-- what the call leaves -/
abbrev Fine (t : Shared) : Result → Shared → Prop := fun r t' => r = .ok (.ret (.bool true)) ∧ OldK t.heap t'.heap ∧ t'.os = t.os ∧ AllBare t'.gens
theorem lawH (inK : K.In t.heap) (nsM : t.heap.Ns mainGlobals mg) (nsB : t.heap.Ns builtinsNs mb) (bb : ∀ y : Str, y ≠ "__name__" → mb y = bootBuiltins y) (nl : t.heap.NoLimit) (ng : t.gens = #[])
    (at_a : t.heap.get? a = some { cls := .type "list", data := .seq us.toArray }) (room : Room k callerA) (F : ∀ base : Heap, K.In base → base.Ns mainGlobals mg → FnG P w K mg base CX k fa fd [x] sp)
    (bind1 : ∀ (s : Shared) (u : Value), BindsTo s fd ⟨[u], []⟩ [(x, u)]) (noX : ∀ H e s', CX [] H t (fun _ _ _ => False) e s' → False)
    {H : Hp} (only : Only H) (pre : sp [.ref a] H (fun v _ => v = .bl true) fun _ _ _ => False) (hok : HOk P w H t.heap) (onA : ∀ b, H b ≠ none → b = a) (offK : H a ≠ none → K.lookup a = none) :
    codeAny (model P w) callerA (.call (.ref fa) ⟨[.ref a], []⟩) (Fine t) t := by
  have sees : ∀ {b : Addr} {o : Obj}, t.heap.get? b = some o → H b = none → (hidT t.heap H).get? b = some o := fun z n => hidT_get z n
  have untr : ∀ {b : Addr}, b ≠ a → H b = none := fun {b} nb => by
    cases q : H b with
    | none => rfl
    | some u => exact absurd (onA b (by rw [q]; simp)) nb
  have dictNs : ∀ {b : Addr} {m : Str → Option Value}, t.heap.Ns b m → (hidT t.heap H).Ns b m := fun {b m} ⟨o, es, ep, g, d, r⟩ => by
    refine ⟨o, es, ep, sees g (untr fun z => ?_), d, r⟩
    subst z
    rw [at_a] at g
    cases g
    exact nomatch (show Data.seq us.toArray _ = Data.dict es ep from d)
  have inB : K.In (hidT t.heap H) := fun b o z => by
    refine sees (inK b o z) ?_
    cases q : H b with
    | none => rfl
    | some u =>
      have nn : H b ≠ none := by rw [q]; simp
      have eb := onA b nn
      subst eb
      rw [offK nn] at z
      cases z
  obtain ⟨mc, l1, l2⟩ := nl
  have md : Mod K mg (hidT t.heap H) := ⟨inB, dictNs nsM, ⟨mb, dictNs nsB, bb⟩, ⟨mc, dictNs l1, l2⟩⟩
  have e0 : Env0 P w K mg (hidT t.heap H) callerA [] t H := ⟨rfl, md, fun b o z => of_hidT z, Nat.le_of_eq (hidT_size _ _), trivial, fun b z => (by cases z), hok, .of_eq ng⟩
  refine codeAny_mono ((F _ inB (dictNs nsM)).run callerA rfl [] t H ⟨[.ref a], []⟩ [.ref a] [.ref a] _ _ room e0 (bind1 t (.ref a)) (.cons rfl .nil) pre) fun r t' z => ?_
  cases r with
  | error e => exact (noX H e t' z).elim
  | ok fl =>
    cases fl with
    | next => exact False.elim z
    | brk => exact False.elim z
    | cont => exact False.elim z
    | ret u =>
      obtain ⟨v, H', os, bare, un, hok', rv, ev⟩ := z
      cases (show v = .bl true from ev)
      cases (show u = Value.bool true from rv)
      refine ⟨rfl, OldK.of_keep fun b o g => ?_, os, bare⟩
      rcases only b with n | ⟨ob, xs, z⟩
      · exact un.keep b o g n (fun q => by cases q) (fun q => by cases q)
      · have g1 := (hok b _ z).1
        have g2 := (hok' b _ (un.frzs b ob _ z)).1
        rw [g] at g1
        cases g1
        exact g2
theorem lawG (inK : K.In t.heap) (nsM : t.heap.Ns mainGlobals mg) (nsB : t.heap.Ns builtinsNs mb) (bb : ∀ y : Str, y ≠ "__name__" → mb y = bootBuiltins y) (nl : t.heap.NoLimit) (ng : t.gens = #[])
    (at_a : t.heap.get? a = some { cls := .type "list", data := .seq us.toArray }) (areInts : IntsAre us ns) (hz : ns.length ≤ sizeLine) (room : Room k callerA) (F : ∀ base : Heap, K.In base → base.Ns mainGlobals mg → FnG P w K mg base CX k fa fd [x] sp)
    (bind1 : ∀ (s : Shared) (u : Value), BindsTo s fd ⟨[u], []⟩ [(x, u)]) (noX : ∀ H e s', CX [] H t (fun _ _ _ => False) e s' → False)
    (pre : ∀ H : Hp, Only H → SqL K H a (ns.map V.int) → sp [.ref a] H (fun v _ => v = .bl true) fun _ _ _ => False) : codeAny (model P w) callerA (.call (.ref fa) ⟨[.ref a], []⟩) (Fine t) t := by
  have rv := vals_ints areInts
  have many := areInts.length
  cases own : K.lookup a with
  | some o =>
    have g := inK a o own
    rw [at_a] at g
    cases g
    have none0 : Only fun _ => none := fun _ => .inl rfl
    exact lawH inK nsM nsB bb nl ng at_a room F bind1 noX none0 (pre _ none0 (.inr ⟨_, us.toArray, _, own, rfl, rfl, rfl, by rw [List.size_toArray, many]; exact hz, by simpa using rv⟩)) (fun b u z => nomatch (show (none : Option HO) = some u from z)) (fun b z => absurd rfl z) fun z => absurd rfl z
  | none =>
    let H1 : Hp := fun b => if b = a then some (.frz { cls := .type "list", data := .seq us.toArray } (.lst (ns.map V.int))) else none
    have yes : H1 a = some (.frz { cls := .type "list", data := .seq us.toArray } (.lst (ns.map V.int))) := if_pos rfl
    have no : ∀ {b : Addr}, b ≠ a → H1 b = none := fun nb => if_neg nb
    have one : Only H1 := fun b => by
      by_cases e : b = a
      · exact .inr ⟨_, _, by rw [e]; exact yes⟩
      · exact .inl (no e)
    refine lawH inK nsM nsB bb nl ng at_a room F bind1 noX one (pre _ one (.inl (.inr ⟨_, yes⟩))) (fun b u z => ?_) (fun b z => ?_) fun _ => own
    · by_cases e : b = a
      · subst e
        rw [yes] at z
        cases z
        exact ⟨at_a, by rw [List.length_map]; exact hz, us, _, rv, at_a⟩
      · rw [no e] at z
        cases z
    · exact Decidable.byContradiction fun e => z (no e)
end
theorem walkG {l : PySem.W.OpenLaw} {n k : Nat} {q : Program} {loose : List Str} {XP : (Str → Option Value) → Heap → Prop} {YP : World → Heap → Prop} {d : DefRec} {K : Params → PySem.W.Frag} {sp : World → Sp} {x : Str}
    (hn : l.most = some n) (hz : n ≤ sizeLine) (hdf : d.params.defaults = []) (room : Room k callerA) (hY : ∀ (w : World) (h : Heap), YP w h → (K w.params).In h)
    (F : ∀ (w : World) (mg : Str → Option Value) (fa : Addr) (h : Heap), (K w.params).In h → h.Ns mainGlobals mg → mg d.name = some (.ref fa) →
      ∃ fd : FuncData, (∀ (s : Shared) (u : Value), BindsTo s fd ⟨[u], []⟩ [(x, u)]) ∧ ∀ base : Heap, (K w.params).In base → base.Ns mainGlobals mg → FnG l.prog w (K w.params) mg base CX0 k fa fd [x] (sp w))
    (pre : ∀ (w : World) (H : Hp) (a : Addr) (ns : List Int), ns.length ≤ n → Only H → SqL (K w.params) H a (ns.map V.int) → sp w [.ref a] H (fun v _ => v = .bl true) fun _ _ _ => False) :
    PySem.W.WalkO q loose XP YP l.row.toRowW d [] (fun f vs => PySem.call f vs) := by
  refine Att.attach_call hn hdf fun w t0 t mg mb fa o pm cd doc a us ns G Y ho hd hcd hmg at_a areInts many ng => ?_
  obtain ⟨fd, hb, hF⟩ := F w mg fa _ (hY w _ Y) G.T.g hmg
  exact lawG (hY w _ Y) G.T.g G.T.b G.T.builtins G.T.nolimit ng at_a areInts (Nat.le_trans many hz) room hF hb (fun _ _ _ z => z) fun H h1 h2 => pre w H a ns many h1 h2
end TR

set_option Elab.async false
set_option linter.all false
set_option maxRecDepth 100000
set_option maxHeartbeats 4000000
/-! TQ: an error that is caught and kept in a name. -/
namespace TQ
open PySem PySem.Spec PyProof.Rows L2 TX

/-- at a: a caught error of the class at C, its dict at d -/
def kxo (a C : Addr) (d : Option Addr) : HO := .ext fun h => ∃ (oe : Obj) (vs : Array Value), h.get? a = some oe ∧ Zc (.ref C) d oe ∧ oe.data = .fields vs
theorem kxo_ok {P : Program} {w : World} {H : Hp} {h : Heap} {a C : Addr} {d : Option Addr} {oe : Obj} {vs : Array Value} (e : h.get? a = some oe) (z : Zc (.ref C) d oe) (f : oe.data = .fields vs) : ObjOk P w H h a (kxo a C d) :=
  ⟨⟨oe, vs, e, z, f⟩, ⟨oe, e⟩, fun h1 h2 ⟨o, us, q, r⟩ k => ⟨o, us, k _ q, r⟩⟩
theorem kxo_at {P : Program} {w : World} {H : Hp} {h : Heap} {a C : Addr} {d : Option Addr} (ok : HOk P w H h) (e : H a = some (kxo a C d)) : ∃ (oe : Obj) (vs : Array Value), h.get? a = some oe ∧ Zc (.ref C) d oe ∧ oe.data = .fields vs := by
  have x : ObjOk P w H h a (.ext fun h => ∃ (oe : Obj) (vs : Array Value), h.get? a = some oe ∧ Zc (.ref C) d oe ∧ oe.data = .fields vs) := ok a _ e
  exact x.1
/-- a caught error with the field f -/
def Kept (H : Hp) (a C : Addr) (fs : List (Str × V)) : Prop := ∃ d, H a = some (kxo a C (some d)) ∧ H d = some (.xd fs)
theorem Kept.same {H H' : Hp} {a C : Addr} {fs : List (Str × V)} (e : Kept H a C fs) (h : ∀ b o, H b = some o → H' b = some o) : Kept H' a C fs :=
  let ⟨d, h1, h2⟩ := e
  ⟨d, h _ _ h1, h _ _ h2⟩
section
variable {X : Cx} {pins : List (Addr × Obj)} {σ : L2.St} {H : Hp} {s : Shared} {a C : Addr} {fs : List (Str × V)}
/-- an object that was made since the entry is looked at from here on -/
theorem track {φ : Heap → Prop} (I : Inv X pins σ H s) (new : ObjOk X.prog X.w (upd H a (.ext φ)) s.heap a (.ext φ)) (na : H a = none) (n0 : X.s_0.heap.get? a = none) (nL : a ≠ X.env.locals) (nC : ∀ x c, X.env.cells.lookup x = some c → c ≠ a) (nP : ∀ p ∈ X.pn ++ pins, p.1 ≠ a) :
    Inv X pins σ (upd H a (.ext φ)) s := by
  have ne : ∀ {b : Addr} {o : HO}, H b = some o → b ≠ a := fun {b o} e z => by
    rw [z, na] at e
    cases e
  have up : ∀ {b : Addr} {o : HO}, H b = some o → upd H a (.ext φ) b = some o := fun {b o} e => by
    rw [upd_ne (ne e)]
    exact e
  have off : ∀ {b : Addr}, b ≠ a → H b = none → upd H a (.ext φ) b = none := fun {b} nb e => by
    rw [upd_ne nb]
    exact e
  refine ⟨I.ok, I.os, I.bare, ⟨I.base.keep, I.base.slot, fun b o e n hx => off (fun z => ?_) (I.base.free b o e n hx), I.base.there, fun b xs e => up (I.base.tups b xs e), fun b o u e => up (I.base.frzs b o u e), fun b ps e => ?_⟩, I.loc, I.cell, off nL.symm I.free, fun x c e => off (nC x c e) (I.freeC x c e), fun p hp => ?_, fun b o e => ?_, I.len⟩
  · rw [z, n0] at e
    cases e
  · obtain ⟨more, q⟩ := I.base.tbls b ps e
    exact ⟨more, up q⟩
  · obtain ⟨h1, h2, h3⟩ := I.pin p hp
    exact ⟨h1, off (nP p hp) h2, h3⟩
  · by_cases hb : b = a
    · subst hb
      rw [upd_same] at e
      cases e
      exact new
    · rw [upd_ne hb] at e
      exact (I.hok b o e).stay (fun _ _ _ q => q) (fun _ q => up q) fun _ _ q => up q
theorem kinst_of (I : Inv X pins σ H s) (e : Kept H a C fs) : ∃ ox od, PySem.W.InstAt s.heap a ox C (some od) ∧ ∃ d, ox.dict = some d ∧ H d = some (.xd fs) ∧ s.heap.get? d = some od := by
  obtain ⟨d, h1, h2⟩ := e
  obtain ⟨oe, vs, ho, hz, hf⟩ := kxo_at I.hok h1
  have hx : ObjOk X.prog X.w H s.heap d (.xd fs) := I.hok d _ h2
  obtain ⟨mA, hns, _⟩ := hx
  obtain ⟨od, hd, _⟩ := lookIn_ns hns
  exact ⟨oe, od, ⟨ho, hz.1, by unfold PySem.W.notCls; rw [hf] <;> rfl, by rw [hz.2]; exact hd⟩, d, hz.2, h2, hd⟩
end
/-- isinstance(e, c): e a caught error -/
def rIsQ (K : PySem.W.Frag) : List V → Hp → VK → Prop := fun xs H Q => ∃ (a C : Addr) (fs : List (Str × V)) (c : V) (cv : Value) (b : Bool), xs = [.ref a, c] ∧ ExcC K C ∧ Kept H a C fs ∧ ClsV c cv ∧ PySem.W.kitOne K (.ref C) cv = some b ∧ Q (.bl b) H
theorem call_isQ {X : Cx} : CallR X (.builtin "isinstance") (rIsQ X.K) := by
  intro pins s σ H xs us Q I r h
  obtain ⟨a, C, fs, c, cv, b, rfl, hC, he, k, e, q⟩ := h
  obtain ⟨u1, u2, rfl, r1, r2⟩ := vals2 r
  cases (show u1 = Value.ref a from r1)
  have e2 := k.eq r2
  subst e2
  obtain ⟨ox, od, J, _⟩ := kinst_of I he
  refine PySem.W.kia_one (PySem.W.kitx_exc (ox := ox) (od := some od) ?_ hC.hg hC.hk hC.hs hC.ha hC.hn hC.ht hC.hm) I.kIn J e (fun z => nomatch z) fun tk => ⟨.bl b, H, I.tok tk, rfl, q⟩
  have z := hC.hd
  unfold PySem.W.hasDictIn at z
  cases w : PySem.W.clsIn X.K C with
  | some _ => rfl
  | none => rw [w] at z; cases z
/-- e.f: a field of a caught error -/
def tQx (K : PySem.W.Frag) (f : Str) (te : TE) : TE := fun σ H Q => te σ H fun x H1 => ∃ (a C : Addr) (fs : List (Str × V)) (v : V), x = .ref a ∧ XfC K C ∧ PySem.W.findIn K (.ref C) f = some none ∧ Kept H1 a C fs ∧ fs.lookup f = some v ∧ Q v H1
theorem pe_qx {X : Cx} {e : Expr} {te : TE} {pos : Pos} {f : Str} (he : PE X e te) (hb : attributeBase e f X.env (eval e X.env) = eval e X.env := by rfl) : PE X (.Attribute e f pos) (tQx X.K f te) := by
  refine ⟨fun pins s σ H Q I h => attr_of hb (thn (he.run pins s σ H _ I h) fun u s1 ⟨x, H1, I1, rx, a, C, fs, v, ex, T, hno, he, l, q⟩ => ?_)⟩
  subst ex
  cases (show u = Value.ref a from rx)
  obtain ⟨d, h1, h2⟩ := he
  obtain ⟨oe, vs, ho, hz, hf⟩ := kxo_at I1.hok h1
  have hx : ObjOk X.prog X.w H1 s1.heap d (.xd fs) := I1.hok d _ h2
  obtain ⟨mA, hns, hr⟩ := hx
  obtain ⟨od, hd, hl⟩ := lookIn_ns hns
  obtain ⟨y, hy, ry⟩ := RelO.some_of (v := v) (o := mA f) (by rw [← l]; exact hr f)
  have J : PySem.W.InstAt s1.heap a oe C (some od) := ⟨ho, hz.1, by unfold PySem.W.notCls; rw [hf] <;> rfl, by rw [hz.2]; exact hd⟩
  exact HandSPX.exc_get I1.kIn J T.ga T.gg T.exC (PySem.W.findObj_own T.hdC hno rfl (by rw [hl, hy])) (handed_of ry) ⟨v, H1, I1.tok _, ry, q⟩

/-! ### try: body, except x as n: y = n -/
def wKeep (K : PySem.W.Frag) (c : Value) (i j : Nat) (Wout : WX) (D : Ends) : WX := fun cls d σ H => ∃ (C : Addr) (b : Bool), cls = .ref C ∧ PySem.W.exmOne K cls c = some b ∧
  (b = true → ∀ a, H a = none → D.nx (((σ.set i (some (.ref a))).set j (some (.ref a))).set i none) (upd H a (kxo a C d))) ∧ (b = false → Wout cls d σ H)
section
variable {X : Cx} {x n y : Str} {c : Value} {i j : Nat} {body : List Stmt} {np np2 yp ap pos pos' : Pos} {tb : WX → TS} {Wout : WX}
theorem ps_try_keep (hex : X.ex = []) (hs : X.stack = X.env :: X.outer) (hf : X.env.frame = some X.env.locals) (hN : X.N.Nodup) (hi : X.N[i]? = some n) (hln : X.env.kindOf n = some .local) (hj : X.N[j]? = some y) (hly : X.env.kindOf y = some .local) (hij : i ≠ j) (hc : Names X x c) (tk : Takes X Wout)
    (hb : ∀ (W : WX) (pn : List (Addr × Obj)) (xe : Value → Shared → Prop), Takes (X.tr pn xe) W → PassesOwn (model X.prog X.w) X.A X.env xe → PSs (X.tr pn xe) body (tb W))
    (hsu : ∀ (a : Addr) (pn : List (Addr × Obj)), PSs (X.suite a pn) [.Assign [.Name y yp] (.Name n np2) ap] (tAsg (tVar i) (gName j))) :
    PS X (.Try body [.ExceptHandler (some (.Name x np)) (some n) [.Assign [.Name y yp] (.Name n np2) ap] pos'] [] [] pos) (fun D σ H => tb (wKeep X.K c i j Wout D) D σ H) := by
  refine ⟨fun pins s σ H D I h => ?_⟩
  have ok := I.ok
  have frames : X.A.frames = some (X.env :: X.outer) := by rw [ok.frames, hs]
  refine wpAny_Try_except ?_
  refine wpAny_mono ((hb (wKeep X.K c i j Wout D) (X.pn ++ pins) (fun e t1 => wpAny (model X.prog X.w) X.A (noteFrame e X.env) (fun _ t2 => wpAny (model X.prog X.w) X.A (setFlight e none) (fun _ t3 =>
    wpAny (model X.prog X.w) X.A (handleBy e X.env [.ExceptHandler (some (.Name x np)) (some n) [.Assign [.Name y yp] (.Name n np2) ap] pos']) (SP X pins D) X.xe t3) X.xe t2) X.xe t1) (fun u s' air => ?_) PassesOwn.looking).run [] s σ H D (I.toTry _) h) (fun fl s1 q => ?_) (fun _ _ q => q)
  · obtain ⟨a, B, sI, pins', σ', H', cls, d, rfl, J', nb, up, sky, na, os, ag, C, b, hcls, hb1, yes, no⟩ := air
    have J : Inv X pins σ' H' sI := J'.ofTry ok
    rw [show (X.tr (X.pn ++ pins) _).stack = X.env :: X.outer from hs] at sky
    show wpAny (model X.prog X.w) X.A (noteFrame (.ref a) X.env) _ _ _
    refine Sky.land Zc.steady frames hf sky fun h3 fl3 up3 => ?_
    have J3 : Inv X pins σ' H' { s' with heap := h3 } := J.landed nb fl3.1 (up.trans up3) os ag
    obtain ⟨o3, f3, g3, z3, d3⟩ := fl3.there
    have outside : ∀ {h : Heap} {o : Obj} {vs : Array Value}, h.FunFrames B (X.env :: X.outer) → h.get? a = some o → o.data = .fields vs → a ∉ frs (X.env :: X.outer) := fun {h o vs} ff e dd hm => by
      obtain ⟨_, o', e', nf⟩ := ff.mem hm
      rw [e] at e'
      cases e'
      exact nf _ dd
    have off := outside fl3.2.2.1 g3 d3
    have nL : a ≠ X.env.locals := fun z => off (List.mem_filterMap.mpr ⟨X.env, List.mem_cons_self, by rw [hf, z]⟩)
    have nF : a ∉ X.fs := fun hm => by
      obtain ⟨e, he, q⟩ := List.mem_filterMap.mp hm
      exact off (List.mem_filterMap.mpr ⟨e, List.mem_cons_of_mem _ he, q⟩)
    -- it is new to the state ahead of it
    have newI : ∀ {b : Addr} {o : Obj}, sI.heap.get? b = some o → b ∉ frs X.stack → b ≠ a := fun {b o} e nf z => by
      have q := nb b o e nf
      rw [z, fl3.2.1] at q
      cases q
    have n0 : X.s_0.heap.get? a = none := by
      cases q : X.s_0.heap.get? a with
      | none => rfl
      | some o =>
        by_cases hx : a ∈ X.ex
        · rw [hex] at hx
          cases hx
        · obtain ⟨o', e'⟩ := J.base.there a o q hx
          exact absurd rfl (newI e' (by rw [hs]; exact off))
    have nP : ∀ p ∈ X.pn ++ pins, p.1 ≠ a := fun p hp z => by
      have q := (J.pin p hp).1
      rw [z] at q
      exact newI q (by rw [hs]; exact off) rfl
    have S3 := J3.suite g3 d3 na nL nF
    refine wpAny_handleBy_cons (codeAny_handlers_test ?_) (by intro q; cases q)
    have LT : PySem.W.Looks (model X.prog X.w) h3 (typeOf (.ref a)) cls := fun A Q E s k q => wpAny_typeOf_ref (k _ _ g3) (by rw [z3.1]; exact q)
    have LM := PySem.W.exm_one (M := model X.prog X.w) J3.kIn LT hb1
    have named : ∀ {Q : Value → Shared → Prop} {E : Value → Shared → Prop}, Q c { s' with heap := h3 } → wpAny (model X.prog X.w) (X.A.mark (some (.ref a))) (eval (.Name x np) X.env) Q E { s' with heap := h3 } := fun {Q E} q => by
      obtain ⟨hg, hdbg, hm | ⟨hm, hv, hnn⟩⟩ := hc
      · exact ld_glob (X := X.suite a ((a, o3) :: (X.pn ++ pins))) S3 hg hm q hdbg
      · exact ld_blt (X := X.suite a ((a, o3) :: (X.pn ++ pins))) S3 hg hm hv q hnn hdbg
    refine named (LM.here ?_)
    cases b with
    | true =>
      refine codeAny_handlers_suite_as (HandSPX.lands_againZ fl3 fun h4 fl4 up4 => ?_)
      have J4 : Inv X pins σ' H' { s' with heap := h4 } := J.landed nb fl4.1 ((up.trans up3).trans up4) os ag
      obtain ⟨o4, f4, g4, z4, d4⟩ := fl4.there
      have S4 := J4.suite g4 d4 na nL nF
      have hiσ : i < σ'.length := by rw [J.len]; exact (List.getElem?_eq_some_iff.mp hi).1
      refine store_ok (X := X.suite a ((a, o4) :: (X.pn ++ pins))) (v := .ref a) S4 hN hi (.inl hln) rfl (fun s5 S5 => ?_) (.inr hln)
      have go := (hsu a ((a, o4) :: (X.pn ++ pins))).run [] s5 _ H' { nx := fun σ6 H6 => σ6 = (σ'.set i (some (.ref a))).set j (some (.ref a)) ∧ H6 = H', rt := fun _ _ => False, bk := fun _ _ => False, ct := fun _ _ => False } S5
        ⟨.ref a, by rw [List.getElem?_set_self hiσ], rfl, rfl⟩
      refine wpAny_mono go (fun fl s6 q => ?_) (fun _ _ z => False.elim z)
      cases fl with
      | next =>
        obtain ⟨σ6, H6, S6, e6, e7⟩ := q
        rw [e6, e7] at S6
        show wpAny (model X.prog X.w) X.A (do bindName X.env n .none; unbindBehindTheSuite X.env n pos') _ _ _
        refine gone_ok (X := X.suite a ((a, o4) :: (X.pn ++ pins))) S6 hN hi hln fun s7 S7 => ?_
        have g7 : s7.heap.get? a = some o4 := (S7.pin (a, o4) (List.mem_append_left _ List.mem_cons_self)).1
        have J7 : Inv X pins _ H' s7 := S7.unsuite ok
        rw [hcls] at z4
        refine ⟨_, _, track J7 (kxo_ok g7 z4 d4) na n0 nL (fun x0 c0 e z => ?_) nP, yes rfl a na⟩
        obtain ⟨v, hv⟩ := J7.cell x0 c0 e
        rw [z] at hv
        obtain ⟨oc, hoc, hdc⟩ := hv
        rw [g7] at hoc
        cases hoc
        rw [d4] at hdc
        cases hdc
      | brk => obtain ⟨_, _, _, z⟩ := q; exact False.elim z
      | cont => obtain ⟨_, _, _, z⟩ := q; exact False.elim z
      | ret u => obtain ⟨_, _, _, _, _, z⟩ := q; exact False.elim z
    | false =>
      show wpAny _ X.A (handleBy (.ref a) X.env []) _ _ _
      refine wpAny_handleBy_nil ?_
      obtain ⟨_, _, _, oe, vs, T, oT, ts', he, hz, hd, h1, hr⟩ := id fl3
      unfold PySem.passOn
      refine wpAny_bind (wpAny_field he hd h1 ?_)
      rw [if_neg (show ¬ ((Value.ref T == Value.none) = true) from by simp)]
      have away : wpAny (model X.prog X.w) X.A (setFlight (.ref a) X.env.frame) (fun _ s4 => wpAny (model X.prog X.w) X.A (throw (.ref a) : Sem Flow) (SP X pins D) X.xe s4) X.xe { s' with heap := h3 } := by
        rw [hf]
        refine HandSPX.setFlight_upZ fl3 fun h4 hh4 up4 => wpAny_throw (tk _ _ ⟨a, B, sI, pins, σ', H', cls, d, rfl, J, nb, (up.trans up3).trans up4, .inr (.inr (by rw [hs]; exact hh4)), na, os, ag, no rfl⟩)
      first
        | exact wpAny_bind (wpAny_pure (wpAny_bind away))
        | exact wpAny_bind away
  · cases fl with
    | next =>
      obtain ⟨σ', H', J', q⟩ := q
      exact wpAny_execs_nil ⟨σ', H', J'.ofTry ok, q⟩
    | brk =>
      obtain ⟨σ', H', J', q⟩ := q
      exact ⟨σ', H', J'.ofTry ok, q⟩
    | cont =>
      obtain ⟨σ', H', J', q⟩ := q
      exact ⟨σ', H', J'.ofTry ok, q⟩
    | ret u =>
      obtain ⟨v, σ', H', J', r, q⟩ := q
      exact ⟨v, σ', H', J'.ofTry ok, r, q⟩
end

/-! ### raise, and calls that may raise -/
/-- a reading that may be weakened -/
def tLax (te : TE) : TE := fun σ H Q => ∃ Q0 : VK, te σ H Q0 ∧ ∀ v H1, Q0 v H1 → Q v H1
theorem pe_lax {X : Cx} {e : Expr} {te : TE} (h : PE X e te) : PE X e (tLax te) :=
  ⟨fun pins s σ H Q I ⟨Q0, h0, im⟩ => wpAny_mono (h.run pins s σ H Q0 I h0) (fun u s' ⟨v, H1, J, r, q⟩ => ⟨v, H1, J, r, im v H1 q⟩) fun _ _ z => z⟩
/-- raise C(e) -/
def tRs (C : Addr) (f : Str) (te : TE) : L2.St → Hp → XK → Prop := fun σ H Q => te σ H fun y H1 => ∀ d H2, Same H1 H2 → H1 d = none → H2 d = some (.xd [(f, y)]) → Q (.ref C) (some d) H2
section
variable {X : Cx} {x f q : Str} {C : Addr} {e : Expr} {te : TE} {p pos : Pos}
theorem pmk_err (O : OwnE X.K X.mg x C f q) (hr : Room 2 X.A) (hg : Gl X x) (he : PE X e te) (hdb : (x == ("__debug__" : Str)) = false := by decide) (hs : starEach [e] X.env = (false, eval e X.env) :: starEach [] X.env := by rfl) :
    PMk X (.Call (.Name x p) [e] [] pos) (tRs C f te) := by
  obtain ⟨fI, fd, iC, tI, _, b1, _, ok⟩ := O.ex
  intro pins s σ H Q I h
  refine pmk_oex (ta := tCons (tLax te) tNil) (dvs := []) (ds := []) O.ox iC tI (ok X.prog X.w X.base) hr b1 .nil pass0 hg O.m (pa_cons (pe_lax he) pa_nil hs) hdb hs (by rfl) pins s σ H Q I ⟨_, h, fun y H1 hy => ?_⟩
  refine ⟨by simp, fun a na => ⟨a, y, rfl, upd_same, fun dx nd ne => ⟨rfl, dx, [(f, y)], upd_same, ?_, ?_, ?_⟩⟩⟩
  · rw [upd_ne ne, upd_same]
  · rw [upd_ne ne] at nd
    exact nd
  · rw [upd_ne ne] at nd
    refine hy dx _ (fun b o hb => ?_) nd upd_same
    have e1 : b ≠ a := fun z => by rw [z, na] at hb; cases hb
    have e2 : b ≠ dx := fun z => by rw [z, nd] at hb; cases hb
    rw [upd_ne e2, del_ne e1, upd_ne e1, upd_ne e2, upd_ne e1]
    exact hb
end
/-- f(e, ..), f may raise: W by the slots as they stand -/
def tCallX (sp : Sp) (dvs : List V) (W : WX) (t : TA) : TE := fun σ H Q => t σ H fun vs H1 => sp (vs ++ dvs) H1 Q fun cls d H2 => W cls d σ H2
section
variable {X : Cx} {k : Nat} {f : Addr} {fd : FuncData} {ps : List Str} {sp : Sp} {ds : List Value} {dvs : List V} {W : WX} {x : Str} {e : Expr} {es : List Expr} {t : TA} {p pos : Pos}
theorem run_fnX {pins : List (Addr × Obj)} {σ : L2.St} {H : Hp} {s : Shared} {Q : VK} {us : List Value} {vs : List V} (F : FnOk X.prog X.w X.K X.mg X.base (L2.CX X.prog X.w) k f fd ps sp) (tk : Takes X W) (hr : Room k X.A) (hb : Binds X.K fd ps ds) (hd : Vals dvs ds)
    (J : Inv X pins σ H s) (r : Vals vs us) (q : sp (vs ++ dvs) H Q fun cls d H2 => W cls d σ H2) : wpAny (model X.prog X.w) X.A (call (.ref f) us) (EP X pins σ Q) X.xe s := by
  have rr : Vals (vs ++ dvs) (us ++ ds) := r.append hd
  refine wpAny_call (codeAny_mono (F.run X.A X.stack s H ⟨us, []⟩ (us ++ ds) (vs ++ dvs) Q _ hr J.env0 (hb s us J.kIn (rr.length.symm.trans (F.len _ _ _ _ q))) rr q) fun res s' z => ?_)
  cases res with
  | error er => exact tk er s' (XE.of_call J (fun cls d H' w => w) z)
  | ok fl =>
    cases fl with
    | ret u => exact J.after z
    | next => exact False.elim z
    | brk => exact False.elim z
    | cont => exact False.elim z
theorem pe_callX (F : FnOk X.prog X.w X.K X.mg X.base (L2.CX X.prog X.w) k f fd ps sp) (tk : Takes X W) (hr : Room k X.A) (hg : Gl X x) (hm : X.mg x = some (.ref f)) (hk : PySem.W.keepIn X.K (.ref f) = true) (hb : Binds X.K fd ps ds) (hd : Vals dvs ds)
    (ha : PA X (e :: es) t) (hdb : (x == ("__debug__" : Str)) = false := by decide) (he : starEach (e :: es) X.env = (false, eval e X.env) :: starEach es X.env := by rfl) (hpl : (backTo pos (starEach es X.env)).any (·.1) = false := by rfl) :
    PE X (.Call (.Name x p) (e :: es) [] pos) (tCallX sp dvs W t) :=
  ⟨fun pins s σ H Q I h => wpAny_Call_Name_kw (ld_glob I hg hm (PySem.W.callWith_K (h₀ := X.base) I.ok.mod.kin hk (thn (ha.run pos pins s σ H _ I h) fun us s1 ⟨vs, H1, J, r, q⟩ => ⟨J.kIn, run_fnX F tk hr hb hd J r q⟩) he hpl) hdb)⟩
end

open TR in
/-- repr(x) of plain data of any kind -/
def rReprV : List V → Hp → VK → Prop := fun xs H Q => ∃ (x : V) (d : PyData) (c : Bool), xs = [x] ∧ DV H c x d ∧ (d.hasDict = true → c = true) ∧ d.showable = true ∧ d.depth ≤ 60 ∧ d.shown.length ≤ sizeLine ∧ Q (.str d.shown) H
open TR in
theorem cr_reprV {X : Cx} (hg : X.A.guards = some []) (hu : X.A.units + 64 < cLine) : CallR X (.builtin "repr") rReprV := by
  intro pins s σ H xs us Q I r h
  obtain ⟨x, d, c, rfl, hd, hc, hs, hp, hz, q⟩ := h
  have asRef : ∀ a, x = .ref a → wpAny (model X.prog X.w) X.A (call (.builtin "repr") us) (EP X pins σ Q) X.xe s := fun a e => by
    subst e
    exact cr_repr hg hu pins s σ H _ us Q I r ⟨a, d, c, rfl, hd, hc, hs, hp, hz, q⟩
  cases hd with
  | non =>
    obtain ⟨u, rfl, ru⟩ := r.one
    cases (show u = Value.none from ru)
    simp only [PyData.shown] at q
    exact PySem.P.repr_of_none ⟨.str "None", H, I.tok _, ⟨_, rfl⟩, q⟩
  | bl b =>
    obtain ⟨u, rfl, ru⟩ := r.one
    cases (show u = Value.bool b from ru)
    simp only [PyData.shown] at q
    exact PySem.P.repr_of_bool ⟨.str (if b then "True" else "False"), H, I.tok _, ⟨_, rfl⟩, q⟩
  | int i =>
    obtain ⟨u, rfl, ru⟩ := r.one
    obtain ⟨t, rfl⟩ := (show ∃ t, u = Value.int i t from ru)
    simp only [PyData.shown] at q
    exact PySem.P.repr_of_int (by simpa only [PyData.showable, decide_eq_true_eq] using hs) ⟨.str (toString i), H, I.tok _, ⟨_, rfl⟩, q⟩
  | str z =>
    obtain ⟨u, rfl, ru⟩ := r.one
    obtain ⟨t, rfl⟩ := (show ∃ t, u = Value.str z t from ru)
    simp only [PyData.shown] at q hz
    exact PySem.P.repr_of_str ⟨.str (reprText z), H, I.tok _, ⟨_, rfl⟩, q⟩ hz
  | lst a b c => exact asRef _ rfl
  | tup a b => exact asRef _ rfl
  | dic a b => exact asRef _ rfl

/-- fs[i](e, ..): a function out of a list, it may raise -/
def tCallSX (P : Program) (w : World) (K : PySem.W.Frag) (mg : Str → Option Value) (base : Heap) (A : Around) (W : WX) (tf : TE) (t : TA) : TE := fun σ H Q => tf σ H fun x H1 => ∃ (f : Addr) (fd : FuncData) (ps : List Str) (sp : Sp) (k : Nat), x = .ref f ∧ FnOk P w K mg base (L2.CX P w) k f fd ps sp ∧ Room k A ∧ PySem.W.keepIn K (.ref f) = true ∧ Binds K fd ps [] ∧
  t σ H1 fun vs H2 => sp vs H2 Q fun cls d H3 => W cls d σ H3
theorem pe_callSX {X : Cx} {W : WX} {a i : Expr} {e : Expr} {es : List Expr} {tf : TE} {t : TA} {p pos : Pos} (tk : Takes X W) (hf : PE X (.Subscript a i p) tf) (ha : PA X (e :: es) t)
    (hc : eval (.Call (.Subscript a i p) (e :: es) [] pos) X.env = (do let f ← eval (.Subscript a i p) X.env; callWith pos f [] (backTo pos (starEach (e :: es) X.env)) (backToKw pos (keywordEach [] X.env))) := by rfl)
    (he : starEach (e :: es) X.env = (false, eval e X.env) :: starEach es X.env := by rfl) (hpl : (backTo pos (starEach es X.env)).any (·.1) = false := by rfl) :
    PE X (.Call (.Subscript a i p) (e :: es) [] pos) (tCallSX X.prog X.w X.K X.mg X.base X.A W tf t) := by
  refine ⟨fun pins s σ H Q I h => ?_⟩
  rw [hc]
  refine wpAny_bind (thn (hf.run pins s σ H _ I h) fun u s1 ⟨x, H1, J, rx, f, fd, ps, sp, k, ex, F, hr, hk, hb, q⟩ => ?_)
  subst ex
  cases (show u = Value.ref f from rx)
  exact PySem.W.callWith_K (h₀ := X.base) J.ok.mod.kin hk (thn (ha.run pos pins s1 σ H1 _ J q) fun us s2 ⟨vs, H2, J2, r, q2⟩ => ⟨J2.kIn, run_fnX (dvs := []) (ds := []) F tk hr hb .nil J2 r (by rw [List.append_nil]; exact q2)⟩) he hpl
end TQ

set_option Elab.async false
set_option linter.all false
set_option maxRecDepth 100000
set_option maxHeartbeats 4000000
/-! TV: texts with a sign struck out, behind a list of a written text; nested data beside an empty tuple. -/
namespace TV
open PySem PySem.Spec PyProof.Rows L2 TX CwR
section
variable {X : Cx} {rest : List Stmt} {u : TS}
/-- a list of one written text is stored under a name: behind it a token is out -/
theorem pss_lstT {i j : Nat} {x c : Str} {cpos lpos pos' pos : Pos} (hN : X.N.Nodup) (hi : X.N[i]? = some x) (hx : Loc X.env.scope x) (h2 : PSsT X rest u)
    (hs : swapsWith (.List [.Constant (.str c) j cpos] lpos) (some (.Name x pos')) pos.line X.env = pure false := by rfl) (hf : X.fn x = true ∨ X.env.scope.names.lookup x = some .local := by first | exact .inl rfl | exact .inr rfl | assumption) :
    PSs X (.Assign [.Name x pos'] (.List [.Constant (.str c) j cpos] lpos) pos :: rest) (tSeq (tAsg (tLst (tCons (tC (.str c)) tNil)) (gName i)) u) := by
  refine ⟨fun pins s σ H D I h => ?_⟩
  refine wpAny_execs_cons (wpAny_Assign_Name (wpAny_List_spliced ?_) hs)
  show wpAny _ _ (spliced ((false, eval (.Constant (.str c) j cpos) X.env) :: backTo lpos (starEach [] X.env))) _ _ s
  refine Calls.spliced_cons (Calls.Constant_str (Calls.spliced_nil ?_))
  have h1 : (1 : Nat) ≤ sizeLine := by decide
  refine ⟨h1, ?_⟩
  have hfr : H s.heap.objs.size = none := I.hok.fresh (Nat.le_refl _)
  have I1 : Inv X pins σ (upd H s.heap.objs.size (.lst [.str c])) _ := I.laid (t' := s.toks + 1) (fun b u e => Heap.get?_push_of_some _ e) (Nat.le_refl _) ⟨h1, [.str c s.toks], 0, .cons ⟨_, rfl⟩ .nil, Heap.get?_push_size _ rfl⟩
  refine wpAny_mono (PySem.wpAny_toks (store_ok (v := V.ref s.heap.objs.size) (u := Value.ref s.heap.objs.size) (Q := fun _ s2 => Inv X pins (σ.set i (some (V.ref s.heap.objs.size))) (upd H s.heap.objs.size (.lst [.str c])) s2) I1 hN hi hx rfl (fun _ I2 => I2) hf)) (fun _ s2 q => ?_) fun _ _ z => z.2
  have hk : s.toks + 1 ≤ s2.toks := q.1
  exact h2 pins s2 _ _ D (by omega) q.2 (h.2 _ hfr)
theorem pit_str {tg e : Expr} {te : TE} (he : PET X e te) : PIT X tg e (iStr te) := by
  intro pins s σ H R h0 I h
  refine thn (he pins s σ H _ h0 I h) fun v s1 ⟨y, H1, I1, r1, x, ex, q⟩ => ?_
  subst ex
  obtain ⟨t, rfl⟩ := r1
  cases ha : x.cps.all (· < 128)
  · exact wpAny_pyIter_wide ha (pi_one (tk := s1.toks) I1 _ (turn_str _ x t "str_iterator" (.inr rfl)) ⟨_, Heap.get?_push_size _ rfl, rfl, rfl⟩ q)
  · exact wpAny_pyIter_ascii ha (pi_one (tk := s1.toks) I1 _ (turn_str _ x t "str_ascii_iterator" (.inl rfl)) ⟨_, Heap.get?_push_size _ rfl, rfl, rfl⟩ q)
end
section
variable {X : Cx}
/-- equality of data one of which is not deep -/
def rEqE (K : PySem.W.Frag) : R2 := fun x y H Q => ∃ d e, Dp K H x d ∧ Dp K H y e ∧ d.canLay0 = true ∧ e.canLay0 = true ∧ min d.depth e.depth ≤ 64 ∧ Q (.bl (PyData.eqv d e)) H
theorem op_eqE (hu : X.A.units + 64 < cLine) : OpR X (compareOp .Eq) (rEqE X.K) := by
  intro pins s σ H x y v u Q I rx ry h
  obtain ⟨d, e, hd, he, sd, se, hm, q⟩ := h
  obtain ⟨as, r1⟩ := Dp.reads I d x v hd rx
  obtain ⟨bs, r2⟩ := Dp.reads I e y u he ry
  exact PySem.SeqAt.compareEq_reads r1 r2 sd se (by omega) ⟨.bl _, H, I, rfl, q⟩
end
end TV

set_option Elab.async false
set_option linter.all false
set_option maxRecDepth 100000
set_option maxHeartbeats 4000000
/-! TU: a text from its end to its beginning. -/
namespace TU
open PySem PySem.Spec PyProof.Rows L2
def tRevS (te : TE) : TE := fun σ H Q => te σ H fun x H1 => ∃ z : Str, x = .str z ∧ z.length ≤ sizeLine ∧ Q (.str ⟨z.cps.toList.reverse.toArray⟩) H1
theorem rev_list (x : Str) (u : Tok) : ((Builtin.Str.strSliceIndices none none (-1) x.length).filterMap (x.cps[·]?)) = x.cps.toList.reverse := by
  rw [picked_rev, filterMap_get, List.map_map]
  · refine List.ext_getElem (by simp [Str.length]) fun i h1 h2 => ?_
    simp only [List.length_map, List.length_range] at h1
    have hx : x.length - 1 - i < x.cps.size := by show x.length - 1 - i < x.length; omega
    rw [List.getElem_map, List.getElem_range, List.getElem_reverse]
    show x.cps.getD (x.length - 1 - i) 0 = _
    rw [Array.getD_eq_getD_getElem?, Array.getElem?_eq_getElem hx]
    simp [Str.length]
  · intro i hi
    obtain ⟨k, hk, rfl⟩ := List.mem_map.mp hi
    have hk' : k < x.length := List.mem_range.mp hk
    show x.length - 1 - k < x.length
    omega
section
variable {X : Cx}
theorem pe_revS {e : Expr} {te : TE} {k : Nat} {p1 p2 p3 pos : Pos} (he : PE X e te) : PE X (.Subscript e (.Slice none none (some (.UnaryOp .USub (.Constant (.int 1) k p1) p2)) p3) pos) (tRevS te) := by
  refine ⟨fun pins s σ H Q I h => ?_⟩
  refine Subscript_ (thn (he.run pins s σ H _ I h) fun v s1 ⟨x, H1, I1, r1, q1⟩ => ?_)
  obtain ⟨z, ex, hz, q⟩ := q1
  subst ex
  obtain ⟨t, rfl⟩ := r1
  have hst : PO X (some (.UnaryOp .USub (.Constant (.int 1) k p1) p2)) (tPart (tUn (rU fun i => .int (-i)) (tC (.int 1)))) := po_some (pe_un un_neg pe_int)
  refine wpAny_Slice (thn (po_none.run pins s1 σ H1 (fun o H2 => o = none ∧ H2 = H1) I1 ⟨rfl, rfl⟩) fun vl s2 ⟨l, H2, I2, pl, el, e2⟩ => ?_)
  subst el e2
  refine thn (po_none.run pins s2 σ H2 (fun o H3 => o = none ∧ H3 = H2) I2 ⟨rfl, rfl⟩) fun vu s3 ⟨u, H3, I3, pu, eu, e3⟩ => ?_
  subst eu e3
  refine thn (hst.run pins s3 σ H3 (fun o H4 => o = some (-1) ∧ H4 = H3) I3 ⟨1, rfl, -1, rfl, rfl, rfl⟩) fun vs s4 ⟨o, H4, I4, ps, eo, e4⟩ => ?_
  subst eo e4
  have I5 : Inv X pins σ H4 { s4 with heap := s4.heap.push { cls := .type "slice", data := .fields #[vl, vu, vs] } } := I4.kept (t' := s4.toks) fun b ob q => Heap.get?_push_of_some _ q
  show wpAny (model X.prog X.w) X.A (subscriptTail e (.Slice none none (some (.UnaryOp .USub (.Constant (.int 1) k p1) p2)) p3) (.str z t) (.ref s4.heap.objs.size)) (EP X pins σ Q) X.xe { s4 with heap := s4.heap.push { cls := .type "slice", data := .fields #[vl, vu, vs] } }
  cases pl
  cases pu
  obtain ⟨tk, rfl⟩ : ∃ tk, vs = Value.int (-1) tk := by
    cases ps
    exact ⟨_, rfl⟩
  have hsl : ({ s4 with heap := s4.heap.push { cls := .type "slice", data := .fields #[_, _, _] } } : Shared).heap.IsSlice s4.heap.objs.size none none (some (-1, tk)) := ⟨_, Heap.get?_push_size _ rfl, rfl, rfl⟩
  refine tail_any (ops := [.str z t, .ref s4.heap.objs.size]) (typeIs_str _ _ _) (PySem.F.slot_str_getitem.lookup) ?_ (by with_unfolding_all rfl)
  refine wpAny_getItem_str_slice (l := none) (u := none) (st := some (-1, tk)) hsl rfl ?_
  have e9 : ((Builtin.Str.strSliceIndices none none (-1) z.length).filterMap (z.cps[·]?)) = z.cps.toList.reverse := rev_list z tk
  show Made.post (if ((-1 : Int) == 1 && (Builtin.Str.strSliceIndices none none (-1) z.length).length == z.length) = true then Made.val (.str z t)
    else Made.str ⟨((Builtin.Str.strSliceIndices none none (-1) z.length).filterMap (z.cps[·]?)).toArray⟩) (EP X pins σ Q) _
  rw [if_neg (by rw [show ((-1 : Int) == 1) = false from rfl]; simp), e9]
  exact ⟨by show (z.cps.toList.reverse.toArray).size ≤ _; simp only [List.size_toArray, List.length_reverse]; exact hz, .str _, H4, I5.tok _, ⟨_, rfl⟩, q⟩
/-- text * n -/
def rRep1 : R2 := fun x y H Q => ∃ (z : Str) (n : Nat), x = .str z ∧ y = .int (n : Nat) ∧ 2 ≤ n ∧ n ≤ 100000 ∧ 1 ≤ z.length ∧ z.length ≤ 100 ∧ Q (.str ⟨(List.replicate n z.cps.toList).flatten.toArray⟩) H
theorem fold_rep (a : Array Nat) : ∀ (k : Nat) (acc : Array Nat), (List.replicate k a).foldl (· ++ ·) acc = acc ++ (List.replicate k a.toList).flatten.toArray
  | 0, acc => by simp
  | k + 1, acc => by
    rw [List.replicate_succ, List.foldl_cons, fold_rep a k, List.replicate_succ, List.flatten_cons]
    apply Array.ext'
    simp
theorem op_rep_str : OpR X (binaryOp .Mult) rRep1 := by
  intro pins s σ H x y v u Q I rx ry h
  obtain ⟨z, n, rfl, rfl, h2, h3, h4, h5, q⟩ := h
  obtain ⟨t, rfl⟩ := rx
  obtain ⟨t', rfl⟩ := ry
  have hz : z.length * n ≤ 100 * 100000 := Nat.mul_le_mul h5 h3
  have e : (⟨(List.replicate n z.cps).foldl (· ++ ·) #[]⟩ : Str) = ⟨(List.replicate n z.cps.toList).flatten.toArray⟩ := by
    rw [fold_rep]
    simp
  have e1 : ((n : Int) == 1 || z.length == 0) = false := by
    have a1 : ((n : Int) == 1) = false := by simp; omega
    have a2 : (z.length == 0) = false := by simp; omega
    rw [a1, a2]
    rfl
  refine PySem.P.mul_str ?_ (fun _ _ => ?_) (fun _ _ => ?_) ?_
  · have a1 : ¬ ((n : Int) < -(2 ^ 63 : Int)) := by omega
    have a2 : ¬ ((n : Int) ≥ 2 ^ 63) := by omega
    rw [decide_eq_false a1, decide_eq_false a2]
    rfl
  · have : (100000 : Int) ≤ (2 ^ 63 - 1) / (n : Int) := by
      refine (Int.le_ediv_iff_mul_le (by omega)).mpr ?_
      omega
    omega
  · rw [Int.toNat_natCast]
    unfold PySem.Builtin.Str.tooLong
    simp
    have := sizeLine_eq
    omega
  · rw [if_neg (by omega), e1, if_neg Bool.false_ne_true, Int.toNat_natCast, e]
    refine ⟨?_, .str _, H, I.tok _, ⟨_, rfl⟩, q⟩
    show ((List.replicate n z.cps.toList).flatten.toArray).size ≤ _
    have hl : z.cps.toList.length = z.length := by simp [Str.length]
    have : (List.replicate n z.cps.toList).flatten.length = n * z.length := by
      rw [List.length_flatten, List.map_replicate, List.sum_replicate_nat, hl]
    rw [List.size_toArray, this, Nat.mul_comm, sizeLine_eq]
    omega
end
end TU

set_option Elab.async false
set_option linter.all false
set_option maxRecDepth 100000
set_option maxHeartbeats 4000000

/-! TY: defs that call themselves some hundred levels down. -/
namespace TY
open PySem PySem.Spec PyProof.Rows L2
open TR
/-- room for n calls straight down, and for k more as Room counts them -/
structure RoomD (n k : Nat) (A : Around) : Prop where
  hd : A.handled = none
  dp : A.depth + n + 3 * k + 5 < recursionLimit
  un : A.units + 3 * n + 16 * k + 200 < cLine
theorem RoomD.mono {j n i k : Nat} {A : Around} (r : RoomD n k A) (h : j ≤ n) (g : i ≤ k) : RoomD j i A := ⟨r.hd, by have := r.dp; omega, by have := r.un; omega⟩
theorem RoomD.deeper {n k : Nat} {A : Around} (r : RoomD (n + 1) k A) (env : Env) : RoomD n k (A.deeper env) :=
  ⟨r.hd, by have := r.dp; show A.depth + 1 + n + 3 * k + 5 < _; omega, by have := r.un; show A.units + 3 + 3 * n + 16 * k + 200 < _; omega⟩
theorem RoomD.room {n k : Nat} {A : Around} (r : RoomD n k A) : Room k A := ⟨r.hd, by have := r.dp; omega, by have := r.un; omega⟩
structure FnD (P : Program) (w : World) (K : PySem.W.Frag) (mg : Str → Option Value) (base : Heap) (CX : CXT) (n k : Nat) (f : Addr) (fd : FuncData) (ps : List Str) (sp : Sp) : Prop where
  len : ∀ vs H Q E, sp vs H Q E → vs.length = ps.length
  run : ∀ (A : Around) (outer : List Env) (s : Shared) (H : Hp) (args : Args) (us : List Value) (vs : List V) (Q : VK) (E : XK), RoomD n k A → Env0 P w K mg base A outer s H → BindsTo s fd args (ps.zip us) → Vals vs us → sp vs H Q E →
    codeAny (model P w) A (.call (.ref f) args) (CR CX outer P w H s Q E) s
section
variable {X : Cx} {CX : CXT} {n k : Nat} {f : Addr} {fd : FuncData} {ps : List Str} {sp : Sp} {ds : List Value} {dvs : List V} {E : XK} {x : Str} {e : Expr} {es : List Expr} {t : TA} {p pos : Pos}
theorem pe_callD (F : FnD X.prog X.w X.K X.mg X.base CX n k f fd ps sp) (hr : RoomD n k X.A) (hg : Gl X x) (hm : X.mg x = some (.ref f)) (hk : PySem.W.keepIn X.K (.ref f) = true) (hb : Binds X.K fd ps ds) (hd : Vals dvs ds) (hx : Passes CX X E)
    (ha : PA X (e :: es) t) (hdb : (x == ("__debug__" : Str)) = false := by decide) (he : starEach (e :: es) X.env = (false, eval e X.env) :: starEach es X.env := by rfl) (hpl : (backTo pos (starEach es X.env)).any (·.1) = false := by rfl) :
    PE X (.Call (.Name x p) (e :: es) [] pos) (tCall sp dvs E t) := by
  refine ⟨fun pins s σ H Q I h => wpAny_Call_Name_kw (ld_glob I hg hm ?_ hdb)⟩
  refine PySem.W.callWith_K (h₀ := X.base) I.ok.mod.kin hk (thn (ha.run pos pins s σ H _ I h) fun us s1 ⟨vs, H1, J, r, q⟩ => ⟨J.kIn, ?_⟩) he hpl
  have rr : Vals (vs ++ dvs) (us ++ ds) := r.append hd
  have bound := hb s1 us J.kIn (rr.length.symm.trans (F.len _ _ _ _ q))
  refine wpAny_call (codeAny_mono (F.run X.A X.stack s1 H1 ⟨us, []⟩ (us ++ ds) (vs ++ dvs) Q E hr J.env0 bound rr q) fun res s' z => ?_)
  cases res with
  | error er => exact hx pins σ H1 s1 er s' J z
  | ok fl =>
    cases fl with
    | ret u => exact J.after z
    | next => exact False.elim z
    | brk => exact False.elim z
    | cont => exact False.elim z
end
section
variable {P : Program} {w : World} {K : PySem.W.Frag} {mg : Str → Option Value} {base : Heap}
/-- a def by its body, no repr under way -/
theorem okD {x qual : Str} {st : Stmt} {f : Addr} {fd : FuncData} {N ps : List Str} {n k : Nat} {sp : Sp} (F : Fun K x qual st f fd) (S : FnScope N ps (defScope st)) (len : ∀ vs H Q E, sp vs H Q E → vs.length = ps.length)
    (hbody : ∀ (cdv : Value) (A : Around) (outer : List Env) (s : Shared) (H : Hp) (vs : List V) (Q : VK) (E : XK), RoomD n k (A.deeper (envOfC qual (defScope st) s.heap.objs.size f cdv)) → sp vs H Q E →
      ∃ t, PSs (cxOf CX0 P w K mg base N qual (defScope st) f cdv A outer s H E).nox (defBody st) t ∧ t { nx := fun _ H' => Q .non H', rt := Q } (start N vs) H) : FnD P w K mg base CX0 (n + 1) k f fd ps sp := by
  obtain ⟨oc, od, kV, doc, pm, an, cdv, ct, osl, rfl, lk, hcd⟩ := F.ex
  refine ⟨len, fun A outer s H args us vs Q E room e0 bound r pre => ?_⟩
  have many := len _ _ _ _ pre
  have KX : K.In s.heap := e0.mod.kin.keeps fun b o z => (e0.bs b o z).1
  have lim : s.heap.NoLimit := e0.mod.nolimit.keeps fun b o z => (e0.bs b o z).1
  have kinds : ∀ y ∈ ps.zip us, (defScope st).names.lookup y.1 = some .local ∨ ((defScope st).names.lookup y.1 = some .cell ∧ ((cellsFrom (s.heap.objs.size + 1) (defScope st).names []).lookup y.1).isSome = true) := fun y hy => by
    have mem : y.1 ∈ ps := (List.of_mem_zip (show (y.1, y.2) ∈ ps.zip us from hy)).1
    rcases S.par y.1 mem with z | z
    · exact .inl z
    · exact .inr ⟨z, PySem.W.cellsFrom_some _ _ _ (.inl z)⟩
  refine codeAny_call_function room.room.depth (KX _ _ lk) rfl S.co S.gen rfl (PySem.W.codeRec_of KX hcd) (bound _ _ _ _ ?_)
  refine wpAny_newFunctionEnv_cells S.kind kinds fun env henv s1 inside => ?_
  subst henv
  refine ⟨lim.keeps inside.toInCall.keep, codeAny_func ?_⟩
  obtain ⟨t, ht0, go⟩ := hbody cdv A outer s H vs Q E (room.deeper _) pre
  have ht := ht0.nox
  have I : Inv (cxOf CX0 P w K mg base N qual (defScope st) f cdv A outer s H E) [] (start N vs) H s1 := inv_start S room.hd e0 many r inside
  refine wpAny_mono (ht.run [] s1 (start N vs) H _ I go) (fun fl s' z => ?_) fun _ _ z => z
  have back : ∀ {σ' : L2.St} {H' : Hp} {v : V} {u : Value}, Inv (cxOf CX0 P w K mg base N qual (defScope st) f cdv A outer s H E) [] σ' H' s' → RelV v u → Q v H' → CE outer P w H s Q u s' := fun {σ' H' v u} J rv q => ⟨v, H', J.os, J.bare, J.base, J.hok, rv, q⟩
  cases fl with
  | ret u =>
    obtain ⟨v, σ', H', J, rv, q⟩ := z
    exact back J rv q
  | next =>
    obtain ⟨σ', H', J, q⟩ := z
    exact back (v := V.non) (u := Value.none) J rfl q
  | brk => exact False.elim z.choose_spec.choose_spec.2
  | cont => exact False.elim z.choose_spec.choose_spec.2
end

structure FnDG (P : Program) (w : World) (K : PySem.W.Frag) (mg : Str → Option Value) (base : Heap) (CX : CXT) (n k : Nat) (f : Addr) (fd : FuncData) (ps : List Str) (sp : Sp) : Prop where
  len : ∀ vs H Q E, sp vs H Q E → vs.length = ps.length
  run : ∀ (A : Around), A.guards = some [] → ∀ (outer : List Env) (s : Shared) (H : Hp) (args : Args) (us : List Value) (vs : List V) (Q : VK) (E : XK), RoomD n k A → Env0 P w K mg base A outer s H → BindsTo s fd args (ps.zip us) → Vals vs us → sp vs H Q E →
    codeAny (model P w) A (.call (.ref f) args) (CR CX outer P w H s Q E) s
section
variable {X : Cx} {CX : CXT} {n k : Nat} {f : Addr} {fd : FuncData} {ps : List Str} {sp : Sp} {ds : List Value} {dvs : List V} {E : XK} {x : Str} {e : Expr} {es : List Expr} {t : TA} {p pos : Pos}
theorem pe_callDG (F : FnDG X.prog X.w X.K X.mg X.base CX n k f fd ps sp) (hG : X.A.guards = some []) (hr : RoomD n k X.A) (hg : Gl X x) (hm : X.mg x = some (.ref f)) (hk : PySem.W.keepIn X.K (.ref f) = true) (hb : Binds X.K fd ps ds) (hd : Vals dvs ds) (hx : Passes CX X E)
    (ha : PA X (e :: es) t) (hdb : (x == ("__debug__" : Str)) = false := by decide) (he : starEach (e :: es) X.env = (false, eval e X.env) :: starEach es X.env := by rfl) (hpl : (backTo pos (starEach es X.env)).any (·.1) = false := by rfl) :
    PE X (.Call (.Name x p) (e :: es) [] pos) (tCall sp dvs E t) := by
  refine ⟨fun pins s σ H Q I h => wpAny_Call_Name_kw (ld_glob I hg hm ?_ hdb)⟩
  refine PySem.W.callWith_K (h₀ := X.base) I.ok.mod.kin hk (thn (ha.run pos pins s σ H _ I h) fun us s1 ⟨vs, H1, J, r, q⟩ => ⟨J.kIn, ?_⟩) he hpl
  have rr : Vals (vs ++ dvs) (us ++ ds) := r.append hd
  have bound := hb s1 us J.kIn (rr.length.symm.trans (F.len _ _ _ _ q))
  refine wpAny_call (codeAny_mono (F.run X.A hG X.stack s1 H1 ⟨us, []⟩ (us ++ ds) (vs ++ dvs) Q E hr J.env0 bound rr q) fun res s' z => ?_)
  cases res with
  | error er => exact hx pins σ H1 s1 er s' J z
  | ok fl =>
    cases fl with
    | ret u => exact J.after z
    | next => exact False.elim z
    | brk => exact False.elim z
    | cont => exact False.elim z
end
section
variable {P : Program} {w : World} {K : PySem.W.Frag} {mg : Str → Option Value} {base : Heap}
/-- a def by its body, no repr under way -/
theorem okDG {x qual : Str} {st : Stmt} {f : Addr} {fd : FuncData} {N ps : List Str} {n k : Nat} {sp : Sp} (F : Fun K x qual st f fd) (S : FnScope N ps (defScope st)) (len : ∀ vs H Q E, sp vs H Q E → vs.length = ps.length)
    (hbody : ∀ (cdv : Value) (A : Around) (outer : List Env) (s : Shared) (H : Hp) (vs : List V) (Q : VK) (E : XK), (A.deeper (envOfC qual (defScope st) s.heap.objs.size f cdv)).guards = some [] → RoomD n k (A.deeper (envOfC qual (defScope st) s.heap.objs.size f cdv)) → sp vs H Q E →
      ∃ t, PSs (cxOf CX0 P w K mg base N qual (defScope st) f cdv A outer s H E).nox (defBody st) t ∧ t { nx := fun _ H' => Q .non H', rt := Q } (start N vs) H) : FnDG P w K mg base CX0 (n + 1) k f fd ps sp := by
  obtain ⟨oc, od, kV, doc, pm, an, cdv, ct, osl, rfl, lk, hcd⟩ := F.ex
  refine ⟨len, fun A hG outer s H args us vs Q E room e0 bound r pre => ?_⟩
  have many := len _ _ _ _ pre
  have KX : K.In s.heap := e0.mod.kin.keeps fun b o z => (e0.bs b o z).1
  have lim : s.heap.NoLimit := e0.mod.nolimit.keeps fun b o z => (e0.bs b o z).1
  have kinds : ∀ y ∈ ps.zip us, (defScope st).names.lookup y.1 = some .local ∨ ((defScope st).names.lookup y.1 = some .cell ∧ ((cellsFrom (s.heap.objs.size + 1) (defScope st).names []).lookup y.1).isSome = true) := fun y hy => by
    have mem : y.1 ∈ ps := (List.of_mem_zip (show (y.1, y.2) ∈ ps.zip us from hy)).1
    rcases S.par y.1 mem with z | z
    · exact .inl z
    · exact .inr ⟨z, PySem.W.cellsFrom_some _ _ _ (.inl z)⟩
  refine codeAny_call_function room.room.depth (KX _ _ lk) rfl S.co S.gen rfl (PySem.W.codeRec_of KX hcd) (bound _ _ _ _ ?_)
  refine wpAny_newFunctionEnv_cells S.kind kinds fun env henv s1 inside => ?_
  subst henv
  refine ⟨lim.keeps inside.toInCall.keep, codeAny_func ?_⟩
  obtain ⟨t, ht0, go⟩ := hbody cdv A outer s H vs Q E hG (room.deeper _) pre
  have ht := ht0.nox
  have I : Inv (cxOf CX0 P w K mg base N qual (defScope st) f cdv A outer s H E) [] (start N vs) H s1 := inv_start S room.hd e0 many r inside
  refine wpAny_mono (ht.run [] s1 (start N vs) H _ I go) (fun fl s' z => ?_) fun _ _ z => z
  have back : ∀ {σ' : L2.St} {H' : Hp} {v : V} {u : Value}, Inv (cxOf CX0 P w K mg base N qual (defScope st) f cdv A outer s H E) [] σ' H' s' → RelV v u → Q v H' → CE outer P w H s Q u s' := fun {σ' H' v u} J rv q => ⟨v, H', J.os, J.bare, J.base, J.hok, rv, q⟩
  cases fl with
  | ret u =>
    obtain ⟨v, σ', H', J, rv, q⟩ := z
    exact back J rv q
  | next =>
    obtain ⟨σ', H', J, q⟩ := z
    exact back (v := V.non) (u := Value.none) J rfl q
  | brk => exact False.elim z.choose_spec.choose_spec.2
  | cont => exact False.elim z.choose_spec.choose_spec.2
end

/-! ### the law's own def -/
section
variable {P : Program} {w : World} {K : PySem.W.Frag} {mg mb : Str → Option Value} {CX : CXT} {m k : Nat} {fa a : Addr} {fd : FuncData} {x : Str} {sp : Sp} {t : Shared} {us : List Value} {ns : List Int}
/-- what the call leaves -/
abbrev FineD (t : Shared) : Result → Shared → Prop := fun r t' => r = .ok (.ret (.bool true)) ∧ OldK t.heap t'.heap ∧ t'.os = t.os ∧ AllBare t'.gens
theorem lawHD (inK : K.In t.heap) (nsM : t.heap.Ns mainGlobals mg) (nsB : t.heap.Ns builtinsNs mb) (bb : ∀ y : Str, y ≠ "__name__" → mb y = bootBuiltins y) (nl : t.heap.NoLimit) (ng : t.gens = #[])
    (at_a : t.heap.get? a = some { cls := .type "list", data := .seq us.toArray }) (room : RoomD m k callerA) (F : ∀ base : Heap, K.In base → base.Ns mainGlobals mg → FnDG P w K mg base CX m k fa fd [x] sp)
    (bind1 : ∀ (s : Shared) (u : Value), BindsTo s fd ⟨[u], []⟩ [(x, u)]) (noX : ∀ H e s', CX [] H t (fun _ _ _ => False) e s' → False)
    {H : Hp} (only : Only H) (pre : sp [.ref a] H (fun v _ => v = .bl true) fun _ _ _ => False) (hok : HOk P w H t.heap) (onA : ∀ b, H b ≠ none → b = a) (offK : H a ≠ none → K.lookup a = none) :
    codeAny (model P w) callerA (.call (.ref fa) ⟨[.ref a], []⟩) (FineD t) t := by
  have sees : ∀ {b : Addr} {o : Obj}, t.heap.get? b = some o → H b = none → (hidT t.heap H).get? b = some o := fun z n => hidT_get z n
  have untr : ∀ {b : Addr}, b ≠ a → H b = none := fun {b} nb => by
    cases q : H b with
    | none => rfl
    | some u => exact absurd (onA b (by rw [q]; simp)) nb
  have dictNs : ∀ {b : Addr} {m : Str → Option Value}, t.heap.Ns b m → (hidT t.heap H).Ns b m := fun {b m} ⟨o, es, ep, g, d, r⟩ => by
    refine ⟨o, es, ep, sees g (untr fun z => ?_), d, r⟩
    subst z
    rw [at_a] at g
    cases g
    exact nomatch (show Data.seq us.toArray _ = Data.dict es ep from d)
  have inB : K.In (hidT t.heap H) := fun b o z => by
    refine sees (inK b o z) ?_
    cases q : H b with
    | none => rfl
    | some u =>
      have nn : H b ≠ none := by rw [q]; simp
      have eb := onA b nn
      subst eb
      rw [offK nn] at z
      cases z
  obtain ⟨mc, l1, l2⟩ := nl
  have md : Mod K mg (hidT t.heap H) := ⟨inB, dictNs nsM, ⟨mb, dictNs nsB, bb⟩, ⟨mc, dictNs l1, l2⟩⟩
  have e0 : Env0 P w K mg (hidT t.heap H) callerA [] t H := ⟨rfl, md, fun b o z => of_hidT z, Nat.le_of_eq (hidT_size _ _), trivial, fun b z => (by cases z), hok, .of_eq ng⟩
  refine codeAny_mono ((F _ inB (dictNs nsM)).run callerA rfl [] t H ⟨[.ref a], []⟩ [.ref a] [.ref a] _ _ room e0 (bind1 t (.ref a)) (.cons rfl .nil) pre) fun r t' z => ?_
  cases r with
  | error e => exact (noX H e t' z).elim
  | ok fl =>
    cases fl with
    | next => exact False.elim z
    | brk => exact False.elim z
    | cont => exact False.elim z
    | ret u =>
      obtain ⟨v, H', os, bare, un, hok', rv, ev⟩ := z
      cases (show v = .bl true from ev)
      cases (show u = Value.bool true from rv)
      refine ⟨rfl, OldK.of_keep fun b o g => ?_, os, bare⟩
      rcases only b with n | ⟨ob, xs, z⟩
      · exact un.keep b o g n (fun q => by cases q) (fun q => by cases q)
      · have g1 := (hok b _ z).1
        have g2 := (hok' b _ (un.frzs b ob _ z)).1
        rw [g] at g1
        cases g1
        exact g2
theorem lawGD (inK : K.In t.heap) (nsM : t.heap.Ns mainGlobals mg) (nsB : t.heap.Ns builtinsNs mb) (bb : ∀ y : Str, y ≠ "__name__" → mb y = bootBuiltins y) (nl : t.heap.NoLimit) (ng : t.gens = #[])
    (at_a : t.heap.get? a = some { cls := .type "list", data := .seq us.toArray }) (areInts : IntsAre us ns) (hz : ns.length ≤ sizeLine) (room : RoomD m k callerA) (F : ∀ base : Heap, K.In base → base.Ns mainGlobals mg → FnDG P w K mg base CX m k fa fd [x] sp)
    (bind1 : ∀ (s : Shared) (u : Value), BindsTo s fd ⟨[u], []⟩ [(x, u)]) (noX : ∀ H e s', CX [] H t (fun _ _ _ => False) e s' → False)
    (pre : ∀ H : Hp, Only H → SqL K H a (ns.map V.int) → sp [.ref a] H (fun v _ => v = .bl true) fun _ _ _ => False) : codeAny (model P w) callerA (.call (.ref fa) ⟨[.ref a], []⟩) (FineD t) t := by
  have rv := vals_ints areInts
  have many := areInts.length
  cases own : K.lookup a with
  | some o =>
    have g := inK a o own
    rw [at_a] at g
    cases g
    have none0 : Only fun _ => none := fun _ => .inl rfl
    exact lawHD inK nsM nsB bb nl ng at_a room F bind1 noX none0 (pre _ none0 (.inr ⟨_, us.toArray, _, own, rfl, rfl, rfl, by rw [List.size_toArray, many]; exact hz, by simpa using rv⟩)) (fun b u z => nomatch (show (none : Option HO) = some u from z)) (fun b z => absurd rfl z) fun z => absurd rfl z
  | none =>
    let H1 : Hp := fun b => if b = a then some (.frz { cls := .type "list", data := .seq us.toArray } (.lst (ns.map V.int))) else none
    have yes : H1 a = some (.frz { cls := .type "list", data := .seq us.toArray } (.lst (ns.map V.int))) := if_pos rfl
    have no : ∀ {b : Addr}, b ≠ a → H1 b = none := fun nb => if_neg nb
    have one : Only H1 := fun b => by
      by_cases e : b = a
      · exact .inr ⟨_, _, by rw [e]; exact yes⟩
      · exact .inl (no e)
    refine lawHD inK nsM nsB bb nl ng at_a room F bind1 noX one (pre _ one (.inl (.inr ⟨_, yes⟩))) (fun b u z => ?_) (fun b z => ?_) fun _ => own
    · by_cases e : b = a
      · subst e
        rw [yes] at z
        cases z
        exact ⟨at_a, by rw [List.length_map]; exact hz, us, _, rv, at_a⟩
      · rw [no e] at z
        cases z
    · exact Decidable.byContradiction fun e => z (no e)
end
theorem walkGD {l : PySem.W.OpenLaw} {n m k : Nat} {q : Program} {loose : List Str} {XP : (Str → Option Value) → Heap → Prop} {YP : World → Heap → Prop} {d : DefRec} {K : Params → PySem.W.Frag} {sp : World → Sp} {x : Str}
    (hn : l.most = some n) (hz : n ≤ sizeLine) (hdf : d.params.defaults = []) (room : RoomD m k callerA) (hY : ∀ (w : World) (h : Heap), YP w h → (K w.params).In h)
    (F : ∀ (w : World) (mg : Str → Option Value) (fa : Addr) (h : Heap), (K w.params).In h → h.Ns mainGlobals mg → mg d.name = some (.ref fa) →
      ∃ fd : FuncData, (∀ (s : Shared) (u : Value), BindsTo s fd ⟨[u], []⟩ [(x, u)]) ∧ ∀ base : Heap, (K w.params).In base → base.Ns mainGlobals mg → FnDG l.prog w (K w.params) mg base CX0 m k fa fd [x] (sp w))
    (pre : ∀ (w : World) (H : Hp) (a : Addr) (ns : List Int), ns.length ≤ n → Only H → SqL (K w.params) H a (ns.map V.int) → sp w [.ref a] H (fun v _ => v = .bl true) fun _ _ _ => False) :
    PySem.W.WalkO q loose XP YP l.row.toRowW d [] (fun f vs => PySem.call f vs) := by
  refine Att.attach_call hn hdf fun w t0 t mg mb fa o pm cd doc a us ns G Y ho hd hcd hmg at_a areInts many ng => ?_
  obtain ⟨fd, hb, hF⟩ := F w mg fa _ (hY w _ Y) G.T.g hmg
  exact lawGD (hY w _ Y) G.T.g G.T.b G.T.builtins G.T.nolimit ng at_a areInts (Nat.le_trans many hz) room hF hb (fun _ _ _ z => z) fun H h1 h2 => pre w H a ns many h1 h2
end TY

set_option Elab.async false
set_option linter.all false
set_option maxRecDepth 100000
set_option maxHeartbeats 4000000
/-! TZ: two lists of the same plain values. -/
namespace TZ
open PySem PySem.Spec PyProof.Rows L2
theorem valsAt : ∀ {xs : List V} {us ws : List Value}, Vals xs us → Vals xs ws → (∀ z ∈ xs, flatB z = true) → ∀ (A : Around) (s : Shared) (j : Nat) (h1 : j < us.length) (h2 : j < ws.length), SeqAt.EqAt A s us[j] ws[j] true
  | _, _, _, .nil, .nil, _, _, _, j, h1, _ => absurd h1 (Nat.not_lt_zero j)
  | _, _, _, .cons r1 t1, .cons r2 t2, hf, A, s, 0, _, _ => eqAt_same r1 r2 (hf _ (List.mem_cons_self ..))
  | _, _, _, .cons r1 t1, .cons r2 t2, hf, A, s, j + 1, h1, h2 => valsAt t1 t2 (fun z hz => hf z (List.mem_cons_of_mem _ hz)) A s j (by simpa using h1) (by simpa using h2)
section
variable {X : Cx}
def rNeV (K : PySem.W.Frag) : R2 := fun x y H Q => ∃ a b xs, x = .ref a ∧ y = .ref b ∧ SqL K H a xs ∧ SqL K H b xs ∧ (∀ z ∈ xs, flatB z = true) ∧ Q (.bl false) H
theorem op_neV (hu : X.A.units + 64 < cLine) : OpR X (compareOp .NotEq) (rNeV X.K) := by
  intro pins s σ H x y v u Q I rx ry h
  obtain ⟨a, b, xs, rfl, rfl, ha, hb, hf, q⟩ := h
  cases (show v = Value.ref a from rx)
  cases (show u = Value.ref b from ry)
  obtain ⟨us, r1, p1, _⟩ := I.list ha
  obtain ⟨ws, r2, p2, _⟩ := I.list hb
  have hsz : us.toArray.size = ws.toArray.size := by
    rw [List.size_toArray, List.size_toArray, ← r1.length, ← r2.length]
  have he : ∀ j (h1 : j < us.toArray.size) (h2 : j < ws.toArray.size), SeqAt.EqAt X.A.in1 s us.toArray[j] ws.toArray[j] ((fun _ => true) j) := fun j h1 h2 => by
    have k := valsAt r1 r2 hf X.A.in1 s j (by simpa using h1) (by simpa using h2)
    simpa using k
  refine SeqAt.RcNeAt.lists (e := fun _ => true) p1.isList p2.isList hsz (by omega) he _ _ _ _ ?_
  rw [show (!(List.range us.toArray.size).all fun _ => true) = false from by rw [show ((List.range us.toArray.size).all fun _ => true) = true from List.all_eq_true.mpr fun _ _ => rfl]; rfl]
  exact ⟨.bl false, H, I, rfl, q⟩
end
end TZ

set_option Elab.async false
set_option linter.all false
set_option maxRecDepth 100000
set_option maxHeartbeats 4000000
/-! TD: dicts of the module from texts to texts; text * 0 or 1. -/
namespace TD
open PySem PySem.Spec PyProof.Rows L2
/-- at d stands, for good, a dict from texts to texts -/
structure KD (K : PySem.W.Frag) (w : World) (d : Addr) (kvs : List (Str × Str)) : Prop where
  ex : ∃ es n, KDict K w d es n
  get : ∀ z, ∃ r, PySem.W.nsIn K d z = some r ∧ ((∃ y t, kvs.lookup z = some y ∧ r = some (.str y t)) ∨ (kvs.lookup z = none ∧ r = none))
def rInKD (d : Addr) (kvs : List (Str × Str)) : R2 := fun x y H Q => ∃ z, x = .str z ∧ y = .ref d ∧ Q (.bl (kvs.lookup z).isSome) H
def rNiKD (d : Addr) (kvs : List (Str × Str)) : R2 := fun x y H Q => ∃ z, x = .str z ∧ y = .ref d ∧ Q (.bl (!(kvs.lookup z).isSome)) H
def rIxKD (d : Addr) (kvs : List (Str × Str)) : R2 := fun x y H Q => ∃ z u, x = .ref d ∧ y = .str z ∧ kvs.lookup z = some u ∧ Q (.str u) H
section
variable {X : Cx} {d : Addr} {kvs : List (Str × Str)}
theorem op_inKD (D : KD X.K X.w d kvs) : OpR X (compareOp .In) (rInKD d kvs) := by
  obtain ⟨es, n, kd⟩ := D.ex
  intro pins s σ H x y v u Q I rx ry h
  obtain ⟨z, e1, e2, q⟩ := h
  obtain ⟨r, hr, hc⟩ := D.get z
  refine op_in_kd kd pins s σ H x y v u Q I rx ry ⟨z, r, e1, e2, hr, ?_⟩
  rcases hc with ⟨y, t, l, rfl⟩ | ⟨l, rfl⟩
  · rw [l] at q; exact q
  · rw [l] at q; exact q
theorem op_niKD (D : KD X.K X.w d kvs) : OpR X (compareOp .NotIn) (rNiKD d kvs) := by
  obtain ⟨es, n, kd⟩ := D.ex
  intro pins s σ H x y v u Q I rx ry h
  obtain ⟨z, e1, e2, q⟩ := h
  obtain ⟨r, hr, hc⟩ := D.get z
  refine op_notIn_kd kd pins s σ H x y v u Q I rx ry ⟨z, r, e1, e2, hr, ?_⟩
  rcases hc with ⟨y, t, l, rfl⟩ | ⟨l, rfl⟩
  · rw [l] at q; exact q
  · rw [l] at q; exact q
theorem ix_KD (D : KD X.K X.w d kvs) : IxR X (rIxKD d kvs) := by
  obtain ⟨es, n, kd⟩ := D.ex
  intro value slice pins s σ H x y v u Q I rx ry h hs
  obtain ⟨z, u0, e1, e2, l, q⟩ := h
  obtain ⟨r, hr, hc⟩ := D.get z
  rcases hc with ⟨y', t, l', rfl⟩ | ⟨l', rfl⟩
  · rw [l] at l'
    cases l'
    exact ix_kdict value slice pins s σ H x y v u Q I rx ry ⟨d, z, .str u0, e1, e2, ⟨es, n, _, kd.at_, kd.lit, hr, t, rfl⟩, q⟩ hs
  · rw [l] at l'; cases l'
end
/-- how such a dict is found among what the top leaves -/
theorem kd_mk2 {K : PySem.W.Frag} {w : World} {d : Addr} {n : Nat} {h1 h2 : Int} {a b c e : Str} {t1 t2 t3 t4 : Tok} (l : K.lookup d = some ⟨.type "dict", none, .dict #[⟨h1, .str a t1, .str b t2⟩, ⟨h2, .str c t3, .str e t4⟩] n, #[]⟩)
    (e1 : h1 = PyData.keyHash w.params a) (e2 : h2 = PyData.keyHash w.params c) (low : (d == sysModules) = false) : KD K w d [(a, b), (c, e)] := by
  refine ⟨⟨_, _, l, ⟨⟨a, t1, rfl, e1⟩, ⟨c, t3, rfl, e2⟩, trivial⟩, low⟩, fun z => ?_⟩
  unfold PySem.W.nsIn
  rw [l]
  simp only [List.find?, Value.isStr]
  by_cases ha : a = z
  · subst ha
    refine ⟨_, by simp, .inl ⟨b, t2, ?_, rfl⟩⟩
    simp [List.lookup]
  · have ha' : (a == z) = false := by simpa using ha
    have ha2 : (z == a) = false := by simpa using fun q : z = a => ha q.symm
    by_cases hc : c = z
    · subst hc
      refine ⟨_, by simp [ha'], .inl ⟨e, t4, ?_, rfl⟩⟩
      simp [List.lookup, ha2]
    · have hc' : (c == z) = false := by simpa using hc
      have hc2 : (z == c) = false := by simpa using fun q : z = c => hc q.symm
      refine ⟨none, by simp [ha', hc', DictEntry.refKey], .inr ⟨?_, rfl⟩⟩
      simp [List.lookup, ha2, hc2]
/-- text * 0, text * 1 -/
def rRep01 : R2 := fun x y H Q => ∃ (z : Str) (n : Nat), x = .str z ∧ y = .int (n : Nat) ∧ n ≤ 1 ∧ z.length ≤ 100 ∧ Q (.str (if n = 1 then z else Str.empty)) H
theorem op_rep01 {X : Cx} : OpR X (binaryOp .Mult) rRep01 := by
  intro pins s σ H x y v u Q I rx ry h
  obtain ⟨z, n, rfl, rfl, h2, h3, q⟩ := h
  obtain ⟨t, rfl⟩ := rx
  obtain ⟨t', rfl⟩ := ry
  rcases (show n = 0 ∨ n = 1 by omega) with rfl | rfl
  · exact PySem.P.mul_str_none (by decide) (by decide) ⟨.str _, H, I.tok _, ⟨_, rfl⟩, q⟩
  · have e : (((1 : Nat) : Int) == 1 || z.length == 0) = true := rfl
    refine PySem.P.mul_str (by decide) (fun _ h => by rw [e] at h; cases h) (fun _ h => by rw [e] at h; cases h) ?_
    rw [if_neg (by decide), if_pos e]
    exact ⟨.str z, H, I, ⟨_, rfl⟩, q⟩
/-- what is never reached -/
theorem pss_dead {X : Cx} {b : List Stmt} : PSs X b (fun _ _ _ => False) := ⟨fun _ _ _ _ _ _ h => False.elim h⟩
/-- a comprehension over a text's signs -/
theorem lc_str {x : Str} {g : TG} {tt : TT} {te : TE} {vs : List Nat} {σ : L2.St} {H1 : Hp} {D : Addr} {Qd : Hp → Prop} (Pv : Nat → Hp → Prop) (h0 : Pv 0 (upd H1 D (.lst [])))
    (hs : ∀ i c H, x.cps[i]? = some c → Pv i H → g (.str ⟨#[c]⟩) (wipe σ vs) H fun σ2 H2 => wipe σ2 vs = wipe σ vs ∧ tt σ2 H2 fun b H3 =>
      if b = true then te σ2 H3 fun y H4 => ∃ acc, H4 D = some (.lst acc) ∧ acc.length < sizeLine ∧ Pv (i + 1) (upd H4 D (.lst (acc ++ [y]))) else Pv (i + 1) H3)
    (hd : ∀ H, Pv x.cps.size H → Qd H) :
    ∃ W : Nat → Nat → Hp → Prop, (∃ m, W 0 m (upd H1 D (.lst []))) ∧ ∀ i m H, W i m H →
      ((Its x).stop i H ∧ Qd H) ∨ ((Its x).go i H ∧ ∃ Nx : Hp → Prop, (∀ H', Nx H' → ∃ m', m' < m ∧ W (i + 1) m' H') ∧ ∀ y H', (Its x).yld i H y H' → g y (wipe σ vs) H' fun σ2 H2 => wipe σ2 vs = wipe σ vs ∧ tt σ2 H2 fun b H3 =>
        if b = true then te σ2 H3 fun y H4 => ∃ acc, H4 D = some (.lst acc) ∧ acc.length < sizeLine ∧ Nx (upd H4 D (.lst (acc ++ [y]))) else Nx H3) := by
  refine ⟨fun i m H => m = x.cps.size - i ∧ i ≤ x.cps.size ∧ Pv i H, ⟨x.cps.size, by simp, Nat.zero_le _, h0⟩, ?_⟩
  rintro i m H ⟨rfl, hi, p⟩
  by_cases hlt : i < x.cps.size
  · refine .inr ⟨hlt, Pv (i + 1), fun H' q => ⟨x.cps.size - (i + 1), by omega, rfl, hlt, q⟩, fun v H' y => ?_⟩
    obtain ⟨rfl, c, hc, rfl⟩ := y
    exact hs i c H' hc p
  · have : i = x.cps.size := by omega
    subst this
    exact .inl ⟨Nat.le_refl _, hd H p⟩
end TD

namespace Toy
open PySem L2 TT TX TR TQ TV TU TY CwR
def top (i : Nat) : Stmt := PySem.Challenge.pw_treeturns_k12_scripts_undone_and_written.main.body.getD i (.Pass ⟨0, 0, 0, 0⟩)
def ini : Stmt → Stmt
  | .ClassDef (body := b) .. => b.headD (.Pass ⟨0, 0, 0, 0⟩)
  | s => s
abbrev i_InvalidAddress : Stmt := ini (top 2)
theorem si_InvalidAddress : FnScope ["self", "value"] ["self", "value"] (defScope i_InvalidAddress) := ⟨rfl, rfl, rfl, by decide +kernel, rfl, by decide +kernel, by decide +kernel⟩
abbrev i_InvalidScript : Stmt := ini (top 3)
theorem si_InvalidScript : FnScope ["self", "value"] ["self", "value"] (defScope i_InvalidScript) := ⟨rfl, rfl, rfl, by decide +kernel, rfl, by decide +kernel, by decide +kernel⟩
abbrev s_is_address : Stmt := top 5
abbrev nm_is_address : List Str := ["value"]
theorem sc_is_address : FnScope ["value"] ["value"] (defScope s_is_address) := ⟨rfl, rfl, rfl, by decide +kernel, rfl, by decide +kernel, by decide +kernel⟩
abbrev s_check_address : Stmt := top 6
abbrev nm_check_address : List Str := ["value"]
theorem sc_check_address : FnScope ["value"] ["value"] (defScope s_check_address) := ⟨rfl, rfl, rfl, by decide +kernel, rfl, by decide +kernel, by decide +kernel⟩
abbrev s_is_step : Stmt := top 11
abbrev nm_is_step : List Str := ["value"]
theorem sc_is_step : FnScope ["value"] ["value"] (defScope s_is_step) := ⟨rfl, rfl, rfl, by decide +kernel, rfl, by decide +kernel, by decide +kernel⟩
abbrev s_checked_script : Stmt := top 12
abbrev nm_checked_script : List Str := ["steps", "step", "word", "address"]
theorem sc_checked_script : FnScope ["steps", "step", "word", "address"] ["steps"] (defScope s_checked_script) := ⟨rfl, rfl, rfl, by decide +kernel, rfl, by decide +kernel, by decide +kernel⟩
abbrev s_pair_of : Stmt := top 15
abbrev nm_pair_of : List Str := ["steps", "growth", "word", "address"]
theorem sc_pair_of : FnScope ["steps", "growth", "word", "address"] ["steps"] (defScope s_pair_of) := ⟨rfl, rfl, rfl, by decide +kernel, rfl, by decide +kernel, by decide +kernel⟩
abbrev s_opposite : Stmt := top 16
abbrev nm_opposite : List Str := ["steps", "word", "address"]
theorem sc_opposite : FnScope ["steps", "word", "address"] ["steps"] (defScope s_opposite) := ⟨rfl, rfl, rfl, by decide +kernel, rfl, by decide +kernel, by decide +kernel⟩
abbrev s_lowered : Stmt := top 17
abbrev nm_lowered : List Str := ["steps", "address", "script", "word", "below"]
theorem sc_lowered : FnScope ["steps", "address", "script", "word", "below"] ["steps", "address"] (defScope s_lowered) := ⟨rfl, rfl, rfl, by decide +kernel, rfl, by decide +kernel, by decide +kernel⟩
abbrev s_text_of : Stmt := top 18
abbrev nm_text_of : List Str := ["steps", "word", "address"]
theorem sc_text_of : FnScope ["steps", "word", "address"] ["steps"] (defScope s_text_of) := ⟨rfl, rfl, rfl, by decide +kernel, rfl, by decide +kernel, by decide +kernel⟩
abbrev s_read_script : Stmt := top 19
abbrev nm_read_script : List Str := ["text", "script", "piece"]
theorem sc_read_script : FnScope ["text", "script", "piece"] ["text"] (defScope s_read_script) := ⟨rfl, rfl, rfl, by decide +kernel, rfl, by decide +kernel, by decide +kernel⟩
abbrev s_law_cell : Stmt := top 21
abbrev nm_law_cell : List Str := ["_law_script", "_law_index"]
theorem sc_law_cell : FnScope ["_law_script", "_law_index"] ["_law_script", "_law_index"] (defScope s_law_cell) := ⟨rfl, rfl, rfl, by decide +kernel, rfl, by decide +kernel, by decide +kernel⟩
abbrev s_law_hash : Stmt := top 22
abbrev nm_law_hash : List Str := ["_law_seed", "_law_index", "_law_mixed"]
theorem sc_law_hash : FnScope ["_law_seed", "_law_index", "_law_mixed"] ["_law_seed", "_law_index"] (defScope s_law_hash) := ⟨rfl, rfl, rfl, by decide +kernel, rfl, by decide +kernel, by decide +kernel⟩
abbrev s_law_generator : Stmt := top 23
abbrev nm_law_generator : List Str := ["_law_script", "_law_index", "_law_seed"]
theorem sc_law_generator : FnScope ["_law_script", "_law_index", "_law_seed"] ["_law_script", "_law_index"] (defScope s_law_generator) := ⟨rfl, rfl, rfl, by decide +kernel, rfl, by decide +kernel, by decide +kernel⟩
abbrev s_law_address : Stmt := top 24
abbrev nm_law_address : List Str := ["_law_generator_here", "_law_longest", "_law_letters", "_law_step"]
theorem sc_law_address : FnScope ["_law_generator_here", "_law_longest", "_law_letters", "_law_step"] ["_law_generator_here", "_law_longest"] (defScope s_law_address) := ⟨rfl, rfl, rfl, by decide +kernel, rfl, by decide +kernel, by decide +kernel⟩
abbrev s_law_steps : Stmt := top 25
abbrev nm_law_steps : List Str := ["_law_generator_here", "_law_many", "_law_deep", "_law_found", "_law_step", "_law_word"]
theorem sc_law_steps : FnScope ["_law_generator_here", "_law_many", "_law_deep", "_law_found", "_law_step", "_law_word"] ["_law_generator_here", "_law_many", "_law_deep"] (defScope s_law_steps) := ⟨rfl, rfl, rfl, by decide +kernel, rfl, by decide +kernel, by decide +kernel⟩
abbrev s_law_random : Stmt := top 26
abbrev nm_law_random : List Str := ["_law_generator_here", "_law_bound", "_law_drawn", "_law_turn"]
theorem sc_law_random : FnScope ["_law_generator_here", "_law_bound", "_law_drawn", "_law_turn"] ["_law_generator_here", "_law_bound"] (defScope s_law_random) := ⟨rfl, rfl, rfl, by decide +kernel, rfl, by decide +kernel, by decide +kernel⟩
abbrev s_law_caught : Stmt := top 27
abbrev nm_law_caught : List Str := ["_law_door", "_law_first", "_law_second", "_law_caught_here", "error"]
theorem sc_law_caught : FnScope ["_law_door", "_law_first", "_law_second", "_law_caught_here", "error"] ["_law_door", "_law_first", "_law_second"] (defScope s_law_caught) := ⟨rfl, rfl, rfl, by decide +kernel, rfl, by decide +kernel, by decide +kernel⟩
abbrev s_law_read : Stmt := top 28
abbrev nm_law_read : List Str := ["_law_words", "_law_found", "_law_word", "_law_sign"]
theorem sc_law_read : FnScope ["_law_words", "_law_found", "_law_word", "_law_sign"] ["_law_words"] (defScope s_law_read) := ⟨rfl, rfl, rfl, by decide +kernel, rfl, by decide +kernel, by decide +kernel⟩
abbrev s_law_texts_right : Stmt := top 29
abbrev nm_law_texts_right : List Str := ["_law_generator_here", "_law_words", "_law_at", "_law_place", "_law_sign", "_law_some", "_law_one", "_law_due"]
theorem sc_law_texts_right : FnScope ["_law_generator_here", "_law_words", "_law_at", "_law_place", "_law_sign", "_law_some", "_law_one", "_law_due"] ["_law_generator_here", "_law_words"] (defScope s_law_texts_right) := ⟨rfl, rfl, rfl, by decide +kernel, rfl, by decide +kernel, by decide +kernel⟩
abbrev s_law : Stmt := top 30
abbrev nm_law : List Str := ["_law_script", "_law_index", "_law_generator_here", "_law_many", "_law_deep", "_law_some", "_law_spot", "_law_turns", "_law_word", "_law_one", "_law_words", "_law_low", "_law_turn", "_law_found", "_law_odd", "_law_bad", "_law_door", "_law_thing", "_law_spots"]
theorem sc_law : FnScope ["_law_script", "_law_index", "_law_generator_here", "_law_many", "_law_deep", "_law_some", "_law_spot", "_law_turns", "_law_word", "_law_one", "_law_words", "_law_low", "_law_turn", "_law_found", "_law_odd", "_law_bad", "_law_door", "_law_thing", "_law_spots"] ["_law_script"] (defScope s_law) := ⟨rfl, rfl, rfl, by decide +kernel, rfl, by decide +kernel, by decide +kernel⟩
abbrev s_Growth___init__ : Stmt := inClass (top 13) 0
abbrev nm_Growth___init__ : List Str := ["self"]
theorem sc_Growth___init__ : FnScope ["self"] ["self"] (defScope s_Growth___init__) := ⟨rfl, rfl, rfl, by decide +kernel, rfl, by decide +kernel, by decide +kernel⟩
abbrev veL : List Value := [.type "ValueError", .type "Exception", .type "BaseException", .type "object"]
abbrev kv_OTHER_WORD : List (Str × Str) := [("left", "right"), ("right", "left")]
abbrev kv_SIGN_OF : List (Str × Str) := [("left", "<"), ("right", ">")]
abbrev kv_WORD_OF : List (Str × Str) := [("<", "left"), (">", "right")]
structure Txt (w : World) (K : PySem.W.Frag) (mg : Str → Option Value) where
  c_TurnError : Addr
  g_TurnError : mg "TurnError" = some (.ref c_TurnError)
  e_TurnError : ErrC K c_TurnError (.ref c_TurnError :: veL)
  c_InvalidAddress : Addr
  o_InvalidAddress : OwnE K mg "InvalidAddress" c_InvalidAddress "value" "value"
  g_InvalidAddress : mg "InvalidAddress" = some (.ref c_InvalidAddress)
  e_InvalidAddress : ErrC K c_InvalidAddress (.ref c_InvalidAddress :: .ref c_TurnError :: veL)
  x_InvalidAddress : XfC K c_InvalidAddress
  n_InvalidAddress : PySem.W.findIn K (.ref c_InvalidAddress) "value" = some none
  c_InvalidScript : Addr
  o_InvalidScript : OwnE K mg "InvalidScript" c_InvalidScript "value" "value"
  g_InvalidScript : mg "InvalidScript" = some (.ref c_InvalidScript)
  e_InvalidScript : ErrC K c_InvalidScript (.ref c_InvalidScript :: .ref c_TurnError :: veL)
  x_InvalidScript : XfC K c_InvalidScript
  n_InvalidScript : PySem.W.findIn K (.ref c_InvalidScript) "value" = some none
  nd : [c_InvalidAddress, c_InvalidScript, c_TurnError].Nodup
  a_is_address : Addr
  fd_is_address : FuncData
  F_is_address : Fun K "is_address" "is_address" s_is_address a_is_address fd_is_address
  b_is_address : Binds K fd_is_address ["value"] []
  m_is_address : mg "is_address" = some (.ref a_is_address)
  a_check_address : Addr
  fd_check_address : FuncData
  F_check_address : Fun K "check_address" "check_address" s_check_address a_check_address fd_check_address
  b_check_address : Binds K fd_check_address ["value"] []
  m_check_address : mg "check_address" = some (.ref a_check_address)
  a_is_step : Addr
  fd_is_step : FuncData
  F_is_step : Fun K "is_step" "is_step" s_is_step a_is_step fd_is_step
  b_is_step : Binds K fd_is_step ["value"] []
  m_is_step : mg "is_step" = some (.ref a_is_step)
  a_checked_script : Addr
  fd_checked_script : FuncData
  F_checked_script : Fun K "checked_script" "checked_script" s_checked_script a_checked_script fd_checked_script
  b_checked_script : Binds K fd_checked_script ["steps"] []
  m_checked_script : mg "checked_script" = some (.ref a_checked_script)
  a_pair_of : Addr
  fd_pair_of : FuncData
  F_pair_of : Fun K "pair_of" "pair_of" s_pair_of a_pair_of fd_pair_of
  b_pair_of : Binds K fd_pair_of ["steps"] []
  m_pair_of : mg "pair_of" = some (.ref a_pair_of)
  a_opposite : Addr
  fd_opposite : FuncData
  F_opposite : Fun K "opposite" "opposite" s_opposite a_opposite fd_opposite
  b_opposite : Binds K fd_opposite ["steps"] []
  m_opposite : mg "opposite" = some (.ref a_opposite)
  a_lowered : Addr
  fd_lowered : FuncData
  F_lowered : Fun K "lowered" "lowered" s_lowered a_lowered fd_lowered
  b_lowered : Binds K fd_lowered ["steps", "address"] []
  m_lowered : mg "lowered" = some (.ref a_lowered)
  a_text_of : Addr
  fd_text_of : FuncData
  F_text_of : Fun K "text_of" "text_of" s_text_of a_text_of fd_text_of
  b_text_of : Binds K fd_text_of ["steps"] []
  m_text_of : mg "text_of" = some (.ref a_text_of)
  a_read_script : Addr
  fd_read_script : FuncData
  F_read_script : Fun K "read_script" "read_script" s_read_script a_read_script fd_read_script
  b_read_script : Binds K fd_read_script ["text"] []
  m_read_script : mg "read_script" = some (.ref a_read_script)
  a_law_cell : Addr
  fd_law_cell : FuncData
  F_law_cell : Fun K "_law_cell" "_law_cell" s_law_cell a_law_cell fd_law_cell
  b_law_cell : Binds K fd_law_cell ["_law_script", "_law_index"] []
  m_law_cell : mg "_law_cell" = some (.ref a_law_cell)
  a_law_hash : Addr
  fd_law_hash : FuncData
  F_law_hash : Fun K "_law_hash" "_law_hash" s_law_hash a_law_hash fd_law_hash
  b_law_hash : Binds K fd_law_hash ["_law_seed", "_law_index"] []
  m_law_hash : mg "_law_hash" = some (.ref a_law_hash)
  a_law_generator : Addr
  fd_law_generator : FuncData
  F_law_generator : Fun K "_law_generator" "_law_generator" s_law_generator a_law_generator fd_law_generator
  b_law_generator : Binds K fd_law_generator ["_law_script", "_law_index"] []
  m_law_generator : mg "_law_generator" = some (.ref a_law_generator)
  a_law_address : Addr
  fd_law_address : FuncData
  F_law_address : Fun K "_law_address" "_law_address" s_law_address a_law_address fd_law_address
  b_law_address : Binds K fd_law_address ["_law_generator_here", "_law_longest"] []
  m_law_address : mg "_law_address" = some (.ref a_law_address)
  a_law_steps : Addr
  fd_law_steps : FuncData
  F_law_steps : Fun K "_law_steps" "_law_steps" s_law_steps a_law_steps fd_law_steps
  b_law_steps : Binds K fd_law_steps ["_law_generator_here", "_law_many", "_law_deep"] []
  m_law_steps : mg "_law_steps" = some (.ref a_law_steps)
  a_law_random : Addr
  fd_law_random : FuncData
  F_law_random : Fun K "_law_random" "_law_random" s_law_random a_law_random fd_law_random
  b_law_random : Binds K fd_law_random ["_law_generator_here", "_law_bound"] []
  m_law_random : mg "_law_random" = some (.ref a_law_random)
  a_law_caught : Addr
  fd_law_caught : FuncData
  F_law_caught : Fun K "_law_caught" "_law_caught" s_law_caught a_law_caught fd_law_caught
  b_law_caught : Binds K fd_law_caught ["_law_door", "_law_first", "_law_second"] []
  m_law_caught : mg "_law_caught" = some (.ref a_law_caught)
  a_law_read : Addr
  fd_law_read : FuncData
  F_law_read : Fun K "_law_read" "_law_read" s_law_read a_law_read fd_law_read
  b_law_read : Binds K fd_law_read ["_law_words"] []
  m_law_read : mg "_law_read" = some (.ref a_law_read)
  a_law_texts_right : Addr
  fd_law_texts_right : FuncData
  F_law_texts_right : Fun K "_law_texts_right" "_law_texts_right" s_law_texts_right a_law_texts_right fd_law_texts_right
  b_law_texts_right : Binds K fd_law_texts_right ["_law_generator_here", "_law_words"] []
  m_law_texts_right : mg "_law_texts_right" = some (.ref a_law_texts_right)
  a_law : Addr
  fd_law : FuncData
  F_law : Fun K "law" "law" s_law a_law fd_law
  b_law : Binds K fd_law ["_law_script"] []
  m_law : mg "law" = some (.ref a_law)
  z_isinstance : mg "isinstance" = none
  z_str : mg "str" = none
  z_len : mg "len" = none
  z_list : mg "list" = none
  z_int : mg "int" = none
  z_max : mg "max" = none
  z_range : mg "range" = none
  z_repr : mg "repr" = none
  z_tuple : mg "tuple" = none
  z_all : mg "all" = none
  d_OTHER_WORD : Addr
  m_OTHER_WORD : mg "OTHER_WORD" = some (.ref d_OTHER_WORD)
  k_OTHER_WORD : TD.KD K w d_OTHER_WORD kv_OTHER_WORD
  d_SIGN_OF : Addr
  m_SIGN_OF : mg "SIGN_OF" = some (.ref d_SIGN_OF)
  k_SIGN_OF : TD.KD K w d_SIGN_OF kv_SIGN_OF
  d_WORD_OF : Addr
  m_WORD_OF : mg "WORD_OF" = some (.ref d_WORD_OF)
  k_WORD_OF : TD.KD K w d_WORD_OF kv_WORD_OF
  c_Growth : Addr
  g_Growth : mg "Growth" = some (.ref c_Growth)
  l_Growth : Cls K c_Growth
  n_Growth_origin : NoAttr K c_Growth "origin"
  n_Growth_current : NoAttr K c_Growth "current"
  n_Growth_many : NoAttr K c_Growth "many"
  a_Growth___init__ : Addr
  fd_Growth___init__ : FuncData
  F_Growth___init__ : Fun K "__init__" "Growth.__init__" s_Growth___init__ a_Growth___init__ fd_Growth___init__
  b_Growth___init__ : Binds K fd_Growth___init__ ["self"] []
  k_Growth : Mk K c_Growth a_Growth___init__
/-! ### words for trees -/
abbrev trV (t : Tr) : V := .str (S t.cs)
/-- all but what stands at g is as it was -/
def Keep (g : Addr) (H H' : Hp) : Prop := ∀ b o, b ≠ g → H b = some o → H' b = some o
/-- a generator: its third number is at most n -/
def GenAt (H : Hp) (g : Addr) (n : Nat) : Prop := ∃ a b c : Int, H g = some (.lst [.int a, .int b, .int c]) ∧ 0 ≤ c ∧ c ≤ (n : Int)
def NotStr (K : PySem.W.Frag) (H : Hp) (v : V) : Prop := ∃ t, TyX K H v t ∧ PySem.W.kitOne K t (.type "str") = some false
/-- how is_tree reads, its stack's top first -/
def isT : List Nat → List Str → Bool
  | [], st => st.isEmpty
  | c :: cs, st =>
    if st.headD "end" = "tree" ∧ S [c] = "(" then isT cs ("tree" :: "tree" :: ")" :: st.tail)
    else if st.headD "end" ≠ S [c] ∧ ¬ (st.headD "end" = "tree" ∧ S [c] = ".") then false
    else isT cs st.tail
def sp_is_tree (K : PySem.W.Frag) : Sp := fun vs H Q _ => ∃ v, vs = [v] ∧ ((∃ x : Str, v = .str x ∧ x.length ≤ 1000000 ∧ ∀ H', Same H H' → Q (.bl (isT x.cps.toList ["tree"])) H') ∨ (NotStr K H v ∧ Q (.bl false) H))
def sp_law_cell (K : PySem.W.Frag) : Sp := fun vs H Q _ => ∃ (a : Addr) (ns : List Int) (i : Nat), vs = [.ref a, .int i] ∧ SqL K H a (ns.map V.int) ∧ Q (.int (ns.getD i 0)) H
def sp_law_hash (K : PySem.W.Frag) : Sp := fun vs H Q _ => ∃ s i : Int, vs = [.int s, .int i] ∧ 0 ≤ i ∧ i ≤ 1000000000000000 ∧ ∀ r : Int, Q (.int r) H
def sp_law_generator (K : PySem.W.Frag) : Sp := fun vs H Q _ => ∃ (a : Addr) (ns : List Int) (i : Nat), vs = [.ref a, .int i] ∧ SqL K H a (ns.map V.int) ∧ ∀ g H', H g = none → Same H H' → GenAt H' g (1000 * i) → Q (.ref g) H'
def sp_law_random (K : PySem.W.Frag) : Sp := fun vs H Q _ => ∃ (g : Addr) (b : Int) (n : Nat), vs = [.ref g, .int b] ∧ GenAt H g n ∧ n ≤ 100000000000000 ∧ 1 ≤ b ∧ b < 1000000000000000 ∧
  ∀ (r : Int) H', 0 ≤ r → r < b → Keep g H H' → GenAt H' g (n + 3) → Q (.int r) H'
def sp_law_tree (K : PySem.W.Frag) (k : Nat) : Sp := fun vs H Q _ => ∃ (g : Addr) (m n : Nat), vs = [.ref g, .int m] ∧ m < k ∧ m ≤ 2000 ∧ GenAt H g n ∧ n + 6 * m ≤ 10000000000000 ∧
  ∀ (t : Tr) H', t.size = m → Keep g H H' → GenAt H' g (n + 6 * m) → Q (trV t) H'
theorem tyX_same {K : PySem.W.Frag} {H H' : Hp} {x : V} {t : Value} (h : TyX K H x t) (s : Same H H') : TyX K H' x t := by
  cases h with
  | base h =>
    cases h with
    | non => exact .base .non
    | bl b => exact .base (.bl b)
    | int i => exact .base (.int i)
    | str z => exact .base (.str z)
    | flt z => exact .base (.flt z)
    | lst e => exact .base (.lst (s _ _ e))
    | frz e => exact .base (.frz (s _ _ e))
    | tup e => exact .base (.tup (s _ _ e))
    | dK e => exact .base (.dK (s _ _ e))
    | dT e => exact .base (.dT (s _ _ e))
    | ins e cl a b c d => exact .base (.ins (s _ _ e) cl a b c d)
  | byt b => exact .byt b
  | set e => exact .set (s _ _ e)
  | kList e c => exact .kList e c
  | kTuple e c => exact .kTuple e c
  | kDict e c => exact .kDict e c
  | fTuple e => exact .fTuple (s _ _ e)
  | fDict e => exact .fDict (s _ _ e)

/-! ### what may be refused -/
def NotTree (K : PySem.W.Frag) (H : Hp) (v : V) : Prop := (∃ x : Str, v = .str x ∧ x.length ≤ 1000000 ∧ isT x.cps.toList ["tree"] = false) ∨ NotStr K H v
/-- an error of the class at C with the value v leaves -/
def Out (C : Addr) (v : V) (H : Hp) (E : XK) : Prop := ∀ d H', Same H H' → H d = none → H' d = some (.xd [("value", v)]) → E (.ref C) (some d) H'
def GoodL (H : Hp) (t : Tr) (v : V) (xs : List Tr) : Prop := ∃ a, v = .ref a ∧ H a = some (.lst (xs.map trV)) ∧ xs.length = t.lvs ∧ ∀ x ∈ xs, x.size ≤ 2000
def BadL (K : PySem.W.Frag) (H : Hp) (t : Tr) (v : V) : Prop := (∃ ty, TyX K H v ty ∧ PySem.W.kitOne K ty (.type "list") = some false) ∨
  ∃ a ws, v = .ref a ∧ H a = some (.lst ws) ∧ ws.length ≤ 100000 ∧ (ws.length ≠ t.lvs ∨ (∀ u ∈ ws, (∃ x : Tr, u = trV x ∧ x.size ≤ 2000) ∨ NotTree K H u) ∧ ∃ u ∈ ws, NotTree K H u)
theorem NotStr.same {K : PySem.W.Frag} {H H' : Hp} {v : V} (h : NotStr K H v) (s : Same H H') : NotStr K H' v := let ⟨t, a, b⟩ := h; ⟨t, tyX_same a s, b⟩
theorem NotTree.same {K : PySem.W.Frag} {H H' : Hp} {v : V} (h : NotTree K H v) (s : Same H H') : NotTree K H' v := h.imp id fun z => z.same s
theorem Out.same {C : Addr} {v : V} {H H' : Hp} {E : XK} (h : Out C v H E) (s : Same H H') : Out C v H' E := fun d H2 s2 n e => h d H2 (s.trans s2) (s.free n) e
theorem GoodL.same {H H' : Hp} {t : Tr} {v : V} {xs : List Tr} (h : GoodL H t v xs) (s : Same H H') : GoodL H' t v xs := let ⟨a, e, g, r⟩ := h; ⟨a, e, s _ _ g, r⟩
theorem BadL.same {K : PySem.W.Frag} {H H' : Hp} {t : Tr} {v : V} (h : BadL K H t v) (s : Same H H') : BadL K H' t v := by
  rcases h with ⟨ty, a, b⟩ | ⟨a, ws, e, g, l, r⟩
  · exact .inl ⟨ty, tyX_same a s, b⟩
  · refine .inr ⟨a, ws, e, s _ _ g, l, r.imp id fun ⟨al, u, hu, nu⟩ => ⟨fun z hz => (al z hz).imp id fun n => n.same s, u, hu, nu.same s⟩⟩

/-! ### trees as nested tuples -/
def Tr.hgt : Tr → Nat
  | .leaf => 0
  | .node l r => max (hgt l) (hgt r) + 1
inductive PT (H : Hp) : V → Tr → Prop
  | leaf {p : Addr} : H p = some (.tup []) → PT H (.ref p) .leaf
  | node {p : Addr} {x y : V} {l r : Tr} : H p = some (.tup [x, y]) → PT H x l → PT H y r → PT H (.ref p) (.node l r)
theorem PT.same {H H' : Hp} (s : Same H H') : ∀ {v : V} {t : Tr}, PT H v t → PT H' v t
  | _, _, .leaf h => .leaf (s _ _ h)
  | _, _, .node h a b => .node (s _ _ h) (PT.same s a) (PT.same s b)
/-- all but what stands at g, which is a list -/
theorem PT.keep {H H' : Hp} {g : Addr} {ws : List V} (s : Keep g H H') (hg : H g = some (.lst ws)) : ∀ {v : V} {t : Tr}, PT H v t → PT H' v t
  | _, _, .leaf h => .leaf (s _ _ (ne_of h hg fun z => by cases z) h)
  | _, _, .node h a b => .node (s _ _ (ne_of h hg fun z => by cases z) h) (PT.keep s hg a) (PT.keep s hg b)
def tD : Tr → PyData
  | .leaf => .tuple []
  | .node l r => .tuple [tD l, tD r]
theorem PT.dp {K : PySem.W.Frag} {H : Hp} : ∀ {v : V} {t : Tr}, PT H v t → Dp K H v (tD t)
  | _, _, .leaf h => .tup (SqT.of h) .nil
  | _, _, .node h a b => .tup (SqT.of h) (.cons (PT.dp a) (.cons (PT.dp b) .nil))
theorem tD_depth : ∀ t : Tr, (tD t).depth = Tr.hgt t + 1
  | .leaf => by simp [tD, PyData.depth, PyData.depthAll, Tr.hgt]
  | .node l r => by
    have h1 := tD_depth l
    have h2 := tD_depth r
    simp only [tD, PyData.depth, PyData.depthAll, Tr.hgt, h1, h2]
    omega
theorem tD_lay : ∀ t : Tr, (tD t).canLay0 = true
  | .leaf => by simp [tD, PyData.canLay0, PyData.canLayAll0]
  | .node l r => by
    simp only [tD, PyData.canLay0, PyData.canLayAll0, tD_lay l, tD_lay r]
    rfl
theorem tD_shaped {t : Tr} (h : Tr.hgt t ≤ 62) : SeqAt.shaped (tD t) = true := by
  unfold SeqAt.shaped
  rw [tD_lay, tD_depth]
  simp
  omega
theorem tD_leaf : ∀ t : Tr, PyData.eqv (tD t) (.tuple []) = decide (t = .leaf)
  | .leaf => by simp [tD, PyData.eqv, PyData.eqvAll]
  | .node l r => by simp [tD, PyData.eqv, PyData.eqvAll]
/-- x == () -/
theorem eqLeaf {K : PySem.W.Frag} {H : Hp} {v : V} {t : Tr} {p : Addr} {Q : VK} (h : PT H v t) (ht : Tr.hgt t ≤ 62) (hp : H p = some (.tup [])) (q : Q (.bl (decide (t = .leaf))) H) : rEqD K v (.ref p) H Q :=
  ⟨tD t, .tuple [], h.dp, .tup (SqT.of hp) .nil, tD_shaped ht, by decide +kernel, by rw [tD_leaf]; exact q⟩
section
variable {w : World} {K : PySem.W.Frag} {mg : Str → Option Value}
def sp_law_parsed (K : PySem.W.Frag) : Sp := fun vs H Q _ => ∃ t : Tr, vs = [trV t] ∧ t.size ≤ 2000 ∧ ∀ v H', Same H H' → PT H' v t → Q v H'
end
inductive PTs (H : Hp) : List V → List Tr → Prop
  | nil : PTs H [] []
  | cons {v : V} {t : Tr} {vs : List V} {ts : List Tr} : PT H v t → PTs H vs ts → PTs H (v :: vs) (t :: ts)
theorem PTs.same {H H' : Hp} (s : Same H H') : ∀ {vs : List V} {ts : List Tr}, PTs H vs ts → PTs H' vs ts
  | _, _, .nil => .nil
  | _, _, .cons a b => .cons (a.same s) (PTs.same s b)
theorem PTs.keep {H H' : Hp} {g : Addr} {ws : List V} (s : Keep g H H') (hg : H g = some (.lst ws)) : ∀ {vs : List V} {ts : List Tr}, PTs H vs ts → PTs H' vs ts
  | _, _, .nil => .nil
  | _, _, .cons a b => .cons (a.keep s hg) (PTs.keep s hg b)
theorem PTs.length {H : Hp} : ∀ {vs : List V} {ts : List Tr}, PTs H vs ts → vs.length = ts.length
  | _, _, .nil => rfl
  | _, _, .cons _ b => congrArg Nat.succ (PTs.length b)
theorem PTs.append {H : Hp} : ∀ {vs : List V} {ts : List Tr} {us : List V} {rs : List Tr}, PTs H vs ts → PTs H us rs → PTs H (vs ++ us) (ts ++ rs)
  | _, _, _, _, .nil, b => b
  | _, _, _, _, .cons a c, b => .cons a (PTs.append c b)
section
variable {w : World} {K : PySem.W.Frag} {mg : Str → Option Value}
/-- a value that can be shown -/
structure Good (H : Hp) (y : V) (d : PyData) : Prop where
  dv : DV H d.hasDict y d
  sh : d.showable = true
  dp : d.depth ≤ 20
  ls : d.leavesShort 30 = true
  bk : d.bulk ≤ 200000
theorem Good.same {H H' : Hp} {y : V} {d : PyData} (g : Good H y d) (s : Same H H') : Good H' y d := ⟨g.dv.same s, g.sh, g.dp, g.ls, g.bk⟩
theorem Good.repr {H : Hp} {y : V} {d : PyData} {Q : VK} (g : Good H y d) (q : Q (.str d.shown) H) : rReprV [y] H Q := by
  have h1 := g.dp
  have h2 := PyData.shown_le_bulk 30 (by decide) d g.ls
  have h3 := g.bk
  have h4 : (30 + 2) * d.bulk ≤ (30 + 2) * 200000 := Nat.mul_le_mul_left _ h3
  exact ⟨y, d, d.hasDict, rfl, g.dv, id, g.sh, by omega, by rw [sizeLine_eq]; omega, q⟩
def sp_law (K : PySem.W.Frag) : Sp := fun vs H Q _ => ∃ (a : Addr) (ns : List Int), vs = [.ref a] ∧ SqL K H a (ns.map V.int) ∧ ns.length ≤ 63 ∧ ∀ H', Q (.bl true) H'
end

abbrev sV (a : List Nat) : V := .str (S a)
def isA (a : List Nat) : Bool := a.all fun c => c == 108 || c == 114
def NotAdr (K : PySem.W.Frag) (H : Hp) (v : V) : Prop := (∃ a : List Nat, v = sV a ∧ a.length ≤ 1000000 ∧ isA a = false) ∨ NotStr K H v
theorem Keep.trans {g : Addr} {H H1 H2 : Hp} (a : Keep g H H1) (b : Keep g H1 H2) : Keep g H H2 := fun p o hp ho => b p o hp (a p o hp ho)
theorem Keep.new {g p : Addr} {H H' : Hp} (a : Keep g H H') (hp : H p = none) (o : HO) : Keep g H (upd H' p o) := fun b u hb hu => by
  rw [upd_ne (ne_of_none hu hp)]; exact a b u hb hu
theorem Keep.of {g : Addr} {H H' : Hp} (a : Same H H') : Keep g H H' := fun p o _ ho => a p o ho
theorem GenAt.same {g : Addr} {H H' : Hp} {n : Nat} (h : GenAt H g n) (s : Same H H') : GenAt H' g n := by
  obtain ⟨a, b, c, h, x, y⟩ := h
  exact ⟨a, b, c, s _ _ h, x, y⟩
theorem GenAt.new {g p : Addr} {H : Hp} {n : Nat} {o : HO} (h : GenAt H g n) (hp : H p = none) : GenAt (upd H p o) g n := by
  obtain ⟨a, b, c, h, x, y⟩ := h
  exact ⟨a, b, c, by rw [upd_ne (ne_of_none h hp)]; exact h, x, y⟩
theorem GenAt.mono {g : Addr} {H : Hp} {n m : Nat} (h : GenAt H g n) (l : n ≤ m) : GenAt H g m := by
  obtain ⟨a, b, c, h, x, y⟩ := h
  exact ⟨a, b, c, h, x, by omega⟩
theorem GenAt.some {g : Addr} {H : Hp} {n : Nat} (h : GenAt H g n) : ∃ o, H g = some o := by
  obtain ⟨a, b, c, h, x, y⟩ := h
  exact ⟨_, h⟩
theorem Keep.free {g p : Addr} {H H' : Hp} (k : Keep g H H') (hg : ∃ o, H' g = some o) (h : H' p = none) (hgH : ∃ o, H g = some o) : H p = none := by
  cases e : H p with
  | none => rfl
  | some o =>
    obtain ⟨o', ho'⟩ := hg
    have : p ≠ g := fun z => by rw [z, ho'] at h; cases h
    rw [k p o this e] at h; cases h
theorem Keep.same {g : Addr} {H H' : Hp} (k : Keep g H H') (h : H g = none) : Same H H' := fun b o hb => k b o (ne_of_none hb h) hb
theorem Kept.keep {H H' : Hp} {g a C : Addr} {fs : List (Str × V)} {ws : List V} (x : Kept H a C fs) (k : Keep g H H') (hg : H g = some (.lst ws)) : Kept H' a C fs := by
  obtain ⟨d, h1, h2⟩ := x
  exact ⟨d, k _ _ (ne_of h1 hg fun z => by have z' : HO.ext _ = HO.lst _ := z; cases z') h1, k _ _ (ne_of h2 hg fun z => by cases z) h2⟩
theorem kitSelf {K : PySem.W.Frag} {C : Addr} : PySem.W.kitOne K (.ref C) (.ref C) = some true := by
  unfold PySem.W.kitOne
  rw [if_pos (beq_self_eq_true _)]
theorem okL (a : List Nat) (h : ∀ c ∈ a, c < 0x110000) : PyData.strOk (S a) = true := by
  unfold PyData.strOk
  rw [Array.all_eq_true_iff_forall_mem]
  intro c hc
  exact decide_eq_true (h c (by simpa using hc))
def Lr (xs : List (List Nat)) : Prop := ∀ a ∈ xs, ∀ c ∈ a, c < 0x110000
theorem dpL {K : PySem.W.Frag} {H : Hp} : ∀ xs : List (List Nat), DpAll K H (xs.map sV) (xs.map fun a => PyData.str (S a))
  | [] => .nil
  | x :: xs => .cons (.str _) (dpL xs)
theorem layL : ∀ xs : List (List Nat), Lr xs → PyData.canLayAll0 (xs.map fun a => PyData.str (S a)) = true
  | [], _ => by simp [PyData.canLayAll0]
  | x :: xs, h => by
    simp only [List.map_cons, PyData.canLayAll0, PyData.canLay0, layL xs fun y hy => h y (List.mem_cons_of_mem _ hy), okL x (h x (List.mem_cons_self ..))]
    rfl
theorem depL : ∀ xs : List (List Nat), PyData.depthAll (xs.map fun a => PyData.str (S a)) = 0
  | [] => by simp [PyData.depthAll]
  | x :: xs => by simp only [List.map_cons, PyData.depthAll, PyData.depth, depL xs]; rfl
theorem eqL0 : ∀ xs : List (List Nat), PyData.eqvAll (xs.map fun a => PyData.str (S a)) (xs.map fun a => PyData.str (S a)) = true
  | [] => by simp [PyData.eqvAll]
  | x :: xs => by simp only [List.map_cons, PyData.eqvAll, PyData.eqv, eqL0 xs, beq_self_eq_true]; rfl
theorem shL {xs : List (List Nat)} (h : Lr xs) : SeqAt.shaped (.list (xs.map fun a => PyData.str (S a))) = true := by
  unfold SeqAt.shaped
  simp only [PyData.canLay0, PyData.depth, layL xs h, depL]
  decide
/-- a list of texts beside an empty one -/
theorem neNil {K : PySem.W.Frag} {H : Hp} {a b : Addr} {xs : List (List Nat)} {Q : VK} (hx : Lr xs) (ha : H a = some (.lst (xs.map sV))) (hb : H b = some (.lst [])) (q : Q (.bl (!decide (xs = []))) H) : rNeD K (.ref a) (.ref b) H Q := by
  refine ⟨.list (xs.map fun a => PyData.str (S a)), .list [], .lst (SqL.of ha) (dpL xs), .lst (SqL.of hb) .nil, shL hx, by decide, ?_⟩
  have e : PyData.eqv (.list (xs.map fun a => PyData.str (S a))) (.list []) = decide (xs = []) := by
    cases xs with
    | nil => simp [PyData.eqv, PyData.eqvAll]
    | cons x xs => simp [PyData.eqv, PyData.eqvAll]
  rw [e]
  exact q
/-- two lists of the same texts -/
theorem neL1 {K : PySem.W.Frag} {H : Hp} {a b : Addr} {xs : List (List Nat)} {Q : VK} (hx : Lr xs) (ha : H a = some (.lst (xs.map sV))) (hb : H b = some (.lst (xs.map sV))) (q : Q (.bl false) H) : rNeD K (.ref a) (.ref b) H Q := by
  refine ⟨.list (xs.map fun a => PyData.str (S a)), .list (xs.map fun a => PyData.str (S a)), .lst (SqL.of ha) (dpL xs), .lst (SqL.of hb) (dpL xs), shL hx, shL hx, ?_⟩
  rw [show PyData.eqv (.list (xs.map fun a => PyData.str (S a))) (.list (xs.map fun a => PyData.str (S a))) = true by simp only [PyData.eqv, eqL0 xs]]
  exact q
/-- the heap but for one place -/
def off (g : Addr) (H : Hp) : Hp := fun b => if b = g then none else H b
theorem off_same {g : Addr} {H : Hp} : Same (off g H) H := fun b o e => by
  unfold off at e
  split at e
  · cases e
  · exact e
theorem off_at {g b : Addr} {H : Hp} {o : HO} (n : b ≠ g) (h : H b = some o) : off g H b = some o := by
  unfold off
  rw [if_neg n]
  exact h
theorem off_self {g : Addr} {H : Hp} : off g H g = none := by unfold off; rw [if_pos rfl]
theorem off_keep {g : Addr} {H H' : Hp} (k : Keep g H H') : Same (off g H) (off g H') := fun b o e => by
  unfold off at e ⊢
  split at e
  · cases e
  · rename_i n
    rw [if_neg n]
    exact k b o n e
theorem off_to {g : Addr} {H H' : Hp} (k : Keep g H H') : Same (off g H) H' := (off_keep k).trans off_same
theorem off_in {g : Addr} {H0 H : Hp} (s : Same H0 H) (n : H0 g = none) : Same H0 (off g H) := fun b o e => off_at (fun z => by rw [z, n] at e; cases e) (s b o e)

inductive Stps (H : Hp) : List V → List (Str × List Nat) → Prop
  | nil : Stps H [] []
  | cons {p : Addr} {x : Str × List Nat} {vs : List V} {xs : List (Str × List Nat)} : H p = some (.tup [.str x.1, sV x.2]) → Stps H vs xs → Stps H (.ref p :: vs) (x :: xs)
theorem Stps.mono {H H' : Hp} (f : ∀ b vs, H b = some (.tup vs) → H' b = some (.tup vs)) : ∀ {vs : List V} {xs : List (Str × List Nat)}, Stps H vs xs → Stps H' vs xs
  | _, _, .nil => .nil
  | _, _, .cons a b => .cons (f _ _ a) (Stps.mono f b)
theorem Stps.append {H : Hp} : ∀ {vs : List V} {xs : List (Str × List Nat)} {us : List V} {ys : List (Str × List Nat)}, Stps H vs xs → Stps H us ys → Stps H (vs ++ us) (xs ++ ys)
  | _, _, _, _, .nil, b => b
  | _, _, _, _, .cons a c, b => .cons a (Stps.append c b)
theorem Stps.length {H : Hp} : ∀ {vs : List V} {xs : List (Str × List Nat)}, Stps H vs xs → vs.length = xs.length
  | _, _, .nil => rfl
  | _, _, .cons _ b => congrArg Nat.succ (Stps.length b)
/-- a step with an address of at most n letters -/
def okSt (n : Nat) (x : Str × List Nat) : Prop := (x.1 = Str.ofString "left" ∨ x.1 = Str.ofString "right") ∧ isA x.2 = true ∧ x.2.length ≤ n
def IsStep (H : Hp) (v : V) : Prop := ∃ (p : Addr) (x : Str × List Nat), v = .ref p ∧ H p = some (.tup [.str x.1, sV x.2]) ∧ okSt 3000 x
def NotStep (K : PySem.W.Frag) (H : Hp) (v : V) : Prop := (∃ ty, TyX K H v ty ∧ PySem.W.kitOne K ty (.type "tuple") = some false) ∨
  (∃ p vs, v = .ref p ∧ H p = some (.tup vs) ∧ vs.length ≠ 2) ∨
  ∃ p x y, v = .ref p ∧ H p = some (.tup [x, y]) ∧ (NotStr K H x ∨ (∃ z : Str, x = .str z ∧ z ≠ Str.ofString "left" ∧ z ≠ Str.ofString "right") ∨ ((x = .str (Str.ofString "left") ∨ x = .str (Str.ofString "right")) ∧ NotAdr K H y))
def GoodS (H : Hp) (v : V) (xs : List (Str × List Nat)) : Prop := ∃ a ws, v = .ref a ∧ H a = some (.lst ws) ∧ Stps H ws xs ∧ ws.length ≤ 3000 ∧ ∀ x ∈ xs, okSt 3000 x
def BadS (K : PySem.W.Frag) (H : Hp) (v : V) : Prop := (∃ ty, TyX K H v ty ∧ PySem.W.kitOne K ty (.type "list") = some false) ∨
  ∃ a ws, v = .ref a ∧ H a = some (.lst ws) ∧ ws.length ≤ 3000 ∧ (∀ u ∈ ws, IsStep H u ∨ NotStep K H u) ∧ ∃ u ∈ ws, NotStep K H u
theorem Stps.same {H H' : Hp} (s : Same H H') {vs : List V} {xs : List (Str × List Nat)} (h : Stps H vs xs) : Stps H' vs xs := h.mono fun b vs e => s _ _ e
theorem IsStep.same {H H' : Hp} {v : V} (h : IsStep H v) (s : Same H H') : IsStep H' v := let ⟨p, x, e, g, o⟩ := h; ⟨p, x, e, s _ _ g, o⟩
theorem NotAdr.same {K : PySem.W.Frag} {H H' : Hp} {v : V} (h : NotAdr K H v) (s : Same H H') : NotAdr K H' v := h.imp id fun z => z.same s
theorem NotStep.same {K : PySem.W.Frag} {H H' : Hp} {v : V} (h : NotStep K H v) (s : Same H H') : NotStep K H' v := by
  rcases h with ⟨ty, a, b⟩ | ⟨p, vs, e, g, n⟩ | ⟨p, x, y, e, g, r⟩
  · exact .inl ⟨ty, tyX_same a s, b⟩
  · exact .inr (.inl ⟨p, vs, e, s _ _ g, n⟩)
  · exact .inr (.inr ⟨p, x, y, e, s _ _ g, r.imp (fun z => z.same s) fun z => z.imp id fun z => ⟨z.1, z.2.same s⟩⟩)
theorem GoodS.same {H H' : Hp} {v : V} {xs : List (Str × List Nat)} (h : GoodS H v xs) (s : Same H H') : GoodS H' v xs := let ⟨a, ws, e, g, t, r⟩ := h; ⟨a, ws, e, s _ _ g, t.same s, r⟩
theorem BadS.same {K : PySem.W.Frag} {H H' : Hp} {v : V} (h : BadS K H v) (s : Same H H') : BadS K H' v := by
  rcases h with ⟨ty, a, b⟩ | ⟨a, ws, e, g, l, al, u, hu, nu⟩
  · exact .inl ⟨ty, tyX_same a s, b⟩
  · exact .inr ⟨a, ws, e, s _ _ g, l, fun z hz => (al z hz).imp (fun n => n.same s) fun n => n.same s, u, hu, nu.same s⟩

/-! ### the object that a script unfolds -/
def gf (lo lc : Addr) (m : Int) : List (Str × V) := [("origin", .ref lo), ("current", .ref lc), ("many", .int m)]
theorem gf_ne1 : ¬ (("origin" : Str) = "current") := by decide +kernel
theorem gf_ne2 : ¬ (("origin" : Str) = "many") := by decide +kernel
theorem gf_ne3 : ¬ (("current" : Str) = "many") := by decide +kernel
theorem gf_make (lo lc : Addr) (m : Int) : putF "many" (.int m) (putF "current" (.ref lc) (putF "origin" (.ref lo) [])) = gf lo lc m := by
  have e1 : putF "origin" (V.ref lo) [] = [(("origin" : Str), V.ref lo)] := rfl
  have e2 : putF "current" (V.ref lc) [(("origin" : Str), V.ref lo)] = [(("origin" : Str), V.ref lo), ("current", V.ref lc)] := by
    show (if ("origin" : Str) = "current" then _ else (("origin" : Str), V.ref lo) :: putF "current" (V.ref lc) []) = _
    rw [if_neg gf_ne1]; rfl
  rw [e1, e2]
  show (if ("origin" : Str) = "many" then _ else (("origin" : Str), V.ref lo) :: (if ("current" : Str) = "many" then _ else (("current" : Str), V.ref lc) :: putF "many" (V.int m) [])) = _
  rw [if_neg gf_ne2, if_neg gf_ne3]; rfl
theorem putF_len (x : Str) (v : V) : ∀ fs : List (Str × V), (putF x v fs).length ≤ fs.length + 1
  | [] => Nat.le_refl _
  | (y, u) :: fs => by
    show (if y = x then (y, v) :: fs else (y, u) :: putF x v fs).length ≤ _
    split
    · simp
    · have := putF_len x v fs
      simp only [List.length_cons]; omega
/-- behind the heap H0 such an object stands at p, with the dicts o and c and the number m -/
def GrowAt (C : Addr) (H0 H : Hp) (p : Addr) (o c : List (Key × V)) (m : Int) : Prop :=
  Same H0 H ∧ H0 p = none ∧ ∃ dx lo lc, H0 lo = none ∧ H0 lc = none ∧ lo ≠ lc ∧ H p = some (.ins C dx (gf lo lc m)) ∧ H lo = some (.dK o) ∧ H lc = some (.dK c)
section
variable {w : World} {K : PySem.W.Frag} {mg : Str → Option Value}
def sp_Growth___init__ (T : Txt w K mg) : Sp := fun vs H Q _ => ∃ (H0 : Hp) (p dx : Addr), vs = [.ref p] ∧ Same H0 H ∧ H0 p = none ∧ H p = some (.ins T.c_Growth dx []) ∧ ∀ H', GrowAt T.c_Growth H0 H' p [] [] 1 → Q .non H'
end

def oth (w : Str) : Str := if w = Str.ofString "left" then Str.ofString "right" else Str.ofString "left"
def sgn (w : Str) : Nat := if w = Str.ofString "left" then 60 else 62
def stT (x : Str × List Nat) : List Nat := sgn x.1 :: x.2
def textT (xs : List (Str × List Nat)) : List Nat := TL.joinL [32] (xs.map stT)
def rdPiece : List Nat → Option (Str × List Nat)
  | [] => none
  | c :: a => if isA a then (if c = 60 then some (Str.ofString "left", a) else if c = 62 then some (Str.ofString "right", a) else none) else none
def rdAll : List (List Nat) → Option (List (Str × List Nat))
  | [] => some []
  | p :: ps => (rdPiece p).bind fun x => (rdAll ps).map fun y => x :: y
def rdText (cs : List Nat) : Option (List (Str × List Nat)) := if cs = [] then some [] else rdAll (spl 32 cs)
section
variable {w : World} {K : PySem.W.Frag} {mg : Str → Option Value}
def sp_is_address (K : PySem.W.Frag) : Sp := fun vs H Q _ => ∃ v, vs = [v] ∧ ((∃ a : List Nat, v = sV a ∧ a.length ≤ 1000000 ∧ Q (.bl (isA a)) H) ∨ (NotStr K H v ∧ Q (.bl false) H))
def sp_check_address (T : Txt w K mg) : Sp := fun vs H Q E => ∃ v, vs = [v] ∧ ((∃ a : List Nat, v = sV a ∧ a.length ≤ 1000 ∧ isA a = true ∧ Q .non H) ∨ (NotAdr K H v ∧ Out T.c_InvalidAddress v H E))
def sp_is_step (K : PySem.W.Frag) : Sp := fun vs H Q _ => ∃ v, vs = [v] ∧ ((IsStep H v ∧ Q (.bl true) H) ∨ (NotStep K H v ∧ Q (.bl false) H))
/-- a new list of steps -/
def NewS (H : Hp) (xs : List (Str × List Nat)) (Q : VK) : Prop := ∀ p ws H', H p = none → Same H H' → H' p = some (.lst ws) → Stps H' ws xs → Q (.ref p) H'
def sp_checked_script (T : Txt w K mg) : Sp := fun vs H Q E => ∃ v, vs = [v] ∧ ((∃ xs, GoodS H v xs ∧ NewS H xs Q) ∨ (BadS K H v ∧ Out T.c_InvalidScript v H E))
def sp_opposite (T : Txt w K mg) : Sp := fun vs H Q E => ∃ v, vs = [v] ∧ ((∃ xs, GoodS H v xs ∧ NewS H (xs.reverse.map fun x => (oth x.1, x.2)) Q) ∨ (BadS K H v ∧ Out T.c_InvalidScript v H E))
def sp_lowered (T : Txt w K mg) : Sp := fun vs H Q E => ∃ v u, vs = [v, u] ∧ ((∃ xs, GoodS H v xs ∧ ((∃ a, u = sV a ∧ a.length ≤ 1000 ∧ isA a = true ∧ NewS H (xs.map fun x => (x.1, a ++ x.2)) Q) ∨ (NotAdr K H u ∧ Out T.c_InvalidAddress u H E))) ∨ (BadS K H v ∧ Out T.c_InvalidScript v H E))
def sp_text_of (T : Txt w K mg) : Sp := fun vs H Q E => ∃ v, vs = [v] ∧ ((∃ xs, GoodS H v xs ∧ (textT xs).length ≤ 1000000 ∧ ∀ H', Same H H' → Q (sV (textT xs)) H') ∨ (BadS K H v ∧ Out T.c_InvalidScript v H E))
def sp_pair_of (T : Txt w K mg) : Sp := fun vs H Q E => ∃ v, vs = [v] ∧ BadS K H v ∧ Out T.c_InvalidScript v H E
def sp_read_script (T : Txt w K mg) : Sp := fun vs H Q E => ∃ v, vs = [v] ∧ ((∃ cs, v = sV cs ∧ cs.length ≤ 100000 ∧ ((∃ xs, rdText cs = some xs ∧ NewS H xs Q) ∨ (rdText cs = none ∧ Out T.c_InvalidScript v H E))) ∨ (NotStr K H v ∧ Out T.c_InvalidScript v H E))
def sp_law_read (K : PySem.W.Frag) : Sp := fun vs H Q _ => ∃ cs, vs = [sV cs] ∧ cs.length ≤ 100000 ∧ (∀ c ∈ cs, c < 0x110000) ∧ ((∃ xs, rdText cs = some xs ∧ NewS H xs Q) ∨ (rdText cs = none ∧ ∀ H', Same H H' → Q .non H'))
def sp_law_address (K : PySem.W.Frag) : Sp := fun vs H Q _ => ∃ (g : Addr) (m n : Nat), vs = [.ref g, .int m] ∧ GenAt H g n ∧ m ≤ 200 ∧ n ≤ 10000000000000 ∧ ∀ (a : List Nat) H', isA a = true → a.length ≤ m → Keep g H H' → GenAt H' g (n + 3 + 3 * m) → Q (sV a) H'
def sp_law_steps (K : PySem.W.Frag) : Sp := fun vs H Q _ => ∃ (g : Addr) (m d n : Nat), vs = [.ref g, .int m, .int d] ∧ GenAt H g n ∧ m ≤ 100 ∧ 2 ≤ d ∧ d ≤ 200 ∧ n ≤ 1000000000000 ∧
  ∀ p ws xs H', H p = none → Keep g H H' → GenAt H' g (n + (9 + 3 * d) * m) → H' p = some (.lst ws) → Stps H' ws xs → xs.length = m → (∀ x ∈ xs, okSt d x) → Q (.ref p) H'
def NotTxt (K : PySem.W.Frag) (H : Hp) (u : V) : Prop := (∃ cs, u = sV cs ∧ cs.length ≤ 100000 ∧ rdText cs = none) ∨ NotStr K H u
def Refusal (K : PySem.W.Frag) (H : Hp) (n : Nat) (u v b : V) (c : Bool) : Prop := ((n = 0 ∨ n = 1 ∨ n = 2 ∨ n = 4) ∧ BadS K H u ∧ b = u ∧ c = true) ∨ (n = 1 ∧ (∃ xs, GoodS H u xs) ∧ NotAdr K H v ∧ b = v ∧ c = false) ∨ (n = 3 ∧ NotTxt K H u ∧ b = u ∧ c = true)
def Shows (K : PySem.W.Frag) (H : Hp) (b : V) (q : PyData → Hp → Prop) : Prop := (∃ d ty, Good H b d ∧ TyX K H b ty ∧ PySem.W.kitOne K ty (.type "list") = some false ∧ ∀ H', Same H H' → q d H') ∨
  (∃ l ws, b = .ref l ∧ H l = some (.lst ws) ∧ ws.length ≤ 1000 ∧ ∀ H', Keep l H H' → H' l = some (.lst (ws ++ [V.str "more"])) → ∃ d, Good H' (.ref l) d ∧ q d H')
def sp_law_caught (T : Txt w K mg) : Sp := fun vs H Q _ => ∃ (n : Nat) (u v b : V) (c : Bool), vs = [.int (n : Nat), u, v] ∧ Refusal K H n u v b c ∧ Shows K H b fun d H' => ∀ p H2, H' p = none → Same H' H2 → H2 p = some (.lst [.bl c, .bl (!c), .str d.shown]) → Q (.ref p) H2
def sp_law_texts_right (T : Txt w K mg) : Sp := fun vs H Q _ => ∃ (g : Addr) (cs : List Nat) (n : Nat), vs = [.ref g, sV cs] ∧ GenAt H g n ∧ n ≤ 1000000000000 ∧ cs.length ≤ 20000 ∧ (∀ c ∈ cs, c < 0x110000) ∧ ∀ H', Keep g H H' → GenAt H' g (n + 9) → Q (.bl true) H'
end

section
variable {P : Program} {w : World} {K : PySem.W.Frag} {mg : Str → Option Value} {base : Heap}

theorem isA_count : ∀ a : List Nat, a.count 108 + a.count 114 ≤ a.length ∧ (isA a = true ↔ a.count 108 + a.count 114 = a.length)
  | [] => ⟨Nat.le_refl _, by simp [isA]⟩
  | c :: a => by
    obtain ⟨h1, h2⟩ := isA_count a
    have e : isA (c :: a) = ((c == 108 || c == 114) && isA a) := rfl
    rw [e, List.count_cons, List.count_cons, List.length_cons]
    by_cases h : c = 108
    · subst h
      rw [show ((108 : Nat) == 108) = true from rfl, show ((108 : Nat) == 114) = false from rfl, Bool.true_or, Bool.true_and, h2]
      simp
      omega
    · by_cases h' : c = 114
      · subst h'
        rw [show ((114 : Nat) == 108) = false from rfl, show ((114 : Nat) == 114) = true from rfl, Bool.or_true, Bool.true_and, h2]
        simp
        omega
      · have e1 : (c == 108) = false := by simp [h]
        have e2 : (c == 114) = false := by simp [h']
        rw [e1, e2]
        simp
        omega
theorem isA_dec (a : List Nat) : decide (((a.count 108 : Nat) : Int) + ((a.count 114 : Nat) : Int) = ((a.length : Nat) : Int)) = isA a := by
  obtain ⟨_, h⟩ := isA_count a
  cases e : isA a with
  | true => exact decide_eq_true (by have := h.mp e; omega)
  | false => exact decide_eq_false (fun z => by rw [h.mpr (by omega)] at e; cases e)
theorem ok_is_address (T : Txt w K mg) : FnOk P w K mg base CX0 1 T.a_is_address T.fd_is_address ["value"] (sp_is_address K) := by
  refine T.F_is_address.ok sc_is_address (fun vs H Q E h => ?_) (fun cdv A outer s H vs Q E hr h => ?_)
  · obtain ⟨v, rfl, _⟩ := h; rfl
  obtain ⟨v, rfl, h⟩ := h
  refine ⟨_, (pss_one (ps_ret (pe_and (pe_callB call_isi (by rfl) T.z_isinstance (by decide +kernel) (pa_cons (pv 0) (pa_cons (pe_bltn (v := .ty "str") (by rfl) T.z_str (by decide +kernel) rfl) pa_nil))) (pe_one (pe_cmpR op_eq (pe_op op_add (pe_m1 PySem.F.slot_str_count PySem.F.type_str_count mt_count (pv 0) pe_str) (pe_m1 PySem.F.slot_str_count PySem.F.type_str_count mt_count (pv 0) pe_str)) (pe_callB call_len_str (by rfl) T.z_len PySem.boot_len (pa_cons (pv 0) pa_nil)) (nomark _)))))), ?_⟩
  simp only [cxOf_K, tAsg2, tYes, wipe, tSeq, tIfS, tNot, tB, tCB, tCons, tNil, tVar, tC, tTest, tOp, tAnd, tOr, tAsg, gName, tRet, tRetN, tDrop, tNext, tIf, tCall, tTup, tLst, tNotV, tAndV, tOrV, tUn, rI0, rI, rU, rEq, rNe, tM1, tM0, tBM, tBM0, tSl, tPart, tNoPart, iStr, iEnumS, iRng1, iRng2, iList, gSub, tBits, tAug, tPar, L2.start, List.map_cons, List.map_nil, List.length_cons, List.length_nil, List.getElem?_cons_zero, List.getElem?_cons_succ, List.cons_append, List.nil_append, List.append_nil, List.set_cons_zero, List.set_cons_succ, List.replicate_succ, List.replicate_zero, Option.some.injEq, exists_eq_left', V.int.injEq, V.str.injEq, V.ref.injEq, V.bl.injEq, exists_and_left, exists_eq_left, List.cons.injEq, and_true, true_and, tCallX, tRs]
  rcases h with ⟨x, rfl, hx, q⟩ | ⟨⟨t, ht, hk⟩, q⟩
  · refine ⟨_, _, _, _, true, rfl, .ty _, .base (.str _), kit_ty (by decide +kernel), _, rfl, ?_⟩
    rw [if_pos rfl]
    have sl : (S x).length = x.length := S_len x
    refine ⟨⟨_, rfl⟩, S x, rfl, ⟨_, rfl⟩, S x, rfl, S x, rfl, small5 (by omega), rfl, ?_⟩
    rw [show Str.ofString "l" = S [108] by decide +kernel, show Str.ofString "r" = S [114] by decide +kernel, count_S, count_S, sl, isA_dec]
    exact q
  · refine ⟨_, _, _, _, false, rfl, .ty _, ht, hk, _, rfl, ?_⟩
    rw [if_neg Bool.false_ne_true]
    exact q

theorem okStW {n : Nat} {x : Str × List Nat} (h : okSt n x) : (kv_OTHER_WORD.lookup x.1).isSome = true := by
  rcases h.1 with e | e
  · rw [e]; decide +kernel
  · rw [e]; decide +kernel
theorem noW {z : Str} (h1 : z ≠ Str.ofString "left") (h2 : z ≠ Str.ofString "right") : (kv_OTHER_WORD.lookup z).isSome = false := by
  have e1 : (z == Str.ofString "left") = false := beq_eq_false_iff_ne.mpr h1
  have e2 : (z == Str.ofString "right") = false := beq_eq_false_iff_ne.mpr h2
  show (List.lookup z [((Str.ofString "left" : Str), (Str.ofString "right" : Str)), (Str.ofString "right", Str.ofString "left")]).isSome = false
  simp [List.lookup, e1, e2]
theorem ok_is_step (T : Txt w K mg) : FnOk P w K mg base CX0 2 T.a_is_step T.fd_is_step ["value"] (sp_is_step K) := by
  refine T.F_is_step.ok sc_is_step (fun vs H Q E h => ?_) (fun cdv A outer s H vs Q E hr h => ?_)
  · obtain ⟨v, rfl, _⟩ := h; rfl
  obtain ⟨v, rfl, h⟩ := h
  refine ⟨_, (pss_cons (ps_if (pw_or (pt_not (pt_val (pe_callB call_isi (by rfl) T.z_isinstance (by decide +kernel) (pa_cons (pv 0) (pa_cons (pe_bltn (v := .ty "tuple") (by rfl) T.z_tuple (by decide +kernel) rfl) pa_nil))))) (pw_or1 (pt_cmpR op_ne (pe_callB call_len_seq (by rfl) T.z_len PySem.boot_len (pa_cons (pv 0) pa_nil)) pe_int (nomark _)))).pt (pss_one (ps_ret pe_bl)) pss_nil)
    (pss_one (ps_ret (pe_and (pe_callB call_isi (by rfl) T.z_isinstance (by decide +kernel) (pa_cons (pe_ix ix_tup (pv 0) pe_int (fun _ _ => rfl)) (pa_cons (pe_bltn (v := .ty "str") (by rfl) T.z_str (by decide +kernel) rfl) pa_nil))) (pe_and (pe_cmpR (TD.op_inKD T.k_OTHER_WORD) (pe_ix ix_tup (pv 0) pe_int (fun _ _ => rfl)) (pe_glob (v := .ref T.d_OTHER_WORD) (by rfl) T.m_OTHER_WORD rfl) (by with_unfolding_all rfl)) (pe_one (pe_call (ok_is_address T) (hr.mono (by first | decide | omega)) (by rfl) T.m_is_address T.F_is_address.kp T.b_is_address .nil pass0 (pa_cons (pe_ix ix_tup (pv 0) pe_int (fun _ _ => rfl)) pa_nil)))))))), ?_⟩
  simp only [cxOf_K, tAsg2, tYes, wipe, tSeq, tIfS, tNot, tB, tCB, tCons, tNil, tVar, tC, tTest, tOp, tAnd, tOr, tAsg, gName, tRet, tRetN, tDrop, tNext, tIf, tCall, tTup, tLst, tNotV, tAndV, tOrV, tUn, rI0, rI, rU, rEq, rNe, tM1, tM0, tBM, tBM0, tSl, tPart, tNoPart, iStr, iEnumS, iRng1, iRng2, iList, gSub, tBits, tAug, tPar, L2.start, List.map_cons, List.map_nil, List.length_cons, List.length_nil, List.getElem?_cons_zero, List.getElem?_cons_succ, List.cons_append, List.nil_append, List.append_nil, List.set_cons_zero, List.set_cons_succ, List.replicate_succ, List.replicate_zero, Option.some.injEq, exists_eq_left', V.int.injEq, V.str.injEq, V.ref.injEq, V.bl.injEq, exists_and_left, exists_eq_left, List.cons.injEq, and_true, true_and, tCallX, tRs]
  rcases h with ⟨⟨p, x, rfl, hp, ok⟩, q⟩ | ⟨ns, q⟩
  · refine ⟨_, _, _, _, true, rfl, .ty _, .base (.tup hp), kit_ty (by decide +kernel), true, rfl, ?_⟩
    rw [if_neg (by decide)]
    refine ⟨p, rfl, _, .inr (SqT.of hp), rfl, ?_⟩
    rw [if_neg (by simp)]
    refine ⟨p, _, _, _, rfl, rfl, SqT.of hp, atI_nat (j := 0) rfl, _, _, _, _, true, rfl, .ty _, .base (.str _), kit_ty (by decide +kernel), _, rfl, ?_⟩
    rw [if_pos rfl]
    refine ⟨p, _, _, _, rfl, rfl, SqT.of hp, atI_nat (j := 0) rfl, _, rfl, rfl, _, rfl, ?_⟩
    rw [okStW ok, if_pos rfl]
    refine ⟨p, _, _, _, rfl, rfl, SqT.of hp, atI_nat (j := 1) rfl, _, rfl, .inl ⟨x.2, rfl, by have := ok.2.2; omega, ?_⟩⟩
    rw [ok.2.1]
    exact q
  · rcases ns with ⟨ty, h1, h2⟩ | ⟨p, ws, rfl, hp, hl⟩ | ⟨p, x, y, rfl, hp, r⟩
    · refine ⟨v, _, ty, _, false, rfl, .ty _, h1, h2, false, rfl, ?_⟩
      rw [if_pos (by decide), if_pos (by decide)]
      exact q
    · refine ⟨_, _, _, _, true, rfl, .ty _, .base (.tup hp), kit_ty (by decide +kernel), true, rfl, ?_⟩
      rw [if_neg (by decide)]
      refine ⟨p, rfl, _, .inr (SqT.of hp), rfl, ?_⟩
      rw [if_pos (by rw [decide_eq_false (by omega)]; rfl)]
      exact q
    · refine ⟨_, _, _, _, true, rfl, .ty _, .base (.tup hp), kit_ty (by decide +kernel), true, rfl, ?_⟩
      rw [if_neg (by decide)]
      refine ⟨p, rfl, _, .inr (SqT.of hp), rfl, ?_⟩
      rw [if_neg (by simp)]
      rcases r with ⟨ty, h1, h2⟩ | ⟨z, rfl, n1, n2⟩ | ⟨hx, na⟩
      · refine ⟨p, _, _, _, rfl, rfl, SqT.of hp, atI_nat (j := 0) rfl, _, _, _, _, false, rfl, .ty _, h1, h2, _, rfl, ?_⟩
        rw [if_neg Bool.false_ne_true]
        exact q
      · refine ⟨p, _, _, _, rfl, rfl, SqT.of hp, atI_nat (j := 0) rfl, _, _, _, _, true, rfl, .ty _, .base (.str _), kit_ty (by decide +kernel), _, rfl, ?_⟩
        rw [if_pos rfl]
        refine ⟨p, _, _, _, rfl, rfl, SqT.of hp, atI_nat (j := 0) rfl, _, rfl, rfl, _, rfl, ?_⟩
        rw [noW n1 n2, if_neg Bool.false_ne_true]
        exact q
      · obtain ⟨z, rfl, hz⟩ : ∃ z : Str, x = .str z ∧ (kv_OTHER_WORD.lookup z).isSome = true := by
          rcases hx with rfl | rfl
          · exact ⟨_, rfl, by decide +kernel⟩
          · exact ⟨_, rfl, by decide +kernel⟩
        refine ⟨p, _, _, _, rfl, rfl, SqT.of hp, atI_nat (j := 0) rfl, _, _, _, _, true, rfl, .ty _, .base (.str _), kit_ty (by decide +kernel), _, rfl, ?_⟩
        rw [if_pos rfl]
        refine ⟨p, _, _, _, rfl, rfl, SqT.of hp, atI_nat (j := 0) rfl, _, rfl, rfl, _, rfl, ?_⟩
        rw [hz, if_pos rfl]
        refine ⟨p, _, _, _, rfl, rfl, SqT.of hp, atI_nat (j := 1) rfl, _, rfl, ?_⟩
        rcases na with ⟨a, rfl, ha, hi⟩ | ns
        · refine .inl ⟨a, rfl, ha, ?_⟩
          rw [hi]
          exact q
        · exact .inr ⟨ns, q⟩

theorem Stps.get {H : Hp} : ∀ {vs : List V} {xs : List (Str × List Nat)} {i : Nat} {v : V}, Stps H vs xs → vs[i]? = some v → ∃ p x, v = .ref p ∧ xs[i]? = some x ∧ H p = some (.tup [.str x.1, sV x.2])
  | _, _, _, _, .nil, h => by simp at h
  | _, _, 0, v, @Stps.cons _ p x _ _ g t, h => ⟨p, x, by simpa using h.symm, rfl, g⟩
  | _, _, i + 1, v, .cons g t, h => by
    obtain ⟨p, x, e, h2, h3⟩ := Stps.get t (by simpa using h)
    exact ⟨p, x, e, by simpa using h2, h3⟩
theorem Stps.snoc {H : Hp} {vs : List V} {xs : List (Str × List Nat)} {p : Addr} {x : Str × List Nat} (h : Stps H vs xs) (g : H p = some (.tup [.str x.1, sV x.2])) : Stps H (vs ++ [.ref p]) (xs ++ [x]) := h.append (.cons g .nil)
theorem GoodS.isStep {H : Hp} {vs : List V} {xs : List (Str × List Nat)} (h : Stps H vs xs) (ok : ∀ x ∈ xs, okSt 3000 x) {i : Nat} {v : V} (e : vs[i]? = some v) : IsStep H v := by
  obtain ⟨p, x, rfl, h2, h3⟩ := h.get e
  exact ⟨p, x, rfl, h3, ok x (List.mem_of_getElem? h2)⟩
/-- one step more -/
theorem Stps.push {H : Hp} {D p : Addr} {us : List V} {ys : List (Str × List Nat)} {x : Str × List Nat} (hd : H D = some (.lst us)) (st : Stps H us ys) (np : H p = none) :
    Stps (upd (upd H p (.tup [.str x.1, sV x.2])) D (.lst (us ++ [.ref p]))) (us ++ [.ref p]) (ys ++ [x]) := by
  have pd : p ≠ D := fun z => by rw [z, hd] at np; cases np
  refine Stps.snoc (st.mono fun b vs hb => ?_) ?_
  · have b1 : b ≠ D := fun z => by rw [z, hd] at hb; cases hb
    have b2 : b ≠ p := fun z => by rw [z, np] at hb; cases hb
    rw [upd_ne b1, upd_ne b2]
    exact hb
  · rw [upd_ne pd, upd_same]
/-- what a turn of a comprehension that makes steps must show -/
theorem stepTail {H0 H2 : Hp} {D p2 : Addr} {us : List V} {ys : List (Str × List Nat)} {y : Str × List Nat} {i : Nat} (hD0 : H0 D = none) (s2 : Same H0 H2) (hd : H2 D = some (.lst us)) (ul : us.length = i) (su : Stps H2 us (ys.take i)) (hy : ys[i]? = some y) (hi : i ≤ 10000) (np : H2 p2 = none) :
    ∃ acc, upd H2 p2 (.tup [.str y.1, sV y.2]) D = some (.lst acc) ∧ acc.length < sizeLine ∧ Same H0 (upd (upd H2 p2 (.tup [.str y.1, sV y.2])) D (.lst (acc ++ [.ref p2]))) ∧
      ∃ us, upd (upd H2 p2 (.tup [.str y.1, sV y.2])) D (.lst (acc ++ [.ref p2])) D = some (.lst us) ∧ us.length = i + 1 ∧ Stps (upd (upd H2 p2 (.tup [.str y.1, sV y.2])) D (.lst (acc ++ [.ref p2]))) us (ys.take (i + 1)) := by
  have pD : p2 ≠ D := fun z => by rw [z, hd] at np; cases np
  refine ⟨us, by rw [upd_ne pD.symm]; exact hd, small5' (by omega), (s2.new (s2.free np) _).new hD0 _, us ++ [.ref p2], upd_same, by simp [ul], ?_⟩
  rw [List.take_succ, hy]
  exact Stps.push hd su np
theorem cutAll (z : Str) : cutS z none none = z := by
  unfold cutS
  have e1 : HT.sIx z.length 0 none = 0 := rfl
  have e2 : HT.sIx z.length z.length none = z.length := rfl
  rw [e1, e2]
  cases z with
  | mk c =>
    show (⟨(List.take c.size c.toList).toArray⟩ : Str) = ⟨c⟩
    rw [List.take_of_length_le (by simp)]
theorem wordLen {n : Nat} {x : Str × List Nat} (h : okSt n x) : x.1.length ≤ 5 := by
  rcases h.1 with e | e
  · rw [e]; decide +kernel
  · rw [e]; decide +kernel
theorem ok_checked_script (T : Txt w K mg) : FnOk P w K mg base (L2.CX P w) 4 T.a_checked_script T.fd_checked_script ["steps"] (sp_checked_script T) := by
  refine T.F_checked_script.okX sc_checked_script (fun vs H Q E h => ?_) (fun cdv A outer s H vs Q E hr h => ?_)
  · obtain ⟨v, rfl, _⟩ := h; rfl
  obtain ⟨v, rfl, h⟩ := h
  refine ⟨_, (pss_cons (ps_if (pw_or (pt_not (pt_val (pe_callB call_isi (by rfl) T.z_isinstance (by decide +kernel) (pa_cons (pv 0) (pa_cons (pe_bltn (v := .ty "list") (by rfl) T.z_list (by decide +kernel) rfl) pa_nil))))) (pw_or1 (pt_not (pt_val (pe_callB (cr_all rfl) (by rfl) T.z_all (by decide +kernel) (pa_cons (pe_lc (own := [("step", 1)]) rfl sc_checked_script.nd (pi_list (pv 0)) (blkOk_by (own := [("step", 1)]) (N := nm_checked_script) (sc := defScope s_checked_script) (by decide +kernel)) (fun _ _ _ _ _ => by exact (pg_name (i := 1) sc_checked_script.nd rfl (by first | exact Or.inl rfl | exact Or.inr rfl))) (fun _ _ _ _ _ => by exact pts_nil) (fun _ _ _ _ _ => by exact (pe_call (ok_is_step T) (hr.mono (by first | decide | omega)) (by rfl) T.m_is_step T.F_is_step.kp T.b_is_step .nil pass0 (pa_cons (pv 1) pa_nil)))) pa_nil)))))).pt (pss_one (ps_raise rfl (takes_of rfl rfl rfl rfl) (pmk_err T.o_InvalidScript (hr.mono (by first | decide | omega)) (by rfl) (pv 0)))) pss_nil)
    (pss_one (ps_ret (pe_lc (own := [("word", 2), ("address", 3)]) rfl sc_checked_script.nd (pi_list (pv 0)) (blkOk_by (own := [("word", 2), ("address", 3)]) (N := nm_checked_script) (sc := defScope s_checked_script) (by decide +kernel)) (fun _ _ _ _ _ => by exact (show PG _ _ (gTup K 2 _) from (pg_tup rfl (pgs_cons (pg_name (i := 2) sc_checked_script.nd rfl (by first | exact Or.inl rfl | exact Or.inr rfl)) (pgs_cons (pg_name (i := 3) sc_checked_script.nd rfl (by first | exact Or.inl rfl | exact Or.inr rfl)) pgs_nil))))) (fun _ _ _ _ _ => by exact pts_nil) (fun _ _ _ _ _ => by exact (pe_tup (pa_cons (pe_slice sl_str (pv 2) po_none po_none) (pa_cons (pe_slice sl_str (pv 3) po_none po_none) pa_nil)))))))), ?_⟩
  simp only [cxOf_K, tAsg2, tYes, wipe, tSeq, tIfS, tNot, tB, tCB, tCons, tNil, tVar, tC, tTest, tOp, tAnd, tOr, tAsg, gName, tRet, tRetN, tDrop, tNext, tIf, tCall, tTup, tLst, tNotV, tAndV, tOrV, tUn, rI0, rI, rU, rEq, rNe, tM1, tM0, tBM, tBM0, tSl, tPart, tNoPart, iStr, iEnumS, iRng1, iRng2, iList, gSub, tBits, tAug, tPar, L2.start, List.map_cons, List.map_nil, List.length_cons, List.length_nil, List.getElem?_cons_zero, List.getElem?_cons_succ, List.cons_append, List.nil_append, List.append_nil, List.set_cons_zero, List.set_cons_succ, List.replicate_succ, List.replicate_zero, Option.some.injEq, exists_eq_left', V.int.injEq, V.str.injEq, V.ref.injEq, V.bl.injEq, exists_and_left, exists_eq_left, List.cons.injEq, and_true, true_and, tCallX, tRs]
  rcases h with ⟨xs, ⟨a, ws, rfl, ha, st, hl, ok⟩, q⟩ | ⟨⟨ty, h1, h2⟩ | ⟨a, ws, rfl, ha, hl, al, u0, hu0, nu0⟩, out⟩
  · refine ⟨_, _, _, _, true, rfl, .ty _, .base (.lst ha), kit_ty (by decide +kernel), true, rfl, ?_⟩
    rw [if_neg (by decide)]
    refine ⟨_, rfl, a, rfl, ⟨_, SqL.of ha⟩, fun D hD => ?_⟩
    refine lc_list (K := K) (a := a) (xs := ws) (fun i H' => Same H H' ∧ H' D = some (.lst ((List.replicate i true).map V.bl))) ⟨(L2.Same.refl H).new hD _, upd_same⟩ (fun i H' _ hp => SqL.of (hp.1 _ _ ha)) ?_ ?_
    · rintro i x H' hi ⟨s0, hd⟩
      have hil : i < ws.length := (List.getElem?_eq_some_iff.mp hi).1
      simp only [cxOf_K, tAsg2, tYes, wipe, tSeq, tIfS, tNot, tB, tCB, tCons, tNil, tVar, tC, tTest, tOp, tAnd, tOr, tAsg, gName, tRet, tRetN, tDrop, tNext, tIf, tCall, tTup, tLst, tNotV, tAndV, tOrV, tUn, rI0, rI, rU, rEq, rNe, tM1, tM0, tBM, tBM0, tSl, tPart, tNoPart, iStr, iEnumS, iRng1, iRng2, iList, gSub, tBits, tAug, tPar, L2.start, List.map_cons, List.map_nil, List.length_cons, List.length_nil, List.getElem?_cons_zero, List.getElem?_cons_succ, List.cons_append, List.nil_append, List.append_nil, List.set_cons_zero, List.set_cons_succ, List.replicate_succ, List.replicate_zero, Option.some.injEq, exists_eq_left', V.int.injEq, V.str.injEq, V.ref.injEq, V.bl.injEq, exists_and_left, exists_eq_left, List.cons.injEq, and_true, true_and, tCallX, tRs]
      rw [if_pos True.intro]
      refine ⟨_, rfl, .inl ⟨(GoodS.isStep st ok hi).same s0, ?_⟩⟩
      refine ⟨_, hd, by simp; exact small5' (by omega), s0.new hD _, ?_⟩
      rw [upd_same]
      show _ = some (HO.lst ((List.replicate (i + 1) true).map V.bl))
      rw [List.replicate_succ', List.map_append]; rfl
    · rintro H' ⟨s0, hd⟩
      refine ⟨D, List.replicate ws.length true, rfl, SqL.of hd, true, by simp, ?_⟩
      refine iteF ?_
      have ha' := s0 _ _ ha
      refine ⟨_, rfl, a, rfl, ⟨_, SqL.of ha'⟩, fun D2 hD2 => ?_⟩
      refine lc_list (K := K) (a := a) (xs := ws) (fun i H2 => Same H' H2 ∧ ∃ us, H2 D2 = some (.lst us) ∧ us.length = i ∧ Stps H2 us (xs.take i)) ⟨(L2.Same.refl H').new hD2 _, [], upd_same, rfl, .nil⟩ (fun i H2 _ hp => SqL.of (hp.1 _ _ ha')) ?_ ?_
      · rintro i x H2 hi ⟨s2, us, hd2, ul, su⟩
        have hil : i < ws.length := (List.getElem?_eq_some_iff.mp hi).1
        obtain ⟨p, x, rfl, hx, hp⟩ := st.get hi
        have hp2 := s2 _ _ (s0 _ _ hp)
        have okx := ok x (List.mem_of_getElem? hx)
        simp only [gTup, gCons, gNil, cxOf_K, tAsg2, tYes, wipe, tSeq, tIfS, tNot, tB, tCB, tCons, tNil, tVar, tC, tTest, tOp, tAnd, tOr, tAsg, gName, tRet, tRetN, tDrop, tNext, tIf, tCall, tTup, tLst, tNotV, tAndV, tOrV, tUn, rI0, rI, rU, rEq, rNe, tM1, tM0, tBM, tBM0, tSl, tPart, tNoPart, iStr, iEnumS, iRng1, iRng2, iList, gSub, tBits, tAug, tPar, L2.start, List.map_cons, List.map_nil, List.length_cons, List.length_nil, List.getElem?_cons_zero, List.getElem?_cons_succ, List.cons_append, List.nil_append, List.append_nil, List.set_cons_zero, List.set_cons_succ, List.replicate_succ, List.replicate_zero, Option.some.injEq, exists_eq_left', V.int.injEq, V.str.injEq, V.ref.injEq, V.bl.injEq, exists_and_left, exists_eq_left, List.cons.injEq, and_true, true_and, tCallX, tRs]
        refine ⟨_, SqT.of hp2, rfl, _, _, rfl, _, _, rfl, rfl, ?_⟩
        rw [if_pos True.intro]
        refine ⟨_, rfl, small5 (by have := wordLen okx; omega), ?_⟩
        rw [cutAll]
        refine ⟨_, rfl, small5 (by rw [S_len]; have := okx.2.2; omega), ?_⟩
        rw [cutAll]
        refine ⟨by decide, fun p2 np2 => ?_⟩
        exact stepTail hD2 s2 hd2 ul su hx (by omega) np2
      · rintro H2 ⟨s2, us, hd2, ul, su⟩
        rw [List.take_of_length_le (Nat.le_of_eq st.length.symm)] at su
        exact q D2 us H2 (s0.free hD2) (s0.trans s2) hd2 su
  · refine ⟨v, _, ty, _, false, rfl, .ty _, h1, h2, false, rfl, ?_⟩
    rw [if_pos (show (!false) = true from rfl), if_pos True.intro]
    exact out
  · refine ⟨_, _, _, _, true, rfl, .ty _, .base (.lst ha), kit_ty (by decide +kernel), true, rfl, ?_⟩
    rw [if_neg (by decide)]
    refine ⟨_, rfl, a, rfl, ⟨_, SqL.of ha⟩, fun D hD => ?_⟩
    refine lc_list (K := K) (a := a) (xs := ws) (fun i H' => Same H H' ∧ ∃ bs : List Bool, bs.length = i ∧ H' D = some (.lst (bs.map V.bl)) ∧ ∀ k u, k < i → ws[k]? = some u → NotStep K H u → bs[k]? = some false) ⟨(L2.Same.refl H).new hD _, [], rfl, upd_same, fun k u h => by omega⟩ (fun i H' _ hp => SqL.of (hp.1 _ _ ha)) ?_ ?_
    · rintro i x H' hi ⟨s0, bs, hb, hd, no⟩
      have hil : i < ws.length := (List.getElem?_eq_some_iff.mp hi).1
      have fin : ∀ b : Bool, (NotStep K H x → b = false) → ∃ acc, H' D = some (.lst acc) ∧ acc.length < sizeLine ∧ Same H (upd H' D (.lst (acc ++ [V.bl b]))) ∧
          ∃ bs : List Bool, bs.length = i + 1 ∧ upd H' D (.lst (acc ++ [V.bl b])) D = some (.lst (bs.map V.bl)) ∧ ∀ k u, k < i + 1 → ws[k]? = some u → NotStep K H u → bs[k]? = some false := fun b nb => by
        refine ⟨_, hd, by rw [List.length_map]; exact small5' (by omega), s0.new hD _, bs ++ [b], by simp [hb], by rw [upd_same]; simp, fun k u hk hu nu => ?_⟩
        by_cases l : k < i
        · rw [List.getElem?_append_left (by omega)]
          exact no k u l hu nu
        · have ek : k = i := by omega
          subst ek
          rw [hi] at hu
          cases hu
          rw [nb nu, List.getElem?_append_right (by omega), hb, Nat.sub_self]
          rfl
      simp only [cxOf_K, tAsg2, tYes, wipe, tSeq, tIfS, tNot, tB, tCB, tCons, tNil, tVar, tC, tTest, tOp, tAnd, tOr, tAsg, gName, tRet, tRetN, tDrop, tNext, tIf, tCall, tTup, tLst, tNotV, tAndV, tOrV, tUn, rI0, rI, rU, rEq, rNe, tM1, tM0, tBM, tBM0, tSl, tPart, tNoPart, iStr, iEnumS, iRng1, iRng2, iList, gSub, tBits, tAug, tPar, L2.start, List.map_cons, List.map_nil, List.length_cons, List.length_nil, List.getElem?_cons_zero, List.getElem?_cons_succ, List.cons_append, List.nil_append, List.append_nil, List.set_cons_zero, List.set_cons_succ, List.replicate_succ, List.replicate_zero, Option.some.injEq, exists_eq_left', V.int.injEq, V.str.injEq, V.ref.injEq, V.bl.injEq, exists_and_left, exists_eq_left, List.cons.injEq, and_true, true_and, tCallX, tRs]
      rw [if_pos True.intro]
      by_cases ns : NotStep K H x
      · exact ⟨_, rfl, .inr ⟨ns.same s0, fin false fun _ => rfl⟩⟩
      · exact ⟨_, rfl, .inl ⟨((al x (List.mem_of_getElem? hi)).resolve_right ns).same s0, fin true fun z => absurd z ns⟩⟩
    · rintro H' ⟨s0, bs, hb, hd, no⟩
      obtain ⟨k, hk, ek⟩ := List.mem_iff_getElem.mp hu0
      have nk := no k u0 hk (by rw [List.getElem?_eq_getElem hk, ek]) nu0
      have hf : bs.all id = false := by
        cases e : bs.all id with
        | false => rfl
        | true => exact absurd (List.all_eq_true.mp e false (List.mem_of_getElem? nk)) Bool.false_ne_true
      refine ⟨D, bs, rfl, SqL.of hd, false, by simpa using hf, ?_⟩
      refine iteT ?_
      exact Out.same out s0

theorem ok_check_address (T : Txt w K mg) : FnOk P w K mg base (L2.CX P w) 3 T.a_check_address T.fd_check_address ["value"] (sp_check_address T) := by
  refine T.F_check_address.okX sc_check_address (fun vs H Q E h => ?_) (fun cdv A outer s H vs Q E hr h => ?_)
  · obtain ⟨v, rfl, _⟩ := h; rfl
  obtain ⟨v, rfl, h⟩ := h
  refine ⟨_, (pss_one (ps_if (pt_not (pt_val (pe_call (ok_is_address T) (hr.mono (by first | decide | omega)) (by rfl) T.m_is_address T.F_is_address.kp T.b_is_address .nil pass0 (pa_cons (pv 0) pa_nil)))) (pss_one (ps_raise rfl (takes_of rfl rfl rfl rfl) (pmk_err T.o_InvalidAddress (hr.mono (by first | decide | omega)) (by rfl) (pv 0)))) pss_nil)), ?_⟩
  simp only [cxOf_K, tAsg2, tYes, wipe, tSeq, tIfS, tNot, tB, tCB, tCons, tNil, tVar, tC, tTest, tOp, tAnd, tOr, tAsg, gName, tRet, tRetN, tDrop, tNext, tIf, tCall, tTup, tLst, tNotV, tAndV, tOrV, tUn, rI0, rI, rU, rEq, rNe, tM1, tM0, tBM, tBM0, tSl, tPart, tNoPart, iStr, iEnumS, iRng1, iRng2, iList, gSub, tBits, tAug, tPar, L2.start, List.map_cons, List.map_nil, List.length_cons, List.length_nil, List.getElem?_cons_zero, List.getElem?_cons_succ, List.cons_append, List.nil_append, List.append_nil, List.set_cons_zero, List.set_cons_succ, List.replicate_succ, List.replicate_zero, Option.some.injEq, exists_eq_left', V.int.injEq, V.str.injEq, V.ref.injEq, V.bl.injEq, exists_and_left, exists_eq_left, List.cons.injEq, and_true, true_and, tCallX, tRs]
  rcases h with ⟨a, rfl, ha, hi, q⟩ | ⟨na, out⟩
  · refine ⟨_, rfl, .inl ⟨a, rfl, by omega, true, by rw [hi], ?_⟩⟩
    rw [if_neg (by decide)]
    exact q
  · rcases na with ⟨a, rfl, ha, hi⟩ | ns
    · refine ⟨_, rfl, .inl ⟨a, rfl, ha, false, by rw [hi], ?_⟩⟩
      rw [if_pos (by decide)]
      exact out
    · refine ⟨v, rfl, .inr ⟨ns, false, rfl, ?_⟩⟩
      rw [if_pos (by decide)]
      exact out

theorem Stps.reverse {H : Hp} : ∀ {vs : List V} {xs : List (Str × List Nat)}, Stps H vs xs → Stps H vs.reverse xs.reverse
  | _, _, .nil => .nil
  | _, _, .cons a b => by
    rw [List.reverse_cons, List.reverse_cons]
    exact Stps.append (Stps.reverse b) (.cons a .nil)
theorem ok_opposite (T : Txt w K mg) : FnOk P w K mg base (L2.CX P w) 5 T.a_opposite T.fd_opposite ["steps"] (sp_opposite T) := by
  refine T.F_opposite.okX sc_opposite (fun vs H Q E h => ?_) (fun cdv A outer s H vs Q E hr h => ?_)
  · obtain ⟨v, rfl, _⟩ := h; rfl
  obtain ⟨v, rfl, h⟩ := h
  refine ⟨_, (pss_one (ps_ret (pe_lc (own := [("word", 1), ("address", 2)]) rfl sc_opposite.nd (pi_list (pe_revL (pe_callX (ok_checked_script T) (takes_of rfl rfl rfl rfl) (hr.mono (by first | decide | omega)) (by rfl) T.m_checked_script T.F_checked_script.kp T.b_checked_script .nil (pa_cons (pv 0) pa_nil)))) (blkOk_by (own := [("word", 1), ("address", 2)]) (N := nm_opposite) (sc := defScope s_opposite) (by decide +kernel)) (fun _ _ _ _ _ => by exact (show PG _ _ (gTup K 2 _) from (pg_tup rfl (pgs_cons (pg_name (i := 1) sc_opposite.nd rfl (by first | exact Or.inl rfl | exact Or.inr rfl)) (pgs_cons (pg_name (i := 2) sc_opposite.nd rfl (by first | exact Or.inl rfl | exact Or.inr rfl)) pgs_nil))))) (fun _ _ _ _ _ => by exact pts_nil) (fun _ _ _ _ _ => by exact (pe_tup (pa_cons (show PE _ _ (tOp (TD.rIxKD T.d_OTHER_WORD kv_OTHER_WORD) _ _) from (pe_ix (TD.ix_KD T.k_OTHER_WORD) (pe_glob (v := .ref T.d_OTHER_WORD) (by rfl) T.m_OTHER_WORD rfl) (pv 1) (fun _ _ => rfl))) (pa_cons (pv 2) pa_nil))))))), ?_⟩
  simp only [cxOf_K, tAsg2, tYes, wipe, tSeq, tIfS, tNot, tB, tCB, tCons, tNil, tVar, tC, tTest, tOp, tAnd, tOr, tAsg, gName, tRet, tRetN, tDrop, tNext, tIf, tCall, tTup, tLst, tNotV, tAndV, tOrV, tUn, rI0, rI, rU, rEq, rNe, tM1, tM0, tBM, tBM0, tSl, tPart, tNoPart, iStr, iEnumS, iRng1, iRng2, iList, gSub, tBits, tAug, tPar, L2.start, List.map_cons, List.map_nil, List.length_cons, List.length_nil, List.getElem?_cons_zero, List.getElem?_cons_succ, List.cons_append, List.nil_append, List.append_nil, List.set_cons_zero, List.set_cons_succ, List.replicate_succ, List.replicate_zero, Option.some.injEq, exists_eq_left', V.int.injEq, V.str.injEq, V.ref.injEq, V.bl.injEq, exists_and_left, exists_eq_left, List.cons.injEq, and_true, true_and, tCallX, tRs]
  rcases h with ⟨xs, ⟨a, ws, rfl, ha, st, hl, ok⟩, q⟩ | ⟨bs, out⟩
  · refine ⟨_, rfl, _, rfl, .inl ⟨xs, ⟨a, ws, rfl, ha, st, hl, ok⟩, fun p ws' H1 np s1 hp st1 => ?_⟩⟩
    refine ⟨p, ws', rfl, SqL.of hp, fun p3 np3 => ⟨p3, rfl, ⟨_, SqL.of upd_same⟩, ?_⟩⟩
    have s3 := s1.new (s1.free np3) (.lst ws'.reverse)
    have h3 : upd H1 p3 (.lst ws'.reverse) p3 = some (.lst ws'.reverse) := upd_same
    have st3 := st1.same ((L2.Same.refl H1).new np3 (.lst ws'.reverse))
    have wl := st.length
    have wl' := st1.length
    have sr := st3.reverse
    generalize upd H1 p3 (.lst ws'.reverse) = H3 at s3 h3 st3 sr ⊢
    refine fun D hD => lc_list (K := K) (a := p3) (xs := ws'.reverse) (fun i H2 => Same H3 H2 ∧ ∃ us, H2 D = some (.lst us) ∧ us.length = i ∧ Stps H2 us ((xs.reverse.map fun x => (oth x.1, x.2)).take i)) ⟨(L2.Same.refl H3).new hD _, [], upd_same, rfl, .nil⟩ (fun i H2 _ hp => SqL.of (hp.1 _ _ h3)) ?_ ?_
    · rintro i x H2 hi ⟨s2, us, hd2, ul, su⟩
      have hil : i < ws'.reverse.length := (List.getElem?_eq_some_iff.mp hi).1
      rw [List.length_reverse] at hil
      obtain ⟨p4, x, rfl, hx, hp4⟩ := sr.get hi
      have hp2 := s2 _ _ hp4
      have okx := ok x (List.mem_reverse.mp (List.mem_of_getElem? hx))
      simp only [gTup, gCons, gNil, cxOf_K, tAsg2, tYes, wipe, tSeq, tIfS, tNot, tB, tCB, tCons, tNil, tVar, tC, tTest, tOp, tAnd, tOr, tAsg, gName, tRet, tRetN, tDrop, tNext, tIf, tCall, tTup, tLst, tNotV, tAndV, tOrV, tUn, rI0, rI, rU, rEq, rNe, tM1, tM0, tBM, tBM0, tSl, tPart, tNoPart, iStr, iEnumS, iRng1, iRng2, iList, gSub, tBits, tAug, tPar, L2.start, List.map_cons, List.map_nil, List.length_cons, List.length_nil, List.getElem?_cons_zero, List.getElem?_cons_succ, List.cons_append, List.nil_append, List.append_nil, List.set_cons_zero, List.set_cons_succ, List.replicate_succ, List.replicate_zero, Option.some.injEq, exists_eq_left', V.int.injEq, V.str.injEq, V.ref.injEq, V.bl.injEq, exists_and_left, exists_eq_left, List.cons.injEq, and_true, true_and, tCallX, tRs]
      refine ⟨_, SqT.of hp2, rfl, _, _, rfl, _, _, rfl, rfl, ?_⟩
      rw [if_pos True.intro]
      refine ⟨x.1, oth x.1, rfl, rfl, ?_, by decide, fun p5 np5 => stepTail (y := (oth x.1, x.2)) hD s2 hd2 ul su (by rw [List.getElem?_map, hx]; rfl) (by omega) np5⟩
      rcases okx.1 with e | e
      · rw [e]; decide +kernel
      · rw [e]; decide +kernel
    · rintro H2 ⟨s2, us, hd2, ul, su⟩
      rw [List.take_of_length_le (by simp; omega)] at su
      exact q D us H2 (s3.free hD) (s3.trans s2) hd2 su
  · exact ⟨_, rfl, _, rfl, .inr ⟨bs, out⟩⟩

theorem sum_le {α : Type} {B : Nat} : ∀ (l : List α) (f : α → Nat) (_ : ∀ n ∈ l.map f, n ≤ B), (l.map f).sum ≤ l.length * B
  | [], _, _ => by simp
  | a :: l, f, h => by
    have h1 := sum_le l f fun n hn => h n (List.mem_cons_of_mem _ hn)
    have h2 := h (f a) (List.mem_cons_self ..)
    rw [List.map_cons, List.sum_cons, List.length_cons, Nat.succ_mul]
    omega
theorem join_S32 (ls : List (List Nat)) : Txt.join (S [32]) (ls.map S) = S (TL.joinL [32] ls) := by
  rw [TL.join_eq, ← S_tl (Str.join _ _), TL.tl_join, tl_mapS, tl_S]
theorem ok_text_of (T : Txt w K mg) : FnOk P w K mg base (L2.CX P w) 5 T.a_text_of T.fd_text_of ["steps"] (sp_text_of T) := by
  refine T.F_text_of.okX sc_text_of (fun vs H Q E h => ?_) (fun cdv A outer s H vs Q E hr h => ?_)
  · obtain ⟨v, rfl, _⟩ := h; rfl
  obtain ⟨v, rfl, h⟩ := h
  refine ⟨_, (pss_one (ps_ret (pe_join pe_str (pe_lc (own := [("word", 1), ("address", 2)]) rfl sc_text_of.nd (pi_list (pe_callX (ok_checked_script T) (takes_of rfl rfl rfl rfl) (hr.mono (by first | decide | omega)) (by rfl) T.m_checked_script T.F_checked_script.kp T.b_checked_script .nil (pa_cons (pv 0) pa_nil))) (blkOk_by (own := [("word", 1), ("address", 2)]) (N := nm_text_of) (sc := defScope s_text_of) (by decide +kernel)) (fun _ _ _ _ _ => by exact (show PG _ _ (gTup K 2 _) from (pg_tup rfl (pgs_cons (pg_name (i := 1) sc_text_of.nd rfl (by first | exact Or.inl rfl | exact Or.inr rfl)) (pgs_cons (pg_name (i := 2) sc_text_of.nd rfl (by first | exact Or.inl rfl | exact Or.inr rfl)) pgs_nil))))) (fun _ _ _ _ _ => by exact pts_nil) (fun _ _ _ _ _ => by exact (pe_op op_add_str (show PE _ _ (tOp (TD.rIxKD T.d_SIGN_OF kv_SIGN_OF) _ _) from (pe_ix (TD.ix_KD T.k_SIGN_OF) (pe_glob (v := .ref T.d_SIGN_OF) (by rfl) T.m_SIGN_OF rfl) (pv 1) (fun _ _ => rfl))) (pv 2))))))), ?_⟩
  simp only [cxOf_K, tAsg2, tYes, wipe, tSeq, tIfS, tNot, tB, tCB, tCons, tNil, tVar, tC, tTest, tOp, tAnd, tOr, tAsg, gName, tRet, tRetN, tDrop, tNext, tIf, tCall, tTup, tLst, tNotV, tAndV, tOrV, tUn, rI0, rI, rU, rEq, rNe, tM1, tM0, tBM, tBM0, tSl, tPart, tNoPart, iStr, iEnumS, iRng1, iRng2, iList, gSub, tBits, tAug, tPar, L2.start, List.map_cons, List.map_nil, List.length_cons, List.length_nil, List.getElem?_cons_zero, List.getElem?_cons_succ, List.cons_append, List.nil_append, List.append_nil, List.set_cons_zero, List.set_cons_succ, List.replicate_succ, List.replicate_zero, Option.some.injEq, exists_eq_left', V.int.injEq, V.str.injEq, V.ref.injEq, V.bl.injEq, exists_and_left, exists_eq_left, List.cons.injEq, and_true, true_and, tCallX, tRs]
  rcases h with ⟨xs, ⟨a, ws, rfl, ha, st, hl, ok⟩, q⟩ | ⟨bs, out⟩
  · refine ⟨⟨_, rfl⟩, _, rfl, _, rfl, .inl ⟨xs, ⟨a, ws, rfl, ha, st, hl, ok⟩, fun p ws' H1 np s1 hp st1 => ?_⟩⟩
    refine ⟨p, rfl, ⟨_, SqL.of hp⟩, ?_⟩
    have wl := st.length
    have wl' := st1.length
    refine fun D hD => lc_list (K := K) (a := p) (xs := ws') (fun i H2 => Same H1 H2 ∧ H2 D = some (.lst ((xs.take i).map fun x => sV (stT x)))) ⟨(L2.Same.refl H1).new hD _, upd_same⟩ (fun i H2 _ hq => SqL.of (hq.1 _ _ hp)) ?_ ?_
    · rintro i x H2 hi ⟨s2, hd2⟩
      have hil : i < ws'.length := (List.getElem?_eq_some_iff.mp hi).1
      obtain ⟨p4, x, rfl, hx, hp4⟩ := st1.get hi
      have hp2 := s2 _ _ hp4
      have okx := ok x (List.mem_of_getElem? hx)
      simp only [gTup, gCons, gNil, cxOf_K, tAsg2, tYes, wipe, tSeq, tIfS, tNot, tB, tCB, tCons, tNil, tVar, tC, tTest, tOp, tAnd, tOr, tAsg, gName, tRet, tRetN, tDrop, tNext, tIf, tCall, tTup, tLst, tNotV, tAndV, tOrV, tUn, rI0, rI, rU, rEq, rNe, tM1, tM0, tBM, tBM0, tSl, tPart, tNoPart, iStr, iEnumS, iRng1, iRng2, iList, gSub, tBits, tAug, tPar, L2.start, List.map_cons, List.map_nil, List.length_cons, List.length_nil, List.getElem?_cons_zero, List.getElem?_cons_succ, List.cons_append, List.nil_append, List.append_nil, List.set_cons_zero, List.set_cons_succ, List.replicate_succ, List.replicate_zero, Option.some.injEq, exists_eq_left', V.int.injEq, V.str.injEq, V.ref.injEq, V.bl.injEq, exists_and_left, exists_eq_left, List.cons.injEq, and_true, true_and, tCallX, tRs]
      refine ⟨_, SqT.of hp2, rfl, _, _, rfl, _, _, rfl, rfl, ?_⟩
      rw [if_pos True.intro]
      refine ⟨x.1, S [sgn x.1], rfl, rfl, ?_, S [sgn x.1], rfl, S x.2, rfl, small5 (by rw [S_len, S_len]; have := okx.2.2; simp; omega), ?_⟩
      · rcases okx.1 with e | e
        · rw [e]; decide +kernel
        · rw [e]; decide +kernel
      rw [S_app]
      refine ⟨_, hd2, small5' (by rw [List.length_map, List.length_take]; omega), s2.new hD _, ?_⟩
      rw [upd_same, List.take_succ, hx, List.map_append]
      rfl
    · rintro H2 ⟨s2, hd2⟩
      rw [List.take_of_length_le (by omega)] at hd2
      have e : (xs.map stT).map S = xs.map fun x => S (stT x) := by rw [List.map_map]; rfl
      refine ⟨D, rfl, (xs.map stT).map S, .inl (SqL.of (by rw [hd2, e, List.map_map]; rfl)), ?_, ?_⟩
      · have b : (((xs.map stT).map S).map (·.length)).sum ≤ xs.length * 3001 := by
          rw [e, List.map_map]
          refine sum_le _ _ fun n hn => ?_
          obtain ⟨x, hx, rfl⟩ := List.mem_map.mp hn
          have := (ok x hx).2.2
          show (S (stT x)).length ≤ _
          rw [S_len, stT, List.length_cons]
          omega
        have c : xs.length * 3001 ≤ 3000 * 3001 := Nat.mul_le_mul_right _ (by omega)
        have d : (Str.ofString " ").length = 1 := rfl
        rw [d, List.length_map, List.length_map]
        omega
      · rw [show Str.ofString " " = S [32] by decide +kernel, join_S32]
        exact q.2 H2 (s1.trans s2)
  · exact ⟨⟨_, rfl⟩, _, rfl, _, rfl, .inr ⟨bs, out⟩⟩

theorem ok_lowered (T : Txt w K mg) : FnOk P w K mg base (L2.CX P w) 5 T.a_lowered T.fd_lowered ["steps", "address"] (sp_lowered T) := by
  refine T.F_lowered.okX sc_lowered (fun vs H Q E h => ?_) (fun cdv A outer s H vs Q E hr h => ?_)
  · obtain ⟨v, u, rfl, _⟩ := h; rfl
  obtain ⟨v, u, rfl, h⟩ := h
  refine ⟨_, (pss_cons (ps_set (i := 2) sc_lowered.nd rfl (by first | exact Or.inl rfl | exact Or.inr rfl) (pe_callX (ok_checked_script T) (takes_of rfl rfl rfl rfl) (hr.mono (by first | decide | omega)) (by rfl) T.m_checked_script T.F_checked_script.kp T.b_checked_script .nil (pa_cons (pv 0) pa_nil)))
    (pss_cons (ps_expr (pe_callX (ok_check_address T) (takes_of rfl rfl rfl rfl) (hr.mono (by first | decide | omega)) (by rfl) T.m_check_address T.F_check_address.kp T.b_check_address .nil (pa_cons (pv 1) pa_nil)))
    (pss_one (ps_ret (pe_lc (own := [("word", 3), ("below", 4)]) rfl sc_lowered.nd (pi_list (pv 2)) (blkOk_by (own := [("word", 3), ("below", 4)]) (N := nm_lowered) (sc := defScope s_lowered) (by decide +kernel)) (fun _ _ _ _ _ => by exact (show PG _ _ (gTup K 2 _) from (pg_tup rfl (pgs_cons (pg_name (i := 3) sc_lowered.nd rfl (by first | exact Or.inl rfl | exact Or.inr rfl)) (pgs_cons (pg_name (i := 4) sc_lowered.nd rfl (by first | exact Or.inl rfl | exact Or.inr rfl)) pgs_nil))))) (fun _ _ _ _ _ => by exact pts_nil) (fun _ _ _ _ _ => by exact (pe_tup (pa_cons (pv 3) (pa_cons (pe_op op_add_str (pv 1) (pv 4)) pa_nil))))))))), ?_⟩
  simp only [cxOf_K, tAsg2, tYes, wipe, tSeq, tIfS, tNot, tB, tCB, tCons, tNil, tVar, tC, tTest, tOp, tAnd, tOr, tAsg, gName, tRet, tRetN, tDrop, tNext, tIf, tCall, tTup, tLst, tNotV, tAndV, tOrV, tUn, rI0, rI, rU, rEq, rNe, tM1, tM0, tBM, tBM0, tSl, tPart, tNoPart, iStr, iEnumS, iRng1, iRng2, iList, gSub, tBits, tAug, tPar, L2.start, List.map_cons, List.map_nil, List.length_cons, List.length_nil, List.getElem?_cons_zero, List.getElem?_cons_succ, List.cons_append, List.nil_append, List.append_nil, List.set_cons_zero, List.set_cons_succ, List.replicate_succ, List.replicate_zero, Option.some.injEq, exists_eq_left', V.int.injEq, V.str.injEq, V.ref.injEq, V.bl.injEq, exists_and_left, exists_eq_left, List.cons.injEq, and_true, true_and, tCallX, tRs]
  rcases h with ⟨xs, ⟨a, ws, rfl, ha, st, hl, ok⟩, h⟩ | ⟨bs, out⟩
  · refine ⟨_, rfl, .inl ⟨xs, ⟨a, ws, rfl, ha, st, hl, ok⟩, fun p ws' H1 np s1 hp st1 => ?_⟩⟩
    rcases h with ⟨b, rfl, hb, hi, q⟩ | ⟨na, out⟩
    · refine ⟨_, rfl, .inl ⟨b, rfl, hb, hi, ?_⟩⟩
      refine ⟨_, rfl, p, rfl, ⟨_, SqL.of hp⟩, ?_⟩
      have wl := st.length
      have wl' := st1.length
      refine fun D hD => lc_list (K := K) (a := p) (xs := ws') (fun i H2 => Same H1 H2 ∧ ∃ us, H2 D = some (.lst us) ∧ us.length = i ∧ Stps H2 us ((xs.map fun x => (x.1, b ++ x.2)).take i)) ⟨(L2.Same.refl H1).new hD _, [], upd_same, rfl, .nil⟩ (fun i H2 _ hq => SqL.of (hq.1 _ _ hp)) ?_ ?_
      · rintro i x H2 hi ⟨s2, us, hd2, ul, su⟩
        have hil : i < ws'.length := (List.getElem?_eq_some_iff.mp hi).1
        obtain ⟨p4, x, rfl, hx, hp4⟩ := st1.get hi
        have hp2 := s2 _ _ hp4
        have okx := ok x (List.mem_of_getElem? hx)
        simp only [gTup, gCons, gNil, cxOf_K, tAsg2, tYes, wipe, tSeq, tIfS, tNot, tB, tCB, tCons, tNil, tVar, tC, tTest, tOp, tAnd, tOr, tAsg, gName, tRet, tRetN, tDrop, tNext, tIf, tCall, tTup, tLst, tNotV, tAndV, tOrV, tUn, rI0, rI, rU, rEq, rNe, tM1, tM0, tBM, tBM0, tSl, tPart, tNoPart, iStr, iEnumS, iRng1, iRng2, iList, gSub, tBits, tAug, tPar, L2.start, List.map_cons, List.map_nil, List.length_cons, List.length_nil, List.getElem?_cons_zero, List.getElem?_cons_succ, List.cons_append, List.nil_append, List.append_nil, List.set_cons_zero, List.set_cons_succ, List.replicate_succ, List.replicate_zero, Option.some.injEq, exists_eq_left', V.int.injEq, V.str.injEq, V.ref.injEq, V.bl.injEq, exists_and_left, exists_eq_left, List.cons.injEq, and_true, true_and, tCallX, tRs]
        refine ⟨_, SqT.of hp2, rfl, _, _, rfl, _, _, rfl, rfl, ?_⟩
        rw [if_pos True.intro]
        refine ⟨_, rfl, small5 (by rw [S_len, S_len]; have := okx.2.2; omega), by decide, fun p5 np5 => ?_⟩
        rw [S_app]
        exact stepTail (y := (x.1, b ++ x.2)) hD s2 hd2 ul su (by rw [List.getElem?_map, hx]; rfl) (by omega) np5
      · rintro H2 ⟨s2, us, hd2, ul, su⟩
        rw [List.take_of_length_le (by simp; omega)] at su
        exact q D us H2 (s1.free hD) (s1.trans s2) hd2 su
    · exact ⟨_, rfl, .inr ⟨na.same s1, Out.same out s1⟩⟩
  · exact ⟨_, rfl, .inr ⟨bs, out⟩⟩

theorem spl_len (c : Nat) : ∀ l : List Nat, (spl c l).length ≤ l.length + 1
  | [] => by simp [spl]
  | x :: xs => by
    have ih := spl_len c xs
    unfold spl
    split
    · simp; omega
    · simp only [List.length_cons, List.length_tail]
      omega
theorem rdAll_snoc : ∀ (ps : List (List Nat)) (xs : List (Str × List Nat)) (p : List Nat) (x : Str × List Nat), rdAll ps = some xs → rdPiece p = some x → rdAll (ps ++ [p]) = some (xs ++ [x])
  | [], xs, p, x, h, g => by
    cases (show some [] = some xs from h)
    show (rdPiece p).bind _ = _
    rw [g]; rfl
  | q :: ps, xs, p, x, h, g => by
    have h : (rdPiece q).bind (fun x => (rdAll ps).map fun y => x :: y) = some xs := h
    show (rdPiece q).bind (fun x => (rdAll (ps ++ [p])).map fun y => x :: y) = _
    obtain ⟨z, hz, h⟩ := Option.bind_eq_some_iff.mp h
    obtain ⟨ys, hy, rfl⟩ := Option.map_eq_some_iff.mp h
    rw [hz, rdAll_snoc ps ys p x hy g]; rfl
theorem rdAll_none : ∀ (ps : List (List Nat)) (p : List Nat), p ∈ ps → rdPiece p = none → rdAll ps = none
  | q :: ps, p, h, g => by
    show (rdPiece q).bind (fun x => (rdAll ps).map fun y => x :: y) = _
    rcases List.mem_cons.mp h with rfl | h
    · rw [g]; rfl
    · rw [rdAll_none ps p h g]
      cases rdPiece q <;> rfl
theorem cutHead (c : List Nat) : cutS (S c) none (some 1) = S (c.take 1) := by
  unfold cutS
  have e1 : HT.sIx (S c).length 0 none = 0 := rfl
  have e2 : HT.sIx (S c).length (S c).length (some 1) = min 1 c.length := by
    have := S_len c
    unfold HT.sIx
    simp [this]
    try omega
  rw [e1, e2]
  show S ((c.drop 0).take (min 1 c.length - 0)) = _
  rw [List.drop_zero, Nat.sub_zero]
  cases c <;> simp
theorem cutRest (c : List Nat) : cutS (S c) (some 1) none = S (c.drop 1) := by
  unfold cutS
  have e1 : HT.sIx (S c).length 0 (some 1) = min 1 c.length := by
    have := S_len c
    unfold HT.sIx
    simp [this]
    try omega
  have e2 : HT.sIx (S c).length (S c).length none = c.length := S_len c
  rw [e1, e2]
  show S ((c.drop (min 1 c.length)).take (c.length - min 1 c.length)) = _
  cases c with
  | nil => rfl
  | cons a c => simp
theorem wordOf (c : List Nat) : (∃ x, rdPiece c = some x ∧ kv_WORD_OF.lookup (S (c.take 1)) = some x.1 ∧ isA (c.drop 1) = true ∧ x.2 = c.drop 1 ∧ (x.1 = Str.ofString "left" ∨ x.1 = Str.ofString "right")) ∨
    (rdPiece c = none ∧ (kv_WORD_OF.lookup (S (c.take 1)) = none ∨ ((kv_WORD_OF.lookup (S (c.take 1))).isSome = true ∧ isA (c.drop 1) = false))) := by
  have k : ∀ z : Str, kv_WORD_OF.lookup z = if z = S [60] then some (Str.ofString "left") else if z = S [62] then some (Str.ofString "right") else none := fun z => by
    show List.lookup z [((Str.ofString "<" : Str), (Str.ofString "left" : Str)), (Str.ofString ">", Str.ofString "right")] = _
    rw [show (Str.ofString "<" : Str) = S [60] by decide +kernel, show (Str.ofString ">" : Str) = S [62] by decide +kernel]
    by_cases h1 : z = S [60]
    · rw [if_pos h1, List.lookup, show (z == S [60]) = true from by rw [h1]; exact beq_self_eq_true _]
    · rw [if_neg h1, List.lookup, show (z == S [60]) = false from beq_eq_false_iff_ne.mpr h1]
      by_cases h2 : z = S [62]
      · rw [if_pos h2]
        simp only [List.lookup, show (z == S [62]) = true from by rw [h2]; exact beq_self_eq_true _]
      · rw [if_neg h2]
        simp only [List.lookup, show (z == S [62]) = false from beq_eq_false_iff_ne.mpr h2]
  cases c with
  | nil =>
    refine .inr ⟨rfl, .inl ?_⟩
    rw [k, if_neg (by rw [S_iff]; simp), if_neg (by rw [S_iff]; simp)]
  | cons a c =>
    have e1 : (a :: c).take 1 = [a] := by simp
    have e2 : (a :: c).drop 1 = c := rfl
    rw [e1, e2, k]
    have r : rdPiece (a :: c) = if isA c then (if a = 60 then some (Str.ofString "left", c) else if a = 62 then some (Str.ofString "right", c) else none) else none := rfl
    rw [r]
    have n60 : S [a] = S [60] ↔ a = 60 := by rw [S_iff]; simp
    have n62 : S [a] = S [62] ↔ a = 62 := by rw [S_iff]; simp
    cases hi : isA c with
    | false =>
      refine .inr ⟨rfl, ?_⟩
      by_cases h1 : a = 60
      · rw [if_pos (n60.symm.mp h1)]; exact .inr ⟨rfl, rfl⟩
      · rw [if_neg (fun z => h1 (n60.mp z))]
        by_cases h2 : a = 62
        · rw [if_pos (n62.symm.mp h2)]; exact .inr ⟨rfl, rfl⟩
        · rw [if_neg (fun z => h2 (n62.mp z))]; exact .inl rfl
    | true =>
      rw [if_pos rfl]
      by_cases h1 : a = 60
      · rw [if_pos (n60.symm.mp h1), if_pos h1]; exact .inl ⟨_, rfl, rfl, rfl, rfl, .inl rfl⟩
      · rw [if_neg (fun z => h1 (n60.mp z)), if_neg h1]
        by_cases h2 : a = 62
        · rw [if_pos (n62.symm.mp h2), if_pos h2]; exact .inl ⟨_, rfl, rfl, rfl, rfl, .inr rfl⟩
        · rw [if_neg (fun z => h2 (n62.mp z)), if_neg h2]; exact .inr ⟨rfl, .inl rfl⟩
theorem ok_read_script (T : Txt w K mg) : FnOk P w K mg base (L2.CX P w) 4 T.a_read_script T.fd_read_script ["text"] (sp_read_script T) := by
  refine T.F_read_script.okX sc_read_script (fun vs H Q E h => ?_) (fun cdv A outer s H vs Q E hr h => ?_)
  · obtain ⟨v, rfl, _⟩ := h; rfl
  obtain ⟨v, rfl, h⟩ := h
  refine ⟨_, (pss_cons (ps_if (pt_not (pt_val (pe_callB call_isi (by rfl) T.z_isinstance (by decide +kernel) (pa_cons (pv 0) (pa_cons (pe_bltn (v := .ty "str") (by rfl) T.z_str (by decide +kernel) rfl) pa_nil))))) (pss_one (ps_raise rfl (takes_of rfl rfl rfl rfl) (pmk_err T.o_InvalidScript (hr.mono (by first | decide | omega)) (by rfl) (pv 0)))) pss_nil)
    (pss_cons (ps_if (pt_cmpR op_eq (pv 0) pe_str (nomark _)) (pss_one (ps_ret (pe_lst pa_nil))) pss_nil)
    (pss_cons (ps_set (i := 1) sc_read_script.nd rfl (by first | exact Or.inl rfl | exact Or.inr rfl) (pe_lst pa_nil))
    (pss_cons (ps_for (passes_of rfl) rfl (pi_list (pe_split (pv 0) pe_str)) (pg_name (i := 2) sc_read_script.nd rfl (by first | exact Or.inl rfl | exact Or.inr rfl)) (pss_cons (ps_if (pw_or (pt_cmpR (TD.op_niKD T.k_WORD_OF) (pe_slice sl_str (pv 2) po_none (po_some pe_int)) (pe_glob (v := .ref T.d_WORD_OF) (by rfl) T.m_WORD_OF rfl) (by with_unfolding_all rfl)) (pw_or1 (pt_not (pt_val (pe_call (ok_is_address T) (hr.mono (by first | decide | omega)) (by rfl) T.m_is_address T.F_is_address.kp T.b_is_address .nil pass0 (pa_cons (pe_slice sl_str (pv 2) (po_some pe_int) po_none) pa_nil)))))).pt (pss_one (ps_raise rfl (takes_of rfl rfl rfl rfl) (pmk_err T.o_InvalidScript (hr.mono (by first | decide | omega)) (by rfl) (pv 0)))) pss_nil)
    (pss_one (ps_expr (pe_bm PySem.F.plainAttrs_list PySem.F.slot_list_append PySem.F.type_list_append mt_append (pv 1) (pa_cons (pe_tup (pa_cons (pe_ix (TD.ix_KD T.k_WORD_OF) (pe_glob (v := .ref T.d_WORD_OF) (by rfl) T.m_WORD_OF rfl) (pe_slice sl_str (pv 2) po_none (po_some pe_int)) (fun _ _ => rfl)) (pa_cons (pe_slice sl_str (pv 2) (po_some pe_int) po_none) pa_nil))) pa_nil))))))
    (pss_one (ps_ret (pv 1))))))), ?_⟩
  simp only [cxOf_K, tAsg2, tYes, wipe, tSeq, tIfS, tNot, tB, tCB, tCons, tNil, tVar, tC, tTest, tOp, tAnd, tOr, tAsg, gName, tRet, tRetN, tDrop, tNext, tIf, tCall, tTup, tLst, tNotV, tAndV, tOrV, tUn, rI0, rI, rU, rEq, rNe, tM1, tM0, tBM, tBM0, tSl, tPart, tNoPart, iStr, iEnumS, iRng1, iRng2, iList, gSub, tBits, tAug, tPar, L2.start, List.map_cons, List.map_nil, List.length_cons, List.length_nil, List.getElem?_cons_zero, List.getElem?_cons_succ, List.cons_append, List.nil_append, List.append_nil, List.set_cons_zero, List.set_cons_succ, List.replicate_succ, List.replicate_zero, Option.some.injEq, exists_eq_left', V.int.injEq, V.str.injEq, V.ref.injEq, V.bl.injEq, exists_and_left, exists_eq_left, List.cons.injEq, and_true, true_and, tCallX, tRs]
  rcases h with ⟨cs, rfl, hl, h⟩ | ⟨⟨ty, h1, h2⟩, out⟩
  · refine ⟨_, _, _, _, true, rfl, .ty _, .base (.str _), kit_ty (by decide +kernel), true, rfl, ?_⟩
    rw [if_neg (by decide)]
    refine ⟨rfl, ?_⟩
    have e0 : Str.ofString "" = S [] := by decide +kernel
    by_cases he : cs = []
    · subst he
      rw [e0]
      refine ifdT rfl ⟨by decide, fun p np => ?_⟩
      rcases h with ⟨xs, hx, q⟩ | ⟨hx, _⟩
      · cases (show some [] = some xs from hx)
        exact q p [] _ np ((L2.Same.refl H).new np _) upd_same .nil
      · cases (show some [] = none from hx)
    rw [e0]
    refine ifdF (fun z => he (by have z' : S cs = S [] := V.str.inj z; exact S_inj z')) ⟨by decide, fun p np => ?_⟩
    have sl : (S cs).length = cs.length := S_len cs
    have h : (∀ xs, rdAll (spl 32 cs) = some xs → NewS H xs Q) ∧ (rdAll (spl 32 cs) = none → Out T.c_InvalidScript (sV cs) H E) := by
      have e : rdText cs = rdAll (spl 32 cs) := by unfold rdText; rw [if_neg he]
      rw [e] at h
      rcases h with ⟨xs, hx, q⟩ | ⟨hx, o⟩
      · exact ⟨fun ys hy => (by rw [hx] at hy; cases hy; exact q), fun z => (by rw [hx] at z; cases z)⟩
      · exact ⟨fun ys hy => (by rw [hx] at hy; cases hy), fun _ => o⟩
    have s1 := (L2.Same.refl H).new np (.lst [])
    have h1 : upd H p (.lst []) p = some (.lst []) := upd_same
    generalize upd H p (.lst []) = H1 at s1 h1 ⊢
    have e32 : Str.ofString " " = S [32] := by decide +kernel
    rw [e32]
    refine ⟨_, rfl, ⟨_, rfl⟩, S cs, rfl, S [32], rfl, rfl, small5 (by rw [sl]; omega), fun p2 np2 => ?_⟩
    rw [split_S cs 32 (by decide)] at *
    have pp2 : p ≠ p2 := fun z => by rw [z, np2] at h1; cases h1
    have s2 := s1.new (s1.free np2) (.lst (((spl 32 cs).map S).map V.str))
    have h2 : upd H1 p2 (.lst (((spl 32 cs).map S).map V.str)) p2 = some (.lst ((spl 32 cs).map sV)) := by rw [upd_same, List.map_map]; rfl
    have h1' : upd H1 p2 (.lst (((spl 32 cs).map S).map V.str)) p = some (.lst []) := by rw [upd_ne pp2]; exact h1
    generalize upd H1 p2 (.lst (((spl 32 cs).map S).map V.str)) = H2 at s2 h2 h1' ⊢
    have pl : (spl 32 cs).length ≤ cs.length + 1 := spl_len 32 cs
    refine ⟨p2, rfl, ⟨_, SqL.of h2⟩, for_list (K := K) (a := p2) (xs := (spl 32 cs).map sV) (fun i σ H' => ∃ (ws : List V) (xs : List (Str × List Nat)) (a3 : Option V), σ = [some (sV cs), some (.ref p), a3] ∧ Same H H' ∧ H' p2 = some (.lst ((spl 32 cs).map sV)) ∧ H' p = some (.lst ws) ∧ Stps H' ws xs ∧ xs.length = i ∧ rdAll ((spl 32 cs).take i) = some xs) ⟨[], [], none, rfl, s2, h2, h1', .nil, rfl, rfl⟩ ?_ ?_ ?_⟩
    · rintro i σ H' hi ⟨ws, xs, a3, rfl, s3, h3, h4, st, xl, rx⟩
      exact SqL.of h3
    · rintro i x σ H' hi ⟨ws, xs, a3, rfl, s3, h3, h4, st, xl, rx⟩
      simp only [cxOf_K, tAsg2, tYes, wipe, tSeq, tIfS, tNot, tB, tCB, tCons, tNil, tVar, tC, tTest, tOp, tAnd, tOr, tAsg, gName, tRet, tRetN, tDrop, tNext, tIf, tCall, tTup, tLst, tNotV, tAndV, tOrV, tUn, rI0, rI, rU, rEq, rNe, tM1, tM0, tBM, tBM0, tSl, tPart, tNoPart, iStr, iEnumS, iRng1, iRng2, iList, gSub, tBits, tAug, tPar, L2.start, List.map_cons, List.map_nil, List.length_cons, List.length_nil, List.getElem?_cons_zero, List.getElem?_cons_succ, List.cons_append, List.nil_append, List.append_nil, List.set_cons_zero, List.set_cons_succ, List.replicate_succ, List.replicate_zero, Option.some.injEq, exists_eq_left', V.int.injEq, V.str.injEq, V.ref.injEq, V.bl.injEq, exists_and_left, exists_eq_left, List.cons.injEq, and_true, true_and, tCallX, tRs]
      rw [List.getElem?_map] at hi
      obtain ⟨c, hc, rfl⟩ := Option.map_eq_some_iff.mp hi
      have hil : i < (spl 32 cs).length := (List.getElem?_eq_some_iff.mp hc).1
      have cl : c.length ≤ 100000 := Nat.le_trans (spl_le 32 cs c (List.mem_of_getElem? hc)) hl
      have sz : (S c).length ≤ sizeLine := small5 (by rw [S_len]; omega)
      have fin : rdPiece c = none → ∀ (d : Addr) (H2 : Hp), Same H' H2 → H' d = none → H2 d = some (HO.xd [(Str.ofString "value", sV cs)]) → E (Value.ref T.c_InvalidScript) (some d) H2 := fun hn d H2 s4 nd hd =>
        h.2 (rdAll_none _ c (List.mem_of_getElem? hc) hn) d H2 (s3.trans s4) (s3.free nd) hd
      refine ⟨_, rfl, sz, ?_⟩
      rw [cutHead]
      refine ⟨_, rfl, rfl, _, rfl, ?_⟩
      rcases wordOf c with ⟨x, hx, hw, hi2, hx2, hxw⟩ | ⟨hn, hw | ⟨hw, hi2⟩⟩
      · rw [hw, if_neg (by simp)]
        refine ⟨_, rfl, sz, ?_⟩
        rw [cutRest]
        refine ⟨_, rfl, .inl ⟨_, rfl, by simp; omega, ?_⟩⟩
        rw [hi2]
        refine ⟨true, rfl, ?_⟩
        rw [if_neg (by decide)]
        refine ⟨tyV_lst h4, _, rfl, sz, ?_⟩
        rw [cutHead]
        refine ⟨_, x.1, rfl, rfl, hw, _, rfl, sz, ?_⟩
        rw [cutRest, ← hx2]
        refine ⟨by decide, fun p5 np5 => ?_⟩
        have pp5 : p5 ≠ p := fun z => by rw [z, h4] at np5; cases np5
        have pp52 : p5 ≠ p2 := fun z => by rw [z, h3] at np5; cases np5
        refine ⟨p, ws, _, rfl, rfl, by rw [upd_ne pp5.symm]; exact h4, small5' (by have := st.length; omega), (s3.new (s3.free np5) _).new np _, by rw [upd_ne pp2.symm, upd_ne pp52.symm]; exact h3, _, upd_same, _, Stps.push h4 st np5, by simp [xl], ?_⟩
        rw [List.take_succ, hc]
        exact rdAll_snoc _ _ _ _ rx hx
      · rw [hw, if_pos (by rfl), if_pos True.intro]
        exact fin hn
      · rw [hw, if_neg (by simp)]
        refine ⟨_, rfl, sz, ?_⟩
        rw [cutRest]
        refine ⟨_, rfl, .inl ⟨_, rfl, by simp; omega, ?_⟩⟩
        rw [hi2]
        refine ⟨false, rfl, ?_⟩
        rw [if_pos (by decide)]
        exact fin hn
    · rintro σ H' ⟨ws, xs, a3, rfl, s3, h3, h4, st, xl, rx⟩
      simp only [cxOf_K, tAsg2, tYes, wipe, tSeq, tIfS, tNot, tB, tCB, tCons, tNil, tVar, tC, tTest, tOp, tAnd, tOr, tAsg, gName, tRet, tRetN, tDrop, tNext, tIf, tCall, tTup, tLst, tNotV, tAndV, tOrV, tUn, rI0, rI, rU, rEq, rNe, tM1, tM0, tBM, tBM0, tSl, tPart, tNoPart, iStr, iEnumS, iRng1, iRng2, iList, gSub, tBits, tAug, tPar, L2.start, List.map_cons, List.map_nil, List.length_cons, List.length_nil, List.getElem?_cons_zero, List.getElem?_cons_succ, List.cons_append, List.nil_append, List.append_nil, List.set_cons_zero, List.set_cons_succ, List.replicate_succ, List.replicate_zero, Option.some.injEq, exists_eq_left', V.int.injEq, V.str.injEq, V.ref.injEq, V.bl.injEq, exists_and_left, exists_eq_left, List.cons.injEq, and_true, true_and, tCallX, tRs]
      rw [List.length_map, List.take_length] at rx
      exact h.1 xs rx p ws H' np s3 h4 st
  · refine ⟨v, _, ty, _, false, rfl, .ty _, h1, h2, false, rfl, ?_⟩
    rw [if_pos (by decide)]
    exact out

theorem ok_Growth___init__ (T : Txt w K mg) : FnOk P w K mg base CX0 1 T.a_Growth___init__ T.fd_Growth___init__ ["self"] (sp_Growth___init__ T) := by
  refine T.F_Growth___init__.ok sc_Growth___init__ (fun vs H Q E h => ?_) (fun cdv A outer s H vs Q E hr h => ?_)
  · obtain ⟨H0, p, dx, rfl, _⟩ := h; rfl
  obtain ⟨H0, p, dx, rfl, s0, np, hp, q⟩ := h
  refine ⟨_, (pss_cons (ps_fld (pv 0) pe_dnewK rfl)
    (pss_cons (ps_fld (pv 0) pe_dnewK rfl)
    (pss_one (ps_fld (pv 0) pe_int rfl)))), ?_⟩
  intro lo nlo
  have npl : p ≠ lo := ne_of_none hp nlo
  have s1 := s0.new (s0.free nlo) (.dK [])
  have hp1 : upd H lo (.dK []) p = _ := (upd_ne npl).trans hp
  have hlo : upd H lo (.dK []) lo = some (.dK []) := upd_same
  have nlo0 := s0.free nlo
  generalize upd H lo (.dK []) = H1 at s1 hp1 hlo ⊢
  refine ⟨_, rfl, p, T.c_Growth, dx, [], rfl, hp1, T.l_Growth, T.n_Growth_origin, (by decide), ?_⟩
  have s2 := s1.new np (.ins T.c_Growth dx (putF "origin" (.ref lo) []))
  have hp2 : upd H1 p (.ins T.c_Growth dx (putF "origin" (.ref lo) [])) p = some _ := upd_same
  have hlo2 : upd H1 p (.ins T.c_Growth dx (putF "origin" (.ref lo) [])) lo = _ := (upd_ne npl.symm).trans hlo
  generalize upd H1 p (.ins T.c_Growth dx (putF "origin" (.ref lo) [])) = H2 at s2 hp2 hlo2 ⊢
  intro lc nlc
  have npc : p ≠ lc := ne_of_none hp2 nlc
  have nlc2 : lo ≠ lc := ne_of_none hlo2 nlc
  have nlc0 := s2.free nlc
  have s3 := s2.new nlc0 (.dK [])
  have hp3 : upd H2 lc (.dK []) p = _ := (upd_ne npc).trans hp2
  have hlo3 : upd H2 lc (.dK []) lo = _ := (upd_ne nlc2).trans hlo2
  have hlc3 : upd H2 lc (.dK []) lc = some (.dK []) := upd_same
  generalize upd H2 lc (.dK []) = H3 at s3 hp3 hlo3 hlc3 ⊢
  refine ⟨_, rfl, p, T.c_Growth, dx, _, rfl, hp3, T.l_Growth, T.n_Growth_current, Nat.lt_of_le_of_lt (putF_len _ _ _) (by decide), ?_⟩
  refine ⟨_, rfl, p, T.c_Growth, dx, _, rfl, upd_same, T.l_Growth, T.n_Growth_many, Nat.lt_of_le_of_lt (putF_len _ _ _) (Nat.lt_of_le_of_lt (Nat.succ_le_succ (putF_len _ _ _)) (by decide)), ?_⟩
  refine q _ ⟨?_, np, dx, lo, lc, nlo0, nlc0, nlc2, ?_, ?_, ?_⟩
  · exact (s3.new np _).new np _
  · rw [upd_same]
    exact congrArg (fun z => some (HO.ins T.c_Growth dx z)) (gf_make lo lc 1)
  · rw [upd_ne npl.symm, upd_ne npl.symm]; exact hlo3
  · rw [upd_ne npc.symm, upd_ne npc.symm]; exact hlc3

theorem ok_pair_of (T : Txt w K mg) : FnOk P w K mg base (L2.CX P w) 6 T.a_pair_of T.fd_pair_of ["steps"] (sp_pair_of T) := by
  refine T.F_pair_of.okX sc_pair_of (fun vs H Q E h => ?_) (fun cdv A outer s H vs Q E hr h => ?_)
  · obtain ⟨v, rfl, _⟩ := h; rfl
  obtain ⟨v, rfl, bs, out⟩ := h
  refine ⟨_, (pss_cons (ps_set (i := 1) sc_pair_of.nd rfl (by first | exact Or.inl rfl | exact Or.inr rfl) (pe_make0 T.k_Growth (ok_Growth___init__ T) (hr.mono (by first | decide | omega)) (by rfl) T.g_Growth T.b_Growth___init__ .nil pass0))
    (pss_cons (ps_for (passes_of rfl) rfl (pi_list (pe_callX (ok_checked_script T) (takes_of rfl rfl rfl rfl) (hr.mono (by first | decide | omega)) (by rfl) T.m_checked_script T.F_checked_script.kp T.b_checked_script .nil (pa_cons (pv 0) pa_nil))) (pg_tup rfl (pgs_cons (pg_name (i := 2) sc_pair_of.nd rfl (by first | exact Or.inl rfl | exact Or.inr rfl)) (pgs_cons (pg_name (i := 3) sc_pair_of.nd rfl (by first | exact Or.inl rfl | exact Or.inr rfl)) pgs_nil))) TD.pss_dead) TD.pss_dead)), ?_⟩
  intro x dx nx ndx nex
  have s0 : Same H (upd (upd H dx (.own x)) x (.ins T.c_Growth dx [])) := ((L2.Same.refl H).new ndx _).new nx _
  refine ⟨H, x, dx, rfl, s0, nx, upd_same, fun H1 R1 => ⟨rfl, ?_⟩⟩
  refine ⟨_, rfl, _, rfl, .inr ⟨bs.same R1.1, Out.same out R1.1⟩⟩

theorem ok_law_cell (T : Txt w K mg) : FnOk P w K mg base CX0 1 T.a_law_cell T.fd_law_cell ["_law_script", "_law_index"] (sp_law_cell K) := by
  refine T.F_law_cell.ok sc_law_cell (fun vs H Q E h => ?_) (fun cdv A outer s H vs Q E hr h => ?_)
  · obtain ⟨a, ns, i, rfl, _⟩ := h; rfl
  obtain ⟨a, ns, i, rfl, ha, q⟩ := h
  refine ⟨_, (pss_cons (ps_if (pt_cmpR op_lt (pv 1) (pe_callB call_len_seq (by rfl) T.z_len PySem.boot_len (pa_cons (pv 0) pa_nil)) (nomark _)) (pss_one (ps_ret (pe_ix ix_list (pv 0) (pv 1) (fun _ _ => rfl)))) pss_nil)
    (pss_one (ps_ret pe_int))), ?_⟩
  simp only [cxOf_K, tAsg2, tYes, wipe, tSeq, tIfS, tNot, tB, tCB, tCons, tNil, tVar, tC, tTest, tOp, tAnd, tOr, tAsg, gName, tRet, tRetN, tDrop, tNext, tIf, tCall, tTup, tLst, tNotV, tAndV, tOrV, tUn, rI0, rI, rU, rEq, rNe, tM1, tM0, tBM, tBM0, tSl, tPart, tNoPart, iStr, iEnumS, iRng1, iRng2, iList, gSub, tBits, tAug, tPar, L2.start, List.map_cons, List.map_nil, List.length_cons, List.length_nil, List.getElem?_cons_zero, List.getElem?_cons_succ, List.cons_append, List.nil_append, List.append_nil, List.set_cons_zero, List.set_cons_succ, List.replicate_succ, List.replicate_zero, Option.some.injEq, exists_eq_left', V.int.injEq, V.str.injEq, V.ref.injEq, V.bl.injEq, exists_and_left, exists_eq_left, List.cons.injEq, and_true, true_and, tCallX, tRs]
  refine ⟨_, .inl ha, ?_⟩
  rw [List.length_map]
  by_cases h : (i : Int) < (ns.length : Int)
  · refine ifdT h ?_
    have hi : i < ns.length := by omega
    refine ⟨a, _, (i : Int), _, rfl, rfl, ha, atI_nat (by rw [List.getElem?_map, List.getElem?_eq_getElem hi]; rfl), ?_⟩
    rw [List.getD_eq_getElem?_getD, List.getElem?_eq_getElem hi] at q
    exact q
  · refine ifdF h ?_
    rw [List.getD_eq_getElem?_getD, List.getElem?_eq_none (by omega)] at q
    exact q
theorem ok_law_hash (T : Txt w K mg) : FnOk P w K mg base CX0 1 T.a_law_hash T.fd_law_hash ["_law_seed", "_law_index"] (sp_law_hash K) := by
  refine T.F_law_hash.ok sc_law_hash (fun vs H Q E h => ?_) (fun cdv A outer s H vs Q E hr h => ?_)
  · obtain ⟨a, i, rfl, _⟩ := h; rfl
  obtain ⟨a, i, rfl, h0, h1, q⟩ := h
  refine ⟨_, (pss_cons (ps_set (i := 2) sc_law_hash.nd rfl (by first | exact Or.inl rfl | exact Or.inr rfl) (pe_op op_mod (pe_callTy call_intI (by rfl) T.z_int (by decide +kernel) (pa_cons (pe_op op_add (pe_op op_add (pe_op op_add (pe_op op_mul (pv 0) pe_int) (pe_op op_mul (pe_op op_mul pe_int (pv 1)) (pv 1))) (pv 1)) pe_int) pa_nil)) pe_int))
    (pss_cons (ps_set (i := 2) sc_law_hash.nd rfl (by first | exact Or.inl rfl | exact Or.inr rfl) (pe_op op_mod (pe_callTy call_intI (by rfl) T.z_int (by decide +kernel) (pa_cons (pe_op op_add (pe_op op_mul (pv 2) (pv 2)) pe_int) pa_nil)) pe_int))
    (pss_one (ps_ret (pe_op op_mod (pe_callTy call_intI (by rfl) T.z_int (by decide +kernel) (pa_cons (pe_op op_mul (pv 2) pe_int) pa_nil)) pe_int))))), ?_⟩
  simp only [cxOf_K, tAsg2, tYes, wipe, tSeq, tIfS, tNot, tB, tCB, tCons, tNil, tVar, tC, tTest, tOp, tAnd, tOr, tAsg, gName, tRet, tRetN, tDrop, tNext, tIf, tCall, tTup, tLst, tNotV, tAndV, tOrV, tUn, rI0, rI, rU, rEq, rNe, tM1, tM0, tBM, tBM0, tSl, tPart, tNoPart, iStr, iEnumS, iRng1, iRng2, iList, gSub, tBits, tAug, tPar, L2.start, List.map_cons, List.map_nil, List.length_cons, List.length_nil, List.getElem?_cons_zero, List.getElem?_cons_succ, List.cons_append, List.nil_append, List.append_nil, List.set_cons_zero, List.set_cons_succ, List.replicate_succ, List.replicate_zero, Option.some.injEq, exists_eq_left', V.int.injEq, V.str.injEq, V.ref.injEq, V.bl.injEq, exists_and_left, exists_eq_left, List.cons.injEq, and_true, true_and, tCallX, tRs]
  refine ⟨cmulR (by decide), cmulL (by decide), cmulR (by omega), by decide, cmulR (cmod _ (by decide) (by decide)), by decide, cmulR (by decide), by decide, q _⟩
theorem ok_law_generator (T : Txt w K mg) : FnOk P w K mg base CX0 2 T.a_law_generator T.fd_law_generator ["_law_script", "_law_index"] (sp_law_generator K) := by
  refine T.F_law_generator.ok sc_law_generator (fun vs H Q E h => ?_) (fun cdv A outer s H vs Q E hr h => ?_)
  · obtain ⟨a, ns, i, rfl, _⟩ := h; rfl
  obtain ⟨a, ns, i, rfl, ha, q⟩ := h
  refine ⟨_, (pss_cons (ps_set (i := 2) sc_law_generator.nd rfl (by first | exact Or.inl rfl | exact Or.inr rfl) (pe_call (ok_law_cell T) (hr.mono (by first | decide | omega)) (by rfl) T.m_law_cell T.F_law_cell.kp T.b_law_cell .nil pass0 (pa_cons (pv 0) (pa_cons (pv 1) pa_nil))))
    (pss_one (ps_ret (pe_lst (pa_cons (pe_op op_mod (pe_callTy call_intI (by rfl) T.z_int (by decide +kernel) (pa_cons (pe_callB (call_max2 rfl) (by rfl) T.z_max (by decide +kernel) (pa_cons (pe_op op_sub (pv 2) (pe_op op_powB pe_int pe_int)) (pa_cons pe_int pa_nil))) pa_nil)) (pe_op op_powB (pe_op op_powB pe_int pe_int) pe_int)) (pa_cons (pe_op op_mod (pe_callTy call_intI (by rfl) T.z_int (by decide +kernel) (pa_cons (pv 2) pa_nil)) pe_int) (pa_cons (pe_op op_mul pe_int (pv 1)) pa_nil))))))), ?_⟩
  simp only [cxOf_K, tAsg2, tYes, wipe, tSeq, tIfS, tNot, tB, tCB, tCons, tNil, tVar, tC, tTest, tOp, tAnd, tOr, tAsg, gName, tRet, tRetN, tDrop, tNext, tIf, tCall, tTup, tLst, tNotV, tAndV, tOrV, tUn, rI0, rI, rU, rEq, rNe, tM1, tM0, tBM, tBM0, tSl, tPart, tNoPart, iStr, iEnumS, iRng1, iRng2, iList, gSub, tBits, tAug, tPar, L2.start, List.map_cons, List.map_nil, List.length_cons, List.length_nil, List.getElem?_cons_zero, List.getElem?_cons_succ, List.cons_append, List.nil_append, List.append_nil, List.set_cons_zero, List.set_cons_succ, List.replicate_succ, List.replicate_zero, Option.some.injEq, exists_eq_left', V.int.injEq, V.str.injEq, V.ref.injEq, V.bl.injEq, exists_and_left, exists_eq_left, List.cons.injEq, and_true, true_and, tCallX, tRs]
  refine ⟨a, ns, i, rfl, ha, ?_⟩
  simp only [cxOf_K, tAsg2, tYes, wipe, tSeq, tIfS, tNot, tB, tCB, tCons, tNil, tVar, tC, tTest, tOp, tAnd, tOr, tAsg, gName, tRet, tRetN, tDrop, tNext, tIf, tCall, tTup, tLst, tNotV, tAndV, tOrV, tUn, rI0, rI, rU, rEq, rNe, tM1, tM0, tBM, tBM0, tSl, tPart, tNoPart, iStr, iEnumS, iRng1, iRng2, iList, gSub, tBits, tAug, tPar, L2.start, List.map_cons, List.map_nil, List.length_cons, List.length_nil, List.getElem?_cons_zero, List.getElem?_cons_succ, List.cons_append, List.nil_append, List.append_nil, List.set_cons_zero, List.set_cons_succ, List.replicate_succ, List.replicate_zero, Option.some.injEq, exists_eq_left', V.int.injEq, V.str.injEq, V.ref.injEq, V.bl.injEq, exists_and_left, exists_eq_left, List.cons.injEq, and_true, true_and, tCallX, tRs]
  refine ⟨⟨by decide, by decide +kernel⟩, _, _, ⟨rfl, rfl⟩, ⟨by decide, by decide +kernel⟩, ⟨by decide, by decide +kernel⟩, by decide +kernel, by decide, cmulL (by decide), by decide, fun g hg => ?_⟩
  exact q g _ hg ((L2.Same.refl H).new hg _) ⟨_, _, _, upd_same, by omega, by omega⟩
theorem ok_law_random (T : Txt w K mg) : FnOk P w K mg base CX0 2 T.a_law_random T.fd_law_random ["_law_generator_here", "_law_bound"] (sp_law_random K) := by
  refine T.F_law_random.ok sc_law_random (fun vs H Q E h => ?_) (fun cdv A outer s H vs Q E hr h => ?_)
  · obtain ⟨g, b, n, rfl, _⟩ := h; rfl
  obtain ⟨g, b, n, rfl, ⟨x, y, z, hg, z0, z1⟩, hn, b0, b1, q⟩ := h
  refine ⟨_, (pss_cons (ps_if (pt_cmpR op_gt (pe_ix ix_list (pv 0) pe_int (fun _ _ => rfl)) pe_int (nomark _)) (pss_cons (ps_set (i := 2) sc_law_random.nd rfl (by first | exact Or.inl rfl | exact Or.inr rfl) (pe_op op_mod (pe_callTy call_intI (by rfl) T.z_int (by decide +kernel) (pa_cons (pe_ix ix_list (pv 0) pe_int (fun _ _ => rfl)) pa_nil)) (pv 1)))
    (pss_cons (ps_asg (pe_op op_fdivW (pe_ix ix_list (pv 0) pe_int (fun _ _ => rfl)) (pv 1)) (pg_sub (pv 0) pe_int set_list))
    (pss_one (ps_ret (pv 2))))) pss_nil)
    (pss_cons (ps_set (i := 2) sc_law_random.nd rfl (by first | exact Or.inl rfl | exact Or.inr rfl) pe_int)
    (pss_cons (ps_for PassesOwn.never rfl (pi_range1 rfl T.z_range (pa_cons (pe_op op_add pe_int (pe_op op_fdivW (pe_bits (pv 1)) pe_int)) pa_nil)) (pg_name (i := 3) sc_law_random.nd rfl (by first | exact Or.inl rfl | exact Or.inr rfl)) (pss_cons (ps_asg (pe_op op_add (pe_ix ix_list (pv 0) pe_int (fun _ _ => rfl)) pe_int) (pg_sub (pv 0) pe_int set_list))
    (pss_one (ps_set (i := 2) sc_law_random.nd rfl (by first | exact Or.inl rfl | exact Or.inr rfl) (pe_op op_add (pe_op op_mul (pv 2) pe_int) (pe_call (ok_law_hash T) (hr.mono (by first | decide | omega)) (by rfl) T.m_law_hash T.F_law_hash.kp T.b_law_hash .nil pass0 (pa_cons (pe_ix ix_list (pv 0) pe_int (fun _ _ => rfl)) (pa_cons (pe_ix ix_list (pv 0) pe_int (fun _ _ => rfl)) pa_nil))))))))
    (pss_one (ps_ret (pe_op op_mod (pe_callTy call_intI (by rfl) T.z_int (by decide +kernel) (pa_cons (pv 2) pa_nil)) (pv 1))))))), ?_⟩
  simp only [cxOf_K, tAsg2, tYes, wipe, tSeq, tIfS, tNot, tB, tCB, tCons, tNil, tVar, tC, tTest, tOp, tAnd, tOr, tAsg, gName, tRet, tRetN, tDrop, tNext, tIf, tCall, tTup, tLst, tNotV, tAndV, tOrV, tUn, rI0, rI, rU, rEq, rNe, tM1, tM0, tBM, tBM0, tSl, tPart, tNoPart, iStr, iEnumS, iRng1, iRng2, iList, gSub, tBits, tAug, tPar, L2.start, List.map_cons, List.map_nil, List.length_cons, List.length_nil, List.getElem?_cons_zero, List.getElem?_cons_succ, List.cons_append, List.nil_append, List.append_nil, List.set_cons_zero, List.set_cons_succ, List.replicate_succ, List.replicate_zero, Option.some.injEq, exists_eq_left', V.int.injEq, V.str.injEq, V.ref.injEq, V.bl.injEq, exists_and_left, exists_eq_left, List.cons.injEq, and_true, true_and, tCallX, tRs]
  refine ⟨g, _, 0, .int x, rfl, rfl, SqL.of hg, rfl, ?_⟩
  simp only [cxOf_K, tAsg2, tYes, wipe, tSeq, tIfS, tNot, tB, tCB, tCons, tNil, tVar, tC, tTest, tOp, tAnd, tOr, tAsg, gName, tRet, tRetN, tDrop, tNext, tIf, tCall, tTup, tLst, tNotV, tAndV, tOrV, tUn, rI0, rI, rU, rEq, rNe, tM1, tM0, tBM, tBM0, tSl, tPart, tNoPart, iStr, iEnumS, iRng1, iRng2, iList, gSub, tBits, tAug, tPar, L2.start, List.map_cons, List.map_nil, List.length_cons, List.length_nil, List.getElem?_cons_zero, List.getElem?_cons_succ, List.cons_append, List.nil_append, List.append_nil, List.set_cons_zero, List.set_cons_succ, List.replicate_succ, List.replicate_zero, Option.some.injEq, exists_eq_left', V.int.injEq, V.str.injEq, V.ref.injEq, V.bl.injEq, exists_and_left, exists_eq_left, List.cons.injEq, and_true, true_and, tCallX, tRs]
  by_cases hx : 0 < x
  · refine ifdT hx ⟨g, _, 0, .int x, rfl, rfl, SqL.of hg, rfl, ?_⟩
    simp only [cxOf_K, tAsg2, tYes, wipe, tSeq, tIfS, tNot, tB, tCB, tCons, tNil, tVar, tC, tTest, tOp, tAnd, tOr, tAsg, gName, tRet, tRetN, tDrop, tNext, tIf, tCall, tTup, tLst, tNotV, tAndV, tOrV, tUn, rI0, rI, rU, rEq, rNe, tM1, tM0, tBM, tBM0, tSl, tPart, tNoPart, iStr, iEnumS, iRng1, iRng2, iList, gSub, tBits, tAug, tPar, L2.start, List.map_cons, List.map_nil, List.length_cons, List.length_nil, List.getElem?_cons_zero, List.getElem?_cons_succ, List.cons_append, List.nil_append, List.append_nil, List.set_cons_zero, List.set_cons_succ, List.replicate_succ, List.replicate_zero, Option.some.injEq, exists_eq_left', V.int.injEq, V.str.injEq, V.ref.injEq, V.bl.injEq, exists_and_left, exists_eq_left, List.cons.injEq, and_true, true_and, tCallX, tRs]
    refine ⟨by omega, g, _, 0, .int x, rfl, rfl, SqL.of hg, rfl, ?_⟩
    simp only [cxOf_K, tAsg2, tYes, wipe, tSeq, tIfS, tNot, tB, tCB, tCons, tNil, tVar, tC, tTest, tOp, tAnd, tOr, tAsg, gName, tRet, tRetN, tDrop, tNext, tIf, tCall, tTup, tLst, tNotV, tAndV, tOrV, tUn, rI0, rI, rU, rEq, rNe, tM1, tM0, tBM, tBM0, tSl, tPart, tNoPart, iStr, iEnumS, iRng1, iRng2, iList, gSub, tBits, tAug, tPar, L2.start, List.map_cons, List.map_nil, List.length_cons, List.length_nil, List.getElem?_cons_zero, List.getElem?_cons_succ, List.cons_append, List.nil_append, List.append_nil, List.set_cons_zero, List.set_cons_succ, List.replicate_succ, List.replicate_zero, Option.some.injEq, exists_eq_left', V.int.injEq, V.str.injEq, V.ref.injEq, V.bl.injEq, exists_and_left, exists_eq_left, List.cons.injEq, and_true, true_and, tCallX, tRs]
    refine ⟨cdivW b0 b1, g, _, 0, 0, rfl, rfl, hg, rfl, ?_⟩
    exact q _ _ (Int.emod_nonneg _ (by omega)) (Int.emod_lt_of_pos _ (by omega)) (fun p o hp ho => by rw [upd_ne hp]; exact ho) ⟨_, _, _, upd_same, z0, by omega⟩
  · refine ifdF hx ?_
    have hb : (Builtin.Int.intBits b : Int) ≤ 50 := by
      have : Builtin.Int.intBits b ≤ 50 := PyProof.Rows.intBits_le (by omega)
      omega
    have hj0 : (0 : Int) ≤ 1 + (Builtin.Int.intBits b : Int) / 30 := by omega
    have hj1 : (1 : Int) + (Builtin.Int.intBits b : Int) / 30 ≤ 2 := by omega
    refine ⟨_, rfl, _, rfl, _, _, rfl, rfl, cdivW (by decide) (by decide), _, _, rfl, rfl, _, rfl, by omega, by omega, for_range (fun i σ H' => ∃ (d : Int) (a3 : Option V) (z' : Int), σ = [some (.ref g), some (.int b), some (.int d), a3] ∧ Keep g H H' ∧ H' g = some (.lst [.int x, .int y, .int z']) ∧ z' = z + i)
      ⟨0, none, z, rfl, fun p o _ ho => ho, hg, by simp⟩ ?_ ?_⟩
    · rintro i σ H' hi ⟨d, a3, z', rfl, k0, hg', rfl⟩
      simp only [cxOf_K, tAsg2, tYes, wipe, tSeq, tIfS, tNot, tB, tCB, tCons, tNil, tVar, tC, tTest, tOp, tAnd, tOr, tAsg, gName, tRet, tRetN, tDrop, tNext, tIf, tCall, tTup, tLst, tNotV, tAndV, tOrV, tUn, rI0, rI, rU, rEq, rNe, tM1, tM0, tBM, tBM0, tSl, tPart, tNoPart, iStr, iEnumS, iRng1, iRng2, iList, gSub, tBits, tAug, tPar, L2.start, List.map_cons, List.map_nil, List.length_cons, List.length_nil, List.getElem?_cons_zero, List.getElem?_cons_succ, List.cons_append, List.nil_append, List.append_nil, List.set_cons_zero, List.set_cons_succ, List.replicate_succ, List.replicate_zero, Option.some.injEq, exists_eq_left', V.int.injEq, V.str.injEq, V.ref.injEq, V.bl.injEq, exists_and_left, exists_eq_left, List.cons.injEq, and_true, true_and, tCallX, tRs]
      refine ⟨g, _, 2, .int (z + i), rfl, rfl, SqL.of hg', rfl, ?_⟩
      simp only [cxOf_K, tAsg2, tYes, wipe, tSeq, tIfS, tNot, tB, tCB, tCons, tNil, tVar, tC, tTest, tOp, tAnd, tOr, tAsg, gName, tRet, tRetN, tDrop, tNext, tIf, tCall, tTup, tLst, tNotV, tAndV, tOrV, tUn, rI0, rI, rU, rEq, rNe, tM1, tM0, tBM, tBM0, tSl, tPart, tNoPart, iStr, iEnumS, iRng1, iRng2, iList, gSub, tBits, tAug, tPar, L2.start, List.map_cons, List.map_nil, List.length_cons, List.length_nil, List.getElem?_cons_zero, List.getElem?_cons_succ, List.cons_append, List.nil_append, List.append_nil, List.set_cons_zero, List.set_cons_succ, List.replicate_succ, List.replicate_zero, Option.some.injEq, exists_eq_left', V.int.injEq, V.str.injEq, V.ref.injEq, V.bl.injEq, exists_and_left, exists_eq_left, List.cons.injEq, and_true, true_and, tCallX, tRs]
      refine ⟨g, _, 2, 2, rfl, rfl, hg', rfl, ?_⟩
      refine ⟨cmulR (by decide), g, _, 1, .int y, rfl, rfl, SqL.of upd_same, rfl, ?_⟩
      refine ⟨g, _, 2, .int (z + i + 1), rfl, rfl, SqL.of upd_same, rfl, ?_⟩
      refine ⟨y, z + i + 1, rfl, by omega, by omega, fun r => ?_⟩
      simp only [cxOf_K, tAsg2, tYes, wipe, tSeq, tIfS, tNot, tB, tCB, tCons, tNil, tVar, tC, tTest, tOp, tAnd, tOr, tAsg, gName, tRet, tRetN, tDrop, tNext, tIf, tCall, tTup, tLst, tNotV, tAndV, tOrV, tUn, rI0, rI, rU, rEq, rNe, tM1, tM0, tBM, tBM0, tSl, tPart, tNoPart, iStr, iEnumS, iRng1, iRng2, iList, gSub, tBits, tAug, tPar, L2.start, List.map_cons, List.map_nil, List.length_cons, List.length_nil, List.getElem?_cons_zero, List.getElem?_cons_succ, List.cons_append, List.nil_append, List.append_nil, List.set_cons_zero, List.set_cons_succ, List.replicate_succ, List.replicate_zero, Option.some.injEq, exists_eq_left', V.int.injEq, V.str.injEq, V.ref.injEq, V.bl.injEq, exists_and_left, exists_eq_left, List.cons.injEq, and_true, true_and, tCallX, tRs]
      exact ⟨_, _, ⟨rfl, rfl⟩, fun p o hp ho => by rw [upd_ne hp]; exact k0 p o hp ho, z + i + 1, by rw [upd_same], by omega⟩
    · rintro σ H' ⟨d, a3, z', rfl, k0, hg', rfl⟩
      simp only [cxOf_K, tAsg2, tYes, wipe, tSeq, tIfS, tNot, tB, tCB, tCons, tNil, tVar, tC, tTest, tOp, tAnd, tOr, tAsg, gName, tRet, tRetN, tDrop, tNext, tIf, tCall, tTup, tLst, tNotV, tAndV, tOrV, tUn, rI0, rI, rU, rEq, rNe, tM1, tM0, tBM, tBM0, tSl, tPart, tNoPart, iStr, iEnumS, iRng1, iRng2, iList, gSub, tBits, tAug, tPar, L2.start, List.map_cons, List.map_nil, List.length_cons, List.length_nil, List.getElem?_cons_zero, List.getElem?_cons_succ, List.cons_append, List.nil_append, List.append_nil, List.set_cons_zero, List.set_cons_succ, List.replicate_succ, List.replicate_zero, Option.some.injEq, exists_eq_left', V.int.injEq, V.str.injEq, V.ref.injEq, V.bl.injEq, exists_and_left, exists_eq_left, List.cons.injEq, and_true, true_and, tCallX, tRs]
      exact ⟨by omega, q _ _ (Int.emod_nonneg _ (by omega)) (Int.emod_lt_of_pos _ (by omega)) k0 ⟨_, _, _, hg', by omega, by omega⟩⟩

theorem ok_law_address (T : Txt w K mg) : FnOk P w K mg base CX0 4 T.a_law_address T.fd_law_address ["_law_generator_here", "_law_longest"] (sp_law_address K) := by
  refine T.F_law_address.ok sc_law_address (fun vs H Q E h => ?_) (fun cdv A outer s H vs Q E hr h => ?_)
  · obtain ⟨g, m, n, rfl, _⟩ := h; rfl
  obtain ⟨g, m, n, rfl, hg, hm, hn, q⟩ := h
  refine ⟨_, (pss_cons (ps_set (i := 2) sc_law_address.nd rfl (by first | exact Or.inl rfl | exact Or.inr rfl) (pe_lst pa_nil))
    (pss_cons (ps_for PassesOwn.never rfl (pi_range1 rfl T.z_range (pa_cons (pe_call (ok_law_random T) (hr.mono (by first | decide | omega)) (by rfl) T.m_law_random T.F_law_random.kp T.b_law_random .nil pass0 (pa_cons (pv 0) (pa_cons (pe_op op_add (pv 1) pe_int) pa_nil))) pa_nil)) (pg_name (i := 3) sc_law_address.nd rfl (by first | exact Or.inl rfl | exact Or.inr rfl)) (pss_one (ps_expr (pe_bm PySem.F.plainAttrs_list PySem.F.slot_list_append PySem.F.type_list_append mt_append (pv 2) (pa_cons (pe_ix ix_list (pe_lst (pa_cons pe_str (pa_cons pe_str pa_nil))) (pe_call (ok_law_random T) (hr.mono (by first | decide | omega)) (by rfl) T.m_law_random T.F_law_random.kp T.b_law_random .nil pass0 (pa_cons (pv 0) (pa_cons pe_int pa_nil))) (fun _ _ => rfl)) pa_nil)))))
    (pss_one (ps_ret (pe_join pe_str (pv 2)))))), ?_⟩
  simp only [cxOf_K, tAsg2, tYes, wipe, tSeq, tIfS, tNot, tB, tCB, tCons, tNil, tVar, tC, tTest, tOp, tAnd, tOr, tAsg, gName, tRet, tRetN, tDrop, tNext, tIf, tCall, tTup, tLst, tNotV, tAndV, tOrV, tUn, rI0, rI, rU, rEq, rNe, tM1, tM0, tBM, tBM0, tSl, tPart, tNoPart, iStr, iEnumS, iRng1, iRng2, iList, gSub, tBits, tAug, tPar, L2.start, List.map_cons, List.map_nil, List.length_cons, List.length_nil, List.getElem?_cons_zero, List.getElem?_cons_succ, List.cons_append, List.nil_append, List.append_nil, List.set_cons_zero, List.set_cons_succ, List.replicate_succ, List.replicate_zero, Option.some.injEq, exists_eq_left', V.int.injEq, V.str.injEq, V.ref.injEq, V.bl.injEq, exists_and_left, exists_eq_left, List.cons.injEq, and_true, true_and, tCallX, tRs]
  refine ⟨by decide, fun p np => ?_⟩
  have np0 := np
  have gp : p ≠ g := by obtain ⟨o, ho⟩ := hg.some; exact (ne_of_none ho np).symm
  have h1 : upd H p (.lst []) p = some (.lst (([] : List Nat).map fun c => V.str (S [c]))) := upd_same
  have k1 := Keep.of (g := g) ((L2.Same.refl H).new np (.lst []))
  have g1 := hg.new (o := .lst []) np
  generalize upd H p (.lst []) = H1 at h1 k1 g1 ⊢
  refine ⟨_, rfl, _, rfl, (m : Int), 1, rfl, rfl, g, (m : Int) + 1, n, rfl, g1, by omega, by omega, by omega, fun r H2 r0 r1 k2 g2 => ?_⟩
  have h2 := k2 _ _ gp h1
  have k2 := k1.trans k2
  clear k1 g1 h1 np
  refine ⟨r, rfl, by omega, by omega, for_range (fun i σ H' => ∃ (a : List Nat) (a3 : Option V), σ = [some (.ref g), some (.int (m : Nat)), some (.ref p), a3] ∧ isA a = true ∧ a.length = i ∧ H' p = some (.lst (a.map fun c => V.str (S [c]))) ∧ Keep g H H' ∧ GenAt H' g (n + 3 + 3 * i)) ⟨[], none, rfl, rfl, rfl, h2, k2, g2⟩ ?_ ?_⟩
  · rintro i σ H3 hi ⟨a, a3, rfl, aA, al, h3, k3, g3⟩
    have him : i < m := by omega
    simp only [cxOf_K, tAsg2, tYes, wipe, tSeq, tIfS, tNot, tB, tCB, tCons, tNil, tVar, tC, tTest, tOp, tAnd, tOr, tAsg, gName, tRet, tRetN, tDrop, tNext, tIf, tCall, tTup, tLst, tNotV, tAndV, tOrV, tUn, rI0, rI, rU, rEq, rNe, tM1, tM0, tBM, tBM0, tSl, tPart, tNoPart, iStr, iEnumS, iRng1, iRng2, iList, gSub, tBits, tAug, tPar, L2.start, List.map_cons, List.map_nil, List.length_cons, List.length_nil, List.getElem?_cons_zero, List.getElem?_cons_succ, List.cons_append, List.nil_append, List.append_nil, List.set_cons_zero, List.set_cons_succ, List.replicate_succ, List.replicate_zero, Option.some.injEq, exists_eq_left', V.int.injEq, V.str.injEq, V.ref.injEq, V.bl.injEq, exists_and_left, exists_eq_left, List.cons.injEq, and_true, true_and, tCallX, tRs]
    refine ⟨tyV_lst h3, by decide, fun p4 np4 => ⟨g, 2, _, rfl, g3.new np4, by omega, by decide, by decide, fun z H5 z0 z1 k5 g5 => ?_⟩⟩
    have pg : p4 ≠ g := by obtain ⟨o, ho⟩ := g3.some; exact (ne_of_none ho np4).symm
    have k4 := (L2.Same.refl H3).new np4 (.lst [V.str (Str.ofString "l"), .str (Str.ofString "r")])
    have h4 := k5 _ _ pg (upd_same (H := H3) (a := p4) (o := .lst [V.str (Str.ofString "l"), .str (Str.ofString "r")]))
    have h5 := k5 _ _ gp (k4 _ _ h3)
    have k5 := (k3.trans (Keep.of k4)).trans k5
    obtain ⟨c, hc, cA⟩ : ∃ c : Nat, atI [V.str (Str.ofString "l"), .str (Str.ofString "r")] z = some (.str (S [c])) ∧ isA [c] = true := by
      have : z = 0 ∨ z = 1 := by omega
      rcases this with rfl | rfl
      · exact ⟨108, by rw [show S [108] = Str.ofString "l" by decide +kernel]; rfl, by decide⟩
      · exact ⟨114, by rw [show S [114] = Str.ofString "r" by decide +kernel]; rfl, by decide⟩
    refine ⟨p4, _, z, _, rfl, rfl, SqL.of h4, hc, p, _, _, rfl, rfl, h5, by rw [List.length_map]; exact small5' (by omega), a ++ [c], by simp only [isA, List.all_append] at aA cA ⊢; rw [aA, cA]; rfl, by simp [al], ?_, ?_, ?_⟩
    · rw [upd_same, List.map_append]; rfl
    · exact fun b o nb hb => by
        by_cases e : b = p
        · rw [e, np0] at hb; cases hb
        · rw [upd_ne e]; exact k5 _ _ nb hb
    · obtain ⟨x, y, w, e1, e2, e3⟩ := g5
      exact ⟨x, y, w, by rw [upd_ne gp.symm]; exact e1, e2, by omega⟩
  · rintro σ H3 ⟨a, a3, rfl, aA, al, h3, k3, g3⟩
    simp only [cxOf_K, tAsg2, tYes, wipe, tSeq, tIfS, tNot, tB, tCB, tCons, tNil, tVar, tC, tTest, tOp, tAnd, tOr, tAsg, gName, tRet, tRetN, tDrop, tNext, tIf, tCall, tTup, tLst, tNotV, tAndV, tOrV, tUn, rI0, rI, rU, rEq, rNe, tM1, tM0, tBM, tBM0, tSl, tPart, tNoPart, iStr, iEnumS, iRng1, iRng2, iList, gSub, tBits, tAug, tPar, L2.start, List.map_cons, List.map_nil, List.length_cons, List.length_nil, List.getElem?_cons_zero, List.getElem?_cons_succ, List.cons_append, List.nil_append, List.append_nil, List.set_cons_zero, List.set_cons_succ, List.replicate_succ, List.replicate_zero, Option.some.injEq, exists_eq_left', V.int.injEq, V.str.injEq, V.ref.injEq, V.bl.injEq, exists_and_left, exists_eq_left, List.cons.injEq, and_true, true_and, tCallX, tRs]
    refine ⟨⟨_, rfl⟩, a.map (fun c => S [c]), .inl (SqL.of (by rw [h3, List.map_map]; rfl)), ?_, ?_⟩
    · rw [signs_sum, lit_empty, S_len]
      simp only [List.length_nil, Nat.mul_zero]
      omega
    · rw [lit_empty, signs_join]
      obtain ⟨x, y, z, e1, e2, e3⟩ := g3
      exact q a H3 aA (by omega) k3 ⟨x, y, z, e1, e2, by omega⟩

theorem ok_law_steps (T : Txt w K mg) : FnOk P w K mg base CX0 6 T.a_law_steps T.fd_law_steps ["_law_generator_here", "_law_many", "_law_deep"] (sp_law_steps K) := by
  refine T.F_law_steps.ok sc_law_steps (fun vs H Q E h => ?_) (fun cdv A outer s H vs Q E hr h => ?_)
  · obtain ⟨g, m, d, n, rfl, _⟩ := h; rfl
  obtain ⟨g, m, d, n, rfl, hg, hm, hd, hd2, hn, q⟩ := h
  refine ⟨_, (pss_cons (ps_set (i := 3) sc_law_steps.nd rfl (by first | exact Or.inl rfl | exact Or.inr rfl) (pe_lst pa_nil))
    (pss_cons (ps_for PassesOwn.never rfl (pi_range1 rfl T.z_range (pa_cons (pv 1) pa_nil)) (pg_name (i := 4) sc_law_steps.nd rfl (by first | exact Or.inl rfl | exact Or.inr rfl)) (pss_cons (ps_set (i := 5) sc_law_steps.nd rfl (by first | exact Or.inl rfl | exact Or.inr rfl) (pe_ix ix_list (pe_lst (pa_cons pe_str (pa_cons pe_str pa_nil))) (pe_call (ok_law_random T) (hr.mono (by first | decide | omega)) (by rfl) T.m_law_random T.F_law_random.kp T.b_law_random .nil pass0 (pa_cons (pv 0) (pa_cons pe_int pa_nil))) (fun _ _ => rfl)))
    (pss_one (ps_expr (pe_bm PySem.F.plainAttrs_list PySem.F.slot_list_append PySem.F.type_list_append mt_append (pv 3) (pa_cons (pe_tup (pa_cons (pv 5) (pa_cons (pe_call (ok_law_address T) (hr.mono (by first | decide | omega)) (by rfl) T.m_law_address T.F_law_address.kp T.b_law_address .nil pass0 (pa_cons (pv 0) (pa_cons (pe_ix ix_list (pe_lst (pa_cons pe_int (pa_cons pe_int (pa_cons pe_int (pa_cons (pv 2) pa_nil))))) (pe_call (ok_law_random T) (hr.mono (by first | decide | omega)) (by rfl) T.m_law_random T.F_law_random.kp T.b_law_random .nil pass0 (pa_cons (pv 0) (pa_cons pe_int pa_nil))) (fun _ _ => rfl)) pa_nil))) pa_nil))) pa_nil))))))
    (pss_one (ps_ret (pv 3))))), ?_⟩
  simp only [cxOf_K, tAsg2, tYes, wipe, tSeq, tIfS, tNot, tB, tCB, tCons, tNil, tVar, tC, tTest, tOp, tAnd, tOr, tAsg, gName, tRet, tRetN, tDrop, tNext, tIf, tCall, tTup, tLst, tNotV, tAndV, tOrV, tUn, rI0, rI, rU, rEq, rNe, tM1, tM0, tBM, tBM0, tSl, tPart, tNoPart, iStr, iEnumS, iRng1, iRng2, iList, gSub, tBits, tAug, tPar, L2.start, List.map_cons, List.map_nil, List.length_cons, List.length_nil, List.getElem?_cons_zero, List.getElem?_cons_succ, List.cons_append, List.nil_append, List.append_nil, List.set_cons_zero, List.set_cons_succ, List.replicate_succ, List.replicate_zero, Option.some.injEq, exists_eq_left', V.int.injEq, V.str.injEq, V.ref.injEq, V.bl.injEq, exists_and_left, exists_eq_left, List.cons.injEq, and_true, true_and, tCallX, tRs]
  refine ⟨by decide, fun p np => ?_⟩
  have np0 := np
  have gp : p ≠ g := by obtain ⟨o, ho⟩ := hg.some; exact (ne_of_none ho np).symm
  have h1 : upd H p (.lst []) p = some (.lst []) := upd_same
  have k1 := Keep.of (g := g) ((L2.Same.refl H).new np (.lst []))
  have g1 := hg.new (o := .lst []) np
  generalize upd H p (.lst []) = H1 at h1 k1 g1 ⊢
  refine ⟨_, rfl, m, rfl, by omega, by omega, for_range (fun i σ H' => ∃ (ws : List V) (xs : List (Str × List Nat)) (a4 a5 : Option V), σ = [some (.ref g), some (.int (m : Nat)), some (.int (d : Nat)), some (.ref p), a4, a5] ∧ xs.length = i ∧ H' p = some (.lst ws) ∧ Stps H' ws xs ∧ (∀ x ∈ xs, okSt d x) ∧ Keep g H H' ∧ GenAt H' g (n + (9 + 3 * d) * i)) ⟨[], [], _, _, rfl, rfl, h1, .nil, (fun x hx => by cases hx), k1, g1⟩ ?_ ?_⟩
  · rintro i σ H3 hi ⟨ws, xs, a4, a5, rfl, xl, h3, st, ok, k3, g3⟩
    have him : i < m := by omega
    simp only [cxOf_K, tAsg2, tYes, wipe, tSeq, tIfS, tNot, tB, tCB, tCons, tNil, tVar, tC, tTest, tOp, tAnd, tOr, tAsg, gName, tRet, tRetN, tDrop, tNext, tIf, tCall, tTup, tLst, tNotV, tAndV, tOrV, tUn, rI0, rI, rU, rEq, rNe, tM1, tM0, tBM, tBM0, tSl, tPart, tNoPart, iStr, iEnumS, iRng1, iRng2, iList, gSub, tBits, tAug, tPar, L2.start, List.map_cons, List.map_nil, List.length_cons, List.length_nil, List.getElem?_cons_zero, List.getElem?_cons_succ, List.cons_append, List.nil_append, List.append_nil, List.set_cons_zero, List.set_cons_succ, List.replicate_succ, List.replicate_zero, Option.some.injEq, exists_eq_left', V.int.injEq, V.str.injEq, V.ref.injEq, V.bl.injEq, exists_and_left, exists_eq_left, List.cons.injEq, and_true, true_and, tCallX, tRs]
    have nb : (9 + 3 * d) * i ≤ 609 * 100 := Nat.mul_le_mul (by omega) (by omega)
    have ns : (9 + 3 * d) * (i + 1) = (9 + 3 * d) * i + (9 + 3 * d) := Nat.mul_succ _ _
    generalize hN : (9 + 3 * d) * i = N at nb ns g3
    rw [ns]
    refine ⟨by decide, fun p1 np1 => ⟨g, 2, _, rfl, g3.new np1, by omega, by decide, by decide, fun z H5 z0 z1 k5 g5 => ?_⟩⟩
    have pg1 : p1 ≠ g := by obtain ⟨o, ho⟩ := g3.some; exact (ne_of_none ho np1).symm
    have s4 := (L2.Same.refl H3).new np1 (.lst [V.str (Str.ofString "left"), .str (Str.ofString "right")])
    have h4 := k5 _ _ pg1 (upd_same (H := H3) (a := p1) (o := .lst [V.str (Str.ofString "left"), .str (Str.ofString "right")]))
    have kA := (Keep.of (g := g) s4).trans k5
    have h5 := kA _ _ gp h3
    obtain ⟨w, hw, hw2⟩ : ∃ w : Str, atI [V.str (Str.ofString "left"), .str (Str.ofString "right")] z = some (.str w) ∧ (w = Str.ofString "left" ∨ w = Str.ofString "right") := by
      have : z = 0 ∨ z = 1 := by omega
      rcases this with rfl | rfl
      · exact ⟨_, rfl, .inl rfl⟩
      · exact ⟨_, rfl, .inr rfl⟩
    refine ⟨p1, _, z, _, rfl, rfl, SqL.of h4, hw, tyV_lst h5, by decide, fun p2 np2 => ⟨g, 4, _, rfl, g5.new np2, by omega, by decide, by decide, fun y H6 y0 y1 k6 g6 => ?_⟩⟩
    have pg2 : p2 ≠ g := by obtain ⟨o, ho⟩ := g5.some; exact (ne_of_none ho np2).symm
    have s5 := (L2.Same.refl H5).new np2 (.lst [V.int 0, .int 1, .int 2, .int (d : Nat)])
    have h6 := k6 _ _ pg2 (upd_same (H := H5) (a := p2) (o := .lst [V.int 0, .int 1, .int 2, .int (d : Nat)]))
    have kB := kA.trans ((Keep.of (g := g) s5).trans k6)
    obtain ⟨e, he, he2⟩ : ∃ e : Nat, atI [V.int 0, .int 1, .int 2, .int (d : Nat)] y = some (.int (e : Nat)) ∧ e ≤ d := by
      have : y = 0 ∨ y = 1 ∨ y = 2 ∨ y = 3 := by omega
      rcases this with rfl | rfl | rfl | rfl
      · exact ⟨0, rfl, by omega⟩
      · exact ⟨1, rfl, by omega⟩
      · exact ⟨2, rfl, by omega⟩
      · exact ⟨d, rfl, by omega⟩
    refine ⟨p2, _, y, _, rfl, rfl, SqL.of h6, he, g, e, _, rfl, g6, by omega, by omega, fun a H7 aA al k7 g7 => ⟨by decide, fun p3 np3 => ?_⟩⟩
    have kC := kB.trans k7
    have h7 := kC _ _ gp h3
    have s7 := (L2.Same.refl H7).new np3 (.tup [V.str w, sV a])
    have h8 : upd H7 p3 (.tup [V.str w, sV a]) p3 = some _ := upd_same
    have kD := kC.trans (Keep.of (g := g) s7)
    have h9 := s7 _ _ h7
    have pp3 : p3 ≠ p := (ne_of_none h7 np3).symm
    have g8 := g7.same s7
    generalize upd H7 p3 (.tup [V.str w, sV a]) = H8 at h8 kD h9 g8 ⊢
    have wl := st.length
    refine ⟨p, _, _, rfl, rfl, h9, small5' (by omega), ws ++ [.ref p3], xs ++ [(w, a)], _, _, ⟨rfl, rfl⟩, by simp [xl], upd_same, ?_, ?_, ?_, ?_⟩
    · refine Stps.append (st.mono fun b vs hb => ?_) (.cons ?_ .nil)
      · have b1 : b ≠ g := fun z => by obtain ⟨_, _, _, e, _⟩ := g3; rw [z, e] at hb; cases hb
        have b2 : b ≠ p := fun z => by rw [z, h3] at hb; cases hb
        rw [upd_ne b2]
        exact kD _ _ b1 hb
      · rw [upd_ne pp3]
        exact h8
    · intro x hx
      rcases List.mem_append.mp hx with hx | hx
      · exact ok x hx
      · rw [List.mem_singleton.mp hx]
        exact ⟨hw2, aA, by show a.length ≤ d; omega⟩
    · exact fun b o nb hb => by
        by_cases e : b = p
        · rw [e, np0] at hb; cases hb
        · rw [upd_ne e]; exact kD _ _ nb (k3 _ _ nb hb)
    · obtain ⟨x, y, w, e1, e2, e3⟩ := g8
      exact ⟨x, y, w, by rw [upd_ne gp.symm]; exact e1, e2, by omega⟩
  · rintro σ H3 ⟨ws, xs, a4, a5, rfl, xl, h3, st, ok, k3, g3⟩
    simp only [cxOf_K, tAsg2, tYes, wipe, tSeq, tIfS, tNot, tB, tCB, tCons, tNil, tVar, tC, tTest, tOp, tAnd, tOr, tAsg, gName, tRet, tRetN, tDrop, tNext, tIf, tCall, tTup, tLst, tNotV, tAndV, tOrV, tUn, rI0, rI, rU, rEq, rNe, tM1, tM0, tBM, tBM0, tSl, tPart, tNoPart, iStr, iEnumS, iRng1, iRng2, iList, gSub, tBits, tAug, tPar, L2.start, List.map_cons, List.map_nil, List.length_cons, List.length_nil, List.getElem?_cons_zero, List.getElem?_cons_succ, List.cons_append, List.nil_append, List.append_nil, List.set_cons_zero, List.set_cons_succ, List.replicate_succ, List.replicate_zero, Option.some.injEq, exists_eq_left', V.int.injEq, V.str.injEq, V.ref.injEq, V.bl.injEq, exists_and_left, exists_eq_left, List.cons.injEq, and_true, true_and, tCallX, tRs]
    have xl : xs.length = m := by omega
    exact q p ws xs H3 np0 k3 (by have := g3; simpa using this) h3 st xl ok

theorem spl_mem (c : Nat) : ∀ l : List Nat, ∀ p ∈ spl c l, ∀ x ∈ p, x ∈ l
  | [], p, hp, x, hx => by
    simp [spl] at hp; subst hp; cases hx
  | y :: ys, p, hp, x, hx => by
    have ih := spl_mem c ys
    rw [spl_eq c ys] at ih
    unfold spl at hp
    by_cases h : y = c
    · simp only [h, if_true] at hp
      rcases List.mem_cons.mp hp with rfl | hp
      · cases hx
      · rw [spl_eq c ys] at hp
        exact List.mem_cons_of_mem _ (ih p hp x hx)
    · simp only [h, if_false] at hp
      rcases List.mem_cons.mp hp with rfl | hp
      · rcases List.mem_cons.mp hx with rfl | hx
        · exact List.mem_cons_self ..
        · exact List.mem_cons_of_mem _ (ih _ List.mem_cons_self x hx)
      · exact List.mem_cons_of_mem _ (ih p (List.mem_cons_of_mem _ hp) x hx)
theorem ok_law_read (T : Txt w K mg) : FnOk P w K mg base CX0 2 T.a_law_read T.fd_law_read ["_law_words"] (sp_law_read K) := by
  refine T.F_law_read.ok sc_law_read (fun vs H Q E h => ?_) (fun cdv A outer s H vs Q E hr h => ?_)
  · obtain ⟨v, rfl, _⟩ := h; rfl
  obtain ⟨cs, rfl, hl, hch, h⟩ := h
  have hru := hr.units
  refine ⟨_, (pss_cons (ps_if (pt_cmpR op_eq (pv 0) pe_str (nomark _)) (pss_one (ps_ret (pe_lst pa_nil))) pss_nil)
    (pss_cons (ps_set (i := 1) sc_law_read.nd rfl (by first | exact Or.inl rfl | exact Or.inr rfl) (pe_lst pa_nil))
    (pss_cons (ps_for PassesOwn.never rfl (pi_list (pe_split (pv 0) pe_str)) (pg_name (i := 2) sc_law_read.nd rfl (by first | exact Or.inl rfl | exact Or.inr rfl)) (pss_cons (ps_if (pw_or (pt_cmpR op_eq (pv 2) pe_str (nomark _)) (pw_or (pt_cmpR op_notIn_sign (pe_ix ix_str (pv 2) pe_int (fun _ _ => rfl)) pe_str (by with_unfolding_all rfl)) (pw_or1 (pt_cmpR (op_neD hru) (pe_lc (own := [("_law_sign", 3)]) rfl sc_law_read.nd (pi_str (pe_slice sl_str (pv 2) (po_some pe_int) po_none)) (blkOk_by (own := [("_law_sign", 3)]) (N := nm_law_read) (sc := defScope s_law_read) (by decide +kernel)) (fun _ _ _ _ _ => by exact (pg_name (i := 3) sc_law_read.nd rfl (by first | exact Or.inl rfl | exact Or.inr rfl))) (fun _ _ _ _ _ => by exact (pts_one (pt_cmpR op_notIn_sign (pv 3) pe_str (by with_unfolding_all rfl)))) (fun _ _ _ _ _ => by exact (pv 3))) (pe_lst pa_nil) (nomark _))))).pt (pss_one (ps_ret pe_non)) pss_nil)
    (pss_one (ps_expr (pe_bm PySem.F.plainAttrs_list PySem.F.slot_list_append PySem.F.type_list_append mt_append (pv 1) (pa_cons (pe_tup (pa_cons (pe_ifExp (pt_cmpR op_eq (pe_ix ix_str (pv 2) pe_int (fun _ _ => rfl)) pe_str (nomark _)) pe_str pe_str) (pa_cons (pe_slice sl_str (pv 2) (po_some pe_int) po_none) pa_nil))) pa_nil))))))
    (pss_one (ps_ret (pv 1)))))), ?_⟩
  simp only [cxOf_K, tAsg2, tYes, wipe, tSeq, tIfS, tNot, tB, tCB, tCons, tNil, tVar, tC, tTest, tOp, tAnd, tOr, tAsg, gName, tRet, tRetN, tDrop, tNext, tIf, tCall, tTup, tLst, tNotV, tAndV, tOrV, tUn, rI0, rI, rU, rEq, rNe, tM1, tM0, tBM, tBM0, tSl, tPart, tNoPart, iStr, iEnumS, iRng1, iRng2, iList, gSub, tBits, tAug, tPar, L2.start, List.map_cons, List.map_nil, List.length_cons, List.length_nil, List.getElem?_cons_zero, List.getElem?_cons_succ, List.cons_append, List.nil_append, List.append_nil, List.set_cons_zero, List.set_cons_succ, List.replicate_succ, List.replicate_zero, Option.some.injEq, exists_eq_left', V.int.injEq, V.str.injEq, V.ref.injEq, V.bl.injEq, exists_and_left, exists_eq_left, List.cons.injEq, and_true, true_and, tCallX, tRs]
  have e0 : Str.ofString "" = S [] := by decide +kernel
  refine ⟨rfl, ?_⟩
  by_cases he : cs = []
  · subst he
    rw [e0]
    refine ifdT rfl ⟨by decide, fun p np => ?_⟩
    rcases h with ⟨xs, hx, q⟩ | ⟨hx, _⟩
    · cases (show some [] = some xs from hx)
      exact q p [] _ np ((L2.Same.refl H).new np _) upd_same .nil
    · cases (show some [] = none from hx)
  rw [e0]
  refine ifdF (fun z => he (S_inj z)) ⟨by decide, fun p np => ?_⟩
  have sl : (S cs).length = cs.length := S_len cs
  have h : (∀ xs, rdAll (spl 32 cs) = some xs → NewS H xs Q) ∧ (rdAll (spl 32 cs) = none → ∀ H', Same H H' → Q .non H') := by
    have e : rdText cs = rdAll (spl 32 cs) := by unfold rdText; rw [if_neg he]
    rw [e] at h
    rcases h with ⟨xs, hx, q⟩ | ⟨hx, o⟩
    · exact ⟨fun ys hy => (by rw [hx] at hy; cases hy; exact q), fun z => (by rw [hx] at z; cases z)⟩
    · exact ⟨fun ys hy => (by rw [hx] at hy; cases hy), fun _ => o⟩
  have s1 := (L2.Same.refl H).new np (.lst [])
  have h1 : upd H p (.lst []) p = some (.lst []) := upd_same
  generalize upd H p (.lst []) = H1 at s1 h1 ⊢
  have e32 : Str.ofString " " = S [32] := by decide +kernel
  rw [e32]
  refine ⟨_, rfl, ⟨_, rfl⟩, S cs, rfl, S [32], rfl, rfl, small5 (by rw [sl]; omega), fun p2 np2 => ?_⟩
  rw [split_S cs 32 (by decide)] at *
  have pp2 : p ≠ p2 := fun z => by rw [z, np2] at h1; cases h1
  have s2 := s1.new (s1.free np2) (.lst (((spl 32 cs).map S).map V.str))
  have h2 : upd H1 p2 (.lst (((spl 32 cs).map S).map V.str)) p2 = some (.lst ((spl 32 cs).map sV)) := by rw [upd_same, List.map_map]; rfl
  have h1' : upd H1 p2 (.lst (((spl 32 cs).map S).map V.str)) p = some (.lst []) := by rw [upd_ne pp2]; exact h1
  generalize upd H1 p2 (.lst (((spl 32 cs).map S).map V.str)) = H2 at s2 h2 h1' ⊢
  have pl : (spl 32 cs).length ≤ cs.length + 1 := spl_len 32 cs
  refine ⟨p2, rfl, ⟨_, SqL.of h2⟩, for_list (K := K) (a := p2) (xs := (spl 32 cs).map sV) (fun i σ H' => ∃ (ws : List V) (xs : List (Str × List Nat)) (a2 a3 : Option V), σ = [some (sV cs), some (.ref p), a2, a3] ∧ Same H H' ∧ H' p2 = some (.lst ((spl 32 cs).map sV)) ∧ H' p = some (.lst ws) ∧ Stps H' ws xs ∧ xs.length = i ∧ rdAll ((spl 32 cs).take i) = some xs) ⟨[], [], none, none, rfl, s2, h2, h1', .nil, rfl, rfl⟩ ?_ ?_ ?_⟩
  · rintro i σ H' hi ⟨ws, xs, a2, a3, rfl, s3, h3, h4, st, xl, rx⟩
    exact SqL.of h3
  · rintro i x σ H' hi ⟨ws, xs, a2, a3, rfl, s3, h3, h4, st, xl, rx⟩
    simp only [cxOf_K, tAsg2, tYes, wipe, tSeq, tIfS, tNot, tB, tCB, tCons, tNil, tVar, tC, tTest, tOp, tAnd, tOr, tAsg, gName, tRet, tRetN, tDrop, tNext, tIf, tCall, tTup, tLst, tNotV, tAndV, tOrV, tUn, rI0, rI, rU, rEq, rNe, tM1, tM0, tBM, tBM0, tSl, tPart, tNoPart, iStr, iEnumS, iRng1, iRng2, iList, gSub, tBits, tAug, tPar, L2.start, List.map_cons, List.map_nil, List.length_cons, List.length_nil, List.getElem?_cons_zero, List.getElem?_cons_succ, List.cons_append, List.nil_append, List.append_nil, List.set_cons_zero, List.set_cons_succ, List.replicate_succ, List.replicate_zero, Option.some.injEq, exists_eq_left', V.int.injEq, V.str.injEq, V.ref.injEq, V.bl.injEq, exists_and_left, exists_eq_left, List.cons.injEq, and_true, true_and, tCallX, tRs]
    rw [List.getElem?_map] at hi
    obtain ⟨c, hc, rfl⟩ := Option.map_eq_some_iff.mp hi
    have hil : i < (spl 32 cs).length := (List.getElem?_eq_some_iff.mp hc).1
    have cl : c.length ≤ 100000 := Nat.le_trans (spl_le 32 cs c (List.mem_of_getElem? hc)) hl
    have cch : ∀ x ∈ c, x < 0x110000 := fun x hx => hch x (spl_mem 32 cs c (List.mem_of_getElem? hc) x hx)
    have sz : (S c).length ≤ sizeLine := small5 (by rw [S_len]; omega)
    have bad : rdPiece c = none → ∀ H', Same H H' → Q .non H' := fun hn => h.2 (rdAll_none _ c (List.mem_of_getElem? hc) hn)
    cases c with
    | nil =>
      refine ⟨rfl, ifdT rfl ?_⟩
      rw [if_pos True.intro]
      exact bad rfl H' s3
    | cons a c =>
    have n0 : ¬ S (a :: c) = S [] := fun z => by have := S_inj z; cases this
    refine ⟨rfl, ifdF (fun z => n0 (V.str.inj z)) (rixs (k := 0) (c := a) (by omega) rfl ⟨a, rfl, ?_⟩)⟩
    have e3 : decide (a ∈ (Str.ofString "<>").cps.toList) = (a == 60 || a == 62) := by
      rw [show Str.ofString "<>" = S [60, 62] by decide +kernel]
      have : decide (a ∈ (S [60, 62]).cps.toList) = (decide (a = 60) || decide (a = 62)) := by simp
      rw [this]
      rfl
    rw [e3]
    have r : rdPiece (a :: c) = if isA c then (if a = 60 then some (Str.ofString "left", c) else if a = 62 then some (Str.ofString "right", c) else none) else none := rfl
    cases ha : (a == 60 || a == 62) with
    | false =>
      rw [if_pos (by rfl), if_pos True.intro]
      have h60 : a ≠ 60 := fun z => by rw [z] at ha; cases ha
      have h62 : a ≠ 62 := fun z => by rw [z] at ha; cases ha
      exact bad (by rw [r, if_neg h60, if_neg h62]; cases isA c <;> rfl) H' s3
    | true =>
    rw [if_neg (by decide)]
    refine ⟨_, rfl, 1, rfl, S (a :: c), rfl, sz, _, rfl, ?_⟩
    have cd : cutS (S (a :: c)) (some 1) none = S c := cutRest (a :: c)
    have e4 : Str.ofString "lr" = S [108, 114] := by decide +kernel
    have fl : ∀ d : Nat, (!decide (d ∈ (Str.ofString "lr").cps.toList)) = !(d == 108 || d == 114) := fun d => by
      rw [e4]
      have : decide (d ∈ (S [108, 114]).cps.toList) = (decide (d = 108) || decide (d = 114)) := by simp
      rw [this]
      rfl
    intro D hD
    rw [cd]
    refine TD.lc_str (fun k H2 => Same H' H2 ∧ H2 D = some (.lst (((c.take k).filter fun d => !(d == 108 || d == 114)).map fun d => sV [d]))) ⟨(L2.Same.refl H').new hD _, upd_same⟩ ?_ ?_
    · rintro k d H2 hk ⟨s4, hd⟩
      have hk' : c[k]? = some d := by simpa using hk
      have hkl : k < c.length := (List.getElem?_eq_some_iff.mp hk').1
      simp only [cxOf_K, tAsg2, tYes, wipe, tSeq, tIfS, tNot, tB, tCB, tCons, tNil, tVar, tC, tTest, tOp, tAnd, tOr, tAsg, gName, tRet, tRetN, tDrop, tNext, tIf, tCall, tTup, tLst, tNotV, tAndV, tOrV, tUn, rI0, rI, rU, rEq, rNe, tM1, tM0, tBM, tBM0, tSl, tPart, tNoPart, iStr, iEnumS, iRng1, iRng2, iList, gSub, tBits, tAug, tPar, L2.start, List.map_cons, List.map_nil, List.length_cons, List.length_nil, List.getElem?_cons_zero, List.getElem?_cons_succ, List.cons_append, List.nil_append, List.append_nil, List.set_cons_zero, List.set_cons_succ, List.replicate_succ, List.replicate_zero, Option.some.injEq, exists_eq_left', V.int.injEq, V.str.injEq, V.ref.injEq, V.bl.injEq, exists_and_left, exists_eq_left, List.cons.injEq, and_true, true_and, tCallX, tRs]
      refine ⟨d, rfl, ?_⟩
      have ef1 : (some d).toList.filter (fun d => !(d == 108 || d == 114)) = if (d == 108 || d == 114) = true then [] else [d] := by
        show [d].filter _ = _
        rw [List.filter_cons]
        cases (d == 108 || d == 114) <;> rfl
      rw [fl, List.take_succ, hk', List.filter_append, ef1]
      cases e5 : (d == 108 || d == 114) with
      | true =>
        rw [if_neg (by decide)]
        refine ⟨s4, ?_⟩
        rw [hd, if_pos rfl, List.append_nil]
      | false =>
        rw [if_pos (by rfl)]
        refine ⟨_, hd, small5' (by
          rw [List.length_map]
          have := List.length_filter_le (fun d => !(d == 108 || d == 114)) (c.take k)
          rw [List.length_take] at this
          simp only [List.length_cons] at cl
          omega), s4.new hD _, ?_⟩
        rw [upd_same, if_neg (by decide), List.map_append]
        rfl
    · rintro H2 ⟨s4, hd⟩
      have hd : H2 D = some (.lst (((c.filter fun d => !(d == 108 || d == 114)).map fun d => [d]).map sV)) := by
        rw [hd, show (S c).cps.size = c.length from S_len c, List.take_length, List.map_map]; rfl
      refine ⟨by decide, fun p6 np6 => ?_⟩
      have hd6 : upd H2 p6 (.lst []) D = _ := (upd_ne (ne_of_none hd np6)).trans hd
      have s6 := s3.trans (s4.new (s4.free np6) (.lst []))
      refine neNil (fun x hx y hy => ?_) (by rw [upd_ne (ne_of_none hd np6)]; exact hd) upd_same ⟨_, rfl, ?_⟩
      · obtain ⟨d, hd', rfl⟩ := List.mem_map.mp hx
        rw [List.mem_singleton.mp hy]
        exact cch d (List.mem_cons_of_mem _ (List.mem_filter.mp hd').1)
      have ef : decide (((c.filter fun d => !(d == 108 || d == 114)).map fun d => [d]) = []) = isA c := by
        have : (((c.filter fun d => !(d == 108 || d == 114)).map fun d => [d]) = []) ↔ isA c = true := by
          rw [List.map_eq_nil_iff, List.filter_eq_nil_iff]
          unfold isA
          rw [List.all_eq_true]
          constructor
          · intro h x hx
            have := h x hx
            cases e : (x == 108 || x == 114) with
            | true => rfl
            | false => rw [e] at this; exact absurd rfl this
          · intro h x hx
            rw [h x hx]; decide
        cases e : isA c with
        | true => exact decide_eq_true (this.mpr e)
        | false => exact decide_eq_false fun z => by rw [this.mp z] at e; cases e
      rw [ef]
      have s7 := s4.new (s4.free np6) (.lst [])
      clear hd hd6 e4 fl
      generalize upd H2 p6 (.lst []) = H7 at s6 s7 ⊢
      clear np6 s4
      cases hi2 : isA c with
      | false =>
        rw [if_pos (by rfl)]
        exact bad (by rw [r, hi2]; rfl) H7 s6
      | true =>
        rw [if_neg (by decide)]
        have h37 := s7 _ _ h3
        have h47 := s7 _ _ h4
        have st7 := st.same s7
        have fin : ∀ (x : Str) (p5 : Addr), rdPiece (a :: c) = some (x, c) → H7 p5 = none → rAppend (V.ref p) [V.ref p5] (upd H7 p5 (HO.tup [V.str x, sV c])) fun x H1 => ∃ ws xs a2 a3_1, (some (sV (a :: c)) = a2 ∧ a3 = a3_1) ∧ Same H H1 ∧ H1 p2 = some (HO.lst (List.map sV (spl 32 cs))) ∧
            H1 p = some (HO.lst ws) ∧ Stps H1 ws xs ∧ xs.length = i + 1 ∧ rdAll (List.take (i + 1) (spl 32 cs)) = some xs := fun x p5 hx np5 => by
          have pp5 : p5 ≠ p := fun z => by rw [z, h47] at np5; cases np5
          have pp52 : p5 ≠ p2 := fun z => by rw [z, h37] at np5; cases np5
          refine ⟨p, ws, _, rfl, rfl, by rw [upd_ne pp5.symm]; exact h47, small5' (by have := st.length; omega), _, _, _, _, ⟨rfl, rfl⟩, (s6.new (s6.free np5) _).new np _, by rw [upd_ne pp2.symm, upd_ne pp52.symm]; exact h37, upd_same, Stps.push (x := (x, c)) h47 st7 np5, by simp [xl], ?_⟩
          rw [List.take_succ, hc]
          exact rdAll_snoc _ _ _ _ rx hx
        refine ⟨tyV_lst h47, rixs (k := 0) (c := a) (by omega) rfl ⟨rfl, ?_⟩⟩
        rw [show Str.ofString "<" = S [60] by decide +kernel]
        by_cases h60 : a = 60
        · subst h60
          refine ifdT rfl ⟨_, rfl, sz, ?_⟩
          rw [cd]
          exact ⟨by decide, fun p5 np5 => fin _ p5 (by rw [r, hi2]; rfl) np5⟩
        · refine ifdF (fun z => h60 (by have := S_inj (a := [a]) (b := [60]) (V.str.inj z); simpa using this)) ⟨_, rfl, sz, ?_⟩
          rw [cd]
          have h62 : a = 62 := by
            simp only [Bool.or_eq_true, beq_iff_eq] at ha
            exact ha.resolve_left h60
          exact ⟨by decide, fun p5 np5 => fin _ p5 (by rw [r, hi2, if_pos rfl, if_neg h60, if_pos h62]) np5⟩
  · rintro σ H' ⟨ws, xs, a2, a3, rfl, s3, h3, h4, st, xl, rx⟩
    simp only [cxOf_K, tAsg2, tYes, wipe, tSeq, tIfS, tNot, tB, tCB, tCons, tNil, tVar, tC, tTest, tOp, tAnd, tOr, tAsg, gName, tRet, tRetN, tDrop, tNext, tIf, tCall, tTup, tLst, tNotV, tAndV, tOrV, tUn, rI0, rI, rU, rEq, rNe, tM1, tM0, tBM, tBM0, tSl, tPart, tNoPart, iStr, iEnumS, iRng1, iRng2, iList, gSub, tBits, tAug, tPar, L2.start, List.map_cons, List.map_nil, List.length_cons, List.length_nil, List.getElem?_cons_zero, List.getElem?_cons_succ, List.cons_append, List.nil_append, List.append_nil, List.set_cons_zero, List.set_cons_succ, List.replicate_succ, List.replicate_zero, Option.some.injEq, exists_eq_left', V.int.injEq, V.str.injEq, V.ref.injEq, V.bl.injEq, exists_and_left, exists_eq_left, List.cons.injEq, and_true, true_and, tCallX, tRs]
    rw [List.length_map, List.take_length] at rx
    exact h.1 xs rx p ws H' np s3 h4 st

theorem exmT (T : Txt w K mg) {C : Addr} {l : List Value} (e : ErrC K C (.ref C :: .ref T.c_TurnError :: l)) : PySem.W.exmOne K (.ref C) (.ref T.c_TurnError) = some true := by
  refine PySem.W.exm_ref T.e_TurnError.ec.hs T.e_TurnError.ec.hd T.e_TurnError.ty ?_
  rw [e.sub rfl, List.contains_cons, List.contains_cons, show ((Value.ref T.c_TurnError) == (Value.ref T.c_TurnError)) = true from beq_self_eq_true _, Bool.true_or, Bool.or_true]
theorem kitFalse (T : Txt w K mg) {C D : Addr} (x : ErrC K C (.ref C :: .ref T.c_TurnError :: veL)) (y : ErrC K D (.ref D :: .ref T.c_TurnError :: veL)) (h1 : C ≠ D) (h2 : D ≠ T.c_TurnError) : PySem.W.kitOne K (.ref C) (.ref D) = some false := by
  rw [kit_own x y, decide_eq_false h1, Bool.false_or]
  have e : ((Value.ref D) == (Value.ref T.c_TurnError)) = false := beq_eq_false_iff_ne.mpr fun z => h2 (Value.ref.inj z)
  have ve : veL.contains (Value.ref D) = false := rfl
  rw [List.contains_cons, e, ve]
  rfl

def clsC (T : Txt w K mg) (c : Bool) : Addr := if c then T.c_InvalidScript else T.c_InvalidAddress
theorem kitT (T : Txt w K mg) : ∀ c : Bool, PySem.W.kitOne K (.ref (clsC T c)) (.ref T.c_InvalidScript) = some c
  | true => kitSelf
  | false => by
    have nd := T.nd
    simp only [List.nodup_cons, List.mem_cons, List.not_mem_nil, or_false, not_or] at nd
    exact kitFalse T T.e_InvalidAddress T.e_InvalidScript nd.1.1 nd.2.1
theorem kitA (T : Txt w K mg) : ∀ c : Bool, PySem.W.kitOne K (.ref (clsC T c)) (.ref T.c_InvalidAddress) = some (!c)
  | false => kitSelf
  | true => by
    have nd := T.nd
    simp only [List.nodup_cons, List.mem_cons, List.not_mem_nil, or_false, not_or] at nd
    exact kitFalse T T.e_InvalidScript T.e_InvalidAddress (fun z => nd.1.1 z.symm) nd.1.2
theorem ecC (T : Txt w K mg) : ∀ c : Bool, ErrC K (clsC T c) (.ref (clsC T c) :: .ref T.c_TurnError :: veL)
  | true => T.e_InvalidScript
  | false => T.e_InvalidAddress
theorem xfC (T : Txt w K mg) : ∀ c : Bool, XfC K (clsC T c)
  | true => T.x_InvalidScript
  | false => T.x_InvalidAddress
theorem noC (T : Txt w K mg) : ∀ c : Bool, PySem.W.findIn K (.ref (clsC T c)) "value" = some none
  | true => T.n_InvalidScript
  | false => T.n_InvalidAddress
theorem ok_law_caught (T : Txt w K mg) : FnG P w K mg base CX0 14 T.a_law_caught T.fd_law_caught ["_law_door", "_law_first", "_law_second"] (sp_law_caught T) := by
  refine okG T.F_law_caught sc_law_caught (fun vs H Q E h => ?_) (fun cdv A outer s H vs Q E hG hr h => ?_)
  · obtain ⟨n, u, v, b, c, rfl, _⟩ := h; rfl
  obtain ⟨n, u, v, b, c, rfl, ref, sh⟩ := h
  have hru := hr.units
  refine ⟨_, (pss_cons (ps_set (i := 3) sc_law_caught.nd rfl (by first | exact Or.inl rfl | exact Or.inr rfl) pe_non)
    (pss_cons (ps_try_keep (i := 4) (j := 3) rfl rfl rfl sc_law_caught.nd rfl rfl rfl rfl (by decide) ⟨by rfl, by decide, .inl T.g_TurnError⟩ takes0 (fun W pn xe tk po => (pss_one (ps_if (pt_cmpR op_eq (pv 0) pe_int (nomark _)) (pss_one (ps_expr (pe_callX (ok_opposite T) tk (hr.mono (by first | decide | omega)) (by rfl) T.m_opposite T.F_opposite.kp T.b_opposite .nil (pa_cons (pv 1) pa_nil)))) (pss_one (ps_if (pt_cmpR op_eq (pv 0) pe_int (nomark _)) (pss_one (ps_expr (pe_callX (ok_lowered T) tk (hr.mono (by first | decide | omega)) (by rfl) T.m_lowered T.F_lowered.kp T.b_lowered .nil (pa_cons (pv 1) (pa_cons (pv 2) pa_nil))))) (pss_one (ps_if (pt_cmpR op_eq (pv 0) pe_int (nomark _)) (pss_one (ps_expr (pe_callX (ok_text_of T) tk (hr.mono (by first | decide | omega)) (by rfl) T.m_text_of T.F_text_of.kp T.b_text_of .nil (pa_cons (pv 1) pa_nil)))) (pss_one (ps_if (pt_cmpR op_eq (pv 0) pe_int (nomark _)) (pss_one (ps_expr (pe_callX (ok_pair_of T) tk (hr.mono (by first | decide | omega)) (by rfl) T.m_pair_of T.F_pair_of.kp T.b_pair_of .nil (pa_cons (pv 1) pa_nil)))) (pss_one (ps_expr (pe_callX (ok_read_script T) tk (hr.mono (by first | decide | omega)) (by rfl) T.m_read_script T.F_read_script.kp T.b_read_script .nil (pa_cons (pv 1) pa_nil))))))))))))) (fun a pn => pss_one (ps_set (i := 3) sc_law_caught.nd rfl (by first | exact Or.inl rfl | exact Or.inr rfl) (pv 4))))
    (pss_cons (ps_if (pt_cmpR op_isN (pv 3) pe_non (nomark _)) (pss_one (ps_ret pe_non)) pss_nil)
    (pss_cons (ps_if (pt_val (pe_callB call_isi (by rfl) T.z_isinstance (by decide +kernel) (pa_cons (pe_qx (pv 3)) (pa_cons (pe_bltn (v := .ty "list") (by rfl) T.z_list (by decide +kernel) rfl) pa_nil)))) (pss_one (ps_expr (pe_bm PySem.F.plainAttrs_list PySem.F.slot_list_append PySem.F.type_list_append mt_append (pe_qx (pv 3)) (pa_cons pe_str pa_nil)))) pss_nil)
    (pss_one (ps_ret (pe_lst (pa_cons (pe_callB call_isQ (by rfl) T.z_isinstance (by decide +kernel) (pa_cons (pv 3) (pa_cons (pe_glob (v := .ref T.c_InvalidScript) (by rfl) T.g_InvalidScript rfl) pa_nil))) (pa_cons (pe_callB call_isQ (by rfl) T.z_isinstance (by decide +kernel) (pa_cons (pv 3) (pa_cons (pe_glob (v := .ref T.c_InvalidAddress) (by rfl) T.g_InvalidAddress rfl) pa_nil))) (pa_cons (pe_callB (cr_reprV hG hru) (by rfl) T.z_repr (by decide +kernel) (pa_cons (pe_qx (pv 3)) pa_nil)) pa_nil)))))))))), ?_⟩
  simp only [cxOf_K, tAsg2, tYes, wipe, tSeq, tIfS, tNot, tB, tCB, tCons, tNil, tVar, tC, tTest, tOp, tAnd, tOr, tAsg, gName, tRet, tRetN, tDrop, tNext, tIf, tCall, tTup, tLst, tNotV, tAndV, tOrV, tUn, rI0, rI, rU, rEq, rNe, tM1, tM0, tBM, tBM0, tSl, tPart, tNoPart, iStr, iEnumS, iRng1, iRng2, iList, gSub, tBits, tAug, tPar, L2.start, List.map_cons, List.map_nil, List.length_cons, List.length_nil, List.getElem?_cons_zero, List.getElem?_cons_succ, List.cons_append, List.nil_append, List.append_nil, List.set_cons_zero, List.set_cons_succ, List.replicate_succ, List.replicate_zero, Option.some.injEq, exists_eq_left', V.int.injEq, V.str.injEq, V.ref.injEq, V.bl.injEq, exists_and_left, exists_eq_left, List.cons.injEq, and_true, true_and, tCallX, tRs]
  have fin : ∀ (H4 : Hp), Same H H4 → ∀ a, Kept H4 a (clsC T c) [("value", b)] → tSeq (tIfS (tTest (tOp (fun x y H Q => y = V.non ∧ Q (V.bl (decide (x = V.non))) H) (tVar 3) (tC V.non))) (tRet (tC V.non)) tNext)
      (tSeq (tIfS (tB (tCB (rIsi K) (tCons (tQx K (Str.ofString "value") (tVar 3)) (tCons (tC (V.ty "list")) tNil)))) (tDrop (tBM K "list" rAppend (tQx K (Str.ofString "value") (tVar 3)) (tCons (tC (V.str (Str.ofString "more"))) tNil))) tNext)
        (tRet (tLst (tCons (tCB (rIsQ K) (tCons (tVar 3) (tCons (tC (V.ref T.c_InvalidScript)) tNil))) (tCons (tCB (rIsQ K) (tCons (tVar 3) (tCons (tC (V.ref T.c_InvalidAddress)) tNil))) (tCons (tCB rReprV (tCons (tQx K (Str.ofString "value") (tVar 3)) tNil)) tNil))))))
      { nx := fun x H' => Q V.non H', rt := Q } [some (V.int (n : Nat)), some u, some v, some (.ref a), none] H4 := fun H4 s4 a kp => by
    simp only [tQx, cxOf_K, tAsg2, tYes, wipe, tSeq, tIfS, tNot, tB, tCB, tCons, tNil, tVar, tC, tTest, tOp, tAnd, tOr, tAsg, gName, tRet, tRetN, tDrop, tNext, tIf, tCall, tTup, tLst, tNotV, tAndV, tOrV, tUn, rI0, rI, rU, rEq, rNe, tM1, tM0, tBM, tBM0, tSl, tPart, tNoPart, iStr, iEnumS, iRng1, iRng2, iList, gSub, tBits, tAug, tPar, L2.start, List.map_cons, List.map_nil, List.length_cons, List.length_nil, List.getElem?_cons_zero, List.getElem?_cons_succ, List.cons_append, List.nil_append, List.append_nil, List.set_cons_zero, List.set_cons_succ, List.replicate_succ, List.replicate_zero, Option.some.injEq, exists_eq_left', V.int.injEq, V.str.injEq, V.ref.injEq, V.bl.injEq, exists_and_left, exists_eq_left, List.cons.injEq, and_true, true_and, tCallX, tRs]
    rw [if_neg (by simp)]
    rcases sh with ⟨d, ty, gd, tx, hk, q⟩ | ⟨l, ws, rfl, hl, hw, q⟩
    · refine ⟨clsC T c, xfC T c, noC T c, _, kp, b, rfl, b, _, ty, _, false, rfl, .ty _, tyX_same tx s4, hk, false, rfl, ?_⟩
      rw [if_neg (by decide)]
      refine ⟨a, clsC T c, _, _, _, c, rfl, (ecC T c).ec, kp, .own _, kitT T c, a, clsC T c, _, _, _, !c, rfl, (ecC T c).ec, kp, .own _, kitA T c, clsC T c, xfC T c, noC T c, _, kp, b, rfl, (Good.same gd s4).repr ⟨by decide, fun p np => ?_⟩⟩
      exact q H4 s4 p _ np ((L2.Same.refl H4).new np _) upd_same
    · have h4 := s4 _ _ hl
      refine ⟨clsC T c, xfC T c, noC T c, _, kp, .ref l, rfl, _, _, _, _, true, rfl, .ty _, .base (.lst h4), kit_ty (by decide +kernel), true, rfl, ?_⟩
      rw [if_pos rfl]
      refine ⟨clsC T c, xfC T c, noC T c, _, kp, .ref l, rfl, tyV_lst h4, l, _, _, rfl, rfl, h4, small5' (by omega), ?_⟩
      have k1 : Keep l H4 (upd H4 l (.lst (ws ++ [V.str (Str.ofString "more")]))) := fun b o nb hb => by rw [upd_ne nb]; exact hb
      have h1 : upd H4 l (.lst (ws ++ [V.str (Str.ofString "more")])) l = some (.lst (ws ++ [V.str "more"])) := upd_same
      have kp1 := Kept.keep kp k1 h4
      generalize upd H4 l (.lst (ws ++ [V.str (Str.ofString "more")])) = H5 at k1 h1 kp1 ⊢
      obtain ⟨d, gd, q⟩ := q H5 (fun b o nb hb => k1 b o nb (s4 _ _ hb)) h1
      refine ⟨a, clsC T c, _, _, _, c, rfl, (ecC T c).ec, kp1, .own _, kitT T c, a, clsC T c, _, _, _, !c, rfl, (ecC T c).ec, kp1, .own _, kitA T c, clsC T c, xfC T c, noC T c, _, kp1, .ref l, rfl, Good.repr gd ⟨by decide, fun p np => ?_⟩⟩
      exact q p _ np ((L2.Same.refl H5).new np _) upd_same
  have out : ∀ (D : Ends) (σ : L2.St), (∀ H4, Same H H4 → ∀ a, Kept H4 a (clsC T c) [("value", b)] → D.nx (((σ.set 4 (some (.ref a))).set 3 (some (.ref a))).set 4 none) H4) →
      Out (clsC T c) b H fun cls d H3 => wKeep K (.ref T.c_TurnError) 4 3 (fun _ _ _ _ => False) D cls d σ H3 := fun D σ go d' H2 s2 nd hd => by
    refine ⟨clsC T c, true, rfl, exmT T (ecC T c), fun _ a na => ?_, fun z => by cases z⟩
    have da : d' ≠ a := fun z => by rw [z, na] at hd; cases hd
    exact go _ (s2.new (s2.free na) (kxo a (clsC T c) (some d'))) a ⟨d', upd_same, by rw [upd_ne da]; exact hd⟩
  refine ⟨rfl, ?_⟩
  rcases ref with ⟨hn, bs, rfl, rfl⟩ | ⟨rfl, ⟨xs, gs⟩, na, rfl, rfl⟩ | ⟨rfl, nt, rfl, rfl⟩
  · rcases hn with rfl | rfl | rfl | rfl
    · rw [if_pos (by decide)]
      exact ⟨_, rfl, .inr ⟨bs, out _ _ fun H4 s4 a kp => fin H4 s4 a kp⟩⟩
    · rw [if_neg (by decide)]
      refine ⟨rfl, ?_⟩
      rw [if_pos (by decide)]
      exact ⟨_, _, rfl, .inr ⟨bs, out _ _ fun H4 s4 a kp => fin H4 s4 a kp⟩⟩
    · rw [if_neg (by decide)]
      refine ⟨rfl, ?_⟩
      rw [if_neg (by decide)]
      refine ⟨rfl, ?_⟩
      rw [if_pos (by decide)]
      exact ⟨_, rfl, .inr ⟨bs, out _ _ fun H4 s4 a kp => fin H4 s4 a kp⟩⟩
    · rw [if_neg (by decide)]
      refine ⟨rfl, ?_⟩
      rw [if_neg (by decide)]
      refine ⟨rfl, ?_⟩
      rw [if_neg (by decide)]
      refine ⟨rfl, ?_⟩
      rw [if_pos (by decide)]
      exact ⟨_, rfl, bs, out _ _ fun H4 s4 a kp => fin H4 s4 a kp⟩
  · rw [if_neg (by decide)]
    refine ⟨rfl, ?_⟩
    rw [if_pos (by decide)]
    exact ⟨_, _, rfl, .inl ⟨xs, gs, .inr ⟨na, out _ _ fun H4 s4 a kp => fin H4 s4 a kp⟩⟩⟩
  · rw [if_neg (by decide)]
    refine ⟨rfl, ?_⟩
    rw [if_neg (by decide)]
    refine ⟨rfl, ?_⟩
    rw [if_neg (by decide)]
    refine ⟨rfl, ?_⟩
    rw [if_neg (by decide)]
    rcases nt with ⟨cs, rfl, hl, hn⟩ | ns
    · exact ⟨_, rfl, .inl ⟨cs, rfl, hl, .inr ⟨hn, out _ _ fun H4 s4 a kp => fin H4 s4 a kp⟩⟩⟩
    · exact ⟨_, rfl, .inr ⟨ns, out _ _ fun H4 s4 a kp => fin H4 s4 a kp⟩⟩

/-- steps as plain data -/
def stD (x : Str × List Nat) : PyData := .tuple [.str x.1, .str (S x.2)]
theorem okWord {n : Nat} {x : Str × List Nat} (h : okSt n x) : PyData.strOk x.1 = true ∧ PyData.strOk (S x.2) = true := by
  refine ⟨?_, okL x.2 fun c hc => ?_⟩
  · rcases h.1 with e | e
    · rw [e]; decide +kernel
    · rw [e]; decide +kernel
  · have := List.all_eq_true.mp h.2.1 c hc
    simp only [Bool.or_eq_true, beq_iff_eq] at this
    omega
theorem Stps.dp {H : Hp} : ∀ {ws : List V} {xs : List (Str × List Nat)}, Stps H ws xs → DpAll K H ws (xs.map stD)
  | _, _, .nil => .nil
  | _, _, .cons a b => .cons (.tup (SqT.of a) (.cons (.str _) (.cons (.str _) .nil))) (Stps.dp b)
theorem stLay : ∀ xs : List (Str × List Nat), (∀ x ∈ xs, ∃ n, okSt n x) → PyData.canLayAll0 (xs.map stD) = true
  | [], _ => by simp [PyData.canLayAll0]
  | x :: xs, h => by
    obtain ⟨n, hn⟩ := h x (List.mem_cons_self ..)
    obtain ⟨h1, h2⟩ := okWord hn
    simp only [List.map_cons, PyData.canLayAll0, stD, PyData.canLay0, h1, h2, stLay xs fun y hy => h y (List.mem_cons_of_mem _ hy)]
    rfl
theorem stDep : ∀ xs : List (Str × List Nat), PyData.depthAll (xs.map stD) ≤ 1
  | [] => by simp [PyData.depthAll]
  | x :: xs => by
    have := stDep xs
    simp only [List.map_cons, PyData.depthAll, stD, PyData.depth]
    omega
theorem stEq : ∀ xs : List (Str × List Nat), PyData.eqvAll (xs.map stD) (xs.map stD) = true
  | [] => by simp [PyData.eqvAll]
  | x :: xs => by
    simp only [List.map_cons, PyData.eqvAll, stD, PyData.eqv, stEq xs, beq_self_eq_true]
    rfl
theorem stShaped {xs : List (Str × List Nat)} (h : ∀ x ∈ xs, ∃ n, okSt n x) : SeqAt.shaped (.list (xs.map stD)) = true := by
  unfold SeqAt.shaped
  have := stDep xs
  simp only [PyData.canLay0, PyData.depth, stLay xs h]
  simp
  omega
theorem neSt {H : Hp} {a b : Addr} {us ws : List V} {xs : List (Str × List Nat)} {Q : VK} (h : ∀ x ∈ xs, ∃ n, okSt n x) (ha : H a = some (.lst us)) (sa : Stps H us xs) (hb : H b = some (.lst ws)) (sb : Stps H ws xs) (q : Q (.bl false) H) : rNeD K (.ref a) (.ref b) H Q := by
  refine ⟨_, _, .lst (SqL.of ha) sa.dp, .lst (SqL.of hb) sb.dp, stShaped h, stShaped h, ?_⟩
  rw [show PyData.eqv (.list (xs.map stD)) (.list (xs.map stD)) = true by simp only [PyData.eqv, stEq xs]]
  exact q
theorem okPiece {c : List Nat} {x : Str × List Nat} (h : rdPiece c = some x) : okSt x.2.length x := by
  cases c with
  | nil => cases h
  | cons a c =>
    have r : (if isA c then (if a = 60 then some (Str.ofString "left", c) else if a = 62 then some (Str.ofString "right", c) else none) else none) = some x := h
    cases hi : isA c with
    | false => rw [hi] at r; cases r
    | true =>
      rw [hi, if_pos rfl] at r
      split at r
      · cases r; exact ⟨.inl rfl, hi, Nat.le_refl _⟩
      · split at r
        · cases r; exact ⟨.inr rfl, hi, Nat.le_refl _⟩
        · cases r
theorem okAll : ∀ {ps : List (List Nat)} {xs : List (Str × List Nat)}, rdAll ps = some xs → ∀ x ∈ xs, ∃ n, okSt n x
  | [], xs, h, x, hx => by cases h; cases hx
  | p :: ps, xs, h, x, hx => by
    have h : (rdPiece p).bind (fun x => (rdAll ps).map fun y => x :: y) = some xs := h
    obtain ⟨z, hz, h⟩ := Option.bind_eq_some_iff.mp h
    obtain ⟨ys, hy, rfl⟩ := Option.map_eq_some_iff.mp h
    rcases List.mem_cons.mp hx with rfl | hx
    · exact ⟨_, okPiece hz⟩
    · exact okAll hy x hx
theorem okRd {cs : List Nat} {xs : List (Str × List Nat)} (h : rdText cs = some xs) : ∀ x ∈ xs, ∃ n, okSt n x := by
  unfold rdText at h
  split at h
  · cases h; intro x hx; cases hx
  · exact okAll h
/-- a text of not too many signs -/
def OkT (B : Nat) (cs : List Nat) : Prop := cs.length ≤ B ∧ ∀ c ∈ cs, c < 0x110000
theorem cut_ex (cs : List Nat) (lo hi : Option Int) : ∃ d, cutS (S cs) lo hi = S d ∧ ∀ B, OkT B cs → OkT B d := by
  refine ⟨(cs.drop (HT.sIx (S cs).length 0 lo)).take (HT.sIx (S cs).length (S cs).length hi - HT.sIx (S cs).length 0 lo), rfl, fun B h => ⟨?_, fun c hc => h.2 c (List.mem_of_mem_drop (List.mem_of_mem_take hc))⟩⟩
  rw [List.length_take, List.length_drop]
  have := h.1
  omega
theorem OkT.app {A B : Nat} {a b : List Nat} (h : OkT A a) (g : OkT B b) : OkT (A + B) (a ++ b) := by
  refine ⟨by rw [List.length_append]; have := h.1; have := g.1; omega, fun c hc => ?_⟩
  rcases List.mem_append.mp hc with hc | hc
  · exact h.2 c hc
  · exact g.2 c hc
theorem OkT.mono {A B : Nat} {a : List Nat} (h : OkT A a) (l : A ≤ B) : OkT B a := ⟨Nat.le_trans h.1 l, h.2⟩
theorem OkT.sz {B : Nat} {a : List Nat} (h : OkT B a) (l : B ≤ 100000) : (S a).length ≤ sizeLine := small5 (by rw [S_len]; have := h.1; omega)
theorem OkT.good {B : Nat} {a : List Nat} {H : Hp} (h : OkT B a) (l : B ≤ 100000) : Good H (sV a) (.str (S a)) := by
  refine ⟨.str _, by simp [PyData.showable], by simp [PyData.depth], ?_, ?_⟩
  · simp only [PyData.leavesShort, List.all_eq_true, decide_eq_true_eq]
    intro c hc
    have := h.2 c (by simpa using hc)
    omega
  · have := h.1
    simp only [PyData.bulk]
    show (a.toArray).size ≤ _
    rw [List.size_toArray]; omega
theorem ok_law_texts_right (T : Txt w K mg) : FnG P w K mg base CX0 16 T.a_law_texts_right T.fd_law_texts_right ["_law_generator_here", "_law_words"] (sp_law_texts_right T) := by
  refine okG T.F_law_texts_right sc_law_texts_right (fun vs H Q E h => ?_) (fun cdv A outer s H vs Q E hG hr h => ?_)
  · obtain ⟨g, cs, n, rfl, _⟩ := h; rfl
  obtain ⟨g, cs, n, rfl, hg, hn, hl, hc, q⟩ := h
  have hru := hr.units
  refine ⟨_, (pss_cons (ps_par (i := 2) (j := 3) rfl sc_law_texts_right.nd rfl rfl (by decide) rfl rfl (pa_cons (pe_call (ok_law_random T) (hr.mono (by first | decide | omega)) (by rfl) T.m_law_random T.F_law_random.kp T.b_law_random .nil pass0 (pa_cons (pv 0) (pa_cons (pe_op op_add (pe_callB call_len_str (by rfl) T.z_len PySem.boot_len (pa_cons (pv 1) pa_nil)) pe_int) pa_nil))) (pa_cons (pe_call (ok_law_random T) (hr.mono (by first | decide | omega)) (by rfl) T.m_law_random T.F_law_random.kp T.b_law_random .nil pass0 (pa_cons (pv 0) (pa_cons (pe_op op_add (pe_callB call_len_str (by rfl) T.z_len PySem.boot_len (pa_cons (pv 1) pa_nil)) pe_int) pa_nil))) pa_nil)) rfl)
    (pss_cons (ps_set (i := 4) sc_law_texts_right.nd rfl (by first | exact Or.inl rfl | exact Or.inr rfl) (pe_ix ix_list (pe_lst (pa_cons pe_str (pa_cons pe_str (pa_cons pe_str (pa_cons pe_str (pa_cons pe_str (pa_cons pe_str (pa_cons pe_str (pa_cons pe_str pa_nil))))))))) (pe_call (ok_law_random T) (hr.mono (by first | decide | omega)) (by rfl) T.m_law_random T.F_law_random.kp T.b_law_random .nil pass0 (pa_cons (pv 0) (pa_cons pe_int pa_nil))) (fun _ _ => rfl)))
    (pss_cons (ps_set (i := 5) sc_law_texts_right.nd rfl (by first | exact Or.inl rfl | exact Or.inr rfl) (pe_lst (pa_cons (pv 1) (pa_cons (pe_op op_add_str (pe_op op_add_str (pe_slice sl_str (pv 1) po_none (po_some (pv 2))) (pv 4)) (pe_slice sl_str (pv 1) (po_some (pv 2)) po_none)) (pa_cons (pe_op op_add_str (pe_slice sl_str (pv 1) po_none (po_some (pv 2))) (pe_slice sl_str (pv 1) (po_some (pe_op op_add (pv 2) pe_int)) po_none)) (pa_cons (pe_slice sl_str (pv 1) (po_some (pv 2)) (po_some (pv 3))) (pa_cons (pe_revS (pv 1)) pa_nil)))))))
    (pss_cons (ps_for PassesOwn.never rfl (pi_list (pe_op op_cat (pv 5) (pe_lst (pa_cons (pe_op op_add_str (pe_op op_add_str (pe_slice sl_str (pv 1) po_none (po_some (pv 2))) (pv 4)) (pe_slice sl_str (pv 1) (po_some (pe_op op_add (pv 2) pe_int)) po_none)) (pa_cons (pe_op op_add_str (pv 1) pe_str) (pa_cons (pe_op op_add_str pe_str (pv 1)) pa_nil)))))) (pg_name (i := 6) sc_law_texts_right.nd rfl (by first | exact Or.inl rfl | exact Or.inr rfl)) (pss_cons (ps_set (i := 7) sc_law_texts_right.nd rfl (by first | exact Or.inl rfl | exact Or.inr rfl) (pe_call (ok_law_read T) (hr.mono (by first | decide | omega)) (by rfl) T.m_law_read T.F_law_read.kp T.b_law_read .nil pass0 (pa_cons (pv 6) pa_nil)))
    (pss_cons (ps_if (pw_and (pt_cmpR op_isN (pv 7) pe_non (nomark _)) (pw_and1 (pt_cmpR (TZ.op_neV hru) (pe_callG (ok_law_caught T) hG (hr.mono (by first | decide | omega)) (by rfl) T.m_law_caught T.F_law_caught.kp T.b_law_caught .nil pass0 (pa_cons pe_int (pa_cons (pv 6) (pa_cons pe_non pa_nil)))) (pe_lst (pa_cons pe_bl (pa_cons pe_bl (pa_cons (pe_callB (cr_reprV hG hru) (by rfl) T.z_repr (by decide +kernel) (pa_cons (pv 6) pa_nil)) pa_nil)))) (nomark _)))).pt (pss_one (ps_ret pe_bl)) pss_nil)
    (pss_one (ps_if (pw_and (pt_cmpR op_notN (pv 7) pe_non (nomark _)) (pw_and1 (pt_cmpR (op_neD hru) (pe_call (ok_read_script T) (hr.mono (by first | decide | omega)) (by rfl) T.m_read_script T.F_read_script.kp T.b_read_script .nil passL (pa_cons (pv 6) pa_nil)) (pv 7) (nomark _)))).pt (pss_one (ps_ret pe_bl)) pss_nil)))))
    (pss_one (ps_ret pe_bl)))))), ?_⟩
  simp only [cxOf_K, tAsg2, tYes, wipe, tSeq, tIfS, tNot, tB, tCB, tCons, tNil, tVar, tC, tTest, tOp, tAnd, tOr, tAsg, gName, tRet, tRetN, tDrop, tNext, tIf, tCall, tTup, tLst, tNotV, tAndV, tOrV, tUn, rI0, rI, rU, rEq, rNe, tM1, tM0, tBM, tBM0, tSl, tPart, tNoPart, iStr, iEnumS, iRng1, iRng2, iList, gSub, tBits, tAug, tPar, L2.start, List.map_cons, List.map_nil, List.length_cons, List.length_nil, List.getElem?_cons_zero, List.getElem?_cons_succ, List.cons_append, List.nil_append, List.append_nil, List.set_cons_zero, List.set_cons_succ, List.replicate_succ, List.replicate_zero, Option.some.injEq, exists_eq_left', V.int.injEq, V.str.injEq, V.ref.injEq, V.bl.injEq, exists_and_left, exists_eq_left, List.cons.injEq, and_true, true_and, tCallX, tRs]
  have hcs : OkT 20000 cs := ⟨hl, hc⟩
  have sl : (S cs).length = cs.length := S_len cs
  have szc : (S cs).length ≤ sizeLine := hcs.sz (by decide)
  rw [sl]
  refine ⟨by rw [← sl]; exact szc, g, (cs.length : Int) + 1, n, rfl, hg, by omega, by omega, by omega, fun i H1 i0 i1 k1 g1 => ⟨by rw [← sl]; exact szc, g, (cs.length : Int) + 1, n + 3, rfl, g1, by omega, by omega, by omega, fun j H2 j0 j1 k2 g2 => ⟨_, _, ⟨rfl, rfl⟩, by decide, fun p np => ⟨g, 8, n + 3 + 3, rfl, g2.new np, by omega, by decide, by decide, fun z H3 z0 z1 k3 g3 => ?_⟩⟩⟩⟩
  have pg : p ≠ g := by obtain ⟨o, ho⟩ := g2.some; exact (ne_of_none ho np).symm
  obtain ⟨e, he, ok0⟩ : ∃ e : List Nat, atI [V.str (Str.ofString "<"), V.str (Str.ofString ">"), V.str (Str.ofString " "), V.str (Str.ofString "l"), V.str (Str.ofString "r"), V.str (Str.ofString "  "), V.str (Str.ofString "x"), V.str (Str.ofString "> ")] z = some (.str (S e)) ∧ OkT 2 e := by
    have hz : z = 0 ∨ z = 1 ∨ z = 2 ∨ z = 3 ∨ z = 4 ∨ z = 5 ∨ z = 6 ∨ z = 7 := by omega
    rcases hz with rfl | rfl | rfl | rfl | rfl | rfl | rfl | rfl
    · exact ⟨[60], by rw [show S [60] = Str.ofString "<" by decide +kernel]; rfl, by decide, by decide⟩
    · exact ⟨[62], by rw [show S [62] = Str.ofString ">" by decide +kernel]; rfl, by decide, by decide⟩
    · exact ⟨[32], by rw [show S [32] = Str.ofString " " by decide +kernel]; rfl, by decide, by decide⟩
    · exact ⟨[108], by rw [show S [108] = Str.ofString "l" by decide +kernel]; rfl, by decide, by decide⟩
    · exact ⟨[114], by rw [show S [114] = Str.ofString "r" by decide +kernel]; rfl, by decide, by decide⟩
    · exact ⟨[32, 32], by rw [show S [32, 32] = Str.ofString "  " by decide +kernel]; rfl, by decide, by decide⟩
    · exact ⟨[120], by rw [show S [120] = Str.ofString "x" by decide +kernel]; rfl, by decide, by decide⟩
    · exact ⟨[62, 32], by rw [show S [62, 32] = Str.ofString "> " by decide +kernel]; rfl, by decide, by decide⟩
  refine ⟨p, _, z, _, rfl, rfl, SqL.of (k3 _ _ pg upd_same), he, ?_⟩
  have kA := (k1.trans k2).trans ((Keep.of (g := g) ((L2.Same.refl H2).new np _)).trans k3)
  clear k3 k2 k1 he
  obtain ⟨a1, ea1, oka1⟩ := cut_ex cs none (some i)
  obtain ⟨a2, ea2, oka2⟩ := cut_ex cs (some i) none
  obtain ⟨a3, ea3, oka3⟩ := cut_ex cs (some (i + 1)) none
  obtain ⟨a4, ea4, oka4⟩ := cut_ex cs (some i) (some j)
  have oka1 := oka1 _ hcs
  have oka2 := oka2 _ hcs
  have oka3 := oka3 _ hcs
  have oka4 := oka4 _ hcs
  have addS : ∀ {A B : Nat} {a b : List Nat}, OkT A a → OkT B b → A + B ≤ 100000 → (S a).length + (S b).length ≤ sizeLine := fun {A B a b} h1 h2 h3 => by
    have := h1.1; have := h2.1
    rw [S_len, S_len]
    exact small5 (by omega)
  refine ⟨i, rfl, S cs, rfl, szc, ?_⟩
  rw [ea1]
  refine ⟨_, rfl, _, rfl, addS oka1 ok0 (by decide), i, rfl, S cs, rfl, szc, ?_⟩
  rw [ea2, S_app]
  have b1 := oka1.app ok0
  refine ⟨_, rfl, addS b1 oka2 (by decide), i, rfl, S cs, rfl, szc, ?_⟩
  rw [ea1, S_app]
  have b2 := b1.app oka2
  refine ⟨i, rfl, S cs, rfl, szc, ?_⟩
  rw [ea3]
  refine ⟨_, rfl, _, rfl, addS oka1 oka3 (by decide), i, rfl, j, rfl, S cs, rfl, szc, ?_⟩
  rw [ea4, S_app]
  have b3 := oka1.app oka3
  refine ⟨_, rfl, S cs, rfl, szc, by decide, fun p2 np2 => ?_⟩
  have b5 : OkT 20000 cs.reverse := ⟨by rw [List.length_reverse]; exact hl, fun c h => hc c (List.mem_reverse.mp h)⟩
  have er : (⟨(S cs).cps.toList.reverse.toArray⟩ : Str) = S cs.reverse := by simp
  rw [er]
  have p2g : p2 ≠ g := by obtain ⟨o, ho⟩ := g3.some; exact (ne_of_none ho np2).symm
  have kB := kA.trans (Keep.of (g := g) ((L2.Same.refl H3).new np2 (.lst [sV cs, V.str (S (a1 ++ e ++ a2)), V.str (S (a1 ++ a3)), V.str (S a4), V.str (S cs.reverse)])))
  have g4 := g3.new (o := .lst [sV cs, V.str (S (a1 ++ e ++ a2)), V.str (S (a1 ++ a3)), V.str (S a4), V.str (S cs.reverse)]) np2
  have h4 : upd H3 p2 (.lst [sV cs, V.str (S (a1 ++ e ++ a2)), V.str (S (a1 ++ a3)), V.str (S a4), V.str (S cs.reverse)]) p2 = some (.lst ([cs, a1 ++ e ++ a2, a1 ++ a3, a4, cs.reverse].map sV)) := upd_same
  generalize upd H3 p2 (.lst [sV cs, V.str (S (a1 ++ e ++ a2)), V.str (S (a1 ++ a3)), V.str (S a4), V.str (S cs.reverse)]) = H4 at kB g4 h4 ⊢
  have e32 : Str.ofString " " = S [32] := by decide +kernel
  have b32 : OkT 1 [32] := ⟨by decide, by decide⟩
  rw [e32]
  refine ⟨_, rfl, _, rfl, _, rfl, i, rfl, S cs, rfl, szc, ?_⟩
  rw [ea1]
  refine ⟨_, rfl, _, rfl, _, rfl, addS oka1 ok0 (by decide), _, rfl, _, rfl, _, _, rfl, rfl, _, rfl, S cs, rfl, szc, ?_⟩
  rw [ea3, S_app]
  have b6 := b1.app oka3
  refine ⟨_, rfl, _, rfl, addS b1 oka3 (by decide), _, rfl, _, rfl, _, rfl, addS hcs b32 (by decide), _, rfl, _, rfl, _, rfl, addS b32 hcs (by decide), small5 (by simp), fun p3 np3 => ?_⟩
  rw [S_app, S_app, S_app]
  have p3g : p3 ≠ g := by obtain ⟨o, ho⟩ := g4.some; exact (ne_of_none ho np3).symm
  have p32 : p3 ≠ p2 := fun z => by rw [z, h4] at np3; cases np3
  have kC := kB.trans (Keep.of (g := g) ((L2.Same.refl H4).new np3 (.lst [V.str (S (a1 ++ e ++ a3)), V.str (S (cs ++ [32])), V.str (S ([32] ++ cs))])))
  have g5 := g4.new (o := .lst [V.str (S (a1 ++ e ++ a3)), V.str (S (cs ++ [32])), V.str (S ([32] ++ cs))]) np3
  have h5 : upd H4 p3 (.lst [V.str (S (a1 ++ e ++ a3)), V.str (S (cs ++ [32])), V.str (S ([32] ++ cs))]) p3 = some (.lst ([a1 ++ e ++ a3, cs ++ [32], [32] ++ cs].map sV)) := upd_same
  have h45 : upd H4 p3 (.lst [V.str (S (a1 ++ e ++ a3)), V.str (S (cs ++ [32])), V.str (S ([32] ++ cs))]) p2 = _ := (upd_ne p32.symm).trans h4
  generalize upd H4 p3 (.lst [V.str (S (a1 ++ e ++ a3)), V.str (S (cs ++ [32])), V.str (S ([32] ++ cs))]) = H5 at kC g5 h5 h45 ⊢
  clear kB kA g4 h4 g3 g2 g1
  have okL8 : ∀ t ∈ [cs, a1 ++ e ++ a2, a1 ++ a3, a4, cs.reverse] ++ [a1 ++ e ++ a3, cs ++ [32], [32] ++ cs], OkT 50000 t := by
    intro t ht
    simp only [List.cons_append, List.nil_append, List.mem_cons, List.not_mem_nil, or_false] at ht
    rcases ht with rfl | rfl | rfl | rfl | rfl | rfl | rfl | rfl
    · exact hcs.mono (by decide)
    · exact b2.mono (by decide)
    · exact b3.mono (by decide)
    · exact oka4.mono (by decide)
    · exact b5.mono (by decide)
    · exact b6.mono (by decide)
    · exact (hcs.app b32).mono (by decide)
    · exact (b32.app hcs).mono (by decide)
  refine ⟨p2, p3, _, _, rfl, rfl, h45, h5, small5 (by simp), fun p4 np4 => ?_⟩
  rw [← List.map_append]
  generalize hLL : [cs, a1 ++ e ++ a2, a1 ++ a3, a4, cs.reverse] ++ [a1 ++ e ++ a3, cs ++ [32], [32] ++ cs] = LL at okL8 ⊢
  have p4g : p4 ≠ g := by obtain ⟨o, ho⟩ := g5.some; exact (ne_of_none ho np4).symm
  have kD := kC.trans (Keep.of (g := g) ((L2.Same.refl H5).new np4 (.lst (LL.map sV))))
  have g6 := g5.new (o := .lst (LL.map sV)) np4
  have h6 : upd H5 p4 (.lst (LL.map sV)) p4 = some (.lst (LL.map sV)) := upd_same
  generalize upd H5 p4 (.lst (LL.map sV)) = H6 at kD g6 h6 ⊢
  clear kC g5 h5 h45
  refine ⟨p4, rfl, ⟨_, SqL.of h6⟩, for_list (K := K) (a := p4) (xs := LL.map sV) (fun k σ H' => ∃ x6 x7, σ = [some (V.ref g), some (sV cs), some (V.int i), some (V.int j), some (V.str (S e)), some (V.ref p2), x6, x7] ∧ Keep g H H' ∧ GenAt H' g (n + 9) ∧ H' p4 = some (.lst (LL.map sV))) ⟨_, _, rfl, kD, g6.mono (by omega), h6⟩ ?_ ?_ ?_⟩
  · rintro k σ H' hk ⟨x6, x7, rfl, k1, g1, h1⟩
    exact SqL.of h1
  · rintro k x σ H' hk ⟨x6, x7, rfl, k1, g1, h1⟩
    rw [List.getElem?_map] at hk
    obtain ⟨t, ht, rfl⟩ := Option.map_eq_some_iff.mp hk
    have okt := okL8 t (List.mem_of_getElem? ht)
    have tl := okt.1
    simp only [cxOf_K, tAsg2, tYes, wipe, tSeq, tIfS, tNot, tB, tCB, tCons, tNil, tVar, tC, tTest, tOp, tAnd, tOr, tAsg, gName, tRet, tRetN, tDrop, tNext, tIf, tCall, tTup, tLst, tNotV, tAndV, tOrV, tUn, rI0, rI, rU, rEq, rNe, tM1, tM0, tBM, tBM0, tSl, tPart, tNoPart, iStr, iEnumS, iRng1, iRng2, iList, gSub, tBits, tAug, tPar, L2.start, List.map_cons, List.map_nil, List.length_cons, List.length_nil, List.getElem?_cons_zero, List.getElem?_cons_succ, List.cons_append, List.nil_append, List.append_nil, List.set_cons_zero, List.set_cons_succ, List.replicate_succ, List.replicate_zero, Option.some.injEq, exists_eq_left', V.int.injEq, V.str.injEq, V.ref.injEq, V.bl.injEq, exists_and_left, exists_eq_left, List.cons.injEq, and_true, true_and, tCallX, tRs]
    refine ⟨t, rfl, by omega, okt.2, ?_⟩
    cases hx : rdText t with
    | none =>
      refine .inr ⟨rfl, fun H7 s7 => ?_⟩
      refine ifdT rfl ?_
      refine ⟨3, sV t, .non, sV t, true, rfl, .inr (.inr ⟨rfl, .inl ⟨t, rfl, by omega, hx⟩, rfl, rfl⟩), .inl ⟨_, _, okt.good (by decide), .base (.str _), kit_ty (by decide +kernel), fun H8 s8 p H9 np s9 hp => ?_⟩⟩
      refine (okt.good (by decide)).repr ⟨by decide, fun p' np' => ?_⟩
      have hp' := ((L2.Same.refl H9).new np' (.lst [V.bl true, V.bl false, V.str (PyData.shown (.str (S t)))])) _ _ hp
      refine ⟨p, p', _, rfl, rfl, SqL.of hp', SqL.of upd_same, fun z hz => ?_, false, rfl, ?_⟩
      · simp only [List.mem_cons, List.mem_nil_iff, or_false] at hz
        rcases hz with rfl | rfl | rfl <;> rfl
      rw [if_neg (by decide)]
      refine ifnF rfl ?_
      rw [if_neg (by decide)]
      have s10 := (s7.trans (s8.trans s9)).new (s7.free (s8.free (s9.free np'))) (.lst [V.bl true, V.bl false, V.str (PyData.shown (.str (S t)))])
      exact ⟨_, _, ⟨rfl, rfl⟩, k1.trans (Keep.of s10), g1.same s10, s10 _ _ h1⟩
    | some xs =>
      refine .inl ⟨xs, rfl, fun p5 ws H7 np5 s7 hp5 st5 => ?_⟩
      refine ifdF (fun z => by cases z) ?_
      rw [if_neg (by decide)]
      refine ifnT (fun z => by cases z) ?_
      refine ⟨_, rfl, .inl ⟨t, rfl, by omega, .inl ⟨xs, hx, fun p6 ws6 H8 np6 s8 hp6 st6 => ?_⟩⟩⟩
      refine neSt (okRd hx) hp6 st6 (s8 _ _ hp5) (st5.same s8) ⟨false, rfl, ?_⟩
      rw [if_neg (by decide)]
      have s10 := s7.trans s8
      exact ⟨_, _, ⟨rfl, rfl⟩, k1.trans (Keep.of s10), g1.same s10, s10 _ _ h1⟩
  · rintro σ H' ⟨x6, x7, rfl, k1, g1, h1⟩
    simp only [cxOf_K, tAsg2, tYes, wipe, tSeq, tIfS, tNot, tB, tCB, tCons, tNil, tVar, tC, tTest, tOp, tAnd, tOr, tAsg, gName, tRet, tRetN, tDrop, tNext, tIf, tCall, tTup, tLst, tNotV, tAndV, tOrV, tUn, rI0, rI, rU, rEq, rNe, tM1, tM0, tBM, tBM0, tSl, tPart, tNoPart, iStr, iEnumS, iRng1, iRng2, iList, gSub, tBits, tAug, tPar, L2.start, List.map_cons, List.map_nil, List.length_cons, List.length_nil, List.getElem?_cons_zero, List.getElem?_cons_succ, List.cons_append, List.nil_append, List.append_nil, List.set_cons_zero, List.set_cons_succ, List.replicate_succ, List.replicate_zero, Option.some.injEq, exists_eq_left', V.int.injEq, V.str.injEq, V.ref.injEq, V.bl.injEq, exists_and_left, exists_eq_left, List.cons.injEq, and_true, true_and, tCallX, tRs]
    exact q H' k1 g1

theorem dvSt {H : Hp} {c : Bool} : ∀ {ws : List V} {xs : List (Str × List Nat)}, Stps H ws xs → DVs H c ws (xs.map stD)
  | _, _, .nil => .nil
  | _, _, .cons a b => .cons (.tup a (.cons (.str _) (.cons (.str _) .nil))) (dvSt b)
structure Plain (ds : List PyData) (n : Nat) : Prop where
  sh : PyData.showableAll ds = true
  dp : PyData.depthAll ds ≤ 5
  ls : PyData.leavesShortAll 30 ds = true
  bk : PyData.bulkAll ds ≤ n
  hd : PyData.hasDictAll ds = false
theorem Plain.app {ds es : List PyData} {m n : Nat} (h : Plain ds m) (g : Plain es n) : Plain (ds ++ es) (m + n) := by
  refine ⟨?_, ?_, ?_, ?_, ?_⟩
  · have : ∀ ds es : List PyData, PyData.showableAll ds = true → PyData.showableAll es = true → PyData.showableAll (ds ++ es) = true := fun ds es => by
      induction ds with
      | nil => intro _ h; exact h
      | cons d ds ih =>
        intro h g
        simp only [PyData.showableAll, Bool.and_eq_true, List.cons_append] at h ⊢
        exact ⟨h.1, ih h.2 g⟩
    exact this _ _ h.sh g.sh
  · have : ∀ ds es : List PyData, PyData.depthAll (ds ++ es) = max (PyData.depthAll ds) (PyData.depthAll es) := fun ds es => by
      induction ds with
      | nil => simp [PyData.depthAll]
      | cons d ds ih => simp only [PyData.depthAll, List.cons_append, ih]; omega
    rw [this]
    have := h.dp; have := g.dp
    omega
  · have : ∀ ds es : List PyData, PyData.leavesShortAll 30 ds = true → PyData.leavesShortAll 30 es = true → PyData.leavesShortAll 30 (ds ++ es) = true := fun ds es => by
      induction ds with
      | nil => intro _ h; exact h
      | cons d ds ih =>
        intro h g
        simp only [PyData.leavesShortAll, Bool.and_eq_true, List.cons_append] at h ⊢
        exact ⟨h.1, ih h.2 g⟩
    exact this _ _ h.ls g.ls
  · have : ∀ ds es : List PyData, PyData.bulkAll (ds ++ es) = PyData.bulkAll ds + PyData.bulkAll es := fun ds es => by
      induction ds with
      | nil => simp [PyData.bulkAll]
      | cons d ds ih => simp only [PyData.bulkAll, List.cons_append, ih]; omega
    rw [this]
    have := h.bk; have := g.bk
    omega
  · have : ∀ ds es : List PyData, PyData.hasDictAll ds = false → PyData.hasDictAll es = false → PyData.hasDictAll (ds ++ es) = false := fun ds es => by
      induction ds with
      | nil => intro _ h; exact h
      | cons d ds ih =>
        intro h g
        simp only [PyData.hasDictAll, Bool.or_eq_false_iff, List.cons_append] at h ⊢
        exact ⟨h.1, ih h.2 g⟩
    exact this _ _ h.hd g.hd
theorem Plain.mono {ds : List PyData} {m n : Nat} (h : Plain ds m) (l : m ≤ n) : Plain ds n := ⟨h.sh, h.dp, h.ls, Nat.le_trans h.bk l, h.hd⟩
theorem Plain.nil : Plain [] 0 := ⟨by simp [PyData.showableAll], by simp [PyData.depthAll], by simp [PyData.leavesShortAll], by simp [PyData.bulkAll], by simp [PyData.hasDictAll]⟩
theorem plainStr (z : Str) {n : Nat} (h : z.length + 1 ≤ n) (hz : ∀ c ∈ z.cps.toList, c < 16 ^ 8) : Plain [.str z] n := by
  refine ⟨by simp [PyData.showableAll, PyData.showable], by simp [PyData.depthAll, PyData.depth], ?_, ?_, by simp [PyData.hasDictAll, PyData.hasDict]⟩
  · simp only [PyData.leavesShortAll, PyData.leavesShort, Bool.and_true, List.all_eq_true, decide_eq_true_eq]
    exact hz
  · simp only [PyData.bulkAll, PyData.bulk]
    have : z.cps.size = z.length := rfl
    omega
theorem Plain.tup {ds : List PyData} {n : Nat} (h : Plain ds n) (l : PyData.depthAll ds ≤ 4) : Plain [.tuple ds] (n + 1) := by
  refine ⟨by simp only [PyData.showableAll, PyData.showable, h.sh]; rfl, by simp only [PyData.depthAll, PyData.depth]; omega, by simp only [PyData.leavesShortAll, PyData.leavesShort, h.ls]; rfl, ?_, by simp only [PyData.hasDictAll, PyData.hasDict, h.hd]; rfl⟩
  have := h.bk
  simp only [PyData.bulkAll, PyData.bulk]; omega
theorem Plain.lst {ds : List PyData} {n : Nat} (h : Plain ds n) (l : PyData.depthAll ds ≤ 4) : Plain [.list ds] (n + 1) := by
  refine ⟨by simp only [PyData.showableAll, PyData.showable, h.sh]; rfl, by simp only [PyData.depthAll, PyData.depth]; omega, by simp only [PyData.leavesShortAll, PyData.leavesShort, h.ls]; rfl, ?_, by simp only [PyData.hasDictAll, PyData.hasDict, h.hd]; rfl⟩
  have := h.bk
  simp only [PyData.bulkAll, PyData.bulk]; omega
theorem stPlain : ∀ (xs : List (Str × List Nat)) {n : Nat}, (∀ x ∈ xs, okSt n x) → Plain (xs.map stD) (xs.length * (n + 9))
  | [], n, _ => Plain.nil.mono (Nat.zero_le _)
  | x :: xs, n, h => by
    have hx := h x (List.mem_cons_self ..)
    have h1 : Plain [PyData.str x.1] 6 := plainStr _ (by have := wordLen hx; omega) fun c hc => by
      rcases hx.1 with e | e
      · rw [e] at hc
        have : ∀ c ∈ (Str.ofString "left").cps.toList, c < 16 ^ 8 := by decide +kernel
        exact this c hc
      · rw [e] at hc
        have : ∀ c ∈ (Str.ofString "right").cps.toList, c < 16 ^ 8 := by decide +kernel
        exact this c hc
    have h2 : Plain [PyData.str (S x.2)] (n + 1) := plainStr _ (by rw [S_len]; have := hx.2.2; omega) fun c hc => by
      have := List.all_eq_true.mp hx.2.1 c (by simpa using hc)
      simp only [Bool.or_eq_true, beq_iff_eq] at this
      omega
    have h3 := (h1.app h2).tup (by simp [PyData.depthAll, PyData.depth])
    have h4 := h3.app (stPlain xs fun y hy => h y (List.mem_cons_of_mem _ hy))
    refine Plain.mono (n := (x :: xs).length * (n + 9)) (show Plain ([stD x] ++ xs.map stD) _ from h4) ?_
    rw [List.length_cons, Nat.succ_mul]
    omega
theorem goodList {H : Hp} {p : Addr} {ws : List V} {ds : List PyData} {n : Nat} (h : H p = some (.lst ws)) (dv : DVs H false ws ds) (pl : Plain ds n) (l : n ≤ 200000) : Good H (.ref p) (.list ds) := by
  have e : (PyData.list ds).hasDict = false := by simp only [PyData.hasDict, pl.hd]
  refine ⟨?_, by simp only [PyData.showable, pl.sh], ?_, by simp only [PyData.leavesShort, pl.ls], ?_⟩
  · rw [e]
    exact .lst (fun z => by cases z) h dv
  · have := pl.dp
    simp only [PyData.depth]; omega
  · have := pl.bk
    simp only [PyData.bulk]; omega
theorem goodTup {H : Hp} {p : Addr} {ws : List V} {ds : List PyData} {n : Nat} (h : H p = some (.tup ws)) (dv : DVs H false ws ds) (pl : Plain ds n) (l : n ≤ 200000) : Good H (.ref p) (.tuple ds) := by
  have e : (PyData.tuple ds).hasDict = false := by simp only [PyData.hasDict, pl.hd]
  refine ⟨?_, by simp only [PyData.showable, pl.sh], ?_, by simp only [PyData.leavesShort, pl.ls], ?_⟩
  · rw [e]
    exact .tup h dv
  · have := pl.dp
    simp only [PyData.depth]; omega
  · have := pl.bk
    simp only [PyData.bulk]; omega
theorem stDepth (xs : List (Str × List Nat)) : PyData.depthAll (xs.map stD) ≤ 4 := by
  have := stDep xs
  omega
/-- three scripts -/
theorem goodThree {H : Hp} {p a b c : Addr} {wa wb wc : List V} {xa xb xc : List (Str × List Nat)} (hp : H p = some (.lst [V.ref a, .ref b, .ref c])) (ha : H a = some (.lst wa)) (hb : H b = some (.lst wb)) (hc : H c = some (.lst wc)) (sa : Stps H wa xa) (sb : Stps H wb xb) (sc : Stps H wc xc)
    (oa : ∀ x ∈ xa, okSt 200 x) (ob : ∀ x ∈ xb, okSt 200 x) (oc : ∀ x ∈ xc, okSt 200 x) (la : xa.length ≤ 60) (lb : xb.length ≤ 60) (lc : xc.length ≤ 60) :
    Good H (.ref p) (.list [.list (xa.map stD), .list (xb.map stD), .list (xc.map stD)]) := by
  have h1 := (stPlain xa oa).lst (stDepth xa)
  have h2 := (stPlain xb ob).lst (stDepth xb)
  have h3 := (stPlain xc oc).lst (stDepth xc)
  have e1 : xa.length * (200 + 9) ≤ 60 * 209 := Nat.mul_le_mul_right _ la
  have e2 : xb.length * (200 + 9) ≤ 60 * 209 := Nat.mul_le_mul_right _ lb
  have e3 : xc.length * (200 + 9) ≤ 60 * 209 := Nat.mul_le_mul_right _ lc
  exact goodList hp (.cons (.lst (fun z => by cases z) ha (dvSt sa)) (.cons (.lst (fun z => by cases z) hb (dvSt sb)) (.cons (.lst (fun z => by cases z) hc (dvSt sc)) .nil))) ((h1.app h2).app h3) (by omega)
/-- what is written is read -/
theorem spl_no : ∀ l : List Nat, 32 ∉ l → spl 32 l = [l]
  | [], _ => rfl
  | x :: xs, h => by
    have hx : x ≠ 32 := fun z => h (by rw [z]; exact List.mem_cons_self ..)
    have ih := spl_no xs fun z => h (List.mem_cons_of_mem _ z)
    unfold spl
    rw [if_neg hx, ih]
    rfl
theorem spl_cut : ∀ (a b : List Nat), 32 ∉ a → spl 32 (a ++ 32 :: b) = a :: spl 32 b
  | [], b, _ => by
    show spl 32 (32 :: b) = _
    rw [show spl 32 (32 :: b) = (if 32 = 32 then [] :: spl 32 b else (32 :: (spl 32 b).headD []) :: (spl 32 b).tail) from rfl, if_pos rfl]
  | x :: a, b, h => by
    have hx : x ≠ 32 := fun z => h (by rw [z]; exact List.mem_cons_self ..)
    have ih := spl_cut a b fun z => h (List.mem_cons_of_mem _ z)
    show spl 32 (x :: (a ++ 32 :: b)) = _
    rw [show spl 32 (x :: (a ++ 32 :: b)) = (if x = 32 then [] :: spl 32 (a ++ 32 :: b) else (x :: (spl 32 (a ++ 32 :: b)).headD []) :: (spl 32 (a ++ 32 :: b)).tail) from rfl, if_neg hx, ih]
    rfl
theorem splJoin : ∀ ls : List (List Nat), ls ≠ [] → (∀ l ∈ ls, 32 ∉ l) → spl 32 (TL.joinL [32] ls) = ls
  | [], h, _ => absurd rfl h
  | [p], _, h => spl_no p (h p (List.mem_cons_self ..))
  | p :: q :: r, _, h => by
    have e : TL.joinL [32] (p :: q :: r) = p ++ (32 :: TL.joinL [32] (q :: r)) := rfl
    rw [e, spl_cut _ _ (h p (List.mem_cons_self ..)), splJoin (q :: r) (by simp) fun l hl => h l (List.mem_cons_of_mem _ hl)]
theorem rdSt {n : Nat} {x : Str × List Nat} (h : okSt n x) : rdPiece (stT x) = some x := by
  obtain ⟨w, a⟩ := x
  obtain ⟨h1, h2, _⟩ := h
  simp only at h1 h2
  rcases h1 with rfl | rfl
  · have e : sgn (Str.ofString "left") = 60 := by decide +kernel
    show (if isA a then (if sgn (Str.ofString "left") = 60 then some (Str.ofString "left", a) else if sgn (Str.ofString "left") = 62 then some (Str.ofString "right", a) else none) else none) = _
    rw [e, h2]; rfl
  · have e : sgn (Str.ofString "right") = 62 := by decide +kernel
    show (if isA a then (if sgn (Str.ofString "right") = 60 then some (Str.ofString "left", a) else if sgn (Str.ofString "right") = 62 then some (Str.ofString "right", a) else none) else none) = _
    rw [e, h2]; rfl
theorem rdAllSt {n : Nat} : ∀ xs : List (Str × List Nat), (∀ x ∈ xs, okSt n x) → rdAll (xs.map stT) = some xs
  | [], _ => rfl
  | x :: xs, h => by
    show (rdPiece (stT x)).bind (fun x => (rdAll (xs.map stT)).map fun y => x :: y) = _
    rw [rdSt (h x (List.mem_cons_self ..)), rdAllSt xs fun y hy => h y (List.mem_cons_of_mem _ hy)]
    rfl
theorem st32 {n : Nat} {x : Str × List Nat} (h : okSt n x) : 32 ∉ stT x := by
  intro z
  rw [stT] at z
  rcases List.mem_cons.mp z with z | z
  · unfold sgn at z
    split at z <;> cases z
  · have := List.all_eq_true.mp h.2.1 32 z
    cases this
theorem rdTextT {n : Nat} (xs : List (Str × List Nat)) (h : ∀ x ∈ xs, okSt n x) : rdText (textT xs) = some xs := by
  unfold rdText textT
  cases xs with
  | nil => rfl
  | cons x xs =>
    have ne : TL.joinL [32] ((x :: xs).map stT) ≠ [] := by
      cases xs with
      | nil => simp [TL.joinL, stT]
      | cons y ys => simp [TL.joinL, stT]
    rw [if_neg ne, splJoin _ (by simp) fun l hl => by
      obtain ⟨y, hy, rfl⟩ := List.mem_map.mp hl
      exact st32 (h y hy)]
    exact rdAllSt _ h
theorem textCh {n : Nat} (xs : List (Str × List Nat)) (h : ∀ x ∈ xs, okSt n x) : ∀ c ∈ textT xs, c < 0x110000 := by
  have one : ∀ x, okSt n x → ∀ c ∈ stT x, c < 0x110000 := fun x hx c hc => by
    rw [stT] at hc
    rcases List.mem_cons.mp hc with rfl | hc
    · unfold sgn; split <;> decide
    · have := List.all_eq_true.mp hx.2.1 c hc
      simp only [Bool.or_eq_true, beq_iff_eq] at this
      omega
  have all : ∀ ls : List (List Nat), (∀ l ∈ ls, ∀ c ∈ l, c < 0x110000) → ∀ c ∈ TL.joinL [32] ls, c < 0x110000 := fun ls => by
    induction ls with
    | nil => intro _ c hc; cases hc
    | cons p ls ih =>
      intro h c hc
      cases ls with
      | nil => exact h p (List.mem_cons_self ..) c hc
      | cons q r =>
        have hc : c ∈ p ++ ([32] ++ TL.joinL [32] (q :: r)) := hc
        rcases List.mem_append.mp hc with hc | hc
        · exact h p (List.mem_cons_self ..) c hc
        · rcases List.mem_append.mp hc with hc | hc
          · rw [List.mem_singleton.mp hc]; decide
          · exact ih (fun l hl => h l (List.mem_cons_of_mem _ hl)) c hc
  refine all _ fun l hl => ?_
  obtain ⟨x, hx, rfl⟩ := List.mem_map.mp hl
  exact one x (h x hx)
theorem okOth {n : Nat} {x : Str × List Nat} (h : okSt n x) : okSt n (oth x.1, x.2) := by
  refine ⟨?_, h.2⟩
  rcases h.1 with e | e
  · rw [e]; exact .inr (show oth (Str.ofString "left") = Str.ofString "right" by decide +kernel)
  · rw [e]; exact .inl (show oth (Str.ofString "right") = Str.ofString "left" by decide +kernel)
theorem isA_app {a b : List Nat} (h : isA a = true) (g : isA b = true) : isA (a ++ b) = true := by
  simp only [isA, List.all_append] at h g ⊢
  rw [h, g]; rfl

theorem cutAt {G : Prop} {U : Hp → Prop} {C : Hp → Nat → Prop} (use : (∀ H n, C H n → U H) → G) (key : ∀ H n, C H n → U H) : G := use key
theorem cutV {G : Prop} {U : V → Hp → Prop} {C : V → Hp → Prop} (use : (∀ v H, C v H → U v H) → G) (key : ∀ v H, C v H → U v H) : G := use key
/-- no script: by its kind, or a list with an item that is no step -/
def ItemB (K : PySem.W.Frag) (H : Hp) (v : V) : Prop :=
  (∃ d ty, TyX K H v ty ∧ PySem.W.kitOne K ty (.type "list") = some false ∧ Good H v d) ∨
  (∃ l ws ds n, v = .ref l ∧ H l = some (.lst ws) ∧ ws.length ≤ 100 ∧ (∀ u ∈ ws, IsStep H u ∨ NotStep K H u) ∧ (∃ u ∈ ws, NotStep K H u) ∧ DVs H false ws ds ∧ Plain ds n ∧ n ≤ 100000)
theorem ItemB.same {H H' : Hp} {v : V} (h : ItemB K H v) (s : Same H H') : ItemB K H' v := by
  rcases h with ⟨d, ty, a, b, g⟩ | ⟨l, ws, ds, n, e, hl, lw, al, ⟨u, hu, nu⟩, dv, pl, ln⟩
  · exact .inl ⟨d, ty, tyX_same a s, b, g.same s⟩
  · exact .inr ⟨l, ws, ds, n, e, s _ _ hl, lw, fun u hu => (al u hu).imp (fun z => z.same s) fun z => z.same s, ⟨u, hu, nu.same s⟩, DVs.same s dv, pl, ln⟩
theorem plainInt (i : Int) (h : ((PyData.int i).shown).length ≤ 30) (h2 : (PyData.int i).showable = true) : Plain [.int i] 1 := by
  refine ⟨by simp only [PyData.showableAll, h2]; rfl, by simp [PyData.depthAll, PyData.depth], ?_, by simp [PyData.bulkAll, PyData.bulk], by simp [PyData.hasDictAll, PyData.hasDict]⟩
  simp only [PyData.leavesShortAll, PyData.leavesShort, decide_eq_true h]; rfl
theorem plainNon : Plain [.none] 1 := ⟨by simp [PyData.showableAll, PyData.showable], by simp [PyData.depthAll, PyData.depth], by simp [PyData.leavesShortAll, PyData.leavesShort], by simp [PyData.bulkAll, PyData.bulk], by simp [PyData.hasDictAll, PyData.hasDict]⟩
theorem DVsapp {H : Hp} {c : Bool} : ∀ {ws : List V} {ds : List PyData} {us : List V} {es : List PyData}, DVs H c ws ds → DVs H c us es → DVs H c (ws ++ us) (ds ++ es)
  | _, _, _, _, .nil, b => b
  | _, _, _, _, .cons a r, b => .cons a (DVsapp r b)
theorem goodStr1 {H : Hp} (z : Str) (l : z.length ≤ 100000) (hz : ∀ c ∈ z.cps.toList, c < 16 ^ 8) : Good H (.str z) (.str z) := by
  refine ⟨.str _, by simp [PyData.showable], by simp [PyData.depth], ?_, ?_⟩
  · simp only [PyData.leavesShort, List.all_eq_true, decide_eq_true_eq]; exact hz
  · simp only [PyData.bulk]
    have : z.cps.size = z.length := rfl
    omega
theorem goodNon {H : Hp} : Good H .non .none := ⟨.non, by decide +kernel, by decide +kernel, by decide +kernel, by decide +kernel⟩
theorem goodBl {H : Hp} (b : Bool) : Good H (.bl b) (.bool b) := ⟨.bl b, by simp [PyData.showable], by simp [PyData.depth], by simp [PyData.leavesShort], by simp [PyData.bulk]⟩
theorem goodDict {H : Hp} {p : Addr} (h : H p = some (.dK [])) : Good H (.ref p) (.dict []) := ⟨.dic h .nil, by decide +kernel, by decide +kernel, by decide +kernel, by decide +kernel⟩
theorem notTupleList {H : Hp} {p : Addr} {ws : List V} (h : H p = some (.lst ws)) : NotStep K H (.ref p) := .inl ⟨_, .base (.lst h), kit_ty (by decide +kernel)⟩
/-- a list of steps and one more item -/
theorem itemMore {H : Hp} {l : Addr} {ws : List V} {xs : List (Str × List Nat)} {u : V} {d : PyData} (h : H l = some (.lst (ws ++ [u]))) (st : Stps H ws xs) (ok : ∀ x ∈ xs, okSt 200 x) (lx : xs.length ≤ 60) (nu : NotStep K H u) (dv : DV H false u d) (pl : Plain [d] 100) : ItemB K H (.ref l) := by
  have e1 : xs.length * (200 + 9) ≤ 60 * 209 := Nat.mul_le_mul_right _ lx
  refine .inr ⟨l, _, _, _, rfl, h, by have := st.length; rw [List.length_append, List.length_singleton]; omega, fun z hz => ?_, ⟨u, by simp, nu⟩, DVsapp (dvSt st) (.cons dv .nil), (stPlain xs ok).app pl, by omega⟩
  rcases List.mem_append.mp hz with hz | hz
  · obtain ⟨i, hi⟩ := List.getElem?_of_mem hz
    exact .inl (GoodS.isStep st (fun x hx => ⟨(ok x hx).1, (ok x hx).2.1, by have := (ok x hx).2.2; omega⟩) hi)
  · rw [List.mem_singleton.mp hz]; exact .inr nu
/-- a list of one item -/
theorem itemOne {H : Hp} {l : Addr} {u : V} {d : PyData} (h : H l = some (.lst [u])) (nu : NotStep K H u) (dv : DV H false u d) (pl : Plain [d] 100) : ItemB K H (.ref l) :=
  itemMore (ws := []) (xs := []) h .nil (fun x hx => by cases hx) (by decide) nu dv pl
theorem itemTup {H : Hp} {l : Addr} {ws : List V} {ds : List PyData} {n : Nat} (h : H l = some (.tup ws)) (dv : DVs H false ws ds) (pl : Plain ds n) (ln : n ≤ 100000) : ItemB K H (.ref l) :=
  .inl ⟨_, _, .base (.tup h), kit_ty (by decide +kernel), goodTup h dv pl (by omega)⟩
theorem itemNon {H : Hp} : ItemB K H .non := .inl ⟨_, _, .base .non, kit_ty (by decide +kernel), goodNon⟩
theorem itemStr {H : Hp} (z : Str) (l : z.length ≤ 100000) (hz : ∀ c ∈ z.cps.toList, c < 16 ^ 8) : ItemB K H (.str z) := .inl ⟨_, _, .base (.str z), kit_ty (by decide +kernel), goodStr1 z l hz⟩
theorem itemInt {H : Hp} : ItemB K H (.int 7) := .inl ⟨.int 7, _, .base (.int _), kit_ty (by decide +kernel), .int _, by decide +kernel, by decide +kernel, by decide +kernel, by decide +kernel⟩
theorem itemDict {H : Hp} {p : Addr} (h : H p = some (.dK [])) : ItemB K H (.ref p) := .inl ⟨_, _, .base (.dK h), kit_ty (by decide +kernel), goodDict h⟩

theorem joinFits (xs : List (Str × List Nat)) (h : xs.length ≤ 60) (hx : ∀ x ∈ xs, x.2.length ≤ 120) : (((xs.map stT).map S).map (·.length)).sum + ((xs.map stT).map S).length * (Str.ofString " ").length ≤ 16777216 := by
  have e : (xs.map stT).map S = xs.map fun x => S (stT x) := by rw [List.map_map]; rfl
  have b : (((xs.map stT).map S).map (·.length)).sum ≤ xs.length * 121 := by
    rw [e, List.map_map]
    refine sum_le _ _ fun n hn => ?_
    obtain ⟨x, hx', rfl⟩ := List.mem_map.mp hn
    have := hx x hx'
    show (S (stT x)).length ≤ _
    rw [S_len, stT, List.length_cons]
    omega
  have c : xs.length * 121 ≤ 60 * 121 := Nat.mul_le_mul_right _ h
  have d : (Str.ofString " ").length = 1 := rfl
  rw [d, List.length_map, List.length_map]
  omega
theorem joinLen : ∀ ls : List (List Nat), (∀ l ∈ ls, l.length ≤ 121) → (TL.joinL [32] ls).length ≤ ls.length * 122
  | [], _ => by simp [TL.joinL]
  | [p], h => by
    have := h p (List.mem_cons_self ..)
    simp [TL.joinL]; omega
  | p :: q :: r, h => by
    have h1 := h p (List.mem_cons_self ..)
    have h2 := joinLen (q :: r) fun l hl => h l (List.mem_cons_of_mem _ hl)
    have e : TL.joinL [32] (p :: q :: r) = p ++ ([32] ++ TL.joinL [32] (q :: r)) := rfl
    rw [e, List.length_append, List.length_append]
    simp only [List.length_cons, List.length_nil] at h2 ⊢
    omega
theorem textLen (xs : List (Str × List Nat)) (h : xs.length ≤ 60) (hx : ∀ x ∈ xs, x.2.length ≤ 120) : (textT xs).length ≤ 20000 := by
  have := joinLen (xs.map stT) fun l hl => by
    obtain ⟨x, hx', rfl⟩ := List.mem_map.mp hl
    have := hx x hx'
    rw [stT, List.length_cons]; omega
  rw [List.length_map] at this
  unfold textT
  omega
theorem ok_law (T : Txt w K mg) : FnG P w K mg base CX0 22 T.a_law T.fd_law ["_law_script"] (sp_law K) := by
  refine okG T.F_law sc_law (fun vs H Q E h => ?_) (fun cdv A outer s H vs Q E hG hr h => ?_)
  · obtain ⟨a, ns, rfl, _⟩ := h; rfl
  obtain ⟨a, ns, rfl, ha, hlen, q⟩ := h
  have hru := hr.units
  refine ⟨_, (pss_cons (ps_for PassesOwn.never rfl (pi_range1 rfl T.z_range (pa_cons pe_int pa_nil)) (pg_name (i := 1) sc_law.nd rfl (by first | exact Or.inl rfl | exact Or.inr rfl)) (pss_cons (ps_set (i := 2) sc_law.nd rfl (by first | exact Or.inl rfl | exact Or.inr rfl) (pe_call (ok_law_generator T) (hr.mono (by first | decide | omega)) (by rfl) T.m_law_generator T.F_law_generator.kp T.b_law_generator .nil pass0 (pa_cons (pv 0) (pa_cons (pv 1) pa_nil))))
    (pss_cons (ps_asg (pe_ix ix_list (pe_lst (pa_cons (pe_tup (pa_cons (pe_call (ok_law_random T) (hr.mono (by first | decide | omega)) (by rfl) T.m_law_random T.F_law_random.kp T.b_law_random .nil pass0 (pa_cons (pv 2) (pa_cons pe_int pa_nil))) (pa_cons pe_int pa_nil))) (pa_cons (pe_tup (pa_cons pe_int (pa_cons pe_int pa_nil))) pa_nil))) (pe_callTy call_intB (by rfl) T.z_int (by decide +kernel) (pa_cons (pe_cmpR op_eq (pv 1) pe_int (nomark _)) pa_nil)) (fun _ _ => rfl)) (pg_tup rfl (pgs_cons (pg_name (i := 3) sc_law.nd rfl (by first | exact Or.inl rfl | exact Or.inr rfl)) (pgs_cons (pg_name (i := 4) sc_law.nd rfl (by first | exact Or.inl rfl | exact Or.inr rfl)) pgs_nil))))
    (pss_cons (ps_set (i := 5) sc_law.nd rfl (by first | exact Or.inl rfl | exact Or.inr rfl) (pe_call (ok_law_steps T) (hr.mono (by first | decide | omega)) (by rfl) T.m_law_steps T.F_law_steps.kp T.b_law_steps .nil pass0 (pa_cons (pv 2) (pa_cons (pv 3) (pa_cons (pv 4) pa_nil)))))
    (pss_cons (ps_set (i := 6) sc_law.nd rfl (by first | exact Or.inl rfl | exact Or.inr rfl) (pe_call (ok_law_address T) (hr.mono (by first | decide | omega)) (by rfl) T.m_law_address T.F_law_address.kp T.b_law_address .nil pass0 (pa_cons (pv 2) (pa_cons pe_int pa_nil))))
    (pss_cons (ps_setLc (i := 7) (own := [("_law_word", 8), ("_law_one", 9)]) rfl sc_law.nd rfl rfl (sw_true rfl rfl rfl (by decide +kernel)) (pi_list (pe_revL (pv 5))) (blkOk_by (own := [("_law_word", 8), ("_law_one", 9)]) (N := nm_law) (sc := defScope s_law) (by decide +kernel)) (fun _ _ _ _ _ => by exact (show PG _ _ (gTup K 2 _) from (pg_tup rfl (pgs_cons (pg_name (i := 8) sc_law.nd rfl (by first | exact Or.inl rfl | exact Or.inr rfl)) (pgs_cons (pg_name (i := 9) sc_law.nd rfl (by first | exact Or.inl rfl | exact Or.inr rfl)) pgs_nil))))) (fun _ _ _ _ _ => by exact pts_nil) (fun _ _ _ _ _ => by exact (pe_tup (pa_cons (pe_ifExp (pt_cmpR op_eq (pv 8) pe_str (nomark _)) pe_str pe_str) (pa_cons (pv 9) pa_nil)))))
    (pss_cons (ps_set (i := 10) sc_law.nd rfl (by first | exact Or.inl rfl | exact Or.inr rfl) (pe_join pe_str (pe_lc (own := [("_law_word", 8), ("_law_one", 9)]) rfl sc_law.nd (pi_list (pv 5)) (blkOk_by (own := [("_law_word", 8), ("_law_one", 9)]) (N := nm_law) (sc := defScope s_law) (by decide +kernel)) (fun _ _ _ _ _ => by exact (show PG _ _ (gTup K 2 _) from (pg_tup rfl (pgs_cons (pg_name (i := 8) sc_law.nd rfl (by first | exact Or.inl rfl | exact Or.inr rfl)) (pgs_cons (pg_name (i := 9) sc_law.nd rfl (by first | exact Or.inl rfl | exact Or.inr rfl)) pgs_nil))))) (fun _ _ _ _ _ => by exact pts_nil) (fun _ _ _ _ _ => by exact (pe_op op_add_str (pe_op op_add_str (pe_op TD.op_rep01 pe_str (pe_callTy call_intB (by rfl) T.z_int (by decide +kernel) (pa_cons (pe_cmpR op_eq (pv 8) pe_str (nomark _)) pa_nil))) (pe_op TD.op_rep01 pe_str (pe_callTy call_intB (by rfl) T.z_int (by decide +kernel) (pa_cons (pe_cmpR op_eq (pv 8) pe_str (nomark _)) pa_nil)))) (pv 9))))))
    (pss_cons (ps_setLc (i := 11) (own := [("_law_word", 8), ("_law_one", 9)]) rfl sc_law.nd rfl rfl (sw_true rfl rfl rfl (by decide +kernel)) (pi_list (pv 5)) (blkOk_by (own := [("_law_word", 8), ("_law_one", 9)]) (N := nm_law) (sc := defScope s_law) (by decide +kernel)) (fun _ _ _ _ _ => by exact (show PG _ _ (gTup K 2 _) from (pg_tup rfl (pgs_cons (pg_name (i := 8) sc_law.nd rfl (by first | exact Or.inl rfl | exact Or.inr rfl)) (pgs_cons (pg_name (i := 9) sc_law.nd rfl (by first | exact Or.inl rfl | exact Or.inr rfl)) pgs_nil))))) (fun _ _ _ _ _ => by exact pts_nil) (fun _ _ _ _ _ => by exact (pe_tup (pa_cons (pv 8) (pa_cons (pe_op op_add_str (pv 6) (pv 9)) pa_nil)))))
    (pss_cons (ps_for PassesOwn.never rfl (pi_range1 rfl T.z_range (pa_cons pe_int pa_nil)) (pg_name (i := 12) sc_law.nd rfl (by first | exact Or.inl rfl | exact Or.inr rfl)) (pss_cons (ps_set (i := 13) sc_law.nd rfl (by first | exact Or.inl rfl | exact Or.inr rfl) (pe_lst (pa_cons (pe_call (ok_opposite T) (hr.mono (by first | decide | omega)) (by rfl) T.m_opposite T.F_opposite.kp T.b_opposite .nil passL (pa_cons (pv 5) pa_nil)) (pa_cons (pe_call (ok_lowered T) (hr.mono (by first | decide | omega)) (by rfl) T.m_lowered T.F_lowered.kp T.b_lowered .nil passL (pa_cons (pv 5) (pa_cons (pv 6) pa_nil))) (pa_cons (pe_call (ok_read_script T) (hr.mono (by first | decide | omega)) (by rfl) T.m_read_script T.F_read_script.kp T.b_read_script .nil passL (pa_cons (pv 10) pa_nil)) pa_nil)))))
    (pss_cons (ps_if (pw_or (pt_cmpR op_ne (pe_callB (cr_reprV hG hru) (by rfl) T.z_repr (by decide +kernel) (pa_cons (pv 13) pa_nil)) (pe_callB (cr_reprV hG hru) (by rfl) T.z_repr (by decide +kernel) (pa_cons (pe_lst (pa_cons (pv 7) (pa_cons (pv 11) (pa_cons (pv 5) pa_nil)))) pa_nil)) (nomark _)) (pw_or1 (pt_cmpR op_ne (pe_call (ok_text_of T) (hr.mono (by first | decide | omega)) (by rfl) T.m_text_of T.F_text_of.kp T.b_text_of .nil passL (pa_cons (pv 5) pa_nil)) (pv 10) (nomark _)))).pt (pss_one (ps_ret pe_bl)) pss_nil)
    (pss_one (ps_for PassesOwn.never rfl (pi_list (pv 13)) (pg_name (i := 9) sc_law.nd rfl (by first | exact Or.inl rfl | exact Or.inr rfl)) (pss_one (ps_expr (pe_bm PySem.F.plainAttrs_list PySem.F.slot_list_append PySem.F.type_list_append mt_append (pv 9) (pa_cons pe_non pa_nil)))))))))
    (pss_cons (ps_if (pw_and (pt_cmpR op_lt (pv 1) pe_int (nomark _)) (pw_and1 (pt_not (pt_val (pe_callG (ok_law_texts_right T) hG (hr.mono (by first | decide | omega)) (by rfl) T.m_law_texts_right T.F_law_texts_right.kp T.b_law_texts_right .nil pass0 (pa_cons (pv 2) (pa_cons (pv 10) pa_nil))))))).pt (pss_one (ps_ret pe_bl)) pss_nil)
    (pss_cons (ps_set (i := 14) sc_law.nd rfl (by first | exact Or.inl rfl | exact Or.inr rfl) (pe_lst (pa_cons pe_non (pa_cons pe_int (pa_cons (pe_op op_catA (pe_callTy call_tuple_of (by rfl) T.z_tuple (by decide +kernel) (pa_cons (pv 5) pa_nil)) (pe_tup (pa_cons pe_int pa_nil))) (pa_cons (pe_callTy call_tuple_of (by rfl) T.z_tuple (by decide +kernel) (pa_cons (pv 5) pa_nil)) (pa_cons (pe_tup pa_nil) (pa_cons (pe_lst (pa_cons (pe_tup (pa_cons pe_str pa_nil)) pa_nil)) (pa_cons (pe_lst (pa_cons (pe_lst (pa_cons pe_str (pa_cons pe_str pa_nil))) pa_nil)) (pa_cons (pe_op op_cat (pv 5) (pe_lst (pa_cons pe_non pa_nil))) (pa_cons pe_str (pa_cons pe_dnewK pa_nil))))))))))))
    (pss_cons (ps_for PassesOwn.never rfl (pi_list (pe_op op_cat (pv 14) (pe_lst (pa_cons (pe_lst (pa_cons (pe_tup (pa_cons pe_str (pa_cons pe_str pa_nil))) pa_nil)) pa_nil)))) (pg_name (i := 15) sc_law.nd rfl (by first | exact Or.inl rfl | exact Or.inr rfl)) (pss_one (ps_for PassesOwn.never rfl (pi_list (pe_lst (pa_cons pe_int (pa_cons pe_int (pa_cons pe_int (pa_cons pe_int pa_nil)))))) (pg_name (i := 16) sc_law.nd rfl (by first | exact Or.inl rfl | exact Or.inr rfl)) (pss_cons (ps_set (i := 17) sc_law.nd rfl (by first | exact Or.inl rfl | exact Or.inr rfl) (pe_ifExp (pt_val (pe_callB call_isi (by rfl) T.z_isinstance (by decide +kernel) (pa_cons (pv 15) (pa_cons (pe_bltn (v := .ty "list") (by rfl) T.z_list (by decide +kernel) rfl) pa_nil)))) (pe_callTy call_list_of (by rfl) T.z_list (by decide +kernel) (pa_cons (pv 15) pa_nil)) (pv 15)))
    (pss_cons (ps_set (i := 18) sc_law.nd rfl (by first | exact Or.inl rfl | exact Or.inr rfl) (pe_lst (pa_cons pe_int (pa_cons pe_str (pa_cons pe_str pa_nil)))))
    (pss_one (ps_if (pt_cmpR (TZ.op_neV hru) (pe_callG (ok_law_caught T) hG (hr.mono (by first | decide | omega)) (by rfl) T.m_law_caught T.F_law_caught.kp T.b_law_caught .nil pass0 (pa_cons (pv 16) (pa_cons (pv 17) (pa_cons (pe_ix ix_list (pv 18) (pe_call (ok_law_random T) (hr.mono (by first | decide | omega)) (by rfl) T.m_law_random T.F_law_random.kp T.b_law_random .nil pass0 (pa_cons (pv 2) (pa_cons pe_int pa_nil))) (fun _ _ => rfl)) pa_nil)))) (pe_lst (pa_cons pe_bl (pa_cons pe_bl (pa_cons (pe_callB (cr_reprV hG hru) (by rfl) T.z_repr (by decide +kernel) (pa_cons (pv 17) pa_nil)) pa_nil)))) (nomark _)) (pss_one (ps_ret pe_bl)) pss_nil)))))))
    (pss_one (ps_for PassesOwn.never rfl (pi_list (pe_lst (pa_cons pe_non (pa_cons pe_str (pa_cons pe_int (pa_cons (pe_lst (pa_cons pe_str pa_nil)) (pa_cons pe_str (pa_cons (pe_tup (pa_cons pe_str pa_nil)) (pa_cons pe_bl pa_nil))))))))) (pg_name (i := 15) sc_law.nd rfl (by first | exact Or.inl rfl | exact Or.inr rfl)) (pss_one (ps_if (pt_cmpR (TZ.op_neV hru) (pe_callG (ok_law_caught T) hG (hr.mono (by first | decide | omega)) (by rfl) T.m_law_caught T.F_law_caught.kp T.b_law_caught .nil pass0 (pa_cons pe_int (pa_cons (pv 5) (pa_cons (pv 15) pa_nil)))) (pe_lst (pa_cons pe_bl (pa_cons pe_bl (pa_cons (pe_callB (cr_reprV hG hru) (by rfl) T.z_repr (by decide +kernel) (pa_cons (pv 15) pa_nil)) pa_nil)))) (nomark _)) (pss_one (ps_ret pe_bl)) pss_nil))))))))))))))))
    (pss_cons (ps_set (i := 14) sc_law.nd rfl (by first | exact Or.inl rfl | exact Or.inr rfl) (pe_lst (pa_cons pe_str (pa_cons pe_str (pa_cons pe_str (pa_cons pe_str (pa_cons pe_str (pa_cons pe_str (pa_cons pe_str (pa_cons pe_str (pa_cons pe_str (pa_cons pe_str pa_nil))))))))))))
    (pss_cons (ps_for PassesOwn.never rfl (pi_list (pe_op op_cat (pv 14) (pe_lst (pa_cons pe_non (pa_cons pe_bl (pa_cons pe_int (pa_cons (pe_lst pa_nil) (pa_cons (pe_lst (pa_cons pe_str pa_nil)) (pa_cons (pe_tup (pa_cons pe_str pa_nil)) (pa_cons pe_dnewK (pa_cons pe_str (pa_cons pe_str (pa_cons pe_str (pa_cons pe_str (pa_cons pe_str pa_nil))))))))))))))) (pg_name (i := 15) sc_law.nd rfl (by first | exact Or.inl rfl | exact Or.inr rfl)) (pss_one (ps_if (pt_cmpR (TZ.op_neV hru) (pe_callG (ok_law_caught T) hG (hr.mono (by first | decide | omega)) (by rfl) T.m_law_caught T.F_law_caught.kp T.b_law_caught .nil pass0 (pa_cons pe_int (pa_cons (pv 15) (pa_cons pe_non pa_nil)))) (pe_lst (pa_cons pe_bl (pa_cons pe_bl (pa_cons (pe_callB (cr_reprV hG hru) (by rfl) T.z_repr (by decide +kernel) (pa_cons (pv 15) pa_nil)) pa_nil)))) (nomark _)) (pss_one (ps_ret pe_bl)) pss_nil)))
    (pss_one (ps_ret pe_bl))))), ?_⟩
  simp only [cxOf_K, tAsg2, tYes, wipe, tSeq, tIfS, tNot, tB, tCB, tCons, tNil, tVar, tC, tTest, tOp, tAnd, tOr, tAsg, gName, tRet, tRetN, tDrop, tNext, tIf, tCall, tTup, tLst, tNotV, tAndV, tOrV, tUn, rI0, rI, rU, rEq, rNe, tM1, tM0, tBM, tBM0, tSl, tPart, tNoPart, iStr, iEnumS, iRng1, iRng2, iList, gSub, tBits, tAug, tPar, L2.start, List.map_cons, List.map_nil, List.length_cons, List.length_nil, List.getElem?_cons_zero, List.getElem?_cons_succ, List.cons_append, List.nil_append, List.append_nil, List.set_cons_zero, List.set_cons_succ, List.replicate_succ, List.replicate_zero, Option.some.injEq, exists_eq_left', V.int.injEq, V.str.injEq, V.ref.injEq, V.bl.injEq, exists_and_left, exists_eq_left, List.cons.injEq, and_true, true_and, tCallX, tRs]
  refine ⟨_, rfl, by decide, by decide, for_range (fun i σ H' => ∃ τ : List (Option V), σ = some (.ref a) :: τ ∧ τ.length = 18 ∧ Same H H') ⟨_, rfl, rfl, L2.Same.refl H⟩ ?_ ?_⟩
  · rintro i σ H1 hi ⟨τ, rfl, tl, s1⟩
    have hi4 : i < 4 := hi
    match τ, tl with
    | [a1, a2, a3, a4, a5, a6, a7, a8, a9, a10, a11, a12, a13, a14, a15, a16, a17, a18], _ =>
    simp only [cxOf_K, tAsg2, tYes, wipe, tSeq, tIfS, tNot, tB, tCB, tCons, tNil, tVar, tC, tTest, tOp, tAnd, tOr, tAsg, gName, tRet, tRetN, tDrop, tNext, tIf, tCall, tTup, tLst, tNotV, tAndV, tOrV, tUn, rI0, rI, rU, rEq, rNe, tM1, tM0, tBM, tBM0, tSl, tPart, tNoPart, iStr, iEnumS, iRng1, iRng2, iList, gSub, tBits, tAug, tPar, L2.start, List.map_cons, List.map_nil, List.length_cons, List.length_nil, List.getElem?_cons_zero, List.getElem?_cons_succ, List.cons_append, List.nil_append, List.append_nil, List.set_cons_zero, List.set_cons_succ, List.replicate_succ, List.replicate_zero, Option.some.injEq, exists_eq_left', V.int.injEq, V.str.injEq, V.ref.injEq, V.bl.injEq, exists_and_left, exists_eq_left, List.cons.injEq, and_true, true_and, tCallX, tRs]
    rw [show (0 : Int) + (i : Int) = ((i : Nat) : Int) by omega]
    refine ⟨a, ns, i, rfl, s1.seq ha, fun g H2 hg s2 g2 => ?_⟩
    have s2' := s1.trans s2
    have hg0 : H g = none := s1.free hg
    refine ⟨g, 13, 1000 * i, rfl, g2, by omega, by decide, by decide, fun r H3 r0 r1 k3 g3 => ⟨by decide, fun p1 np1 => ⟨by decide, fun p2 np2 => ⟨by decide, fun p3 np3 => ⟨rfl, ?_⟩⟩⟩⟩⟩
    have sA : Same H H3 := (off_in s2' hg0).trans (off_to k3)
    clear s2 s1 k3 s2'
    have sB := ((sA.new (sA.free np1) (.tup [V.int r, V.int 6])).new
      (sA.free (((L2.Same.refl H3).new np1 (.tup [V.int r, V.int 6])).free np2)) (.tup [V.int 60, V.int 120]))
    obtain ⟨H6, hH6, h61, h62, h63, g6, sC⟩ : ∃ H6, H6 = upd (upd (upd H3 p1 (.tup [V.int r, V.int 6])) p2 (.tup [V.int 60, V.int 120])) p3 (.lst [V.ref p1, V.ref p2]) ∧ H6 p1 = some (.tup [V.int r, V.int 6]) ∧ H6 p2 = some (.tup [V.int 60, V.int 120]) ∧ H6 p3 = some (.lst [V.ref p1, V.ref p2]) ∧ GenAt H6 g (1000 * i + 3) ∧ Same H H6 := by
      have e1 : p1 ≠ p2 := fun z => by rw [← z, upd_same] at np2; cases np2
      have e2 : p2 ≠ p3 := fun z => by rw [← z, upd_same] at np3; cases np3
      have e3 : p1 ≠ p3 := fun z => by rw [← z, upd_ne e1, upd_same] at np3; cases np3
      exact ⟨_, rfl, by rw [upd_ne e3, upd_ne e1, upd_same], by rw [upd_ne e2, upd_same], upd_same, ((g3.new np1).new np2).new np3, sB.new (sB.free np3) _⟩
    rw [← hH6]
    obtain ⟨m, d, pq, hpq, hq6, hm, hd2, hd120⟩ : ∃ (m d : Nat) (pq : Addr), atI [V.ref p1, V.ref p2] (if decide ((i : Int) = 3) = true then 1 else 0) = some (.ref pq) ∧ H6 pq = some (.tup [V.int (m : Nat), V.int (d : Nat)]) ∧ m ≤ 60 ∧ 2 ≤ d ∧ d ≤ 120 := by
      obtain ⟨r', rfl⟩ := Int.eq_ofNat_of_zero_le r0
      by_cases e : i = 3
      · subst e
        exact ⟨60, 120, p2, rfl, h62, by decide, by decide, by decide⟩
      · refine ⟨r', 6, p1, ?_, h61, by omega, by decide, by decide⟩
        rw [if_neg (by simp; omega)]
        rfl
    clear hH6 h61 h62 sB np1 np2 np3 sA g3
    refine ⟨p3, _, _, _, rfl, rfl, SqL.of h63, hpq, pq, _, rfl, SqT.of hq6, rfl, _, _, rfl, _, _, rfl, rfl, ?_⟩
    clear hpq hq6 h63 p1 p2 p3 r r0 r1
    refine ⟨_, rfl, _, rfl, _, rfl, g, m, d, 1000 * i + 3, rfl, g6, by omega, hd2, by omega, by omega, fun p5 ws xs H7 np5 k7 g7 h7 st7 xl ok7 => ?_⟩
    have p5g : p5 ≠ g := by obtain ⟨o, ho⟩ := g6.some; exact (ne_of_none ho np5).symm
    have s7 : Same H H7 := (off_in sC hg0).trans (off_to k7)
    have nd1 : (9 + 3 * d) * m ≤ 400 * 60 := Nat.mul_le_mul (by omega) hm
    generalize (9 + 3 * d) * m = N1 at nd1 g7
    refine ⟨_, rfl, g, 5, _, rfl, g7, by decide, by omega, fun sp H8 spA spl k8 g8 => ?_⟩
    have s8 : Same H H8 := (off_in s7 hg0).trans (off_to k8)
    have h8 : H8 p5 = some (.lst ws) := k8 _ _ p5g h7
    have st8 : Stps H8 ws xs := st7.mono fun b vs hb => k8 b _ (fun z => by obtain ⟨_, _, _, e, _⟩ := g7; rw [z, e] at hb; cases hb) hb
    have okx : ∀ x ∈ xs, okSt 3000 x := fun x hx => ⟨(ok7 x hx).1, (ok7 x hx).2.1, by have := (ok7 x hx).2.2; omega⟩
    have wl := st8.length
    clear s7 sC k7 k8 g7 h7 st7 g6 np5
    -- turns
    refine ⟨_, rfl, p5, ws, rfl, SqL.of h8, fun p6 np6 => ⟨p6, rfl, ⟨_, SqL.of upd_same⟩, ?_⟩⟩
    have s9 := (L2.Same.refl H8).new np6 (.lst ws.reverse)
    have h9 : upd H8 p6 (.lst ws.reverse) p6 = some (.lst ws.reverse) := upd_same
    generalize upd H8 p6 (.lst ws.reverse) = H9 at s9 h9 ⊢
    have sr := (st8.same s9).reverse
    refine fun D hD => lc_list (K := K) (a := p6) (xs := ws.reverse) (fun i H2 => Same H9 H2 ∧ ∃ us, H2 D = some (.lst us) ∧ us.length = i ∧ Stps H2 us ((xs.reverse.map fun x => (oth x.1, x.2)).take i)) ⟨(L2.Same.refl H9).new hD _, [], upd_same, rfl, .nil⟩ (fun i H2 _ hp => SqL.of (hp.1 _ _ h9)) ?_ ?_
    · rintro j x H2 hj ⟨s2, us, hd2', ul, su⟩
      have hjl : j < ws.reverse.length := (List.getElem?_eq_some_iff.mp hj).1
      rw [List.length_reverse] at hjl
      obtain ⟨p4, x, rfl, hx, hp4⟩ := sr.get hj
      have hp2 := s2 _ _ hp4
      have okx1 := ok7 x (List.mem_reverse.mp (List.mem_of_getElem? hx))
      simp only [gTup, gCons, gNil, cxOf_K, tAsg2, tYes, wipe, tSeq, tIfS, tNot, tB, tCB, tCons, tNil, tVar, tC, tTest, tOp, tAnd, tOr, tAsg, gName, tRet, tRetN, tDrop, tNext, tIf, tCall, tTup, tLst, tNotV, tAndV, tOrV, tUn, rI0, rI, rU, rEq, rNe, tM1, tM0, tBM, tBM0, tSl, tPart, tNoPart, iStr, iEnumS, iRng1, iRng2, iList, gSub, tBits, tAug, tPar, L2.start, List.map_cons, List.map_nil, List.length_cons, List.length_nil, List.getElem?_cons_zero, List.getElem?_cons_succ, List.cons_append, List.nil_append, List.append_nil, List.set_cons_zero, List.set_cons_succ, List.replicate_succ, List.replicate_zero, Option.some.injEq, exists_eq_left', V.int.injEq, V.str.injEq, V.ref.injEq, V.bl.injEq, exists_and_left, exists_eq_left, List.cons.injEq, and_true, true_and, tCallX, tRs]
      refine ⟨_, SqT.of hp2, rfl, _, _, rfl, _, _, rfl, rfl, ?_⟩
      rw [if_pos True.intro]
      refine ⟨rfl, ?_⟩
      have fin : ∀ y : Str, y = oth x.1 → (0 + 1 + 1 ≤ sizeLine ∧ ∀ (p : Addr), H2 p = none → ∃ acc, upd H2 p (HO.tup [V.str y, sV x.2]) D = some (HO.lst acc) ∧ acc.length < sizeLine ∧ Same H9 (upd (upd H2 p (HO.tup [V.str y, sV x.2])) D (HO.lst (acc ++ [V.ref p]))) ∧
          ∃ us, upd (upd H2 p (HO.tup [V.str y, sV x.2])) D (HO.lst (acc ++ [V.ref p])) D = some (HO.lst us) ∧ us.length = j + 1 ∧ Stps (upd (upd H2 p (HO.tup [V.str y, sV x.2])) D (HO.lst (acc ++ [V.ref p]))) us ((xs.reverse.map fun x => (oth x.1, x.2)).take (j + 1))) := fun y hy => by
        subst hy
        exact ⟨by decide, fun p5 np5 => stepTail (y := (oth x.1, x.2)) hD s2 hd2' ul su (by rw [List.getElem?_map, hx]; rfl) (by omega) np5⟩
      rcases okx1.1 with e | e
      · refine ifdT (by rw [e]) (fin _ (by rw [e]; decide +kernel))
      · refine ifdF (by rw [e]; decide +kernel) (fin _ (by rw [e]; decide +kernel))
    · rintro H10 ⟨s2, us, hD10, ul, su⟩
      rw [List.take_of_length_le (by simp; omega)] at su
      have s10 := s9.trans s2
      have g10 := g8.same s10
      have sH10 := s8.trans s10
      have h10 := s10 _ _ h8
      have st10 := st8.same s10
      clear s2 sr h9 s9 s10 hD h8 st8 g8 s8
      -- words
      refine ⟨⟨_, rfl⟩, _, rfl, p5, rfl, ⟨_, SqL.of h10⟩, fun D2 hD2 => lc_list (K := K) (a := p5) (xs := ws) (fun i H2 => Same H10 H2 ∧ H2 D2 = some (.lst ((xs.take i).map fun x => sV (stT x)))) ⟨(L2.Same.refl H10).new hD2 _, upd_same⟩ (fun i H2 _ hq => SqL.of (hq.1 _ _ h10)) ?_ ?_⟩
      · rintro j x H2 hj ⟨s2, hd2'⟩
        have hjl : j < ws.length := (List.getElem?_eq_some_iff.mp hj).1
        obtain ⟨p4, x, rfl, hx, hp4⟩ := st10.get hj
        have hp2 := s2 _ _ hp4
        have okx1 := ok7 x (List.mem_of_getElem? hx)
        simp only [gTup, gCons, gNil, cxOf_K, tAsg2, tYes, wipe, tSeq, tIfS, tNot, tB, tCB, tCons, tNil, tVar, tC, tTest, tOp, tAnd, tOr, tAsg, gName, tRet, tRetN, tDrop, tNext, tIf, tCall, tTup, tLst, tNotV, tAndV, tOrV, tUn, rI0, rI, rU, rEq, rNe, tM1, tM0, tBM, tBM0, tSl, tPart, tNoPart, iStr, iEnumS, iRng1, iRng2, iList, gSub, tBits, tAug, tPar, L2.start, List.map_cons, List.map_nil, List.length_cons, List.length_nil, List.getElem?_cons_zero, List.getElem?_cons_succ, List.cons_append, List.nil_append, List.append_nil, List.set_cons_zero, List.set_cons_succ, List.replicate_succ, List.replicate_zero, Option.some.injEq, exists_eq_left', V.int.injEq, V.str.injEq, V.ref.injEq, V.bl.injEq, exists_and_left, exists_eq_left, List.cons.injEq, and_true, true_and, tCallX, tRs]
        refine ⟨_, SqT.of hp2, rfl, _, _, rfl, _, _, rfl, rfl, ?_⟩
        rw [if_pos True.intro]
        have fin : ∀ y : Str, y = S (stT x) → ∃ acc, H2 D2 = some (HO.lst acc) ∧ acc.length < sizeLine ∧ Same H10 (upd H2 D2 (HO.lst (acc ++ [V.str y]))) ∧ upd H2 D2 (HO.lst (acc ++ [V.str y])) D2 = some (HO.lst ((xs.take (j + 1)).map fun x => sV (stT x))) := fun y hy => by
          subst hy
          refine ⟨_, hd2', small5' (by rw [List.length_map, List.length_take]; omega), s2.new hD2 _, ?_⟩
          rw [upd_same, List.take_succ, hx, List.map_append]
          rfl
        have sx : (S x.2).length ≤ 3000 := by rw [S_len]; exact (okx x (List.mem_of_getElem? hx)).2.2
        have l1 : (Str.ofString "<").length = 1 := rfl
        have l2 : (Str.ofString ">").length = 1 := rfl
        rcases okx1.1 with e | e
        · refine ⟨rfl, Str.ofString "<", 1, rfl, by rw [if_pos (by rw [e]; exact decide_eq_true rfl)]; rfl, by decide, by decide, rfl, Str.ofString ">", 0, rfl, by rw [if_neg (by rw [e]; decide +kernel)]; rfl, by decide, by decide, _, rfl, _, rfl, by decide +kernel, _, rfl, small5 (by rw [if_pos rfl, if_neg (by decide)]; rw [show (Str.ofString "<" ++ Str.empty).length = 1 from by decide +kernel]; omega), ?_⟩
          refine fin _ ?_
          rw [if_pos rfl, if_neg (by decide), show Str.ofString "<" ++ Str.empty = S [60] from by decide +kernel, S_app]
          have : sgn x.1 = 60 := by rw [e]; decide +kernel
          rw [stT, this]; rfl
        · refine ⟨rfl, Str.ofString "<", 0, rfl, by rw [if_neg (by rw [e]; decide +kernel)]; rfl, by decide, by decide, rfl, Str.ofString ">", 1, rfl, by rw [if_pos (by rw [e]; exact decide_eq_true rfl)]; rfl, by decide, by decide, _, rfl, _, rfl, by decide +kernel, _, rfl, small5 (by rw [if_pos rfl, if_neg (by decide)]; rw [show (Str.empty ++ Str.ofString ">").length = 1 from by decide +kernel]; omega), ?_⟩
          refine fin _ ?_
          rw [if_pos rfl, if_neg (by decide), show Str.empty ++ Str.ofString ">" = S [62] from by decide +kernel, S_app]
          have : sgn x.1 = 62 := by rw [e]; decide +kernel
          rw [stT, this]; rfl
      · rintro H11 ⟨s11, hd2'⟩
        rw [List.take_of_length_le (by omega)] at hd2'
        have e : (xs.map stT).map S = xs.map fun x => S (stT x) := by rw [List.map_map]; rfl
        have tb : (textT xs).length ≤ 20000 := textLen xs (by omega) fun x hx => Nat.le_trans (ok7 x hx).2.2 hd120
        refine ⟨_, rfl, D2, rfl, (xs.map stT).map S, .inl (SqL.of (by rw [hd2', e, List.map_map]; rfl)), joinFits xs (by omega) (fun x hx => Nat.le_trans (ok7 x hx).2.2 hd120), ?_⟩
        rw [show Str.ofString " " = S [32] by decide +kernel, join_S32]
        have sH11 := sH10.trans s11
        have g11 := g10.same s11
        have h11 := s11 _ _ h10
        have st11 := st10.same s11
        have hD11 := s11 _ _ hD10
        have su11 := su.same s11
        clear hd2' hD2 s11 h10 st10 hD10 su g10 sH10
        have lw : ws.length = xs.length := wl
        clear wl
        -- low
        refine ⟨_, rfl, p5, rfl, ⟨_, SqL.of h11⟩, fun D3 hD3 => lc_list (K := K) (a := p5) (xs := ws) (fun i H2 => Same H11 H2 ∧ ∃ us, H2 D3 = some (.lst us) ∧ us.length = i ∧ Stps H2 us ((xs.map fun x => (x.1, sp ++ x.2)).take i)) ⟨(L2.Same.refl H11).new hD3 _, [], upd_same, rfl, .nil⟩ (fun i H2 _ hq => SqL.of (hq.1 _ _ h11)) ?_ ?_⟩
        · rintro j x H2 hj ⟨s2, us', hd2', ul', su'⟩
          have hjl : j < ws.length := (List.getElem?_eq_some_iff.mp hj).1
          obtain ⟨p4, x, rfl, hx, hp4⟩ := st11.get hj
          have hp2 := s2 _ _ hp4
          have okx1 := ok7 x (List.mem_of_getElem? hx)
          simp only [gTup, gCons, gNil, cxOf_K, tAsg2, tYes, wipe, tSeq, tIfS, tNot, tB, tCB, tCons, tNil, tVar, tC, tTest, tOp, tAnd, tOr, tAsg, gName, tRet, tRetN, tDrop, tNext, tIf, tCall, tTup, tLst, tNotV, tAndV, tOrV, tUn, rI0, rI, rU, rEq, rNe, tM1, tM0, tBM, tBM0, tSl, tPart, tNoPart, iStr, iEnumS, iRng1, iRng2, iList, gSub, tBits, tAug, tPar, L2.start, List.map_cons, List.map_nil, List.length_cons, List.length_nil, List.getElem?_cons_zero, List.getElem?_cons_succ, List.cons_append, List.nil_append, List.append_nil, List.set_cons_zero, List.set_cons_succ, List.replicate_succ, List.replicate_zero, Option.some.injEq, exists_eq_left', V.int.injEq, V.str.injEq, V.ref.injEq, V.bl.injEq, exists_and_left, exists_eq_left, List.cons.injEq, and_true, true_and, tCallX, tRs]
          refine ⟨_, SqT.of hp2, rfl, _, _, rfl, _, _, rfl, rfl, ?_⟩
          rw [if_pos True.intro]
          refine ⟨_, rfl, small5 (by rw [S_len, S_len]; have := okx1.2.2; omega), by decide, fun p5 np5 => ?_⟩
          rw [S_app]
          exact stepTail (y := (x.1, sp ++ x.2)) hD3 s2 hd2' ul' su' (by rw [List.getElem?_map, hx]; rfl) (by omega) np5
        · rintro H12 ⟨s12, us', hD12, ul', su12⟩
          rw [List.take_of_length_le (by simp; omega)] at su12
          have sH12 := sH11.trans s12
          have g12 := g11.same s12
          have h12 := s12 _ _ h11
          have st12 := st11.same s12
          have hDD := s12 _ _ hD11
          have su2 := su11.same s12
          clear hD3 s12 h11 st11 hD11 su11 g11 sH11
          have okR : ∀ x ∈ xs.reverse.map fun x => (oth x.1, x.2), okSt 200 x := fun x hx => by
            obtain ⟨y, hy, rfl⟩ := List.mem_map.mp hx
            have := ok7 y (List.mem_reverse.mp hy)
            exact okOth (n := 200) ⟨this.1, this.2.1, by have := this.2.2; omega⟩
          have okLo : ∀ x ∈ xs.map fun x => (x.1, sp ++ x.2), okSt 200 x := fun x hx => by
            obtain ⟨y, hy, rfl⟩ := List.mem_map.mp hx
            have := ok7 y hy
            exact ⟨this.1, isA_app spA this.2.1, by show (sp ++ y.2).length ≤ 200; rw [List.length_append]; have := this.2.2; omega⟩
          have okX : ∀ x ∈ xs, okSt 200 x := fun x hx => ⟨(ok7 x hx).1, (ok7 x hx).2.1, by have := (ok7 x hx).2.2; omega⟩
          have gs : ∀ {H'}, Same H12 H' → GoodS H' (.ref p5) xs := fun {H'} s => ⟨p5, ws, rfl, s _ _ h12, st12.same s, by omega, okx⟩
          refine ⟨_, rfl, by decide, by decide, for_range (fun j σ H' => ∃ a8 a9 a12 a13, σ = [some (.ref a), some (.int (i : Nat)), some (.ref g), some (.int (m : Nat)), some (.int (d : Nat)), some (.ref p5), some (sV sp), some (.ref D), a8, a9, some (sV (textT xs)), some (.ref D3), a12, a13, a14, a15, a16, a17, a18] ∧ Same H12 H') ⟨_, _, _, _, rfl, L2.Same.refl H12⟩ ?_ ?_⟩
          · rintro j σ H' hj ⟨a8, a9, a12, a13, rfl, sj⟩
            simp only [cxOf_K, tAsg2, tYes, wipe, tSeq, tIfS, tNot, tB, tCB, tCons, tNil, tVar, tC, tTest, tOp, tAnd, tOr, tAsg, gName, tRet, tRetN, tDrop, tNext, tIf, tCall, tTup, tLst, tNotV, tAndV, tOrV, tUn, rI0, rI, rU, rEq, rNe, tM1, tM0, tBM, tBM0, tSl, tPart, tNoPart, iStr, iEnumS, iRng1, iRng2, iList, gSub, tBits, tAug, tPar, L2.start, List.map_cons, List.map_nil, List.length_cons, List.length_nil, List.getElem?_cons_zero, List.getElem?_cons_succ, List.cons_append, List.nil_append, List.append_nil, List.set_cons_zero, List.set_cons_succ, List.replicate_succ, List.replicate_zero, Option.some.injEq, exists_eq_left', V.int.injEq, V.str.injEq, V.ref.injEq, V.bl.injEq, exists_and_left, exists_eq_left, List.cons.injEq, and_true, true_and, tCallX, tRs]
            refine ⟨_, rfl, .inl ⟨xs, gs sj, fun q1 w1 I1 n1 s1 e1 t1 => ?_⟩⟩
            have sA := sj.trans s1
            refine ⟨_, _, rfl, .inl ⟨xs, gs sA, .inl ⟨sp, rfl, by omega, spA, fun q2 w2 I2 n2 s2 e2 t2 => ?_⟩⟩⟩
            have sB := sA.trans s2
            refine ⟨_, rfl, .inl ⟨textT xs, rfl, by omega, .inl ⟨xs, rdTextT xs okx, fun q3 w3 I3 n3 s3 e3 t3 => ?_⟩⟩⟩
            have sC := sB.trans s3
            have e1' := s3 _ _ (s2 _ _ e1)
            have t1' := (t1.same s2).same s3
            have e2' := s3 _ _ e2
            have t2' := t2.same s3
            have nq1 := sj.free n1
            have nq2 := sA.free n2
            have nq3 := sB.free n3
            clear e1 t1 e2 t2 n1 n2 n3 s1 s2 s3 sA sB
            refine ⟨by decide, fun p13 np13 => ?_⟩
            have s4 := (L2.Same.refl I3).new np13 (.lst [V.ref q1, .ref q2, .ref q3])
            have sD := sC.trans s4
            have h13 : upd I3 p13 (.lst [V.ref q1, .ref q2, .ref q3]) p13 = some (.lst [V.ref q1, .ref q2, .ref q3]) := upd_same
            have np0 := sC.free np13
            have qp1 : q1 ≠ p13 := ne_of_none e1' np13
            have qp2 : q2 ≠ p13 := ne_of_none e2' np13
            have qp3 : q3 ≠ p13 := ne_of_none e3 np13
            have e1 := s4 _ _ e1'
            have t1 := t1'.same s4
            have e2 := s4 _ _ e2'
            have t2 := t2'.same s4
            have e3 := s4 _ _ e3
            have t3 := t3.same s4
            generalize upd I3 p13 (.lst [V.ref q1, .ref q2, .ref q3]) = I4 at sD h13 e1 t1 e2 t2 e3 t3 ⊢
            clear s4 sC e1' t1' e2' t2' np13
            have xl1 : (xs.reverse.map fun x => (oth x.1, x.2)).length ≤ 60 := by simp; omega
            have xl2 : (xs.map fun x => (x.1, sp ++ x.2)).length ≤ 60 := by simp; omega
            have gd1 := goodThree h13 e1 e2 e3 t1 t2 t3 okR okLo okX xl1 xl2 (by omega)
            refine gd1.repr ⟨by decide, fun p14 np14 => ?_⟩
            have s5 := (L2.Same.refl I4).new np14 (.lst [V.ref D, .ref D3, .ref p5])
            have sE := sD.trans s5
            have h14 : upd I4 p14 (.lst [V.ref D, .ref D3, .ref p5]) p14 = some (.lst [V.ref D, .ref D3, .ref p5]) := upd_same
            have gd2 := goodThree h14 (sE _ _ hDD) (sE _ _ hD12) (sE _ _ h12) (su2.same sE) (su12.same sE) (st12.same sE) okR okLo okX xl1 xl2 (by omega)
            refine gd2.repr ⟨rfl, ?_⟩
            refine ifnF rfl ?_
            refine ⟨_, rfl, .inl ⟨xs, gs sE, by omega, fun I6 s6 => ⟨rfl, ?_⟩⟩⟩
            refine ifnF rfl ?_
            have sF := sE.trans s6
            have h13' := s6 _ _ (s5 _ _ h13)
            have f1 := s6 _ _ (s5 _ _ e1)
            have f2 := s6 _ _ (s5 _ _ e2)
            have f3 := s6 _ _ (s5 _ _ e3)
            have lw1 : w1.length ≤ 60 := by have := t1.length; omega
            have lw2 : w2.length ≤ 60 := by have := t2.length; omega
            have lw3 : w3.length ≤ 60 := by have := t3.length; omega
            clear gd1 gd2 s6 s5 e1 e2 e3 t1 t2 t3 sE sD h14 np14 h13
            refine ⟨_, rfl, p13, rfl, ⟨_, SqL.of h13'⟩, for_list (K := K) (a := p13) (xs := [V.ref q1, .ref q2, .ref q3]) (fun k σ H' => ∃ a9, σ = [some (.ref a), some (.int (i : Nat)), some (.ref g), some (.int (m : Nat)), some (.int (d : Nat)), some (.ref p5), some (sV sp), some (.ref D), a8, a9, some (sV (textT xs)), some (.ref D3), some (V.int (0 + (j : Nat))), some (.ref p13), a14, a15, a16, a17, a18] ∧ Same H12 H' ∧ H' p13 = some (.lst [V.ref q1, .ref q2, .ref q3]) ∧
              ∀ qq ∈ [q1, q2, q3], ∃ us, H' qq = some (.lst us) ∧ us.length ≤ 60 + k) ⟨_, rfl, sF, h13', ?_⟩ ?_ ?_ ?_⟩
            · intro qq hq
              simp only [List.mem_cons, List.not_mem_nil, or_false] at hq
              rcases hq with rfl | rfl | rfl
              · exact ⟨_, f1, by omega⟩
              · exact ⟨_, f2, by omega⟩
              · exact ⟨_, f3, by omega⟩
            · rintro k σ H' hk ⟨b9, rfl, sk, h1, hq⟩
              exact SqL.of h1
            · rintro k x σ H' hk ⟨b9, rfl, sk, h1, hq⟩
              obtain ⟨qq, rfl, hm', nqq, qp⟩ : ∃ qq, x = V.ref qq ∧ qq ∈ [q1, q2, q3] ∧ H12 qq = none ∧ qq ≠ p13 := by
                match k, hk with
                | 0, hk => cases hk; exact ⟨q1, rfl, by simp, nq1, qp1⟩
                | 1, hk => cases hk; exact ⟨q2, rfl, by simp, nq2, qp2⟩
                | 2, hk => cases hk; exact ⟨q3, rfl, by simp, nq3, qp3⟩
              obtain ⟨us, hus, lus⟩ := hq qq hm'
              have kl : k < 3 := (List.getElem?_eq_some_iff.mp hk).1
              simp only [cxOf_K, tAsg2, tYes, wipe, tSeq, tIfS, tNot, tB, tCB, tCons, tNil, tVar, tC, tTest, tOp, tAnd, tOr, tAsg, gName, tRet, tRetN, tDrop, tNext, tIf, tCall, tTup, tLst, tNotV, tAndV, tOrV, tUn, rI0, rI, rU, rEq, rNe, tM1, tM0, tBM, tBM0, tSl, tPart, tNoPart, iStr, iEnumS, iRng1, iRng2, iList, gSub, tBits, tAug, tPar, L2.start, List.map_cons, List.map_nil, List.length_cons, List.length_nil, List.getElem?_cons_zero, List.getElem?_cons_succ, List.cons_append, List.nil_append, List.append_nil, List.set_cons_zero, List.set_cons_succ, List.replicate_succ, List.replicate_zero, Option.some.injEq, exists_eq_left', V.int.injEq, V.str.injEq, V.ref.injEq, V.bl.injEq, exists_and_left, exists_eq_left, List.cons.injEq, and_true, true_and, tCallX, tRs]
              refine ⟨tyV_lst hus, qq, us, _, rfl, rfl, hus, small5' (by omega), sk.new nqq _, ?_, ?_⟩
              · rw [upd_ne (fun z => qp z.symm)]; exact h1
              · intro q' hq'
                by_cases e : q' = qq
                · subst e
                  exact ⟨_, upd_same, by simp; omega⟩
                · obtain ⟨us', h', l'⟩ := hq q' hq'
                  exact ⟨us', by rw [upd_ne e]; exact h', by omega⟩
            · rintro σ H' ⟨b9, rfl, sk, h1, hq⟩
              exact ⟨_, _, _, _, rfl, sk⟩
          · rintro σ H13 ⟨a8, a9, a12, a13, rfl, s13⟩
            refine' cutAt (C := fun H14 n14 => Same (off g H12) H14 ∧ GenAt H14 g n14 ∧ n14 ≤ 100000000) _ _
            rotate_left
            · intro key
              refine ⟨_, rfl, _, _, rfl, rfl, ?_⟩
              have tb : (textT xs).length ≤ 20000 := textLen xs (by omega) fun x hx => Nat.le_trans (ok7 x hx).2.2 hd120
              by_cases hi3 : i < 3
              · refine ⟨_, rfl, ?_⟩
                refine ifdT (by omega) ?_
                refine ⟨_, rfl, _, rfl, g, textT xs, _, rfl, g12.same s13, by omega, tb, textCh xs okx, fun H14 k14 g14 => ⟨true, rfl, ?_⟩⟩
                refine iteF ?_
                refine key H14 _ ⟨(off_keep (Keep.of s13)).trans (off_to k14), g14, by omega⟩
              · refine ⟨_, rfl, ?_⟩
                refine ifdF (by omega) (iteF ?_)
                exact key H13 _ ⟨off_same.trans s13, g12.same s13, by omega⟩
            · rintro H14 n14 ⟨s14, g14, hn14⟩
              have tgs : p5 ≠ g := p5g
              have b5 : off g H12 p5 = some (.lst ws) := off_at p5g h12
              have bst : Stps (off g H12) ws xs := st12.mono fun b vs hb => off_at (fun z => by obtain ⟨_, _, _, e, _⟩ := g12; rw [z, e] at hb; cases hb) hb
              have f5 := s14 _ _ b5
              have fst := bst.same s14
              refine' cutV (C := fun v H15 => Same H14 H15 ∧ GenAt H15 g n14 ∧ ItemB K (off g H15) v) _ _
              rotate_left
              · intro key
                have dv1 : ∀ {H'}, DVs H' false [V.int 1] [PyData.int 1] := fun {H'} => .cons (.int 1) .nil
                have pl1 : Plain [PyData.int 1] 1 := plainInt 1 (by decide +kernel) (by decide +kernel)
                refine ⟨_, rfl, p5, rfl, ws, .inl ⟨SqL.of f5, fun l1 nl1 => ?_⟩⟩
                have tj1 := (L2.Same.refl H14).new nl1 (.tup ws)
                have e_l1 : upd H14 l1 (.tup ws) l1 = some (.tup ws) := upd_same
                have gj1 := g14.new (o := .tup ws) nl1
                generalize upd H14 l1 (.tup ws) = J1 at tj1 e_l1 gj1 ⊢
                refine ⟨by decide, fun l2 nl2 => ?_⟩
                have tj2 := (L2.Same.refl J1).new nl2 (.tup [V.int 1])
                have e_l2 : upd J1 l2 (.tup [V.int 1]) l2 = some (.tup [V.int 1]) := upd_same
                have gj2 := gj1.new (o := .tup [V.int 1]) nl2
                generalize upd J1 l2 (.tup [V.int 1]) = J2 at tj2 e_l2 gj2 ⊢
                have e_l1' := tj2 _ _ e_l1
                refine ⟨l1, l2, ws, [V.int 1], rfl, rfl, SqT.of e_l1', SqT.of e_l2, small5 (by simp; omega), fun ez => ?_, fun _ z => (by cases z), fun _ _ l3 nl3 => ?_⟩
                · have ev : Same H14 J2 ∧ GenAt J2 g n14 ∧ ItemB K (off g J2) (V.ref l2) := ⟨tj1.trans tj2, gj2, itemTup (off_at (fun z => by obtain ⟨_, _, _, e, _⟩ := gj2; rw [z, e] at e_l2; cases e_l2) e_l2) dv1 pl1 (by decide)⟩
                  revert ev
                  generalize V.ref l2 = vv
                  exact fun ev => key vv J2 ev
                · have tj3 := (L2.Same.refl J2).new nl3 (.tup (ws ++ [V.int 1]))
                  have e_l3 : upd J2 l3 (.tup (ws ++ [V.int 1])) l3 = some (.tup (ws ++ [V.int 1])) := upd_same
                  have gj3 := gj2.new (o := .tup (ws ++ [V.int 1])) nl3
                  generalize upd J2 l3 (.tup (ws ++ [V.int 1])) = J3 at tj3 e_l3 gj3 ⊢
                  have sJ := (tj1.trans tj2).trans tj3
                  have fj := fst.same sJ
                  have fo : Stps (off g J3) ws xs := fj.mono fun b vs hb => off_at (fun z => by obtain ⟨_, _, _, e, _⟩ := gj3; rw [z, e] at hb; cases hb) hb
                  have e1 : xs.length * (200 + 9) ≤ 60 * 209 := Nat.mul_le_mul_right _ (by omega)
                  have ev : Same H14 J3 ∧ GenAt J3 g n14 ∧ ItemB K (off g J3) (V.ref l3) := ⟨sJ, gj3, itemTup (off_at (fun z => by obtain ⟨_, _, _, e, _⟩ := gj3; rw [z, e] at e_l3; cases e_l3) e_l3) (DVsapp (dvSt fo) dv1) ((stPlain xs okX).app pl1) (by omega)⟩
                  revert ev
                  generalize V.ref l3 = vv
                  exact fun ev => key vv J3 ev
              · rintro v1 H15 ⟨s15, g15, it1⟩
                have f5' := s15 _ _ f5
                have fst' := fst.same s15
                refine ⟨_, rfl, p5, rfl, ws, .inl ⟨SqL.of f5', fun l1 nl1 => ?_⟩⟩
                have tj1 := (L2.Same.refl H15).new nl1 (.tup ws)
                have e_l1 : upd H15 l1 (.tup ws) l1 = some (.tup ws) := upd_same
                have gj1 := g15.new (o := .tup ws) nl1
                generalize upd H15 l1 (.tup ws) = J1 at tj1 e_l1 gj1 ⊢
                refine ⟨by decide, fun l2 nl2 => ?_⟩
                have tj2 := (L2.Same.refl J1).new nl2 (.tup [])
                have e_l2 : upd J1 l2 (.tup []) l2 = some (.tup []) := upd_same
                have gj2 := gj1.new (o := .tup []) nl2
                generalize upd J1 l2 (.tup []) = J2 at tj2 e_l2 gj2 ⊢
                refine ⟨by decide, fun l3 nl3 => ?_⟩
                have tj3 := (L2.Same.refl J2).new nl3 (.tup [V.str (Str.ofString "left")])
                have e_l3 : upd J2 l3 (.tup [V.str (Str.ofString "left")]) l3 = some (.tup [V.str (Str.ofString "left")]) := upd_same
                have gj3 := gj2.new (o := .tup [V.str (Str.ofString "left")]) nl3
                generalize upd J2 l3 (.tup [V.str (Str.ofString "left")]) = J3 at tj3 e_l3 gj3 ⊢
                refine ⟨small5 (by simp), fun l4 nl4 => ?_⟩
                have tj4 := (L2.Same.refl J3).new nl4 (.lst [V.ref l3])
                have e_l4 : upd J3 l4 (.lst [V.ref l3]) l4 = some (.lst [V.ref l3]) := upd_same
                have gj4 := gj3.new (o := .lst [V.ref l3]) nl4
                generalize upd J3 l4 (.lst [V.ref l3]) = J4 at tj4 e_l4 gj4 ⊢
                refine ⟨by decide, fun l5 nl5 => ?_⟩
                have tj5 := (L2.Same.refl J4).new nl5 (.lst [V.str (Str.ofString "left"), V.str (Str.ofString "")])
                have e_l5 : upd J4 l5 (.lst [V.str (Str.ofString "left"), V.str (Str.ofString "")]) l5 = some (.lst [V.str (Str.ofString "left"), V.str (Str.ofString "")]) := upd_same
                have gj5 := gj4.new (o := .lst [V.str (Str.ofString "left"), V.str (Str.ofString "")]) nl5
                generalize upd J4 l5 (.lst [V.str (Str.ofString "left"), V.str (Str.ofString "")]) = J5 at tj5 e_l5 gj5 ⊢
                refine ⟨small5 (by simp), fun l6 nl6 => ?_⟩
                have tj6 := (L2.Same.refl J5).new nl6 (.lst [V.ref l5])
                have e_l6 : upd J5 l6 (.lst [V.ref l5]) l6 = some (.lst [V.ref l5]) := upd_same
                have gj6 := gj5.new (o := .lst [V.ref l5]) nl6
                generalize upd J5 l6 (.lst [V.ref l5]) = J6 at tj6 e_l6 gj6 ⊢
                refine ⟨_, rfl, by decide, fun l7 nl7 => ?_⟩
                have tj7 := (L2.Same.refl J6).new nl7 (.lst [V.non])
                have e_l7 : upd J6 l7 (.lst [V.non]) l7 = some (.lst [V.non]) := upd_same
                have gj7 := gj6.new (o := .lst [V.non]) nl7
                generalize upd J6 l7 (.lst [V.non]) = J7 at tj7 e_l7 gj7 ⊢
                have sJ7 := (tj1.trans (tj2.trans (tj3.trans (tj4.trans (tj5.trans (tj6.trans tj7))))))
                have f57 := sJ7 _ _ f5'
                refine ⟨p5, l7, ws, [V.non], rfl, rfl, f57, e_l7, small5 (by simp; omega), fun l8 nl8 => ?_⟩
                have tj8 := (L2.Same.refl J7).new nl8 (.lst (ws ++ [V.non]))
                have e_l8 : upd J7 l8 (.lst (ws ++ [V.non])) l8 = some (.lst (ws ++ [V.non])) := upd_same
                have gj8 := gj7.new (o := .lst (ws ++ [V.non])) nl8
                generalize upd J7 l8 (.lst (ws ++ [V.non])) = J8 at tj8 e_l8 gj8 ⊢
                refine fun l9 nl9 => ?_
                have tj9 := (L2.Same.refl J8).new nl9 (.dK [])
                have e_l9 : upd J8 l9 (.dK []) l9 = some (.dK []) := upd_same
                have gj9 := gj8.new (o := .dK []) nl9
                generalize upd J8 l9 (.dK []) = J9 at tj9 e_l9 gj9 ⊢
                refine ⟨small5 (by simp), fun l10 nl10 => ?_⟩
                have tj10 := (L2.Same.refl J9).new nl10 (.lst [V.non, V.int 7, v1, V.ref l1, V.ref l2, V.ref l4, V.ref l6, V.ref l8, V.str (Str.ofString ""), V.ref l9])
                have e_l10 : upd J9 l10 (.lst [V.non, V.int 7, v1, V.ref l1, V.ref l2, V.ref l4, V.ref l6, V.ref l8, V.str (Str.ofString ""), V.ref l9]) l10 = some (.lst [V.non, V.int 7, v1, V.ref l1, V.ref l2, V.ref l4, V.ref l6, V.ref l8, V.str (Str.ofString ""), V.ref l9]) := upd_same
                have gj10 := gj9.new (o := .lst [V.non, V.int 7, v1, V.ref l1, V.ref l2, V.ref l4, V.ref l6, V.ref l8, V.str (Str.ofString ""), V.ref l9]) nl10
                generalize upd J9 l10 (.lst [V.non, V.int 7, v1, V.ref l1, V.ref l2, V.ref l4, V.ref l6, V.ref l8, V.str (Str.ofString ""), V.ref l9]) = J10 at tj10 e_l10 gj10 ⊢
                refine ⟨_, rfl, by decide, fun l11 nl11 => ?_⟩
                have tj11 := (L2.Same.refl J10).new nl11 (.tup [V.str (Str.ofString "right"), V.str (Str.ofString "L")])
                have e_l11 : upd J10 l11 (.tup [V.str (Str.ofString "right"), V.str (Str.ofString "L")]) l11 = some (.tup [V.str (Str.ofString "right"), V.str (Str.ofString "L")]) := upd_same
                have gj11 := gj10.new (o := .tup [V.str (Str.ofString "right"), V.str (Str.ofString "L")]) nl11
                generalize upd J10 l11 (.tup [V.str (Str.ofString "right"), V.str (Str.ofString "L")]) = J11 at tj11 e_l11 gj11 ⊢
                refine ⟨small5 (by simp), fun l12 nl12 => ?_⟩
                have tj12 := (L2.Same.refl J11).new nl12 (.lst [V.ref l11])
                have e_l12 : upd J11 l12 (.lst [V.ref l11]) l12 = some (.lst [V.ref l11]) := upd_same
                have gj12 := gj11.new (o := .lst [V.ref l11]) nl12
                generalize upd J11 l12 (.lst [V.ref l11]) = J12 at tj12 e_l12 gj12 ⊢
                refine ⟨small5 (by simp), fun l13 nl13 => ?_⟩
                have tj13 := (L2.Same.refl J12).new nl13 (.lst [V.ref l12])
                have e_l13 : upd J12 l13 (.lst [V.ref l12]) l13 = some (.lst [V.ref l12]) := upd_same
                have gj13 := gj12.new (o := .lst [V.ref l12]) nl13
                generalize upd J12 l13 (.lst [V.ref l12]) = J13 at tj13 e_l13 gj13 ⊢
                have e_l10' := (tj11.trans (tj12.trans tj13)) _ _ e_l10
                refine ⟨l10, l13, _, _, rfl, rfl, e_l10', e_l13, small5 (by simp), fun l14 nl14 => ?_⟩
                rw [show [V.non, V.int 7, v1, V.ref l1, V.ref l2, V.ref l4, V.ref l6, V.ref l8, V.str (Str.ofString ""), V.ref l9] ++ [V.ref l12] = [V.non, V.int 7, v1, V.ref l1, V.ref l2, V.ref l4, V.ref l6, V.ref l8, V.str (Str.ofString ""), V.ref l9, V.ref l12] from rfl] at *
                have tj14 := (L2.Same.refl J13).new nl14 (.lst [V.non, V.int 7, v1, V.ref l1, V.ref l2, V.ref l4, V.ref l6, V.ref l8, V.str (Str.ofString ""), V.ref l9, V.ref l12])
                have e_l14 : upd J13 l14 (.lst [V.non, V.int 7, v1, V.ref l1, V.ref l2, V.ref l4, V.ref l6, V.ref l8, V.str (Str.ofString ""), V.ref l9, V.ref l12]) l14 = some (.lst [V.non, V.int 7, v1, V.ref l1, V.ref l2, V.ref l4, V.ref l6, V.ref l8, V.str (Str.ofString ""), V.ref l9, V.ref l12]) := upd_same
                have gj14 := gj13.new (o := .lst [V.non, V.int 7, v1, V.ref l1, V.ref l2, V.ref l4, V.ref l6, V.ref l8, V.str (Str.ofString ""), V.ref l9, V.ref l12]) nl14
                generalize upd J13 l14 (.lst [V.non, V.int 7, v1, V.ref l1, V.ref l2, V.ref l4, V.ref l6, V.ref l8, V.str (Str.ofString ""), V.ref l9, V.ref l12]) = J14 at tj14 e_l14 gj14 ⊢
                have gne : ∀ {J : Hp} {l : Addr} {k : Nat}, GenAt J g k → J l = none → l ≠ g := fun {J l k} gg nl => by obtain ⟨o, ho⟩ := gg.some; exact (ne_of_none ho nl).symm
                have u14 := tj14
                have u13 := tj13.trans u14
                have u12 := tj12.trans u13
                have u11 := tj11.trans u12
                have u10 := tj10.trans u11
                have u9 := tj9.trans u10
                have u8 := tj8.trans u9
                have u7 := tj7.trans u8
                have u6 := tj6.trans u7
                have u5 := tj5.trans u6
                have u4 := tj4.trans u5
                have u3 := tj3.trans u4
                have u2 := tj2.trans u3
                have u1 := tj1.trans u2
                have ofs : ∀ {A B : Hp}, Same A B → Same (off g A) (off g B) := fun {A B} s => off_keep (Keep.of s)
                have fstJ := fst'.same u1
                have fo : Stps (off g J14) ws xs := fstJ.mono fun b vs hb => off_at (fun z => by obtain ⟨_, _, _, e, _⟩ := gj14; rw [z, e] at hb; cases hb) hb
                have cLeft : ∀ c ∈ (Str.ofString "left").cps.toList, c < 16 ^ 8 := by decide +kernel
                have cRight : ∀ c ∈ (Str.ofString "right").cps.toList, c < 16 ^ 8 := by decide +kernel
                have cL : ∀ c ∈ (Str.ofString "L").cps.toList, c < 16 ^ 8 := by decide +kernel
                have cE : ∀ c ∈ (Str.ofString "").cps.toList, c < 16 ^ 8 := by decide +kernel
                have pLeft : Plain [PyData.str (Str.ofString "left")] 5 := plainStr _ (by decide +kernel) cLeft
                have pRight : Plain [PyData.str (Str.ofString "right")] 6 := plainStr _ (by decide +kernel) cRight
                have pL : Plain [PyData.str (Str.ofString "L")] 2 := plainStr _ (by decide +kernel) cL
                have pE : Plain [PyData.str (Str.ofString "")] 1 := plainStr _ (by decide +kernel) cE
                have its : ∀ v ∈ [V.non, V.int 7, v1, V.ref l1, V.ref l2, V.ref l4, V.ref l6, V.ref l8, V.str (Str.ofString ""), V.ref l9, V.ref l12], ItemB K (off g J14) v := by
                  intro v hv
                  simp only [List.mem_cons, List.not_mem_nil, or_false] at hv
                  rcases hv with rfl | rfl | rfl | rfl | rfl | rfl | rfl | rfl | rfl | rfl | rfl
                  · exact itemNon
                  · exact itemInt
                  · exact it1.same (ofs u1)
                  · exact itemTup (off_at (gne g15 nl1) (u2 _ _ e_l1)) (dvSt fo) (stPlain xs okX) (by have e1 : xs.length * (200 + 9) ≤ 60 * 209 := Nat.mul_le_mul_right _ (by omega); omega)
                  · exact itemTup (off_at (gne gj1 nl2) (u3 _ _ e_l2)) .nil Plain.nil (by decide)
                  · exact itemOne (off_at (gne gj3 nl4) (u5 _ _ e_l4)) (.inr (.inl ⟨l3, _, rfl, off_at (gne gj2 nl3) (u4 _ _ e_l3), by simp⟩)) (.tup (off_at (gne gj2 nl3) (u4 _ _ e_l3)) (.cons (.str _) .nil)) ((pLeft.tup (by simp [PyData.depthAll, PyData.depth])).mono (by decide))
                  · exact itemOne (off_at (gne gj5 nl6) (u7 _ _ e_l6)) (notTupleList (off_at (gne gj4 nl5) (u6 _ _ e_l5))) (.lst (fun z => by cases z) (off_at (gne gj4 nl5) (u6 _ _ e_l5)) (.cons (.str _) (.cons (.str _) .nil))) (((pLeft.app pE).lst (by simp [PyData.depthAll, PyData.depth])).mono (by decide))
                  · exact itemMore (off_at (gne gj7 nl8) (u9 _ _ e_l8)) fo okX (by omega) (.inl ⟨_, .base .non, kit_ty (by decide +kernel)⟩) .non (plainNon.mono (by decide))
                  · exact itemStr _ (by decide +kernel) cE
                  · exact itemDict (off_at (gne gj8 nl9) (u10 _ _ e_l9))
                  · exact itemOne (off_at (gne gj11 nl12) (u13 _ _ e_l12)) (.inr (.inr ⟨l11, _, _, rfl, off_at (gne gj10 nl11) (u12 _ _ e_l11), .inr (.inr ⟨.inr rfl, .inl ⟨[76], by rw [show Str.ofString "L" = S [76] by decide +kernel], by decide, rfl⟩⟩)⟩)) (.tup (off_at (gne gj10 nl11) (u12 _ _ e_l11)) (.cons (.str _) (.cons (.str _) .nil))) (((pRight.app pL).tup (by simp [PyData.depthAll, PyData.depth])).mono (by decide))
                have e14' : off g J14 l14 = _ := off_at (gne gj13 nl14) e_l14
                have sB14 : Same (off g H12) (off g J14) := off_in (s14.trans (s15.trans u1)) off_self
                generalize hLL : [V.non, V.int 7, v1, V.ref l1, V.ref l2, V.ref l4, V.ref l6, V.ref l8, V.str (Str.ofString ""), V.ref l9, V.ref l12] = LL at *
                have lLL : LL.length = 11 := by rw [← hLL]; rfl
                clear u1 u2 u3 u4 u5 u6 u7 u8 u9 u10 u11 u12 u13 u14 e_l1 e_l2 e_l3 e_l4 e_l5 e_l6 e_l7 e_l8 e_l9 e_l10 e_l11 e_l12 e_l13 e_l10' hLL tj1 tj2 tj3 tj4 tj5 tj6 tj7 tj8 tj9 tj10 tj11 tj12 tj13 tj14
                have flat3 : ∀ (b c : Bool) (z : Str), ∀ u ∈ [V.bl b, V.bl c, V.str z], flatB u = true := fun b c z u hu => by
                  simp only [List.mem_cons, List.not_mem_nil, or_false] at hu
                  rcases hu with rfl | rfl | rfl <;> rfl
                refine ⟨l14, rfl, ⟨_, SqL.of (off_same _ _ e14')⟩, for_list (K := K) (a := l14) (xs := LL) (fun k σ H' => ∃ b15 b16 b17 b18, σ = [some (.ref a), some (.int (i : Nat)), some (.ref g), some (.int (m : Nat)), some (.int (d : Nat)), some (.ref p5), some (sV sp), some (.ref D), a8, a9, some (sV (textT xs)), some (.ref D3), a12, a13, some (.ref l10), b15, b16, b17, b18] ∧ Same (off g J14) H' ∧ GenAt H' g (n14 + 12 * k)) ⟨_, _, _, _, rfl, off_same, gj14⟩ ?_ ?_ ?_⟩
                · rintro k σ H' hk ⟨b15, b16, b17, b18, rfl, sk, gk⟩
                  exact SqL.of (sk _ _ e14')
                · rintro k v σ H' hk ⟨b15, b16, b17, b18, rfl, sk, gk⟩
                  have itv := its v (List.mem_of_getElem? hk)
                  have kl : k < 11 := by rw [← lLL]; exact (List.getElem?_eq_some_iff.mp hk).1
                  simp only [cxOf_K, tAsg2, tYes, wipe, tSeq, tIfS, tNot, tB, tCB, tCons, tNil, tVar, tC, tTest, tOp, tAnd, tOr, tAsg, gName, tRet, tRetN, tDrop, tNext, tIf, tCall, tTup, tLst, tNotV, tAndV, tOrV, tUn, rI0, rI, rU, rEq, rNe, tM1, tM0, tBM, tBM0, tSl, tPart, tNoPart, iStr, iEnumS, iRng1, iRng2, iList, gSub, tBits, tAug, tPar, L2.start, List.map_cons, List.map_nil, List.length_cons, List.length_nil, List.getElem?_cons_zero, List.getElem?_cons_succ, List.cons_append, List.nil_append, List.append_nil, List.set_cons_zero, List.set_cons_succ, List.replicate_succ, List.replicate_zero, Option.some.injEq, exists_eq_left', V.int.injEq, V.str.injEq, V.ref.injEq, V.bl.injEq, exists_and_left, exists_eq_left, List.cons.injEq, and_true, true_and, tCallX, tRs]
                  refine ⟨by decide, fun q1 nq1 => ?_⟩
                  have q1g : q1 ≠ g := gne gk nq1
                  have tk1 := (L2.Same.refl H').new nq1 (.lst [V.int 0, .int 1, .int 2, .int 4])
                  have e_q1 : upd H' q1 (.lst [V.int 0, .int 1, .int 2, .int 4]) q1 = some (.lst [V.int 0, .int 1, .int 2, .int 4]) := upd_same
                  have gk1 := gk.new (o := .lst [V.int 0, .int 1, .int 2, .int 4]) nq1
                  generalize upd H' q1 (.lst [V.int 0, .int 1, .int 2, .int 4]) = G1 at tk1 e_q1 gk1 ⊢
                  have sk1 := sk.trans tk1
                  have nq0 := sk.free nq1
                  refine ⟨q1, rfl, ⟨_, SqL.of e_q1⟩, for_list (K := K) (a := q1) (xs := [V.int 0, .int 1, .int 2, .int 4]) (fun e σ H' => ∃ b16 b17 b18, σ = [some (.ref a), some (.int (i : Nat)), some (.ref g), some (.int (m : Nat)), some (.int (d : Nat)), some (.ref p5), some (sV sp), some (.ref D), a8, a9, some (sV (textT xs)), some (.ref D3), a12, a13, some (.ref l10), some v, b16, b17, b18] ∧ Same (off g J14) H' ∧ GenAt H' g (n14 + 12 * k + 3 * e) ∧ H' q1 = some (.lst [V.int 0, .int 1, .int 2, .int 4])) ⟨_, _, _, rfl, sk1, gk1, e_q1⟩ ?_ ?_ ?_⟩
                  · rintro e σ H2 he ⟨b16, b17, b18, rfl, s2, g2, h2⟩
                    exact SqL.of h2
                  · rintro e x σ H2 he ⟨b16, b17, b18, rfl, s2, g2, h2⟩
                    obtain ⟨door, rfl, hdoor⟩ : ∃ door : Nat, x = V.int (door : Nat) ∧ (door = 0 ∨ door = 1 ∨ door = 2 ∨ door = 4) := by
                      match e, he with
                      | 0, he => cases he; exact ⟨0, rfl, .inl rfl⟩
                      | 1, he => cases he; exact ⟨1, rfl, .inr (.inl rfl)⟩
                      | 2, he => cases he; exact ⟨2, rfl, .inr (.inr (.inl rfl))⟩
                      | 3, he => cases he; exact ⟨4, rfl, .inr (.inr (.inr rfl))⟩
                    have el : e < 4 := (List.getElem?_eq_some_iff.mp he).1
                    simp only [cxOf_K, tAsg2, tYes, wipe, tSeq, tIfS, tNot, tB, tCB, tCons, tNil, tVar, tC, tTest, tOp, tAnd, tOr, tAsg, gName, tRet, tRetN, tDrop, tNext, tIf, tCall, tTup, tLst, tNotV, tAndV, tOrV, tUn, rI0, rI, rU, rEq, rNe, tM1, tM0, tBM, tBM0, tSl, tPart, tNoPart, iStr, iEnumS, iRng1, iRng2, iList, gSub, tBits, tAug, tPar, L2.start, List.map_cons, List.map_nil, List.length_cons, List.length_nil, List.getElem?_cons_zero, List.getElem?_cons_succ, List.cons_append, List.nil_append, List.append_nil, List.set_cons_zero, List.set_cons_succ, List.replicate_succ, List.replicate_zero, Option.some.injEq, exists_eq_left', V.int.injEq, V.str.injEq, V.ref.injEq, V.bl.injEq, exists_and_left, exists_eq_left, List.cons.injEq, and_true, true_and, tCallX, tRs]
                    rcases id itv with ⟨dd, ty, tx, hk2, gd⟩ | ⟨l, us, ds, nn, rfl, hl, lus, al, ⟨u0, hu0, nu0⟩, dv, pl, lnn⟩
                    · refine ⟨v, _, ty, _, false, rfl, .ty _, tyX_same tx s2, hk2, false, rfl, ?_⟩
                      rw [if_neg (by decide)]
                      refine ⟨by decide, fun q2 nq2 => ?_⟩
                      have tk2 := (L2.Same.refl H2).new nq2 (.lst [V.int 5, V.str (Str.ofString ""), V.str (Str.ofString "l")])
                      have e_q2 : upd H2 q2 (.lst [V.int 5, V.str (Str.ofString ""), V.str (Str.ofString "l")]) q2 = some (.lst [V.int 5, V.str (Str.ofString ""), V.str (Str.ofString "l")]) := upd_same
                      have g3 := g2.new (o := .lst [V.int 5, V.str (Str.ofString ""), V.str (Str.ofString "l")]) nq2
                      generalize upd H2 q2 (.lst [V.int 5, V.str (Str.ofString ""), V.str (Str.ofString "l")]) = G2 at tk2 e_q2 g3 ⊢
                      refine ⟨g, 3, _, rfl, g3, by omega, by decide, by decide, fun z H4 z0 z1 k4 g4 => ?_⟩
                      have q2g : q2 ≠ g := gne g2 nq2
                      obtain ⟨w0, hw0⟩ : ∃ w0, atI [V.int 5, V.str (Str.ofString ""), V.str (Str.ofString "l")] z = some w0 := by
                        have hz : z = 0 ∨ z = 1 ∨ z = 2 := by omega
                        rcases hz with rfl | rfl | rfl
                        · exact ⟨_, rfl⟩
                        · exact ⟨_, rfl⟩
                        · exact ⟨_, rfl⟩
                      refine ⟨q2, _, z, _, rfl, rfl, SqL.of (k4 _ _ q2g e_q2), hw0, ?_⟩
                      have s4 : Same (off g J14) H4 := (off_in (s2.trans tk2) off_self).trans (off_to k4)
                      have h4 := k4 _ _ q1g (tk2 _ _ h2)
                      refine ⟨door, v, w0, v, true, rfl, .inl ⟨hdoor, .inl ⟨ty, tyX_same tx s4, hk2⟩, rfl, rfl⟩, .inl ⟨dd, ty, gd.same s4, tyX_same tx s4, hk2, fun H6 s6 p H7 np s7 hp => ?_⟩⟩
                      refine ((gd.same s4).same (s6.trans s7)).repr ⟨by decide, fun p' np' => ?_⟩
                      have s8 := (s6.trans s7).trans ((L2.Same.refl H7).new np' (.lst [V.bl true, V.bl false, V.str dd.shown]))
                      have hp1 := ((L2.Same.refl H7).new np' (.lst [V.bl true, V.bl false, V.str dd.shown])) _ _ hp
                      refine ⟨p, p', _, rfl, rfl, SqL.of hp1, SqL.of upd_same, flat3 _ _ _, false, rfl, ?_⟩
                      rw [if_neg (by decide)]
                      exact ⟨_, _, _, ⟨rfl, rfl, rfl⟩, s4.trans s8, (g4.same s8).mono (by omega), s8 _ _ h4⟩
                    · have hl2 := s2 _ _ hl
                      refine ⟨.ref l, _, _, _, true, rfl, .ty _, .base (.lst hl2), kit_ty (by decide +kernel), true, rfl, ?_⟩
                      rw [if_pos rfl]
                      refine ⟨l, rfl, us, .inl (SqL.of hl2), fun p0 np0 => ?_⟩
                      have tp0 := (L2.Same.refl H2).new np0 (.lst us)
                      have e_p0 : upd H2 p0 (.lst us) p0 = some (.lst us) := upd_same
                      have g3 := g2.new (o := .lst us) np0
                      generalize upd H2 p0 (.lst us) = G2 at tp0 e_p0 g3 ⊢
                      refine ⟨by decide, fun q2 nq2 => ?_⟩
                      have tk2 := (L2.Same.refl G2).new nq2 (.lst [V.int 5, V.str (Str.ofString ""), V.str (Str.ofString "l")])
                      have e_q2 : upd G2 q2 (.lst [V.int 5, V.str (Str.ofString ""), V.str (Str.ofString "l")]) q2 = some (.lst [V.int 5, V.str (Str.ofString ""), V.str (Str.ofString "l")]) := upd_same
                      have g5 := g3.new (o := .lst [V.int 5, V.str (Str.ofString ""), V.str (Str.ofString "l")]) nq2
                      generalize upd G2 q2 (.lst [V.int 5, V.str (Str.ofString ""), V.str (Str.ofString "l")]) = G3 at tk2 e_q2 g5 ⊢
                      have p0g : p0 ≠ g := gne g2 np0
                      refine ⟨g, 3, _, rfl, g5, by omega, by decide, by decide, fun z H4 z0 z1 k4 g4 => ?_⟩
                      have q2g : q2 ≠ g := gne g3 nq2
                      obtain ⟨w0, hw0⟩ : ∃ w0, atI [V.int 5, V.str (Str.ofString ""), V.str (Str.ofString "l")] z = some w0 := by
                        have hz : z = 0 ∨ z = 1 ∨ z = 2 := by omega
                        rcases hz with rfl | rfl | rfl
                        · exact ⟨_, rfl⟩
                        · exact ⟨_, rfl⟩
                        · exact ⟨_, rfl⟩
                      refine ⟨q2, _, z, _, rfl, rfl, SqL.of (k4 _ _ q2g e_q2), hw0, ?_⟩
                      have s4 : Same (off g J14) H4 := (off_in ((s2.trans tp0).trans tk2) off_self).trans (off_to k4)
                      have h4 := k4 _ _ q1g (tk2 _ _ (tp0 _ _ h2))
                      have hp04 := k4 _ _ p0g (tk2 _ _ e_p0)
                      have np00 : off g J14 p0 = none := s2.free np0
                      have pq : p0 ≠ q1 := (ne_of_none h2 np0).symm
                      refine ⟨door, .ref p0, w0, .ref p0, true, rfl, .inl ⟨hdoor, .inr ⟨p0, us, rfl, hp04, by omega, fun u hu => (al u hu).imp (fun z => z.same s4) fun z => z.same s4, u0, hu0, nu0.same s4⟩, rfl, rfl⟩, .inr ⟨p0, us, rfl, hp04, by omega, fun H6 k6 h6 => ?_⟩⟩
                      have s6 : Same (off g J14) H6 := fun b o hb => k6 b o (fun z => by rw [z, np00] at hb; cases hb) (s4 b o hb)
                      have g6 : GenAt H6 g (n14 + 12 * k + 3 * e + 3) := by
                        obtain ⟨x1, x2, x3, e1, e2, e3⟩ := g4
                        exact ⟨x1, x2, x3, k6 _ _ p0g.symm e1, e2, by omega⟩
                      have h6' := k6 _ _ pq.symm h4
                      have cM : ∀ c ∈ ("more" : Str).cps.toList, c < 16 ^ 8 := by decide +kernel
                      have gd6 : Good H6 (.ref p0) (.list (ds ++ [PyData.str "more"])) := goodList h6 (DVsapp (DVs.same s6 dv) (.cons (.str _) .nil)) (pl.app (plainStr (n := 5) "more" (by decide +kernel) cM)) (by omega)
                      refine ⟨_, gd6, fun p H7 np s7 hp => ?_⟩
                      refine (gd6.same s7).repr ⟨by decide, fun p' np' => ?_⟩
                      have s8 := s7.trans ((L2.Same.refl H7).new np' (.lst [V.bl true, V.bl false, V.str (PyData.list (ds ++ [PyData.str "more"])).shown]))
                      have hp1 := ((L2.Same.refl H7).new np' (.lst [V.bl true, V.bl false, V.str (PyData.list (ds ++ [PyData.str "more"])).shown])) _ _ hp
                      refine ⟨p, p', _, rfl, rfl, SqL.of hp1, SqL.of upd_same, flat3 _ _ _, false, rfl, ?_⟩
                      rw [if_neg (by decide)]
                      exact ⟨_, _, _, ⟨rfl, rfl, rfl⟩, s6.trans s8, (g6.same s8).mono (by omega), s8 _ _ h6'⟩
                  · rintro σ H2 ⟨b16, b17, b18, rfl, s2, g2, h2⟩
                    exact ⟨_, _, _, _, rfl, s2, by rw [show n14 + 12 * (k + 1) = n14 + 12 * k + 3 * 4 by omega]; exact g2⟩
                · rintro σ N0 ⟨b15, b16, b17, b18, rfl, sk, gk⟩
                  simp only [cxOf_K, tAsg2, tYes, wipe, tSeq, tIfS, tNot, tB, tCB, tCons, tNil, tVar, tC, tTest, tOp, tAnd, tOr, tAsg, gName, tRet, tRetN, tDrop, tNext, tIf, tCall, tTup, tLst, tNotV, tAndV, tOrV, tUn, rI0, rI, rU, rEq, rNe, tM1, tM0, tBM, tBM0, tSl, tPart, tNoPart, iStr, iEnumS, iRng1, iRng2, iList, gSub, tBits, tAug, tPar, L2.start, List.map_cons, List.map_nil, List.length_cons, List.length_nil, List.getElem?_cons_zero, List.getElem?_cons_succ, List.cons_append, List.nil_append, List.append_nil, List.set_cons_zero, List.set_cons_succ, List.replicate_succ, List.replicate_zero, Option.some.injEq, exists_eq_left', V.int.injEq, V.str.injEq, V.ref.injEq, V.bl.injEq, exists_and_left, exists_eq_left, List.cons.injEq, and_true, true_and, tCallX, tRs]
                  have sN0 : Same (off g H12) N0 := sB14.trans sk
                  clear sk its e14' sB14
                  refine ⟨by decide, fun l20 nl20 => ?_⟩
                  have tn1 := (L2.Same.refl N0).new nl20 (.lst [V.str (Str.ofString "l")])
                  have e_l20 : upd N0 l20 (.lst [V.str (Str.ofString "l")]) l20 = some (.lst [V.str (Str.ofString "l")]) := upd_same
                  generalize upd N0 l20 (.lst [V.str (Str.ofString "l")]) = N1 at tn1 e_l20 ⊢
                  refine ⟨by decide, fun l21 nl21 => ?_⟩
                  have tn2 := (L2.Same.refl N1).new nl21 (.tup [V.str (Str.ofString "l")])
                  have e_l21 : upd N1 l21 (.tup [V.str (Str.ofString "l")]) l21 = some (.tup [V.str (Str.ofString "l")]) := upd_same
                  generalize upd N1 l21 (.tup [V.str (Str.ofString "l")]) = N2 at tn2 e_l21 ⊢
                  refine ⟨small5 (by simp), fun l22 nl22 => ?_⟩
                  have tn3 := (L2.Same.refl N2).new nl22 (.lst [V.non, V.str (Str.ofString "x"), V.int 0, V.ref l20, V.str (Str.ofString "lr "), V.ref l21, V.bl true])
                  have e_l22 : upd N2 l22 (.lst [V.non, V.str (Str.ofString "x"), V.int 0, V.ref l20, V.str (Str.ofString "lr "), V.ref l21, V.bl true]) l22 = some (.lst [V.non, V.str (Str.ofString "x"), V.int 0, V.ref l20, V.str (Str.ofString "lr "), V.ref l21, V.bl true]) := upd_same
                  generalize upd N2 l22 (.lst [V.non, V.str (Str.ofString "x"), V.int 0, V.ref l20, V.str (Str.ofString "lr "), V.ref l21, V.bl true]) = N3 at tn3 e_l22 ⊢
                  have n20 := sN0.free nl20
                  have f20 := tn3 _ _ (tn2 _ _ e_l20)
                  have f21 := tn3 _ _ e_l21
                  have q2022 : l20 ≠ l22 := fun z => by
                    have := (tn2 _ _ e_l20)
                    rw [z, nl22] at this; cases this
                  have q2021 : l20 ≠ l21 := fun z => by rw [z, nl21] at e_l20; cases e_l20
                  have sN3 := sN0.trans (tn1.trans (tn2.trans tn3))
                  have gsB : ∀ {H'}, Same (off g H12) H' → GoodS H' (.ref p5) xs := fun {H'} s => ⟨p5, ws, rfl, s _ _ b5, bst.same s, by omega, okx⟩
                  clear tn1 tn2 tn3 sN0 nl20 nl21 nl22 e_l20 e_l21 gk
                  refine ⟨l22, rfl, ⟨_, SqL.of e_l22⟩, for_list (K := K) (a := l22) (xs := [V.non, V.str (Str.ofString "x"), V.int 0, V.ref l20, V.str (Str.ofString "lr "), V.ref l21, V.bl true]) (fun k σ H' => ∃ c15, σ = [some (.ref a), some (.int (i : Nat)), some (.ref g), some (.int (m : Nat)), some (.int (d : Nat)), some (.ref p5), some (sV sp), some (.ref D), a8, a9, some (sV (textT xs)), some (.ref D3), a12, a13, some (.ref l10), c15, b16, b17, b18] ∧ Same (off g H12) H' ∧ H' l22 = some (.lst [V.non, V.str (Str.ofString "x"), V.int 0, V.ref l20, V.str (Str.ofString "lr "), V.ref l21, V.bl true]) ∧ (k ≤ 3 → H' l20 = some (.lst [V.str (Str.ofString "l")])) ∧ H' l21 = some (.tup [V.str (Str.ofString "l")])) ⟨_, rfl, sN3, e_l22, fun _ => f20, f21⟩ ?_ ?_ ?_⟩
                  · rintro k σ H' hk ⟨c15, rfl, s2, h22, h20, h21⟩
                    exact SqL.of h22
                  · rintro k x σ H' hk ⟨c15, rfl, s2, h22, h20, h21⟩
                    simp only [cxOf_K, tAsg2, tYes, wipe, tSeq, tIfS, tNot, tB, tCB, tCons, tNil, tVar, tC, tTest, tOp, tAnd, tOr, tAsg, gName, tRet, tRetN, tDrop, tNext, tIf, tCall, tTup, tLst, tNotV, tAndV, tOrV, tUn, rI0, rI, rU, rEq, rNe, tM1, tM0, tBM, tBM0, tSl, tPart, tNoPart, iStr, iEnumS, iRng1, iRng2, iList, gSub, tBits, tAug, tPar, L2.start, List.map_cons, List.map_nil, List.length_cons, List.length_nil, List.getElem?_cons_zero, List.getElem?_cons_succ, List.cons_append, List.nil_append, List.append_nil, List.set_cons_zero, List.set_cons_succ, List.replicate_succ, List.replicate_zero, Option.some.injEq, exists_eq_left', V.int.injEq, V.str.injEq, V.ref.injEq, V.bl.injEq, exists_and_left, exists_eq_left, List.cons.injEq, and_true, true_and, tCallX, tRs]
                    have fin : ∀ (dd : PyData) (H1 : Hp), Good H1 x dd → Same (off g H12) H1 ∧ H1 l22 = some (.lst [V.non, V.str (Str.ofString "x"), V.int 0, V.ref l20, V.str (Str.ofString "lr "), V.ref l21, V.bl true]) ∧ (k + 1 ≤ 3 → H1 l20 = some (.lst [V.str (Str.ofString "l")])) ∧ H1 l21 = some (.tup [V.str (Str.ofString "l")]) →
                        ∀ p H2, H1 p = none → Same H1 H2 → H2 p = some (.lst [.bl false, .bl (!false), .str dd.shown]) →
                          rReprV [x] H2 fun x_1 H1 => 0 + 1 + 1 + 1 ≤ sizeLine ∧ ∀ (p_1 : Addr), H1 p_1 = none → TZ.rNeV K (.ref p) (V.ref p_1) (upd H1 p_1 (HO.lst [V.bl false, V.bl true, x_1])) fun x_2 H' =>
                            ∃ k_1, x_2 = V.bl k_1 ∧ if k_1 = true then Q (V.bl false) H' else Same (off g H12) H' ∧ H' l22 = some (.lst [V.non, V.str (Str.ofString "x"), V.int 0, V.ref l20, V.str (Str.ofString "lr "), V.ref l21, V.bl true]) ∧ (k + 1 ≤ 3 → H' l20 = some (.lst [V.str (Str.ofString "l")])) ∧ H' l21 = some (.tup [V.str (Str.ofString "l")]) := by
                      rintro dd H1 gd ⟨w1, w2, w3, w4⟩ p H2 np s3 hp
                      refine (gd.same s3).repr ⟨by decide, fun p' np' => ?_⟩
                      have s8 := s3.trans ((L2.Same.refl H2).new np' (.lst [V.bl false, V.bl true, V.str dd.shown]))
                      have hp1 := ((L2.Same.refl H2).new np' (.lst [V.bl false, V.bl true, V.str dd.shown])) _ _ hp
                      refine ⟨p, p', _, rfl, rfl, SqL.of hp1, SqL.of upd_same, flat3 _ _ _, false, rfl, ?_⟩
                      rw [if_neg (by decide)]
                      exact ⟨w1.trans s8, s8 _ _ w2, fun z => s8 _ _ (w3 z), s8 _ _ w4⟩
                    suffices hs : ∀ QQ : VK, (∀ (dd : PyData) (H1 : Hp), Good H1 x dd → Same (off g H12) H1 ∧ H1 l22 = some (.lst [V.non, V.str (Str.ofString "x"), V.int 0, V.ref l20, V.str (Str.ofString "lr "), V.ref l21, V.bl true]) ∧ (k + 1 ≤ 3 → H1 l20 = some (.lst [V.str (Str.ofString "l")])) ∧ H1 l21 = some (.tup [V.str (Str.ofString "l")]) →
                        ∀ p H2, H1 p = none → Same H1 H2 → H2 p = some (.lst [.bl false, .bl (!false), .str dd.shown]) → QQ (.ref p) H2) → sp_law_caught T [V.int 1, V.ref p5, x] H' QQ E0 from hs _ fin
                    clear fin
                    intro QQ fin
                    have kl : k < 7 := (List.getElem?_eq_some_iff.mp hk).1
                    have flat : ∀ (dd : PyData) ty, NotAdr K H' x → Good H' x dd → TyX K H' x ty → PySem.W.kitOne K ty (.type "list") = some false → (k + 1 ≤ 3 → H' l20 = some (.lst [V.str (Str.ofString "l")])) → sp_law_caught T [V.int 1, V.ref p5, x] H' QQ E0 := fun dd ty na gd tx hk2 h20' =>
                      ⟨1, .ref p5, x, x, false, rfl, .inr (.inl ⟨rfl, ⟨xs, gsB s2⟩, na, rfl, rfl⟩), .inl ⟨dd, ty, gd, tx, hk2, fun H1 s1 => fin dd H1 (gd.same s1) ⟨s2.trans s1, s1 _ _ h22, fun z => s1 _ _ (h20' z), s1 _ _ h21⟩⟩⟩
                    have flat2 : ∀ (dd : PyData) ty, NotStr K H' x → Good H' x dd → TyX K H' x ty → PySem.W.kitOne K ty (.type "list") = some false → (k + 1 ≤ 3 → H' l20 = some (.lst [V.str (Str.ofString "l")])) → sp_law_caught T [V.int 1, V.ref p5, x] H' QQ E0 := fun dd ty na => flat dd ty (.inr na)
                    match k, hk with
                    | 0, hk => cases hk; exact flat2 _ _ ⟨_, .base .non, kit_ty (by decide +kernel)⟩ goodNon (.base .non) (kit_ty (by decide +kernel)) fun _ => h20 (by decide)
                    | 1, hk => cases hk; exact flat _ _ (.inl ⟨[120], by rw [show Str.ofString "x" = S [120] by decide +kernel], by decide, rfl⟩) (goodStr1 _ (by decide +kernel) (by decide +kernel)) (.base (.str _)) (kit_ty (by decide +kernel)) fun _ => h20 (by decide)
                    | 2, hk => cases hk; exact flat2 _ _ ⟨_, .base (.int _), kit_ty (by decide +kernel)⟩ ⟨.int 0, by decide +kernel, by decide +kernel, by decide +kernel, by decide +kernel⟩ (.base (.int _)) (kit_ty (by decide +kernel)) fun _ => h20 (by decide)
                    | 3, hk =>
                      cases hk
                      have h1 := h20 (by decide)
                      refine ⟨1, .ref p5, .ref l20, .ref l20, false, rfl, .inr (.inl ⟨rfl, ⟨xs, gsB s2⟩, .inr ⟨_, .base (.lst h1), kit_ty (by decide +kernel)⟩, rfl, rfl⟩), .inr ⟨l20, [V.str (Str.ofString "l")], rfl, h1, by decide, fun H6 k6 h6 => ?_⟩⟩
                      have s6 : Same (off g H12) H6 := fun b o hb => k6 b o (fun z => by rw [z, n20] at hb; cases hb) (s2 b o hb)
                      have c1 : ∀ c ∈ (Str.ofString "l").cps.toList, c < 16 ^ 8 := by decide +kernel
                      have c2 : ∀ c ∈ ("more" : Str).cps.toList, c < 16 ^ 8 := by decide +kernel
                      have gd6 : Good H6 (.ref l20) (.list [PyData.str (Str.ofString "l"), PyData.str "more"]) := goodList h6 (.cons (.str _) (.cons (.str _) .nil)) ((plainStr (n := 5) (Str.ofString "l") (by decide +kernel) c1).app (plainStr (n := 5) "more" (by decide +kernel) c2)) (by decide)
                      exact ⟨_, gd6, fin _ H6 gd6 ⟨s6, k6 _ _ q2022.symm h22, fun z => absurd z (by decide), k6 _ _ q2021.symm h21⟩⟩
                    | 4, hk => cases hk; exact flat _ _ (.inl ⟨[108, 114, 32], by rw [show Str.ofString "lr " = S [108, 114, 32] by decide +kernel], by decide, rfl⟩) (goodStr1 _ (by decide +kernel) (by decide +kernel)) (.base (.str _)) (kit_ty (by decide +kernel)) fun z => absurd z (by decide)
                    | 5, hk =>
                      cases hk
                      have c1 : ∀ c ∈ (Str.ofString "l").cps.toList, c < 16 ^ 8 := by decide +kernel
                      exact flat2 _ _ ⟨_, .base (.tup h21), kit_ty (by decide +kernel)⟩ (goodTup h21 (.cons (.str _) .nil) (plainStr (n := 5) (Str.ofString "l") (by decide +kernel) c1) (by decide)) (.base (.tup h21)) (kit_ty (by decide +kernel)) fun z => absurd z (by decide)
                    | 6, hk => cases hk; exact flat2 _ _ ⟨_, .base (.bl _), kit_ty (by decide +kernel)⟩ (goodBl true) (.base (.bl _)) (kit_ty (by decide +kernel)) fun z => absurd z (by decide)
                  · rintro σ H' ⟨c15, rfl, s2, h22, h20, h21⟩
                    exact ⟨_, rfl, rfl, (off_in sH12 hg0).trans s2⟩
  · rintro σ H1 ⟨τ, rfl, tl, s1⟩
    match τ, tl with
    | [a1, a2, a3, a4, a5, a6, a7, a8, a9, a10, a11, a12, a13, a14, a15, a16, a17, a18], _ =>
    simp only [cxOf_K, tAsg2, tYes, wipe, tSeq, tIfS, tNot, tB, tCB, tCons, tNil, tVar, tC, tTest, tOp, tAnd, tOr, tAsg, gName, tRet, tRetN, tDrop, tNext, tIf, tCall, tTup, tLst, tNotV, tAndV, tOrV, tUn, rI0, rI, rU, rEq, rNe, tM1, tM0, tBM, tBM0, tSl, tPart, tNoPart, iStr, iEnumS, iRng1, iRng2, iList, gSub, tBits, tAug, tPar, L2.start, List.map_cons, List.map_nil, List.length_cons, List.length_nil, List.getElem?_cons_zero, List.getElem?_cons_succ, List.cons_append, List.nil_append, List.append_nil, List.set_cons_zero, List.set_cons_succ, List.replicate_succ, List.replicate_zero, Option.some.injEq, exists_eq_left', V.int.injEq, V.str.injEq, V.ref.injEq, V.bl.injEq, exists_and_left, exists_eq_left, List.cons.injEq, and_true, true_and, tCallX, tRs]
    refine ⟨by decide, fun p0 np0 => ?_⟩
    have tm0 := (L2.Same.refl H1).new np0 (.lst [V.str (Str.ofString "<L"), V.str (Str.ofString ">R"), V.str (Str.ofString "<l\t>r"), V.str (Str.ofString "left"), V.str (Str.ofString "<l  >r"), V.str (Str.ofString "LEFT"), V.str (Str.ofString ">Rl"), V.str (Str.ofString "< l"), V.str (Str.ofString "<\n"), V.str (Str.ofString "\t")])
    have e_p0 : upd H1 p0 (.lst [V.str (Str.ofString "<L"), V.str (Str.ofString ">R"), V.str (Str.ofString "<l\t>r"), V.str (Str.ofString "left"), V.str (Str.ofString "<l  >r"), V.str (Str.ofString "LEFT"), V.str (Str.ofString ">Rl"), V.str (Str.ofString "< l"), V.str (Str.ofString "<\n"), V.str (Str.ofString "\t")]) p0 = some (.lst [V.str (Str.ofString "<L"), V.str (Str.ofString ">R"), V.str (Str.ofString "<l\t>r"), V.str (Str.ofString "left"), V.str (Str.ofString "<l  >r"), V.str (Str.ofString "LEFT"), V.str (Str.ofString ">Rl"), V.str (Str.ofString "< l"), V.str (Str.ofString "<\n"), V.str (Str.ofString "\t")]) := upd_same
    generalize upd H1 p0 (.lst [V.str (Str.ofString "<L"), V.str (Str.ofString ">R"), V.str (Str.ofString "<l\t>r"), V.str (Str.ofString "left"), V.str (Str.ofString "<l  >r"), V.str (Str.ofString "LEFT"), V.str (Str.ofString ">Rl"), V.str (Str.ofString "< l"), V.str (Str.ofString "<\n"), V.str (Str.ofString "\t")]) = M0 at tm0 e_p0 ⊢
    refine ⟨_, rfl, by decide, fun la nla => ?_⟩
    have tm1 := (L2.Same.refl M0).new nla (.lst [])
    have e_la : upd M0 la (.lst []) la = some (.lst []) := upd_same
    generalize upd M0 la (.lst []) = M1 at tm1 e_la ⊢
    refine ⟨by decide, fun lb nlb => ?_⟩
    have tm2 := (L2.Same.refl M1).new nlb (.lst [V.str (Str.ofString "<")])
    have e_lb : upd M1 lb (.lst [V.str (Str.ofString "<")]) lb = some (.lst [V.str (Str.ofString "<")]) := upd_same
    generalize upd M1 lb (.lst [V.str (Str.ofString "<")]) = M2 at tm2 e_lb ⊢
    refine ⟨by decide, fun lc nlc => ?_⟩
    have tm3 := (L2.Same.refl M2).new nlc (.tup [V.str (Str.ofString "<")])
    have e_lc : upd M2 lc (.tup [V.str (Str.ofString "<")]) lc = some (.tup [V.str (Str.ofString "<")]) := upd_same
    generalize upd M2 lc (.tup [V.str (Str.ofString "<")]) = M3 at tm3 e_lc ⊢
    refine fun ld nld => ?_
    have tm4 := (L2.Same.refl M3).new nld (.dK [])
    have e_ld : upd M3 ld (.dK []) ld = some (.dK []) := upd_same
    generalize upd M3 ld (.dK []) = M4 at tm4 e_ld ⊢
    refine ⟨small5 (by simp), fun le nle => ?_⟩
    have tm5 := (L2.Same.refl M4).new nle (.lst [V.non, V.bl true, V.int 5, V.ref la, V.ref lb, V.ref lc, V.ref ld, V.str (Str.ofString "l"), V.str (Str.ofString "<>"), V.str (Str.ofString "<l,>r"), V.str (Str.ofString "\n"), V.str (Str.ofString "<l\n")])
    have e_le : upd M4 le (.lst [V.non, V.bl true, V.int 5, V.ref la, V.ref lb, V.ref lc, V.ref ld, V.str (Str.ofString "l"), V.str (Str.ofString "<>"), V.str (Str.ofString "<l,>r"), V.str (Str.ofString "\n"), V.str (Str.ofString "<l\n")]) le = some (.lst [V.non, V.bl true, V.int 5, V.ref la, V.ref lb, V.ref lc, V.ref ld, V.str (Str.ofString "l"), V.str (Str.ofString "<>"), V.str (Str.ofString "<l,>r"), V.str (Str.ofString "\n"), V.str (Str.ofString "<l\n")]) := upd_same
    generalize upd M4 le (.lst [V.non, V.bl true, V.int 5, V.ref la, V.ref lb, V.ref lc, V.ref ld, V.str (Str.ofString "l"), V.str (Str.ofString "<>"), V.str (Str.ofString "<l,>r"), V.str (Str.ofString "\n"), V.str (Str.ofString "<l\n")]) = M5 at tm5 e_le ⊢
    refine ⟨p0, le, _, _, rfl, rfl, (tm1.trans (tm2.trans (tm3.trans (tm4.trans tm5)))) _ _ e_p0, e_le, small5 (by simp), fun lf nlf => ?_⟩
    rw [show [V.str (Str.ofString "<L"), V.str (Str.ofString ">R"), V.str (Str.ofString "<l\t>r"), V.str (Str.ofString "left"), V.str (Str.ofString "<l  >r"), V.str (Str.ofString "LEFT"), V.str (Str.ofString ">Rl"), V.str (Str.ofString "< l"), V.str (Str.ofString "<\n"), V.str (Str.ofString "\t")] ++ [V.non, V.bl true, V.int 5, V.ref la, V.ref lb, V.ref lc, V.ref ld, V.str (Str.ofString "l"), V.str (Str.ofString "<>"), V.str (Str.ofString "<l,>r"), V.str (Str.ofString "\n"), V.str (Str.ofString "<l\n")] = [V.str (Str.ofString "<L"), V.str (Str.ofString ">R"), V.str (Str.ofString "<l\t>r"), V.str (Str.ofString "left"), V.str (Str.ofString "<l  >r"), V.str (Str.ofString "LEFT"), V.str (Str.ofString ">Rl"), V.str (Str.ofString "< l"), V.str (Str.ofString "<\n"), V.str (Str.ofString "\t"), V.non, V.bl true, V.int 5, V.ref la, V.ref lb, V.ref lc, V.ref ld, V.str (Str.ofString "l"), V.str (Str.ofString "<>"), V.str (Str.ofString "<l,>r"), V.str (Str.ofString "\n"), V.str (Str.ofString "<l\n")] from rfl]
    have tm6 := (L2.Same.refl M5).new nlf (.lst [V.str (Str.ofString "<L"), V.str (Str.ofString ">R"), V.str (Str.ofString "<l\t>r"), V.str (Str.ofString "left"), V.str (Str.ofString "<l  >r"), V.str (Str.ofString "LEFT"), V.str (Str.ofString ">Rl"), V.str (Str.ofString "< l"), V.str (Str.ofString "<\n"), V.str (Str.ofString "\t"), V.non, V.bl true, V.int 5, V.ref la, V.ref lb, V.ref lc, V.ref ld, V.str (Str.ofString "l"), V.str (Str.ofString "<>"), V.str (Str.ofString "<l,>r"), V.str (Str.ofString "\n"), V.str (Str.ofString "<l\n")])
    have e_lf : upd M5 lf (.lst [V.str (Str.ofString "<L"), V.str (Str.ofString ">R"), V.str (Str.ofString "<l\t>r"), V.str (Str.ofString "left"), V.str (Str.ofString "<l  >r"), V.str (Str.ofString "LEFT"), V.str (Str.ofString ">Rl"), V.str (Str.ofString "< l"), V.str (Str.ofString "<\n"), V.str (Str.ofString "\t"), V.non, V.bl true, V.int 5, V.ref la, V.ref lb, V.ref lc, V.ref ld, V.str (Str.ofString "l"), V.str (Str.ofString "<>"), V.str (Str.ofString "<l,>r"), V.str (Str.ofString "\n"), V.str (Str.ofString "<l\n")]) lf = some (.lst [V.str (Str.ofString "<L"), V.str (Str.ofString ">R"), V.str (Str.ofString "<l\t>r"), V.str (Str.ofString "left"), V.str (Str.ofString "<l  >r"), V.str (Str.ofString "LEFT"), V.str (Str.ofString ">Rl"), V.str (Str.ofString "< l"), V.str (Str.ofString "<\n"), V.str (Str.ofString "\t"), V.non, V.bl true, V.int 5, V.ref la, V.ref lb, V.ref lc, V.ref ld, V.str (Str.ofString "l"), V.str (Str.ofString "<>"), V.str (Str.ofString "<l,>r"), V.str (Str.ofString "\n"), V.str (Str.ofString "<l\n")]) := upd_same
    generalize upd M5 lf (.lst [V.str (Str.ofString "<L"), V.str (Str.ofString ">R"), V.str (Str.ofString "<l\t>r"), V.str (Str.ofString "left"), V.str (Str.ofString "<l  >r"), V.str (Str.ofString "LEFT"), V.str (Str.ofString ">Rl"), V.str (Str.ofString "< l"), V.str (Str.ofString "<\n"), V.str (Str.ofString "\t"), V.non, V.bl true, V.int 5, V.ref la, V.ref lb, V.ref lc, V.ref ld, V.str (Str.ofString "l"), V.str (Str.ofString "<>"), V.str (Str.ofString "<l,>r"), V.str (Str.ofString "\n"), V.str (Str.ofString "<l\n")]) = M6 at tm6 e_lf ⊢
    have fla := (tm2.trans (tm3.trans (tm4.trans (tm5.trans tm6)))) _ _ e_la
    have flb := (tm3.trans (tm4.trans (tm5.trans tm6))) _ _ e_lb
    have flc := (tm4.trans (tm5.trans tm6)) _ _ e_lc
    have fld := (tm5.trans tm6) _ _ e_ld
    have nab : la ≠ lb := ne_of_none e_la nlb
    have naf : la ≠ lf := ne_of_none ((tm2.trans (tm3.trans (tm4.trans tm5))) _ _ e_la) nlf
    have nbf : lb ≠ lf := ne_of_none ((tm3.trans (tm4.trans tm5)) _ _ e_lb) nlf
    have nac : la ≠ lc := ne_of_none (tm2 _ _ e_la) nlc
    have nbc : lb ≠ lc := ne_of_none e_lb nlc
    have nad : la ≠ ld := ne_of_none ((tm2.trans tm3) _ _ e_la) nld
    have nbd : lb ≠ ld := ne_of_none (tm3 _ _ e_lb) nld
    clear tm0 tm1 tm2 tm3 tm4 tm5 tm6 e_la e_lb e_lc e_ld e_le e_p0 nla nlb nlc nld nle nlf np0
    have flat3 : ∀ (b c : Bool) (z : Str), ∀ u ∈ [V.bl b, V.bl c, V.str z], flatB u = true := fun b c z u hu => by
      simp only [List.mem_cons, List.not_mem_nil, or_false] at hu
      rcases hu with rfl | rfl | rfl <;> rfl
    refine ⟨lf, rfl, ⟨_, SqL.of e_lf⟩, for_list (K := K) (a := lf) (xs := [V.str (Str.ofString "<L"), V.str (Str.ofString ">R"), V.str (Str.ofString "<l\t>r"), V.str (Str.ofString "left"), V.str (Str.ofString "<l  >r"), V.str (Str.ofString "LEFT"), V.str (Str.ofString ">Rl"), V.str (Str.ofString "< l"), V.str (Str.ofString "<\n"), V.str (Str.ofString "\t"), V.non, V.bl true, V.int 5, V.ref la, V.ref lb, V.ref lc, V.ref ld, V.str (Str.ofString "l"), V.str (Str.ofString "<>"), V.str (Str.ofString "<l,>r"), V.str (Str.ofString "\n"), V.str (Str.ofString "<l\n")]) (fun k σ H' => ∃ c15, σ = [some (V.ref a), a1, a2, a3, a4, a5, a6, a7, a8, a9, a10, a11, a12, a13, some (V.ref p0), c15, a16, a17, a18] ∧ H' lf = some (.lst [V.str (Str.ofString "<L"), V.str (Str.ofString ">R"), V.str (Str.ofString "<l\t>r"), V.str (Str.ofString "left"), V.str (Str.ofString "<l  >r"), V.str (Str.ofString "LEFT"), V.str (Str.ofString ">Rl"), V.str (Str.ofString "< l"), V.str (Str.ofString "<\n"), V.str (Str.ofString "\t"), V.non, V.bl true, V.int 5, V.ref la, V.ref lb, V.ref lc, V.ref ld, V.str (Str.ofString "l"), V.str (Str.ofString "<>"), V.str (Str.ofString "<l,>r"), V.str (Str.ofString "\n"), V.str (Str.ofString "<l\n")]) ∧ (k ≤ 13 → H' la = some (.lst [])) ∧ (k ≤ 14 → H' lb = some (.lst [V.str (Str.ofString "<")])) ∧ H' lc = some (.tup [V.str (Str.ofString "<")]) ∧ H' ld = some (.dK [])) ⟨_, rfl, e_lf, fun _ => fla, fun _ => flb, flc, fld⟩ ?_ ?_ ?_⟩
    · rintro k σ H' hk ⟨c15, rfl, hf, _⟩
      exact SqL.of hf
    · rintro k x σ H' hk ⟨c15, rfl, hf, ha0, hb0, hc0, hd0⟩
      simp only [cxOf_K, tAsg2, tYes, wipe, tSeq, tIfS, tNot, tB, tCB, tCons, tNil, tVar, tC, tTest, tOp, tAnd, tOr, tAsg, gName, tRet, tRetN, tDrop, tNext, tIf, tCall, tTup, tLst, tNotV, tAndV, tOrV, tUn, rI0, rI, rU, rEq, rNe, tM1, tM0, tBM, tBM0, tSl, tPart, tNoPart, iStr, iEnumS, iRng1, iRng2, iList, gSub, tBits, tAug, tPar, L2.start, List.map_cons, List.map_nil, List.length_cons, List.length_nil, List.getElem?_cons_zero, List.getElem?_cons_succ, List.cons_append, List.nil_append, List.append_nil, List.set_cons_zero, List.set_cons_succ, List.replicate_succ, List.replicate_zero, Option.some.injEq, exists_eq_left', V.int.injEq, V.str.injEq, V.ref.injEq, V.bl.injEq, exists_and_left, exists_eq_left, List.cons.injEq, and_true, true_and, tCallX, tRs]
      have fin : ∀ (dd : PyData) (H1 : Hp), Good H1 x dd → H1 lf = some (.lst [V.str (Str.ofString "<L"), V.str (Str.ofString ">R"), V.str (Str.ofString "<l\t>r"), V.str (Str.ofString "left"), V.str (Str.ofString "<l  >r"), V.str (Str.ofString "LEFT"), V.str (Str.ofString ">Rl"), V.str (Str.ofString "< l"), V.str (Str.ofString "<\n"), V.str (Str.ofString "\t"), V.non, V.bl true, V.int 5, V.ref la, V.ref lb, V.ref lc, V.ref ld, V.str (Str.ofString "l"), V.str (Str.ofString "<>"), V.str (Str.ofString "<l,>r"), V.str (Str.ofString "\n"), V.str (Str.ofString "<l\n")]) ∧ (k + 1 ≤ 13 → H1 la = some (.lst [])) ∧ (k + 1 ≤ 14 → H1 lb = some (.lst [V.str (Str.ofString "<")])) ∧ H1 lc = some (.tup [V.str (Str.ofString "<")]) ∧ H1 ld = some (.dK []) →
          ∀ p H2, H1 p = none → Same H1 H2 → H2 p = some (.lst [.bl true, .bl (!true), .str dd.shown]) →
            rReprV [x] H2 fun x_1 H1 => 0 + 1 + 1 + 1 ≤ sizeLine ∧ ∀ (p_1 : Addr), H1 p_1 = none → TZ.rNeV K (.ref p) (V.ref p_1) (upd H1 p_1 (HO.lst [V.bl true, V.bl false, x_1])) fun x_2 H' =>
              ∃ k_1, x_2 = V.bl k_1 ∧ if k_1 = true then Q (V.bl false) H' else H' lf = some (.lst [V.str (Str.ofString "<L"), V.str (Str.ofString ">R"), V.str (Str.ofString "<l\t>r"), V.str (Str.ofString "left"), V.str (Str.ofString "<l  >r"), V.str (Str.ofString "LEFT"), V.str (Str.ofString ">Rl"), V.str (Str.ofString "< l"), V.str (Str.ofString "<\n"), V.str (Str.ofString "\t"), V.non, V.bl true, V.int 5, V.ref la, V.ref lb, V.ref lc, V.ref ld, V.str (Str.ofString "l"), V.str (Str.ofString "<>"), V.str (Str.ofString "<l,>r"), V.str (Str.ofString "\n"), V.str (Str.ofString "<l\n")]) ∧ (k + 1 ≤ 13 → H' la = some (.lst [])) ∧ (k + 1 ≤ 14 → H' lb = some (.lst [V.str (Str.ofString "<")])) ∧ H' lc = some (.tup [V.str (Str.ofString "<")]) ∧ H' ld = some (.dK []) := by
        rintro dd H1 gd ⟨w1, w2, w3, w4, w5⟩ p H2 np s3 hp
        refine (gd.same s3).repr ⟨by decide, fun p' np' => ?_⟩
        have s8 := s3.trans ((L2.Same.refl H2).new np' (.lst [V.bl true, V.bl false, V.str dd.shown]))
        have hp1 := ((L2.Same.refl H2).new np' (.lst [V.bl true, V.bl false, V.str dd.shown])) _ _ hp
        refine ⟨p, p', _, rfl, rfl, SqL.of hp1, SqL.of upd_same, flat3 _ _ _, false, rfl, ?_⟩
        rw [if_neg (by decide)]
        exact ⟨s8 _ _ w1, fun z => s8 _ _ (w2 z), fun z => s8 _ _ (w3 z), s8 _ _ w4, s8 _ _ w5⟩
      suffices hs : ∀ QQ : VK, (∀ (dd : PyData) (H1 : Hp), Good H1 x dd → H1 lf = some (.lst [V.str (Str.ofString "<L"), V.str (Str.ofString ">R"), V.str (Str.ofString "<l\t>r"), V.str (Str.ofString "left"), V.str (Str.ofString "<l  >r"), V.str (Str.ofString "LEFT"), V.str (Str.ofString ">Rl"), V.str (Str.ofString "< l"), V.str (Str.ofString "<\n"), V.str (Str.ofString "\t"), V.non, V.bl true, V.int 5, V.ref la, V.ref lb, V.ref lc, V.ref ld, V.str (Str.ofString "l"), V.str (Str.ofString "<>"), V.str (Str.ofString "<l,>r"), V.str (Str.ofString "\n"), V.str (Str.ofString "<l\n")]) ∧ (k + 1 ≤ 13 → H1 la = some (.lst [])) ∧ (k + 1 ≤ 14 → H1 lb = some (.lst [V.str (Str.ofString "<")])) ∧ H1 lc = some (.tup [V.str (Str.ofString "<")]) ∧ H1 ld = some (.dK []) →
          ∀ p H2, H1 p = none → Same H1 H2 → H2 p = some (.lst [.bl true, .bl (!true), .str dd.shown]) → QQ (.ref p) H2) → sp_law_caught T [V.int 3, x, V.non] H' QQ E0 from hs _ fin
      clear fin
      intro QQ fin
      have flat : ∀ (dd : PyData) ty, NotTxt K H' x → Good H' x dd → TyX K H' x ty → PySem.W.kitOne K ty (.type "list") = some false → (k + 1 ≤ 13 → H' la = some (.lst [])) → (k + 1 ≤ 14 → H' lb = some (.lst [V.str (Str.ofString "<")])) → sp_law_caught T [V.int 3, x, V.non] H' QQ E0 := fun dd ty na gd tx hk2 h1' h2' =>
        ⟨3, x, .non, x, true, rfl, .inr (.inr ⟨rfl, na, rfl, rfl⟩), .inl ⟨dd, ty, gd, tx, hk2, fun H1 s1 => fin dd H1 (gd.same s1) ⟨s1 _ _ hf, fun z => s1 _ _ (h1' z), fun z => s1 _ _ (h2' z), s1 _ _ hc0, s1 _ _ hd0⟩⟩⟩
      have flatT : ∀ z : Str, x = .str z → (rdText z.cps.toList).isNone = true → z.length ≤ 100 → (∀ c ∈ z.cps.toList, c < 16 ^ 8) → (k + 1 ≤ 13 → H' la = some (.lst [])) → (k + 1 ≤ 14 → H' lb = some (.lst [V.str (Str.ofString "<")])) → sp_law_caught T [V.int 3, x, V.non] H' QQ E0 := fun z hx hn hl hc h1' h2' => by
        refine flat (.str z) (.type "str") (.inl ⟨z.cps.toList, by rw [hx], by show z.cps.toList.length ≤ _; rw [Array.length_toList]; show z.length ≤ _; omega, Option.isNone_iff_eq_none.mp hn⟩) (by rw [hx]; exact goodStr1 z (by omega) hc) (by rw [hx]; exact .base (.str z)) (kit_ty (by decide +kernel)) h1' h2'
      match k, hk with
      | 0, hk => cases hk; exact flatT _ rfl (by decide +kernel) (by decide +kernel) (by decide +kernel) (fun _ => ha0 (by decide)) (fun _ => hb0 (by decide))
      | 1, hk => cases hk; exact flatT _ rfl (by decide +kernel) (by decide +kernel) (by decide +kernel) (fun _ => ha0 (by decide)) (fun _ => hb0 (by decide))
      | 2, hk => cases hk; exact flatT _ rfl (by decide +kernel) (by decide +kernel) (by decide +kernel) (fun _ => ha0 (by decide)) (fun _ => hb0 (by decide))
      | 3, hk => cases hk; exact flatT _ rfl (by decide +kernel) (by decide +kernel) (by decide +kernel) (fun _ => ha0 (by decide)) (fun _ => hb0 (by decide))
      | 4, hk => cases hk; exact flatT _ rfl (by decide +kernel) (by decide +kernel) (by decide +kernel) (fun _ => ha0 (by decide)) (fun _ => hb0 (by decide))
      | 5, hk => cases hk; exact flatT _ rfl (by decide +kernel) (by decide +kernel) (by decide +kernel) (fun _ => ha0 (by decide)) (fun _ => hb0 (by decide))
      | 6, hk => cases hk; exact flatT _ rfl (by decide +kernel) (by decide +kernel) (by decide +kernel) (fun _ => ha0 (by decide)) (fun _ => hb0 (by decide))
      | 7, hk => cases hk; exact flatT _ rfl (by decide +kernel) (by decide +kernel) (by decide +kernel) (fun _ => ha0 (by decide)) (fun _ => hb0 (by decide))
      | 8, hk => cases hk; exact flatT _ rfl (by decide +kernel) (by decide +kernel) (by decide +kernel) (fun _ => ha0 (by decide)) (fun _ => hb0 (by decide))
      | 9, hk => cases hk; exact flatT _ rfl (by decide +kernel) (by decide +kernel) (by decide +kernel) (fun _ => ha0 (by decide)) (fun _ => hb0 (by decide))
      | 10, hk => cases hk; exact flat _ _ (.inr ⟨_, .base .non, kit_ty (by decide +kernel)⟩) goodNon (.base .non) (kit_ty (by decide +kernel)) (fun _ => ha0 (by decide)) (fun _ => hb0 (by decide))
      | 11, hk => cases hk; exact flat _ _ (.inr ⟨_, .base (.bl _), kit_ty (by decide +kernel)⟩) (goodBl true) (.base (.bl _)) (kit_ty (by decide +kernel)) (fun _ => ha0 (by decide)) (fun _ => hb0 (by decide))
      | 12, hk => cases hk; exact flat _ _ (.inr ⟨_, .base (.int _), kit_ty (by decide +kernel)⟩) ⟨.int 5, by decide +kernel, by decide +kernel, by decide +kernel, by decide +kernel⟩ (.base (.int _)) (kit_ty (by decide +kernel)) (fun _ => ha0 (by decide)) (fun _ => hb0 (by decide))
      | 13, hk =>
        cases hk
        have h1 := ha0 (by decide)
        refine ⟨3, .ref la, .non, .ref la, true, rfl, .inr (.inr ⟨rfl, .inr ⟨_, .base (.lst h1), kit_ty (by decide +kernel)⟩, rfl, rfl⟩), .inr ⟨la, [], rfl, h1, by decide, fun H6 k6 h6 => ?_⟩⟩
        have c2 : ∀ c ∈ ("more" : Str).cps.toList, c < 16 ^ 8 := by decide +kernel
        have gd6 : Good H6 (.ref la) (.list [PyData.str "more"]) := goodList h6 (.cons (.str _) .nil) (plainStr (n := 5) "more" (by decide +kernel) c2) (by decide)
        exact ⟨_, gd6, fin _ H6 gd6 ⟨k6 _ _ naf.symm hf, fun z => absurd z (by decide), fun _ => k6 _ _ nab.symm (hb0 (by decide)), k6 _ _ nac.symm hc0, k6 _ _ nad.symm hd0⟩⟩
      | 14, hk =>
        cases hk
        have h1 := hb0 (by decide)
        refine ⟨3, .ref lb, .non, .ref lb, true, rfl, .inr (.inr ⟨rfl, .inr ⟨_, .base (.lst h1), kit_ty (by decide +kernel)⟩, rfl, rfl⟩), .inr ⟨lb, [V.str (Str.ofString "<")], rfl, h1, by decide, fun H6 k6 h6 => ?_⟩⟩
        have c1 : ∀ c ∈ (Str.ofString "<").cps.toList, c < 16 ^ 8 := by decide +kernel
        have c2 : ∀ c ∈ ("more" : Str).cps.toList, c < 16 ^ 8 := by decide +kernel
        have gd6 : Good H6 (.ref lb) (.list [PyData.str (Str.ofString "<"), PyData.str "more"]) := goodList h6 (.cons (.str _) (.cons (.str _) .nil)) ((plainStr (n := 5) (Str.ofString "<") (by decide +kernel) c1).app (plainStr (n := 5) "more" (by decide +kernel) c2)) (by decide)
        exact ⟨_, gd6, fin _ H6 gd6 ⟨k6 _ _ nbf.symm hf, fun z => absurd z (by decide), fun z => absurd z (by decide), k6 _ _ nbc.symm hc0, k6 _ _ nbd.symm hd0⟩⟩
      | 15, hk =>
        cases hk
        have c1 : ∀ c ∈ (Str.ofString "<").cps.toList, c < 16 ^ 8 := by decide +kernel
        exact flat _ _ (.inr ⟨_, .base (.tup hc0), kit_ty (by decide +kernel)⟩) (goodTup hc0 (.cons (.str _) .nil) (plainStr (n := 5) (Str.ofString "<") (by decide +kernel) c1) (by decide)) (.base (.tup hc0)) (kit_ty (by decide +kernel)) (fun z => absurd z (by decide)) (fun z => absurd z (by decide))
      | 16, hk => cases hk; exact flat _ _ (.inr ⟨_, .base (.dK hd0), kit_ty (by decide +kernel)⟩) (goodDict hd0) (.base (.dK hd0)) (kit_ty (by decide +kernel)) (fun z => absurd z (by decide)) (fun z => absurd z (by decide))
      | 17, hk => cases hk; exact flatT _ rfl (by decide +kernel) (by decide +kernel) (by decide +kernel) (fun z => absurd z (by decide)) (fun z => absurd z (by decide))
      | 18, hk => cases hk; exact flatT _ rfl (by decide +kernel) (by decide +kernel) (by decide +kernel) (fun z => absurd z (by decide)) (fun z => absurd z (by decide))
      | 19, hk => cases hk; exact flatT _ rfl (by decide +kernel) (by decide +kernel) (by decide +kernel) (fun z => absurd z (by decide)) (fun z => absurd z (by decide))
      | 20, hk => cases hk; exact flatT _ rfl (by decide +kernel) (by decide +kernel) (by decide +kernel) (fun z => absurd z (by decide)) (fun z => absurd z (by decide))
      | 21, hk => cases hk; exact flatT _ rfl (by decide +kernel) (by decide +kernel) (by decide +kernel) (fun z => absurd z (by decide)) (fun z => absurd z (by decide))
      | n + 22, hk => cases hk
    · rintro σ H' ⟨c15, rfl, _⟩
      exact q H'

/-! ### what the classes must say -/
section
variable {K : PySem.W.Frag} {mg : Str → Option Value} {h : Heap} {C : Addr} {bm : List Value} {nm q : Str} {N : Addr} {bs : List Value} {sn : List Str} {sub : List Value} {ab : Bool} {col : Option Bool} {dd : Option Addr} {k0 k1 k2 k3 k5 : Option Value}
theorem cls_mk (l : K.lookup C = some (excClassObj nm q C N bs bm true sn sub ab col dd k0 k1 k2 k3 k5 "ValueError.__new__")) (r : PySem.HandSPX.refsVE bm = true) (ga : PySem.W.findIn K (.ref C) "__getattribute__" = some (some (.builtin "BaseException.__getattribute__"))) (gg : PySem.W.findIn K (.ref C) "__getattr__" = some none)
    (ha : PySem.W.findIn K (.ref C) "__class__" = some (some (.builtin "object.__class__"))) (hn : PySem.W.specialIn K (.builtin "object.__class__") "__get__" = some (some (.builtin "getset_descriptor.__get__"))) (ht : PySem.W.takesIn K (.builtin "object.__class__") = some true) :
    ErrC K C (.ref C :: bm) ∧ XfC K C := by
  have c : PySem.W.clsIn K C = some { name := nm, bases := bs, mro := .ref C :: bm, ns := N, qualname := q, hasDict := true, slotNames := sn, subclasses := sub, abstract := ab, collection := col, hasDel := false } := by unfold PySem.W.clsIn; rw [l] <;> rfl
  have sub : ∀ Y : String, PySem.HandSPX.veTail.contains (.type Y) = true → PySem.W.mroIn K C (.type Y) = some true := fun Y z => by
    unfold PySem.W.mroIn
    rw [c, Option.bind_some, List.contains_cons, PySem.HandSPX.refsVE_contains Y bm r, z, Bool.or_true]
    rfl
  have hd : PySem.W.hasDictIn K C = true := by unfold PySem.W.hasDictIn; rw [c]; rfl
  have sb : PySem.W.subIn K (.ref C) (.type "BaseException") = some true := sub "BaseException" (by decide +kernel)
  have ty : PySem.W.typeIn K (.ref C) = some (.type "type") := by show (K.lookup C).map (·.cls) = _; rw [l] <;> rfl
  exact ⟨⟨by rw [c]; rfl, ty, ⟨ga, gg, sb, hd, ha, hn, ht, sub "object" (by decide +kernel)⟩⟩, ⟨ga, gg, sb, hd⟩⟩
theorem oex_mk (l : K.lookup C = some (excClassObj nm q C N bs bm true sn sub ab col dd k0 k1 k2 k3 k5 "ValueError.__new__")) (r : PySem.HandSPX.refsVE bm = true) (sa : PySem.W.findIn K (.ref C) "__setattr__" = some (some (.builtin "object.__setattr__"))) (kC : PySem.W.keepIn K (.ref C) = true)
    (e : ErrC K C (.ref C :: bm)) : OexC K C := ⟨⟨_, _, _, _, _, _, _, _, _, _, _, _, _, _, _, l, r⟩, sa, e.ec.hs, e.ty, kC⟩
variable {st : Stmt} {fI TT0 : Addr} {od td : Option Addr} {kV doc pm cdv ct tc : Value} {an : Option Addr} {osl ts : Array (Option Value)} {n : Nat} {qual : Str}
theorem fund_mk (l : K.lookup fI = some ⟨.type "function", od, .func (PySem.W.fnOf "__init__" qual (defArgs st) (defBody st) (defScope st) (.ref TT0) kV doc pm an cdv ct), osl⟩) (c : PySem.W.codeIn K cdv qual = true) (lT : K.lookup TT0 = some ⟨tc, td, .seq #[.none] n, ts⟩) :
    FunD K "__init__" qual (defArgs st) (defBody st) (defScope st) [.non] [] fI (PySem.W.fnOf "__init__" qual (defArgs st) (defBody st) (defScope st) (.ref TT0) kV doc pm an cdv ct) :=
  ⟨⟨_, od, _, kV, doc, pm, an, cdv, ct, osl, rfl, l, c, .inr ⟨by simp, TT0, _, [.none], n, rfl, lT, rfl, .cons rfl .nil⟩, .inl rfl⟩, by unfold PySem.W.keepIn; dsimp only; rw [l] <;> rfl⟩
theorem fty (l : K.lookup fI = some ⟨.type "function", od, .func (PySem.W.fnOf "__init__" qual (defArgs st) (defBody st) (defScope st) (.ref TT0) kV doc pm an cdv ct), osl⟩) : PySem.W.typeIn K (.ref fI) = some (.type "function") := by
  show (K.lookup fI).map (·.cls) = _
  rw [l] <;> rfl
end

theorem own_InvalidAddress {h : Heap} {C fI : Addr} {fd : FuncData} (X : K.In h) (G : h.Ns mainGlobals mg) (m : PySem.W.nsIn K mainGlobals "InvalidAddress" = some (some (.ref C))) (ox : OexC K C) (no : PySem.W.findIn K (.ref C) "value" = some none)
    (iC : PySem.W.findIn K (.ref C) "__init__" = some (some (.ref fI))) (tI : PySem.W.typeIn K (.ref fI) = some (.type "function")) (F : FunD K "__init__" "InvalidAddress.__init__" (defArgs i_InvalidAddress) (defBody i_InvalidAddress) (defScope i_InvalidAddress) [.non] [] fI fd) : OwnE K mg "InvalidAddress" C "value" "value" := by
  refine ⟨PySem.W.mg_of X G m, ox, fI, fd, iC, tI, F.binds1 1 0 (by simp) rfl (fun _ _ _ _ _ _ _ us its h1 h2 => match us, its, h1, h2 with | [_], [_], _, _ => ⟨_, rfl, rfl⟩), ?_, kbinds1 F (by simp) (fun _ _ _ _ _ _ _ us its ws h1 h2 h3 => match us, its, ws, h1, h2, h3 with | [_], [_], [_], _, _, _ => ⟨_, rfl, rfl⟩), fun P w base => ?_⟩
  · obtain ⟨ds, hd, b⟩ := F.binds1 (ps := ["self", "value"]) 2 1 (by simp) rfl (fun _ _ _ _ _ _ _ us its h1 h2 => match us, its, h1, h2 with | [_, _], [_], _, _ => ⟨_, rfl, rfl⟩)
    cases hd
    exact b
  · refine FunD.ok F si_InvalidAddress (fun vs H Q E h => ?_) (fun cdv A outer s H vs Q E hr h => ?_)
    · obtain ⟨a, y, rfl, _⟩ := h; rfl
    obtain ⟨a, y, rfl, ha, q⟩ := h
    refine ⟨_, pss_one (ps_ost (pv 0) (pv 1)), ?_⟩
    simp only [tOst, cxOf_K, tAsg2, tYes, wipe, tSeq, tIfS, tNot, tB, tCB, tCons, tNil, tVar, tC, tTest, tOp, tAnd, tOr, tAsg, gName, tRet, tRetN, tDrop, tNext, tIf, tCall, tTup, tLst, tNotV, tAndV, tOrV, tUn, rI0, rI, rU, rEq, rNe, tM1, tM0, tBM, tBM0, tSl, tPart, tNoPart, iStr, iEnumS, iRng1, iRng2, iList, gSub, tBits, tAug, tPar, L2.start, List.map_cons, List.map_nil, List.length_cons, List.length_nil, List.getElem?_cons_zero, List.getElem?_cons_succ, List.cons_append, List.nil_append, List.append_nil, List.set_cons_zero, List.set_cons_succ, List.replicate_succ, List.replicate_zero, Option.some.injEq, exists_eq_left', V.int.injEq, V.str.injEq, V.ref.injEq, V.bl.injEq, exists_and_left, exists_eq_left, List.cons.injEq, and_true, true_and]
    exact ⟨C, ox, no, .inl ⟨ha, q⟩⟩

theorem own_InvalidScript {h : Heap} {C fI : Addr} {fd : FuncData} (X : K.In h) (G : h.Ns mainGlobals mg) (m : PySem.W.nsIn K mainGlobals "InvalidScript" = some (some (.ref C))) (ox : OexC K C) (no : PySem.W.findIn K (.ref C) "value" = some none)
    (iC : PySem.W.findIn K (.ref C) "__init__" = some (some (.ref fI))) (tI : PySem.W.typeIn K (.ref fI) = some (.type "function")) (F : FunD K "__init__" "InvalidScript.__init__" (defArgs i_InvalidScript) (defBody i_InvalidScript) (defScope i_InvalidScript) [.non] [] fI fd) : OwnE K mg "InvalidScript" C "value" "value" := by
  refine ⟨PySem.W.mg_of X G m, ox, fI, fd, iC, tI, F.binds1 1 0 (by simp) rfl (fun _ _ _ _ _ _ _ us its h1 h2 => match us, its, h1, h2 with | [_], [_], _, _ => ⟨_, rfl, rfl⟩), ?_, kbinds1 F (by simp) (fun _ _ _ _ _ _ _ us its ws h1 h2 h3 => match us, its, ws, h1, h2, h3 with | [_], [_], [_], _, _, _ => ⟨_, rfl, rfl⟩), fun P w base => ?_⟩
  · obtain ⟨ds, hd, b⟩ := F.binds1 (ps := ["self", "value"]) 2 1 (by simp) rfl (fun _ _ _ _ _ _ _ us its h1 h2 => match us, its, h1, h2 with | [_, _], [_], _, _ => ⟨_, rfl, rfl⟩)
    cases hd
    exact b
  · refine FunD.ok F si_InvalidScript (fun vs H Q E h => ?_) (fun cdv A outer s H vs Q E hr h => ?_)
    · obtain ⟨a, y, rfl, _⟩ := h; rfl
    obtain ⟨a, y, rfl, ha, q⟩ := h
    refine ⟨_, pss_one (ps_ost (pv 0) (pv 1)), ?_⟩
    simp only [tOst, cxOf_K, tAsg2, tYes, wipe, tSeq, tIfS, tNot, tB, tCB, tCons, tNil, tVar, tC, tTest, tOp, tAnd, tOr, tAsg, gName, tRet, tRetN, tDrop, tNext, tIf, tCall, tTup, tLst, tNotV, tAndV, tOrV, tUn, rI0, rI, rU, rEq, rNe, tM1, tM0, tBM, tBM0, tSl, tPart, tNoPart, iStr, iEnumS, iRng1, iRng2, iList, gSub, tBits, tAug, tPar, L2.start, List.map_cons, List.map_nil, List.length_cons, List.length_nil, List.getElem?_cons_zero, List.getElem?_cons_succ, List.cons_append, List.nil_append, List.append_nil, List.set_cons_zero, List.set_cons_succ, List.replicate_succ, List.replicate_zero, Option.some.injEq, exists_eq_left', V.int.injEq, V.str.injEq, V.ref.injEq, V.bl.injEq, exists_and_left, exists_eq_left, List.cons.injEq, and_true, true_and]
    exact ⟨C, ox, no, .inl ⟨ha, q⟩⟩

end
theorem all_mk {l : PySem.W.OpenLaw} {w : World} {K : PySem.W.Frag} {h : Heap} {mg : Str → Option Value} {fa : Addr} (X : K.In h) (G : h.Ns mainGlobals mg) (hfa : mg "law" = some (.ref fa))
    (hn : PySem.W.specialIn K (.builtin "object.__class__") "__get__" = some (some (.builtin "getset_descriptor.__get__"))) (ht : PySem.W.takesIn K (.builtin "object.__class__") = some true)
    {C_TurnError : Addr}
    {nm_TurnError q_TurnError : Str} {N_TurnError : Addr} {bs_TurnError : List Value} {sn_TurnError : List Str} {sub_TurnError : List Value} {ab_TurnError : Bool} {col_TurnError : Option Bool} {dd_TurnError : Option Addr} {k0_TurnError k1_TurnError k2_TurnError k3_TurnError k5_TurnError : Option Value}
    (m_TurnError : PySem.W.nsIn K mainGlobals "TurnError" = some (some (.ref C_TurnError)))
    (l_TurnError : K.lookup C_TurnError = some (excClassObj nm_TurnError q_TurnError C_TurnError N_TurnError bs_TurnError veL true sn_TurnError sub_TurnError ab_TurnError col_TurnError dd_TurnError k0_TurnError k1_TurnError k2_TurnError k3_TurnError k5_TurnError "ValueError.__new__"))
    (ga_TurnError : PySem.W.findIn K (.ref C_TurnError) "__getattribute__" = some (some (.builtin "BaseException.__getattribute__"))) (gg_TurnError : PySem.W.findIn K (.ref C_TurnError) "__getattr__" = some none) (ha_TurnError : PySem.W.findIn K (.ref C_TurnError) "__class__" = some (some (.builtin "object.__class__")))
    {C_InvalidAddress : Addr}
    {nm_InvalidAddress q_InvalidAddress : Str} {N_InvalidAddress : Addr} {bs_InvalidAddress : List Value} {sn_InvalidAddress : List Str} {sub_InvalidAddress : List Value} {ab_InvalidAddress : Bool} {col_InvalidAddress : Option Bool} {dd_InvalidAddress : Option Addr} {k0_InvalidAddress k1_InvalidAddress k2_InvalidAddress k3_InvalidAddress k5_InvalidAddress : Option Value}
    (m_InvalidAddress : PySem.W.nsIn K mainGlobals "InvalidAddress" = some (some (.ref C_InvalidAddress)))
    (l_InvalidAddress : K.lookup C_InvalidAddress = some (excClassObj nm_InvalidAddress q_InvalidAddress C_InvalidAddress N_InvalidAddress bs_InvalidAddress (.ref C_TurnError :: veL) true sn_InvalidAddress sub_InvalidAddress ab_InvalidAddress col_InvalidAddress dd_InvalidAddress k0_InvalidAddress k1_InvalidAddress k2_InvalidAddress k3_InvalidAddress k5_InvalidAddress "ValueError.__new__"))
    (ga_InvalidAddress : PySem.W.findIn K (.ref C_InvalidAddress) "__getattribute__" = some (some (.builtin "BaseException.__getattribute__"))) (gg_InvalidAddress : PySem.W.findIn K (.ref C_InvalidAddress) "__getattr__" = some none) (ha_InvalidAddress : PySem.W.findIn K (.ref C_InvalidAddress) "__class__" = some (some (.builtin "object.__class__")))
    (sa_InvalidAddress : PySem.W.findIn K (.ref C_InvalidAddress) "__setattr__" = some (some (.builtin "object.__setattr__"))) (kC_InvalidAddress : PySem.W.keepIn K (.ref C_InvalidAddress) = true) (no_InvalidAddress : PySem.W.findIn K (.ref C_InvalidAddress) "value" = some none)
    {f_InvalidAddress T_InvalidAddress n_InvalidAddress : Nat} {od_InvalidAddress td_InvalidAddress an_InvalidAddress : Option Addr} {kV_InvalidAddress doc_InvalidAddress pm_InvalidAddress cd_InvalidAddress ct_InvalidAddress tc_InvalidAddress : Value} {ol_InvalidAddress ts_InvalidAddress : Array (Option Value)}
    (iC_InvalidAddress : PySem.W.findIn K (.ref C_InvalidAddress) "__init__" = some (some (.ref f_InvalidAddress)))
    (lf_InvalidAddress : K.lookup f_InvalidAddress = some ⟨.type "function", od_InvalidAddress, .func (PySem.W.fnOf "__init__" "InvalidAddress.__init__" (defArgs i_InvalidAddress) (defBody i_InvalidAddress) (defScope i_InvalidAddress) (.ref T_InvalidAddress) kV_InvalidAddress doc_InvalidAddress pm_InvalidAddress an_InvalidAddress cd_InvalidAddress ct_InvalidAddress), ol_InvalidAddress⟩)
    (cf_InvalidAddress : PySem.W.codeIn K cd_InvalidAddress "InvalidAddress.__init__" = true) (lT_InvalidAddress : K.lookup T_InvalidAddress = some ⟨tc_InvalidAddress, td_InvalidAddress, .seq #[.none] n_InvalidAddress, ts_InvalidAddress⟩)
    {C_InvalidScript : Addr}
    {nm_InvalidScript q_InvalidScript : Str} {N_InvalidScript : Addr} {bs_InvalidScript : List Value} {sn_InvalidScript : List Str} {sub_InvalidScript : List Value} {ab_InvalidScript : Bool} {col_InvalidScript : Option Bool} {dd_InvalidScript : Option Addr} {k0_InvalidScript k1_InvalidScript k2_InvalidScript k3_InvalidScript k5_InvalidScript : Option Value}
    (m_InvalidScript : PySem.W.nsIn K mainGlobals "InvalidScript" = some (some (.ref C_InvalidScript)))
    (l_InvalidScript : K.lookup C_InvalidScript = some (excClassObj nm_InvalidScript q_InvalidScript C_InvalidScript N_InvalidScript bs_InvalidScript (.ref C_TurnError :: veL) true sn_InvalidScript sub_InvalidScript ab_InvalidScript col_InvalidScript dd_InvalidScript k0_InvalidScript k1_InvalidScript k2_InvalidScript k3_InvalidScript k5_InvalidScript "ValueError.__new__"))
    (ga_InvalidScript : PySem.W.findIn K (.ref C_InvalidScript) "__getattribute__" = some (some (.builtin "BaseException.__getattribute__"))) (gg_InvalidScript : PySem.W.findIn K (.ref C_InvalidScript) "__getattr__" = some none) (ha_InvalidScript : PySem.W.findIn K (.ref C_InvalidScript) "__class__" = some (some (.builtin "object.__class__")))
    (sa_InvalidScript : PySem.W.findIn K (.ref C_InvalidScript) "__setattr__" = some (some (.builtin "object.__setattr__"))) (kC_InvalidScript : PySem.W.keepIn K (.ref C_InvalidScript) = true) (no_InvalidScript : PySem.W.findIn K (.ref C_InvalidScript) "value" = some none)
    {f_InvalidScript T_InvalidScript n_InvalidScript : Nat} {od_InvalidScript td_InvalidScript an_InvalidScript : Option Addr} {kV_InvalidScript doc_InvalidScript pm_InvalidScript cd_InvalidScript ct_InvalidScript tc_InvalidScript : Value} {ol_InvalidScript ts_InvalidScript : Array (Option Value)}
    (iC_InvalidScript : PySem.W.findIn K (.ref C_InvalidScript) "__init__" = some (some (.ref f_InvalidScript)))
    (lf_InvalidScript : K.lookup f_InvalidScript = some ⟨.type "function", od_InvalidScript, .func (PySem.W.fnOf "__init__" "InvalidScript.__init__" (defArgs i_InvalidScript) (defBody i_InvalidScript) (defScope i_InvalidScript) (.ref T_InvalidScript) kV_InvalidScript doc_InvalidScript pm_InvalidScript an_InvalidScript cd_InvalidScript ct_InvalidScript), ol_InvalidScript⟩)
    (cf_InvalidScript : PySem.W.codeIn K cd_InvalidScript "InvalidScript.__init__" = true) (lT_InvalidScript : K.lookup T_InvalidScript = some ⟨tc_InvalidScript, td_InvalidScript, .seq #[.none] n_InvalidScript, ts_InvalidScript⟩)
    (nd : [C_InvalidAddress, C_InvalidScript, C_TurnError].Nodup)
    {D_OTHER_WORD n_OTHER_WORD : Nat} {h1_OTHER_WORD h2_OTHER_WORD : Int} {t1_OTHER_WORD t2_OTHER_WORD t3_OTHER_WORD t4_OTHER_WORD : Tok}
    (m_OTHER_WORD : PySem.W.nsIn K mainGlobals "OTHER_WORD" = some (some (.ref D_OTHER_WORD))) (l_OTHER_WORD : K.lookup D_OTHER_WORD = some ⟨.type "dict", none, .dict #[⟨h1_OTHER_WORD, .str "left" t1_OTHER_WORD, .str "right" t2_OTHER_WORD⟩, ⟨h2_OTHER_WORD, .str "right" t3_OTHER_WORD, .str "left" t4_OTHER_WORD⟩] n_OTHER_WORD, #[]⟩)
    (e1_OTHER_WORD : h1_OTHER_WORD = PyData.keyHash w.params "left") (e2_OTHER_WORD : h2_OTHER_WORD = PyData.keyHash w.params "right") (lo_OTHER_WORD : (D_OTHER_WORD == sysModules) = false)
    {D_SIGN_OF n_SIGN_OF : Nat} {h1_SIGN_OF h2_SIGN_OF : Int} {t1_SIGN_OF t2_SIGN_OF t3_SIGN_OF t4_SIGN_OF : Tok}
    (m_SIGN_OF : PySem.W.nsIn K mainGlobals "SIGN_OF" = some (some (.ref D_SIGN_OF))) (l_SIGN_OF : K.lookup D_SIGN_OF = some ⟨.type "dict", none, .dict #[⟨h1_SIGN_OF, .str "left" t1_SIGN_OF, .str "<" t2_SIGN_OF⟩, ⟨h2_SIGN_OF, .str "right" t3_SIGN_OF, .str ">" t4_SIGN_OF⟩] n_SIGN_OF, #[]⟩)
    (e1_SIGN_OF : h1_SIGN_OF = PyData.keyHash w.params "left") (e2_SIGN_OF : h2_SIGN_OF = PyData.keyHash w.params "right") (lo_SIGN_OF : (D_SIGN_OF == sysModules) = false)
    {D_WORD_OF n_WORD_OF : Nat} {h1_WORD_OF h2_WORD_OF : Int} {t1_WORD_OF t2_WORD_OF t3_WORD_OF t4_WORD_OF : Tok}
    (m_WORD_OF : PySem.W.nsIn K mainGlobals "WORD_OF" = some (some (.ref D_WORD_OF))) (l_WORD_OF : K.lookup D_WORD_OF = some ⟨.type "dict", none, .dict #[⟨h1_WORD_OF, .str "<" t1_WORD_OF, .str "left" t2_WORD_OF⟩, ⟨h2_WORD_OF, .str ">" t3_WORD_OF, .str "right" t4_WORD_OF⟩] n_WORD_OF, #[]⟩)
    (e1_WORD_OF : h1_WORD_OF = PyData.keyHash w.params "<") (e2_WORD_OF : h2_WORD_OF = PyData.keyHash w.params ">") (lo_WORD_OF : (D_WORD_OF == sysModules) = false)
    {C_Growth : Addr} (m_Growth : PySem.W.nsIn K mainGlobals "Growth" = some (some (.ref C_Growth)))
    (pg_Growth : PySem.W.plainGet K C_Growth Str.empty = true) (hd_Growth : PySem.W.hasDictIn K C_Growth = true) (po_Growth : PySem.W.plainOver K C_Growth = true) (sa_Growth : PySem.W.findIn K (.ref C_Growth) "__setattr__" = some (some (.builtin "object.__setattr__"))) (mk_Growth : PySem.W.makesIn K C_Growth = true) (kc_Growth : PySem.W.keepIn K (.ref C_Growth) = true)
    (na_Growth_origin : PySem.W.findIn K (.ref C_Growth) "origin" = some none)
    (na_Growth_current : PySem.W.findIn K (.ref C_Growth) "current" = some none)
    (na_Growth_many : PySem.W.findIn K (.ref C_Growth) "many" = some none)
    {f_Growth___init__ : Addr} {od_Growth___init__ an_Growth___init__ : Option Addr} {sl_Growth___init__ : Array (Option Value)} {oc_Growth___init__ kV_Growth___init__ dc_Growth___init__ pm_Growth___init__ cd_Growth___init__ ct_Growth___init__ : Value}
    (at_Growth___init__ : PySem.W.findIn K (.ref C_Growth) "__init__" = some (some (.ref f_Growth___init__))) (is_Growth___init__ : PySem.W.isFn K (.ref f_Growth___init__) = true) (l_Growth___init__ : K.lookup f_Growth___init__ = some ⟨oc_Growth___init__, od_Growth___init__, .func (PySem.W.fnOf "__init__" "Growth.__init__" (defArgs s_Growth___init__) (defBody s_Growth___init__) (defScope s_Growth___init__) .none kV_Growth___init__ dc_Growth___init__ pm_Growth___init__ an_Growth___init__ cd_Growth___init__ ct_Growth___init__), sl_Growth___init__⟩) (c_Growth___init__ : PySem.W.codeIn K cd_Growth___init__ "Growth.__init__" = true) (k_Growth___init__ : PySem.W.keepIn K (.ref f_Growth___init__) = true)
    {f0 : Addr} {od0 an0 : Option Addr} {sl0 : Array (Option Value)} {oc0 kV0 dc0 pm0 cd0 ct0 : Value}
    (a0 : PySem.W.nsIn K mainGlobals "is_address" = some (some (.ref f0))) (l0 : K.lookup f0 = some ⟨oc0, od0, .func (PySem.W.fnOf "is_address" "is_address" (defArgs s_is_address) (defBody s_is_address) (defScope s_is_address) .none kV0 dc0 pm0 an0 cd0 ct0), sl0⟩) (c0 : PySem.W.codeIn K cd0 "is_address" = true) (k0 : PySem.W.keepIn K (.ref f0) = true)
    {f1 : Addr} {od1 an1 : Option Addr} {sl1 : Array (Option Value)} {oc1 kV1 dc1 pm1 cd1 ct1 : Value}
    (a1 : PySem.W.nsIn K mainGlobals "check_address" = some (some (.ref f1))) (l1 : K.lookup f1 = some ⟨oc1, od1, .func (PySem.W.fnOf "check_address" "check_address" (defArgs s_check_address) (defBody s_check_address) (defScope s_check_address) .none kV1 dc1 pm1 an1 cd1 ct1), sl1⟩) (c1 : PySem.W.codeIn K cd1 "check_address" = true) (k1 : PySem.W.keepIn K (.ref f1) = true)
    {f2 : Addr} {od2 an2 : Option Addr} {sl2 : Array (Option Value)} {oc2 kV2 dc2 pm2 cd2 ct2 : Value}
    (a2 : PySem.W.nsIn K mainGlobals "is_step" = some (some (.ref f2))) (l2 : K.lookup f2 = some ⟨oc2, od2, .func (PySem.W.fnOf "is_step" "is_step" (defArgs s_is_step) (defBody s_is_step) (defScope s_is_step) .none kV2 dc2 pm2 an2 cd2 ct2), sl2⟩) (c2 : PySem.W.codeIn K cd2 "is_step" = true) (k2 : PySem.W.keepIn K (.ref f2) = true)
    {f3 : Addr} {od3 an3 : Option Addr} {sl3 : Array (Option Value)} {oc3 kV3 dc3 pm3 cd3 ct3 : Value}
    (a3 : PySem.W.nsIn K mainGlobals "checked_script" = some (some (.ref f3))) (l3 : K.lookup f3 = some ⟨oc3, od3, .func (PySem.W.fnOf "checked_script" "checked_script" (defArgs s_checked_script) (defBody s_checked_script) (defScope s_checked_script) .none kV3 dc3 pm3 an3 cd3 ct3), sl3⟩) (c3 : PySem.W.codeIn K cd3 "checked_script" = true) (k3 : PySem.W.keepIn K (.ref f3) = true)
    {f4 : Addr} {od4 an4 : Option Addr} {sl4 : Array (Option Value)} {oc4 kV4 dc4 pm4 cd4 ct4 : Value}
    (a4 : PySem.W.nsIn K mainGlobals "pair_of" = some (some (.ref f4))) (l4 : K.lookup f4 = some ⟨oc4, od4, .func (PySem.W.fnOf "pair_of" "pair_of" (defArgs s_pair_of) (defBody s_pair_of) (defScope s_pair_of) .none kV4 dc4 pm4 an4 cd4 ct4), sl4⟩) (c4 : PySem.W.codeIn K cd4 "pair_of" = true) (k4 : PySem.W.keepIn K (.ref f4) = true)
    {f5 : Addr} {od5 an5 : Option Addr} {sl5 : Array (Option Value)} {oc5 kV5 dc5 pm5 cd5 ct5 : Value}
    (a5 : PySem.W.nsIn K mainGlobals "opposite" = some (some (.ref f5))) (l5 : K.lookup f5 = some ⟨oc5, od5, .func (PySem.W.fnOf "opposite" "opposite" (defArgs s_opposite) (defBody s_opposite) (defScope s_opposite) .none kV5 dc5 pm5 an5 cd5 ct5), sl5⟩) (c5 : PySem.W.codeIn K cd5 "opposite" = true) (k5 : PySem.W.keepIn K (.ref f5) = true)
    {f6 : Addr} {od6 an6 : Option Addr} {sl6 : Array (Option Value)} {oc6 kV6 dc6 pm6 cd6 ct6 : Value}
    (a6 : PySem.W.nsIn K mainGlobals "lowered" = some (some (.ref f6))) (l6 : K.lookup f6 = some ⟨oc6, od6, .func (PySem.W.fnOf "lowered" "lowered" (defArgs s_lowered) (defBody s_lowered) (defScope s_lowered) .none kV6 dc6 pm6 an6 cd6 ct6), sl6⟩) (c6 : PySem.W.codeIn K cd6 "lowered" = true) (k6 : PySem.W.keepIn K (.ref f6) = true)
    {f7 : Addr} {od7 an7 : Option Addr} {sl7 : Array (Option Value)} {oc7 kV7 dc7 pm7 cd7 ct7 : Value}
    (a7 : PySem.W.nsIn K mainGlobals "text_of" = some (some (.ref f7))) (l7 : K.lookup f7 = some ⟨oc7, od7, .func (PySem.W.fnOf "text_of" "text_of" (defArgs s_text_of) (defBody s_text_of) (defScope s_text_of) .none kV7 dc7 pm7 an7 cd7 ct7), sl7⟩) (c7 : PySem.W.codeIn K cd7 "text_of" = true) (k7 : PySem.W.keepIn K (.ref f7) = true)
    {f8 : Addr} {od8 an8 : Option Addr} {sl8 : Array (Option Value)} {oc8 kV8 dc8 pm8 cd8 ct8 : Value}
    (a8 : PySem.W.nsIn K mainGlobals "read_script" = some (some (.ref f8))) (l8 : K.lookup f8 = some ⟨oc8, od8, .func (PySem.W.fnOf "read_script" "read_script" (defArgs s_read_script) (defBody s_read_script) (defScope s_read_script) .none kV8 dc8 pm8 an8 cd8 ct8), sl8⟩) (c8 : PySem.W.codeIn K cd8 "read_script" = true) (k8 : PySem.W.keepIn K (.ref f8) = true)
    {f9 : Addr} {od9 an9 : Option Addr} {sl9 : Array (Option Value)} {oc9 kV9 dc9 pm9 cd9 ct9 : Value}
    (a9 : PySem.W.nsIn K mainGlobals "_law_cell" = some (some (.ref f9))) (l9 : K.lookup f9 = some ⟨oc9, od9, .func (PySem.W.fnOf "_law_cell" "_law_cell" (defArgs s_law_cell) (defBody s_law_cell) (defScope s_law_cell) .none kV9 dc9 pm9 an9 cd9 ct9), sl9⟩) (c9 : PySem.W.codeIn K cd9 "_law_cell" = true) (k9 : PySem.W.keepIn K (.ref f9) = true)
    {f10 : Addr} {od10 an10 : Option Addr} {sl10 : Array (Option Value)} {oc10 kV10 dc10 pm10 cd10 ct10 : Value}
    (a10 : PySem.W.nsIn K mainGlobals "_law_hash" = some (some (.ref f10))) (l10 : K.lookup f10 = some ⟨oc10, od10, .func (PySem.W.fnOf "_law_hash" "_law_hash" (defArgs s_law_hash) (defBody s_law_hash) (defScope s_law_hash) .none kV10 dc10 pm10 an10 cd10 ct10), sl10⟩) (c10 : PySem.W.codeIn K cd10 "_law_hash" = true) (k10 : PySem.W.keepIn K (.ref f10) = true)
    {f11 : Addr} {od11 an11 : Option Addr} {sl11 : Array (Option Value)} {oc11 kV11 dc11 pm11 cd11 ct11 : Value}
    (a11 : PySem.W.nsIn K mainGlobals "_law_generator" = some (some (.ref f11))) (l11 : K.lookup f11 = some ⟨oc11, od11, .func (PySem.W.fnOf "_law_generator" "_law_generator" (defArgs s_law_generator) (defBody s_law_generator) (defScope s_law_generator) .none kV11 dc11 pm11 an11 cd11 ct11), sl11⟩) (c11 : PySem.W.codeIn K cd11 "_law_generator" = true) (k11 : PySem.W.keepIn K (.ref f11) = true)
    {f12 : Addr} {od12 an12 : Option Addr} {sl12 : Array (Option Value)} {oc12 kV12 dc12 pm12 cd12 ct12 : Value}
    (a12 : PySem.W.nsIn K mainGlobals "_law_address" = some (some (.ref f12))) (l12 : K.lookup f12 = some ⟨oc12, od12, .func (PySem.W.fnOf "_law_address" "_law_address" (defArgs s_law_address) (defBody s_law_address) (defScope s_law_address) .none kV12 dc12 pm12 an12 cd12 ct12), sl12⟩) (c12 : PySem.W.codeIn K cd12 "_law_address" = true) (k12 : PySem.W.keepIn K (.ref f12) = true)
    {f13 : Addr} {od13 an13 : Option Addr} {sl13 : Array (Option Value)} {oc13 kV13 dc13 pm13 cd13 ct13 : Value}
    (a13 : PySem.W.nsIn K mainGlobals "_law_steps" = some (some (.ref f13))) (l13 : K.lookup f13 = some ⟨oc13, od13, .func (PySem.W.fnOf "_law_steps" "_law_steps" (defArgs s_law_steps) (defBody s_law_steps) (defScope s_law_steps) .none kV13 dc13 pm13 an13 cd13 ct13), sl13⟩) (c13 : PySem.W.codeIn K cd13 "_law_steps" = true) (k13 : PySem.W.keepIn K (.ref f13) = true)
    {f14 : Addr} {od14 an14 : Option Addr} {sl14 : Array (Option Value)} {oc14 kV14 dc14 pm14 cd14 ct14 : Value}
    (a14 : PySem.W.nsIn K mainGlobals "_law_random" = some (some (.ref f14))) (l14 : K.lookup f14 = some ⟨oc14, od14, .func (PySem.W.fnOf "_law_random" "_law_random" (defArgs s_law_random) (defBody s_law_random) (defScope s_law_random) .none kV14 dc14 pm14 an14 cd14 ct14), sl14⟩) (c14 : PySem.W.codeIn K cd14 "_law_random" = true) (k14 : PySem.W.keepIn K (.ref f14) = true)
    {f15 : Addr} {od15 an15 : Option Addr} {sl15 : Array (Option Value)} {oc15 kV15 dc15 pm15 cd15 ct15 : Value}
    (a15 : PySem.W.nsIn K mainGlobals "_law_caught" = some (some (.ref f15))) (l15 : K.lookup f15 = some ⟨oc15, od15, .func (PySem.W.fnOf "_law_caught" "_law_caught" (defArgs s_law_caught) (defBody s_law_caught) (defScope s_law_caught) .none kV15 dc15 pm15 an15 cd15 ct15), sl15⟩) (c15 : PySem.W.codeIn K cd15 "_law_caught" = true) (k15 : PySem.W.keepIn K (.ref f15) = true)
    {f16 : Addr} {od16 an16 : Option Addr} {sl16 : Array (Option Value)} {oc16 kV16 dc16 pm16 cd16 ct16 : Value}
    (a16 : PySem.W.nsIn K mainGlobals "_law_read" = some (some (.ref f16))) (l16 : K.lookup f16 = some ⟨oc16, od16, .func (PySem.W.fnOf "_law_read" "_law_read" (defArgs s_law_read) (defBody s_law_read) (defScope s_law_read) .none kV16 dc16 pm16 an16 cd16 ct16), sl16⟩) (c16 : PySem.W.codeIn K cd16 "_law_read" = true) (k16 : PySem.W.keepIn K (.ref f16) = true)
    {f17 : Addr} {od17 an17 : Option Addr} {sl17 : Array (Option Value)} {oc17 kV17 dc17 pm17 cd17 ct17 : Value}
    (a17 : PySem.W.nsIn K mainGlobals "_law_texts_right" = some (some (.ref f17))) (l17 : K.lookup f17 = some ⟨oc17, od17, .func (PySem.W.fnOf "_law_texts_right" "_law_texts_right" (defArgs s_law_texts_right) (defBody s_law_texts_right) (defScope s_law_texts_right) .none kV17 dc17 pm17 an17 cd17 ct17), sl17⟩) (c17 : PySem.W.codeIn K cd17 "_law_texts_right" = true) (k17 : PySem.W.keepIn K (.ref f17) = true)
    {f18 : Addr} {od18 an18 : Option Addr} {sl18 : Array (Option Value)} {oc18 kV18 dc18 pm18 cd18 ct18 : Value}
    (a18 : PySem.W.nsIn K mainGlobals "law" = some (some (.ref f18))) (l18 : K.lookup f18 = some ⟨oc18, od18, .func (PySem.W.fnOf "law" "law" (defArgs s_law) (defBody s_law) (defScope s_law) .none kV18 dc18 pm18 an18 cd18 ct18), sl18⟩) (c18 : PySem.W.codeIn K cd18 "law" = true) (k18 : PySem.W.keepIn K (.ref f18) = true)
    (z_isinstance : PySem.W.nsIn K mainGlobals "isinstance" = some none)
    (z_str : PySem.W.nsIn K mainGlobals "str" = some none)
    (z_len : PySem.W.nsIn K mainGlobals "len" = some none)
    (z_list : PySem.W.nsIn K mainGlobals "list" = some none)
    (z_int : PySem.W.nsIn K mainGlobals "int" = some none)
    (z_max : PySem.W.nsIn K mainGlobals "max" = some none)
    (z_range : PySem.W.nsIn K mainGlobals "range" = some none)
    (z_repr : PySem.W.nsIn K mainGlobals "repr" = some none)
    (z_tuple : PySem.W.nsIn K mainGlobals "tuple" = some none)
    (z_all : PySem.W.nsIn K mainGlobals "all" = some none)
    : ∃ fd : FuncData, (∀ (s : Shared) (v : Value), BindsTo s fd ⟨[v], []⟩ [("_law_script", v)]) ∧ ∀ base : Heap, K.In base → base.Ns mainGlobals mg → FnG l.prog w K mg base CX0 22 fa fd ["_law_script"] (sp_law K) := by
  have e := hfa.symm.trans (PySem.W.mg_of X G a18)
  cases e
  obtain ⟨e_TurnError, x_TurnError⟩ := cls_mk l_TurnError rfl ga_TurnError gg_TurnError ha_TurnError hn ht
  obtain ⟨e_InvalidAddress, x_InvalidAddress⟩ := cls_mk l_InvalidAddress rfl ga_InvalidAddress gg_InvalidAddress ha_InvalidAddress hn ht
  have o_InvalidAddress := own_InvalidAddress X G m_InvalidAddress (oex_mk l_InvalidAddress rfl sa_InvalidAddress kC_InvalidAddress e_InvalidAddress) no_InvalidAddress iC_InvalidAddress (fty lf_InvalidAddress) (fund_mk lf_InvalidAddress cf_InvalidAddress lT_InvalidAddress)
  obtain ⟨e_InvalidScript, x_InvalidScript⟩ := cls_mk l_InvalidScript rfl ga_InvalidScript gg_InvalidScript ha_InvalidScript hn ht
  have o_InvalidScript := own_InvalidScript X G m_InvalidScript (oex_mk l_InvalidScript rfl sa_InvalidScript kC_InvalidScript e_InvalidScript) no_InvalidScript iC_InvalidScript (fty lf_InvalidScript) (fund_mk lf_InvalidScript cf_InvalidScript lT_InvalidScript)
  have F_Growth___init__ := fun_mk (st := s_Growth___init__) l_Growth___init__ c_Growth___init__ k_Growth___init__
  have b_Growth___init__ := F_Growth___init__.binds (ps := ["self"]) fun _ _ _ _ _ _ us hl => match us, hl with | [_], _ => rfl
  have F0 := fun_mk (st := s_is_address) l0 c0 k0
  have b0 := F0.binds (ps := ["value"]) fun _ _ _ _ _ _ us hl => match us, hl with | [_], _ => rfl
  have F1 := fun_mk (st := s_check_address) l1 c1 k1
  have b1 := F1.binds (ps := ["value"]) fun _ _ _ _ _ _ us hl => match us, hl with | [_], _ => rfl
  have F2 := fun_mk (st := s_is_step) l2 c2 k2
  have b2 := F2.binds (ps := ["value"]) fun _ _ _ _ _ _ us hl => match us, hl with | [_], _ => rfl
  have F3 := fun_mk (st := s_checked_script) l3 c3 k3
  have b3 := F3.binds (ps := ["steps"]) fun _ _ _ _ _ _ us hl => match us, hl with | [_], _ => rfl
  have F4 := fun_mk (st := s_pair_of) l4 c4 k4
  have b4 := F4.binds (ps := ["steps"]) fun _ _ _ _ _ _ us hl => match us, hl with | [_], _ => rfl
  have F5 := fun_mk (st := s_opposite) l5 c5 k5
  have b5 := F5.binds (ps := ["steps"]) fun _ _ _ _ _ _ us hl => match us, hl with | [_], _ => rfl
  have F6 := fun_mk (st := s_lowered) l6 c6 k6
  have b6 := F6.binds (ps := ["steps", "address"]) fun _ _ _ _ _ _ us hl => match us, hl with | [_, _], _ => rfl
  have F7 := fun_mk (st := s_text_of) l7 c7 k7
  have b7 := F7.binds (ps := ["steps"]) fun _ _ _ _ _ _ us hl => match us, hl with | [_], _ => rfl
  have F8 := fun_mk (st := s_read_script) l8 c8 k8
  have b8 := F8.binds (ps := ["text"]) fun _ _ _ _ _ _ us hl => match us, hl with | [_], _ => rfl
  have F9 := fun_mk (st := s_law_cell) l9 c9 k9
  have b9 := F9.binds (ps := ["_law_script", "_law_index"]) fun _ _ _ _ _ _ us hl => match us, hl with | [_, _], _ => rfl
  have F10 := fun_mk (st := s_law_hash) l10 c10 k10
  have b10 := F10.binds (ps := ["_law_seed", "_law_index"]) fun _ _ _ _ _ _ us hl => match us, hl with | [_, _], _ => rfl
  have F11 := fun_mk (st := s_law_generator) l11 c11 k11
  have b11 := F11.binds (ps := ["_law_script", "_law_index"]) fun _ _ _ _ _ _ us hl => match us, hl with | [_, _], _ => rfl
  have F12 := fun_mk (st := s_law_address) l12 c12 k12
  have b12 := F12.binds (ps := ["_law_generator_here", "_law_longest"]) fun _ _ _ _ _ _ us hl => match us, hl with | [_, _], _ => rfl
  have F13 := fun_mk (st := s_law_steps) l13 c13 k13
  have b13 := F13.binds (ps := ["_law_generator_here", "_law_many", "_law_deep"]) fun _ _ _ _ _ _ us hl => match us, hl with | [_, _, _], _ => rfl
  have F14 := fun_mk (st := s_law_random) l14 c14 k14
  have b14 := F14.binds (ps := ["_law_generator_here", "_law_bound"]) fun _ _ _ _ _ _ us hl => match us, hl with | [_, _], _ => rfl
  have F15 := fun_mk (st := s_law_caught) l15 c15 k15
  have b15 := F15.binds (ps := ["_law_door", "_law_first", "_law_second"]) fun _ _ _ _ _ _ us hl => match us, hl with | [_, _, _], _ => rfl
  have F16 := fun_mk (st := s_law_read) l16 c16 k16
  have b16 := F16.binds (ps := ["_law_words"]) fun _ _ _ _ _ _ us hl => match us, hl with | [_], _ => rfl
  have F17 := fun_mk (st := s_law_texts_right) l17 c17 k17
  have b17 := F17.binds (ps := ["_law_generator_here", "_law_words"]) fun _ _ _ _ _ _ us hl => match us, hl with | [_, _], _ => rfl
  have F18 := fun_mk (st := s_law) l18 c18 k18
  have b18 := F18.binds (ps := ["_law_script"]) fun _ _ _ _ _ _ us hl => match us, hl with | [_], _ => rfl
  refine ⟨PySem.W.fnOf "law" "law" (defArgs s_law) (defBody s_law) (defScope s_law) .none kV18 dc18 pm18 an18 cd18 ct18, fun s v => .of_eq rfl, fun base _ _ => ?_⟩
  exact ok_law { c_TurnError := _, g_TurnError := PySem.W.mg_of X G m_TurnError, e_TurnError := e_TurnError, c_InvalidAddress := _, g_InvalidAddress := PySem.W.mg_of X G m_InvalidAddress, e_InvalidAddress := e_InvalidAddress, o_InvalidAddress := o_InvalidAddress, x_InvalidAddress := x_InvalidAddress, n_InvalidAddress := no_InvalidAddress, c_InvalidScript := _, g_InvalidScript := PySem.W.mg_of X G m_InvalidScript, e_InvalidScript := e_InvalidScript, o_InvalidScript := o_InvalidScript, x_InvalidScript := x_InvalidScript, n_InvalidScript := no_InvalidScript, nd := nd, d_OTHER_WORD := D_OTHER_WORD, m_OTHER_WORD := PySem.W.mg_of X G m_OTHER_WORD, k_OTHER_WORD := TD.kd_mk2 l_OTHER_WORD e1_OTHER_WORD e2_OTHER_WORD lo_OTHER_WORD, d_SIGN_OF := D_SIGN_OF, m_SIGN_OF := PySem.W.mg_of X G m_SIGN_OF, k_SIGN_OF := TD.kd_mk2 l_SIGN_OF e1_SIGN_OF e2_SIGN_OF lo_SIGN_OF, d_WORD_OF := D_WORD_OF, m_WORD_OF := PySem.W.mg_of X G m_WORD_OF, k_WORD_OF := TD.kd_mk2 l_WORD_OF e1_WORD_OF e2_WORD_OF lo_WORD_OF, a_Growth___init__ := _, fd_Growth___init__ := _, F_Growth___init__ := F_Growth___init__, b_Growth___init__ := b_Growth___init__, k_Growth := ⟨mk_Growth, at_Growth___init__, is_Growth___init__, kc_Growth⟩, c_Growth := C_Growth, g_Growth := PySem.W.mg_of X G m_Growth, l_Growth := ⟨pg_Growth, hd_Growth, po_Growth, sa_Growth⟩, n_Growth_origin := na_Growth_origin, n_Growth_current := na_Growth_current, n_Growth_many := na_Growth_many, a_is_address := _, fd_is_address := _, F_is_address := F0, b_is_address := b0, m_is_address := PySem.W.mg_of X G a0, a_check_address := _, fd_check_address := _, F_check_address := F1, b_check_address := b1, m_check_address := PySem.W.mg_of X G a1, a_is_step := _, fd_is_step := _, F_is_step := F2, b_is_step := b2, m_is_step := PySem.W.mg_of X G a2, a_checked_script := _, fd_checked_script := _, F_checked_script := F3, b_checked_script := b3, m_checked_script := PySem.W.mg_of X G a3, a_pair_of := _, fd_pair_of := _, F_pair_of := F4, b_pair_of := b4, m_pair_of := PySem.W.mg_of X G a4, a_opposite := _, fd_opposite := _, F_opposite := F5, b_opposite := b5, m_opposite := PySem.W.mg_of X G a5, a_lowered := _, fd_lowered := _, F_lowered := F6, b_lowered := b6, m_lowered := PySem.W.mg_of X G a6, a_text_of := _, fd_text_of := _, F_text_of := F7, b_text_of := b7, m_text_of := PySem.W.mg_of X G a7, a_read_script := _, fd_read_script := _, F_read_script := F8, b_read_script := b8, m_read_script := PySem.W.mg_of X G a8, a_law_cell := _, fd_law_cell := _, F_law_cell := F9, b_law_cell := b9, m_law_cell := PySem.W.mg_of X G a9, a_law_hash := _, fd_law_hash := _, F_law_hash := F10, b_law_hash := b10, m_law_hash := PySem.W.mg_of X G a10, a_law_generator := _, fd_law_generator := _, F_law_generator := F11, b_law_generator := b11, m_law_generator := PySem.W.mg_of X G a11, a_law_address := _, fd_law_address := _, F_law_address := F12, b_law_address := b12, m_law_address := PySem.W.mg_of X G a12, a_law_steps := _, fd_law_steps := _, F_law_steps := F13, b_law_steps := b13, m_law_steps := PySem.W.mg_of X G a13, a_law_random := _, fd_law_random := _, F_law_random := F14, b_law_random := b14, m_law_random := PySem.W.mg_of X G a14, a_law_caught := _, fd_law_caught := _, F_law_caught := F15, b_law_caught := b15, m_law_caught := PySem.W.mg_of X G a15, a_law_read := _, fd_law_read := _, F_law_read := F16, b_law_read := b16, m_law_read := PySem.W.mg_of X G a16, a_law_texts_right := _, fd_law_texts_right := _, F_law_texts_right := F17, b_law_texts_right := b17, m_law_texts_right := PySem.W.mg_of X G a17, a_law := _, fd_law := _, F_law := F18, b_law := b18, m_law := PySem.W.mg_of X G a18, z_isinstance := PySem.W.mg_none_of X G z_isinstance, z_str := PySem.W.mg_none_of X G z_str, z_len := PySem.W.mg_none_of X G z_len, z_list := PySem.W.mg_none_of X G z_list, z_int := PySem.W.mg_none_of X G z_int, z_max := PySem.W.mg_none_of X G z_max, z_range := PySem.W.mg_none_of X G z_range, z_repr := PySem.W.mg_none_of X G z_repr, z_tuple := PySem.W.mg_none_of X G z_tuple, z_all := PySem.W.mg_none_of X G z_all }
theorem walk {l : PySem.W.OpenLaw} {q : Program} {loose : List Str} {XP : (Str → Option Value) → Heap → Prop} {YP : World → Heap → Prop} {d : DefRec} {K : Params → PySem.W.Frag} (hn : l.most = some 63) (hdf : d.params.defaults = [])
    (hY : ∀ (w : World) (h : Heap), YP w h → (K w.params).In h)
    (F : ∀ (w : World) (mg : Str → Option Value) (fa : Addr) (h : Heap), (K w.params).In h → h.Ns mainGlobals mg → mg d.name = some (.ref fa) →
      ∃ fd : FuncData, (∀ (s : Shared) (u : Value), BindsTo s fd ⟨[u], []⟩ [("_law_script", u)]) ∧ ∀ base : Heap, (K w.params).In base → base.Ns mainGlobals mg → FnG l.prog w (K w.params) mg base CX0 22 fa fd ["_law_script"] (sp_law (K w.params))) :
    PySem.W.WalkO q loose XP YP l.row.toRowW d [] (fun f vs => PySem.call f vs) :=
  walkG (n := 63) (k := 22) (x := "_law_script") (sp := fun w => sp_law (K w.params)) hn (by decide) hdf ⟨rfl, by decide, by decide⟩ hY F (fun _ _ a ns hl _ hS => ⟨a, ns, rfl, hS, hl, fun _ => rfl⟩)
end Toy

open PySem PySem.W PyProof.Rows in
set_option maxRecDepth 100000 in
set_option maxHeartbeats 0 in
theorem PySem.Challenge.cw_treeturns_k12_scripts_undone_and_written_holds : PySem.Challenge.rw_treeturns_k12_scripts_undone_and_written.Holds := by
  w_on; o_law; k_head; (case hw => w_witness2)
  k_fill
  refine Toy.walk (l := PySem.Challenge.rw_treeturns_k12_scripts_undone_and_written) rfl rfl (fun w h Y => PySem.W.kIn_of Y) ?F
  case F =>
    intro w mg fa h KX G hmg
    refine' Toy.all_mk KX G hmg ?hn ?ht ?m_TurnError ?l_TurnError ?ga_TurnError ?gg_TurnError ?ha_TurnError ?m_InvalidAddress ?l_InvalidAddress ?ga_InvalidAddress ?gg_InvalidAddress ?ha_InvalidAddress ?sa_InvalidAddress ?kC_InvalidAddress ?no_InvalidAddress ?iC_InvalidAddress ?lf_InvalidAddress ?cf_InvalidAddress ?lT_InvalidAddress ?m_InvalidScript ?l_InvalidScript ?ga_InvalidScript ?gg_InvalidScript ?ha_InvalidScript ?sa_InvalidScript ?kC_InvalidScript ?no_InvalidScript ?iC_InvalidScript ?lf_InvalidScript ?cf_InvalidScript ?lT_InvalidScript ?nd ?m_OTHER_WORD ?l_OTHER_WORD ?e1_OTHER_WORD ?e2_OTHER_WORD ?lo_OTHER_WORD ?m_SIGN_OF ?l_SIGN_OF ?e1_SIGN_OF ?e2_SIGN_OF ?lo_SIGN_OF ?m_WORD_OF ?l_WORD_OF ?e1_WORD_OF ?e2_WORD_OF ?lo_WORD_OF ?m_Growth ?pg_Growth ?hd_Growth ?po_Growth ?sa_Growth ?mk_Growth ?kc_Growth ?na_Growth_origin ?na_Growth_current ?na_Growth_many ?at_Growth___init__ ?is_Growth___init__ ?l_Growth___init__ ?c_Growth___init__ ?k_Growth___init__ ?a0 ?l0 ?c0 ?k0 ?a1 ?l1 ?c1 ?k1 ?a2 ?l2 ?c2 ?k2 ?a3 ?l3 ?c3 ?k3 ?a4 ?l4 ?c4 ?k4 ?a5 ?l5 ?c5 ?k5 ?a6 ?l6 ?c6 ?k6 ?a7 ?l7 ?c7 ?k7 ?a8 ?l8 ?c8 ?k8 ?a9 ?l9 ?c9 ?k9 ?a10 ?l10 ?c10 ?k10 ?a11 ?l11 ?c11 ?k11 ?a12 ?l12 ?c12 ?k12 ?a13 ?l13 ?c13 ?k13 ?a14 ?l14 ?c14 ?k14 ?a15 ?l15 ?c15 ?k15 ?a16 ?l16 ?c16 ?k16 ?a17 ?l17 ?c17 ?k17 ?a18 ?l18 ?c18 ?k18 ?z_isinstance ?z_str ?z_len ?z_list ?z_int ?z_max ?z_range ?z_repr ?z_tuple ?z_all
    (case hn => k_is)
    (case ht => k_is)
    (case m_TurnError => k_is)
    (case l_TurnError => k_is)
    (case ga_TurnError => k_is)
    (case gg_TurnError => k_is)
    (case ha_TurnError => k_is)
    (case m_InvalidAddress => k_is)
    (case l_InvalidAddress => k_is)
    (case ga_InvalidAddress => k_is)
    (case gg_InvalidAddress => k_is)
    (case ha_InvalidAddress => k_is)
    (case sa_InvalidAddress => k_is)
    (case kC_InvalidAddress => k_is)
    (case no_InvalidAddress => k_is)
    (case iC_InvalidAddress => k_is)
    (case lf_InvalidAddress => k_is)
    (case cf_InvalidAddress => k_is)
    (case lT_InvalidAddress => k_is)
    (case m_InvalidScript => k_is)
    (case l_InvalidScript => k_is)
    (case ga_InvalidScript => k_is)
    (case gg_InvalidScript => k_is)
    (case ha_InvalidScript => k_is)
    (case sa_InvalidScript => k_is)
    (case kC_InvalidScript => k_is)
    (case no_InvalidScript => k_is)
    (case iC_InvalidScript => k_is)
    (case lf_InvalidScript => k_is)
    (case cf_InvalidScript => k_is)
    (case lT_InvalidScript => k_is)
    (case nd => decide)
    (case m_OTHER_WORD => k_is)
    (case l_OTHER_WORD => k_is)
    (case e1_OTHER_WORD => rfl)
    (case e2_OTHER_WORD => rfl)
    (case lo_OTHER_WORD => rfl)
    (case m_SIGN_OF => k_is)
    (case l_SIGN_OF => k_is)
    (case e1_SIGN_OF => rfl)
    (case e2_SIGN_OF => rfl)
    (case lo_SIGN_OF => rfl)
    (case m_WORD_OF => k_is)
    (case l_WORD_OF => k_is)
    (case e1_WORD_OF => rfl)
    (case e2_WORD_OF => rfl)
    (case lo_WORD_OF => rfl)
    (case m_Growth => k_is)
    (case pg_Growth => k_is)
    (case hd_Growth => k_is)
    (case po_Growth => k_is)
    (case sa_Growth => k_is)
    (case mk_Growth => k_is)
    (case kc_Growth => k_is)
    (case na_Growth_origin => k_is)
    (case na_Growth_current => k_is)
    (case na_Growth_many => k_is)
    (case at_Growth___init__ => k_is)
    (case is_Growth___init__ => k_is)
    (case l_Growth___init__ => k_is)
    (case c_Growth___init__ => k_is)
    (case k_Growth___init__ => k_is)
    (case a0 => k_is)
    (case l0 => k_is)
    (case c0 => k_is)
    (case k0 => k_is)
    (case a1 => k_is)
    (case l1 => k_is)
    (case c1 => k_is)
    (case k1 => k_is)
    (case a2 => k_is)
    (case l2 => k_is)
    (case c2 => k_is)
    (case k2 => k_is)
    (case a3 => k_is)
    (case l3 => k_is)
    (case c3 => k_is)
    (case k3 => k_is)
    (case a4 => k_is)
    (case l4 => k_is)
    (case c4 => k_is)
    (case k4 => k_is)
    (case a5 => k_is)
    (case l5 => k_is)
    (case c5 => k_is)
    (case k5 => k_is)
    (case a6 => k_is)
    (case l6 => k_is)
    (case c6 => k_is)
    (case k6 => k_is)
    (case a7 => k_is)
    (case l7 => k_is)
    (case c7 => k_is)
    (case k7 => k_is)
    (case a8 => k_is)
    (case l8 => k_is)
    (case c8 => k_is)
    (case k8 => k_is)
    (case a9 => k_is)
    (case l9 => k_is)
    (case c9 => k_is)
    (case k9 => k_is)
    (case a10 => k_is)
    (case l10 => k_is)
    (case c10 => k_is)
    (case k10 => k_is)
    (case a11 => k_is)
    (case l11 => k_is)
    (case c11 => k_is)
    (case k11 => k_is)
    (case a12 => k_is)
    (case l12 => k_is)
    (case c12 => k_is)
    (case k12 => k_is)
    (case a13 => k_is)
    (case l13 => k_is)
    (case c13 => k_is)
    (case k13 => k_is)
    (case a14 => k_is)
    (case l14 => k_is)
    (case c14 => k_is)
    (case k14 => k_is)
    (case a15 => k_is)
    (case l15 => k_is)
    (case c15 => k_is)
    (case k15 => k_is)
    (case a16 => k_is)
    (case l16 => k_is)
    (case c16 => k_is)
    (case k16 => k_is)
    (case a17 => k_is)
    (case l17 => k_is)
    (case c17 => k_is)
    (case k17 => k_is)
    (case a18 => k_is)
    (case l18 => k_is)
    (case c18 => k_is)
    (case k18 => k_is)
    (case z_isinstance => k_is)
    (case z_str => k_is)
    (case z_len => k_is)
    (case z_list => k_is)
    (case z_int => k_is)
    (case z_max => k_is)
    (case z_range => k_is)
    (case z_repr => k_is)
    (case z_tuple => k_is)
    (case z_all => k_is)

import PyProof.Rows.All
import Wide.All
import OpenK.AllK
import Wide.FinOn
import HandS.ForMost
import HandS.Flow
import HandS.Wide
import HandS.WideBits
import HandS.NoneIn
import HandS.IsInst
import PyProof.Rows.RegReprOcc
import KE.KExcIs
import HandS.Base
import HandS.Call
import HandS.List
import HandS.Ends
import HandS.Exc
import HandS.ExcInit
import HandS.ExcField
import HandS.ExcIs
import HandS.Defaults
import HandS.MakeKwOnly
import PyProof.ReprRoads
import PyProof.ReprReads
import PyProof.StrLawsRepr
import PyProof.ReprBulk
import HandS.ExcValue
import HandS.Words
import HandS.Codes
import HandS.Dict
import HandS.WordsExc
import HandS.Replace
import HandS.ReplaceLit
import HandS.Iter
import HandS.Steps
import HandS.StrMore
import HandS.Text
import PyProof.EqLayable
import PyProof.Rows.StrStrike
import HandS.Style
import PyProof.Rows.StrRev
import PyProof.StrOps2
import KE.KRevSl
import HandS.DeepEq
import PyProof.NeData
import PyProof.Rows.SortShellAny
import HandS.More
import HandS.TupAny
import HandS.RaiseMore
import KE.KDictLaws
import PyProof.Rows.SetObj
import PyProof.Rows.SetFrom
import HandS.Set
import HandS.SetKeys
import PySem.Challenge.RW_treeturns_k10_scripts_step_by_step
set_option Elab.async false
set_option linter.all false
set_option maxRecDepth 100000
set_option maxHeartbeats 4000000
set_option linter.all false
/-! Trees, plainly: growing, hanging, meet and join. -/
namespace TT
inductive Tr where
  | leaf
  | node (l r : Tr)
  deriving DecidableEq
namespace Tr
def size : Tr → Nat
  | leaf => 0
  | node l r => l.size + r.size + 1
/-- the text's length -/
def len : Tr → Nat
  | leaf => 1
  | node l r => l.len + r.len + 2
/-- the text -/
def cs : Tr → List Nat
  | leaf => [46]
  | node l r => 40 :: (l.cs ++ (r.cs ++ [41]))
theorem cs_length : ∀ t : Tr, t.cs.length = t.len
  | leaf => rfl
  | node l r => by simp [cs, len, cs_length l, cs_length r]; omega
theorem len_size : ∀ t : Tr, t.len = 3 * t.size + 1
  | leaf => rfl
  | node l r => by simp [size, len, len_size l, len_size r]; omega
theorem len_pos (t : Tr) : 0 < t.len := by rw [len_size]; omega
theorem cs_inj' : ∀ (s t : Tr) (a b : List Nat), s.cs ++ a = t.cs ++ b → s = t ∧ a = b
  | leaf, leaf, a, b, h => by simp [cs] at h; exact ⟨rfl, h⟩
  | leaf, node l r, a, b, h => by simp [cs] at h
  | node l r, leaf, a, b, h => by simp [cs] at h
  | node l r, node l' r', a, b, h => by
    simp only [cs, List.cons_append, List.append_assoc, List.cons.injEq, true_and] at h
    obtain ⟨e1, h1⟩ := cs_inj' l l' _ _ h
    obtain ⟨e2, h2⟩ := cs_inj' r r' _ _ h1
    simp at h2
    exact ⟨by rw [e1, e2], h2⟩
theorem cs_inj {s t : Tr} (h : s.cs = t.cs) : s = t := (cs_inj' s t [] [] (by rw [h])).1

/-- number of leaves -/
def lvs : Tr → Nat
  | leaf => 1
  | node l r => l.lvs + r.lvs
theorem lvs_size : ∀ t : Tr, t.lvs = t.size + 1
  | leaf => rfl
  | node l r => by simp [lvs, size, lvs_size l, lvs_size r]; omega

/-- grow the tree by the list, and what is left of it -/
def growR : Tr → List Tr → Tr × List Tr
  | leaf, [] => (leaf, [])
  | leaf, x :: xs => (x, xs)
  | node l r, xs => ((node (l.growR xs).1 (r.growR (l.growR xs).2).1), (r.growR (l.growR xs).2).2)
def grow (t : Tr) (xs : List Tr) : Tr := (t.growR xs).1
/-- the list with which the second tree grows into the first -/
def hang : Tr → Tr → Option (List Tr)
  | s, leaf => some [s]
  | leaf, node _ _ => none
  | node a b, node c d => (hang a c).bind fun x => (hang b d).map fun y => x ++ y
def meet : Tr → Tr → Tr
  | node a b, node c d => node (meet a c) (meet b d)
  | _, _ => leaf
def join : Tr → Tr → Tr
  | leaf, t => t
  | s, leaf => s
  | node a b, node c d => node (join a c) (join b d)

theorem growR_len : ∀ (t : Tr) (xs : List Tr), t.lvs ≤ xs.length → (t.growR xs).2.length + t.lvs = xs.length
  | leaf, [], h => by simp [lvs] at h
  | leaf, x :: xs, h => by simp [growR, lvs]
  | node l r, xs, h => by
    simp only [lvs] at h
    have h1 := growR_len l xs (by omega)
    have h2 := growR_len r (l.growR xs).2 (by omega)
    simp only [growR, lvs]
    omega
theorem hang_len : ∀ (s c : Tr) (xs : List Tr), hang s c = some xs → xs.length = c.lvs
  | s, leaf, xs, h => by simp [hang] at h; subst h; rfl
  | leaf, node _ _, xs, h => by simp [hang] at h
  | node a b, node c d, xs, h => by
    simp only [hang, Option.bind_eq_some_iff, Option.map_eq_some_iff] at h
    obtain ⟨x, hx, y, hy, rfl⟩ := h
    simp [lvs, hang_len a c x hx, hang_len b d y hy]
theorem growR_hang : ∀ (s c : Tr) (xs rest : List Tr), hang s c = some xs → c.growR (xs ++ rest) = (s, rest)
  | s, leaf, xs, rest, h => by simp [hang] at h; subst h; rfl
  | leaf, node _ _, xs, rest, h => by simp [hang] at h
  | node a b, node c d, xs, rest, h => by
    simp only [hang, Option.bind_eq_some_iff, Option.map_eq_some_iff] at h
    obtain ⟨x, hx, y, hy, rfl⟩ := h
    simp only [growR, List.append_assoc, growR_hang a c x _ hx, growR_hang b d y _ hy]
theorem grow_hang {s c : Tr} {xs : List Tr} (h : hang s c = some xs) : c.grow xs = s := by
  have := growR_hang s c xs [] h
  rw [List.append_nil] at this
  unfold grow; rw [this]
/-- hanging what was grown -/
theorem hang_growR : ∀ (c : Tr) (xs : List Tr), c.lvs ≤ xs.length → hang (c.growR xs).1 c = some (xs.take c.lvs) ∧ (c.growR xs).2 = xs.drop c.lvs
  | leaf, [], h => by simp [lvs] at h
  | leaf, x :: xs, h => by simp [growR, hang, lvs]
  | node l r, xs, h => by
    simp only [lvs] at h
    obtain ⟨h1, e1⟩ := hang_growR l xs (by omega)
    have hl : r.lvs ≤ (l.growR xs).2.length := by rw [e1, List.length_drop]; omega
    obtain ⟨h2, e2⟩ := hang_growR r (l.growR xs).2 hl
    refine ⟨?_, ?_⟩
    · simp only [growR, hang, h1, h2, Option.bind_some, Option.map_some, lvs]
      rw [e1, List.take_add]
    · show (r.growR (l.growR xs).2).2 = _
      rw [e2, e1, List.drop_drop]; rfl
theorem hang_grow {c : Tr} {xs : List Tr} (h : xs.length = c.lvs) : hang (c.grow xs) c = some xs := by
  have := (hang_growR c xs (by omega)).1
  unfold grow; rw [this, ← h, List.take_length]

theorem meet_comm : ∀ s t : Tr, meet s t = meet t s
  | leaf, leaf => rfl
  | leaf, node _ _ => rfl
  | node _ _, leaf => rfl
  | node a b, node c d => by simp only [meet, meet_comm a c, meet_comm b d]
theorem join_comm : ∀ s t : Tr, join s t = join t s
  | leaf, leaf => rfl
  | leaf, node _ _ => rfl
  | node _ _, leaf => rfl
  | node a b, node c d => by simp only [join, join_comm a c, join_comm b d]
theorem meet_leaf (t : Tr) : meet t leaf = leaf := by cases t <;> rfl
theorem leaf_meet (t : Tr) : meet leaf t = leaf := rfl
theorem join_leaf (t : Tr) : join t leaf = t := by cases t <;> rfl
theorem leaf_join (t : Tr) : join leaf t = t := rfl
theorem meet_self : ∀ t : Tr, meet t t = t
  | leaf => rfl
  | node a b => by simp only [meet, meet_self a, meet_self b]
theorem join_self : ∀ t : Tr, join t t = t
  | leaf => rfl
  | node a b => by simp only [join, join_self a, join_self b]
theorem meet_assoc : ∀ a b c : Tr, meet (meet a b) c = meet a (meet b c)
  | leaf, _, _ => rfl
  | node _ _, leaf, c => by simp [meet]
  | node _ _, node _ _, leaf => by simp [meet]
  | node a b, node c d, node e f => by simp only [meet, meet_assoc a c e, meet_assoc b d f]
theorem join_assoc : ∀ a b c : Tr, join (join a b) c = join a (join b c)
  | leaf, _, _ => rfl
  | node _ _, leaf, c => by rw [join_leaf, leaf_join]
  | node a b, node c d, leaf => by rw [join_leaf, join_leaf]
  | node a b, node c d, node e f => by simp only [join, join_assoc a c e, join_assoc b d f]
theorem join_meet_self : ∀ a b : Tr, join a (meet a b) = a
  | leaf, _ => rfl
  | node _ _, leaf => rfl
  | node a b, node c d => by simp only [meet, join, join_meet_self a c, join_meet_self b d]
theorem meet_join_self : ∀ a b : Tr, meet a (join a b) = a
  | leaf, _ => rfl
  | node a b, leaf => by rw [join_leaf, meet_self]
  | node a b, node c d => by simp only [meet, join, meet_join_self a c, meet_join_self b d]
theorem join_meet_distrib : ∀ a b c : Tr, join a (meet b c) = meet (join a b) (join a c)
  | leaf, b, c => rfl
  | node a b, leaf, c => by rw [leaf_meet, join_leaf, meet_join_self]
  | node a b, node c d, leaf => by rw [meet_leaf, join_leaf, meet_comm, meet_join_self]
  | node a b, node c d, node e f => by simp only [meet, join, join_meet_distrib a c e, join_meet_distrib b d f]
theorem size_join_meet : ∀ a b : Tr, (join a b).size + (meet a b).size = a.size + b.size
  | leaf, leaf => rfl
  | leaf, node _ _ => by simp [join, meet, size]
  | node _ _, leaf => by simp [join, meet, size]
  | node a b, node c d => by
    have := size_join_meet a c
    have := size_join_meet b d
    simp only [join, meet, size]; omega
theorem size_join_le (a b : Tr) : (join a b).size ≤ a.size + b.size := by have := size_join_meet a b; omega
theorem size_meet_le : ∀ (a b : Tr), (meet a b).size ≤ a.size
  | leaf, _ => Nat.le_refl _
  | node _ _, leaf => Nat.zero_le _
  | node a b, node c d => by
    have := size_meet_le a c
    have := size_meet_le b d
    simp only [meet, size]; omega
/-- the second tree grows into the first exactly if the join is the first, if the meet is the second -/
theorem hang_iff_join : ∀ s c : Tr, (hang s c).isSome = true ↔ join s c = s
  | s, leaf => by simp [hang, join_leaf]
  | leaf, node _ _ => by simp [hang, join]
  | node a b, node c d => by
    have h1 := hang_iff_join a c
    have h2 := hang_iff_join b d
    simp only [hang, join, node.injEq, ← h1, ← h2]
    cases hang a c <;> cases hang b d <;> simp
theorem hang_iff_meet : ∀ s c : Tr, (hang s c).isSome = true ↔ meet s c = c
  | s, leaf => by simp [hang, meet_leaf]
  | leaf, node _ _ => by simp [hang, meet]
  | node a b, node c d => by
    have h1 := hang_iff_meet a c
    have h2 := hang_iff_meet b d
    simp only [hang, meet, node.injEq, ← h1, ← h2]
    cases hang a c <;> cases hang b d <;> simp
theorem hang_meet (a b : Tr) : ∃ xs, hang a (meet a b) = some xs :=
  Option.isSome_iff_exists.mp ((hang_iff_meet _ _).mpr (by rw [← meet_assoc, meet_self]))
theorem hang_meet' (a b : Tr) : ∃ xs, hang b (meet a b) = some xs := by rw [meet_comm]; exact hang_meet b a
theorem hang_join (a b : Tr) : ∃ xs, hang (join a b) a = some xs :=
  Option.isSome_iff_exists.mp ((hang_iff_meet _ _).mpr (by rw [meet_comm, meet_join_self]))
/-- what the program makes of the two lists -/
def pick (x y : Tr) : Tr := if x = leaf then y else x
theorem growR_pick : ∀ (a b : Tr) (xs ys rs : List Tr), hang a (meet a b) = some xs → hang b (meet a b) = some ys →
    (meet a b).growR (List.zipWith pick xs ys ++ rs) = (join a b, rs)
  | leaf, b, xs, ys, rs, h1, h2 => by
    simp [meet, hang] at h1 h2; subst h1; subst h2
    simp [meet, growR, join, pick]
  | node a b, leaf, xs, ys, rs, h1, h2 => by
    simp [meet, hang] at h1 h2; subst h1; subst h2
    simp [meet, growR, join, pick]
  | node a b, node c d, xs, ys, rs, h1, h2 => by
    simp only [meet, hang, Option.bind_eq_some_iff, Option.map_eq_some_iff] at h1 h2
    obtain ⟨x1, hx1, x2, hx2, rfl⟩ := h1
    obtain ⟨y1, hy1, y2, hy2, rfl⟩ := h2
    have e : x1.length = y1.length := by rw [hang_len _ _ _ hx1, hang_len _ _ _ hy1]
    rw [List.zipWith_append e]
    simp only [meet, growR, join, List.append_assoc, growR_pick a c x1 y1 _ hx1 hy1, growR_pick b d x2 y2 _ hx2 hy2]
theorem grow_pick {a b : Tr} {xs ys : List Tr} (h1 : hang a (meet a b) = some xs) (h2 : hang b (meet a b) = some ys) : (meet a b).grow (List.zipWith pick xs ys) = join a b := by
  have := growR_pick a b xs ys [] h1 h2
  rw [List.append_nil] at this
  unfold grow; rw [this]

/-! ### a part at an offset of the text -/
inductive Sub (T : Tr) : Nat → Tr → Prop where
  | root : Sub T 0 T
  | left {o : Nat} {l r : Tr} : Sub T o (node l r) → Sub T (o + 1) l
  | right {o : Nat} {l r : Tr} : Sub T o (node l r) → Sub T (o + 1 + l.len) r
theorem Sub.cut {T s : Tr} {o : Nat} (h : Sub T o s) : ∃ A B, T.cs = A ++ (s.cs ++ B) ∧ A.length = o := by
  induction h with
  | root => exact ⟨[], [], by simp, rfl⟩
  | @left o l r _ ih =>
    obtain ⟨A, B, e, h⟩ := ih
    exact ⟨A ++ [40], r.cs ++ [41] ++ B, by rw [e]; simp [cs], by simp [h]⟩
  | @right o l r _ ih =>
    obtain ⟨A, B, e, h⟩ := ih
    exact ⟨A ++ [40] ++ l.cs, [41] ++ B, by rw [e]; simp [cs], by simp [h, cs_length]; omega⟩
/-- where each part ends, by its first sign's index (0 at closing signs) -/
def ends : Nat → Tr → List Nat
  | o, leaf => [o + 1]
  | o, node l r => (o + (node l r).len) :: (ends (o + 1) l ++ (ends (o + 1 + l.len) r ++ [0]))
theorem ends_length : ∀ (o : Nat) (t : Tr), (ends o t).length = t.len
  | o, leaf => rfl
  | o, node l r => by simp [ends, len, ends_length _ l, ends_length _ r]; omega
theorem Sub.ends_at {T s : Tr} {o : Nat} (h : Sub T o s) : ∃ A B, ends 0 T = A ++ (ends o s ++ B) ∧ A.length = o := by
  induction h with
  | root => exact ⟨[], [], by simp, rfl⟩
  | @left o l r _ ih =>
    obtain ⟨A, B, e, h⟩ := ih
    exact ⟨A ++ [o + (node l r).len], ends (o + 1 + l.len) r ++ [0] ++ B, by rw [e]; simp [ends], by simp [h]⟩
  | @right o l r _ ih =>
    obtain ⟨A, B, e, h⟩ := ih
    exact ⟨A ++ [o + (node l r).len] ++ ends (o + 1) l, [0] ++ B, by rw [e]; simp [ends], by simp [h, ends_length]; omega⟩
theorem ends_head (o : Nat) (s : Tr) : ∃ B, ends o s = (o + s.len) :: B := by
  cases s with
  | leaf => exact ⟨[], rfl⟩
  | node l r => exact ⟨_, rfl⟩
theorem Sub.end_get {T s : Tr} {o : Nat} (h : Sub T o s) : (ends 0 T)[o]? = some (o + s.len) := by
  obtain ⟨A, B, e, hl⟩ := h.ends_at
  obtain ⟨C, e2⟩ := ends_head o s
  rw [e, e2, ← hl, List.getElem?_append_right (Nat.le_refl _), Nat.sub_self]
  simp
theorem Sub.le {T s : Tr} {o : Nat} (h : Sub T o s) : o + s.len ≤ T.len := by
  obtain ⟨A, B, e, hl⟩ := h.cut
  have := congrArg List.length e
  simp [cs_length, hl] at this
  omega
theorem Sub.size_le {T s : Tr} {o : Nat} (h : Sub T o s) : s.size ≤ T.size := by
  have h1 := h.le
  rw [len_size, len_size] at h1
  omega
end Tr
end TT

set_option linter.all false
/-! TW: addresses of leaves and nodes, nodes off the right arm. -/
namespace TT
/-- how many signs c stand at the end -/
def trail (c : Nat) (a : List Nat) : Nat := (a.reverse.takeWhile (· == c)).length
def topOf (c : Nat) (a : List Nat) : List Nat := a.take (a.length - trail c a)
theorem trail_same (c : Nat) (a : List Nat) : trail c (a ++ [c]) = trail c a + 1 := by
  unfold trail
  rw [List.reverse_append]
  simp
theorem trail_other {c d : Nat} (h : d ≠ c) (a : List Nat) : trail c (a ++ [d]) = 0 := by
  unfold trail
  rw [List.reverse_append]
  simp [h]
theorem trail_le (c : Nat) (a : List Nat) : trail c a ≤ a.length := by
  unfold trail
  have := (List.takeWhile_sublist (p := (· == c)) (l := a.reverse)).length_le
  simpa using this
theorem topOf_same (c : Nat) (a : List Nat) : topOf c (a ++ [c]) = topOf c a := by
  unfold topOf
  have := trail_le c a
  rw [trail_same, List.length_append, List.length_singleton, Nat.add_sub_add_right, List.take_append_of_le_length (by omega)]
theorem topOf_other {c d : Nat} (h : d ≠ c) (a : List Nat) : topOf c (a ++ [d]) = a ++ [d] := by
  unfold topOf
  rw [trail_other h, Nat.sub_zero, List.take_length]
theorem topOf_none {c : Nat} {a : List Nat} (h : trail c a = 0) : topOf c a = a := by
  unfold topOf
  rw [h, Nat.sub_zero, List.take_length]
theorem takeWhile_all {p : Nat → Bool} : ∀ {l : List Nat} {x : Nat}, x ∈ l.takeWhile p → p x = true
  | [], x, h => by cases h
  | y :: ys, x, h => by
    rw [List.takeWhile_cons] at h
    split at h
    · rename_i hy
      rcases List.mem_cons.mp h with rfl | h
      · exact hy
      · exact takeWhile_all h
    · cases h
theorem mem_of_trail {c : Nat} {a : List Nat} (h : 0 < trail c a) : c ∈ a := by
  unfold trail at h
  cases e : a.reverse.takeWhile (· == c) with
  | nil => rw [e] at h; exact absurd h (by decide)
  | cons x xs =>
    have m : x ∈ a.reverse.takeWhile (· == c) := by rw [e]; exact List.mem_cons_self ..
    have h1 := takeWhile_all m
    have h2 := (List.takeWhile_sublist _).subset m
    have : x = c := by simpa using h1
    rw [← this]
    simpa using h2
theorem mem_topOf {c : Nat} {a : List Nat} (h : c ∈ topOf c a) : c ∈ a := List.mem_of_mem_take h
/-- the nodes off the arm whose leftmost leaf is at a -/
def bg (a : List Nat) : Nat := if 0 < trail 108 a ∧ 108 ∉ topOf 108 a then trail 108 a - 1 else trail 108 a
theorem bg_nil : bg [] = 0 := by decide
theorem bg_r (a : List Nat) : bg (a ++ [114]) = 0 := by
  unfold bg
  rw [trail_other (by decide)]
  simp
theorem bg_l (a : List Nat) : bg (a ++ [108]) = bg a + (if 108 ∈ a then 1 else 0) := by
  unfold bg
  rw [trail_same, topOf_same]
  by_cases h0 : trail 108 a = 0
  · rw [h0, topOf_none h0]
    by_cases h : 108 ∈ a
    · simp [h]
    · simp [h]
  · have hm : 108 ∈ a := mem_of_trail (by omega)
    rw [if_pos hm]
    by_cases h : 108 ∈ topOf 108 a
    · rw [if_neg (by simp [h]), if_neg (by simp [h])]
    · rw [if_pos ⟨by omega, h⟩, if_pos ⟨by omega, h⟩]
      omega
namespace Tr
/-- each part's address and first sign, in the text's order -/
def adrs : Tr → List Nat → List (List Nat × Nat)
  | leaf, a => [(a, 46)]
  | node l r, a => (a, 40) :: (adrs l (a ++ [108]) ++ adrs r (a ++ [114]))
def lvA : Tr → List Nat → List (List Nat)
  | leaf, a => [a]
  | node l r, a => lvA l (a ++ [108]) ++ lvA r (a ++ [114])
def ndA : Tr → List Nat → List (List Nat)
  | leaf, _ => []
  | node l r, a => ndA l (a ++ [108]) ++ [a] ++ ndA r (a ++ [114])
/-- the text without closing signs -/
def ps : Tr → List Nat
  | leaf => [46]
  | node l r => 40 :: (ps l ++ ps r)
theorem ps_filter : ∀ t : Tr, t.cs.filter (· != 41) = t.ps
  | leaf => by decide
  | node l r => by
    simp only [cs, ps, List.filter_cons, List.filter_append, ps_filter l, ps_filter r]
    simp
theorem adrs_length : ∀ (t : Tr) (a : List Nat), (t.adrs a).length = t.ps.length
  | leaf, a => rfl
  | node l r, a => by simp [adrs, ps, adrs_length l, adrs_length r]
theorem ps_length : ∀ t : Tr, t.ps.length = 2 * t.size + 1
  | leaf => rfl
  | node l r => by simp [ps, size, ps_length l, ps_length r]; omega
theorem lvA_adrs : ∀ (t : Tr) (a : List Nat), ((t.adrs a).filter (fun x => x.2 == 46)).map (·.1) = t.lvA a
  | leaf, a => rfl
  | node l r, a => by
    simp only [adrs, lvA, List.filter_cons, List.filter_append, List.map_append, lvA_adrs l, lvA_adrs r]
    simp [lvA_adrs l, lvA_adrs r]
theorem lvA_length : ∀ (t : Tr) (a : List Nat), (t.lvA a).length = t.lvs
  | leaf, a => rfl
  | node l r, a => by simp [lvA, lvs, lvA_length l, lvA_length r]
theorem ndA_length : ∀ (t : Tr) (a : List Nat), (t.ndA a).length = t.size
  | leaf, a => rfl
  | node l r, a => by simp [ndA, size, ndA_length l, ndA_length r]; omega
theorem adrs_len : ∀ (t : Tr) (a : List Nat), ∀ x ∈ t.adrs a, x.1.length ≤ a.length + t.size
  | leaf, a, x, h => by rw [List.mem_singleton.mp h]; exact Nat.le_add_right _ _
  | node l r, a, x, h => by
    simp only [adrs, List.mem_cons, List.mem_append] at h
    simp only [size]
    rcases h with rfl | h | h
    · simp
    · have := adrs_len l _ x h
      simp at this; omega
    · have := adrs_len r _ x h
      simp at this; omega
theorem lvA_len : ∀ (t : Tr) (a : List Nat), ∀ x ∈ t.lvA a, x.length ≤ a.length + t.size
  | leaf, a, x, h => by rw [List.mem_singleton.mp h]; exact Nat.le_add_right _ _
  | node l r, a, x, h => by
    simp only [lvA, List.mem_append] at h
    simp only [size]
    rcases h with h | h
    · have := lvA_len l _ x h
      simp at this; omega
    · have := lvA_len r _ x h
      simp at this; omega
theorem ndA_len : ∀ (t : Tr) (a : List Nat), ∀ x ∈ t.ndA a, x.length ≤ a.length + t.size
  | leaf, a, x, h => by cases h
  | node l r, a, x, h => by
    simp only [ndA, List.mem_append, List.mem_singleton] at h
    simp only [size]
    rcases h with (h | h) | h
    · have := ndA_len l _ x h
      simp at this; omega
    · rw [h]; omega
    · have := ndA_len r _ x h
      simp at this; omega
/-- the nodes of the right arm -/
def arm : Tr → Nat
  | leaf => 0
  | node _ r => arm r + 1
def off : Tr → Nat
  | leaf => 0
  | node l r => l.size + off r
theorem off_arm : ∀ t : Tr, t.off + t.arm = t.size
  | leaf => rfl
  | node l r => by simp only [off, arm, size]; have := off_arm r; omega
theorem trail_cs : ∀ t : Tr, trail 41 t.cs = t.arm
  | leaf => by decide
  | node l r => by
    have e : (node l r).cs = (40 :: (l.cs ++ r.cs)) ++ [41] := by simp [cs]
    rw [e, trail_same]
    show _ = arm r + 1
    refine congrArg (· + 1) ?_
    rw [← trail_cs r]
    unfold trail
    have : ∃ x xs, r.cs.reverse = xs ++ x :: [] ∧ x ≠ 41 := by
      cases r with
      | leaf => exact ⟨46, [], rfl, by decide⟩
      | node p q => exact ⟨40, (p.cs ++ (q.cs ++ [41])).reverse, by simp [cs], by decide⟩
    obtain ⟨x, xs, h1, h2⟩ := this
    have h3 : (40 :: (l.cs ++ r.cs)).reverse = r.cs.reverse ++ (l.cs.reverse ++ [40]) := by simp
    rw [h3, h1, List.append_assoc]
    have : ∀ (ys zs : List Nat), ((ys ++ x :: zs).takeWhile (· == 41)) = ((ys ++ [x]).takeWhile (· == 41)) := by
      intro ys
      induction ys with
      | nil => intro zs; simp [h2]
      | cons y ys ih =>
        intro zs
        simp only [List.cons_append, List.takeWhile_cons]
        rw [ih zs]
    exact congrArg List.length (this xs _)
/-! ### counting at the leaves -/
def addH (k : Nat) : List Nat → List Nat
  | [] => []
  | x :: xs => (k + x) :: xs
theorem addH_zero : ∀ xs : List Nat, addH 0 xs = xs
  | [] => rfl
  | x :: xs => by simp [addH]
theorem addH_add (i j : Nat) : ∀ xs : List Nat, addH i (addH j xs) = addH (i + j) xs
  | [] => rfl
  | x :: xs => by simp [addH, Nat.add_assoc]
theorem addH_append (k : Nat) : ∀ {xs ys : List Nat}, xs ≠ [] → addH k (xs ++ ys) = addH k xs ++ ys
  | [], _, h => absurd rfl h
  | x :: xs, ys, _ => rfl
theorem addH_length (k : Nat) : ∀ xs : List Nat, (addH k xs).length = xs.length
  | [] => rfl
  | x :: xs => rfl
def Dn : Tr → List Nat → List Nat
  | leaf, _ => [0]
  | node l r, a => addH (if 108 ∈ a then 1 else 0) (Dn l (a ++ [108])) ++ Dn r (a ++ [114])
theorem Dn_length : ∀ (t : Tr) (a : List Nat), (Dn t a).length = t.lvs
  | leaf, a => rfl
  | node l r, a => by simp [Dn, lvs, addH_length, Dn_length l, Dn_length r]
theorem lvs_pos (t : Tr) : 0 < t.lvs := by rw [lvs_size]; omega
theorem Dn_ne (t : Tr) (a : List Nat) : Dn t a ≠ [] := fun z => by
  have h1 := Dn_length t a
  have h2 := lvs_pos t
  rw [z] at h1
  simp at h1
  omega
theorem addH_ne (k : Nat) {xs : List Nat} (h : xs ≠ []) : addH k xs ≠ [] := by
  cases xs with
  | nil => exact absurd rfl h
  | cons x xs => simp [addH]
theorem bg_map : ∀ (t : Tr) (a : List Nat), (t.lvA a).map bg = addH (bg a) (Dn t a)
  | leaf, a => rfl
  | node l r, a => by
    simp only [lvA, Dn, List.map_append]
    rw [bg_map l, bg_map r, bg_l, bg_r, addH_zero, addH_append _ (addH_ne _ (Dn_ne l _)), addH_add]
theorem bg_all (t : Tr) : (t.lvA []).map bg = Dn t [] := by rw [bg_map, bg_nil, addH_zero]
theorem addH_sum (k : Nat) {xs : List Nat} (h : xs ≠ []) : (addH k xs).sum = k + xs.sum := by
  cases xs with
  | nil => exact absurd rfl h
  | cons x xs => simp [addH]; omega
theorem Dn_sum : ∀ (t : Tr) (a : List Nat), (Dn t a).sum = if 108 ∈ a then t.size else t.off
  | leaf, a => by simp [Dn, size, off]
  | node l r, a => by
    simp only [Dn, List.sum_append, addH_sum _ (Dn_ne l _), Dn_sum l, Dn_sum r, size, off]
    by_cases h : 108 ∈ a
    · simp [h]; omega
    · simp [h]
theorem bg_sum (t : Tr) : ((t.lvA []).map bg).sum = t.off := by
  rw [bg_all, Dn_sum]
  simp
/-! ### counting by the nodes -/
def fi (A : List (List Nat)) (n : List Nat) : Nat := A.findIdx fun s => n.isPrefixOf s
def bump (f : List Nat) (i : Nat) : List Nat := f.set i (f.getD i 0 + 1)
def bumps (A ns : List (List Nat)) (f : List Nat) : List Nat := ns.foldl (fun f n => if 108 ∈ n then bump f (fi A n) else f) f
theorem pre_self (a m : List Nat) : a.isPrefixOf (a ++ m) = true := List.isPrefixOf_iff_prefix.mpr (List.prefix_append a m)
theorem lvA_pre : ∀ (t : Tr) (a : List Nat), ∀ s ∈ t.lvA a, a <+: s
  | leaf, a, s, h => by rw [List.mem_singleton.mp h]; exact List.prefix_refl _
  | node l r, a, s, h => by
    rcases List.mem_append.mp h with h | h
    · exact (List.prefix_append a [108]).trans (lvA_pre l _ s h)
    · exact (List.prefix_append a [114]).trans (lvA_pre r _ s h)
theorem ndA_pre : ∀ (t : Tr) (a : List Nat), ∀ n ∈ t.ndA a, a <+: n
  | leaf, a, n, h => by cases h
  | node l r, a, n, h => by
    simp only [ndA, List.mem_append, List.mem_singleton] at h
    rcases h with (h | h) | h
    · exact (List.prefix_append a [108]).trans (ndA_pre l _ n h)
    · rw [h]; exact List.prefix_refl _
    · exact (List.prefix_append a [114]).trans (ndA_pre r _ n h)
theorem ndA_leaf : ∀ (t : Tr) (a : List Nat), ∀ n ∈ t.ndA a, ∃ s ∈ t.lvA a, n <+: s
  | leaf, a, n, h => by cases h
  | node l r, a, n, h => by
    simp only [ndA, List.mem_append, List.mem_singleton] at h
    rcases h with (h | h) | h
    · obtain ⟨s, hs, hp⟩ := ndA_leaf l _ n h
      exact ⟨s, List.mem_append_left _ hs, hp⟩
    · obtain ⟨s, hs⟩ : ∃ s, s ∈ l.lvA (a ++ [108]) := List.exists_mem_of_length_pos (by rw [lvA_length]; exact lvs_pos l)
      exact ⟨s, List.mem_append_left _ hs, by rw [h]; exact (List.prefix_append a [108]).trans (lvA_pre l _ s hs)⟩
    · obtain ⟨s, hs, hp⟩ := ndA_leaf r _ n h
      exact ⟨s, List.mem_append_right _ hs, hp⟩
theorem fi_lt {A : List (List Nat)} {n s : List Nat} (hs : s ∈ A) (h : n <+: s) : fi A n < A.length := List.findIdx_lt_length_of_exists ⟨s, hs, List.isPrefixOf_iff_prefix.mpr h⟩
theorem fi_left {A B : List (List Nat)} {n s : List Nat} (hs : s ∈ A) (h : n <+: s) : fi (A ++ B) n = fi A n := by
  have := fi_lt hs h
  unfold fi at this ⊢
  rw [List.findIdx_append, if_pos this]
theorem fi_right {A B : List (List Nat)} {n : List Nat} (h : ∀ s ∈ A, ¬ n <+: s) : fi (A ++ B) n = fi B n + A.length := by
  have e : A.findIdx (fun s => n.isPrefixOf s) = A.length := List.findIdx_eq_length.mpr fun s hs => by
    cases hz : n.isPrefixOf s with
    | false => rfl
    | true => exact absurd (List.isPrefixOf_iff_prefix.mp hz) (h s hs)
  unfold fi
  rw [List.findIdx_append, if_neg (by rw [e]; omega)]
theorem bump_left {x y : List Nat} {i : Nat} (h : i < x.length) : bump (x ++ y) i = bump x i ++ y := by
  unfold bump
  rw [List.set_append_left _ _ h, List.getD_eq_getElem?_getD, List.getD_eq_getElem?_getD, List.getElem?_append_left h]
theorem bump_right (x y : List Nat) (i : Nat) : bump (x ++ y) (i + x.length) = x ++ bump y i := by
  unfold bump
  rw [List.set_append_right _ _ (by omega), List.getD_eq_getElem?_getD, List.getD_eq_getElem?_getD, List.getElem?_append_right (by omega), Nat.add_sub_cancel]
theorem bump_length (x : List Nat) (i : Nat) : (bump x i).length = x.length := List.length_set
theorem bumps_length (A : List (List Nat)) : ∀ (ns : List (List Nat)) (f : List Nat), (bumps A ns f).length = f.length
  | [], f => rfl
  | n :: ns, f => by
    show (bumps A ns (if 108 ∈ n then bump f (fi A n) else f)).length = _
    rw [bumps_length A ns]
    split
    · exact bump_length _ _
    · rfl
theorem bumps_left {A B : List (List Nat)} : ∀ {ns : List (List Nat)} {x y : List Nat}, x.length = A.length → (∀ n ∈ ns, ∃ s ∈ A, n <+: s) → bumps (A ++ B) ns (x ++ y) = bumps A ns x ++ y
  | [], x, y, _, _ => rfl
  | n :: ns, x, y, hl, h => by
    obtain ⟨s, hs, hp⟩ := h n (List.mem_cons_self ..)
    show bumps (A ++ B) ns (if 108 ∈ n then bump (x ++ y) (fi (A ++ B) n) else x ++ y) = bumps A ns (if 108 ∈ n then bump x (fi A n) else x) ++ y
    have hl' := fi_lt hs hp
    rw [fi_left hs hp, bump_left (by rw [hl]; exact hl')]
    split
    · exact bumps_left (by rw [bump_length, hl]) fun m hm => h m (List.mem_cons_of_mem _ hm)
    · exact bumps_left hl fun m hm => h m (List.mem_cons_of_mem _ hm)
theorem bumps_right {A B : List (List Nat)} : ∀ {ns : List (List Nat)} {x y : List Nat}, x.length = A.length → (∀ n ∈ ns, ∀ s ∈ A, ¬ n <+: s) → bumps (A ++ B) ns (x ++ y) = x ++ bumps B ns y
  | [], x, y, _, _ => rfl
  | n :: ns, x, y, hl, h => by
    have hn := h n (List.mem_cons_self ..)
    show bumps (A ++ B) ns (if 108 ∈ n then bump (x ++ y) (fi (A ++ B) n) else x ++ y) = x ++ bumps B ns (if 108 ∈ n then bump y (fi B n) else y)
    rw [fi_right hn, ← hl, bump_right]
    split
    · exact bumps_right hl fun m hm => h m (List.mem_cons_of_mem _ hm)
    · exact bumps_right hl fun m hm => h m (List.mem_cons_of_mem _ hm)
theorem bumps_append (A : List (List Nat)) (ns ms : List (List Nat)) (f : List Nat) : bumps A (ns ++ ms) f = bumps A ms (bumps A ns f) := List.foldl_append
theorem bump_zero : ∀ {x : List Nat}, x ≠ [] → bump x 0 = addH 1 x
  | [], h => absurd rfl h
  | y :: ys, _ => by
    show (y + 1) :: ys = (1 + y) :: ys
    rw [Nat.add_comm]
theorem parted {a n s : List Nat} (h1 : a ++ [114] <+: n) (h2 : a ++ [108] <+: s) : ¬ n <+: s := fun h => by
  obtain ⟨m, e1⟩ := h1.trans h
  obtain ⟨k, e2⟩ := h2
  rw [← e2, List.append_assoc, List.append_assoc] at e1
  have := List.append_cancel_left e1
  simp at this
theorem bumps_Dn : ∀ (t : Tr) (a : List Nat), bumps (t.lvA a) (t.ndA a) (List.replicate t.lvs 0) = Dn t a
  | leaf, a => rfl
  | node l r, a => by
    simp only [lvA, ndA, lvs, Dn]
    rw [← List.replicate_append_replicate, bumps_append, bumps_append, bumps_left (by rw [lvA_length, List.length_replicate]) (ndA_leaf l _), bumps_Dn l]
    obtain ⟨s, hs⟩ : ∃ s, s ∈ l.lvA (a ++ [108]) := List.exists_mem_of_length_pos (by rw [lvA_length]; exact lvs_pos l)
    have f0 : fi (l.lvA (a ++ [108]) ++ r.lvA (a ++ [114])) a = 0 := by
      cases e : l.lvA (a ++ [108]) with
      | nil => rw [e] at hs; cases hs
      | cons z zs =>
        have hz := lvA_pre l (a ++ [108]) z (by rw [e]; exact List.mem_cons_self ..)
        have : a.isPrefixOf z = true := List.isPrefixOf_iff_prefix.mpr ((List.prefix_append a [108]).trans hz)
        unfold fi
        rw [List.cons_append, List.findIdx_cons, this]
        rfl
    have e1 : bumps (l.lvA (a ++ [108]) ++ r.lvA (a ++ [114])) [a] (Dn l (a ++ [108]) ++ List.replicate r.lvs 0) = addH (if 108 ∈ a then 1 else 0) (Dn l (a ++ [108])) ++ List.replicate r.lvs 0 := by
      show (if 108 ∈ a then bump (Dn l (a ++ [108]) ++ List.replicate r.lvs 0) (fi _ a) else _) = _
      rw [f0]
      split
      · rw [bump_zero (by simp [Dn_ne]), addH_append _ (Dn_ne l _)]
      · rw [addH_zero]
    rw [e1, bumps_right (by rw [addH_length, Dn_length, lvA_length]) (fun n hn s hs => parted (ndA_pre r _ n hn) (lvA_pre l _ s hs)), bumps_Dn r]
end Tr
end TT
namespace TT
namespace Tr
def cL : Nat → Tr
  | 0 => leaf
  | n + 1 => node (cL n) leaf
def cR : Nat → Tr
  | 0 => leaf
  | n + 1 => node leaf (cR n)
theorem cL_size : ∀ n, (cL n).size = n
  | 0 => rfl
  | n + 1 => by simp [cL, size, cL_size n]
theorem cR_size : ∀ n, (cR n).size = n
  | 0 => rfl
  | n + 1 => by simp [cR, size, cR_size n]
theorem cL_Dn : ∀ (n : Nat) (a : List Nat), 108 ∈ a → Dn (cL n) a = n :: List.replicate n 0
  | 0, a, _ => rfl
  | n + 1, a, h => by
    show addH (if 108 ∈ a then 1 else 0) (Dn (cL n) (a ++ [108])) ++ [0] = _
    rw [if_pos h, cL_Dn n _ (by simp)]
    show (1 + n) :: (List.replicate n 0 ++ [0]) = _
    rw [Nat.add_comm 1 n]
    refine congrArg _ ?_
    exact List.replicate_succ'.symm
theorem cL_top (n : Nat) : Dn (cL (n + 1)) [] = n :: List.replicate (n + 1) 0 := by
  show addH (if 108 ∈ [] then 1 else 0) (Dn (cL n) ([] ++ [108])) ++ [0] = _
  rw [if_neg (by simp), addH_zero, cL_Dn n _ (by simp)]
  exact congrArg (List.cons n) List.replicate_succ'.symm
theorem cR_Dn : ∀ (n : Nat) (a : List Nat), 108 ∉ a → Dn (cR n) a = List.replicate (n + 1) 0
  | 0, a, _ => rfl
  | n + 1, a, h => by
    show addH (if 108 ∈ a then 1 else 0) [0] ++ Dn (cR n) (a ++ [114]) = _
    rw [if_neg h, addH_zero, cR_Dn n _ (by simp [h])]
    rfl
theorem cL_off (n : Nat) : (cL (n + 1)).off = n := by
  show (cL n).size + 0 = n
  rw [cL_size]
  rfl
theorem cR_off : ∀ n, (cR n).off = 0
  | 0 => rfl
  | n + 1 => by
    show leaf.size + (cR n).off = 0
    rw [cR_off n]
    rfl
end Tr
end TT

set_option Elab.async false
set_option linter.all false
set_option maxRecDepth 100000
set_option maxHeartbeats 4000000
/-! further rules over the hand layer -/
namespace TT
open PySem PySem.Spec PyProof.Rows L2

/-! ### texts as lists of signs -/
abbrev S (l : List Nat) : Str := ⟨l.toArray⟩
theorem S_app (a b : List Nat) : S a ++ S b = S (a ++ b) := by
  show Str.append (S a) (S b) = _
  unfold Str.append
  simp
theorem S_len (a : List Nat) : (S a).length = a.length := by simp [Str.length]
theorem S_inj {a b : List Nat} (h : S a = S b) : a = b := by
  have := congrArg (fun x => x.cps.toList) h
  simpa using this
theorem S_iff {a b : List Nat} : S a = S b ↔ a = b := ⟨S_inj, fun h => by rw [h]⟩
theorem S_of (x : Str) : x = S x.cps.toList := by cases x; simp
theorem lit_open : ("(" : Str) = S [40] := by decide +kernel
theorem lit_close : (")" : Str) = S [41] := by decide +kernel
theorem lit_dot : ("." : Str) = S [46] := by decide +kernel
theorem lit_empty : ("" : Str) = S [] := by decide +kernel
theorem lit_l : ("l" : Str) = S [108] := by decide +kernel
theorem lit_r : ("r" : Str) = S [114] := by decide +kernel
theorem lit_tree : ("tree" : Str) = S [116, 114, 101, 101] := by decide +kernel
theorem lit_end : ("end" : Str) = S [101, 110, 100] := by decide +kernel

section
variable {X : Cx}
theorem sg_eq {d : Nat} {x : Str} (hx : x = S [d]) : ({ cps := #[d] } : Str) = x := hx.symm
theorem sg_ne {c d : Nat} {x : Str} (hx : x = S [d]) (h : c ≠ d) : ¬ ({ cps := #[c] } : Str) = x := fun e => h (by
  have := S_inj (a := [c]) (b := [d]) (e.trans hx)
  simpa using this)
theorem ifdT {p A B : Prop} [Decidable p] (h : p) (a : A) : if decide p = true then A else B := by rw [if_pos (decide_eq_true h)]; exact a
theorem ifdF {p A B : Prop} [Decidable p] (h : ¬ p) (b : B) : if decide p = true then A else B := by rw [if_neg (by rw [decide_eq_true_eq]; exact h)]; exact b
theorem ifnT {p A B : Prop} [Decidable p] (h : ¬ p) (a : A) : if (!decide p) = true then A else B := by rw [if_pos (by rw [decide_eq_false h]; rfl)]; exact a
theorem ifnF {p A B : Prop} [Decidable p] (h : p) (b : B) : if (!decide p) = true then A else B := by rw [if_neg (by rw [decide_eq_true h]; exact Bool.false_ne_true)]; exact b
theorem ixN_nat {n j : Nat} (h : j < n) : ixN n (j : Int) = some j := by
  unfold ixN
  rw [if_pos (by omega), if_pos (by omega)]; simp
/-- readings told with K -/
def tTruK (K : PySem.W.Frag) (ta : TE) : TT := fun σ H Q => ta σ H fun x H' => ∃ k, TruV K x H' k ∧ Q k H'
def rLenSK (K : PySem.W.Frag) : List V → Hp → VK → Prop := fun xs H Q => ∃ p ys, xs = [.ref p] ∧ (SqL K H p ys ∨ SqT K H p ys) ∧ Q (.int ys.length) H
theorem cxOf_K {CX : CXT} {P : Program} {w : World} {K : PySem.W.Frag} {mg : Str → Option Value} {base : Heap} {N : List Str} {qual : Str} {scope : Scope} {f : Addr} {cd : Value} {A : Around} {outer : List Env} {s : Shared} {H : Hp} {E : XK} :
    (cxOf CX P w K mg base N qual scope f cd A outer s H E).K = K := rfl
/-- a text, a list: of their own kind -/
theorem tyV_lst {K : PySem.W.Frag} {H : Hp} {a : Addr} {xs : List V} (h : H a = some (.lst xs)) : tyV K "list" (.ref a) H := .inl ⟨rfl, _, SqL.of h⟩
theorem _root_.L2.Same.new {H H' : Hp} {p : Addr} (e : Same H H') (h : H p = none) (o : HO) : Same H (upd H' p o) := fun b u q => by
  rw [upd_ne (ne_of_none q h)]; exact e b u q
theorem _root_.L2.Same.get {H H' : Hp} {a : Addr} {o : HO} (e : Same H H') (h : H a = some o) : H' a = some o := e a o h
theorem small5 {n : Nat} (h : n ≤ 16000000) : n ≤ sizeLine := by rw [sizeLine_eq]; omega
theorem small5' {n : Nat} (h : n ≤ 16000000) : n < sizeLine := by rw [sizeLine_eq]; omega
/-! ### powers -/
def CPowB (i j : Int) : Prop := 0 ≤ j ∧ (Builtin.Int.intBits i : Int) * j ≤ 2 ^ 27
theorem op_powB : OpR X (binaryOp .Pow) (rI CPowB fun i j => .int (i ^ j.toNat)) := opI fun _ _ _ _ _ _ _ hc q => pow_int hc.1 hc.2 q

theorem call_intI : CallR X (.type "int") (fun xs H Q => ∃ i, xs = [.int i] ∧ Q (.int i) H) := fun pins s σ H xs us Q I r h => call_int1 pins s σ H xs us Q I r (.inl h)
theorem call_intB : CallR X (.type "int") (fun xs H Q => ∃ k, xs = [.bl k] ∧ Q (.int (if k then 1 else 0)) H) := fun pins s σ H xs us Q I r h => call_int1 pins s σ H xs us Q I r (.inr h)
theorem cmulR {i j : Int} (h : -(2 ^ 64) < j ∧ j < 2 ^ 64) : CMul i j := .inr h
theorem cmulL {i j : Int} (h : -(2 ^ 64) < i ∧ i < 2 ^ 64) : CMul i j := .inl h
theorem cmod (x : Int) {m : Int} (h : 0 < m) (h2 : m < 2 ^ 64) : -(2 ^ 64) < x % m ∧ x % m < 2 ^ 64 := by
  have h3 := Int.emod_nonneg x (show m ≠ 0 by omega)
  have h4 := Int.emod_lt_of_pos x h
  omega
theorem cdivW {i b : Int} (h : 1 ≤ b) (h2 : b < 1000000000000000) : CDivW i b := by
  refine ⟨by omega, ?_⟩
  have : b.natAbs.log2 < 50 := (Nat.log2_lt (by omega)).mpr (by omega)
  omega
/-! ### enumerate of a text -/
def Ites (x : Str) : It :=
  ⟨fun i _ => i < x.cps.size, fun i H v H' => ∃ T c, v = .ref T ∧ H T = none ∧ x.cps[i]? = some c ∧ H' = upd H T (.tup [.int (i : Nat), .str ⟨#[c]⟩]), fun i _ => x.cps.size ≤ i⟩
theorem turn_enumS {P : Program} {w : World} {K : PySem.W.Frag} {elts : List Expr} {kk : Nat} {tpos : Pos} (e it : Addr) (x : Str) (t : Tok) (ty : String) (hty : ty = "str_ascii_iterator" ∨ ty = "str_iterator") :
    Turn P w K (.Tuple elts kk tpos) (Ites x) [e, it] e (fun i h => (∃ old, IsEnum h e it ((i : Nat) : Int) old) ∧ h.IsStrIter it ty x t i ∧ e ≠ it) where
  mem := by simp
  obj := fun i h st b hb => by
    obtain ⟨⟨old, he⟩, ⟨o, ho, hc, hd⟩, _⟩ := st
    have e' : b = e ∨ b = it := by simpa using hb
    rcases e' with z | z
    · rw [z]; exact ⟨_, he, fun v q => nomatch q⟩
    · rw [z]; exact ⟨o, ho, fun v q => by rw [hd] at q; cases q⟩
  keep := fun i h h' st k => by
    obtain ⟨⟨old, he⟩, ⟨o, ho, r⟩, hne⟩ := st
    exact ⟨⟨old, k e (by simp) _ he⟩, ⟨o, k it (by simp) o ho, r⟩, hne⟩
  item := by
    intro X hP hw hK hc i pins s σ H E I hf st hg
    subst hP hw hK
    obtain ⟨⟨old, he⟩, hit, hne⟩ := st
    have hel : e < s.heap.objs.size := Heap.lt_size he
    have hil : it < s.heap.objs.size := by obtain ⟨_, q, _⟩ := hit; exact Heap.lt_size q
    have D : Draws X.prog X.w X.A.in1 it [it] x.cps.size (fun i v => ∃ c u, x.cps[i]? = some c ∧ v = .str ⟨#[c]⟩ u) (fun i h => h.IsStrIter it ty x t i) := by
      rcases hty with q | q
      · rw [q]; exact Draws.strAscii (A := X.A.in1) (I.ok.hd hc) it x t
      · rw [q]; exact Draws.strWide (A := X.A.in1) (I.ok.hd hc) it x t
    refine wpAny_pyNext_enum_itemD D he hit hg hne (by simpa using hne) fun y h' tk hy ho hit' hT hsz hk => ?_
    obtain ⟨c, u, hcx, rfl⟩ := hy
    refine ⟨_, rfl, wpAny_letOwnedTupleGo_enum (s := { s with heap := h', toks := tk + 1 }) ho fun h'' he' sb => ?_⟩
    have hT2 : h''.get? s.heap.objs.size = some { cls := .type "tuple", data := .seq #[.int i tk, .str ⟨#[c]⟩ u] } := (sb.2 _ (Nat.ne_of_gt hel)).trans hT
    have new : ObjOk X.prog X.w (upd H s.heap.objs.size (.tup [.int (i : Nat), .str ⟨#[c]⟩])) h'' s.heap.objs.size (.tup [.int (i : Nat), .str ⟨#[c]⟩]) :=
      ⟨by show 2 ≤ sizeLine; decide, [.int i tk, .str ⟨#[c]⟩ u], .cons ⟨_, rfl⟩ (.cons ⟨_, rfl⟩ .nil), ⟨_, hT2, rfl, _, rfl⟩⟩
    have I1 : Inv X pins σ (upd H s.heap.objs.size (.tup [.int (i : Nat), .str ⟨#[c]⟩])) { s with heap := h'', toks := tk + 1 } :=
      I.turnedNew (ch := [e, it]) (fun b ob hb q => (sb.2 b (fun z => hb (by simp [z]))).trans (hk b ob (fun z => hb (by simp [z])) (fun z => hb (by simp [z])) q)) hf (Nat.le_refl _) new
    refine ⟨.ref s.heap.objs.size, _, I1, rfl, ⟨_, c, rfl, I.hok.fresh (Nat.le_refl _), hcx, rfl⟩, ⟨⟨.str ⟨#[c]⟩ u, ?_⟩, ?_, hne⟩, fun b hb => ?_⟩
    · have e1 : ((i + 1 : Nat) : Int) = (i : Int) + 1 := by omega
      rw [e1]; exact he'
    · obtain ⟨o, ho', r⟩ := hit'
      exact ⟨o, (sb.2 it (Ne.symm hne)).trans ho', r⟩
    · have hb' : b < s.heap.objs.size := by
        have e' : b = e ∨ b = it := by simpa using hb
        rcases e' with z | z
        · rw [z]; exact hel
        · rw [z]; exact hil
      rw [upd_ne (Nat.ne_of_lt hb')]
      exact (hf b hb).1
  done := by
    intro X hP hw hK hc i pins s σ H E I hf st hg
    subst hP hw hK
    obtain ⟨⟨old, he⟩, hit, hne⟩ := st
    obtain ⟨f0, f1, f2, f3, f4, f5⟩ := hf it (by simp)
    have hx : x.cps[i]? = none := Array.getElem?_eq_none hg
    have hT : s.TypeIs (.ref e) "enumerate" := ⟨_, he, rfl⟩
    unfold pyNext
    refine wpAny_bind (wpAny_attempt (wpAny_callSpecial?_slot (name := Str.ofString "__next__") hT F.slot_enumerate_next
      (wpAny_call_entry F.slot_enumerate_next hT F.entry_enumerate_next ?_ (F.args_enumerate_next_1 _))))
    show wpAny _ _ (field (.ref e) 2 >>= _) _ _ _
    refine wpAny_bind (wpAny_field he rfl (x := .ref it) rfl ?_)
    rcases hty with q | q
    · subst q
      refine wpAny_bind (wpAny_nextOf_ascii_end (A := X.A.in1) (I.ok.hd hc) hit hx fun h' e2 he2 hx' => ?_)
      obtain ⟨o, ho, hcc⟩ := hx'
      refine wpAny_bind (wpAny_isInstance (T := "StopIteration") (b := true) ⟨o, ho, hcc⟩ isSubtype_stop ?_)
      exact wpAny_pure ⟨rfl, I.turned (t' := s.toks) (fun b o hb y => he2 b o hb y) f0 f1 f3 f4 f5⟩
    · subst q
      refine wpAny_bind (wpAny_nextOf_wide_end (A := X.A.in1) (I.ok.hd hc) hit hx fun h' e2 he2 hx' => ?_)
      obtain ⟨o, ho, hcc⟩ := hx'
      refine wpAny_bind (wpAny_isInstance (T := "StopIteration") (b := true) ⟨o, ho, hcc⟩ isSubtype_stop ?_)
      exact wpAny_pure ⟨rfl, I.turned (t' := s.toks) (fun b o hb y => he2 b o hb y) f0 f1 f3 f4 f5⟩
  self := fun A i s Q E st h => let ⟨⟨_, he⟩, _⟩ := st; wpAny_pyIter_enum he h
def iEnumS (ta : TA) : TI := fun σ H R => ta σ H fun vs H1 => ∃ x, vs = [.str x] ∧ R (Ites x) H1
theorem pi_enumS {e : Expr} {ta : TA} {p pos tpos : Pos} {elts : List Expr} {kk : Nat} (hg : Gl X "enumerate") (hm : X.mg "enumerate" = none) (ha : PA X [e] ta) (hs : starEach [e] X.env = [(false, eval e X.env)] := by rfl) :
    PI X (.Tuple elts kk tpos) (.Call (.Name "enumerate" p) [e] [] pos) (iEnumS ta) := by
  refine ⟨fun pins s σ H R I h => ?_⟩
  refine Call_ (ld_blt I hg hm boot_enumerate (PyProof.Rows.callWith_type1 (thn (ha.run pos pins s σ H _ I h) fun us s1 ⟨vs, H1, I1, r1, q1⟩ => ?_) hs rfl))
  obtain ⟨x, ex, q⟩ := q1
  subst ex
  cases r1 with
  | cons r rr =>
    cases rr
    obtain ⟨t, rfl⟩ := r
    refine call_enumerate_str fun h' he hit hsz hk => wpAny_pyIter_enum he ?_
    have I2 : Inv X pins σ H1 { s1 with heap := h' } := I1.kept (t' := s1.toks) hk
    have hty : strIterType x = "str_ascii_iterator" ∨ strIterType x = "str_iterator" := by
      unfold strIterType
      split
      · exact .inl rfl
      · exact .inr rfl
    refine ⟨s1.heap.objs.size + 1, [s1.heap.objs.size + 1, s1.heap.objs.size], _, _, H1, rfl, I2, turn_enumS (s1.heap.objs.size + 1) s1.heap.objs.size x t _ hty, ⟨⟨.none, he⟩, hit, Nat.succ_ne_self _⟩, fun b hb => ?_, q⟩
    have e' : b = s1.heap.objs.size + 1 ∨ b = s1.heap.objs.size := by simpa using hb
    have hle : s1.heap.objs.size ≤ b := by
      rcases e' with z | z
      · rw [z]; exact Nat.le_add_right _ _
      · rw [z]; exact Nat.le_refl _
    exact I1.fpOk hle (I1.hok.fresh hle)
end
/-- a loop over enumerate(text) -/
theorem for_enumS {x : Str} {g : TG} {tb : TS} {D : Ends} {σ : L2.St} {H : Hp} (Pv : Nat → L2.St → Hp → Prop) (h0 : Pv 0 σ H)
    (hs : ∀ i c σ H T, x.cps[i]? = some c → Pv i σ H → H T = none → g (.ref T) σ (upd H T (.tup [.int (i : Nat), .str ⟨#[c]⟩])) fun σ2 H2 => tb { D with nx := Pv (i + 1), ct := Pv (i + 1), bk := D.nx } σ2 H2) (hd : ∀ σ H, Pv x.cps.size σ H → D.nx σ H) :
    ∃ W : Nat → Nat → L2.St → Hp → Prop, (∃ m, W 0 m σ H) ∧ ∀ i m σ H, W i m σ H →
      ((Ites x).stop i H ∧ D.nx σ H) ∨ ((Ites x).go i H ∧ ∃ N : L2.St → Hp → Prop, (∀ σ' H', N σ' H' → ∃ m', m' < m ∧ W (i + 1) m' σ' H') ∧ ∀ v H', (Ites x).yld i H v H' → g v σ H' fun σ2 H2 => tb { D with nx := N, ct := N, bk := D.nx } σ2 H2) := by
  refine ⟨fun i m σ H => m = x.cps.size - i ∧ i ≤ x.cps.size ∧ Pv i σ H, ⟨x.cps.size, by simp, Nat.zero_le _, h0⟩, ?_⟩
  rintro i m σ H ⟨rfl, hi, p⟩
  by_cases hlt : i < x.cps.size
  · refine .inr ⟨hlt, Pv (i + 1), fun σ' H' q => ⟨x.cps.size - (i + 1), by omega, rfl, hlt, q⟩, fun v H' y => ?_⟩
    obtain ⟨T, c, rfl, hT, hc, rfl⟩ := y
    exact hs i c σ H T hc p hT
  · have : i = x.cps.size := by omega
    subst this
    exact .inl ⟨Nat.le_refl _, hd σ H p⟩
/-- a loop over a text's signs -/
theorem for_str {x : Str} {g : TG} {tb : TS} {D : Ends} {σ : L2.St} {H : Hp} (Pv : Nat → L2.St → Hp → Prop) (h0 : Pv 0 σ H)
    (hs : ∀ i c σ H, x.cps[i]? = some c → Pv i σ H → g (.str ⟨#[c]⟩) σ H fun σ2 H2 => tb { D with nx := Pv (i + 1), ct := Pv (i + 1), bk := D.nx } σ2 H2) (hd : ∀ σ H, Pv x.cps.size σ H → D.nx σ H) :
    ∃ W : Nat → Nat → L2.St → Hp → Prop, (∃ m, W 0 m σ H) ∧ ∀ i m σ H, W i m σ H →
      ((Its x).stop i H ∧ D.nx σ H) ∨ ((Its x).go i H ∧ ∃ N : L2.St → Hp → Prop, (∀ σ' H', N σ' H' → ∃ m', m' < m ∧ W (i + 1) m' σ' H') ∧ ∀ v H', (Its x).yld i H v H' → g v σ H' fun σ2 H2 => tb { D with nx := N, ct := N, bk := D.nx } σ2 H2) := by
  refine ⟨fun i m σ H => m = x.cps.size - i ∧ i ≤ x.cps.size ∧ Pv i σ H, ⟨x.cps.size, by simp, Nat.zero_le _, h0⟩, ?_⟩
  rintro i m σ H ⟨rfl, hi, p⟩
  by_cases hlt : i < x.cps.size
  · refine .inr ⟨hlt, Pv (i + 1), fun σ' H' q => ⟨x.cps.size - (i + 1), by omega, rfl, hlt, q⟩, fun v H' y => ?_⟩
    obtain ⟨rfl, c, hc, rfl⟩ := y
    exact hs i c σ H' hc p
  · have : i = x.cps.size := by omega
    subst this
    exact .inl ⟨Nat.le_refl _, hd σ H p⟩
/-- a comprehension over zip(two lists) -/
theorem lc_zip {K : PySem.W.Frag} {a b : Addr} {xs ys : List V} {g : TG} {tt : TT} {te : TE} {vs : List Nat} {σ : L2.St} {H1 : Hp} {D : Addr} {Qd : Hp → Prop} (Pv : Nat → Hp → Prop) (h0 : Pv 0 (upd H1 D (.lst [])))
    (hl : ∀ i H, Pv i H → SqL K H a xs ∧ SqL K H b ys)
    (hs : ∀ i x y H T, xs[i]? = some x → ys[i]? = some y → Pv i H → H T = none → g (.ref T) (wipe σ vs) (upd H T (.tup [x, y])) fun σ2 H2 => wipe σ2 vs = wipe σ vs ∧ tt σ2 H2 fun b H3 =>
      if b = true then te σ2 H3 fun y H4 => ∃ acc, H4 D = some (.lst acc) ∧ acc.length < sizeLine ∧ Pv (i + 1) (upd H4 D (.lst (acc ++ [y]))) else Pv (i + 1) H3)
    (hd : ∀ H, Pv (min xs.length ys.length) H → Qd H) :
    ∃ W : Nat → Nat → Hp → Prop, (∃ m, W 0 m (upd H1 D (.lst []))) ∧ ∀ i m H, W i m H →
      ((Itz K a b).stop i H ∧ Qd H) ∨ ((Itz K a b).go i H ∧ ∃ Nx : Hp → Prop, (∀ H', Nx H' → ∃ m', m' < m ∧ W (i + 1) m' H') ∧ ∀ x H', (Itz K a b).yld i H x H' → g x (wipe σ vs) H' fun σ2 H2 => wipe σ2 vs = wipe σ vs ∧ tt σ2 H2 fun b H3 =>
        if b = true then te σ2 H3 fun y H4 => ∃ acc, H4 D = some (.lst acc) ∧ acc.length < sizeLine ∧ Nx (upd H4 D (.lst (acc ++ [y]))) else Nx H3) := by
  refine ⟨fun i m H => m = min xs.length ys.length - i ∧ i ≤ min xs.length ys.length ∧ Pv i H, ⟨_, rfl, Nat.zero_le _, h0⟩, ?_⟩
  rintro i m H ⟨rfl, hi, p⟩
  obtain ⟨q1, q2⟩ := hl i H p
  by_cases hlt : i < min xs.length ys.length
  · have l1 : i < xs.length := by omega
    have l2 : i < ys.length := by omega
    refine .inr ⟨⟨xs, ys, _, _, q1, q2, List.getElem?_eq_getElem l1, List.getElem?_eq_getElem l2⟩, Pv (i + 1), fun H' q => ⟨_, by omega, rfl, hlt, q⟩, fun v H' y => ?_⟩
    obtain ⟨T, x, y, rfl, hT, rfl, e1, e2⟩ := y
    exact hs i x y H T (e1 xs q1) (e2 ys q2) p hT
  · have : i = min xs.length ys.length := by omega
    subst this
    exact .inl ⟨⟨xs, ys, q1, q2, by omega⟩, hd H p⟩
theorem lst_len {P : Prop} (h : P) : P := h
end TT

set_option linter.all false
set_option maxRecDepth 100000
/-! texts cut and joined, as lists of signs -/
namespace TT
open PySem PySem.Spec PyProof.Rows L2
open TL (joinL join_eq tl_join split_join tl)
theorem cnt_count (c : Nat) : ∀ l : List Nat, cnt c l = ((l.count c : Nat) : Int)
  | [] => rfl
  | x :: r => by
    rw [cnt_cons, cnt_count c r, List.count_cons]
    by_cases h : x = c <;> simp [h] <;> omega
theorem count_S (l : List Nat) (c : Nat) : Txt.count (S l) (S [c]) = ((l.count c : Nat) : Int) := by
  have := count_cnt (S l) c
  rw [cnt_count] at this
  exact this
/-- cut at every c -/
def spl (c : Nat) : List Nat → List (List Nat)
  | [] => [[]]
  | x :: xs => if x = c then [] :: spl c xs else ((x :: (spl c xs).headD []) :: (spl c xs).tail)
theorem spl_ne (c : Nat) (l : List Nat) : spl c l ≠ [] := by
  cases l with
  | nil => simp [spl]
  | cons x xs => unfold spl; split <;> simp
theorem spl_eq (c : Nat) (l : List Nat) : spl c l = (spl c l).headD [] :: (spl c l).tail := by
  have := spl_ne c l
  cases h : spl c l with
  | nil => exact absurd h this
  | cons a b => rfl
theorem spl_length (c : Nat) : ∀ l : List Nat, (spl c l).length = l.count c + 1
  | [] => rfl
  | x :: xs => by
    unfold spl
    have ih := spl_length c xs
    rw [List.count_cons]
    by_cases h : x = c
    · simp [h, ih]
    · simp [h]; have := spl_eq c xs; omega
theorem spl_free (c : Nat) : ∀ l : List Nat, ∀ p ∈ spl c l, c ∉ p
  | [], p, hp => by simp [spl] at hp; subst hp; simp
  | x :: xs, p, hp => by
    have ih := spl_free c xs
    rw [spl_eq c xs] at ih
    unfold spl at hp
    by_cases h : x = c
    · simp only [h, if_true] at hp
      rcases List.mem_cons.mp hp with rfl | hp
      · simp
      · rw [spl_eq c xs] at hp; exact ih p hp
    · simp only [h, if_false] at hp
      rcases List.mem_cons.mp hp with rfl | hp
      · intro hc
        rcases List.mem_cons.mp hc with rfl | hc
        · exact h rfl
        · exact ih _ List.mem_cons_self hc
      · exact ih p (List.mem_cons_of_mem _ hp)
theorem spl_joinL (c : Nat) : ∀ l : List Nat, joinL [c] (spl c l) = l
  | [] => rfl
  | x :: xs => by
    have ih := spl_joinL c xs
    unfold spl
    by_cases h : x = c
    · simp only [h, if_true]
      rw [spl_eq c xs] at ih ⊢
      show [] ++ ([c] ++ joinL [c] (_ :: _)) = c :: xs
      rw [ih]; rfl
    · simp only [h, if_false]
      rw [spl_eq c xs] at ih
      cases ht : (spl c xs).tail with
      | nil =>
        rw [ht] at ih
        show x :: (spl c xs).headD [] = x :: xs
        have ih' : (spl c xs).headD [] = xs := ih
        rw [ih']
      | cons q r =>
        rw [ht] at ih
        show (x :: (spl c xs).headD []) ++ ([c] ++ joinL [c] (q :: r)) = x :: xs
        have ih' : (spl c xs).headD [] ++ ([c] ++ joinL [c] (q :: r)) = xs := ih
        rw [List.cons_append, ih']
theorem tl_S (l : List Nat) : tl (S l) = l := by simp [tl]
theorem tl_mapS : ∀ ls : List (List Nat), (ls.map S).map tl = ls
  | [] => rfl
  | l :: ls => by rw [List.map_cons, List.map_cons, tl_S, tl_mapS ls]
theorem S_tl (x : Str) : S (tl x) = x := by cases x; simp [tl]
theorem split_S (l : List Nat) (c : Nat) (hc : c < 256) : Txt.split (S l) (S [c]) = (spl c l).map S := by
  have e : Txt.join (S [c]) ((spl c l).map S) = S l := by
    rw [join_eq, ← S_tl (Str.join _ _), tl_join, tl_mapS, tl_S, spl_joinL]
  rw [← e]
  refine split_join (s := c) (S := []) (tl_S _) (by simp [hc]) (by simp [spl_ne]) fun p hp => ?_
  obtain ⟨q, hq, rfl⟩ := List.mem_map.mp hp
  rw [tl_S]
  exact spl_free c l q hq
theorem joinL_nil : ∀ ls : List (List Nat), joinL [] ls = ls.flatten
  | [] => rfl
  | [p] => by simp [joinL]
  | p :: q :: r => by
    show p ++ ([] ++ joinL [] (q :: r)) = _
    rw [joinL_nil (q :: r)]; simp
theorem join_S (ls : List (List Nat)) : Txt.join (S []) (ls.map S) = S ls.flatten := by
  rw [join_eq, ← S_tl (Str.join _ _), tl_join, tl_mapS, tl_S, joinL_nil]

/-! ### a text with its leaves' signs replaced -/
def sub46 : List Nat → List (List Nat) → List Nat
  | [], _ => []
  | x :: xs, ys => if x = 46 then ys.headD [] ++ sub46 xs ys.tail else x :: sub46 xs ys
theorem sub46_other {x : Nat} (xs : List Nat) (ys : List (List Nat)) (h : x ≠ 46) : sub46 (x :: xs) ys = x :: sub46 xs ys := by
  show (if x = 46 then _ else _) = _
  rw [if_neg h]
theorem weave : ∀ (l : List Nat) (ys : List (List Nat)), ys.length = l.count 46 → (spl 46 l).headD [] ++ (List.zipWith (fun i p => i ++ p) ys (spl 46 l).tail).flatten = sub46 l ys
  | [], ys, h => by simp [spl, sub46]
  | x :: xs, ys, h => by
    rw [List.count_cons] at h
    unfold spl sub46
    by_cases hx : x = 46
    · simp only [hx, if_true]
      cases ys with
      | nil => simp [hx] at h
      | cons y ys =>
        have hl : ys.length = xs.count 46 := by simp [hx] at h; exact h
        have ih := weave xs ys hl
        rw [spl_eq 46 xs]
        simp only [List.headD_cons, List.tail_cons, List.zipWith_cons_cons, List.flatten_cons, List.nil_append, List.append_assoc]
        rw [ih]
    · simp only [hx, if_false]
      have hl : ys.length = xs.count 46 := by simp [hx] at h; exact h
      have ih := weave xs ys hl
      simp only [List.headD_cons, List.tail_cons, List.cons_append]
      rw [ih]
theorem count_tree : ∀ t : Tr, t.cs.count 46 = t.lvs
  | .leaf => rfl
  | .node l r => by simp [Tr.cs, Tr.lvs, count_tree l, count_tree r]
theorem count_open : ∀ t : Tr, t.cs.count 40 = t.size
  | .leaf => rfl
  | .node l r => by simp [Tr.cs, Tr.size, count_open l, count_open r]
theorem sub_tree : ∀ (t : Tr) (rest : List Nat) (xs : List Tr), t.lvs ≤ xs.length → sub46 (t.cs ++ rest) (xs.map Tr.cs) = (t.growR xs).1.cs ++ sub46 rest ((t.growR xs).2.map Tr.cs)
  | .leaf, rest, [], h => by simp [Tr.lvs] at h
  | .leaf, rest, x :: xs, h => by simp [Tr.cs, sub46, Tr.growR]
  | .node l r, rest, xs, h => by
    simp only [Tr.lvs] at h
    have hl := Tr.growR_len l xs (by omega)
    show sub46 (40 :: ((l.cs ++ (r.cs ++ [41])) ++ rest)) _ = _
    rw [sub46_other _ _ (by decide), List.append_assoc, sub_tree l _ xs (by omega), List.append_assoc, sub_tree r _ _ (by omega)]
    show _ = (40 :: ((l.growR xs).1.cs ++ ((r.growR (l.growR xs).2).1.cs ++ [41]))) ++ _
    simp only [List.cons_append, List.append_assoc, List.nil_append]
    rw [sub46_other _ _ (by decide)]
    rfl
theorem grown_text (t : Tr) (xs : List Tr) (h : xs.length = t.lvs) :
    (spl 46 t.cs).headD [] ++ (List.zipWith (fun i p => i ++ p) (xs.map Tr.cs) (spl 46 t.cs).tail).flatten = (t.grow xs).cs := by
  rw [weave _ _ (by rw [List.length_map, count_tree]; exact h)]
  have := sub_tree t [] xs (by omega)
  rw [List.append_nil] at this
  rw [this]
  unfold Tr.grow
  show _ ++ [] = _
  rw [List.append_nil]
theorem spl_le (c : Nat) : ∀ l : List Nat, ∀ p ∈ spl c l, p.length ≤ l.length
  | [], p, hp => by simp [spl] at hp; subst hp; simp
  | x :: xs, p, hp => by
    have ih := spl_le c xs
    rw [spl_eq c xs] at ih
    unfold spl at hp
    by_cases h : x = c
    · simp only [h, if_true] at hp
      rcases List.mem_cons.mp hp with rfl | hp
      · simp
      · rw [spl_eq c xs] at hp
        exact Nat.le_succ_of_le (ih p hp)
    · simp only [h, if_false] at hp
      rcases List.mem_cons.mp hp with rfl | hp
      · exact Nat.succ_le_succ (ih _ List.mem_cons_self)
      · exact Nat.le_succ_of_le (ih p (List.mem_cons_of_mem _ hp))
theorem growR_size {B : Nat} : ∀ (t : Tr) (xs : List Tr), (∀ x ∈ xs, x.size ≤ B) → (t.growR xs).1.size ≤ t.size + t.lvs * B ∧ ∀ x ∈ (t.growR xs).2, x.size ≤ B
  | .leaf, [], h => by simp [Tr.growR, Tr.size]
  | .leaf, x :: xs, h => by
    have := h x List.mem_cons_self
    refine ⟨?_, fun y hy => h y (List.mem_cons_of_mem _ hy)⟩
    show x.size ≤ 0 + 1 * B
    omega
  | .node l r, xs, h => by
    obtain ⟨h1, h2⟩ := growR_size l xs h
    obtain ⟨h3, h4⟩ := growR_size r _ h2
    refine ⟨?_, h4⟩
    show (l.growR xs).1.size + (r.growR (l.growR xs).2).1.size + 1 ≤ l.size + r.size + 1 + (l.lvs + r.lvs) * B
    rw [Nat.add_mul]
    omega
theorem grow_size {B : Nat} (t : Tr) (xs : List Tr) (h : ∀ x ∈ xs, x.size ≤ B) : (t.grow xs).size ≤ t.size + t.lvs * B := (growR_size t xs h).1
theorem sumlen_S (ls : List (List Nat)) : ((ls.map S).map (·.length)).sum = ls.flatten.length := by
  induction ls with
  | nil => rfl
  | cons l ls ih => rw [List.map_cons, List.map_cons, List.sum_cons, ih, List.flatten_cons, List.length_append, S_len]
end TT

set_option linter.all false
set_option maxRecDepth 100000
/-! where the parts end: as the program goes along the signs -/
namespace TT
open PySem
def endsRun : List Nat → Nat → List Nat → List Nat → Option (List Nat)
  | [], _, b, st => if st = [] then some b else none
  | c :: cs, k, b, st =>
    if c = 40 then endsRun cs (k + 1) b (k :: st)
    else if c = 41 then
      match st with
      | [] => none
      | o :: st' => if o < b.length then endsRun cs (k + 1) (b.set o (k + 1)) st' else none
    else if k < b.length then endsRun cs (k + 1) (b.set k (k + 1)) st else none
theorem endsRun_open (cs : List Nat) (k : Nat) (b st : List Nat) : endsRun (40 :: cs) k b st = endsRun cs (k + 1) b (k :: st) := rfl
theorem endsRun_close (cs : List Nat) (k o : Nat) (b st : List Nat) (h : o < b.length) : endsRun (41 :: cs) k b (o :: st) = endsRun cs (k + 1) (b.set o (k + 1)) st := by
  show (if o < b.length then _ else _) = _
  rw [if_pos h]
theorem endsRun_dot (cs : List Nat) (k : Nat) (b st : List Nat) (h : k < b.length) : endsRun (46 :: cs) k b st = endsRun cs (k + 1) (b.set k (k + 1)) st := by
  show (if k < b.length then _ else _) = _
  rw [if_pos h]
theorem set_mid (A : List Nat) (x y : Nat) (B : List Nat) : (A ++ x :: B).set A.length y = A ++ y :: B := by
  rw [List.set_append_right _ _ (Nat.le_refl _), Nat.sub_self]; rfl
theorem endsRun_tree : ∀ (t : Tr) (rest : List Nat) (k : Nat) (A B st : List Nat), A.length = k →
    endsRun (t.cs ++ rest) k (A ++ (List.replicate t.len 0 ++ B)) st = endsRun rest (k + t.len) (A ++ (Tr.ends k t ++ B)) st
  | .leaf, rest, k, A, B, st, h => by
    subst h
    show endsRun (46 :: rest) A.length (A ++ (0 :: B)) st = endsRun rest (A.length + 1) (A ++ ((A.length + 1) :: B)) st
    rw [endsRun_dot _ _ _ _ (by simp), set_mid]
  | .node l r, rest, k, A, B, st, h => by
    subst h
    have e : List.replicate (Tr.node l r).len 0 ++ B = 0 :: (List.replicate l.len 0 ++ (List.replicate r.len 0 ++ (0 :: B))) := by
      show List.replicate (l.len + r.len + 2) 0 ++ B = _
      rw [show l.len + r.len + 2 = 1 + l.len + r.len + 1 by omega, ← List.replicate_append_replicate, ← List.replicate_append_replicate, ← List.replicate_append_replicate]
      show (([0] ++ List.replicate l.len 0) ++ List.replicate r.len 0 ++ [0]) ++ B = _
      simp only [List.append_assoc, List.cons_append, List.nil_append]
    rw [e]
    show endsRun (40 :: ((l.cs ++ (r.cs ++ [41])) ++ rest)) A.length _ st = _
    rw [endsRun_open, List.append_assoc]
    have e1 : A ++ 0 :: (List.replicate l.len 0 ++ (List.replicate r.len 0 ++ (0 :: B))) = (A ++ [0]) ++ (List.replicate l.len 0 ++ (List.replicate r.len 0 ++ (0 :: B))) := by simp
    rw [e1, endsRun_tree l _ (A.length + 1) (A ++ [0]) _ _ (by simp), List.append_assoc]
    have e2 : (A ++ [0]) ++ (Tr.ends (A.length + 1) l ++ (List.replicate r.len 0 ++ (0 :: B))) = (A ++ [0] ++ Tr.ends (A.length + 1) l) ++ (List.replicate r.len 0 ++ (0 :: B)) := by simp
    rw [e2, endsRun_tree r _ (A.length + 1 + l.len) _ _ _ (by simp [Tr.ends_length]; omega)]
    show endsRun (41 :: ([] ++ rest)) _ _ (A.length :: st) = _
    rw [endsRun_close _ _ _ _ _ (by simp)]
    have e3 : (A ++ [0] ++ Tr.ends (A.length + 1) l) ++ (Tr.ends (A.length + 1 + l.len) r ++ (0 :: B)) = A ++ 0 :: (Tr.ends (A.length + 1) l ++ (Tr.ends (A.length + 1 + l.len) r ++ (0 :: B))) := by simp
    rw [e3, set_mid]
    have e4 : A.length + 1 + l.len + r.len + 1 = A.length + (Tr.node l r).len := by show _ = A.length + (l.len + r.len + 2); omega
    rw [e4]
    simp only [List.nil_append, Tr.ends, List.cons_append, List.append_assoc]
theorem endsRun_text (t : Tr) : endsRun t.cs 0 (List.replicate t.len 0) [] = some (Tr.ends 0 t) := by
  have := endsRun_tree t [] 0 [] [] [] rfl
  simp only [List.append_nil, List.nil_append] at this
  rw [this]; rfl
/-- what a step says -/
theorem endsRun_step {c : Nat} {cs : List Nat} {k : Nat} {b st F : List Nat} (h : endsRun (c :: cs) k b st = some F) :
    (c = 40 ∧ endsRun cs (k + 1) b (k :: st) = some F) ∨ (c = 41 ∧ ∃ o st', st = o :: st' ∧ o < b.length ∧ endsRun cs (k + 1) (b.set o (k + 1)) st' = some F) ∨
    (c ≠ 40 ∧ c ≠ 41 ∧ k < b.length ∧ endsRun cs (k + 1) (b.set k (k + 1)) st = some F) := by
  by_cases h1 : c = 40
  · subst h1; exact .inl ⟨rfl, h⟩
  by_cases h2 : c = 41
  · subst h2
    cases st with
    | nil => exact nomatch (show (none : Option (List Nat)) = some F from h)
    | cons o st' =>
      have h : (if o < b.length then endsRun cs (k + 1) (b.set o (k + 1)) st' else none) = some F := h
      by_cases h3 : o < b.length
      · rw [if_pos h3] at h; exact .inr (.inl ⟨rfl, o, st', rfl, h3, h⟩)
      · rw [if_neg h3] at h; cases h
  · have h : (if c = 40 then endsRun cs (k + 1) b (k :: st) else if c = 41 then _ else if k < b.length then endsRun cs (k + 1) (b.set k (k + 1)) st else none) = some F := h
    rw [if_neg h1, if_neg h2] at h
    by_cases h3 : k < b.length
    · rw [if_pos h3] at h; exact .inr (.inr ⟨h1, h2, h3, h⟩)
    · rw [if_neg h3] at h; cases h
end TT

set_option linter.all false
set_option maxRecDepth 100000
/-! two trees gone along together: what is still ahead -/
namespace TT
open PySem
abbrev Ag := List (Option (Tr × Tr))
namespace Ag
def tl : Ag → List Nat
  | [] => []
  | none :: r => 41 :: tl r
  | some p :: r => p.1.cs ++ tl r
def tr : Ag → List Nat
  | [] => []
  | none :: r => 41 :: tr r
  | some p :: r => p.2.cs ++ tr r
def hangs : Ag → Option (List Tr)
  | [] => some []
  | none :: r => hangs r
  | some p :: r => (Tr.hang p.1 p.2).bind fun x => (hangs r).map fun y => x ++ y
/-- the parts ahead stand at their places of the first tree's text, of the second's -/
def AtL (T : Tr) : Nat → Ag → Prop
  | _, [] => True
  | k, none :: r => AtL T (k + 1) r
  | k, some p :: r => Tr.Sub T k p.1 ∧ AtL T (k + p.1.len) r
def AtR (T : Tr) : Nat → Ag → Prop
  | _, [] => True
  | k, none :: r => AtR T (k + 1) r
  | k, some p :: r => Tr.Sub T k p.2 ∧ AtR T (k + p.2.len) r
end Ag
theorem cs_head (t : Tr) : ∃ r, t.cs = (if t = .leaf then 46 else 40) :: r := by
  cases t with
  | leaf => exact ⟨[], rfl⟩
  | node l r => exact ⟨_, rfl⟩
theorem Ag.tr_nil {ag : Ag} (h : ag.tr = []) : ag = [] := by
  match ag with
  | [] => rfl
  | none :: r => simp [Ag.tr] at h
  | some p :: r =>
    obtain ⟨q, e⟩ := cs_head p.2
    simp [Ag.tr, e] at h
theorem Ag.tl_nil {ag : Ag} (h : ag.tl = []) : ag = [] := by
  match ag with
  | [] => rfl
  | none :: r => simp [Ag.tl] at h
  | some p :: r =>
    obtain ⟨q, e⟩ := cs_head p.1
    simp [Ag.tl, e] at h
theorem Sub_left {T l r : Tr} {k : Nat} (h : Tr.Sub T k (.node l r)) : Tr.Sub T (k + 1) l := .left h
theorem Sub_right {T l r : Tr} {k : Nat} (h : Tr.Sub T k (.node l r)) : Tr.Sub T (k + 1 + l.len) r := .right h
theorem drop_cons {α : Type} {l : List α} {k : Nat} {x : α} {r : List α} (h : l.drop k = x :: r) : l[k]? = some x ∧ k < l.length ∧ l.drop (k + 1) = r := by
  have hk : k < l.length := by
    by_cases hk : k < l.length
    · exact hk
    · rw [List.drop_eq_nil_of_le (by omega)] at h; cases h
  rw [List.drop_eq_getElem_cons hk] at h
  injection h with h1 h2
  exact ⟨by rw [List.getElem?_eq_getElem hk, h1], hk, h2⟩
theorem drop_app {α : Type} {l a r : List α} {k : Nat} (h : l.drop k = a ++ r) : l.drop (k + a.length) = r := by
  rw [← List.drop_drop, h, List.drop_left]
theorem rixs {l : List Nat} {k c : Nat} {H : L2.Hp} {Q : L2.VK} (hl : l.length ≤ 16000000) (h : l[k]? = some c) (q : Q (.str ⟨#[c]⟩) H) : L2.rIxS (.str (S l)) (.int (k : Nat)) H Q :=
  ⟨S l, (k : Int), c, rfl, rfl, by rw [S_len]; exact small5 hl, L2.atI_nat (by simpa using h), q⟩
theorem rixl {K : PySem.W.Frag} {a : Addr} {xs : List L2.V} {k : Nat} {x : L2.V} {H : L2.Hp} {Q : L2.VK} (ha : H a = some (.lst xs)) (h : xs[k]? = some x) (q : Q x H) : L2.rIxL K (.ref a) (.int (k : Nat)) H Q :=
  ⟨a, xs, (k : Int), x, rfl, rfl, L2.SqL.of ha, L2.atI_nat h, q⟩
namespace Ag
def outs : Ag → List Nat
  | [] => []
  | none :: r => 41 :: outs r
  | some p :: r => (Tr.meet p.1 p.2).cs ++ outs r
end Ag
theorem signs_join (l : List Nat) : Txt.join (S []) (l.map fun c => S [c]) = S l := by
  have e : (l.map fun c => S [c]) = (l.map fun c => [c]).map S := by rw [List.map_map]; rfl
  rw [e, join_S]
  congr 1
  clear e
  induction l with
  | nil => rfl
  | cons a r ih => rw [List.map_cons, List.flatten_cons]; show [a] ++ _ = _; rw [show (List.map (fun c => [c]) r).flatten = r from by simpa using ih]; rfl
theorem signs_sum (l : List Nat) : ((l.map fun c => S [c]).map (·.length)).sum = l.length := by
  induction l with
  | nil => rfl
  | cons a r ih => rw [List.map_cons, List.map_cons, List.sum_cons, ih, S_len]; simp; omega
theorem hang_size : ∀ (s c : Tr) (xs : List Tr), Tr.hang s c = some xs → ∀ x ∈ xs, x.size ≤ s.size
  | s, .leaf, xs, h => by
    simp [Tr.hang] at h; subst h
    intro x hx
    rw [List.mem_singleton.mp hx]
    exact Nat.le_refl _
  | .leaf, .node _ _, xs, h => by simp [Tr.hang] at h
  | .node a b, .node c d, xs, h => by
    simp only [Tr.hang, Option.bind_eq_some_iff, Option.map_eq_some_iff] at h
    obtain ⟨x, hx, y, hy, rfl⟩ := h
    intro z hz
    show z.size ≤ a.size + b.size + 1
    rcases List.mem_append.mp hz with hz | hz
    · have := hang_size a c x hx z hz; omega
    · have := hang_size b d y hy z hz; omega
theorem mem_pick : ∀ (xs ys : List Tr), ∀ x ∈ List.zipWith Tr.pick xs ys, x ∈ xs ∨ x ∈ ys
  | [], _, x, h => by simp at h
  | _ :: _, [], x, h => by simp at h
  | a :: xs, b :: ys, x, h => by
    rw [List.zipWith_cons_cons] at h
    rcases List.mem_cons.mp h with rfl | h
    · unfold Tr.pick
      split
      · exact .inr List.mem_cons_self
      · exact .inl List.mem_cons_self
    · rcases mem_pick xs ys x h with h | h
      · exact .inl (List.mem_cons_of_mem _ h)
      · exact .inr (List.mem_cons_of_mem _ h)
end TT

set_option Elab.async false
set_option linter.all false
set_option maxRecDepth 100000
set_option maxHeartbeats 4000000
/-! TX: errors that are kept as values: made, asked for their class, their field read; repr of plain data. -/
namespace TX
open PySem PySem.Spec PyProof.Rows L2

/-! ### classes -/
/-- what the written part says of an own error class: its line of ancestors, and what its instances are asked by -/
structure ErrC (K : PySem.W.Frag) (C : Addr) (l : List Value) : Prop where
  mro : (PySem.W.clsIn K C).map (·.mro) = some l
  ty : PySem.W.typeIn K (.ref C) = some (.type "type")
  ec : ExcC K C
theorem ErrC.isSome {K : PySem.W.Frag} {C : Addr} {l : List Value} (x : ErrC K C l) : (PySem.W.clsIn K C).isSome = true := by
  have e := x.mro
  cases q : PySem.W.clsIn K C with
  | some _ => rfl
  | none => rw [q] at e; cases e
theorem ErrC.sub {K : PySem.W.Frag} {C : Addr} {l : List Value} (x : ErrC K C l) (hl : l.isEmpty = false) (v : Value) : PySem.W.subIn K (.ref C) v = some (l.contains v) := by
  show PySem.W.mroIn K C v = _
  unfold PySem.W.mroIn
  have e := x.mro
  cases q : PySem.W.clsIn K C with
  | none => rw [q] at e; cases e
  | some cd =>
    rw [q] at e
    have e2 : cd.mro = l := Option.some.inj e
    rw [Option.bind_some, e2, hl]
    rfl
/-- isinstance's answer for two own classes -/
theorem kit_own {K : PySem.W.Frag} {C D : Addr} {l l' : List Value} (x : ErrC K C (.ref C :: l)) (y : ErrC K D l') : PySem.W.kitOne K (.ref C) (.ref D) = some (decide (C = D) || l.contains (.ref D)) := by
  unfold PySem.W.kitOne
  by_cases h : C = D
  · subst h
    simp
  · have e : ((Value.ref C) == (Value.ref D)) = false := beq_eq_false_iff_ne.mpr fun z => h (Value.ref.inj z)
    rw [e, if_neg Bool.false_ne_true]
    unfold PySem.W.kitCls
    dsimp only
    rw [if_pos (by rw [y.isSome, y.ty]; rfl), x.sub rfl, List.contains_cons]
    have e2 : ((Value.ref D) == (Value.ref C)) = false := beq_eq_false_iff_ne.mpr fun z => h (Value.ref.inj z).symm
    rw [e2]
    simp [h]
theorem kit_ve {K : PySem.W.Frag} {C : Addr} {l : List Value} (x : ErrC K C l) (hl : l.isEmpty = false) : PySem.W.kitOne K (.ref C) (.type "ValueError") = some (l.contains (.type "ValueError")) := by
  unfold PySem.W.kitOne
  have e : ((Value.ref C) == (Value.type "ValueError")) = false := rfl
  rw [e, if_neg Bool.false_ne_true]
  unfold PySem.W.kitCls
  dsimp only
  rw [if_pos (by decide +kernel), x.sub hl]

/-! ### an error as a value -/
/-- at a: an error of the class at C with the fields fs -/
def Err (H : Hp) (a C : Addr) (fs : List (Str × V)) : Prop := ∃ d, H a = some (exo a C (some d)) ∧ H d = some (exd d fs)
/-- at a: an error whose __init__ has stored nothing -/
def Err0 (H : Hp) (a C : Addr) : Prop := H a = some (exo a C none)
theorem Err.same {H H' : Hp} {a C : Addr} {fs : List (Str × V)} (e : Err H a C fs) (h : ∀ b o, H b = some o → H' b = some o) : Err H' a C fs :=
  let ⟨d, h1, h2⟩ := e
  ⟨d, h _ _ h1, h _ _ h2⟩

section
variable {X : Cx} {pins : List (Addr × Obj)} {σ : L2.St} {H : Hp} {s : Shared} {a C : Addr} {fs : List (Str × V)}
theorem inst_of (I : Inv X pins σ H s) (e : Err H a C fs ∨ Err0 H a C) : ∃ ox od, PySem.W.InstAt s.heap a ox C od := by
  rcases e with ⟨d, h1, h2⟩ | h1
  · obtain ⟨t1, ho⟩ := exo_at I.hok h1
    obtain ⟨mA, hns, _⟩ := exd_at I.hok h2
    obtain ⟨od, hd, _⟩ := lookIn_ns hns
    exact ⟨_, some od, ho, rfl, rfl, hd⟩
  · obtain ⟨t1, ho⟩ := exo_at I.hok h1
    exact ⟨_, none, ho, rfl, rfl, trivial⟩
end
/-- isinstance(e, c): e an error that is kept -/
def rIsX (K : PySem.W.Frag) : List V → Hp → VK → Prop := fun xs H Q => ∃ (a C : Addr) (fs : List (Str × V)) (c : V) (cv : Value) (b : Bool), xs = [.ref a, c] ∧ ExcC K C ∧ (Err H a C fs ∨ Err0 H a C) ∧ ClsV c cv ∧ PySem.W.kitOne K (.ref C) cv = some b ∧ Q (.bl b) H
theorem call_isX {X : Cx} : CallR X (.builtin "isinstance") (rIsX X.K) := by
  intro pins s σ H xs us Q I r h
  obtain ⟨a, C, fs, c, cv, b, rfl, hC, he, k, e, q⟩ := h
  obtain ⟨u1, u2, rfl, r1, r2⟩ := vals2 r
  cases (show u1 = Value.ref a from r1)
  have e2 := k.eq r2
  subst e2
  obtain ⟨ox, od, J⟩ := inst_of I he
  refine PySem.W.kia_one (PySem.W.kitx_exc (ox := ox) (od := od) ?_ hC.hg hC.hk hC.hs hC.ha hC.hn hC.ht hC.hm) I.kIn J e (fun z => nomatch z) fun tk => ⟨.bl b, H, I.tok tk, rfl, q⟩
  have z := hC.hd
  unfold PySem.W.hasDictIn at z
  cases w : PySem.W.clsIn X.K C with
  | some _ => rfl
  | none => rw [w] at z; cases z
/-- e.f: a field of an error that is kept -/
def tFx (K : PySem.W.Frag) (f : Str) (te : TE) : TE := fun σ H Q => te σ H fun x H1 => ∃ (a C : Addr) (fs : List (Str × V)) (v : V), x = .ref a ∧ XfC K C ∧ PySem.W.findIn K (.ref C) f = some none ∧ Err H1 a C fs ∧ fs.lookup f = some v ∧ Q v H1
theorem pe_fx {X : Cx} {e : Expr} {te : TE} {pos : Pos} {f : Str} (he : PE X e te) (hb : attributeBase e f X.env (eval e X.env) = eval e X.env := by rfl) : PE X (.Attribute e f pos) (tFx X.K f te) := by
  refine ⟨fun pins s σ H Q I h => attr_of hb (thn (he.run pins s σ H _ I h) fun u s1 ⟨x, H1, I1, rx, a, C, fs, v, ex, T, hno, ⟨d, h1, h2⟩, l, q⟩ => ?_)⟩
  subst ex
  cases (show u = Value.ref a from rx)
  obtain ⟨t1, ho⟩ := exo_at I1.hok h1
  obtain ⟨mA, hns, hr⟩ := exd_at I1.hok h2
  obtain ⟨od, hd, hl⟩ := lookIn_ns hns
  obtain ⟨y, hy, ry⟩ := RelO.some_of (v := v) (o := mA f) (by rw [← l]; exact hr f)
  have J : PySem.W.InstAt s1.heap a ({ cls := .ref C, dict := some d, data := .fields #[.ref t1, .none, .none, .none, .bool false, .none] } : Obj) C (some od) := ⟨ho, rfl, rfl, hd⟩
  exact HandSPX.exc_get I1.kIn J T.ga T.gg T.exC (PySem.W.findObj_own T.hdC hno rfl (by rw [hl, hy])) (handed_of ry) ⟨v, H1, I1.tok _, ry, q⟩
/-! ### an error is made -/
/-- C(e, ..): sp is what C's __init__ keeps -/
def tMx (C : Addr) (sp : Sp) (dvs : List V) (ta : TA) : TE := fun σ H Q => ta σ H fun vs H1 => vs.length ≤ 1000 ∧ ∀ a, H1 a = none → sp (.ref a :: (vs ++ dvs)) (upd H1 a (exo a C none)) (fun v H2 => v = .non ∧ Q (.ref a) H2) (fun _ _ _ => False)
section
variable {X : Cx} {CX : CXT} {x : Str} {C fI : Addr} {k : Nat} {fd : FuncData} {ps : List Str} {sp : Sp} {ds : List Value} {dvs : List V} {e : Expr} {es : List Expr} {ta : TA} {p pos : Pos}
theorem run_mx {pins : List (Addr × Obj)} {σ : L2.St} {H1 : Hp} {s1 : Shared} {Q : VK} {us : List Value} {vs : List V} (T : OexC X.K C) (iC : PySem.W.findIn X.K (.ref C) "__init__" = some (some (.ref fI))) (tI : PySem.W.typeIn X.K (.ref fI) = some (.type "function"))
    (F1 : FnOk X.prog X.w X.K X.mg X.base CX k fI fd ps sp) (hr : Room (k + 1) X.A) (hb : Binds X.K fd ps ds) (hd : Vals dvs ds) (hx : Passes CX X (fun _ _ _ => False)) (I1 : Inv X pins σ H1 s1) (r1 : Vals vs us) (hz : vs.length ≤ 1000)
    (q1 : ∀ a, H1 a = none → sp (.ref a :: (vs ++ dvs)) (upd H1 a (exo a C none)) (fun v H2 => v = .non ∧ Q (.ref a) H2) (fun _ _ _ => False)) : wpAny (model X.prog X.w) X.A (call (.ref C) us) (EP X pins σ Q) X.xe s1 := by
  obtain ⟨nm, qn, N, bs, bm, sn, sub, ab, col, dd, k0, k1, k2, k3, k5, hC, hbm⟩ := T.cls
  obtain ⟨hp, g, dr, tk, os⟩ := s1
  have above : hp.objs.size ≤ hp.objs.size + 1 := Nat.le_succ _
  have new : H1 (hp.objs.size + 1) = none := I1.hok.fresh above
  have run := q1 _ new
  have laid : ∀ b o, hp.get? b = some o → ((hp.push (PySem.W.kdv_tup us)).push (PySem.HandSPX.excO C hp.objs.size)).get? b = some o := fun b o z => Heap.get?_push_of_some _ (Heap.get?_push_of_some _ z)
  have there : ((hp.push (PySem.W.kdv_tup us)).push (PySem.HandSPX.excO C hp.objs.size)).get? (hp.objs.size + 1) = some (PySem.HandSPX.excO C hp.objs.size) := by heap_get
  have I2 : Inv X pins σ (upd H1 (hp.objs.size + 1) (exo (hp.objs.size + 1) C none)) ⟨(hp.push (PySem.W.kdv_tup us)).push (PySem.HandSPX.excO C hp.objs.size), g, dr, tk, os⟩ := I1.laid (t' := tk) laid above (exo_ok there)
  have vals : Vals (V.ref (hp.objs.size + 1) :: (vs ++ dvs)) (Value.ref (hp.objs.size + 1) :: (us ++ ds)) := .cons rfl (r1.append hd)
  have many : (Value.ref (hp.objs.size + 1) :: us ++ ds).length = ps.length := vals.length.symm.trans (F1.len _ _ _ _ run)
  have small : us.length ≤ sizeLine := by
    have z := Paired.length r1
    rw [sizeLine_eq]; omega
  have body := F1.run _ X.stack _ _ ⟨Value.ref (hp.objs.size + 1) :: us, []⟩ (Value.ref (hp.objs.size + 1) :: (us ++ ds)) _ _ (fun _ _ _ => False) (hr.make C us []) (I2.env0.make C us []) (hb _ (Value.ref (hp.objs.size + 1) :: us) I2.kIn many) vals run
  have made := PySem.HandSPX.call_own (R := fun r s' => match r with | .ok (.ret v) => EP X pins σ Q v s' | .ok _ => False | .error er => X.xe er s') F.excBase_ValueError (fun Y => PySem.HandSPX.refsVE_contains Y bm hbm) (I1.kIn _ _ hC) (PySem.W.looks_findIn I1.kIn iC) (fun self => PySem.W.bind_fn I1.kIn self tI) small
    (codeAny_mono body fun r s' z => by
      cases r with
      | error er => exact hx pins σ _ _ er s' I2 z
      | ok fl =>
        cases fl with
        | ret u =>
          obtain ⟨v, H2, J, rv, ev, q⟩ := I2.after z
          subst ev
          exact ⟨rv, ⟨V.ref (hp.objs.size + 1), H2, J, rfl, q⟩⟩
        | next => exact False.elim z
        | brk => exact False.elim z
        | cont => exact False.elim z)
  exact wpAny_call made
theorem pe_mx (T : OexC X.K C) (iC : PySem.W.findIn X.K (.ref C) "__init__" = some (some (.ref fI))) (tI : PySem.W.typeIn X.K (.ref fI) = some (.type "function"))
    (F1 : FnOk X.prog X.w X.K X.mg X.base CX k fI fd ps sp) (hr : Room (k + 1) X.A) (hb : Binds X.K fd ps ds) (hd : Vals dvs ds) (hx : Passes CX X (fun _ _ _ => False)) (hg : Gl X x) (hm : X.mg x = some (.ref C)) (ha : PA X (e :: es) ta)
    (hdb : (x == ("__debug__" : Str)) = false := by decide) (he : starEach (e :: es) X.env = (false, eval e X.env) :: starEach es X.env := by rfl) (hpl : (backTo pos (starEach es X.env)).any (·.1) = false := by rfl) : PE X (.Call (.Name x p) (e :: es) [] pos) (tMx C sp dvs ta) := by
  refine ⟨fun pins s σ H Q I h => wpAny_Call_Name_kw (ld_glob I hg hm ?_ hdb)⟩
  exact PySem.W.callWith_K (h₀ := X.base) I.ok.mod.kin T.kC (thn (ha.run pos pins s σ H _ I h) fun us s1 ⟨vs, H1, I1, r1, hz, q1⟩ => ⟨I1.kIn, run_mx T iC tI F1 hr hb hd hx I1 r1 hz q1⟩) he hpl
theorem pe_mx0 (T : OexC X.K C) (iC : PySem.W.findIn X.K (.ref C) "__init__" = some (some (.ref fI))) (tI : PySem.W.typeIn X.K (.ref fI) = some (.type "function"))
    (F1 : FnOk X.prog X.w X.K X.mg X.base CX k fI fd ps sp) (hr : Room (k + 1) X.A) (hb : Binds X.K fd ps ds) (hd : Vals dvs ds) (hx : Passes CX X (fun _ _ _ => False)) (hg : Gl X x) (hm : X.mg x = some (.ref C))
    (hdb : (x == ("__debug__" : Str)) = false := by decide) : PE X (.Call (.Name x p) [] [] pos) (tMx C sp dvs tNil) := by
  refine ⟨fun pins s σ H Q I h => wpAny_Call_Name_kw (ld_glob I hg hm ?_ hdb)⟩
  obtain ⟨hz, q1⟩ := h
  exact PySem.W.callWith_K0 I.kIn T.kC (run_mx (us := []) T iC tI F1 hr hb hd hx I .nil hz q1)
end

/-! ### C(k = v): keywords -/
namespace Kw
open PySem.HandSPX Builtin Builtin.ObjectAttr PySem.W PySem.Calls
section
variable {prog : Program} {w : World} {A : Around} {E : Value → Shared → Prop} {R : Result → Shared → Prop} {h : Heap} {g : Array GenState} {d : Drawn} {t : Nat} {os : OsState}
variable {nm q : Str} {C N : Addr} {bs bm bB : List Value} {hd : Bool} {sn : List Str} {sub : List Value} {ab : Bool} {col : Option Bool} {dd : Option Addr} {k0 k1 k2 k3 k5 : Option Value} {B nI iI : String} {rest : List Value} {kw : List (Str × Value)}
theorem may (F : ExcBaseFacts B nI iI bB) (hT : ∀ Y : String, bm.contains (.type Y) = bB.contains (.type Y)) {M : Model} {E' : Value → Shared → Prop} {Q : Unit → Shared → Prop}
    (hC : h.get? C = some (excClassObj nm q C N bs bm hd sn sub ab col dd k0 k1 k2 k3 k5 nI)) (hq : Q () ⟨h, g, d, t, os⟩) : wpAny M A (checkBuiltinCall nI ⟨.ref C :: rest, kw⟩) Q E' ⟨h, g, d, t, os⟩ := by
  have inB : (Value.ref C :: bm).contains (.type B) = true := by
    rw [List.contains_cons, hT, F.hasB, Bool.or_true]
  have star := F.noStar
  simp only [checkBuiltinCall, F.newKind, F.newSplit, F.newRow]
  repeat (first | refine wpAny_loadPart_at hC ?_ | (refine wpAny_isSubtype_exc hC ?_; rw [inB]) | refine wpAny_staticBase_exc hC ?_ | refine wpAny_madeBy_exc hC ?_ | simp only [bne_self_eq_false, Bool.false_eq_true, if_false] | wp_step)
  exact hq
theorem anew (F : ExcBaseFacts B nI iI bB) (hT : ∀ Y : String, bm.contains (.type Y) = bB.contains (.type Y)) (hC : h.get? C = some (excClassObj nm q C N bs bm hd sn sub ab col dd k0 k1 k2 k3 k5 nI))
    (hq : R (.ok (.ret (.ref (h.objs.size + 1)))) ⟨(h.push (kdv_tup rest)).push (excO C h.objs.size), g, d, t, os⟩) (hz : rest.length ≤ sizeLine) : codeAny (model prog w) A (.builtin nI ⟨.ref C :: rest, kw⟩) R ⟨h, g, d, t, os⟩ := by
  have fin := F.ends
  have inB : (Value.ref C :: bm).contains (.type B) = true := by
    rw [List.contains_cons, hT, F.hasB, Bool.or_true]
  have inA : (Value.ref C :: bm).contains (.type "AttributeError") = false := by
    rw [List.contains_cons, hT, F.noAttr]; rfl
  have inN : (Value.ref C :: bm).contains (.type "NameError") = false := by
    rw [List.contains_cons, hT, F.noName]; rfl
  refine codeAny_builtinAt F.entry ?_
  unfold Builtin.«BaseException.__new__»
  refine PySem.wpAt_bind ?_
  show PySem.wpAt _ _ _ (stack >>= _) _ _ _
  refine PySem.wpAt_bind (PySem.wpAt_stack fun _ _ => PySem.wpAt_of_wpAny ?_)
  wp_walk
  refine PySem.wpAt_of_wpAny ?_
  rw [F.owner]
  repeat (first | with_reducible refine wpAny_madeHere_exc F.canon hC ?_ | with_reducible refine wpAny_loadPart_at hC ?_ | (with_reducible refine wpAny_isSubtype_exc hC ?_; first | rw [inB] | rw [inA] | rw [inN]) | wp_step)
  show R _ _
  rw [Heap.size_push]
  exact hq
theorem made (F : ExcBaseFacts B nI iI bB) (hT : ∀ Y : String, bm.contains (.type Y) = bB.contains (.type Y)) {fI : Addr} {Q : Fin → Shared → Prop} {E' : Value → Shared → Prop}
    (hC : h.get? C = some (excClassObj nm q C N bs bm hd sn sub ab col dd k0 k1 k2 k3 k5 nI)) (hi : Looks (model prog w) h (typeLookup (.ref C) "__init__") (some (.ref fI))) (hb : ∀ self, Looks (model prog w) h (bindSpecial (.ref fI) self) (.ref fI, [self])) (hz : rest.length ≤ sizeLine)
    (hq : codeAny (model prog w) A (.call (.ref fI) ⟨.ref (h.objs.size + 1) :: rest, kw⟩) (fun r s' => match r with | .ok (.ret v) => v = .none ∧ Q (.done (.ret (.ref (h.objs.size + 1)))) s' | .ok _ => False | .error e => E' e s')
      ⟨(h.push (kdv_tup rest)).push (excO C h.objs.size), g, d, t, os⟩) : wpAny (model prog w) A (Builtin.«type.__call__» ⟨.ref C :: rest, kw⟩) Q E' ⟨h, g, d, t, os⟩ := by
  repeat (first | with_reducible refine wpAny_loadPart_at hC ?_ | with_reducible refine wpAny_madeBy_exc hC ?_ | wp_step)
  refine codeAny_call_builtin_code (Code.quiet_builtin _ F.quiet) (may F hT hC ?_)
  refine anew F hT hC ?_ hz
  show wpAny _ _ _ _ _ _
  have up : ∀ b o, h.get? b = some o → ((h.push (kdv_tup rest)).push (excO C h.objs.size)).get? b = some o := fun b o z => Heap.get?_push_of_some _ (Heap.get?_push_of_some _ z)
  have hC2 := up _ _ hC
  have self : ((h.push (kdv_tup rest)).push (excO C h.objs.size)).get? (h.objs.size + 1) = some (excO C h.objs.size) := by heap_get
  have own : (Value.ref C :: bm).contains (.ref C) = true := by simp
  have i2 := hi.keeps up
  have b2 := (hb (.ref (h.objs.size + 1))).keeps up
  unfold isInstance
  repeat (first | with_reducible refine wpAny_loadPart_at self ?_ | (with_reducible refine wpAny_isSubtype_exc hC2 ?_; rw [own]) | wp_step)
  show wpAny _ _ (typeLookup (.ref C) _) _ _ _
  refine i2.at (wpAny_holding (wpAny_bind (b2.at (wpAny_bind (wpAny_call (codeAny_mono hq fun r s' z => ?_))))))
  rcases r with e | (v | _ | _ | _) <;> first | exact z | exact z.elim | skip
  obtain ⟨rfl, z⟩ := z
  first
    | exact wpAny_pure (wpAny_pure z)
    | (wp_walk; exact z)
theorem called (F : ExcBaseFacts B nI iI bB) (hT : ∀ Y : String, bm.contains (.type Y) = bB.contains (.type Y)) {fI : Addr} (hC : h.get? C = some (excClassObj nm q C N bs bm hd sn sub ab col dd k0 k1 k2 k3 k5 nI))
    (hi : Looks (model prog w) h (typeLookup (.ref C) "__init__") (some (.ref fI))) (hb : ∀ self, Looks (model prog w) h (bindSpecial (.ref fI) self) (.ref fI, [self])) (hz : rest.length ≤ sizeLine)
    (hq : codeAny (model prog w) (A.under (.builtin "type.__call__" ⟨.ref C :: rest, kw⟩)) (.call (.ref fI) ⟨.ref (h.objs.size + 1) :: rest, kw⟩) (InitBack (h.objs.size + 1) R) ⟨(h.push (kdv_tup rest)).push (excO C h.objs.size), g, d, t, os⟩) :
    codeAny (model prog w) A (.call (.ref C) ⟨rest, kw⟩) R ⟨h, g, d, t, os⟩ := by
  have f1 := tc_lookup
  have f2 := tc_bind (.ref C)
  have ty : (⟨h, g, d, t, os⟩ : Shared).TypeIs (.ref C) "type" := ⟨_, hC, rfl⟩
  refine codeAny_of_tree ?_
  show wpAny _ _ (callAny (.ref C) _) _ _ _
  repeat (any_goals (first | assumption | with_reducible refine wpAny_loadPart_at hC ?_ | wp_step))
  refine ⟨rfl, codeAny_call_builtin_at (Code.quiet_builtin _ (by decide +kernel)) entry_typeCall (wpAny_check_type_call_sub hC (made F hT hC hi hb hz (codeAny_mono hq fun r s' z => ?_)))⟩
  rcases r with e | (v | _ | _ | _) <;> exact z
end
end Kw
/-- defaults, no keyword-only parameters; the keywords fill the places of the defaults -/
theorem kbinds1 {K : PySem.W.Frag} {x qual : Str} {params : Arguments} {body : List Stmt} {scope : Scope} {dvs : List V} {f : Addr} {fd : FuncData} {ps ks : List Str} {n : Nat} (F : FunD K x qual params body scope dvs [] f fd) (hd : dvs ≠ [])
    (h : ∀ (T : Addr) (kV doc pm : Value) (an : Option Addr) (cdv ct : Value) (us its ws : List Value), us.length = n → its.length = dvs.length → ws.length = ks.length →
      ∃ k, bindArgs (PySem.W.fnOf x qual params body scope (.ref T) kV doc pm an cdv ct) ⟨us, ks.zip ws⟩ = seqItems? (.ref T) >>= k ∧ k (some its.toArray) = pure (ps.zip (us ++ ws))) : KBn K fd ps n ks (fun us ws => us ++ ws) (fun vs zs => vs ++ zs) := by
  obtain ⟨oc, od, dV, kV, doc, pm, an, cdv, ct, osl, rfl, lk, hcd, hD, hK⟩ := F.ex
  rcases hD with ⟨e, _⟩ | ⟨_, T, o, its, m, rfl, lT, oT, rT⟩
  · exact absurd e hd
  · refine ⟨fun s us ws X l1 l2 => BindsTo.of_looks fun M => ?_, fun r1 r2 => r1.append r2⟩
    obtain ⟨k, e1, e2⟩ := h T kV doc pm an cdv ct us its ws l1 rT.length.symm l2
    rw [e1]
    exact looks_items X lT oT (.of_pure e2)
def tMxK (C : Addr) (m : Nat) (sp : Sp) (tk : TA) : TE := fun σ H Q => tk σ H fun zs H1 => zs.length = m ∧ ∀ a, H1 a = none → sp (.ref a :: zs) (upd H1 a (exo a C none)) (fun v H2 => v = .non ∧ Q (.ref a) H2) (fun _ _ _ => False)
section
variable {X : Cx} {CX : CXT} {x : Str} {C fI : Addr} {k : Nat} {fd : FuncData} {ps ks : List Str} {sp : Sp} {kws : List Keyword} {tk : TA} {p pos : Pos}
theorem run_mxK {pins : List (Addr × Obj)} {σ : L2.St} {H1 : Hp} {s1 : Shared} {Q : VK} {ws : List Value} {zs : List V} (T : OexC X.K C) (iC : PySem.W.findIn X.K (.ref C) "__init__" = some (some (.ref fI))) (tI : PySem.W.typeIn X.K (.ref fI) = some (.type "function"))
    (F1 : FnOk X.prog X.w X.K X.mg X.base CX k fI fd ps sp) (hr : Room (k + 1) X.A) (hb : KBn X.K fd ps 1 ks (fun us ws => us ++ ws) (fun vs zs => vs ++ zs)) (hx : Passes CX X (fun _ _ _ => False)) (I1 : Inv X pins σ H1 s1) (rz : Vals zs ws) (hz : zs.length = ks.length)
    (q1 : ∀ a, H1 a = none → sp (.ref a :: zs) (upd H1 a (exo a C none)) (fun v H2 => v = .non ∧ Q (.ref a) H2) (fun _ _ _ => False)) : wpAny (model X.prog X.w) X.A (call (.ref C) [] (ks.zip ws)) (EP X pins σ Q) X.xe s1 := by
  obtain ⟨nm, qn, N, bs, bm, sn, sub, ab, col, dd, k0, k1, k2, k3, k5, hC, hbm⟩ := T.cls
  obtain ⟨hp, g, dr, tn, os⟩ := s1
  have above : hp.objs.size ≤ hp.objs.size + 1 := Nat.le_succ _
  have run := q1 _ (I1.hok.fresh above)
  have laid : ∀ b o, hp.get? b = some o → ((hp.push (PySem.W.kdv_tup [])).push (PySem.HandSPX.excO C hp.objs.size)).get? b = some o := fun b o z => Heap.get?_push_of_some _ (Heap.get?_push_of_some _ z)
  have there : ((hp.push (PySem.W.kdv_tup [])).push (PySem.HandSPX.excO C hp.objs.size)).get? (hp.objs.size + 1) = some (PySem.HandSPX.excO C hp.objs.size) := by heap_get
  have I2 : Inv X pins σ (upd H1 (hp.objs.size + 1) (exo (hp.objs.size + 1) C none)) ⟨(hp.push (PySem.W.kdv_tup [])).push (PySem.HandSPX.excO C hp.objs.size), g, dr, tn, os⟩ := I1.laid (t' := tn) laid above (exo_ok there)
  have body := F1.run _ X.stack _ _ ⟨[Value.ref (hp.objs.size + 1)], ks.zip ws⟩ (Value.ref (hp.objs.size + 1) :: ws) (V.ref (hp.objs.size + 1) :: zs) _ (fun _ _ _ => False) (hr.make C [] (ks.zip ws)) (I2.env0.make C [] (ks.zip ws)) (hb.to _ [Value.ref (hp.objs.size + 1)] ws I2.kIn rfl (rz.length.symm.trans hz)) (Paired.cons (show RelV (V.ref _) _ from rfl) rz) run
  exact wpAny_call (Kw.called (R := fun r s' => match r with | .ok (.ret v) => EP X pins σ Q v s' | .ok _ => False | .error er => X.xe er s') F.excBase_ValueError (fun Y => PySem.HandSPX.refsVE_contains Y bm hbm) (I1.kIn _ _ hC) (PySem.W.looks_findIn I1.kIn iC) (fun self => PySem.W.bind_fn I1.kIn self tI) (Nat.zero_le _)
    (codeAny_mono body fun r s' z => by
      cases r with
      | error er => exact hx pins σ _ _ er s' I2 z
      | ok fl =>
        cases fl with
        | ret u =>
          obtain ⟨v, H2, J, rv, ev, q⟩ := I2.after z
          subst ev
          exact ⟨rv, ⟨V.ref (hp.objs.size + 1), H2, J, rfl, q⟩⟩
        | next => exact False.elim z
        | brk => exact False.elim z
        | cont => exact False.elim z))
end
/-! ### own error classes with one field -/
/-- what their __init__ keeps: self.f = y -/
def SpI (C : Addr) (f : Str) : Sp := fun vs H Q _ => ∃ a y, vs = [.ref a, y] ∧ H a = some (exo a C none) ∧ ∀ dx, H dx = none → dx ≠ a → Q .non (upd (upd H dx (exd dx [(f, y)])) a (exo a C (some dx)))
structure OwnE (K : PySem.W.Frag) (mg : Str → Option Value) (x : Str) (C : Addr) (f p : Str) : Prop where
  m : mg x = some (.ref C)
  ox : OexC K C
  ex : ∃ fI fd, PySem.W.findIn K (.ref C) "__init__" = some (some (.ref fI)) ∧ PySem.W.typeIn K (.ref fI) = some (.type "function") ∧ (∃ ds, Vals [V.non] ds ∧ Binds K fd ["self", p] ds) ∧ Binds K fd ["self", p] [] ∧
    KBn K fd ["self", p] 1 [p] (fun us ws => us ++ ws) (fun vs zs => vs ++ zs) ∧ ∀ P w base, FnOk P w K mg base CX0 1 fI fd ["self", p] (SpI C f)
/-- the reading: an error of the class at C with the field f -/
def tErr (C : Addr) (f : Str) (ta : TA) : TE := fun σ H Q => ta σ H fun vs H1 => ∃ y, vs = [y] ∧ ∀ a H2, Same H1 H2 → H1 a = none → Err H2 a C [(f, y)] → Q (.ref a) H2
theorem spi_of {C : Addr} {f : Str} {y : V} {H1 : Hp} {Q : VK} {E : XK} (h : ∀ a H2, Same H1 H2 → H1 a = none → Err H2 a C [(f, y)] → Q (.ref a) H2) (a : Addr) (na : H1 a = none) : SpI C f [.ref a, y] (upd H1 a (exo a C none)) (fun v H2 => v = .non ∧ Q (.ref a) H2) E := by
  refine ⟨a, y, rfl, upd_same, fun dx nd ne => ⟨rfl, h a _ (fun b o e => ?_) na ⟨dx, upd_same, ?_⟩⟩⟩
  · have e1 : b ≠ a := fun z => by rw [z, na] at e; cases e
    rw [upd_ne ne] at nd
    have e2 : b ≠ dx := fun z => by rw [z, nd] at e; cases e
    rw [upd_ne e1, upd_ne e2, upd_ne e1]
    exact e
  · rw [upd_ne ne, upd_same]
section
variable {X : Cx} {x f q : Str} {C : Addr} {e : Expr} {te : TE} {p pos : Pos}
theorem pe_err (O : OwnE X.K X.mg x C f q) (hr : Room 2 X.A) (hg : Gl X x) (he : PE X e te)
    (hdb : (x == ("__debug__" : Str)) = false := by decide) (hs : starEach [e] X.env = (false, eval e X.env) :: starEach [] X.env := by rfl) : PE X (.Call (.Name x p) [e] [] pos) (tErr C f (tCons te tNil)) := by
  obtain ⟨fI, fd, iC, tI, _, b1, _, ok⟩ := O.ex
  refine ⟨fun pins s σ H Q I h => wpAny_Call_Name_kw (ld_glob I hg O.m ?_ hdb)⟩
  exact PySem.W.callWith_K (h₀ := X.base) I.ok.mod.kin O.ox.kC (thn ((pa_cons he pa_nil hs).run pos pins s σ H _ I h) fun us s1 ⟨vs, H1, I1, r1, y, ey, q1⟩ => ⟨I1.kIn, by
    subst ey
    exact run_mx (vs := [y]) (dvs := []) O.ox iC tI (ok X.prog X.w X.base) hr b1 .nil pass0 I1 r1 (by simp) (fun a na => spi_of q1 a na)⟩) hs (by rfl)
theorem pe_err0 (O : OwnE X.K X.mg x C f q) (hr : Room 2 X.A) (hg : Gl X x) (hdb : (x == ("__debug__" : Str)) = false := by decide) : PE X (.Call (.Name x p) [] [] pos) (tErr C f (tCons (tC .non) tNil)) := by
  obtain ⟨fI, fd, iC, tI, ⟨ds, hd, b0⟩, _, _, ok⟩ := O.ex
  refine ⟨fun pins s σ H Q I h => wpAny_Call_Name_kw (ld_glob I hg O.m ?_ hdb)⟩
  have h' : ∃ y, [V.non] = [y] ∧ ∀ a H2, Same H H2 → H a = none → Err H2 a C [(f, y)] → Q (.ref a) H2 := h
  obtain ⟨y, ey, q1⟩ := h'
  cases ey
  exact PySem.W.callWith_K0 I.kIn O.ox.kC (run_mx (us := []) (vs := []) (dvs := [V.non]) O.ox iC tI (ok X.prog X.w X.base) hr b0 hd pass0 I .nil (by simp) (fun a na => spi_of q1 a na))
theorem pe_errK {kp : Pos} (O : OwnE X.K X.mg x C f q) (hr : Room 2 X.A) (hg : Gl X x) (he : PE X e te) (hdb : (x == ("__debug__" : Str)) = false := by decide) 
    (hall : (backToKw pos (keywordEach [⟨some q, e, kp⟩] X.env)).all (·.1.isSome) = true := by rfl) (hks : (backToKw pos (keywordEach [⟨some q, e, kp⟩] X.env)).filterMap (·.1) = [q] := by rfl)
    (hpl : ((backTo pos (starEach [] X.env)).any (·.1) || (backToKw pos (keywordEach [⟨some q, e, kp⟩] X.env)).any (·.1.isNone)) = false := by rfl) : PE X (.Call (.Name x p) [] [⟨some q, e, kp⟩] pos) (tErr C f (tCons te tNil)) := by
  obtain ⟨fI, fd, iC, tI, _, _, bk, ok⟩ := O.ex
  refine ⟨fun pins s σ H Q I h => wpAny_Call_Name_kw (ld_glob I hg O.m ?_ hdb)⟩
  refine PySem.W.callWith_KW0 (h₀ := X.base) I.ok.mod.kin O.ox.kC hall ?_ hpl
  refine thn ((pk_cons he pk_nil).run pos pins s σ H _ I h) fun ws s1 ⟨zs, H1, I1, rz, y, ey, q1⟩ => ⟨I1.kIn, ?_⟩
  subst ey
  rw [hks]
  exact run_mxK O.ox iC tI (ok X.prog X.w X.base) hr bk pass0 I1 rz rfl (fun a na => spi_of q1 a na)
end
/-- C(), C an own error class without an __init__ of its own -/
def tErr0 (C : Addr) : TE := fun _ H Q => ∀ a, H a = none → Q (.ref a) (upd H a (exo a C none))
theorem pe_bare {X : Cx} {C : Addr} {bB : List Value} {B nI iI : String} {x : Str} {p pos : Pos} (F : ExcBaseFacts B nI iI bB) (q : PySem.W.excIn X.K C bB nI = true) (gC : X.mg x = some (.ref C)) (kC : PySem.W.keepIn X.K (.ref C) = true) (hg : Gl X x)
    (hdb : (x == ("__debug__" : Str)) = false := by decide) : PE X (.Call (.Name x p) [] [] pos) (tErr0 C) := by
  refine ⟨fun pins s σ H Q I h => wpAny_Call_Name_kw (ld_glob I hg gC ?_ hdb)⟩
  refine PySem.W.callWith_K0 I.kIn kC ?_
  obtain ⟨bm, N, nm, qn, bs, hdct, sn, sub, ab, col, dd, k0, k1, k2, k3, k5, mN, hC, hN, hni, T⟩ := exc_obj I.kIn q
  refine wpAny_call_exc_subT F T hC hN hni (fun h' a hm => ?_) (Nat.zero_le _)
  have hn : H a = none := I.hok.gone hm.new
  obtain ⟨t, ht, _, _⟩ := hm.there
  exact ⟨.ref a, _, I.laidN hm.keeps hm.new hn (exo_ok ht), rfl, h a hn⟩
end TX

set_option Elab.async false
set_option linter.all false
set_option maxRecDepth 100000
set_option maxHeartbeats 4000000
/-! TR: repr of plain data; defs that ask for it (no repr is under way around them). -/
namespace TR
open PySem PySem.Spec PyProof.Rows L2

/-! ### plain data over the abstract heap -/
def keyD : Key → PyData
  | .inl i => .int i
  | .inr x => .str x
mutual
inductive DV (H : Hp) (c : Bool) : V → PyData → Prop
  | non : DV H c .non .none
  | bl (b : Bool) : DV H c (.bl b) (.bool b)
  | int (i : Int) : DV H c (.int i) (.int i)
  | str (x : Str) : DV H c (.str x) (.str x)
  | lst {a : Addr} {xs : List V} {ds : List PyData} : (c = true → a ≠ sysModules) → H a = some (.lst xs) → DVs H c xs ds → DV H c (.ref a) (.list ds)
  | tup {a : Addr} {xs : List V} {ds : List PyData} : H a = some (.tup xs) → DVs H c xs ds → DV H c (.ref a) (.tuple ds)
  | dic {a : Addr} {kvs : List (Key × V)} {ds : List (PyData × PyData)} : H a = some (.dK kvs) → DVk H c kvs ds → DV H c (.ref a) (.dict ds)
inductive DVs (H : Hp) (c : Bool) : List V → List PyData → Prop
  | nil : DVs H c [] []
  | cons {x : V} {d : PyData} {xs : List V} {ds : List PyData} : DV H c x d → DVs H c xs ds → DVs H c (x :: xs) (d :: ds)
inductive DVk (H : Hp) (c : Bool) : List (Key × V) → List (PyData × PyData) → Prop
  | nil : DVk H c [] []
  | cons {k : Key} {x : V} {d : PyData} {xs : List (Key × V)} {ds : List (PyData × PyData)} : DV H c x d → DVk H c xs ds → DVk H c ((k, x) :: xs) ((keyD k, d) :: ds)
end
mutual
theorem DV.same {H H' : Hp} {c : Bool} (h : ∀ a o, H a = some o → H' a = some o) : ∀ {x : V} {d : PyData}, DV H c x d → DV H' c x d
  | _, _, .non => .non
  | _, _, .bl b => .bl b
  | _, _, .int i => .int i
  | _, _, .str x => .str x
  | _, _, .lst z e r => .lst z (h _ _ e) (DVs.same h r)
  | _, _, .tup e r => .tup (h _ _ e) (DVs.same h r)
  | _, _, .dic e r => .dic (h _ _ e) (DVk.same h r)
theorem DVs.same {H H' : Hp} {c : Bool} (h : ∀ a o, H a = some o → H' a = some o) : ∀ {x : List V} {d : List PyData}, DVs H c x d → DVs H' c x d
  | _, _, .nil => .nil
  | _, _, .cons r t => .cons (DV.same h r) (DVs.same h t)
theorem DVk.same {H H' : Hp} {c : Bool} (h : ∀ a o, H a = some o → H' a = some o) : ∀ {x : List (Key × V)} {d : List (PyData × PyData)}, DVk H c x d → DVk H' c x d
  | _, _, .nil => .nil
  | _, _, .cons r t => .cons (DV.same h r) (DVk.same h t)
end
theorem pairs_rd {P : Program} {w : World} : ∀ {es : List DictEntry} {kvs : List (Key × V)} {vs : List (Key × Value)}, PySem.Pairs (mixKind P w) es vs → KV kvs vs →
    Paired (fun (p : Key × V) (e : DictEntry) => keyIs p.1 e.key = true ∧ RelV p.2 e.val) kvs es
  | _, _, _, .nil, .nil => .nil
  | _, _, _, .cons h1 h2 t, .cons r k => .cons ⟨by rw [r.1]; exact h1, by rw [h2]; exact r.2⟩ (pairs_rd t k)
theorem key_rd {h : Heap} {k : Key} {v : Value} (e : keyIs k v = true) : Reads h v (keyD k) [] := by
  rcases keyIs_shape e with ⟨i, t, rfl, rfl⟩ | ⟨x, t, rfl, rfl⟩
  · exact .int i t
  · exact .str x t
section
variable {P : Program} {w : World} {H : Hp} {h : Heap} {c : Bool}
mutual
theorem DV.rd (ok : HOk P w H h) : ∀ {x : V} {d : PyData} {u : Value}, DV H c x d → RelV x u → ∃ as, Reads h u d as ∧ (c = true → sysModules ∉ as)
  | _, _, _, .non, r => by cases (show _ = Value.none from r); exact ⟨_, .none, fun _ => by simp⟩
  | _, _, _, .bl b, r => by cases (show _ = Value.bool b from r); exact ⟨_, .bool b, fun _ => by simp⟩
  | _, _, _, .int i, r => by obtain ⟨t, rfl⟩ := (show ∃ t, _ = Value.int i t from r); exact ⟨_, .int i t, fun _ => by simp⟩
  | _, _, _, .str x, r => by obtain ⟨t, rfl⟩ := (show ∃ t, _ = Value.str x t from r); exact ⟨_, .str x t, fun _ => by simp⟩
  | _, _, _, @DV.lst _ _ a xs ds y e q, r => by
    cases (show _ = Value.ref a from r)
    obtain ⟨_, its, n, rv, g⟩ := (show ObjOk P w H h a (.lst xs) from ok a _ e)
    obtain ⟨as, z, zs⟩ := DVs.rd ok q rv
    exact ⟨_, .list (vs := its.toArray) g rfl rfl z, fun hc => by simpa using ⟨(y hc).symm, zs hc⟩⟩
  | _, _, _, @DV.tup _ _ a xs ds e q, r => by
    cases (show _ = Value.ref a from r)
    obtain ⟨_, its, rv, o, g, k, n, dt⟩ := (show ObjOk P w H h a (.tup xs) from ok a _ e)
    obtain ⟨as, z, zs⟩ := DVs.rd ok q rv
    exact ⟨_, .tuple (vs := its.toArray) g k dt z, zs⟩
  | _, _, _, @DV.dic _ _ a kvs ds e q, r => by
    cases (show _ = Value.ref a from r)
    obtain ⟨_, sm, vs, kv, o, es, ep, g, k, dt, _, pr, _⟩ := (show ObjOk P w H h a (.dK kvs) from ok a _ e)
    obtain ⟨as, bs, z1, z2, z3, z4⟩ := DVk.rd ok q (pairs_rd pr kv)
    exact ⟨_, .dict g k.1 dt z1 z2, fun hc => by simpa using ⟨(beq_eq_false_iff_ne.mp sm).symm, z3 hc, z4 hc⟩⟩
theorem DVs.rd (ok : HOk P w H h) : ∀ {x : List V} {d : List PyData} {u : List Value}, DVs H c x d → Vals x u → ∃ as, ReadsAll h u d as ∧ (c = true → sysModules ∉ as)
  | _, _, _, .nil, .nil => ⟨_, .nil, fun _ => by simp⟩
  | _, _, _, .cons q t, .cons r s => by
    obtain ⟨_, z, y⟩ := DV.rd ok q r
    obtain ⟨_, z', y'⟩ := DVs.rd ok t s
    exact ⟨_, .cons z z', fun hc => by simpa using ⟨y hc, y' hc⟩⟩
theorem DVk.rd (ok : HOk P w H h) : ∀ {x : List (Key × V)} {d : List (PyData × PyData)} {es : List DictEntry}, DVk H c x d → Paired (fun (p : Key × V) (e : DictEntry) => keyIs p.1 e.key = true ∧ RelV p.2 e.val) x es →
    ∃ as bs, ReadsAll h (es.map (·.key)) (d.map (·.1)) as ∧ ReadsAll h (es.map (·.val)) (d.map (·.2)) bs ∧ (c = true → sysModules ∉ as) ∧ (c = true → sysModules ∉ bs)
  | _, _, _, .nil, .nil => ⟨_, _, .nil, .nil, fun _ => by simp, fun _ => by simp⟩
  | _, _, _, .cons q t, .cons r s => by
    obtain ⟨_, z, y⟩ := DV.rd ok q r.2
    obtain ⟨_, _, z1, z2, z3, z4⟩ := DVk.rd ok t s
    exact ⟨_, _, .cons (key_rd r.1) z1, .cons z z2, fun hc => by simpa using z3 hc, fun hc => by simpa using ⟨y hc, z4 hc⟩⟩
end
end
/-- repr(x) of plain data -/
def rRepr : List V → Hp → VK → Prop := fun xs H Q => ∃ (a : Addr) (d : PyData) (c : Bool), xs = [.ref a] ∧ DV H c (.ref a) d ∧ (d.hasDict = true → c = true) ∧ d.showable = true ∧ d.depth ≤ 60 ∧ d.shown.length ≤ sizeLine ∧ Q (.str d.shown) H
theorem cr_repr {X : Cx} (hg : X.A.guards = some []) (hu : X.A.units + 64 < cLine) : CallR X (.builtin "repr") rRepr := by
  intro pins s σ H xs us Q I r h
  obtain ⟨a, d, c, rfl, hd, hc, hs, hp, hz, q⟩ := h
  obtain ⟨u, rfl, ru⟩ := r.one
  cases (show u = Value.ref a from ru)
  obtain ⟨as, rd, ap⟩ := DV.rd I.hok hd (show RelV (.ref a) (.ref a) from rfl)
  exact repr_of_reads' rd hs (fun z => ap (hc z)) hg (by omega) (fun _ _ z => z) (fun h' u tk hk => ⟨.str d.shown, H, I.kept (t' := tk) hk, ⟨u, rfl⟩, q⟩) hz

/-! ### lists whose address is known not to be the table of modules -/
def rCatN : R2 := fun x y H Q => ∃ l b xs zs, x = .ref l ∧ y = .ref b ∧ H l = some (.lst xs) ∧ H b = some (.lst zs) ∧ xs.length + zs.length ≤ sizeLine ∧ ∀ p, H p = none → p ≠ sysModules → Q (.ref p) (upd H p (.lst (xs ++ zs)))
theorem op_catN {X : Cx} : OpR X (binaryOp .Add) rCatN := by
  intro pins s σ H x y v u Q I rx ry hh
  obtain ⟨l, b, xs, zs, e1, e2, hl, hb, hz, k⟩ := hh
  subst e1 e2
  cases rx
  cases ry
  obtain ⟨_, us, n, rl, ll, gl⟩ := I.lstM hl
  obtain ⟨_, ws, m, rb, lb, gb⟩ := I.lstM hb
  refine PySem.P.add_list gl gb ?_ (by simp only [List.size_toArray]; omega)
  rw [show us.toArray ++ ws.toArray = (us ++ ws).toArray by simp]
  exact ⟨.ref _, _, I.lnew (t' := s.toks) (rl.append rb) (by simpa using hz), rfl, k _ I.fresh (Nat.ne_of_gt I.big)⟩
def rRepN : R2 := fun x y H Q => ∃ l z k, x = .ref l ∧ y = .int k ∧ H l = some (.lst [z]) ∧ 0 ≤ k ∧ k ≤ 1000 ∧ ∀ p, H p = none → p ≠ sysModules → Q (.ref p) (upd H p (.lst (List.replicate k.toNat z)))
theorem op_repN {X : Cx} : OpR X (binaryOp .Mult) rRepN := by
  intro pins s σ H x y v u Q I rx ry hh
  obtain ⟨l, z, k, e1, e2, hl, k0, k1, go⟩ := hh
  subst e1 e2
  cases rx
  obtain ⟨tk, rfl⟩ := ry
  obtain ⟨_, us, n, rl, ll, gl⟩ := I.lstM hl
  have small : us.toArray.size * k.toNat ≤ sizeLine := by
    rw [List.size_toArray, ← ll, sizeLine_eq]; simp; omega
  have cap : ¬ us.toArray.size * k.toNat > (2 ^ 63 - 1) / 8 := by
    have : (sizeLine : Nat) ≤ (2 ^ 63 - 1) / 8 := by decide
    omega
  have fits : ¬ (!Builtin.List.listFitsIndex k) = true := by
    rw [fitsIndex_both (by omega) (by omega)]; decide
  have long : ¬ Builtin.List.listTooLong (us.toArray.size * k.toNat) = true := by
    rw [notLongL small]; decide
  have all : List.foldl (fun x1 x2 => x1 ++ x2) #[] (List.replicate (if us.toArray.isEmpty = true then 0 else k.toNat) us.toArray) = (List.replicate k.toNat us).flatten.toArray := by
    have go : ∀ m : Nat, List.foldl (fun x1 x2 => x1 ++ x2) #[] (List.replicate m us.toArray) = (List.replicate m us).flatten.toArray := fun m => by
      simpa using foldl_rep us m []
    rw [go]
    cases us with
    | nil => simp
    | cons _ _ => simp
  refine wpAny_binaryOp_repeat_ref (T := "list") (U := "int") (by decide) ⟨_, gl, rfl⟩ (fun s' => typeIs_int s' k tk) noFill_list_mul F.fills_int_mul F.slot_int_rmul repeat_list F.slot_int_index.lookup ?_
  refine call_meets F.slot_int_rmul (typeIs_int s k tk) F.entry_int_rmul (F.args_int_rmul_2 _ _) (int___rmul___int_list k tk l us.toArray n) ⟨gl, rfl, ⟨_, gl, rfl⟩, ?_⟩
  refine call_meets F.slot_list_mul ⟨_, gl, rfl⟩ F.entry_list_mul (F.args_list_mul_2 _ _) (AutoListH.list___mul___list_int_3 l us.toArray n k tk fits cap long) ⟨gl, ?_⟩
  rw [all]
  have e : (List.replicate k.toNat [z]).flatten = List.replicate k.toNat z := by
    simp [List.flatten_replicate_singleton]
  have rr := rl.rep k.toNat
  rw [e] at rr
  exact ⟨.ref _, _, I.lnew (t' := s.toks) rr (by rw [List.length_replicate, sizeLine_eq]; omega), rfl, go _ I.fresh (Nat.ne_of_gt I.big)⟩

/-! ### defs around which no repr is under way -/
structure FnG (P : Program) (w : World) (K : PySem.W.Frag) (mg : Str → Option Value) (base : Heap) (CX : CXT) (k : Nat) (f : Addr) (fd : FuncData) (ps : List Str) (sp : Sp) : Prop where
  len : ∀ vs H Q E, sp vs H Q E → vs.length = ps.length
  run : ∀ (A : Around), A.guards = some [] → ∀ (outer : List Env) (s : Shared) (H : Hp) (args : Args) (us : List Value) (vs : List V) (Q : VK) (E : XK), Room k A → Env0 P w K mg base A outer s H → BindsTo s fd args (ps.zip us) → Vals vs us → sp vs H Q E →
    codeAny (model P w) A (.call (.ref f) args) (CR CX outer P w H s Q E) s
section
variable {X : Cx} {CX : CXT} {k : Nat} {f : Addr} {fd : FuncData} {ps : List Str} {sp : Sp} {ds : List Value} {dvs : List V} {E : XK} {x : Str} {e : Expr} {es : List Expr} {t : TA} {p pos : Pos}
theorem pe_callG (F : FnG X.prog X.w X.K X.mg X.base CX k f fd ps sp) (hG : X.A.guards = some []) (hr : Room k X.A) (hg : Gl X x) (hm : X.mg x = some (.ref f)) (hk : PySem.W.keepIn X.K (.ref f) = true) (hb : Binds X.K fd ps ds) (hd : Vals dvs ds) (hx : Passes CX X E)
    (ha : PA X (e :: es) t) (hdb : (x == ("__debug__" : Str)) = false := by decide) (he : starEach (e :: es) X.env = (false, eval e X.env) :: starEach es X.env := by rfl) (hpl : (backTo pos (starEach es X.env)).any (·.1) = false := by rfl) :
    PE X (.Call (.Name x p) (e :: es) [] pos) (tCall sp dvs E t) := by
  refine ⟨fun pins s σ H Q I h => wpAny_Call_Name_kw (ld_glob I hg hm ?_ hdb)⟩
  refine PySem.W.callWith_K (h₀ := X.base) I.ok.mod.kin hk (thn (ha.run pos pins s σ H _ I h) fun us s1 ⟨vs, H1, J, r, q⟩ => ⟨J.kIn, ?_⟩) he hpl
  have rr : Vals (vs ++ dvs) (us ++ ds) := r.append hd
  have bound := hb s1 us J.kIn (rr.length.symm.trans (F.len _ _ _ _ q))
  refine wpAny_call (codeAny_mono (F.run X.A hG X.stack s1 H1 ⟨us, []⟩ (us ++ ds) (vs ++ dvs) Q E hr J.env0 bound rr q) fun res s' z => ?_)
  cases res with
  | error er => exact hx pins σ H1 s1 er s' J z
  | ok fl =>
    cases fl with
    | ret u => exact J.after z
    | next => exact False.elim z
    | brk => exact False.elim z
    | cont => exact False.elim z
end
section
variable {P : Program} {w : World} {K : PySem.W.Frag} {mg : Str → Option Value} {base : Heap}
/-- a def by its body, no repr under way -/
theorem okG {x qual : Str} {st : Stmt} {f : Addr} {fd : FuncData} {N ps : List Str} {k : Nat} {sp : Sp} (F : Fun K x qual st f fd) (S : FnScope N ps (defScope st)) (len : ∀ vs H Q E, sp vs H Q E → vs.length = ps.length)
    (hbody : ∀ (cdv : Value) (A : Around) (outer : List Env) (s : Shared) (H : Hp) (vs : List V) (Q : VK) (E : XK), (A.deeper (envOfC qual (defScope st) s.heap.objs.size f cdv)).guards = some [] → Room k (A.deeper (envOfC qual (defScope st) s.heap.objs.size f cdv)) → sp vs H Q E →
      ∃ t, PSs (cxOf CX0 P w K mg base N qual (defScope st) f cdv A outer s H E).nox (defBody st) t ∧ t { nx := fun _ H' => Q .non H', rt := Q } (start N vs) H) : FnG P w K mg base CX0 (k + 1) f fd ps sp := by
  obtain ⟨oc, od, kV, doc, pm, an, cdv, ct, osl, rfl, lk, hcd⟩ := F.ex
  refine ⟨len, fun A hG outer s H args us vs Q E room e0 bound r pre => ?_⟩
  have many := len _ _ _ _ pre
  have KX : K.In s.heap := e0.mod.kin.keeps fun b o z => (e0.bs b o z).1
  have lim : s.heap.NoLimit := e0.mod.nolimit.keeps fun b o z => (e0.bs b o z).1
  have kinds : ∀ y ∈ ps.zip us, (defScope st).names.lookup y.1 = some .local ∨ ((defScope st).names.lookup y.1 = some .cell ∧ ((cellsFrom (s.heap.objs.size + 1) (defScope st).names []).lookup y.1).isSome = true) := fun y hy => by
    have mem : y.1 ∈ ps := (List.of_mem_zip (show (y.1, y.2) ∈ ps.zip us from hy)).1
    rcases S.par y.1 mem with z | z
    · exact .inl z
    · exact .inr ⟨z, PySem.W.cellsFrom_some _ _ _ (.inl z)⟩
  refine codeAny_call_function room.depth (KX _ _ lk) rfl S.co S.gen rfl (PySem.W.codeRec_of KX hcd) (bound _ _ _ _ ?_)
  refine wpAny_newFunctionEnv_cells S.kind kinds fun env henv s1 inside => ?_
  subst henv
  refine ⟨lim.keeps inside.toInCall.keep, codeAny_func ?_⟩
  obtain ⟨t, ht0, go⟩ := hbody cdv A outer s H vs Q E hG (room.deeper _) pre
  have ht := ht0.nox
  have I : Inv (cxOf CX0 P w K mg base N qual (defScope st) f cdv A outer s H E) [] (start N vs) H s1 := inv_start S room.hd e0 many r inside
  refine wpAny_mono (ht.run [] s1 (start N vs) H _ I go) (fun fl s' z => ?_) fun _ _ z => z
  have back : ∀ {σ' : L2.St} {H' : Hp} {v : V} {u : Value}, Inv (cxOf CX0 P w K mg base N qual (defScope st) f cdv A outer s H E) [] σ' H' s' → RelV v u → Q v H' → CE outer P w H s Q u s' := fun {σ' H' v u} J rv q => ⟨v, H', J.os, J.bare, J.base, J.hok, rv, q⟩
  cases fl with
  | ret u =>
    obtain ⟨v, σ', H', J, rv, q⟩ := z
    exact back J rv q
  | next =>
    obtain ⟨σ', H', J, q⟩ := z
    exact back (v := V.non) (u := Value.none) J rfl q
  | brk => exact False.elim z.choose_spec.choose_spec.2
  | cont => exact False.elim z.choose_spec.choose_spec.2
end

/-! ### the law's own def -/
section
variable {P : Program} {w : World} {K : PySem.W.Frag} {mg mb : Str → Option Value} {CX : CXT} {k : Nat} {fa a : Addr} {fd : FuncData} {x : Str} {sp : Sp} {t : Shared} {us : List Value} {ns : List Int}
/-- what the call leaves -/
abbrev Fine (t : Shared) : Result → Shared → Prop := fun r t' => r = .ok (.ret (.bool true)) ∧ OldK t.heap t'.heap ∧ t'.os = t.os ∧ AllBare t'.gens
theorem lawH (inK : K.In t.heap) (nsM : t.heap.Ns mainGlobals mg) (nsB : t.heap.Ns builtinsNs mb) (bb : ∀ y : Str, y ≠ "__name__" → mb y = bootBuiltins y) (nl : t.heap.NoLimit) (ng : t.gens = #[])
    (at_a : t.heap.get? a = some { cls := .type "list", data := .seq us.toArray }) (room : Room k callerA) (F : ∀ base : Heap, K.In base → base.Ns mainGlobals mg → FnG P w K mg base CX k fa fd [x] sp)
    (bind1 : ∀ (s : Shared) (u : Value), BindsTo s fd ⟨[u], []⟩ [(x, u)]) (noX : ∀ H e s', CX [] H t (fun _ _ _ => False) e s' → False)
    {H : Hp} (only : Only H) (pre : sp [.ref a] H (fun v _ => v = .bl true) fun _ _ _ => False) (hok : HOk P w H t.heap) (onA : ∀ b, H b ≠ none → b = a) (offK : H a ≠ none → K.lookup a = none) :
    codeAny (model P w) callerA (.call (.ref fa) ⟨[.ref a], []⟩) (Fine t) t := by
  have sees : ∀ {b : Addr} {o : Obj}, t.heap.get? b = some o → H b = none → (hidT t.heap H).get? b = some o := fun z n => hidT_get z n
  have untr : ∀ {b : Addr}, b ≠ a → H b = none := fun {b} nb => by
    cases q : H b with
    | none => rfl
    | some u => exact absurd (onA b (by rw [q]; simp)) nb
  have dictNs : ∀ {b : Addr} {m : Str → Option Value}, t.heap.Ns b m → (hidT t.heap H).Ns b m := fun {b m} ⟨o, es, ep, g, d, r⟩ => by
    refine ⟨o, es, ep, sees g (untr fun z => ?_), d, r⟩
    subst z
    rw [at_a] at g
    cases g
    exact nomatch (show Data.seq us.toArray _ = Data.dict es ep from d)
  have inB : K.In (hidT t.heap H) := fun b o z => by
    refine sees (inK b o z) ?_
    cases q : H b with
    | none => rfl
    | some u =>
      have nn : H b ≠ none := by rw [q]; simp
      have eb := onA b nn
      subst eb
      rw [offK nn] at z
      cases z
  obtain ⟨mc, l1, l2⟩ := nl
  have md : Mod K mg (hidT t.heap H) := ⟨inB, dictNs nsM, ⟨mb, dictNs nsB, bb⟩, ⟨mc, dictNs l1, l2⟩⟩
  have e0 : Env0 P w K mg (hidT t.heap H) callerA [] t H := ⟨rfl, md, fun b o z => of_hidT z, Nat.le_of_eq (hidT_size _ _), trivial, fun b z => (by cases z), hok, .of_eq ng⟩
  refine codeAny_mono ((F _ inB (dictNs nsM)).run callerA rfl [] t H ⟨[.ref a], []⟩ [.ref a] [.ref a] _ _ room e0 (bind1 t (.ref a)) (.cons rfl .nil) pre) fun r t' z => ?_
  cases r with
  | error e => exact (noX H e t' z).elim
  | ok fl =>
    cases fl with
    | next => exact False.elim z
    | brk => exact False.elim z
    | cont => exact False.elim z
    | ret u =>
      obtain ⟨v, H', os, bare, un, hok', rv, ev⟩ := z
      cases (show v = .bl true from ev)
      cases (show u = Value.bool true from rv)
      refine ⟨rfl, OldK.of_keep fun b o g => ?_, os, bare⟩
      rcases only b with n | ⟨ob, xs, z⟩
      · exact un.keep b o g n (fun q => by cases q) (fun q => by cases q)
      · have g1 := (hok b _ z).1
        have g2 := (hok' b _ (un.frzs b ob _ z)).1
        rw [g] at g1
        cases g1
        exact g2
theorem lawG (inK : K.In t.heap) (nsM : t.heap.Ns mainGlobals mg) (nsB : t.heap.Ns builtinsNs mb) (bb : ∀ y : Str, y ≠ "__name__" → mb y = bootBuiltins y) (nl : t.heap.NoLimit) (ng : t.gens = #[])
    (at_a : t.heap.get? a = some { cls := .type "list", data := .seq us.toArray }) (areInts : IntsAre us ns) (hz : ns.length ≤ sizeLine) (room : Room k callerA) (F : ∀ base : Heap, K.In base → base.Ns mainGlobals mg → FnG P w K mg base CX k fa fd [x] sp)
    (bind1 : ∀ (s : Shared) (u : Value), BindsTo s fd ⟨[u], []⟩ [(x, u)]) (noX : ∀ H e s', CX [] H t (fun _ _ _ => False) e s' → False)
    (pre : ∀ H : Hp, Only H → SqL K H a (ns.map V.int) → sp [.ref a] H (fun v _ => v = .bl true) fun _ _ _ => False) : codeAny (model P w) callerA (.call (.ref fa) ⟨[.ref a], []⟩) (Fine t) t := by
  have rv := vals_ints areInts
  have many := areInts.length
  cases own : K.lookup a with
  | some o =>
    have g := inK a o own
    rw [at_a] at g
    cases g
    have none0 : Only fun _ => none := fun _ => .inl rfl
    exact lawH inK nsM nsB bb nl ng at_a room F bind1 noX none0 (pre _ none0 (.inr ⟨_, us.toArray, _, own, rfl, rfl, rfl, by rw [List.size_toArray, many]; exact hz, by simpa using rv⟩)) (fun b u z => nomatch (show (none : Option HO) = some u from z)) (fun b z => absurd rfl z) fun z => absurd rfl z
  | none =>
    let H1 : Hp := fun b => if b = a then some (.frz { cls := .type "list", data := .seq us.toArray } (.lst (ns.map V.int))) else none
    have yes : H1 a = some (.frz { cls := .type "list", data := .seq us.toArray } (.lst (ns.map V.int))) := if_pos rfl
    have no : ∀ {b : Addr}, b ≠ a → H1 b = none := fun nb => if_neg nb
    have one : Only H1 := fun b => by
      by_cases e : b = a
      · exact .inr ⟨_, _, by rw [e]; exact yes⟩
      · exact .inl (no e)
    refine lawH inK nsM nsB bb nl ng at_a room F bind1 noX one (pre _ one (.inl (.inr ⟨_, yes⟩))) (fun b u z => ?_) (fun b z => ?_) fun _ => own
    · by_cases e : b = a
      · subst e
        rw [yes] at z
        cases z
        exact ⟨at_a, by rw [List.length_map]; exact hz, us, _, rv, at_a⟩
      · rw [no e] at z
        cases z
    · exact Decidable.byContradiction fun e => z (no e)
end
theorem walkG {l : PySem.W.OpenLaw} {n k : Nat} {q : Program} {loose : List Str} {XP : (Str → Option Value) → Heap → Prop} {YP : World → Heap → Prop} {d : DefRec} {K : Params → PySem.W.Frag} {sp : World → Sp} {x : Str}
    (hn : l.most = some n) (hz : n ≤ sizeLine) (hdf : d.params.defaults = []) (room : Room k callerA) (hY : ∀ (w : World) (h : Heap), YP w h → (K w.params).In h)
    (F : ∀ (w : World) (mg : Str → Option Value) (fa : Addr) (h : Heap), (K w.params).In h → h.Ns mainGlobals mg → mg d.name = some (.ref fa) →
      ∃ fd : FuncData, (∀ (s : Shared) (u : Value), BindsTo s fd ⟨[u], []⟩ [(x, u)]) ∧ ∀ base : Heap, (K w.params).In base → base.Ns mainGlobals mg → FnG l.prog w (K w.params) mg base CX0 k fa fd [x] (sp w))
    (pre : ∀ (w : World) (H : Hp) (a : Addr) (ns : List Int), ns.length ≤ n → Only H → SqL (K w.params) H a (ns.map V.int) → sp w [.ref a] H (fun v _ => v = .bl true) fun _ _ _ => False) :
    PySem.W.WalkO q loose XP YP l.row.toRowW d [] (fun f vs => PySem.call f vs) := by
  refine Att.attach_call hn hdf fun w t0 t mg mb fa o pm cd doc a us ns G Y ho hd hcd hmg at_a areInts many ng => ?_
  obtain ⟨fd, hb, hF⟩ := F w mg fa _ (hY w _ Y) G.T.g hmg
  exact lawG (hY w _ Y) G.T.g G.T.b G.T.builtins G.T.nolimit ng at_a areInts (Nat.le_trans many hz) room hF hb (fun _ _ _ z => z) fun H h1 h2 => pre w H a ns many h1 h2
end TR

set_option Elab.async false
set_option linter.all false
set_option maxRecDepth 100000
set_option maxHeartbeats 4000000
/-! TQ: an error that is caught and kept in a name. -/
namespace TQ
open PySem PySem.Spec PyProof.Rows L2 TX

/-- at a: a caught error of the class at C, its dict at d -/
def kxo (a C : Addr) (d : Option Addr) : HO := .ext fun h => ∃ (oe : Obj) (vs : Array Value), h.get? a = some oe ∧ Zc (.ref C) d oe ∧ oe.data = .fields vs
theorem kxo_ok {P : Program} {w : World} {H : Hp} {h : Heap} {a C : Addr} {d : Option Addr} {oe : Obj} {vs : Array Value} (e : h.get? a = some oe) (z : Zc (.ref C) d oe) (f : oe.data = .fields vs) : ObjOk P w H h a (kxo a C d) :=
  ⟨⟨oe, vs, e, z, f⟩, ⟨oe, e⟩, fun h1 h2 ⟨o, us, q, r⟩ k => ⟨o, us, k _ q, r⟩⟩
theorem kxo_at {P : Program} {w : World} {H : Hp} {h : Heap} {a C : Addr} {d : Option Addr} (ok : HOk P w H h) (e : H a = some (kxo a C d)) : ∃ (oe : Obj) (vs : Array Value), h.get? a = some oe ∧ Zc (.ref C) d oe ∧ oe.data = .fields vs := by
  have x : ObjOk P w H h a (.ext fun h => ∃ (oe : Obj) (vs : Array Value), h.get? a = some oe ∧ Zc (.ref C) d oe ∧ oe.data = .fields vs) := ok a _ e
  exact x.1
/-- a caught error with the field f -/
def Kept (H : Hp) (a C : Addr) (fs : List (Str × V)) : Prop := ∃ d, H a = some (kxo a C (some d)) ∧ H d = some (.xd fs)
theorem Kept.same {H H' : Hp} {a C : Addr} {fs : List (Str × V)} (e : Kept H a C fs) (h : ∀ b o, H b = some o → H' b = some o) : Kept H' a C fs :=
  let ⟨d, h1, h2⟩ := e
  ⟨d, h _ _ h1, h _ _ h2⟩
section
variable {X : Cx} {pins : List (Addr × Obj)} {σ : L2.St} {H : Hp} {s : Shared} {a C : Addr} {fs : List (Str × V)}
/-- an object that was made since the entry is looked at from here on -/
theorem track {φ : Heap → Prop} (I : Inv X pins σ H s) (new : ObjOk X.prog X.w (upd H a (.ext φ)) s.heap a (.ext φ)) (na : H a = none) (n0 : X.s_0.heap.get? a = none) (nL : a ≠ X.env.locals) (nC : ∀ x c, X.env.cells.lookup x = some c → c ≠ a) (nP : ∀ p ∈ X.pn ++ pins, p.1 ≠ a) :
    Inv X pins σ (upd H a (.ext φ)) s := by
  have ne : ∀ {b : Addr} {o : HO}, H b = some o → b ≠ a := fun {b o} e z => by
    rw [z, na] at e
    cases e
  have up : ∀ {b : Addr} {o : HO}, H b = some o → upd H a (.ext φ) b = some o := fun {b o} e => by
    rw [upd_ne (ne e)]
    exact e
  have off : ∀ {b : Addr}, b ≠ a → H b = none → upd H a (.ext φ) b = none := fun {b} nb e => by
    rw [upd_ne nb]
    exact e
  refine ⟨I.ok, I.os, I.bare, ⟨I.base.keep, I.base.slot, fun b o e n hx => off (fun z => ?_) (I.base.free b o e n hx), I.base.there, fun b xs e => up (I.base.tups b xs e), fun b o u e => up (I.base.frzs b o u e), fun b ps e => ?_⟩, I.loc, I.cell, off nL.symm I.free, fun x c e => off (nC x c e) (I.freeC x c e), fun p hp => ?_, fun b o e => ?_, I.len⟩
  · rw [z, n0] at e
    cases e
  · obtain ⟨more, q⟩ := I.base.tbls b ps e
    exact ⟨more, up q⟩
  · obtain ⟨h1, h2, h3⟩ := I.pin p hp
    exact ⟨h1, off (nP p hp) h2, h3⟩
  · by_cases hb : b = a
    · subst hb
      rw [upd_same] at e
      cases e
      exact new
    · rw [upd_ne hb] at e
      exact (I.hok b o e).stay (fun _ _ _ q => q) (fun _ q => up q) fun _ _ q => up q
theorem kinst_of (I : Inv X pins σ H s) (e : Kept H a C fs) : ∃ ox od, PySem.W.InstAt s.heap a ox C (some od) ∧ ∃ d, ox.dict = some d ∧ H d = some (.xd fs) ∧ s.heap.get? d = some od := by
  obtain ⟨d, h1, h2⟩ := e
  obtain ⟨oe, vs, ho, hz, hf⟩ := kxo_at I.hok h1
  have hx : ObjOk X.prog X.w H s.heap d (.xd fs) := I.hok d _ h2
  obtain ⟨mA, hns, _⟩ := hx
  obtain ⟨od, hd, _⟩ := lookIn_ns hns
  exact ⟨oe, od, ⟨ho, hz.1, by unfold PySem.W.notCls; rw [hf] <;> rfl, by rw [hz.2]; exact hd⟩, d, hz.2, h2, hd⟩
end
/-- isinstance(e, c): e a caught error -/
def rIsQ (K : PySem.W.Frag) : List V → Hp → VK → Prop := fun xs H Q => ∃ (a C : Addr) (fs : List (Str × V)) (c : V) (cv : Value) (b : Bool), xs = [.ref a, c] ∧ ExcC K C ∧ Kept H a C fs ∧ ClsV c cv ∧ PySem.W.kitOne K (.ref C) cv = some b ∧ Q (.bl b) H
theorem call_isQ {X : Cx} : CallR X (.builtin "isinstance") (rIsQ X.K) := by
  intro pins s σ H xs us Q I r h
  obtain ⟨a, C, fs, c, cv, b, rfl, hC, he, k, e, q⟩ := h
  obtain ⟨u1, u2, rfl, r1, r2⟩ := vals2 r
  cases (show u1 = Value.ref a from r1)
  have e2 := k.eq r2
  subst e2
  obtain ⟨ox, od, J, _⟩ := kinst_of I he
  refine PySem.W.kia_one (PySem.W.kitx_exc (ox := ox) (od := some od) ?_ hC.hg hC.hk hC.hs hC.ha hC.hn hC.ht hC.hm) I.kIn J e (fun z => nomatch z) fun tk => ⟨.bl b, H, I.tok tk, rfl, q⟩
  have z := hC.hd
  unfold PySem.W.hasDictIn at z
  cases w : PySem.W.clsIn X.K C with
  | some _ => rfl
  | none => rw [w] at z; cases z
/-- e.f: a field of a caught error -/
def tQx (K : PySem.W.Frag) (f : Str) (te : TE) : TE := fun σ H Q => te σ H fun x H1 => ∃ (a C : Addr) (fs : List (Str × V)) (v : V), x = .ref a ∧ XfC K C ∧ PySem.W.findIn K (.ref C) f = some none ∧ Kept H1 a C fs ∧ fs.lookup f = some v ∧ Q v H1
theorem pe_qx {X : Cx} {e : Expr} {te : TE} {pos : Pos} {f : Str} (he : PE X e te) (hb : attributeBase e f X.env (eval e X.env) = eval e X.env := by rfl) : PE X (.Attribute e f pos) (tQx X.K f te) := by
  refine ⟨fun pins s σ H Q I h => attr_of hb (thn (he.run pins s σ H _ I h) fun u s1 ⟨x, H1, I1, rx, a, C, fs, v, ex, T, hno, he, l, q⟩ => ?_)⟩
  subst ex
  cases (show u = Value.ref a from rx)
  obtain ⟨d, h1, h2⟩ := he
  obtain ⟨oe, vs, ho, hz, hf⟩ := kxo_at I1.hok h1
  have hx : ObjOk X.prog X.w H1 s1.heap d (.xd fs) := I1.hok d _ h2
  obtain ⟨mA, hns, hr⟩ := hx
  obtain ⟨od, hd, hl⟩ := lookIn_ns hns
  obtain ⟨y, hy, ry⟩ := RelO.some_of (v := v) (o := mA f) (by rw [← l]; exact hr f)
  have J : PySem.W.InstAt s1.heap a oe C (some od) := ⟨ho, hz.1, by unfold PySem.W.notCls; rw [hf] <;> rfl, by rw [hz.2]; exact hd⟩
  exact HandSPX.exc_get I1.kIn J T.ga T.gg T.exC (PySem.W.findObj_own T.hdC hno rfl (by rw [hl, hy])) (handed_of ry) ⟨v, H1, I1.tok _, ry, q⟩

/-! ### try: body, except x as n: y = n -/
def wKeep (K : PySem.W.Frag) (c : Value) (i j : Nat) (Wout : WX) (D : Ends) : WX := fun cls d σ H => ∃ (C : Addr) (b : Bool), cls = .ref C ∧ PySem.W.exmOne K cls c = some b ∧
  (b = true → ∀ a, H a = none → D.nx (((σ.set i (some (.ref a))).set j (some (.ref a))).set i none) (upd H a (kxo a C d))) ∧ (b = false → Wout cls d σ H)
section
variable {X : Cx} {x n y : Str} {c : Value} {i j : Nat} {body : List Stmt} {np np2 yp ap pos pos' : Pos} {tb : WX → TS} {Wout : WX}
theorem ps_try_keep (hex : X.ex = []) (hs : X.stack = X.env :: X.outer) (hf : X.env.frame = some X.env.locals) (hN : X.N.Nodup) (hi : X.N[i]? = some n) (hln : X.env.kindOf n = some .local) (hj : X.N[j]? = some y) (hly : X.env.kindOf y = some .local) (hij : i ≠ j) (hc : Names X x c) (tk : Takes X Wout)
    (hb : ∀ (W : WX) (pn : List (Addr × Obj)) (xe : Value → Shared → Prop), Takes (X.tr pn xe) W → PassesOwn (model X.prog X.w) X.A X.env xe → PSs (X.tr pn xe) body (tb W))
    (hsu : ∀ (a : Addr) (pn : List (Addr × Obj)), PSs (X.suite a pn) [.Assign [.Name y yp] (.Name n np2) ap] (tAsg (tVar i) (gName j))) :
    PS X (.Try body [.ExceptHandler (some (.Name x np)) (some n) [.Assign [.Name y yp] (.Name n np2) ap] pos'] [] [] pos) (fun D σ H => tb (wKeep X.K c i j Wout D) D σ H) := by
  refine ⟨fun pins s σ H D I h => ?_⟩
  have ok := I.ok
  have frames : X.A.frames = some (X.env :: X.outer) := by rw [ok.frames, hs]
  refine wpAny_Try_except ?_
  refine wpAny_mono ((hb (wKeep X.K c i j Wout D) (X.pn ++ pins) (fun e t1 => wpAny (model X.prog X.w) X.A (noteFrame e X.env) (fun _ t2 => wpAny (model X.prog X.w) X.A (setFlight e none) (fun _ t3 =>
    wpAny (model X.prog X.w) X.A (handleBy e X.env [.ExceptHandler (some (.Name x np)) (some n) [.Assign [.Name y yp] (.Name n np2) ap] pos']) (SP X pins D) X.xe t3) X.xe t2) X.xe t1) (fun u s' air => ?_) PassesOwn.looking).run [] s σ H D (I.toTry _) h) (fun fl s1 q => ?_) (fun _ _ q => q)
  · obtain ⟨a, B, sI, pins', σ', H', cls, d, rfl, J', nb, up, sky, na, os, ag, C, b, hcls, hb1, yes, no⟩ := air
    have J : Inv X pins σ' H' sI := J'.ofTry ok
    rw [show (X.tr (X.pn ++ pins) _).stack = X.env :: X.outer from hs] at sky
    show wpAny (model X.prog X.w) X.A (noteFrame (.ref a) X.env) _ _ _
    refine Sky.land Zc.steady frames hf sky fun h3 fl3 up3 => ?_
    have J3 : Inv X pins σ' H' { s' with heap := h3 } := J.landed nb fl3.1 (up.trans up3) os ag
    obtain ⟨o3, f3, g3, z3, d3⟩ := fl3.there
    have outside : ∀ {h : Heap} {o : Obj} {vs : Array Value}, h.FunFrames B (X.env :: X.outer) → h.get? a = some o → o.data = .fields vs → a ∉ frs (X.env :: X.outer) := fun {h o vs} ff e dd hm => by
      obtain ⟨_, o', e', nf⟩ := ff.mem hm
      rw [e] at e'
      cases e'
      exact nf _ dd
    have off := outside fl3.2.2.1 g3 d3
    have nL : a ≠ X.env.locals := fun z => off (List.mem_filterMap.mpr ⟨X.env, List.mem_cons_self, by rw [hf, z]⟩)
    have nF : a ∉ X.fs := fun hm => by
      obtain ⟨e, he, q⟩ := List.mem_filterMap.mp hm
      exact off (List.mem_filterMap.mpr ⟨e, List.mem_cons_of_mem _ he, q⟩)
    -- it is new to the state ahead of it
    have newI : ∀ {b : Addr} {o : Obj}, sI.heap.get? b = some o → b ∉ frs X.stack → b ≠ a := fun {b o} e nf z => by
      have q := nb b o e nf
      rw [z, fl3.2.1] at q
      cases q
    have n0 : X.s_0.heap.get? a = none := by
      cases q : X.s_0.heap.get? a with
      | none => rfl
      | some o =>
        by_cases hx : a ∈ X.ex
        · rw [hex] at hx
          cases hx
        · obtain ⟨o', e'⟩ := J.base.there a o q hx
          exact absurd rfl (newI e' (by rw [hs]; exact off))
    have nP : ∀ p ∈ X.pn ++ pins, p.1 ≠ a := fun p hp z => by
      have q := (J.pin p hp).1
      rw [z] at q
      exact newI q (by rw [hs]; exact off) rfl
    have S3 := J3.suite g3 d3 na nL nF
    refine wpAny_handleBy_cons (codeAny_handlers_test ?_) (by intro q; cases q)
    have LT : PySem.W.Looks (model X.prog X.w) h3 (typeOf (.ref a)) cls := fun A Q E s k q => wpAny_typeOf_ref (k _ _ g3) (by rw [z3.1]; exact q)
    have LM := PySem.W.exm_one (M := model X.prog X.w) J3.kIn LT hb1
    have named : ∀ {Q : Value → Shared → Prop} {E : Value → Shared → Prop}, Q c { s' with heap := h3 } → wpAny (model X.prog X.w) (X.A.mark (some (.ref a))) (eval (.Name x np) X.env) Q E { s' with heap := h3 } := fun {Q E} q => by
      obtain ⟨hg, hdbg, hm | ⟨hm, hv, hnn⟩⟩ := hc
      · exact ld_glob (X := X.suite a ((a, o3) :: (X.pn ++ pins))) S3 hg hm q hdbg
      · exact ld_blt (X := X.suite a ((a, o3) :: (X.pn ++ pins))) S3 hg hm hv q hnn hdbg
    refine named (LM.here ?_)
    cases b with
    | true =>
      refine codeAny_handlers_suite_as (HandSPX.lands_againZ fl3 fun h4 fl4 up4 => ?_)
      have J4 : Inv X pins σ' H' { s' with heap := h4 } := J.landed nb fl4.1 ((up.trans up3).trans up4) os ag
      obtain ⟨o4, f4, g4, z4, d4⟩ := fl4.there
      have S4 := J4.suite g4 d4 na nL nF
      have hiσ : i < σ'.length := by rw [J.len]; exact (List.getElem?_eq_some_iff.mp hi).1
      refine store_ok (X := X.suite a ((a, o4) :: (X.pn ++ pins))) (v := .ref a) S4 hN hi (.inl hln) rfl (fun s5 S5 => ?_) (.inr hln)
      have go := (hsu a ((a, o4) :: (X.pn ++ pins))).run [] s5 _ H' { nx := fun σ6 H6 => σ6 = (σ'.set i (some (.ref a))).set j (some (.ref a)) ∧ H6 = H', rt := fun _ _ => False, bk := fun _ _ => False, ct := fun _ _ => False } S5
        ⟨.ref a, by rw [List.getElem?_set_self hiσ], rfl, rfl⟩
      refine wpAny_mono go (fun fl s6 q => ?_) (fun _ _ z => False.elim z)
      cases fl with
      | next =>
        obtain ⟨σ6, H6, S6, e6, e7⟩ := q
        rw [e6, e7] at S6
        show wpAny (model X.prog X.w) X.A (do bindName X.env n .none; unbindBehindTheSuite X.env n pos') _ _ _
        refine gone_ok (X := X.suite a ((a, o4) :: (X.pn ++ pins))) S6 hN hi hln fun s7 S7 => ?_
        have g7 : s7.heap.get? a = some o4 := (S7.pin (a, o4) (List.mem_append_left _ List.mem_cons_self)).1
        have J7 : Inv X pins _ H' s7 := S7.unsuite ok
        rw [hcls] at z4
        refine ⟨_, _, track J7 (kxo_ok g7 z4 d4) na n0 nL (fun x0 c0 e z => ?_) nP, yes rfl a na⟩
        obtain ⟨v, hv⟩ := J7.cell x0 c0 e
        rw [z] at hv
        obtain ⟨oc, hoc, hdc⟩ := hv
        rw [g7] at hoc
        cases hoc
        rw [d4] at hdc
        cases hdc
      | brk => obtain ⟨_, _, _, z⟩ := q; exact False.elim z
      | cont => obtain ⟨_, _, _, z⟩ := q; exact False.elim z
      | ret u => obtain ⟨_, _, _, _, _, z⟩ := q; exact False.elim z
    | false =>
      show wpAny _ X.A (handleBy (.ref a) X.env []) _ _ _
      refine wpAny_handleBy_nil ?_
      obtain ⟨_, _, _, oe, vs, T, oT, ts', he, hz, hd, h1, hr⟩ := id fl3
      unfold PySem.passOn
      refine wpAny_bind (wpAny_field he hd h1 ?_)
      rw [if_neg (show ¬ ((Value.ref T == Value.none) = true) from by simp)]
      have away : wpAny (model X.prog X.w) X.A (setFlight (.ref a) X.env.frame) (fun _ s4 => wpAny (model X.prog X.w) X.A (throw (.ref a) : Sem Flow) (SP X pins D) X.xe s4) X.xe { s' with heap := h3 } := by
        rw [hf]
        refine HandSPX.setFlight_upZ fl3 fun h4 hh4 up4 => wpAny_throw (tk _ _ ⟨a, B, sI, pins, σ', H', cls, d, rfl, J, nb, (up.trans up3).trans up4, .inr (.inr (by rw [hs]; exact hh4)), na, os, ag, no rfl⟩)
      first
        | exact wpAny_bind (wpAny_pure (wpAny_bind away))
        | exact wpAny_bind away
  · cases fl with
    | next =>
      obtain ⟨σ', H', J', q⟩ := q
      exact wpAny_execs_nil ⟨σ', H', J'.ofTry ok, q⟩
    | brk =>
      obtain ⟨σ', H', J', q⟩ := q
      exact ⟨σ', H', J'.ofTry ok, q⟩
    | cont =>
      obtain ⟨σ', H', J', q⟩ := q
      exact ⟨σ', H', J'.ofTry ok, q⟩
    | ret u =>
      obtain ⟨v, σ', H', J', r, q⟩ := q
      exact ⟨v, σ', H', J'.ofTry ok, r, q⟩
end

/-! ### raise, and calls that may raise -/
/-- a reading that may be weakened -/
def tLax (te : TE) : TE := fun σ H Q => ∃ Q0 : VK, te σ H Q0 ∧ ∀ v H1, Q0 v H1 → Q v H1
theorem pe_lax {X : Cx} {e : Expr} {te : TE} (h : PE X e te) : PE X e (tLax te) :=
  ⟨fun pins s σ H Q I ⟨Q0, h0, im⟩ => wpAny_mono (h.run pins s σ H Q0 I h0) (fun u s' ⟨v, H1, J, r, q⟩ => ⟨v, H1, J, r, im v H1 q⟩) fun _ _ z => z⟩
/-- raise C(e) -/
def tRs (C : Addr) (f : Str) (te : TE) : L2.St → Hp → XK → Prop := fun σ H Q => te σ H fun y H1 => ∀ d H2, Same H1 H2 → H1 d = none → H2 d = some (.xd [(f, y)]) → Q (.ref C) (some d) H2
section
variable {X : Cx} {x f q : Str} {C : Addr} {e : Expr} {te : TE} {p pos : Pos}
theorem pmk_err (O : OwnE X.K X.mg x C f q) (hr : Room 2 X.A) (hg : Gl X x) (he : PE X e te) (hdb : (x == ("__debug__" : Str)) = false := by decide) (hs : starEach [e] X.env = (false, eval e X.env) :: starEach [] X.env := by rfl) :
    PMk X (.Call (.Name x p) [e] [] pos) (tRs C f te) := by
  obtain ⟨fI, fd, iC, tI, _, b1, _, ok⟩ := O.ex
  intro pins s σ H Q I h
  refine pmk_oex (ta := tCons (tLax te) tNil) (dvs := []) (ds := []) O.ox iC tI (ok X.prog X.w X.base) hr b1 .nil pass0 hg O.m (pa_cons (pe_lax he) pa_nil hs) hdb hs (by rfl) pins s σ H Q I ⟨_, h, fun y H1 hy => ?_⟩
  refine ⟨by simp, fun a na => ⟨a, y, rfl, upd_same, fun dx nd ne => ⟨rfl, dx, [(f, y)], upd_same, ?_, ?_, ?_⟩⟩⟩
  · rw [upd_ne ne, upd_same]
  · rw [upd_ne ne] at nd
    exact nd
  · rw [upd_ne ne] at nd
    refine hy dx _ (fun b o hb => ?_) nd upd_same
    have e1 : b ≠ a := fun z => by rw [z, na] at hb; cases hb
    have e2 : b ≠ dx := fun z => by rw [z, nd] at hb; cases hb
    rw [upd_ne e2, del_ne e1, upd_ne e1, upd_ne e2, upd_ne e1]
    exact hb
end
/-- f(e, ..), f may raise: W by the slots as they stand -/
def tCallX (sp : Sp) (dvs : List V) (W : WX) (t : TA) : TE := fun σ H Q => t σ H fun vs H1 => sp (vs ++ dvs) H1 Q fun cls d H2 => W cls d σ H2
section
variable {X : Cx} {k : Nat} {f : Addr} {fd : FuncData} {ps : List Str} {sp : Sp} {ds : List Value} {dvs : List V} {W : WX} {x : Str} {e : Expr} {es : List Expr} {t : TA} {p pos : Pos}
theorem run_fnX {pins : List (Addr × Obj)} {σ : L2.St} {H : Hp} {s : Shared} {Q : VK} {us : List Value} {vs : List V} (F : FnOk X.prog X.w X.K X.mg X.base (L2.CX X.prog X.w) k f fd ps sp) (tk : Takes X W) (hr : Room k X.A) (hb : Binds X.K fd ps ds) (hd : Vals dvs ds)
    (J : Inv X pins σ H s) (r : Vals vs us) (q : sp (vs ++ dvs) H Q fun cls d H2 => W cls d σ H2) : wpAny (model X.prog X.w) X.A (call (.ref f) us) (EP X pins σ Q) X.xe s := by
  have rr : Vals (vs ++ dvs) (us ++ ds) := r.append hd
  refine wpAny_call (codeAny_mono (F.run X.A X.stack s H ⟨us, []⟩ (us ++ ds) (vs ++ dvs) Q _ hr J.env0 (hb s us J.kIn (rr.length.symm.trans (F.len _ _ _ _ q))) rr q) fun res s' z => ?_)
  cases res with
  | error er => exact tk er s' (XE.of_call J (fun cls d H' w => w) z)
  | ok fl =>
    cases fl with
    | ret u => exact J.after z
    | next => exact False.elim z
    | brk => exact False.elim z
    | cont => exact False.elim z
theorem pe_callX (F : FnOk X.prog X.w X.K X.mg X.base (L2.CX X.prog X.w) k f fd ps sp) (tk : Takes X W) (hr : Room k X.A) (hg : Gl X x) (hm : X.mg x = some (.ref f)) (hk : PySem.W.keepIn X.K (.ref f) = true) (hb : Binds X.K fd ps ds) (hd : Vals dvs ds)
    (ha : PA X (e :: es) t) (hdb : (x == ("__debug__" : Str)) = false := by decide) (he : starEach (e :: es) X.env = (false, eval e X.env) :: starEach es X.env := by rfl) (hpl : (backTo pos (starEach es X.env)).any (·.1) = false := by rfl) :
    PE X (.Call (.Name x p) (e :: es) [] pos) (tCallX sp dvs W t) :=
  ⟨fun pins s σ H Q I h => wpAny_Call_Name_kw (ld_glob I hg hm (PySem.W.callWith_K (h₀ := X.base) I.ok.mod.kin hk (thn (ha.run pos pins s σ H _ I h) fun us s1 ⟨vs, H1, J, r, q⟩ => ⟨J.kIn, run_fnX F tk hr hb hd J r q⟩) he hpl) hdb)⟩
end

open TR in
/-- repr(x) of plain data of any kind -/
def rReprV : List V → Hp → VK → Prop := fun xs H Q => ∃ (x : V) (d : PyData) (c : Bool), xs = [x] ∧ DV H c x d ∧ (d.hasDict = true → c = true) ∧ d.showable = true ∧ d.depth ≤ 60 ∧ d.shown.length ≤ sizeLine ∧ Q (.str d.shown) H
open TR in
theorem cr_reprV {X : Cx} (hg : X.A.guards = some []) (hu : X.A.units + 64 < cLine) : CallR X (.builtin "repr") rReprV := by
  intro pins s σ H xs us Q I r h
  obtain ⟨x, d, c, rfl, hd, hc, hs, hp, hz, q⟩ := h
  have asRef : ∀ a, x = .ref a → wpAny (model X.prog X.w) X.A (call (.builtin "repr") us) (EP X pins σ Q) X.xe s := fun a e => by
    subst e
    exact cr_repr hg hu pins s σ H _ us Q I r ⟨a, d, c, rfl, hd, hc, hs, hp, hz, q⟩
  cases hd with
  | non =>
    obtain ⟨u, rfl, ru⟩ := r.one
    cases (show u = Value.none from ru)
    simp only [PyData.shown] at q
    exact PySem.P.repr_of_none ⟨.str "None", H, I.tok _, ⟨_, rfl⟩, q⟩
  | bl b =>
    obtain ⟨u, rfl, ru⟩ := r.one
    cases (show u = Value.bool b from ru)
    simp only [PyData.shown] at q
    exact PySem.P.repr_of_bool ⟨.str (if b then "True" else "False"), H, I.tok _, ⟨_, rfl⟩, q⟩
  | int i =>
    obtain ⟨u, rfl, ru⟩ := r.one
    obtain ⟨t, rfl⟩ := (show ∃ t, u = Value.int i t from ru)
    simp only [PyData.shown] at q
    exact PySem.P.repr_of_int (by simpa only [PyData.showable, decide_eq_true_eq] using hs) ⟨.str (toString i), H, I.tok _, ⟨_, rfl⟩, q⟩
  | str z =>
    obtain ⟨u, rfl, ru⟩ := r.one
    obtain ⟨t, rfl⟩ := (show ∃ t, u = Value.str z t from ru)
    simp only [PyData.shown] at q hz
    exact PySem.P.repr_of_str ⟨.str (reprText z), H, I.tok _, ⟨_, rfl⟩, q⟩ hz
  | lst a b c => exact asRef _ rfl
  | tup a b => exact asRef _ rfl
  | dic a b => exact asRef _ rfl

/-- fs[i](e, ..): a function out of a list, it may raise -/
def tCallSX (P : Program) (w : World) (K : PySem.W.Frag) (mg : Str → Option Value) (base : Heap) (A : Around) (W : WX) (tf : TE) (t : TA) : TE := fun σ H Q => tf σ H fun x H1 => ∃ (f : Addr) (fd : FuncData) (ps : List Str) (sp : Sp) (k : Nat), x = .ref f ∧ FnOk P w K mg base (L2.CX P w) k f fd ps sp ∧ Room k A ∧ PySem.W.keepIn K (.ref f) = true ∧ Binds K fd ps [] ∧
  t σ H1 fun vs H2 => sp vs H2 Q fun cls d H3 => W cls d σ H3
theorem pe_callSX {X : Cx} {W : WX} {a i : Expr} {e : Expr} {es : List Expr} {tf : TE} {t : TA} {p pos : Pos} (tk : Takes X W) (hf : PE X (.Subscript a i p) tf) (ha : PA X (e :: es) t)
    (hc : eval (.Call (.Subscript a i p) (e :: es) [] pos) X.env = (do let f ← eval (.Subscript a i p) X.env; callWith pos f [] (backTo pos (starEach (e :: es) X.env)) (backToKw pos (keywordEach [] X.env))) := by rfl)
    (he : starEach (e :: es) X.env = (false, eval e X.env) :: starEach es X.env := by rfl) (hpl : (backTo pos (starEach es X.env)).any (·.1) = false := by rfl) :
    PE X (.Call (.Subscript a i p) (e :: es) [] pos) (tCallSX X.prog X.w X.K X.mg X.base X.A W tf t) := by
  refine ⟨fun pins s σ H Q I h => ?_⟩
  rw [hc]
  refine wpAny_bind (thn (hf.run pins s σ H _ I h) fun u s1 ⟨x, H1, J, rx, f, fd, ps, sp, k, ex, F, hr, hk, hb, q⟩ => ?_)
  subst ex
  cases (show u = Value.ref f from rx)
  exact PySem.W.callWith_K (h₀ := X.base) J.ok.mod.kin hk (thn (ha.run pos pins s1 σ H1 _ J q) fun us s2 ⟨vs, H2, J2, r, q2⟩ => ⟨J2.kIn, run_fnX (dvs := []) (ds := []) F tk hr hb .nil J2 r (by rw [List.append_nil]; exact q2)⟩) he hpl
end TQ

set_option Elab.async false
set_option linter.all false
set_option maxRecDepth 100000
set_option maxHeartbeats 4000000
/-! TV: texts with a sign struck out, behind a list of a written text; nested data beside an empty tuple. -/
namespace TV
open PySem PySem.Spec PyProof.Rows L2 TX CwR
section
variable {X : Cx} {rest : List Stmt} {u : TS}
/-- a list of one written text is stored under a name: behind it a token is out -/
theorem pss_lstT {i j : Nat} {x c : Str} {cpos lpos pos' pos : Pos} (hN : X.N.Nodup) (hi : X.N[i]? = some x) (hx : Loc X.env.scope x) (h2 : PSsT X rest u)
    (hs : swapsWith (.List [.Constant (.str c) j cpos] lpos) (some (.Name x pos')) pos.line X.env = pure false := by rfl) (hf : X.fn x = true ∨ X.env.scope.names.lookup x = some .local := by first | exact .inl rfl | exact .inr rfl | assumption) :
    PSs X (.Assign [.Name x pos'] (.List [.Constant (.str c) j cpos] lpos) pos :: rest) (tSeq (tAsg (tLst (tCons (tC (.str c)) tNil)) (gName i)) u) := by
  refine ⟨fun pins s σ H D I h => ?_⟩
  refine wpAny_execs_cons (wpAny_Assign_Name (wpAny_List_spliced ?_) hs)
  show wpAny _ _ (spliced ((false, eval (.Constant (.str c) j cpos) X.env) :: backTo lpos (starEach [] X.env))) _ _ s
  refine Calls.spliced_cons (Calls.Constant_str (Calls.spliced_nil ?_))
  have h1 : (1 : Nat) ≤ sizeLine := by decide
  refine ⟨h1, ?_⟩
  have hfr : H s.heap.objs.size = none := I.hok.fresh (Nat.le_refl _)
  have I1 : Inv X pins σ (upd H s.heap.objs.size (.lst [.str c])) _ := I.laid (t' := s.toks + 1) (fun b u e => Heap.get?_push_of_some _ e) (Nat.le_refl _) ⟨h1, [.str c s.toks], 0, .cons ⟨_, rfl⟩ .nil, Heap.get?_push_size _ rfl⟩
  refine wpAny_mono (PySem.wpAny_toks (store_ok (v := V.ref s.heap.objs.size) (u := Value.ref s.heap.objs.size) (Q := fun _ s2 => Inv X pins (σ.set i (some (V.ref s.heap.objs.size))) (upd H s.heap.objs.size (.lst [.str c])) s2) I1 hN hi hx rfl (fun _ I2 => I2) hf)) (fun _ s2 q => ?_) fun _ _ z => z.2
  have hk : s.toks + 1 ≤ s2.toks := q.1
  exact h2 pins s2 _ _ D (by omega) q.2 (h.2 _ hfr)
theorem pit_str {tg e : Expr} {te : TE} (he : PET X e te) : PIT X tg e (iStr te) := by
  intro pins s σ H R h0 I h
  refine thn (he pins s σ H _ h0 I h) fun v s1 ⟨y, H1, I1, r1, x, ex, q⟩ => ?_
  subst ex
  obtain ⟨t, rfl⟩ := r1
  cases ha : x.cps.all (· < 128)
  · exact wpAny_pyIter_wide ha (pi_one (tk := s1.toks) I1 _ (turn_str _ x t "str_iterator" (.inr rfl)) ⟨_, Heap.get?_push_size _ rfl, rfl, rfl⟩ q)
  · exact wpAny_pyIter_ascii ha (pi_one (tk := s1.toks) I1 _ (turn_str _ x t "str_ascii_iterator" (.inl rfl)) ⟨_, Heap.get?_push_size _ rfl, rfl, rfl⟩ q)
end
section
variable {X : Cx}
/-- equality of data one of which is not deep -/
def rEqE (K : PySem.W.Frag) : R2 := fun x y H Q => ∃ d e, Dp K H x d ∧ Dp K H y e ∧ d.canLay0 = true ∧ e.canLay0 = true ∧ min d.depth e.depth ≤ 64 ∧ Q (.bl (PyData.eqv d e)) H
theorem op_eqE (hu : X.A.units + 64 < cLine) : OpR X (compareOp .Eq) (rEqE X.K) := by
  intro pins s σ H x y v u Q I rx ry h
  obtain ⟨d, e, hd, he, sd, se, hm, q⟩ := h
  obtain ⟨as, r1⟩ := Dp.reads I d x v hd rx
  obtain ⟨bs, r2⟩ := Dp.reads I e y u he ry
  exact PySem.SeqAt.compareEq_reads r1 r2 sd se (by omega) ⟨.bl _, H, I, rfl, q⟩
end
end TV

set_option Elab.async false
set_option linter.all false
set_option maxRecDepth 100000
set_option maxHeartbeats 4000000
/-! TU: a text from its end to its beginning. -/
namespace TU
open PySem PySem.Spec PyProof.Rows L2
def tRevS (te : TE) : TE := fun σ H Q => te σ H fun x H1 => ∃ z : Str, x = .str z ∧ z.length ≤ sizeLine ∧ Q (.str ⟨z.cps.toList.reverse.toArray⟩) H1
theorem rev_list (x : Str) (u : Tok) : ((Builtin.Str.strSliceIndices none none (-1) x.length).filterMap (x.cps[·]?)) = x.cps.toList.reverse := by
  rw [picked_rev, filterMap_get, List.map_map]
  · refine List.ext_getElem (by simp [Str.length]) fun i h1 h2 => ?_
    simp only [List.length_map, List.length_range] at h1
    have hx : x.length - 1 - i < x.cps.size := by show x.length - 1 - i < x.length; omega
    rw [List.getElem_map, List.getElem_range, List.getElem_reverse]
    show x.cps.getD (x.length - 1 - i) 0 = _
    rw [Array.getD_eq_getD_getElem?, Array.getElem?_eq_getElem hx]
    simp [Str.length]
  · intro i hi
    obtain ⟨k, hk, rfl⟩ := List.mem_map.mp hi
    have hk' : k < x.length := List.mem_range.mp hk
    show x.length - 1 - k < x.length
    omega
section
variable {X : Cx}
theorem pe_revS {e : Expr} {te : TE} {k : Nat} {p1 p2 p3 pos : Pos} (he : PE X e te) : PE X (.Subscript e (.Slice none none (some (.UnaryOp .USub (.Constant (.int 1) k p1) p2)) p3) pos) (tRevS te) := by
  refine ⟨fun pins s σ H Q I h => ?_⟩
  refine Subscript_ (thn (he.run pins s σ H _ I h) fun v s1 ⟨x, H1, I1, r1, q1⟩ => ?_)
  obtain ⟨z, ex, hz, q⟩ := q1
  subst ex
  obtain ⟨t, rfl⟩ := r1
  have hst : PO X (some (.UnaryOp .USub (.Constant (.int 1) k p1) p2)) (tPart (tUn (rU fun i => .int (-i)) (tC (.int 1)))) := po_some (pe_un un_neg pe_int)
  refine wpAny_Slice (thn (po_none.run pins s1 σ H1 (fun o H2 => o = none ∧ H2 = H1) I1 ⟨rfl, rfl⟩) fun vl s2 ⟨l, H2, I2, pl, el, e2⟩ => ?_)
  subst el e2
  refine thn (po_none.run pins s2 σ H2 (fun o H3 => o = none ∧ H3 = H2) I2 ⟨rfl, rfl⟩) fun vu s3 ⟨u, H3, I3, pu, eu, e3⟩ => ?_
  subst eu e3
  refine thn (hst.run pins s3 σ H3 (fun o H4 => o = some (-1) ∧ H4 = H3) I3 ⟨1, rfl, -1, rfl, rfl, rfl⟩) fun vs s4 ⟨o, H4, I4, ps, eo, e4⟩ => ?_
  subst eo e4
  have I5 : Inv X pins σ H4 { s4 with heap := s4.heap.push { cls := .type "slice", data := .fields #[vl, vu, vs] } } := I4.kept (t' := s4.toks) fun b ob q => Heap.get?_push_of_some _ q
  show wpAny (model X.prog X.w) X.A (subscriptTail e (.Slice none none (some (.UnaryOp .USub (.Constant (.int 1) k p1) p2)) p3) (.str z t) (.ref s4.heap.objs.size)) (EP X pins σ Q) X.xe { s4 with heap := s4.heap.push { cls := .type "slice", data := .fields #[vl, vu, vs] } }
  cases pl
  cases pu
  obtain ⟨tk, rfl⟩ : ∃ tk, vs = Value.int (-1) tk := by
    cases ps
    exact ⟨_, rfl⟩
  have hsl : ({ s4 with heap := s4.heap.push { cls := .type "slice", data := .fields #[_, _, _] } } : Shared).heap.IsSlice s4.heap.objs.size none none (some (-1, tk)) := ⟨_, Heap.get?_push_size _ rfl, rfl, rfl⟩
  refine tail_any (ops := [.str z t, .ref s4.heap.objs.size]) (typeIs_str _ _ _) (PySem.F.slot_str_getitem.lookup) ?_ (by with_unfolding_all rfl)
  refine wpAny_getItem_str_slice (l := none) (u := none) (st := some (-1, tk)) hsl rfl ?_
  have e9 : ((Builtin.Str.strSliceIndices none none (-1) z.length).filterMap (z.cps[·]?)) = z.cps.toList.reverse := rev_list z tk
  show Made.post (if ((-1 : Int) == 1 && (Builtin.Str.strSliceIndices none none (-1) z.length).length == z.length) = true then Made.val (.str z t)
    else Made.str ⟨((Builtin.Str.strSliceIndices none none (-1) z.length).filterMap (z.cps[·]?)).toArray⟩) (EP X pins σ Q) _
  rw [if_neg (by rw [show ((-1 : Int) == 1) = false from rfl]; simp), e9]
  exact ⟨by show (z.cps.toList.reverse.toArray).size ≤ _; simp only [List.size_toArray, List.length_reverse]; exact hz, .str _, H4, I5.tok _, ⟨_, rfl⟩, q⟩
/-- text * n -/
def rRep1 : R2 := fun x y H Q => ∃ (z : Str) (n : Nat), x = .str z ∧ y = .int (n : Nat) ∧ 2 ≤ n ∧ n ≤ 100000 ∧ 1 ≤ z.length ∧ z.length ≤ 100 ∧ Q (.str ⟨(List.replicate n z.cps.toList).flatten.toArray⟩) H
theorem fold_rep (a : Array Nat) : ∀ (k : Nat) (acc : Array Nat), (List.replicate k a).foldl (· ++ ·) acc = acc ++ (List.replicate k a.toList).flatten.toArray
  | 0, acc => by simp
  | k + 1, acc => by
    rw [List.replicate_succ, List.foldl_cons, fold_rep a k, List.replicate_succ, List.flatten_cons]
    apply Array.ext'
    simp
theorem op_rep_str : OpR X (binaryOp .Mult) rRep1 := by
  intro pins s σ H x y v u Q I rx ry h
  obtain ⟨z, n, rfl, rfl, h2, h3, h4, h5, q⟩ := h
  obtain ⟨t, rfl⟩ := rx
  obtain ⟨t', rfl⟩ := ry
  have hz : z.length * n ≤ 100 * 100000 := Nat.mul_le_mul h5 h3
  have e : (⟨(List.replicate n z.cps).foldl (· ++ ·) #[]⟩ : Str) = ⟨(List.replicate n z.cps.toList).flatten.toArray⟩ := by
    rw [fold_rep]
    simp
  have e1 : ((n : Int) == 1 || z.length == 0) = false := by
    have a1 : ((n : Int) == 1) = false := by simp; omega
    have a2 : (z.length == 0) = false := by simp; omega
    rw [a1, a2]
    rfl
  refine PySem.P.mul_str ?_ (fun _ _ => ?_) (fun _ _ => ?_) ?_
  · have a1 : ¬ ((n : Int) < -(2 ^ 63 : Int)) := by omega
    have a2 : ¬ ((n : Int) ≥ 2 ^ 63) := by omega
    rw [decide_eq_false a1, decide_eq_false a2]
    rfl
  · have : (100000 : Int) ≤ (2 ^ 63 - 1) / (n : Int) := by
      refine (Int.le_ediv_iff_mul_le (by omega)).mpr ?_
      omega
    omega
  · rw [Int.toNat_natCast]
    unfold PySem.Builtin.Str.tooLong
    simp
    have := sizeLine_eq
    omega
  · rw [if_neg (by omega), e1, if_neg Bool.false_ne_true, Int.toNat_natCast, e]
    refine ⟨?_, .str _, H, I.tok _, ⟨_, rfl⟩, q⟩
    show ((List.replicate n z.cps.toList).flatten.toArray).size ≤ _
    have hl : z.cps.toList.length = z.length := by simp [Str.length]
    have : (List.replicate n z.cps.toList).flatten.length = n * z.length := by
      rw [List.length_flatten, List.map_replicate, List.sum_replicate_nat, hl]
    rw [List.size_toArray, this, Nat.mul_comm, sizeLine_eq]
    omega
end
end TU

set_option Elab.async false
set_option linter.all false
set_option maxRecDepth 100000
set_option maxHeartbeats 4000000

/-! TY: defs that call themselves some hundred levels down. -/
namespace TY
open PySem PySem.Spec PyProof.Rows L2
open TR
/-- room for n calls straight down, and for k more as Room counts them -/
structure RoomD (n k : Nat) (A : Around) : Prop where
  hd : A.handled = none
  dp : A.depth + n + 3 * k + 5 < recursionLimit
  un : A.units + 3 * n + 16 * k + 200 < cLine
theorem RoomD.mono {j n i k : Nat} {A : Around} (r : RoomD n k A) (h : j ≤ n) (g : i ≤ k) : RoomD j i A := ⟨r.hd, by have := r.dp; omega, by have := r.un; omega⟩
theorem RoomD.deeper {n k : Nat} {A : Around} (r : RoomD (n + 1) k A) (env : Env) : RoomD n k (A.deeper env) :=
  ⟨r.hd, by have := r.dp; show A.depth + 1 + n + 3 * k + 5 < _; omega, by have := r.un; show A.units + 3 + 3 * n + 16 * k + 200 < _; omega⟩
theorem RoomD.room {n k : Nat} {A : Around} (r : RoomD n k A) : Room k A := ⟨r.hd, by have := r.dp; omega, by have := r.un; omega⟩
structure FnD (P : Program) (w : World) (K : PySem.W.Frag) (mg : Str → Option Value) (base : Heap) (CX : CXT) (n k : Nat) (f : Addr) (fd : FuncData) (ps : List Str) (sp : Sp) : Prop where
  len : ∀ vs H Q E, sp vs H Q E → vs.length = ps.length
  run : ∀ (A : Around) (outer : List Env) (s : Shared) (H : Hp) (args : Args) (us : List Value) (vs : List V) (Q : VK) (E : XK), RoomD n k A → Env0 P w K mg base A outer s H → BindsTo s fd args (ps.zip us) → Vals vs us → sp vs H Q E →
    codeAny (model P w) A (.call (.ref f) args) (CR CX outer P w H s Q E) s
section
variable {X : Cx} {CX : CXT} {n k : Nat} {f : Addr} {fd : FuncData} {ps : List Str} {sp : Sp} {ds : List Value} {dvs : List V} {E : XK} {x : Str} {e : Expr} {es : List Expr} {t : TA} {p pos : Pos}
theorem pe_callD (F : FnD X.prog X.w X.K X.mg X.base CX n k f fd ps sp) (hr : RoomD n k X.A) (hg : Gl X x) (hm : X.mg x = some (.ref f)) (hk : PySem.W.keepIn X.K (.ref f) = true) (hb : Binds X.K fd ps ds) (hd : Vals dvs ds) (hx : Passes CX X E)
    (ha : PA X (e :: es) t) (hdb : (x == ("__debug__" : Str)) = false := by decide) (he : starEach (e :: es) X.env = (false, eval e X.env) :: starEach es X.env := by rfl) (hpl : (backTo pos (starEach es X.env)).any (·.1) = false := by rfl) :
    PE X (.Call (.Name x p) (e :: es) [] pos) (tCall sp dvs E t) := by
  refine ⟨fun pins s σ H Q I h => wpAny_Call_Name_kw (ld_glob I hg hm ?_ hdb)⟩
  refine PySem.W.callWith_K (h₀ := X.base) I.ok.mod.kin hk (thn (ha.run pos pins s σ H _ I h) fun us s1 ⟨vs, H1, J, r, q⟩ => ⟨J.kIn, ?_⟩) he hpl
  have rr : Vals (vs ++ dvs) (us ++ ds) := r.append hd
  have bound := hb s1 us J.kIn (rr.length.symm.trans (F.len _ _ _ _ q))
  refine wpAny_call (codeAny_mono (F.run X.A X.stack s1 H1 ⟨us, []⟩ (us ++ ds) (vs ++ dvs) Q E hr J.env0 bound rr q) fun res s' z => ?_)
  cases res with
  | error er => exact hx pins σ H1 s1 er s' J z
  | ok fl =>
    cases fl with
    | ret u => exact J.after z
    | next => exact False.elim z
    | brk => exact False.elim z
    | cont => exact False.elim z
end
section
variable {P : Program} {w : World} {K : PySem.W.Frag} {mg : Str → Option Value} {base : Heap}
/-- a def by its body, no repr under way -/
theorem okD {x qual : Str} {st : Stmt} {f : Addr} {fd : FuncData} {N ps : List Str} {n k : Nat} {sp : Sp} (F : Fun K x qual st f fd) (S : FnScope N ps (defScope st)) (len : ∀ vs H Q E, sp vs H Q E → vs.length = ps.length)
    (hbody : ∀ (cdv : Value) (A : Around) (outer : List Env) (s : Shared) (H : Hp) (vs : List V) (Q : VK) (E : XK), RoomD n k (A.deeper (envOfC qual (defScope st) s.heap.objs.size f cdv)) → sp vs H Q E →
      ∃ t, PSs (cxOf CX0 P w K mg base N qual (defScope st) f cdv A outer s H E).nox (defBody st) t ∧ t { nx := fun _ H' => Q .non H', rt := Q } (start N vs) H) : FnD P w K mg base CX0 (n + 1) k f fd ps sp := by
  obtain ⟨oc, od, kV, doc, pm, an, cdv, ct, osl, rfl, lk, hcd⟩ := F.ex
  refine ⟨len, fun A outer s H args us vs Q E room e0 bound r pre => ?_⟩
  have many := len _ _ _ _ pre
  have KX : K.In s.heap := e0.mod.kin.keeps fun b o z => (e0.bs b o z).1
  have lim : s.heap.NoLimit := e0.mod.nolimit.keeps fun b o z => (e0.bs b o z).1
  have kinds : ∀ y ∈ ps.zip us, (defScope st).names.lookup y.1 = some .local ∨ ((defScope st).names.lookup y.1 = some .cell ∧ ((cellsFrom (s.heap.objs.size + 1) (defScope st).names []).lookup y.1).isSome = true) := fun y hy => by
    have mem : y.1 ∈ ps := (List.of_mem_zip (show (y.1, y.2) ∈ ps.zip us from hy)).1
    rcases S.par y.1 mem with z | z
    · exact .inl z
    · exact .inr ⟨z, PySem.W.cellsFrom_some _ _ _ (.inl z)⟩
  refine codeAny_call_function room.room.depth (KX _ _ lk) rfl S.co S.gen rfl (PySem.W.codeRec_of KX hcd) (bound _ _ _ _ ?_)
  refine wpAny_newFunctionEnv_cells S.kind kinds fun env henv s1 inside => ?_
  subst henv
  refine ⟨lim.keeps inside.toInCall.keep, codeAny_func ?_⟩
  obtain ⟨t, ht0, go⟩ := hbody cdv A outer s H vs Q E (room.deeper _) pre
  have ht := ht0.nox
  have I : Inv (cxOf CX0 P w K mg base N qual (defScope st) f cdv A outer s H E) [] (start N vs) H s1 := inv_start S room.hd e0 many r inside
  refine wpAny_mono (ht.run [] s1 (start N vs) H _ I go) (fun fl s' z => ?_) fun _ _ z => z
  have back : ∀ {σ' : L2.St} {H' : Hp} {v : V} {u : Value}, Inv (cxOf CX0 P w K mg base N qual (defScope st) f cdv A outer s H E) [] σ' H' s' → RelV v u → Q v H' → CE outer P w H s Q u s' := fun {σ' H' v u} J rv q => ⟨v, H', J.os, J.bare, J.base, J.hok, rv, q⟩
  cases fl with
  | ret u =>
    obtain ⟨v, σ', H', J, rv, q⟩ := z
    exact back J rv q
  | next =>
    obtain ⟨σ', H', J, q⟩ := z
    exact back (v := V.non) (u := Value.none) J rfl q
  | brk => exact False.elim z.choose_spec.choose_spec.2
  | cont => exact False.elim z.choose_spec.choose_spec.2
end

structure FnDG (P : Program) (w : World) (K : PySem.W.Frag) (mg : Str → Option Value) (base : Heap) (CX : CXT) (n k : Nat) (f : Addr) (fd : FuncData) (ps : List Str) (sp : Sp) : Prop where
  len : ∀ vs H Q E, sp vs H Q E → vs.length = ps.length
  run : ∀ (A : Around), A.guards = some [] → ∀ (outer : List Env) (s : Shared) (H : Hp) (args : Args) (us : List Value) (vs : List V) (Q : VK) (E : XK), RoomD n k A → Env0 P w K mg base A outer s H → BindsTo s fd args (ps.zip us) → Vals vs us → sp vs H Q E →
    codeAny (model P w) A (.call (.ref f) args) (CR CX outer P w H s Q E) s
section
variable {X : Cx} {CX : CXT} {n k : Nat} {f : Addr} {fd : FuncData} {ps : List Str} {sp : Sp} {ds : List Value} {dvs : List V} {E : XK} {x : Str} {e : Expr} {es : List Expr} {t : TA} {p pos : Pos}
theorem pe_callDG (F : FnDG X.prog X.w X.K X.mg X.base CX n k f fd ps sp) (hG : X.A.guards = some []) (hr : RoomD n k X.A) (hg : Gl X x) (hm : X.mg x = some (.ref f)) (hk : PySem.W.keepIn X.K (.ref f) = true) (hb : Binds X.K fd ps ds) (hd : Vals dvs ds) (hx : Passes CX X E)
    (ha : PA X (e :: es) t) (hdb : (x == ("__debug__" : Str)) = false := by decide) (he : starEach (e :: es) X.env = (false, eval e X.env) :: starEach es X.env := by rfl) (hpl : (backTo pos (starEach es X.env)).any (·.1) = false := by rfl) :
    PE X (.Call (.Name x p) (e :: es) [] pos) (tCall sp dvs E t) := by
  refine ⟨fun pins s σ H Q I h => wpAny_Call_Name_kw (ld_glob I hg hm ?_ hdb)⟩
  refine PySem.W.callWith_K (h₀ := X.base) I.ok.mod.kin hk (thn (ha.run pos pins s σ H _ I h) fun us s1 ⟨vs, H1, J, r, q⟩ => ⟨J.kIn, ?_⟩) he hpl
  have rr : Vals (vs ++ dvs) (us ++ ds) := r.append hd
  have bound := hb s1 us J.kIn (rr.length.symm.trans (F.len _ _ _ _ q))
  refine wpAny_call (codeAny_mono (F.run X.A hG X.stack s1 H1 ⟨us, []⟩ (us ++ ds) (vs ++ dvs) Q E hr J.env0 bound rr q) fun res s' z => ?_)
  cases res with
  | error er => exact hx pins σ H1 s1 er s' J z
  | ok fl =>
    cases fl with
    | ret u => exact J.after z
    | next => exact False.elim z
    | brk => exact False.elim z
    | cont => exact False.elim z
end
section
variable {P : Program} {w : World} {K : PySem.W.Frag} {mg : Str → Option Value} {base : Heap}
/-- a def by its body, no repr under way -/
theorem okDG {x qual : Str} {st : Stmt} {f : Addr} {fd : FuncData} {N ps : List Str} {n k : Nat} {sp : Sp} (F : Fun K x qual st f fd) (S : FnScope N ps (defScope st)) (len : ∀ vs H Q E, sp vs H Q E → vs.length = ps.length)
    (hbody : ∀ (cdv : Value) (A : Around) (outer : List Env) (s : Shared) (H : Hp) (vs : List V) (Q : VK) (E : XK), (A.deeper (envOfC qual (defScope st) s.heap.objs.size f cdv)).guards = some [] → RoomD n k (A.deeper (envOfC qual (defScope st) s.heap.objs.size f cdv)) → sp vs H Q E →
      ∃ t, PSs (cxOf CX0 P w K mg base N qual (defScope st) f cdv A outer s H E).nox (defBody st) t ∧ t { nx := fun _ H' => Q .non H', rt := Q } (start N vs) H) : FnDG P w K mg base CX0 (n + 1) k f fd ps sp := by
  obtain ⟨oc, od, kV, doc, pm, an, cdv, ct, osl, rfl, lk, hcd⟩ := F.ex
  refine ⟨len, fun A hG outer s H args us vs Q E room e0 bound r pre => ?_⟩
  have many := len _ _ _ _ pre
  have KX : K.In s.heap := e0.mod.kin.keeps fun b o z => (e0.bs b o z).1
  have lim : s.heap.NoLimit := e0.mod.nolimit.keeps fun b o z => (e0.bs b o z).1
  have kinds : ∀ y ∈ ps.zip us, (defScope st).names.lookup y.1 = some .local ∨ ((defScope st).names.lookup y.1 = some .cell ∧ ((cellsFrom (s.heap.objs.size + 1) (defScope st).names []).lookup y.1).isSome = true) := fun y hy => by
    have mem : y.1 ∈ ps := (List.of_mem_zip (show (y.1, y.2) ∈ ps.zip us from hy)).1
    rcases S.par y.1 mem with z | z
    · exact .inl z
    · exact .inr ⟨z, PySem.W.cellsFrom_some _ _ _ (.inl z)⟩
  refine codeAny_call_function room.room.depth (KX _ _ lk) rfl S.co S.gen rfl (PySem.W.codeRec_of KX hcd) (bound _ _ _ _ ?_)
  refine wpAny_newFunctionEnv_cells S.kind kinds fun env henv s1 inside => ?_
  subst henv
  refine ⟨lim.keeps inside.toInCall.keep, codeAny_func ?_⟩
  obtain ⟨t, ht0, go⟩ := hbody cdv A outer s H vs Q E hG (room.deeper _) pre
  have ht := ht0.nox
  have I : Inv (cxOf CX0 P w K mg base N qual (defScope st) f cdv A outer s H E) [] (start N vs) H s1 := inv_start S room.hd e0 many r inside
  refine wpAny_mono (ht.run [] s1 (start N vs) H _ I go) (fun fl s' z => ?_) fun _ _ z => z
  have back : ∀ {σ' : L2.St} {H' : Hp} {v : V} {u : Value}, Inv (cxOf CX0 P w K mg base N qual (defScope st) f cdv A outer s H E) [] σ' H' s' → RelV v u → Q v H' → CE outer P w H s Q u s' := fun {σ' H' v u} J rv q => ⟨v, H', J.os, J.bare, J.base, J.hok, rv, q⟩
  cases fl with
  | ret u =>
    obtain ⟨v, σ', H', J, rv, q⟩ := z
    exact back J rv q
  | next =>
    obtain ⟨σ', H', J, q⟩ := z
    exact back (v := V.non) (u := Value.none) J rfl q
  | brk => exact False.elim z.choose_spec.choose_spec.2
  | cont => exact False.elim z.choose_spec.choose_spec.2
end

/-! ### the law's own def -/
section
variable {P : Program} {w : World} {K : PySem.W.Frag} {mg mb : Str → Option Value} {CX : CXT} {m k : Nat} {fa a : Addr} {fd : FuncData} {x : Str} {sp : Sp} {t : Shared} {us : List Value} {ns : List Int}
/-- what the call leaves -/
abbrev FineD (t : Shared) : Result → Shared → Prop := fun r t' => r = .ok (.ret (.bool true)) ∧ OldK t.heap t'.heap ∧ t'.os = t.os ∧ AllBare t'.gens
theorem lawHD (inK : K.In t.heap) (nsM : t.heap.Ns mainGlobals mg) (nsB : t.heap.Ns builtinsNs mb) (bb : ∀ y : Str, y ≠ "__name__" → mb y = bootBuiltins y) (nl : t.heap.NoLimit) (ng : t.gens = #[])
    (at_a : t.heap.get? a = some { cls := .type "list", data := .seq us.toArray }) (room : RoomD m k callerA) (F : ∀ base : Heap, K.In base → base.Ns mainGlobals mg → FnDG P w K mg base CX m k fa fd [x] sp)
    (bind1 : ∀ (s : Shared) (u : Value), BindsTo s fd ⟨[u], []⟩ [(x, u)]) (noX : ∀ H e s', CX [] H t (fun _ _ _ => False) e s' → False)
    {H : Hp} (only : Only H) (pre : sp [.ref a] H (fun v _ => v = .bl true) fun _ _ _ => False) (hok : HOk P w H t.heap) (onA : ∀ b, H b ≠ none → b = a) (offK : H a ≠ none → K.lookup a = none) :
    codeAny (model P w) callerA (.call (.ref fa) ⟨[.ref a], []⟩) (FineD t) t := by
  have sees : ∀ {b : Addr} {o : Obj}, t.heap.get? b = some o → H b = none → (hidT t.heap H).get? b = some o := fun z n => hidT_get z n
  have untr : ∀ {b : Addr}, b ≠ a → H b = none := fun {b} nb => by
    cases q : H b with
    | none => rfl
    | some u => exact absurd (onA b (by rw [q]; simp)) nb
  have dictNs : ∀ {b : Addr} {m : Str → Option Value}, t.heap.Ns b m → (hidT t.heap H).Ns b m := fun {b m} ⟨o, es, ep, g, d, r⟩ => by
    refine ⟨o, es, ep, sees g (untr fun z => ?_), d, r⟩
    subst z
    rw [at_a] at g
    cases g
    exact nomatch (show Data.seq us.toArray _ = Data.dict es ep from d)
  have inB : K.In (hidT t.heap H) := fun b o z => by
    refine sees (inK b o z) ?_
    cases q : H b with
    | none => rfl
    | some u =>
      have nn : H b ≠ none := by rw [q]; simp
      have eb := onA b nn
      subst eb
      rw [offK nn] at z
      cases z
  obtain ⟨mc, l1, l2⟩ := nl
  have md : Mod K mg (hidT t.heap H) := ⟨inB, dictNs nsM, ⟨mb, dictNs nsB, bb⟩, ⟨mc, dictNs l1, l2⟩⟩
  have e0 : Env0 P w K mg (hidT t.heap H) callerA [] t H := ⟨rfl, md, fun b o z => of_hidT z, Nat.le_of_eq (hidT_size _ _), trivial, fun b z => (by cases z), hok, .of_eq ng⟩
  refine codeAny_mono ((F _ inB (dictNs nsM)).run callerA rfl [] t H ⟨[.ref a], []⟩ [.ref a] [.ref a] _ _ room e0 (bind1 t (.ref a)) (.cons rfl .nil) pre) fun r t' z => ?_
  cases r with
  | error e => exact (noX H e t' z).elim
  | ok fl =>
    cases fl with
    | next => exact False.elim z
    | brk => exact False.elim z
    | cont => exact False.elim z
    | ret u =>
      obtain ⟨v, H', os, bare, un, hok', rv, ev⟩ := z
      cases (show v = .bl true from ev)
      cases (show u = Value.bool true from rv)
      refine ⟨rfl, OldK.of_keep fun b o g => ?_, os, bare⟩
      rcases only b with n | ⟨ob, xs, z⟩
      · exact un.keep b o g n (fun q => by cases q) (fun q => by cases q)
      · have g1 := (hok b _ z).1
        have g2 := (hok' b _ (un.frzs b ob _ z)).1
        rw [g] at g1
        cases g1
        exact g2
theorem lawGD (inK : K.In t.heap) (nsM : t.heap.Ns mainGlobals mg) (nsB : t.heap.Ns builtinsNs mb) (bb : ∀ y : Str, y ≠ "__name__" → mb y = bootBuiltins y) (nl : t.heap.NoLimit) (ng : t.gens = #[])
    (at_a : t.heap.get? a = some { cls := .type "list", data := .seq us.toArray }) (areInts : IntsAre us ns) (hz : ns.length ≤ sizeLine) (room : RoomD m k callerA) (F : ∀ base : Heap, K.In base → base.Ns mainGlobals mg → FnDG P w K mg base CX m k fa fd [x] sp)
    (bind1 : ∀ (s : Shared) (u : Value), BindsTo s fd ⟨[u], []⟩ [(x, u)]) (noX : ∀ H e s', CX [] H t (fun _ _ _ => False) e s' → False)
    (pre : ∀ H : Hp, Only H → SqL K H a (ns.map V.int) → sp [.ref a] H (fun v _ => v = .bl true) fun _ _ _ => False) : codeAny (model P w) callerA (.call (.ref fa) ⟨[.ref a], []⟩) (FineD t) t := by
  have rv := vals_ints areInts
  have many := areInts.length
  cases own : K.lookup a with
  | some o =>
    have g := inK a o own
    rw [at_a] at g
    cases g
    have none0 : Only fun _ => none := fun _ => .inl rfl
    exact lawHD inK nsM nsB bb nl ng at_a room F bind1 noX none0 (pre _ none0 (.inr ⟨_, us.toArray, _, own, rfl, rfl, rfl, by rw [List.size_toArray, many]; exact hz, by simpa using rv⟩)) (fun b u z => nomatch (show (none : Option HO) = some u from z)) (fun b z => absurd rfl z) fun z => absurd rfl z
  | none =>
    let H1 : Hp := fun b => if b = a then some (.frz { cls := .type "list", data := .seq us.toArray } (.lst (ns.map V.int))) else none
    have yes : H1 a = some (.frz { cls := .type "list", data := .seq us.toArray } (.lst (ns.map V.int))) := if_pos rfl
    have no : ∀ {b : Addr}, b ≠ a → H1 b = none := fun nb => if_neg nb
    have one : Only H1 := fun b => by
      by_cases e : b = a
      · exact .inr ⟨_, _, by rw [e]; exact yes⟩
      · exact .inl (no e)
    refine lawHD inK nsM nsB bb nl ng at_a room F bind1 noX one (pre _ one (.inl (.inr ⟨_, yes⟩))) (fun b u z => ?_) (fun b z => ?_) fun _ => own
    · by_cases e : b = a
      · subst e
        rw [yes] at z
        cases z
        exact ⟨at_a, by rw [List.length_map]; exact hz, us, _, rv, at_a⟩
      · rw [no e] at z
        cases z
    · exact Decidable.byContradiction fun e => z (no e)
end
theorem walkGD {l : PySem.W.OpenLaw} {n m k : Nat} {q : Program} {loose : List Str} {XP : (Str → Option Value) → Heap → Prop} {YP : World → Heap → Prop} {d : DefRec} {K : Params → PySem.W.Frag} {sp : World → Sp} {x : Str}
    (hn : l.most = some n) (hz : n ≤ sizeLine) (hdf : d.params.defaults = []) (room : RoomD m k callerA) (hY : ∀ (w : World) (h : Heap), YP w h → (K w.params).In h)
    (F : ∀ (w : World) (mg : Str → Option Value) (fa : Addr) (h : Heap), (K w.params).In h → h.Ns mainGlobals mg → mg d.name = some (.ref fa) →
      ∃ fd : FuncData, (∀ (s : Shared) (u : Value), BindsTo s fd ⟨[u], []⟩ [(x, u)]) ∧ ∀ base : Heap, (K w.params).In base → base.Ns mainGlobals mg → FnDG l.prog w (K w.params) mg base CX0 m k fa fd [x] (sp w))
    (pre : ∀ (w : World) (H : Hp) (a : Addr) (ns : List Int), ns.length ≤ n → Only H → SqL (K w.params) H a (ns.map V.int) → sp w [.ref a] H (fun v _ => v = .bl true) fun _ _ _ => False) :
    PySem.W.WalkO q loose XP YP l.row.toRowW d [] (fun f vs => PySem.call f vs) := by
  refine Att.attach_call hn hdf fun w t0 t mg mb fa o pm cd doc a us ns G Y ho hd hcd hmg at_a areInts many ng => ?_
  obtain ⟨fd, hb, hF⟩ := F w mg fa _ (hY w _ Y) G.T.g hmg
  exact lawGD (hY w _ Y) G.T.g G.T.b G.T.builtins G.T.nolimit ng at_a areInts (Nat.le_trans many hz) room hF hb (fun _ _ _ z => z) fun H h1 h2 => pre w H a ns many h1 h2
end TY

set_option Elab.async false
set_option linter.all false
set_option maxRecDepth 100000
set_option maxHeartbeats 4000000
/-! TZ: two lists of the same plain values. -/
namespace TZ
open PySem PySem.Spec PyProof.Rows L2
theorem valsAt : ∀ {xs : List V} {us ws : List Value}, Vals xs us → Vals xs ws → (∀ z ∈ xs, flatB z = true) → ∀ (A : Around) (s : Shared) (j : Nat) (h1 : j < us.length) (h2 : j < ws.length), SeqAt.EqAt A s us[j] ws[j] true
  | _, _, _, .nil, .nil, _, _, _, j, h1, _ => absurd h1 (Nat.not_lt_zero j)
  | _, _, _, .cons r1 t1, .cons r2 t2, hf, A, s, 0, _, _ => eqAt_same r1 r2 (hf _ (List.mem_cons_self ..))
  | _, _, _, .cons r1 t1, .cons r2 t2, hf, A, s, j + 1, h1, h2 => valsAt t1 t2 (fun z hz => hf z (List.mem_cons_of_mem _ hz)) A s j (by simpa using h1) (by simpa using h2)
section
variable {X : Cx}
def rNeV (K : PySem.W.Frag) : R2 := fun x y H Q => ∃ a b xs, x = .ref a ∧ y = .ref b ∧ SqL K H a xs ∧ SqL K H b xs ∧ (∀ z ∈ xs, flatB z = true) ∧ Q (.bl false) H
theorem op_neV (hu : X.A.units + 64 < cLine) : OpR X (compareOp .NotEq) (rNeV X.K) := by
  intro pins s σ H x y v u Q I rx ry h
  obtain ⟨a, b, xs, rfl, rfl, ha, hb, hf, q⟩ := h
  cases (show v = Value.ref a from rx)
  cases (show u = Value.ref b from ry)
  obtain ⟨us, r1, p1, _⟩ := I.list ha
  obtain ⟨ws, r2, p2, _⟩ := I.list hb
  have hsz : us.toArray.size = ws.toArray.size := by
    rw [List.size_toArray, List.size_toArray, ← r1.length, ← r2.length]
  have he : ∀ j (h1 : j < us.toArray.size) (h2 : j < ws.toArray.size), SeqAt.EqAt X.A.in1 s us.toArray[j] ws.toArray[j] ((fun _ => true) j) := fun j h1 h2 => by
    have k := valsAt r1 r2 hf X.A.in1 s j (by simpa using h1) (by simpa using h2)
    simpa using k
  refine SeqAt.RcNeAt.lists (e := fun _ => true) p1.isList p2.isList hsz (by omega) he _ _ _ _ ?_
  rw [show (!(List.range us.toArray.size).all fun _ => true) = false from by rw [show ((List.range us.toArray.size).all fun _ => true) = true from List.all_eq_true.mpr fun _ _ => rfl]; rfl]
  exact ⟨.bl false, H, I, rfl, q⟩
end
end TZ

set_option Elab.async false
set_option linter.all false
set_option maxRecDepth 100000
set_option maxHeartbeats 4000000
/-! TO: texts put in order, however many there are; there is one such list. -/
namespace TO
open PySem PySem.Spec PyProof.Rows L2
def rSrtA (K : PySem.W.Frag) : List V → Hp → VK → Prop := fun vs H Q => ∃ (a : Addr) (xs : List Str), vs = [V.ref a] ∧ SqL K H a (xs.map V.str) ∧
  ∀ (ys : List Str) (p : Addr), ys.Perm xs ∧ sortedS ys = true → H p = none → Q (.ref p) (upd H p (.lst (ys.map V.str)))
section
variable {X : Cx}
theorem cr_srtA : CallR X (.builtin "sorted") (rSrtA X.K) := by
  intro pins s σ H vs us Q I r h
  obtain ⟨a, xs, e, hs, q⟩ := h
  subst e
  obtain ⟨its, rv, hl, hz⟩ := I.list hs
  rw [Vals.ref1 r]
  have n1 : its.length ≤ sizeLine := by rw [← rv.length]; exact hz
  refine PyProof.Rows.sorted_strsAny hl.isList rv.strs n1 fun out ys h1 h2 h3 => ?_
  obtain ⟨ep, at_⟩ := PyProof.Rows.sortedAll_at s.heap its out
  have n2 : (ys.map V.str).length ≤ sizeLine := by
    rw [List.length_map, h2.length_eq]
    rw [List.length_map] at hz
    exact hz
  have J := I.laid (t' := s.toks) (o := .lst (ys.map V.str)) (fun _ _ => PyProof.Rows.sortedAll_old) (Nat.le_succ _) ⟨n2, out.toList, ep, vals_of_strs h1, at_⟩
  exact ⟨.ref _, _, J, rfl, q ys _ ⟨h2, h3⟩ (I.hok.fresh (Nat.le_succ _))⟩
end
/-! ### the order of texts -/
theorem lt_irr : ∀ a : List Nat, ltCps a a = false
  | [] => rfl
  | x :: a => by simp [ltCps, lt_irr a]
theorem lt_tri : ∀ a b : List Nat, ltCps a b = false → ltCps b a = false → a = b
  | [], [], _, _ => rfl
  | [], _ :: _, h, _ => by simp [ltCps] at h
  | _ :: _, [], _, h => by simp [ltCps] at h
  | x :: a, y :: b, h, g => by
    simp only [ltCps, Bool.or_eq_false_iff, Bool.and_eq_false_iff, decide_eq_false_iff_not, beq_eq_false_iff_ne] at h g
    have e : x = y := by omega
    subst e
    rw [lt_tri a b (by rcases h.2 with z | z; exact absurd rfl z; exact z) (by rcases g.2 with z | z; exact absurd rfl z; exact z)]
/-- not after -/
theorem nl_trans : ∀ a b c : List Nat, ltCps b a = false → ltCps c b = false → ltCps c a = false
  | [], _, [], _, _ => rfl
  | [], _, _ :: _, _, _ => rfl
  | _ :: _, [], _, h, _ => by simp [ltCps] at h
  | x :: a, y :: b, [], _, g => by simp [ltCps] at g
  | x :: a, y :: b, z :: c, h, g => by
    simp only [ltCps, Bool.or_eq_false_iff, Bool.and_eq_false_iff, decide_eq_false_iff_not, beq_eq_false_iff_ne] at h g ⊢
    refine ⟨by omega, ?_⟩
    by_cases e : z = x
    · have e1 : y = x := by omega
      have e2 : z = y := by omega
      exact .inr (nl_trans a b c (by rcases h.2 with q | q; exact absurd e1 q; exact q) (by rcases g.2 with q | q; exact absurd e2 q; exact q))
    · exact .inl e
theorem up_all : ∀ (l : List Str) (p : Str), risingS p l = true → ∀ x ∈ l, ltCps x.cps.toList p.cps.toList = false
  | [], _, _, _, h => nomatch h
  | y :: l, p, h, x, hx => by
    simp only [risingS, Bool.and_eq_true, Bool.not_eq_true'] at h
    rcases List.mem_cons.mp hx with rfl | hx
    · exact h.1
    · exact nl_trans _ _ _ h.1 (up_all l y h.2 x hx)
theorem up_tail {x : Str} {l : List Str} (h : sortedS (x :: l) = true) : sortedS l = true := by
  cases l with
  | nil => rfl
  | cons y l =>
    have h : risingS x (y :: l) = true := h
    simp only [risingS, Bool.and_eq_true] at h
    exact h.2
/-- texts in order: one list -/
theorem one_list : ∀ {xs ys : List Str}, xs.Perm ys → sortedS xs = true → sortedS ys = true → xs = ys
  | [], ys, h, _, _ => (List.Perm.eq_nil h.symm).symm
  | x :: xs, [], h, _, _ => absurd h.length_eq (by simp)
  | x :: xs, y :: ys, h, hx, hy => by
    have e : x = y := by
      by_cases e : x = y
      · exact e
      · have m1 : x ∈ ys := by
          rcases List.mem_cons.mp (h.mem_iff.mp (List.mem_cons_self (a := x) (l := xs))) with z | z
          · exact absurd z e
          · exact z
        have m2 : y ∈ xs := by
          rcases List.mem_cons.mp (h.mem_iff.mpr (List.mem_cons_self (a := y) (l := ys))) with z | z
          · exact absurd z.symm e
          · exact z
        have a1 := up_all ys y hy x m1
        have a2 := up_all xs x hx y m2
        have := lt_tri _ _ a1 a2
        cases x; cases y
        simp only [Str.mk.injEq] at *
        exact absurd (Array.toList_inj.mp this) e
    subst e
    rw [one_list (List.Perm.cons_inv h) (up_tail hx) (up_tail hy)]
end TO

set_option Elab.async false
set_option linter.all false
set_option maxRecDepth 100000
set_option maxHeartbeats 4000000
/-! TD: dicts of the module from texts to texts; text * 0 or 1. -/
namespace TD
open PySem PySem.Spec PyProof.Rows L2
/-- at d stands, for good, a dict from texts to texts -/
structure KD (K : PySem.W.Frag) (w : World) (d : Addr) (kvs : List (Str × Str)) : Prop where
  ex : ∃ es n, KDict K w d es n
  get : ∀ z, ∃ r, PySem.W.nsIn K d z = some r ∧ ((∃ y t, kvs.lookup z = some y ∧ r = some (.str y t)) ∨ (kvs.lookup z = none ∧ r = none))
def rInKD (d : Addr) (kvs : List (Str × Str)) : R2 := fun x y H Q => ∃ z, x = .str z ∧ y = .ref d ∧ Q (.bl (kvs.lookup z).isSome) H
def rNiKD (d : Addr) (kvs : List (Str × Str)) : R2 := fun x y H Q => ∃ z, x = .str z ∧ y = .ref d ∧ Q (.bl (!(kvs.lookup z).isSome)) H
def rIxKD (d : Addr) (kvs : List (Str × Str)) : R2 := fun x y H Q => ∃ z u, x = .ref d ∧ y = .str z ∧ kvs.lookup z = some u ∧ Q (.str u) H
section
variable {X : Cx} {d : Addr} {kvs : List (Str × Str)}
theorem op_inKD (D : KD X.K X.w d kvs) : OpR X (compareOp .In) (rInKD d kvs) := by
  obtain ⟨es, n, kd⟩ := D.ex
  intro pins s σ H x y v u Q I rx ry h
  obtain ⟨z, e1, e2, q⟩ := h
  obtain ⟨r, hr, hc⟩ := D.get z
  refine op_in_kd kd pins s σ H x y v u Q I rx ry ⟨z, r, e1, e2, hr, ?_⟩
  rcases hc with ⟨y, t, l, rfl⟩ | ⟨l, rfl⟩
  · rw [l] at q; exact q
  · rw [l] at q; exact q
theorem op_niKD (D : KD X.K X.w d kvs) : OpR X (compareOp .NotIn) (rNiKD d kvs) := by
  obtain ⟨es, n, kd⟩ := D.ex
  intro pins s σ H x y v u Q I rx ry h
  obtain ⟨z, e1, e2, q⟩ := h
  obtain ⟨r, hr, hc⟩ := D.get z
  refine op_notIn_kd kd pins s σ H x y v u Q I rx ry ⟨z, r, e1, e2, hr, ?_⟩
  rcases hc with ⟨y, t, l, rfl⟩ | ⟨l, rfl⟩
  · rw [l] at q; exact q
  · rw [l] at q; exact q
theorem ix_KD (D : KD X.K X.w d kvs) : IxR X (rIxKD d kvs) := by
  obtain ⟨es, n, kd⟩ := D.ex
  intro value slice pins s σ H x y v u Q I rx ry h hs
  obtain ⟨z, u0, e1, e2, l, q⟩ := h
  obtain ⟨r, hr, hc⟩ := D.get z
  rcases hc with ⟨y', t, l', rfl⟩ | ⟨l', rfl⟩
  · rw [l] at l'
    cases l'
    exact ix_kdict value slice pins s σ H x y v u Q I rx ry ⟨d, z, .str u0, e1, e2, ⟨es, n, _, kd.at_, kd.lit, hr, t, rfl⟩, q⟩ hs
  · rw [l] at l'; cases l'
end
/-- how such a dict is found among what the top leaves -/
theorem kd_mk2 {K : PySem.W.Frag} {w : World} {d : Addr} {n : Nat} {h1 h2 : Int} {a b c e : Str} {t1 t2 t3 t4 : Tok} (l : K.lookup d = some ⟨.type "dict", none, .dict #[⟨h1, .str a t1, .str b t2⟩, ⟨h2, .str c t3, .str e t4⟩] n, #[]⟩)
    (e1 : h1 = PyData.keyHash w.params a) (e2 : h2 = PyData.keyHash w.params c) (low : (d == sysModules) = false) : KD K w d [(a, b), (c, e)] := by
  refine ⟨⟨_, _, l, ⟨⟨a, t1, rfl, e1⟩, ⟨c, t3, rfl, e2⟩, trivial⟩, low⟩, fun z => ?_⟩
  unfold PySem.W.nsIn
  rw [l]
  simp only [List.find?, Value.isStr]
  by_cases ha : a = z
  · subst ha
    refine ⟨_, by simp, .inl ⟨b, t2, ?_, rfl⟩⟩
    simp [List.lookup]
  · have ha' : (a == z) = false := by simpa using ha
    have ha2 : (z == a) = false := by simpa using fun q : z = a => ha q.symm
    by_cases hc : c = z
    · subst hc
      refine ⟨_, by simp [ha'], .inl ⟨e, t4, ?_, rfl⟩⟩
      simp [List.lookup, ha2]
    · have hc' : (c == z) = false := by simpa using hc
      have hc2 : (z == c) = false := by simpa using fun q : z = c => hc q.symm
      refine ⟨none, by simp [ha', hc', DictEntry.refKey], .inr ⟨?_, rfl⟩⟩
      simp [List.lookup, ha2, hc2]
/-- text * 0, text * 1 -/
def rRep01 : R2 := fun x y H Q => ∃ (z : Str) (n : Nat), x = .str z ∧ y = .int (n : Nat) ∧ n ≤ 1 ∧ z.length ≤ 100 ∧ Q (.str (if n = 1 then z else Str.empty)) H
theorem op_rep01 {X : Cx} : OpR X (binaryOp .Mult) rRep01 := by
  intro pins s σ H x y v u Q I rx ry h
  obtain ⟨z, n, rfl, rfl, h2, h3, q⟩ := h
  obtain ⟨t, rfl⟩ := rx
  obtain ⟨t', rfl⟩ := ry
  rcases (show n = 0 ∨ n = 1 by omega) with rfl | rfl
  · exact PySem.P.mul_str_none (by decide) (by decide) ⟨.str _, H, I.tok _, ⟨_, rfl⟩, q⟩
  · have e : (((1 : Nat) : Int) == 1 || z.length == 0) = true := rfl
    refine PySem.P.mul_str (by decide) (fun _ h => by rw [e] at h; cases h) (fun _ h => by rw [e] at h; cases h) ?_
    rw [if_neg (by decide), if_pos e]
    exact ⟨.str z, H, I, ⟨_, rfl⟩, q⟩
/-- what is never reached -/
theorem pss_dead {X : Cx} {b : List Stmt} : PSs X b (fun _ _ _ => False) := ⟨fun _ _ _ _ _ _ h => False.elim h⟩
/-- a comprehension over a text's signs -/
theorem lc_str {x : Str} {g : TG} {tt : TT} {te : TE} {vs : List Nat} {σ : L2.St} {H1 : Hp} {D : Addr} {Qd : Hp → Prop} (Pv : Nat → Hp → Prop) (h0 : Pv 0 (upd H1 D (.lst [])))
    (hs : ∀ i c H, x.cps[i]? = some c → Pv i H → g (.str ⟨#[c]⟩) (wipe σ vs) H fun σ2 H2 => wipe σ2 vs = wipe σ vs ∧ tt σ2 H2 fun b H3 =>
      if b = true then te σ2 H3 fun y H4 => ∃ acc, H4 D = some (.lst acc) ∧ acc.length < sizeLine ∧ Pv (i + 1) (upd H4 D (.lst (acc ++ [y]))) else Pv (i + 1) H3)
    (hd : ∀ H, Pv x.cps.size H → Qd H) :
    ∃ W : Nat → Nat → Hp → Prop, (∃ m, W 0 m (upd H1 D (.lst []))) ∧ ∀ i m H, W i m H →
      ((Its x).stop i H ∧ Qd H) ∨ ((Its x).go i H ∧ ∃ Nx : Hp → Prop, (∀ H', Nx H' → ∃ m', m' < m ∧ W (i + 1) m' H') ∧ ∀ y H', (Its x).yld i H y H' → g y (wipe σ vs) H' fun σ2 H2 => wipe σ2 vs = wipe σ vs ∧ tt σ2 H2 fun b H3 =>
        if b = true then te σ2 H3 fun y H4 => ∃ acc, H4 D = some (.lst acc) ∧ acc.length < sizeLine ∧ Nx (upd H4 D (.lst (acc ++ [y]))) else Nx H3) := by
  refine ⟨fun i m H => m = x.cps.size - i ∧ i ≤ x.cps.size ∧ Pv i H, ⟨x.cps.size, by simp, Nat.zero_le _, h0⟩, ?_⟩
  rintro i m H ⟨rfl, hi, p⟩
  by_cases hlt : i < x.cps.size
  · refine .inr ⟨hlt, Pv (i + 1), fun H' q => ⟨x.cps.size - (i + 1), by omega, rfl, hlt, q⟩, fun v H' y => ?_⟩
    obtain ⟨rfl, c, hc, rfl⟩ := y
    exact hs i c H' hc p
  · have : i = x.cps.size := by omega
    subst this
    exact .inl ⟨Nat.le_refl _, hd H p⟩
/-- any comprehension's loop over a list: what a turn does, by its item, its heap and what it is to reach -/
theorem lco_list {K : PySem.W.Frag} {a : Addr} {xs : List V} {H0 : Hp} {Qd : Hp → Prop} {B : V → Hp → (Hp → Prop) → Prop} (Pv : Nat → Hp → Prop) (h0 : Pv 0 H0) (hl : ∀ i H, i ≤ xs.length → Pv i H → SqL K H a xs)
    (hs : ∀ i x H, xs[i]? = some x → Pv i H → B x H (Pv (i + 1))) (hd : ∀ H, Pv xs.length H → Qd H) :
    ∃ W : Nat → Nat → Hp → Prop, (∃ m, W 0 m H0) ∧ ∀ i m H, W i m H →
      ((Itl K a).stop i H ∧ Qd H) ∨ ((Itl K a).go i H ∧ ∃ Nx : Hp → Prop, (∀ H', Nx H' → ∃ m', m' < m ∧ W (i + 1) m' H') ∧ ∀ x H', (Itl K a).yld i H x H' → B x H' Nx) := by
  refine ⟨fun i m H => m = xs.length - i ∧ i ≤ xs.length ∧ Pv i H, ⟨xs.length, by simp, Nat.zero_le _, h0⟩, ?_⟩
  rintro i m H ⟨rfl, hi, p⟩
  have q := hl i H hi p
  by_cases hlt : i < xs.length
  · refine .inr ⟨⟨xs, xs[i], q, by simp [hlt]⟩, Pv (i + 1), fun H' p' => ⟨xs.length - (i + 1), by omega, rfl, hlt, p'⟩, fun x H' y => ?_⟩
    obtain ⟨e, y⟩ := y
    subst e
    exact hs i x _ (y xs q) p
  · have e : i = xs.length := by omega
    subst e
    exact .inl ⟨⟨xs, q, Nat.le_refl _⟩, hd H p⟩
/-- the same over a tuple -/
theorem lco_tup {K : PySem.W.Frag} {a : Addr} {xs : List V} {H0 : Hp} {Qd : Hp → Prop} {B : V → Hp → (Hp → Prop) → Prop} (Pv : Nat → Hp → Prop) (h0 : Pv 0 H0) (hl : ∀ i H, i ≤ xs.length → Pv i H → SqT K H a xs)
    (hs : ∀ i x H, xs[i]? = some x → Pv i H → B x H (Pv (i + 1))) (hd : ∀ H, Pv xs.length H → Qd H) :
    ∃ W : Nat → Nat → Hp → Prop, (∃ m, W 0 m H0) ∧ ∀ i m H, W i m H →
      ((Itt K a).stop i H ∧ Qd H) ∨ ((Itt K a).go i H ∧ ∃ Nx : Hp → Prop, (∀ H', Nx H' → ∃ m', m' < m ∧ W (i + 1) m' H') ∧ ∀ x H', (Itt K a).yld i H x H' → B x H' Nx) := by
  refine ⟨fun i m H => m = xs.length - i ∧ i ≤ xs.length ∧ Pv i H, ⟨xs.length, by simp, Nat.zero_le _, h0⟩, ?_⟩
  rintro i m H ⟨rfl, hi, p⟩
  have q := hl i H hi p
  by_cases hlt : i < xs.length
  · refine .inr ⟨⟨xs, xs[i], q, by simp [hlt]⟩, Pv (i + 1), fun H' p' => ⟨xs.length - (i + 1), by omega, rfl, hlt, p'⟩, fun x H' y => ?_⟩
    obtain ⟨e, y⟩ := y
    subst e
    exact hs i x _ (y xs q) p
  · have e : i = xs.length := by omega
    subst e
    exact .inl ⟨⟨xs, q, Nat.le_refl _⟩, hd H p⟩
/-- a loop over enumerate(a list) -/
theorem for_enumL {K : PySem.W.Frag} {a : Addr} {xs : List V} {g : TG} {tb : TS} {D : Ends} {σ : L2.St} {H : Hp} (Pv : Nat → L2.St → Hp → Prop) (h0 : Pv 0 σ H) (hl : ∀ i σ H, Pv i σ H → SqL K H a xs)
    (hs : ∀ i x σ H T, xs[i]? = some x → Pv i σ H → H T = none → g (.ref T) σ (upd H T (.tup [.int (i : Nat), x])) fun σ2 H2 => tb { D with nx := Pv (i + 1), ct := Pv (i + 1), bk := D.nx } σ2 H2) (hd : ∀ σ H, Pv xs.length σ H → D.nx σ H) :
    ∃ W : Nat → Nat → L2.St → Hp → Prop, (∃ m, W 0 m σ H) ∧ ∀ i m σ H, W i m σ H →
      ((Ite K a).stop i H ∧ D.nx σ H) ∨ ((Ite K a).go i H ∧ ∃ N : L2.St → Hp → Prop, (∀ σ' H', N σ' H' → ∃ m', m' < m ∧ W (i + 1) m' σ' H') ∧ ∀ v H', (Ite K a).yld i H v H' → g v σ H' fun σ2 H2 => tb { D with nx := N, ct := N, bk := D.nx } σ2 H2) := by
  refine ⟨fun i m σ H => m = xs.length - i ∧ i ≤ xs.length ∧ Pv i σ H, ⟨xs.length, by simp, Nat.zero_le _, h0⟩, ?_⟩
  rintro i m σ H ⟨rfl, hi, p⟩
  have q := hl i σ H p
  by_cases hlt : i < xs.length
  · refine .inr ⟨⟨xs, xs[i], q, List.getElem?_eq_getElem hlt⟩, Pv (i + 1), fun σ' H' z => ⟨xs.length - (i + 1), by omega, rfl, hlt, z⟩, fun v H' y => ?_⟩
    obtain ⟨T, x, rfl, hT, rfl, hx⟩ := y
    exact hs i x σ H T (hx xs q) p hT
  · have : i = xs.length := by omega
    subst this
    exact .inl ⟨⟨xs, q, by omega⟩, hd σ H p⟩
end TD

set_option Elab.async false
set_option linter.all false
set_option maxRecDepth 100000
set_option maxHeartbeats 4000000
/-! TG: the set of a list of texts, and whether a text is in it. -/
namespace TG
open PySem PySem.Spec PyProof.Rows L2
theorem txt_get : ∀ {us : List Value} {zs : List Str}, StrsAre us zs → ∀ (i : Nat) (v : Value), us[i]? = some v → ∃ z t, zs[i]? = some z ∧ v = .str z t
  | _, _, .nil, i, v, h => by simp at h
  | _, _, .cons z t r, 0, v, h => ⟨z, t, rfl, by simpa using h.symm⟩
  | _, _, .cons z t r, i + 1, v, h => by
    obtain ⟨y, u, h1, h2⟩ := txt_get r i v (by simpa using h)
    exact ⟨y, u, by simpa using h1, h2⟩
/-- the first i texts are in -/
def In (P : Program) (w : World) (h : Heap) (D : Addr) (zs : List Str) (i : Nat) : Prop := ∃ n, n ≤ i ∧ h.SetOf (strKind P w) D (fun y => decide (y ∈ zs.take i)) n
theorem In.move {P : Program} {w : World} {h h' : Heap} {D : Addr} {zs : List Str} {i : Nat} (a : In P w h D zs i) (k : ∀ o, h.get? D = some o → h'.get? D = some o) : In P w h' D zs i := by
  obtain ⟨n, hn, o, es, ep, t, ho, r⟩ := a
  exact ⟨n, hn, o, es, ep, t, k o ho, r⟩
section
variable {P : Program} {w : World} {A : Around} {R : Result → Shared → Prop} {it : Addr} {fp wr : List Addr} {G : Array GenState → Array GenState → Prop} {n : Nat} {Pv : Nat → Value → Prop} {St : Nat → Shared → Prop}
theorem run_fill (W : WalksS P w A.in1 it fp wr G n Pv St) (D : Addr) (out : D ∉ fp) (zs : List Str) (few : n + 1 < scanBound) (told : ∀ i v, Pv i v → ∃ z t, zs[i]? = some z ∧ v = .str z t) :
    ∀ (left i : Nat) (s : Shared), n - i = left → i ≤ n → St i s → In P w s.heap D zs i → (∀ s2, Moved (D :: wr) G s s2 → In P w s2.heap D zs n → R (.ok (.ret .none)) s2) →
      codeAny (model P w) A (.builtin "set.update.loop" ⟨[.ref D, .ref it], []⟩) R s := by
  have outW : D ∉ wr := fun m => out (W.sub _ m)
  have wider : ∀ b ∈ wr, b ∈ D :: wr := fun b m => List.mem_cons_of_mem _ m
  intro left
  induction left with
  | zero =>
    intro i s e le st a go
    obtain rfl : i = n := by omega
    refine codeAny_builtin PyProof.Rows.F.entry_set_update_loop ?_
    rw [Around.under_plainId PyProof.Rows.F.plain_set_update_loop _]
    show wpAny _ A.in1 (pyNext (.ref it) >>= _) _ _ s
    refine wpAny_bind (W.done s _ _ st fun s2 mv => ?_)
    show wpAny _ A.in1 (ret Value.none) _ _ s2
    exact wpAny_pure (go s2 (mv.mono wider) (a.move fun o ho => mv.heap D _ outW ho))
  | succ left ih =>
    intro i s e le st a go
    have lt : i < n := by omega
    refine codeAny_builtin PyProof.Rows.F.entry_set_update_loop ?_
    rw [Around.under_plainId PyProof.Rows.F.plain_set_update_loop _]
    show wpAny _ A.in1 (pyNext (.ref it) >>= _) _ _ s
    refine wpAny_bind (W.item i s _ _ lt st fun v s2 pv st2 mv => ?_)
    obtain ⟨z, t, hz, rfl⟩ := told i v pv
    obtain ⟨k, hk, hS⟩ := a.move fun o ho => mv.heap D _ outW ho
    show wpAny _ A.in1 (holding [Value.str z t] (setAdd D (.str z t)) >>= _) _ _ s2
    refine wpAny_bind (wpAny_holding ?_)
    unfold setAdd
    refine wpAny_holding (wpAny_bind ((strKind P w).pyHash (k := z) (strKind_is _ _ _ _) ?_))
    refine wpAny_setAddHashed_of (knd := strKind P w) (s := { s2 with toks := s2.toks + 1 }) (strKind_is _ _ _ _) rfl hS (by omega) fun h2 but hS2 => ?_
    have a2 : In P w h2 D zs (i + 1) := by
      refine ⟨_, ?_, SetOf_congr hS2 (fun y => ?_) rfl⟩
      · split <;> omega
      · rw [List.take_succ, hz]
        show (decide (y ∈ zs.take i) || decide (y = z)) = decide (y ∈ zs.take i ++ [z])
        rw [← Bool.decide_or]
        exact decide_eq_decide.mpr (by simp)
    have keep : ∀ b o, b ≠ D → s2.heap.get? b = some o → h2.get? b = some o := fun b o nb ho => (but.2 b nb).trans ho
    refine wpAny_pure ⟨plainId_quiet PyProof.Rows.F.plain_set_update_loop _, ih (i + 1) _ (by omega) lt (W.frame _ s2 _ _ st2 (Nat.le_succ _) fun b m o ho => keep b o (fun z => out (z ▸ m)) ho) a2 fun s3 mv3 a3 => ?_⟩
    exact go s3 (Moved.trans W.gtrans ((mv.mono wider).then_heap (Nat.le_succ _) fun b o nb ho => keep b o (fun z => nb (by rw [z]; exact List.mem_cons_self)) ho) mv3) a3
end
section
variable {P : Program} {w : World} {A : Around} {E : Value → Shared → Prop} {s : Shared}
abbrev bare (led : Bool) : Obj := { cls := .type "set", dict := none, data := .set #[] 0 (.fresh 0 0 led) }
theorem call_texts {l : Addr} {its : Array Value} {zs : List Str} {Q : Value → Shared → Prop} (nh : A.handled = none) (hl : s.heap.IsList l its) (hz : StrsAre its.toList zs) (few : its.size + 1 < scanBound)
    (go : ∀ (h2 : Heap) (tk : Nat), In P w h2 s.heap.objs.size zs its.size → (∀ b o, b < s.heap.objs.size → s.heap.get? b = some o → h2.get? b = some o) → Q (.ref s.heap.objs.size) { s with heap := h2, toks := tk }) :
    wpAny (model P w) A (call (.type "set") [.ref l]) Q E s := by
  obtain ⟨c0, r0, order⟩ := PySem.F.called_set.mro
  have made := PySem.F.called_set.made
  have subs := PySem.F.called_set.sub
  refine wpAny_call (codeAny_of_tree ?_)
  show wpAny _ _ (callAny (.type "set") _) _ _ _
  refine wpAny_pure ⟨Code.quiet_builtin _ (by decide +kernel), codeAny_builtin PySem.F.entry_type_call ?_⟩
  rw [Around.under_plain (weight_type_call_type "set" [.ref l] []) rfl]
  have f1 := PySem.F.called_set.notType
  have f2 := PySem.F.called_set.canCreate
  have f3 := PySem.F.typeCall_set_1 (.ref l)
  repeat (any_goals (first | assumption | wp_step))
  refine codeAny_mono (PySem.code_set_new_1 (.ref l) (E := E) (Q₁ := fun x s1 => ∃ led, x = .ref s.heap.objs.size ∧ s1 = { s with heap := s.heap.push (bare led) }) fun led => ⟨led, rfl, rfl⟩) fun r1 s1 back1 => ?_
  rcases r1 with e1 | (x | _ | _ | _) <;> first | exact back1 | exact back1.elim | skip
  obtain ⟨led, rfl, rfl⟩ := back1
  have hD : (s.heap.push (bare led)).get? s.heap.objs.size = some (bare led) := Heap.get?_push_size _ rfl
  have tyD : Shared.TypeIs { s with heap := s.heap.push (bare led) } (.ref s.heap.objs.size) "set" := ⟨_, hD, rfl⟩
  have g1 := PySem.F.called_set.init.lookup
  have g2 := PySem.F.called_set.init.bind (.ref s.heap.objs.size)
  repeat (any_goals (first | assumption | wp_step))
  refine codeAny_mono (codeAny_call_builtin (R := wants (fun r s2 => r = .none ∧ ∃ h2 tk, s2 = { s with heap := h2, toks := tk } ∧ In P w h2 s.heap.objs.size zs its.size ∧ (∀ b o, b < s.heap.objs.size → s.heap.get? b = some o → h2.get? b = some o)) E) PySem.F.called_set.init.plain PySem.F.entry_set_init (PySem.check_set_init_1 tyD ?_)) fun r2 s2 back2 => ?_
  · obtain ⟨ol, hol, hc, nl, hd⟩ := hl
    obtain ⟨oc, od, ot, os⟩ := ol
    simp only at hc hd
    subst hc hd
    have up1 : ∀ b o, s.heap.get? b = some o → (s.heap.push (bare led)).get? b = some o := fun b o e => Heap.get?_push_of_some _ e
    have hol1 := up1 _ _ hol
    have k1 := PySem.F.sub_list_set
    have k2 := PySem.F.sub_list_frozenset
    have k3 : (Value.type "list" == Value.type "dict") = false := by decide
    have isl : (s.heap.push (bare led)).IsList l its := ⟨_, hol1, rfl, nl, rfl⟩
    unfold Builtin.«set.__init__» noKeywords Builtin.Frozenset.updateFrom
    generalize hIt : pyIter = It0
    wp_walk
    subst hIt
    refine wpAny_pyIter_list isl (wpAny_bind (wpAny_runValue ?_))
    have lS : l < s.heap.objs.size := Heap.lt_size hol
    have nh3 : A.in1.in1.in1.handled = none := by simp [nh]
    have sz1 : (s.heap.push (bare led)).objs.size = s.heap.objs.size + 1 := Heap.size_push ..
    have lI : l ≠ (s.heap.push (bare led)).objs.size := by rw [sz1]; exact Nat.ne_of_lt (Nat.lt_succ_of_lt lS)
    have nin : s.heap.objs.size ∉ [(s.heap.push (bare led)).objs.size, l] := by
      rw [sz1]
      simp only [List.mem_cons, List.not_mem_nil, or_false, not_or]
      exact ⟨Nat.ne_of_lt (Nat.lt_succ_self _), Nat.ne_of_gt lS⟩
    have told : ∀ (i : Nat) (v : Value), its[i]? = some v → ∃ z t, zs[i]? = some z ∧ v = .str z t := fun i v hv => txt_get hz i v (by rw [Array.getElem?_toList]; exact hv)
    refine run_fill (zs := zs) ((Walks.list nh3 _ l lI its).toS) s.heap.objs.size nin few told (its.size - 0) 0 _ (by omega) (Nat.zero_le _) ⟨⟨_, Heap.get?_push_size _ rfl, rfl, rfl⟩, isl.push _⟩ ?start ?fin
    case start =>
      have up2 : ((s.heap.push (bare led)).push { cls := .type "list_iterator", data := .fields #[.ref l, .int 0 0] }).get? s.heap.objs.size = some (bare led) := Heap.get?_push_of_some _ hD
      exact ⟨0, Nat.le_refl _, SetOf_congr ((setObjOf_fresh (knd := strKind P w) led).setOf up2 (by unfold scanBound; omega)) (fun y => by simp) rfl⟩
    case fin =>
      intro s3 mv a3
      obtain ⟨h3, g3, d3, tk3, os3⟩ := s3
      have q1 : g3 = s.gens := mv.gens
      have q2 : d3 = s.drawn := mv.drawn
      have q3 : os3 = s.os := mv.os
      subst q1 q2 q3
      show wpAny _ _ _ _ _ _
      refine wpAny_pure ?_
      show wpAny _ _ (ret Value.none) _ _ _
      refine wpAny_pure ⟨rfl, h3, tk3, rfl, a3, fun b o lt ho => ?_⟩
      refine mv.heap b o ?_ (Heap.get?_push_of_some _ (up1 b o ho))
      rw [sz1]
      simp only [List.mem_cons, List.not_mem_nil, or_false, not_or]
      exact ⟨Nat.ne_of_lt lt, Nat.ne_of_lt (Nat.lt_succ_of_lt lt)⟩
  · rcases r2 with e2 | (x | _ | _ | _) <;> first | exact back2 | exact back2.elim | skip
    obtain ⟨rfl, h2, tk, rfl, a2, kp⟩ := back2
    repeat (any_goals (first | assumption | wp_step))
    exact go _ _ a2 kp
end
/-- the object: a set of texts -/
def SetS (P : Program) (w : World) (a : Addr) (zs : List Str) : HO := .ext fun h => In P w h a zs zs.length
def rSetOf (P : Program) (w : World) (K : PySem.W.Frag) : List V → Hp → VK → Prop := fun xs H Q => ∃ (l : Addr) (zs : List Str), xs = [.ref l] ∧ SqL K H l (zs.map V.str) ∧ zs.length ≤ 4000 ∧ ∀ p, H p = none → Q (.ref p) (upd H p (SetS P w p zs))
def rInSet (P : Program) (w : World) : R2 := fun x y H Q => ∃ (z : Str) (a : Addr) (zs : List Str), x = .str z ∧ y = .ref a ∧ H a = some (SetS P w a zs) ∧ Q (.bl (decide (z ∈ zs))) H
section
variable {X : Cx}
theorem set_ok {P : Program} {w : World} {H : Hp} {h : Heap} {a : Addr} {zs : List Str} (R : In P w h a zs zs.length) : ObjOk P w H h a (SetS P w a zs) := by
  have ⟨_, _, o, _, _, _, ho, _⟩ := R
  exact ⟨R, ⟨o, ho⟩, fun h1 h2 p k => p.move k⟩
theorem cr_setOf (hc : X.calm = true) : CallR X (.type "set") (rSetOf X.prog X.w X.K) := by
  intro pins s σ H xs us Q I r h
  obtain ⟨l, zs, rfl, hl, few, q⟩ := h
  rw [Vals.ref1 r]
  obtain ⟨its, rv, pl, hz⟩ := I.list hl
  have n1 : its.length = zs.length := by rw [← rv.length, List.length_map]
  refine call_texts (zs := zs) (I.ok.hd hc) pl.isList (by simpa using rv.strs) (by rw [List.size_toArray]; unfold scanBound; omega) fun h2 tk a2 kp => ?_
  have n2 : its.toArray.size = zs.length := by rw [List.size_toArray]; exact n1
  rw [n2] at a2
  exact ⟨.ref _, _, I.laid (t' := tk) (fun b o e => kp b o (Heap.lt_size e) e) (Nat.le_refl _) (set_ok a2), rfl, q _ (I.hok.fresh (Nat.le_refl _))⟩
theorem op_inS : OpR X (compareOp .In) (rInSet X.prog X.w) := by
  intro pins s σ H x y v u Q I rx ry h
  obtain ⟨z, a, zs, rfl, rfl, ha, q⟩ := h
  cases ry
  obtain ⟨t, rfl⟩ := rx
  obtain ⟨n, hn, hS⟩ : In X.prog X.w s.heap a zs zs.length := (I.hok a _ ha).1
  have hS : s.heap.SetOf (strKind X.prog X.w) a (fun y => decide (y ∈ zs)) n := SetOf_congr hS (fun y => by rw [List.take_length]) rfl
  exact wpAny_inSet_of (strKind_is _ _ z t) rfl hS ⟨.bl _, H, I.tok _, rfl, q⟩
end
end TG

namespace Toy
open PySem L2 TT TX TR TQ TV TU TY CwR
def top (i : Nat) : Stmt := PySem.Challenge.pw_treeturns_k10_scripts_step_by_step.main.body.getD i (.Pass ⟨0, 0, 0, 0⟩)
def ini : Stmt → Stmt
  | .ClassDef (body := b) .. => b.headD (.Pass ⟨0, 0, 0, 0⟩)
  | s => s
abbrev i_InvalidTree : Stmt := ini (top 2)
theorem si_InvalidTree : FnScope ["self", "value"] ["self", "value"] (defScope i_InvalidTree) := ⟨rfl, rfl, rfl, by decide +kernel, rfl, by decide +kernel, by decide +kernel⟩
abbrev i_InvalidScript : Stmt := ini (top 3)
theorem si_InvalidScript : FnScope ["self", "value"] ["self", "value"] (defScope i_InvalidScript) := ⟨rfl, rfl, rfl, by decide +kernel, rfl, by decide +kernel, by decide +kernel⟩
abbrev i_CannotTurn : Stmt := ini (top 4)
theorem si_CannotTurn : FnScope ["self", "place"] ["self", "place"] (defScope i_CannotTurn) := ⟨rfl, rfl, rfl, by decide +kernel, rfl, by decide +kernel, by decide +kernel⟩
abbrev s_is_tree : Stmt := top 6
abbrev nm_is_tree : List Str := ["value", "awaited", "sign", "want"]
theorem sc_is_tree : FnScope ["value", "awaited", "sign", "want"] ["value"] (defScope s_is_tree) := ⟨rfl, rfl, rfl, by decide +kernel, rfl, by decide +kernel, by decide +kernel⟩
abbrev s_is_address : Stmt := top 7
abbrev nm_is_address : List Str := ["value"]
theorem sc_is_address : FnScope ["value"] ["value"] (defScope s_is_address) := ⟨rfl, rfl, rfl, by decide +kernel, rfl, by decide +kernel, by decide +kernel⟩
abbrev s_check_tree : Stmt := top 8
abbrev nm_check_tree : List Str := ["value"]
theorem sc_check_tree : FnScope ["value"] ["value"] (defScope s_check_tree) := ⟨rfl, rfl, rfl, by decide +kernel, rfl, by decide +kernel, by decide +kernel⟩
abbrev s_ends : Stmt := top 9
abbrev nm_ends : List Str := ["tree", "behind", "begun", "at", "sign"]
theorem sc_ends : FnScope ["tree", "behind", "begun", "at", "sign"] ["tree"] (defScope s_ends) := ⟨rfl, rfl, rfl, by decide +kernel, rfl, by decide +kernel, by decide +kernel⟩
abbrev s_halves : Stmt := top 10
abbrev nm_halves : List Str := ["tree", "middle"]
theorem sc_halves : FnScope ["tree", "middle"] ["tree"] (defScope s_halves) := ⟨rfl, rfl, rfl, by decide +kernel, rfl, by decide +kernel, by decide +kernel⟩
abbrev s_stretch : Stmt := top 11
abbrev nm_stretch : List Str := ["tree", "address", "behind", "at", "letter"]
theorem sc_stretch : FnScope ["tree", "address", "behind", "at", "letter"] ["tree", "address"] (defScope s_stretch) := ⟨rfl, rfl, rfl, by decide +kernel, rfl, by decide +kernel, by decide +kernel⟩
abbrev s_addressed : Stmt := top 12
abbrev nm_addressed : List Str := ["tree", "found", "ahead", "sign", "address"]
theorem sc_addressed : FnScope ["tree", "found", "ahead", "sign", "address"] ["tree"] (defScope s_addressed) := ⟨rfl, rfl, rfl, by decide +kernel, rfl, by decide +kernel, by decide +kernel⟩
abbrev s_is_step : Stmt := top 15
abbrev nm_is_step : List Str := ["value"]
theorem sc_is_step : FnScope ["value"] ["value"] (defScope s_is_step) := ⟨rfl, rfl, rfl, by decide +kernel, rfl, by decide +kernel, by decide +kernel⟩
abbrev s_checked_script : Stmt := top 16
abbrev nm_checked_script : List Str := ["steps", "step", "word", "address"]
theorem sc_checked_script : FnScope ["steps", "step", "word", "address"] ["steps"] (defScope s_checked_script) := ⟨rfl, rfl, rfl, by decide +kernel, rfl, by decide +kernel, by decide +kernel⟩
abbrev s_turned_root : Stmt := top 17
abbrev nm_turned_root : List Str := ["tree", "word", "left", "right", "outer", "inner"]
theorem sc_turned_root : FnScope ["tree", "word", "left", "right", "outer", "inner"] ["tree", "word"] (defScope s_turned_root) := ⟨rfl, rfl, rfl, by decide +kernel, rfl, by decide +kernel, by decide +kernel⟩
abbrev s_after_step : Stmt := top 18
abbrev nm_after_step : List Str := ["tree", "word", "address", "found", "begin", "end", "top"]
theorem sc_after_step : FnScope ["tree", "word", "address", "found", "begin", "end", "top"] ["tree", "word", "address"] (defScope s_after_step) := ⟨rfl, rfl, rfl, by decide +kernel, rfl, by decide +kernel, by decide +kernel⟩
abbrev s_turned : Stmt := top 19
abbrev nm_turned : List Str := ["tree", "steps", "script", "now", "index", "word", "address"]
theorem sc_turned : FnScope ["tree", "steps", "script", "now", "index", "word", "address"] ["tree", "steps"] (defScope s_turned) := ⟨rfl, rfl, rfl, by decide +kernel, rfl, by decide +kernel, by decide +kernel⟩
abbrev s_steps_of : Stmt := top 20
abbrev nm_steps_of : List Str := ["tree", "tops", "address", "sign", "known", "sides", "word", "letter"]
theorem sc_steps_of : FnScope ["tree", "tops", "address", "sign", "known", "sides", "word", "letter"] ["tree"] (defScope s_steps_of) := ⟨rfl, rfl, rfl, by decide +kernel, rfl, by decide +kernel, by decide +kernel⟩
abbrev s_law_cell : Stmt := top 22
abbrev nm_law_cell : List Str := ["_law_script", "_law_index"]
theorem sc_law_cell : FnScope ["_law_script", "_law_index"] ["_law_script", "_law_index"] (defScope s_law_cell) := ⟨rfl, rfl, rfl, by decide +kernel, rfl, by decide +kernel, by decide +kernel⟩
abbrev s_law_hash : Stmt := top 23
abbrev nm_law_hash : List Str := ["_law_seed", "_law_index", "_law_mixed"]
theorem sc_law_hash : FnScope ["_law_seed", "_law_index", "_law_mixed"] ["_law_seed", "_law_index"] (defScope s_law_hash) := ⟨rfl, rfl, rfl, by decide +kernel, rfl, by decide +kernel, by decide +kernel⟩
abbrev s_law_generator : Stmt := top 24
abbrev nm_law_generator : List Str := ["_law_script", "_law_index", "_law_seed"]
theorem sc_law_generator : FnScope ["_law_script", "_law_index", "_law_seed"] ["_law_script", "_law_index"] (defScope s_law_generator) := ⟨rfl, rfl, rfl, by decide +kernel, rfl, by decide +kernel, by decide +kernel⟩
abbrev s_law_tree : Stmt := top 25
abbrev nm_law_tree : List Str := ["_law_generator_here", "_law_many", "_law_left"]
theorem sc_law_tree : FnScope ["_law_generator_here", "_law_many", "_law_left"] ["_law_generator_here", "_law_many"] (defScope s_law_tree) := ⟨rfl, rfl, rfl, by decide +kernel, rfl, by decide +kernel, by decide +kernel⟩
abbrev s_law_parsed : Stmt := top 26
abbrev nm_law_parsed : List Str := ["_law_tree_here", "_law_found", "_law_sign"]
theorem sc_law_parsed : FnScope ["_law_tree_here", "_law_found", "_law_sign"] ["_law_tree_here"] (defScope s_law_parsed) := ⟨rfl, rfl, rfl, by decide +kernel, rfl, by decide +kernel, by decide +kernel⟩
abbrev s_law_text : Stmt := top 27
abbrev nm_law_text : List Str := ["_law_parsed_here"]
theorem sc_law_text : FnScope ["_law_parsed_here"] ["_law_parsed_here"] (defScope s_law_text) := ⟨rfl, rfl, rfl, by decide +kernel, rfl, by decide +kernel, by decide +kernel⟩
abbrev s_law_nodes : Stmt := top 28
abbrev nm_law_nodes : List Str := ["_law_parsed_here", "_law_road"]
theorem sc_law_nodes : FnScope ["_law_parsed_here", "_law_road"] ["_law_parsed_here", "_law_road"] (defScope s_law_nodes) := ⟨rfl, rfl, rfl, by decide +kernel, rfl, by decide +kernel, by decide +kernel⟩
abbrev s_law_at : Stmt := top 29
abbrev nm_law_at : List Str := ["_law_parsed_here", "_law_road", "_law_letter"]
theorem sc_law_at : FnScope ["_law_parsed_here", "_law_road", "_law_letter"] ["_law_parsed_here", "_law_road"] (defScope s_law_at) := ⟨rfl, rfl, rfl, by decide +kernel, rfl, by decide +kernel, by decide +kernel⟩
abbrev s_law_put : Stmt := top 30
abbrev nm_law_put : List Str := ["_law_parsed_here", "_law_road", "_law_other"]
theorem sc_law_put : FnScope ["_law_parsed_here", "_law_road", "_law_other"] ["_law_parsed_here", "_law_road", "_law_other"] (defScope s_law_put) := ⟨rfl, rfl, rfl, by decide +kernel, rfl, by decide +kernel, by decide +kernel⟩
abbrev s_law_turn : Stmt := top 31
abbrev nm_law_turn : List Str := ["_law_parsed_here", "_law_step", "_law_word", "_law_road", "_law_piece", "_law_new"]
theorem sc_law_turn : FnScope ["_law_parsed_here", "_law_step", "_law_word", "_law_road", "_law_piece", "_law_new"] ["_law_parsed_here", "_law_step"] (defScope s_law_turn) := ⟨rfl, rfl, rfl, by decide +kernel, rfl, by decide +kernel, by decide +kernel⟩
abbrev s_law_address : Stmt := top 32
abbrev nm_law_address : List Str := ["_law_generator_here", "_law_longest", "_law_letters", "_law_step"]
theorem sc_law_address : FnScope ["_law_generator_here", "_law_longest", "_law_letters", "_law_step"] ["_law_generator_here", "_law_longest"] (defScope s_law_address) := ⟨rfl, rfl, rfl, by decide +kernel, rfl, by decide +kernel, by decide +kernel⟩
abbrev s_law_steps : Stmt := top 33
abbrev nm_law_steps : List Str := ["_law_generator_here", "_law_many", "_law_deep", "_law_found", "_law_step", "_law_word"]
theorem sc_law_steps : FnScope ["_law_generator_here", "_law_many", "_law_deep", "_law_found", "_law_step", "_law_word"] ["_law_generator_here", "_law_many", "_law_deep"] (defScope s_law_steps) := ⟨rfl, rfl, rfl, by decide +kernel, rfl, by decide +kernel, by decide +kernel⟩
abbrev s_law_random : Stmt := top 34
abbrev nm_law_random : List Str := ["_law_generator_here", "_law_bound", "_law_drawn_here", "_law_turn_here"]
theorem sc_law_random : FnScope ["_law_generator_here", "_law_bound", "_law_drawn_here", "_law_turn_here"] ["_law_generator_here", "_law_bound"] (defScope s_law_random) := ⟨rfl, rfl, rfl, by decide +kernel, rfl, by decide +kernel, by decide +kernel⟩
abbrev s_law_all_steps : Stmt := top 35
abbrev nm_law_all_steps : List Str := ["_law_parsed_here", "_law_places", "_law_one", "_law_some", "_law_pair"]
theorem sc_law_all_steps : FnScope ["_law_parsed_here", "_law_places", "_law_one", "_law_some", "_law_pair"] ["_law_parsed_here"] (defScope s_law_all_steps) := ⟨rfl, rfl, rfl, by decide +kernel, rfl, by decide +kernel, by decide +kernel⟩
abbrev s_law_drawn : Stmt := top 36
abbrev nm_law_drawn : List Str := ["_law_generator_here", "_law_tree_here", "_law_parsed_here", "_law_found", "_law_turn_here", "_law_some"]
theorem sc_law_drawn : FnScope ["_law_generator_here", "_law_tree_here", "_law_parsed_here", "_law_found", "_law_turn_here", "_law_some"] ["_law_generator_here", "_law_tree_here"] (defScope s_law_drawn) := ⟨rfl, rfl, rfl, by decide +kernel, rfl, by decide +kernel, by decide +kernel⟩
abbrev s_law_told : Stmt := top 37
abbrev nm_law_told : List Str := ["_law_tree_here", "_law_some", "_law_caught", "error"]
theorem sc_law_told : FnScope ["_law_tree_here", "_law_some", "_law_caught", "error"] ["_law_tree_here", "_law_some"] (defScope s_law_told) := ⟨rfl, rfl, rfl, by decide +kernel, rfl, by decide +kernel, by decide +kernel⟩
abbrev s_law_due : Stmt := top 38
abbrev nm_law_due : List Str := ["_law_tree_here", "_law_some", "_law_parsed_here", "_law_at_here", "_law_pair"]
theorem sc_law_due : FnScope ["_law_tree_here", "_law_some", "_law_parsed_here", "_law_at_here", "_law_pair"] ["_law_tree_here", "_law_some"] (defScope s_law_due) := ⟨rfl, rfl, rfl, by decide +kernel, rfl, by decide +kernel, by decide +kernel⟩
abbrev s_law_bad : Stmt := top 39
abbrev nm_law_bad : List Str := ["_law_generator_here", "_law_some", "_law_odd", "_law_at_here", "_law_lists", "_law_one"]
theorem sc_law_bad : FnScope ["_law_generator_here", "_law_some", "_law_odd", "_law_at_here", "_law_lists", "_law_one"] ["_law_generator_here", "_law_some"] (defScope s_law_bad) := ⟨rfl, rfl, rfl, by decide +kernel, rfl, by decide +kernel, by decide +kernel⟩
abbrev s_law_no_steps : Stmt := top 40
abbrev nm_law_no_steps : List Str := ["_law_thing", "_law_caught", "error"]
theorem sc_law_no_steps : FnScope ["_law_thing", "_law_caught", "error"] ["_law_thing"] (defScope s_law_no_steps) := ⟨rfl, rfl, rfl, by decide +kernel, rfl, by decide +kernel, by decide +kernel⟩
abbrev s_law : Stmt := top 41
abbrev nm_law : List Str := ["_law_script", "_law_index", "_law_generator_here", "_law_tree_here", "_law_turn_here", "_law_some", "_law_kept", "_law_bad_here"]
theorem sc_law : FnScope ["_law_script", "_law_index", "_law_generator_here", "_law_tree_here", "_law_turn_here", "_law_some", "_law_kept", "_law_bad_here"] ["_law_script"] (defScope s_law) := ⟨rfl, rfl, rfl, by decide +kernel, rfl, by decide +kernel, by decide +kernel⟩
abbrev veL : List Value := [.type "ValueError", .type "Exception", .type "BaseException", .type "object"]
abbrev kv_OTHER_WORD : List (Str × Str) := [("left", "right"), ("right", "left")]
structure Txt (w : World) (K : PySem.W.Frag) (mg : Str → Option Value) where
  c_TurnError : Addr
  g_TurnError : mg "TurnError" = some (.ref c_TurnError)
  e_TurnError : ErrC K c_TurnError (.ref c_TurnError :: veL)
  c_InvalidTree : Addr
  o_InvalidTree : OwnE K mg "InvalidTree" c_InvalidTree "value" "value"
  g_InvalidTree : mg "InvalidTree" = some (.ref c_InvalidTree)
  e_InvalidTree : ErrC K c_InvalidTree (.ref c_InvalidTree :: .ref c_TurnError :: veL)
  x_InvalidTree : XfC K c_InvalidTree
  n_InvalidTree : PySem.W.findIn K (.ref c_InvalidTree) "value" = some none
  c_InvalidScript : Addr
  o_InvalidScript : OwnE K mg "InvalidScript" c_InvalidScript "value" "value"
  g_InvalidScript : mg "InvalidScript" = some (.ref c_InvalidScript)
  e_InvalidScript : ErrC K c_InvalidScript (.ref c_InvalidScript :: .ref c_TurnError :: veL)
  x_InvalidScript : XfC K c_InvalidScript
  n_InvalidScript : PySem.W.findIn K (.ref c_InvalidScript) "value" = some none
  c_CannotTurn : Addr
  o_CannotTurn : OwnE K mg "CannotTurn" c_CannotTurn "place" "place"
  g_CannotTurn : mg "CannotTurn" = some (.ref c_CannotTurn)
  e_CannotTurn : ErrC K c_CannotTurn (.ref c_CannotTurn :: .ref c_TurnError :: veL)
  x_CannotTurn : XfC K c_CannotTurn
  n_CannotTurn : PySem.W.findIn K (.ref c_CannotTurn) "place" = some none
  nd : [c_InvalidTree, c_InvalidScript, c_CannotTurn, c_TurnError].Nodup
  a_is_tree : Addr
  fd_is_tree : FuncData
  F_is_tree : Fun K "is_tree" "is_tree" s_is_tree a_is_tree fd_is_tree
  b_is_tree : Binds K fd_is_tree ["value"] []
  m_is_tree : mg "is_tree" = some (.ref a_is_tree)
  a_is_address : Addr
  fd_is_address : FuncData
  F_is_address : Fun K "is_address" "is_address" s_is_address a_is_address fd_is_address
  b_is_address : Binds K fd_is_address ["value"] []
  m_is_address : mg "is_address" = some (.ref a_is_address)
  a_check_tree : Addr
  fd_check_tree : FuncData
  F_check_tree : Fun K "check_tree" "check_tree" s_check_tree a_check_tree fd_check_tree
  b_check_tree : Binds K fd_check_tree ["value"] []
  m_check_tree : mg "check_tree" = some (.ref a_check_tree)
  a_ends : Addr
  fd_ends : FuncData
  F_ends : Fun K "ends" "ends" s_ends a_ends fd_ends
  b_ends : Binds K fd_ends ["tree"] []
  m_ends : mg "ends" = some (.ref a_ends)
  a_halves : Addr
  fd_halves : FuncData
  F_halves : Fun K "halves" "halves" s_halves a_halves fd_halves
  b_halves : Binds K fd_halves ["tree"] []
  m_halves : mg "halves" = some (.ref a_halves)
  a_stretch : Addr
  fd_stretch : FuncData
  F_stretch : Fun K "stretch" "stretch" s_stretch a_stretch fd_stretch
  b_stretch : Binds K fd_stretch ["tree", "address"] []
  m_stretch : mg "stretch" = some (.ref a_stretch)
  a_addressed : Addr
  fd_addressed : FuncData
  F_addressed : Fun K "addressed" "addressed" s_addressed a_addressed fd_addressed
  b_addressed : Binds K fd_addressed ["tree"] []
  m_addressed : mg "addressed" = some (.ref a_addressed)
  a_is_step : Addr
  fd_is_step : FuncData
  F_is_step : Fun K "is_step" "is_step" s_is_step a_is_step fd_is_step
  b_is_step : Binds K fd_is_step ["value"] []
  m_is_step : mg "is_step" = some (.ref a_is_step)
  a_checked_script : Addr
  fd_checked_script : FuncData
  F_checked_script : Fun K "checked_script" "checked_script" s_checked_script a_checked_script fd_checked_script
  b_checked_script : Binds K fd_checked_script ["steps"] []
  m_checked_script : mg "checked_script" = some (.ref a_checked_script)
  a_turned_root : Addr
  fd_turned_root : FuncData
  F_turned_root : Fun K "turned_root" "turned_root" s_turned_root a_turned_root fd_turned_root
  b_turned_root : Binds K fd_turned_root ["tree", "word"] []
  m_turned_root : mg "turned_root" = some (.ref a_turned_root)
  a_after_step : Addr
  fd_after_step : FuncData
  F_after_step : Fun K "after_step" "after_step" s_after_step a_after_step fd_after_step
  b_after_step : Binds K fd_after_step ["tree", "word", "address"] []
  m_after_step : mg "after_step" = some (.ref a_after_step)
  a_turned : Addr
  fd_turned : FuncData
  F_turned : Fun K "turned" "turned" s_turned a_turned fd_turned
  b_turned : Binds K fd_turned ["tree", "steps"] []
  m_turned : mg "turned" = some (.ref a_turned)
  a_steps_of : Addr
  fd_steps_of : FuncData
  F_steps_of : Fun K "steps_of" "steps_of" s_steps_of a_steps_of fd_steps_of
  b_steps_of : Binds K fd_steps_of ["tree"] []
  m_steps_of : mg "steps_of" = some (.ref a_steps_of)
  a_law_cell : Addr
  fd_law_cell : FuncData
  F_law_cell : Fun K "_law_cell" "_law_cell" s_law_cell a_law_cell fd_law_cell
  b_law_cell : Binds K fd_law_cell ["_law_script", "_law_index"] []
  m_law_cell : mg "_law_cell" = some (.ref a_law_cell)
  a_law_hash : Addr
  fd_law_hash : FuncData
  F_law_hash : Fun K "_law_hash" "_law_hash" s_law_hash a_law_hash fd_law_hash
  b_law_hash : Binds K fd_law_hash ["_law_seed", "_law_index"] []
  m_law_hash : mg "_law_hash" = some (.ref a_law_hash)
  a_law_generator : Addr
  fd_law_generator : FuncData
  F_law_generator : Fun K "_law_generator" "_law_generator" s_law_generator a_law_generator fd_law_generator
  b_law_generator : Binds K fd_law_generator ["_law_script", "_law_index"] []
  m_law_generator : mg "_law_generator" = some (.ref a_law_generator)
  a_law_tree : Addr
  fd_law_tree : FuncData
  F_law_tree : Fun K "_law_tree" "_law_tree" s_law_tree a_law_tree fd_law_tree
  b_law_tree : Binds K fd_law_tree ["_law_generator_here", "_law_many"] []
  m_law_tree : mg "_law_tree" = some (.ref a_law_tree)
  a_law_parsed : Addr
  fd_law_parsed : FuncData
  F_law_parsed : Fun K "_law_parsed" "_law_parsed" s_law_parsed a_law_parsed fd_law_parsed
  b_law_parsed : Binds K fd_law_parsed ["_law_tree_here"] []
  m_law_parsed : mg "_law_parsed" = some (.ref a_law_parsed)
  a_law_text : Addr
  fd_law_text : FuncData
  F_law_text : Fun K "_law_text" "_law_text" s_law_text a_law_text fd_law_text
  b_law_text : Binds K fd_law_text ["_law_parsed_here"] []
  m_law_text : mg "_law_text" = some (.ref a_law_text)
  a_law_nodes : Addr
  fd_law_nodes : FuncData
  F_law_nodes : Fun K "_law_nodes" "_law_nodes" s_law_nodes a_law_nodes fd_law_nodes
  b_law_nodes : Binds K fd_law_nodes ["_law_parsed_here", "_law_road"] []
  m_law_nodes : mg "_law_nodes" = some (.ref a_law_nodes)
  a_law_at : Addr
  fd_law_at : FuncData
  F_law_at : Fun K "_law_at" "_law_at" s_law_at a_law_at fd_law_at
  b_law_at : Binds K fd_law_at ["_law_parsed_here", "_law_road"] []
  m_law_at : mg "_law_at" = some (.ref a_law_at)
  a_law_put : Addr
  fd_law_put : FuncData
  F_law_put : Fun K "_law_put" "_law_put" s_law_put a_law_put fd_law_put
  b_law_put : Binds K fd_law_put ["_law_parsed_here", "_law_road", "_law_other"] []
  m_law_put : mg "_law_put" = some (.ref a_law_put)
  a_law_turn : Addr
  fd_law_turn : FuncData
  F_law_turn : Fun K "_law_turn" "_law_turn" s_law_turn a_law_turn fd_law_turn
  b_law_turn : Binds K fd_law_turn ["_law_parsed_here", "_law_step"] []
  m_law_turn : mg "_law_turn" = some (.ref a_law_turn)
  a_law_address : Addr
  fd_law_address : FuncData
  F_law_address : Fun K "_law_address" "_law_address" s_law_address a_law_address fd_law_address
  b_law_address : Binds K fd_law_address ["_law_generator_here", "_law_longest"] []
  m_law_address : mg "_law_address" = some (.ref a_law_address)
  a_law_steps : Addr
  fd_law_steps : FuncData
  F_law_steps : Fun K "_law_steps" "_law_steps" s_law_steps a_law_steps fd_law_steps
  b_law_steps : Binds K fd_law_steps ["_law_generator_here", "_law_many", "_law_deep"] []
  m_law_steps : mg "_law_steps" = some (.ref a_law_steps)
  a_law_random : Addr
  fd_law_random : FuncData
  F_law_random : Fun K "_law_random" "_law_random" s_law_random a_law_random fd_law_random
  b_law_random : Binds K fd_law_random ["_law_generator_here", "_law_bound"] []
  m_law_random : mg "_law_random" = some (.ref a_law_random)
  a_law_all_steps : Addr
  fd_law_all_steps : FuncData
  F_law_all_steps : Fun K "_law_all_steps" "_law_all_steps" s_law_all_steps a_law_all_steps fd_law_all_steps
  b_law_all_steps : Binds K fd_law_all_steps ["_law_parsed_here"] []
  m_law_all_steps : mg "_law_all_steps" = some (.ref a_law_all_steps)
  a_law_drawn : Addr
  fd_law_drawn : FuncData
  F_law_drawn : Fun K "_law_drawn" "_law_drawn" s_law_drawn a_law_drawn fd_law_drawn
  b_law_drawn : Binds K fd_law_drawn ["_law_generator_here", "_law_tree_here"] []
  m_law_drawn : mg "_law_drawn" = some (.ref a_law_drawn)
  a_law_told : Addr
  fd_law_told : FuncData
  F_law_told : Fun K "_law_told" "_law_told" s_law_told a_law_told fd_law_told
  b_law_told : Binds K fd_law_told ["_law_tree_here", "_law_some"] []
  m_law_told : mg "_law_told" = some (.ref a_law_told)
  a_law_due : Addr
  fd_law_due : FuncData
  F_law_due : Fun K "_law_due" "_law_due" s_law_due a_law_due fd_law_due
  b_law_due : Binds K fd_law_due ["_law_tree_here", "_law_some"] []
  m_law_due : mg "_law_due" = some (.ref a_law_due)
  a_law_bad : Addr
  fd_law_bad : FuncData
  F_law_bad : Fun K "_law_bad" "_law_bad" s_law_bad a_law_bad fd_law_bad
  b_law_bad : Binds K fd_law_bad ["_law_generator_here", "_law_some"] []
  m_law_bad : mg "_law_bad" = some (.ref a_law_bad)
  a_law_no_steps : Addr
  fd_law_no_steps : FuncData
  F_law_no_steps : Fun K "_law_no_steps" "_law_no_steps" s_law_no_steps a_law_no_steps fd_law_no_steps
  b_law_no_steps : Binds K fd_law_no_steps ["_law_thing"] []
  m_law_no_steps : mg "_law_no_steps" = some (.ref a_law_no_steps)
  a_law : Addr
  fd_law : FuncData
  F_law : Fun K "law" "law" s_law a_law fd_law
  b_law : Binds K fd_law ["_law_script"] []
  m_law : mg "law" = some (.ref a_law)
  z_isinstance : mg "isinstance" = none
  z_str : mg "str" = none
  z_len : mg "len" = none
  z_list : mg "list" = none
  z_int : mg "int" = none
  z_max : mg "max" = none
  z_range : mg "range" = none
  z_repr : mg "repr" = none
  z_enumerate : mg "enumerate" = none
  z_sorted : mg "sorted" = none
  z_tuple : mg "tuple" = none
  z_set : mg "set" = none
  z_all : mg "all" = none
  d_OTHER_WORD : Addr
  m_OTHER_WORD : mg "OTHER_WORD" = some (.ref d_OTHER_WORD)
  k_OTHER_WORD : TD.KD K w d_OTHER_WORD kv_OTHER_WORD
/-! ### words for trees -/
abbrev trV (t : Tr) : V := .str (S t.cs)
/-- all but what stands at g is as it was -/
def Keep (g : Addr) (H H' : Hp) : Prop := ∀ b o, b ≠ g → H b = some o → H' b = some o
/-- a generator: its third number is at most n -/
def GenAt (H : Hp) (g : Addr) (n : Nat) : Prop := ∃ a b c : Int, H g = some (.lst [.int a, .int b, .int c]) ∧ 0 ≤ c ∧ c ≤ (n : Int)
def NotStr (K : PySem.W.Frag) (H : Hp) (v : V) : Prop := ∃ t, TyX K H v t ∧ PySem.W.kitOne K t (.type "str") = some false
/-- how is_tree reads, its stack's top first -/
def isT : List Nat → List Str → Bool
  | [], st => st.isEmpty
  | c :: cs, st =>
    if st.headD "end" = "tree" ∧ S [c] = "(" then isT cs ("tree" :: "tree" :: ")" :: st.tail)
    else if st.headD "end" ≠ S [c] ∧ ¬ (st.headD "end" = "tree" ∧ S [c] = ".") then false
    else isT cs st.tail
def sp_is_tree (K : PySem.W.Frag) : Sp := fun vs H Q _ => ∃ v, vs = [v] ∧ ((∃ x : Str, v = .str x ∧ x.length ≤ 1000000 ∧ ∀ H', Same H H' → Q (.bl (isT x.cps.toList ["tree"])) H') ∨ (NotStr K H v ∧ Q (.bl false) H))
def sp_law_cell (K : PySem.W.Frag) : Sp := fun vs H Q _ => ∃ (a : Addr) (ns : List Int) (i : Nat), vs = [.ref a, .int i] ∧ SqL K H a (ns.map V.int) ∧ Q (.int (ns.getD i 0)) H
def sp_law_hash (K : PySem.W.Frag) : Sp := fun vs H Q _ => ∃ s i : Int, vs = [.int s, .int i] ∧ 0 ≤ i ∧ i ≤ 1000000000000000 ∧ ∀ r : Int, Q (.int r) H
def sp_law_generator (K : PySem.W.Frag) : Sp := fun vs H Q _ => ∃ (a : Addr) (ns : List Int) (i : Nat), vs = [.ref a, .int i] ∧ SqL K H a (ns.map V.int) ∧ ∀ g H', H g = none → Same H H' → GenAt H' g (1000 * i) → Q (.ref g) H'
def sp_law_random (K : PySem.W.Frag) : Sp := fun vs H Q _ => ∃ (g : Addr) (b : Int) (n : Nat), vs = [.ref g, .int b] ∧ GenAt H g n ∧ n ≤ 100000000000000 ∧ 1 ≤ b ∧ b < 1000000000000000 ∧
  ∀ (r : Int) H', 0 ≤ r → r < b → Keep g H H' → GenAt H' g (n + 3) → Q (.int r) H'
def sp_law_tree (K : PySem.W.Frag) (k : Nat) : Sp := fun vs H Q _ => ∃ (g : Addr) (m n : Nat), vs = [.ref g, .int m] ∧ m < k ∧ m ≤ 2000 ∧ GenAt H g n ∧ n + 6 * m ≤ 10000000000000 ∧
  ∀ (t : Tr) H', t.size = m → Keep g H H' → GenAt H' g (n + 6 * m) → Q (trV t) H'
theorem tyX_same {K : PySem.W.Frag} {H H' : Hp} {x : V} {t : Value} (h : TyX K H x t) (s : Same H H') : TyX K H' x t := by
  cases h with
  | base h =>
    cases h with
    | non => exact .base .non
    | bl b => exact .base (.bl b)
    | int i => exact .base (.int i)
    | str z => exact .base (.str z)
    | flt z => exact .base (.flt z)
    | lst e => exact .base (.lst (s _ _ e))
    | frz e => exact .base (.frz (s _ _ e))
    | tup e => exact .base (.tup (s _ _ e))
    | dK e => exact .base (.dK (s _ _ e))
    | dT e => exact .base (.dT (s _ _ e))
    | ins e cl a b c d => exact .base (.ins (s _ _ e) cl a b c d)
  | byt b => exact .byt b
  | set e => exact .set (s _ _ e)
  | kList e c => exact .kList e c
  | kTuple e c => exact .kTuple e c
  | kDict e c => exact .kDict e c
  | fTuple e => exact .fTuple (s _ _ e)
  | fDict e => exact .fDict (s _ _ e)

/-! ### what may be refused -/
def NotTree (K : PySem.W.Frag) (H : Hp) (v : V) : Prop := (∃ x : Str, v = .str x ∧ x.length ≤ 1000000 ∧ isT x.cps.toList ["tree"] = false) ∨ NotStr K H v
/-- an error of the class at C with the value v leaves -/
def Out (C : Addr) (v : V) (H : Hp) (E : XK) : Prop := ∀ d H', Same H H' → H d = none → H' d = some (.xd [("value", v)]) → E (.ref C) (some d) H'
def GoodL (H : Hp) (t : Tr) (v : V) (xs : List Tr) : Prop := ∃ a, v = .ref a ∧ H a = some (.lst (xs.map trV)) ∧ xs.length = t.lvs ∧ ∀ x ∈ xs, x.size ≤ 2000
def BadL (K : PySem.W.Frag) (H : Hp) (t : Tr) (v : V) : Prop := (∃ ty, TyX K H v ty ∧ PySem.W.kitOne K ty (.type "list") = some false) ∨
  ∃ a ws, v = .ref a ∧ H a = some (.lst ws) ∧ ws.length ≤ 100000 ∧ (ws.length ≠ t.lvs ∨ (∀ u ∈ ws, (∃ x : Tr, u = trV x ∧ x.size ≤ 2000) ∨ NotTree K H u) ∧ ∃ u ∈ ws, NotTree K H u)
theorem NotStr.same {K : PySem.W.Frag} {H H' : Hp} {v : V} (h : NotStr K H v) (s : Same H H') : NotStr K H' v := let ⟨t, a, b⟩ := h; ⟨t, tyX_same a s, b⟩
theorem NotTree.same {K : PySem.W.Frag} {H H' : Hp} {v : V} (h : NotTree K H v) (s : Same H H') : NotTree K H' v := h.imp id fun z => z.same s
theorem Out.same {C : Addr} {v : V} {H H' : Hp} {E : XK} (h : Out C v H E) (s : Same H H') : Out C v H' E := fun d H2 s2 n e => h d H2 (s.trans s2) (s.free n) e
theorem GoodL.same {H H' : Hp} {t : Tr} {v : V} {xs : List Tr} (h : GoodL H t v xs) (s : Same H H') : GoodL H' t v xs := let ⟨a, e, g, r⟩ := h; ⟨a, e, s _ _ g, r⟩
theorem BadL.same {K : PySem.W.Frag} {H H' : Hp} {t : Tr} {v : V} (h : BadL K H t v) (s : Same H H') : BadL K H' t v := by
  rcases h with ⟨ty, a, b⟩ | ⟨a, ws, e, g, l, r⟩
  · exact .inl ⟨ty, tyX_same a s, b⟩
  · refine .inr ⟨a, ws, e, s _ _ g, l, r.imp id fun ⟨al, u, hu, nu⟩ => ⟨fun z hz => (al z hz).imp id fun n => n.same s, u, hu, nu.same s⟩⟩

/-! ### trees as nested tuples -/
def Tr.hgt : Tr → Nat
  | .leaf => 0
  | .node l r => max (hgt l) (hgt r) + 1
inductive PT (H : Hp) : V → Tr → Prop
  | leaf {p : Addr} : H p = some (.tup []) → PT H (.ref p) .leaf
  | node {p : Addr} {x y : V} {l r : Tr} : H p = some (.tup [x, y]) → PT H x l → PT H y r → PT H (.ref p) (.node l r)
theorem PT.same {H H' : Hp} (s : Same H H') : ∀ {v : V} {t : Tr}, PT H v t → PT H' v t
  | _, _, .leaf h => .leaf (s _ _ h)
  | _, _, .node h a b => .node (s _ _ h) (PT.same s a) (PT.same s b)
/-- all but what stands at g, which is a list -/
theorem PT.keep {H H' : Hp} {g : Addr} {ws : List V} (s : Keep g H H') (hg : H g = some (.lst ws)) : ∀ {v : V} {t : Tr}, PT H v t → PT H' v t
  | _, _, .leaf h => .leaf (s _ _ (ne_of h hg fun z => by cases z) h)
  | _, _, .node h a b => .node (s _ _ (ne_of h hg fun z => by cases z) h) (PT.keep s hg a) (PT.keep s hg b)
def tD : Tr → PyData
  | .leaf => .tuple []
  | .node l r => .tuple [tD l, tD r]
theorem PT.dp {K : PySem.W.Frag} {H : Hp} : ∀ {v : V} {t : Tr}, PT H v t → Dp K H v (tD t)
  | _, _, .leaf h => .tup (SqT.of h) .nil
  | _, _, .node h a b => .tup (SqT.of h) (.cons (PT.dp a) (.cons (PT.dp b) .nil))
theorem tD_depth : ∀ t : Tr, (tD t).depth = Tr.hgt t + 1
  | .leaf => by simp [tD, PyData.depth, PyData.depthAll, Tr.hgt]
  | .node l r => by
    have h1 := tD_depth l
    have h2 := tD_depth r
    simp only [tD, PyData.depth, PyData.depthAll, Tr.hgt, h1, h2]
    omega
theorem tD_lay : ∀ t : Tr, (tD t).canLay0 = true
  | .leaf => by simp [tD, PyData.canLay0, PyData.canLayAll0]
  | .node l r => by
    simp only [tD, PyData.canLay0, PyData.canLayAll0, tD_lay l, tD_lay r]
    rfl
theorem tD_shaped {t : Tr} (h : Tr.hgt t ≤ 62) : SeqAt.shaped (tD t) = true := by
  unfold SeqAt.shaped
  rw [tD_lay, tD_depth]
  simp
  omega
theorem tD_leaf : ∀ t : Tr, PyData.eqv (tD t) (.tuple []) = decide (t = .leaf)
  | .leaf => by simp [tD, PyData.eqv, PyData.eqvAll]
  | .node l r => by simp [tD, PyData.eqv, PyData.eqvAll]
/-- x == () -/
theorem eqLeaf {K : PySem.W.Frag} {H : Hp} {v : V} {t : Tr} {p : Addr} {Q : VK} (h : PT H v t) (ht : Tr.hgt t ≤ 62) (hp : H p = some (.tup [])) (q : Q (.bl (decide (t = .leaf))) H) : rEqD K v (.ref p) H Q :=
  ⟨tD t, .tuple [], h.dp, .tup (SqT.of hp) .nil, tD_shaped ht, by decide +kernel, by rw [tD_leaf]; exact q⟩
section
variable {w : World} {K : PySem.W.Frag} {mg : Str → Option Value}
def sp_law_parsed (K : PySem.W.Frag) : Sp := fun vs H Q _ => ∃ t : Tr, vs = [trV t] ∧ t.size ≤ 2000 ∧ ∀ v H', Same H H' → PT H' v t → Q v H'
end
inductive PTs (H : Hp) : List V → List Tr → Prop
  | nil : PTs H [] []
  | cons {v : V} {t : Tr} {vs : List V} {ts : List Tr} : PT H v t → PTs H vs ts → PTs H (v :: vs) (t :: ts)
theorem PTs.same {H H' : Hp} (s : Same H H') : ∀ {vs : List V} {ts : List Tr}, PTs H vs ts → PTs H' vs ts
  | _, _, .nil => .nil
  | _, _, .cons a b => .cons (a.same s) (PTs.same s b)
theorem PTs.keep {H H' : Hp} {g : Addr} {ws : List V} (s : Keep g H H') (hg : H g = some (.lst ws)) : ∀ {vs : List V} {ts : List Tr}, PTs H vs ts → PTs H' vs ts
  | _, _, .nil => .nil
  | _, _, .cons a b => .cons (a.keep s hg) (PTs.keep s hg b)
theorem PTs.length {H : Hp} : ∀ {vs : List V} {ts : List Tr}, PTs H vs ts → vs.length = ts.length
  | _, _, .nil => rfl
  | _, _, .cons _ b => congrArg Nat.succ (PTs.length b)
theorem PTs.append {H : Hp} : ∀ {vs : List V} {ts : List Tr} {us : List V} {rs : List Tr}, PTs H vs ts → PTs H us rs → PTs H (vs ++ us) (ts ++ rs)
  | _, _, _, _, .nil, b => b
  | _, _, _, _, .cons a c, b => .cons a (PTs.append c b)
section
variable {w : World} {K : PySem.W.Frag} {mg : Str → Option Value}
/-- a value that can be shown -/
structure Good (H : Hp) (y : V) (d : PyData) : Prop where
  dv : DV H d.hasDict y d
  sh : d.showable = true
  dp : d.depth ≤ 20
  ls : d.leavesShort 30 = true
  bk : d.bulk ≤ 200000
theorem Good.same {H H' : Hp} {y : V} {d : PyData} (g : Good H y d) (s : Same H H') : Good H' y d := ⟨g.dv.same s, g.sh, g.dp, g.ls, g.bk⟩
theorem Good.repr {H : Hp} {y : V} {d : PyData} {Q : VK} (g : Good H y d) (q : Q (.str d.shown) H) : rReprV [y] H Q := by
  have h1 := g.dp
  have h2 := PyData.shown_le_bulk 30 (by decide) d g.ls
  have h3 := g.bk
  have h4 : (30 + 2) * d.bulk ≤ (30 + 2) * 200000 := Nat.mul_le_mul_left _ h3
  exact ⟨y, d, d.hasDict, rfl, g.dv, id, g.sh, by omega, by rw [sizeLine_eq]; omega, q⟩
def sp_law (K : PySem.W.Frag) : Sp := fun vs H Q _ => ∃ (a : Addr) (ns : List Int), vs = [.ref a] ∧ SqL K H a (ns.map V.int) ∧ ns.length ≤ 63 ∧ ∀ H', Q (.bl true) H'
end

abbrev sV (a : List Nat) : V := .str (S a)
def isA (a : List Nat) : Bool := a.all fun c => c == 108 || c == 114
def NotAdr (K : PySem.W.Frag) (H : Hp) (v : V) : Prop := (∃ a : List Nat, v = sV a ∧ a.length ≤ 1000000 ∧ isA a = false) ∨ NotStr K H v
theorem Keep.trans {g : Addr} {H H1 H2 : Hp} (a : Keep g H H1) (b : Keep g H1 H2) : Keep g H H2 := fun p o hp ho => b p o hp (a p o hp ho)
theorem Keep.new {g p : Addr} {H H' : Hp} (a : Keep g H H') (hp : H p = none) (o : HO) : Keep g H (upd H' p o) := fun b u hb hu => by
  rw [upd_ne (ne_of_none hu hp)]; exact a b u hb hu
theorem Keep.of {g : Addr} {H H' : Hp} (a : Same H H') : Keep g H H' := fun p o _ ho => a p o ho
theorem GenAt.same {g : Addr} {H H' : Hp} {n : Nat} (h : GenAt H g n) (s : Same H H') : GenAt H' g n := by
  obtain ⟨a, b, c, h, x, y⟩ := h
  exact ⟨a, b, c, s _ _ h, x, y⟩
theorem GenAt.new {g p : Addr} {H : Hp} {n : Nat} {o : HO} (h : GenAt H g n) (hp : H p = none) : GenAt (upd H p o) g n := by
  obtain ⟨a, b, c, h, x, y⟩ := h
  exact ⟨a, b, c, by rw [upd_ne (ne_of_none h hp)]; exact h, x, y⟩
theorem GenAt.mono {g : Addr} {H : Hp} {n m : Nat} (h : GenAt H g n) (l : n ≤ m) : GenAt H g m := by
  obtain ⟨a, b, c, h, x, y⟩ := h
  exact ⟨a, b, c, h, x, by omega⟩
theorem GenAt.some {g : Addr} {H : Hp} {n : Nat} (h : GenAt H g n) : ∃ o, H g = some o := by
  obtain ⟨a, b, c, h, x, y⟩ := h
  exact ⟨_, h⟩
theorem Keep.free {g p : Addr} {H H' : Hp} (k : Keep g H H') (hg : ∃ o, H' g = some o) (h : H' p = none) (hgH : ∃ o, H g = some o) : H p = none := by
  cases e : H p with
  | none => rfl
  | some o =>
    obtain ⟨o', ho'⟩ := hg
    have : p ≠ g := fun z => by rw [z, ho'] at h; cases h
    rw [k p o this e] at h; cases h
theorem Keep.same {g : Addr} {H H' : Hp} (k : Keep g H H') (h : H g = none) : Same H H' := fun b o hb => k b o (ne_of_none hb h) hb
theorem Kept.keep {H H' : Hp} {g a C : Addr} {fs : List (Str × V)} {ws : List V} (x : Kept H a C fs) (k : Keep g H H') (hg : H g = some (.lst ws)) : Kept H' a C fs := by
  obtain ⟨d, h1, h2⟩ := x
  exact ⟨d, k _ _ (ne_of h1 hg fun z => by have z' : HO.ext _ = HO.lst _ := z; cases z') h1, k _ _ (ne_of h2 hg fun z => by cases z) h2⟩
theorem kitSelf {K : PySem.W.Frag} {C : Addr} : PySem.W.kitOne K (.ref C) (.ref C) = some true := by
  unfold PySem.W.kitOne
  rw [if_pos (beq_self_eq_true _)]
theorem okL (a : List Nat) (h : ∀ c ∈ a, c < 0x110000) : PyData.strOk (S a) = true := by
  unfold PyData.strOk
  rw [Array.all_eq_true_iff_forall_mem]
  intro c hc
  exact decide_eq_true (h c (by simpa using hc))
def Lr (xs : List (List Nat)) : Prop := ∀ a ∈ xs, ∀ c ∈ a, c < 0x110000
theorem dpL {K : PySem.W.Frag} {H : Hp} : ∀ xs : List (List Nat), DpAll K H (xs.map sV) (xs.map fun a => PyData.str (S a))
  | [] => .nil
  | x :: xs => .cons (.str _) (dpL xs)
theorem layL : ∀ xs : List (List Nat), Lr xs → PyData.canLayAll0 (xs.map fun a => PyData.str (S a)) = true
  | [], _ => by simp [PyData.canLayAll0]
  | x :: xs, h => by
    simp only [List.map_cons, PyData.canLayAll0, PyData.canLay0, layL xs fun y hy => h y (List.mem_cons_of_mem _ hy), okL x (h x (List.mem_cons_self ..))]
    rfl
theorem depL : ∀ xs : List (List Nat), PyData.depthAll (xs.map fun a => PyData.str (S a)) = 0
  | [] => by simp [PyData.depthAll]
  | x :: xs => by simp only [List.map_cons, PyData.depthAll, PyData.depth, depL xs]; rfl
theorem eqL0 : ∀ xs : List (List Nat), PyData.eqvAll (xs.map fun a => PyData.str (S a)) (xs.map fun a => PyData.str (S a)) = true
  | [] => by simp [PyData.eqvAll]
  | x :: xs => by simp only [List.map_cons, PyData.eqvAll, PyData.eqv, eqL0 xs, beq_self_eq_true]; rfl
theorem shL {xs : List (List Nat)} (h : Lr xs) : SeqAt.shaped (.list (xs.map fun a => PyData.str (S a))) = true := by
  unfold SeqAt.shaped
  simp only [PyData.canLay0, PyData.depth, layL xs h, depL]
  decide
/-- a list of texts beside an empty one -/
theorem neNil {K : PySem.W.Frag} {H : Hp} {a b : Addr} {xs : List (List Nat)} {Q : VK} (hx : Lr xs) (ha : H a = some (.lst (xs.map sV))) (hb : H b = some (.lst [])) (q : Q (.bl (!decide (xs = []))) H) : rNeD K (.ref a) (.ref b) H Q := by
  refine ⟨.list (xs.map fun a => PyData.str (S a)), .list [], .lst (SqL.of ha) (dpL xs), .lst (SqL.of hb) .nil, shL hx, by decide, ?_⟩
  have e : PyData.eqv (.list (xs.map fun a => PyData.str (S a))) (.list []) = decide (xs = []) := by
    cases xs with
    | nil => simp [PyData.eqv, PyData.eqvAll]
    | cons x xs => simp [PyData.eqv, PyData.eqvAll]
  rw [e]
  exact q
/-- two lists of the same texts -/
theorem neL1 {K : PySem.W.Frag} {H : Hp} {a b : Addr} {xs : List (List Nat)} {Q : VK} (hx : Lr xs) (ha : H a = some (.lst (xs.map sV))) (hb : H b = some (.lst (xs.map sV))) (q : Q (.bl false) H) : rNeD K (.ref a) (.ref b) H Q := by
  refine ⟨.list (xs.map fun a => PyData.str (S a)), .list (xs.map fun a => PyData.str (S a)), .lst (SqL.of ha) (dpL xs), .lst (SqL.of hb) (dpL xs), shL hx, shL hx, ?_⟩
  rw [show PyData.eqv (.list (xs.map fun a => PyData.str (S a))) (.list (xs.map fun a => PyData.str (S a))) = true by simp only [PyData.eqv, eqL0 xs]]
  exact q
/-- the heap but for one place -/
def off (g : Addr) (H : Hp) : Hp := fun b => if b = g then none else H b
theorem off_same {g : Addr} {H : Hp} : Same (off g H) H := fun b o e => by
  unfold off at e
  split at e
  · cases e
  · exact e
theorem off_at {g b : Addr} {H : Hp} {o : HO} (n : b ≠ g) (h : H b = some o) : off g H b = some o := by
  unfold off
  rw [if_neg n]
  exact h
theorem off_self {g : Addr} {H : Hp} : off g H g = none := by unfold off; rw [if_pos rfl]
theorem off_keep {g : Addr} {H H' : Hp} (k : Keep g H H') : Same (off g H) (off g H') := fun b o e => by
  unfold off at e ⊢
  split at e
  · cases e
  · rename_i n
    rw [if_neg n]
    exact k b o n e
theorem off_to {g : Addr} {H H' : Hp} (k : Keep g H H') : Same (off g H) H' := (off_keep k).trans off_same
theorem off_in {g : Addr} {H0 H : Hp} (s : Same H0 H) (n : H0 g = none) : Same H0 (off g H) := fun b o e => off_at (fun z => by rw [z, n] at e; cases e) (s b o e)

section
variable {w : World} {K : PySem.W.Frag} {mg : Str → Option Value}
def sp_check_tree (T : Txt w K mg) : Sp := fun vs H Q E => ∃ v, vs = [v] ∧ ((∃ t : Tr, v = trV t ∧ t.size ≤ 2000 ∧ ∀ H', Same H H' → Q .non H') ∨ (NotTree K H v ∧ Out T.c_InvalidTree v H E))
end
section
variable {w : World} {K : PySem.W.Frag} {mg : Str → Option Value}
/-- a tree, or a value that is none -/
def OnTree (K : PySem.W.Frag) (C : Addr) (vs : List V) (H : Hp) (E : XK) (G : Tr → Prop) : Prop := ∃ v, vs = [v] ∧ ((∃ t : Tr, v = trV t ∧ t.size ≤ 2000 ∧ G t) ∨ (NotTree K H v ∧ Out C v H E))
inductive Tups (H : Hp) : List V → List (List Nat × Nat) → Prop
  | nil : Tups H [] []
  | cons {p : Addr} {x : List Nat × Nat} {vs : List V} {xs : List (List Nat × Nat)} : H p = some (.tup [sV x.1, sV [x.2]]) → Tups H vs xs → Tups H (.ref p :: vs) (x :: xs)
def sp_addressed (K : PySem.W.Frag) : Sp := fun vs H Q _ => ∃ t : Tr, vs = [trV t] ∧ t.size ≤ 2000 ∧ ∀ p ws H', H p = none → Same H H' → H' p = some (.lst ws) → Tups H' ws (t.adrs []) → Q (.ref p) H'
def sp_law_nodes (K : PySem.W.Frag) (k : Nat) : Sp := fun vs H Q _ => ∃ (v : V) (a : List Nat) (t : Tr), vs = [v, sV a] ∧ PT H v t ∧ Tr.hgt t < k ∧ a.length + t.size ≤ 100000 ∧ ∀ p H', H p = none → Same H H' → H' p = some (.lst ((t.ndA a).map sV)) → Q (.ref p) H'
def sp_ends (K : PySem.W.Frag) : Sp := fun vs H Q _ => ∃ t : Tr, vs = [trV t] ∧ t.size ≤ 2000 ∧ ∀ p H', H p = none → Same H H' → H' p = some (.lst ((Tr.ends 0 t).map fun n => V.int (n : Nat))) → Q (.ref p) H'
def tat : Tr → List Nat → Option Tr
  | t, [] => some t
  | .leaf, _ :: _ => none
  | .node l r, c :: cs => if c = 108 then tat l cs else tat r cs
def offs : Tr → List Nat → Nat
  | _, [] => 0
  | .leaf, _ :: _ => 0
  | .node l r, c :: cs => if c = 108 then 1 + offs l cs else 1 + l.len + offs r cs
def put : Tr → List Nat → Tr → Tr
  | _, [], x => x
  | .leaf, _ :: _, _ => .leaf
  | .node l r, c :: cs, x => if c = 108 then .node (put l cs x) r else .node l (put r cs x)
def BadAdr (K : PySem.W.Frag) (H : Hp) (t : Tr) (v : V) : Prop := NotAdr K H v ∨ ∃ a : List Nat, v = sV a ∧ a.length ≤ 1000 ∧ isA a = true ∧ tat t a = none
def sp_is_address (K : PySem.W.Frag) : Sp := fun vs H Q _ => ∃ v, vs = [v] ∧ ((∃ a : List Nat, v = sV a ∧ a.length ≤ 1000000 ∧ Q (.bl (isA a)) H) ∨ (NotStr K H v ∧ Q (.bl false) H))
def sp_stretch (K : PySem.W.Frag) : Sp := fun vs H Q _ => ∃ (t : Tr) (a : List Nat), vs = [trV t, sV a] ∧ t.size ≤ 2000 ∧ a.length ≤ 1000 ∧ (tat t a = none → ∀ H', Same H H' → Q .non H') ∧
  ∀ s, tat t a = some s → ∀ p H', H p = none → Same H H' → H' p = some (.tup [.int (offs t a : Nat), .int ((offs t a + s.len : Nat) : Int)]) → Q (.ref p) H'
def sp_law_text (K : PySem.W.Frag) (k : Nat) : Sp := fun vs H Q _ => ∃ (v : V) (t : Tr), vs = [v] ∧ PT H v t ∧ Tr.hgt t < k ∧ t.size ≤ 2000 ∧ ∀ H', Same H H' → Q (trV t) H'
def sp_law_at (K : PySem.W.Frag) : Sp := fun vs H Q _ => ∃ (v : V) (t : Tr) (a : List Nat), vs = [v, sV a] ∧ PT H v t ∧ a.length ≤ 1000 ∧ isA a = true ∧ (tat t a = none → ∀ H', Same H H' → Q .non H') ∧ ∀ s, tat t a = some s → ∀ u H', Same H H' → PT H' u s → Q u H'
def sp_law_put (K : PySem.W.Frag) (k : Nat) : Sp := fun vs H Q _ => ∃ (v x : V) (t z s : Tr) (a : List Nat), vs = [v, sV a, x] ∧ PT H v t ∧ PT H x z ∧ tat t a = some s ∧ isA a = true ∧ a.length < k ∧ a.length ≤ 1000 ∧ ∀ u H', Same H H' → PT H' u (put t a z) → Q u H'
/-- a node turned at its top -/
def turnR : Tr → Tr → Option Tr
  | .node a b, c => some (.node a (.node b c))
  | .leaf, _ => none
def turnL : Tr → Tr → Option Tr
  | a, .node b c => some (.node (.node a b) c)
  | _, .leaf => none
def turnT (w : Str) : Tr → Option Tr
  | .leaf => none
  | .node l r => if w = Str.ofString "right" then turnR l r else if w = Str.ofString "left" then turnL l r else none
def sp_halves (K : PySem.W.Frag) : Sp := fun vs H Q _ => ∃ l r : Tr, vs = [trV (.node l r)] ∧ (Tr.node l r).size ≤ 2000 ∧ ∀ p H', H p = none → Same H H' → H' p = some (.tup [trV l, trV r]) → Q (.ref p) H'
def sp_turned_root (K : PySem.W.Frag) : Sp := fun vs H Q _ => ∃ (t : Tr) (w : Str), vs = [trV t, .str w] ∧ t.size ≤ 2000 ∧ (turnT w t = none → ∀ H', Same H H' → Q .non H') ∧ ∀ s, turnT w t = some s → ∀ H', Same H H' → Q (trV s) H'
def stepT (w : Str) (a : List Nat) (t : Tr) : Option Tr := ((tat t a).bind (turnT w)).map (put t a)
def sp_after_step (K : PySem.W.Frag) : Sp := fun vs H Q _ => ∃ (t : Tr) (w : Str) (a : List Nat), vs = [trV t, .str w, sV a] ∧ t.size ≤ 2000 ∧ a.length ≤ 1000 ∧ (stepT w a t = none → ∀ H', Same H H' → Q .non H') ∧ ∀ s, stepT w a t = some s → ∀ H', Same H H' → Q (trV s) H'
def sp_law_turn (K : PySem.W.Frag) : Sp := fun vs H Q _ => ∃ (v : V) (q : Addr) (t : Tr) (w : Str) (a : List Nat), vs = [v, .ref q] ∧ PT H v t ∧ H q = some (.tup [.str w, sV a]) ∧ (w = Str.ofString "left" ∨ w = Str.ofString "right") ∧ isA a = true ∧ a.length < 200 ∧
  (stepT w a t = none → ∀ H', Same H H' → Q .non H') ∧ ∀ s, stepT w a t = some s → ∀ u H', Same H H' → PT H' u s → Q u H'
def sp_law_address (K : PySem.W.Frag) : Sp := fun vs H Q _ => ∃ (g : Addr) (m n : Nat), vs = [.ref g, .int m] ∧ GenAt H g n ∧ m ≤ 200 ∧ n ≤ 10000000000000 ∧ ∀ (a : List Nat) H', isA a = true → a.length ≤ m → Keep g H H' → GenAt H' g (n + 3 + 3 * m) → Q (sV a) H'
end
inductive Stps (H : Hp) : List V → List (Str × List Nat) → Prop
  | nil : Stps H [] []
  | cons {p : Addr} {x : Str × List Nat} {vs : List V} {xs : List (Str × List Nat)} : H p = some (.tup [.str x.1, sV x.2]) → Stps H vs xs → Stps H (.ref p :: vs) (x :: xs)
theorem Stps.mono {H H' : Hp} (f : ∀ b vs, H b = some (.tup vs) → H' b = some (.tup vs)) : ∀ {vs : List V} {xs : List (Str × List Nat)}, Stps H vs xs → Stps H' vs xs
  | _, _, .nil => .nil
  | _, _, .cons a b => .cons (f _ _ a) (Stps.mono f b)
theorem Stps.append {H : Hp} : ∀ {vs : List V} {xs : List (Str × List Nat)} {us : List V} {ys : List (Str × List Nat)}, Stps H vs xs → Stps H us ys → Stps H (vs ++ us) (xs ++ ys)
  | _, _, _, _, .nil, b => b
  | _, _, _, _, .cons a c, b => .cons a (Stps.append c b)
theorem Stps.length {H : Hp} : ∀ {vs : List V} {xs : List (Str × List Nat)}, Stps H vs xs → vs.length = xs.length
  | _, _, .nil => rfl
  | _, _, .cons _ b => congrArg Nat.succ (Stps.length b)
/-- a step with an address of at most n letters -/
def okSt (n : Nat) (x : Str × List Nat) : Prop := (x.1 = Str.ofString "left" ∨ x.1 = Str.ofString "right") ∧ isA x.2 = true ∧ x.2.length ≤ n
def IsStep (H : Hp) (v : V) : Prop := ∃ (p : Addr) (x : Str × List Nat), v = .ref p ∧ H p = some (.tup [.str x.1, sV x.2]) ∧ okSt 3000 x
def NotStep (K : PySem.W.Frag) (H : Hp) (v : V) : Prop := (∃ ty, TyX K H v ty ∧ PySem.W.kitOne K ty (.type "tuple") = some false) ∨
  (∃ p vs, v = .ref p ∧ H p = some (.tup vs) ∧ vs.length ≠ 2) ∨
  ∃ p x y, v = .ref p ∧ H p = some (.tup [x, y]) ∧ (NotStr K H x ∨ (∃ z : Str, x = .str z ∧ z ≠ Str.ofString "left" ∧ z ≠ Str.ofString "right") ∨ ((x = .str (Str.ofString "left") ∨ x = .str (Str.ofString "right")) ∧ NotAdr K H y))
def GoodS (H : Hp) (v : V) (xs : List (Str × List Nat)) : Prop := ∃ a ws, v = .ref a ∧ H a = some (.lst ws) ∧ Stps H ws xs ∧ ws.length ≤ 3000 ∧ ∀ x ∈ xs, okSt 3000 x
def BadS (K : PySem.W.Frag) (H : Hp) (v : V) : Prop := (∃ ty, TyX K H v ty ∧ PySem.W.kitOne K ty (.type "list") = some false) ∨
  ∃ a ws, v = .ref a ∧ H a = some (.lst ws) ∧ ws.length ≤ 3000 ∧ (∀ u ∈ ws, IsStep H u ∨ NotStep K H u) ∧ ∃ u ∈ ws, NotStep K H u
theorem Stps.same {H H' : Hp} (s : Same H H') {vs : List V} {xs : List (Str × List Nat)} (h : Stps H vs xs) : Stps H' vs xs := h.mono fun b vs e => s _ _ e
theorem IsStep.same {H H' : Hp} {v : V} (h : IsStep H v) (s : Same H H') : IsStep H' v := let ⟨p, x, e, g, o⟩ := h; ⟨p, x, e, s _ _ g, o⟩
theorem NotAdr.same {K : PySem.W.Frag} {H H' : Hp} {v : V} (h : NotAdr K H v) (s : Same H H') : NotAdr K H' v := h.imp id fun z => z.same s
theorem NotStep.same {K : PySem.W.Frag} {H H' : Hp} {v : V} (h : NotStep K H v) (s : Same H H') : NotStep K H' v := by
  rcases h with ⟨ty, a, b⟩ | ⟨p, vs, e, g, n⟩ | ⟨p, x, y, e, g, r⟩
  · exact .inl ⟨ty, tyX_same a s, b⟩
  · exact .inr (.inl ⟨p, vs, e, s _ _ g, n⟩)
  · exact .inr (.inr ⟨p, x, y, e, s _ _ g, r.imp (fun z => z.same s) fun z => z.imp id fun z => ⟨z.1, z.2.same s⟩⟩)
theorem GoodS.same {H H' : Hp} {v : V} {xs : List (Str × List Nat)} (h : GoodS H v xs) (s : Same H H') : GoodS H' v xs := let ⟨a, ws, e, g, t, r⟩ := h; ⟨a, ws, e, s _ _ g, t.same s, r⟩
theorem BadS.same {K : PySem.W.Frag} {H H' : Hp} {v : V} (h : BadS K H v) (s : Same H H') : BadS K H' v := by
  rcases h with ⟨ty, a, b⟩ | ⟨a, ws, e, g, l, al, u, hu, nu⟩
  · exact .inl ⟨ty, tyX_same a s, b⟩
  · exact .inr ⟨a, ws, e, s _ _ g, l, fun z hz => (al z hz).imp (fun n => n.same s) fun n => n.same s, u, hu, nu.same s⟩

section
variable {w : World} {K : PySem.W.Frag} {mg : Str → Option Value}
def sp_law_steps (K : PySem.W.Frag) : Sp := fun vs H Q _ => ∃ (g : Addr) (m d n : Nat), vs = [.ref g, .int m, .int d] ∧ GenAt H g n ∧ m ≤ 100 ∧ 2 ≤ d ∧ d ≤ 200 ∧ n ≤ 1000000000000 ∧
  ∀ p ws xs H', H p = none → Keep g H H' → GenAt H' g (n + (9 + 3 * d) * m) → H' p = some (.lst ws) → Stps H' ws xs → xs.length = m → (∀ x ∈ xs, okSt d x) → Q (.ref p) H'
end
def tops (t : Tr) : List (List Nat) := ((t.adrs []).filter fun x => x.2 == 40).map (·.1)
def stepsT (t : Tr) : List (Str × List Nat) := ((tops t).filter fun a => decide (a ++ [114] ∈ tops t)).map (fun a => (Str.ofString "left", a)) ++ ((tops t).filter fun a => decide (a ++ [108] ∈ tops t)).map (fun a => (Str.ofString "right", a))
def runT : Nat → List (Str × List Nat) → Tr → Tr ⊕ Nat
  | _, [], t => .inl t
  | i, x :: xs, t => match stepT x.1 x.2 t with
    | some s => runT (i + 1) xs s
    | none => .inr i
section
variable {w : World} {K : PySem.W.Frag} {mg : Str → Option Value}
def OutF (C : Addr) (f : Str) (v : V) (H : Hp) (E : XK) : Prop := ∀ d H', Same H H' → H d = none → H' d = some (.xd [(f, v)]) → E (.ref C) (some d) H'
def sp_is_step (K : PySem.W.Frag) : Sp := fun vs H Q _ => ∃ v, vs = [v] ∧ ((IsStep H v ∧ Q (.bl true) H) ∨ (NotStep K H v ∧ Q (.bl false) H))
/-- a new list of steps -/
def NewS (H : Hp) (xs : List (Str × List Nat)) (Q : VK) : Prop := ∀ p ws H', H p = none → Same H H' → H' p = some (.lst ws) → Stps H' ws xs → Q (.ref p) H'
def sp_checked_script (T : Txt w K mg) : Sp := fun vs H Q E => ∃ v, vs = [v] ∧ ((∃ xs, GoodS H v xs ∧ NewS H xs Q) ∨ (BadS K H v ∧ Out T.c_InvalidScript v H E))
def sp_turned (T : Txt w K mg) : Sp := fun vs H Q E => ∃ u v, vs = [u, v] ∧ ((∃ t : Tr, u = trV t ∧ t.size ≤ 2000 ∧ ((∃ xs, GoodS H v xs ∧ (∀ x ∈ xs, okSt 1000 x) ∧ (∀ s, runT 0 xs t = .inl s → ∀ H', Same H H' → Q (trV s) H') ∧ (∀ i, runT 0 xs t = .inr i → OutF T.c_CannotTurn "place" (.int (i : Nat)) H E)) ∨ (BadS K H v ∧ Out T.c_InvalidScript v H E))) ∨ (NotTree K H u ∧ Out T.c_InvalidTree u H E))
def sp_steps_of (T : Txt w K mg) : Sp := fun vs H Q E => OnTree K T.c_InvalidTree vs H E fun t => NewS H (stepsT t) Q
def sp_law_all_steps (K : PySem.W.Frag) : Sp := fun vs H Q _ => ∃ (v : V) (t : Tr), vs = [v] ∧ PT H v t ∧ t.size ≤ 100 ∧ NewS H (stepsT t) Q
def sp_law_drawn (K : PySem.W.Frag) : Sp := fun vs H Q _ => ∃ (g : Addr) (t : Tr) (n : Nat), vs = [.ref g, trV t] ∧ t.size ≤ 40 ∧ GenAt H g n ∧ n ≤ 100000000000 ∧
  ∀ p ws xs H', H p = none → Keep g H H' → GenAt H' g (n + 200) → H' p = some (.lst ws) → Stps H' ws xs → xs.length ≤ 20 → (∀ x ∈ xs, okSt 40 x) → Q (.ref p) H'
def sp_law_due (K : PySem.W.Frag) : Sp := fun vs H Q _ => ∃ (t : Tr) (a : Addr) (ws : List V) (xs : List (Str × List Nat)), vs = [trV t, .ref a] ∧ t.size ≤ 40 ∧ H a = some (.lst ws) ∧ Stps H ws xs ∧ xs.length ≤ 40 ∧ (∀ x ∈ xs, okSt 100 x) ∧
  (∀ s, runT 0 xs t = .inl s → ∀ H', Same H H' → Q (trV s) H') ∧ ∀ i, runT 0 xs t = .inr i → ∀ p H', H p = none → Same H H' → H' p = some (.lst [.str (Str.ofString "cannot"), .int (i : Nat)]) → Q (.ref p) H'
def Shows (K : PySem.W.Frag) (H : Hp) (b : V) (q : PyData → Hp → Prop) : Prop := (∃ d ty, Good H b d ∧ TyX K H b ty ∧ PySem.W.kitOne K ty (.type "list") = some false ∧ ∀ H', Same H H' → q d H') ∨
  (∃ l ws, b = .ref l ∧ H l = some (.lst ws) ∧ ws.length ≤ 1000 ∧ ∀ H', Keep l H H' → H' l = some (.lst (ws ++ [V.str "more"])) → ∃ d, Good H' (.ref l) d ∧ q d H')
/-- a new list of two -/
def Two (H : Hp) (x y : V) (Q : VK) : Prop := ∀ p H', H p = none → Same H H' → H' p = some (.lst [x, y]) → Q (.ref p) H'
/-- plain data, with dicts or without -/
structure PlainC (c : Bool) (ds : List PyData) (n : Nat) : Prop where
  sh : PyData.showableAll ds = true
  dp : PyData.depthAll ds ≤ 5
  ls : PyData.leavesShortAll 30 ds = true
  bk : PyData.bulkAll ds ≤ n
  hd : PyData.hasDictAll ds = c
/-! ### the values that are no scripts -/
def FlatI (K : PySem.W.Frag) (B : Hp) (v : V) : Prop := ∃ d ty, TyX K B v ty ∧ PySem.W.kitOne K ty (.type "list") = some false ∧ Good B v d
def ListI (K : PySem.W.Frag) (B H : Hp) (v : V) : Prop := ∃ (l : Addr) (ws : List V) (c : Bool) (ds : List PyData) (n : Nat), v = .ref l ∧ B l = none ∧ H l = some (.lst ws) ∧ ws.length ≤ 100 ∧ (∀ u ∈ ws, IsStep B u ∨ NotStep K B u) ∧ (∃ u ∈ ws, NotStep K B u) ∧ DVs B c ws ds ∧ PlainC c ds n ∧ n ≤ 100000 ∧ (c = true → l ≠ sysModules)
def sp_law_bad (K : PySem.W.Frag) : Sp := fun vs H Q _ => ∃ (g a : Addr) (ws : List V) (xs : List (Str × List Nat)) (n : Nat), vs = [.ref g, .ref a] ∧ GenAt H g n ∧ n ≤ 100000000000 ∧ H a = some (.lst ws) ∧ Stps H ws xs ∧ xs.length ≤ 20 ∧ (∀ x ∈ xs, okSt 40 x) ∧
  ∀ p vs B H', B p = some (.lst vs) → Same (off g H) B → Same B H' → vs.Pairwise (fun x y => ∀ l, x = .ref l → B l = none → y ≠ x) → (∀ v ∈ vs, FlatI K B v ∨ ListI K B H' v) → Q (.ref p) H'
def sp_law_told (T : Txt w K mg) : Sp := fun vs H Q _ => ∃ u v, vs = [u, v] ∧
  ((∃ (t : Tr) (xs : List (Str × List Nat)), u = trV t ∧ t.size ≤ 2000 ∧ GoodS H v xs ∧ (∀ x ∈ xs, okSt 1000 x) ∧ (∀ s, runT 0 xs t = .inl s → ∀ H', Same H H' → Q (trV s) H') ∧ (∀ i, runT 0 xs t = .inr i → Two H (.str (Str.ofString "cannot")) (.int (i : Nat)) Q)) ∨
   (∃ t : Tr, u = trV t ∧ t.size ≤ 2000 ∧ BadS K H v ∧ Shows K H v fun d H' => Two H' (.str (Str.ofString "script")) (.str d.shown) Q) ∨
   (NotTree K H u ∧ ∃ d, Good H u d ∧ Two H (.str (Str.ofString "tree")) (.bl true) Q))
def sp_law_no_steps (T : Txt w K mg) : Sp := fun vs H Q _ => ∃ u, vs = [u] ∧ NotTree K H u ∧ ∃ d, Good H u d ∧ ∀ H', Same H H' → Q (.bl true) H'
end

section
variable {P : Program} {w : World} {K : PySem.W.Frag} {mg : Str → Option Value} {base : Heap}

theorem isT_nil (st : List Str) : isT [] st = st.isEmpty := rfl
theorem isT_open {c : Nat} {cs : List Nat} {st : List Str} {wd : Str} {st' : List Str} (hw : st.headD "end" = wd) (ht : st.tail = st') (h : wd = "tree" ∧ S [c] = "(") : isT (c :: cs) st = isT cs ("tree" :: "tree" :: ")" :: st') := by
  subst hw; subst ht
  show (if _ then _ else _) = _
  rw [if_pos h]
theorem isT_bad {c : Nat} {cs : List Nat} {st : List Str} {wd : Str} (hw : st.headD "end" = wd) (h : ¬ (wd = "tree" ∧ S [c] = "(")) (h2 : wd ≠ S [c] ∧ ¬ (wd = "tree" ∧ S [c] = ".")) : isT (c :: cs) st = false := by
  subst hw
  show (if _ then _ else _) = _
  rw [if_neg h, if_pos h2]
theorem isT_on {c : Nat} {cs : List Nat} {st : List Str} {wd : Str} {st' : List Str} (hw : st.headD "end" = wd) (ht : st.tail = st') (h : ¬ (wd = "tree" ∧ S [c] = "(")) (h2 : ¬ (wd ≠ S [c] ∧ ¬ (wd = "tree" ∧ S [c] = "."))) : isT (c :: cs) st = isT cs st' := by
  subst hw; subst ht
  show (if _ then _ else _) = _
  rw [if_neg h, if_neg h2]
theorem ok_is_tree (T : Txt w K mg) : FnOk P w K mg base CX0 1 T.a_is_tree T.fd_is_tree ["value"] (sp_is_tree K) := by
  refine T.F_is_tree.ok sc_is_tree (fun vs H Q E h => ?_) (fun cdv A outer s H vs Q E hr h => ?_)
  · obtain ⟨v, rfl, _⟩ := h; rfl
  obtain ⟨v, rfl, h⟩ := h
  refine ⟨_, (pss_cons (ps_if (pt_not (pt_val (pe_callB call_isi (by rfl) T.z_isinstance (by decide +kernel) (pa_cons (pv 0) (pa_cons (pe_bltn (v := .ty "str") (by rfl) T.z_str (by decide +kernel) rfl) pa_nil))))) (pss_one (ps_ret pe_bl)) pss_nil)
    (pss_cons (ps_set (i := 1) sc_is_tree.nd rfl (by first | exact Or.inl rfl | exact Or.inr rfl) (pe_lst (pa_cons pe_str pa_nil)))
    (pss_cons (ps_for PassesOwn.never rfl (pi_str (pv 0)) (pg_name (i := 2) sc_is_tree.nd rfl (by first | exact Or.inl rfl | exact Or.inr rfl)) (pss_cons (ps_set (i := 3) sc_is_tree.nd rfl (by first | exact Or.inl rfl | exact Or.inr rfl) (pe_ifExp (pt_truth (pv 1) (fun _ => rfl)) (pe_bm0 PySem.F.plainAttrs_list PySem.F.slot_list_pop PySem.F.type_list_pop mt_pop (pv 1)) pe_str))
    (pss_one (ps_if (pw_and (pt_cmpR op_eq (pv 3) pe_str (nomark _)) (pw_and1 (pt_cmpR op_eq (pv 2) pe_str (nomark _)))).pt (pss_one (ps_expr (pe_bm PySem.F.plainAttrs_list PySem.F.slot_list_extend PySem.F.type_list_extend mt_extend (pv 1) (pa_cons (pe_lst (pa_cons pe_str (pa_cons pe_str (pa_cons pe_str pa_nil)))) pa_nil)))) (pss_one (ps_if (pw_and (pt_cmpR op_ne (pv 3) (pv 2) (nomark _)) (pw_and1 (pt_not (pw_and (pt_cmpR op_eq (pv 3) pe_str (nomark _)) (pw_and1 (pt_cmpR op_eq (pv 2) pe_str (nomark _)))).pt))).pt (pss_one (ps_ret pe_bl)) pss_nil))))))
    (pss_one (ps_ret (pe_notT (pv 1))))))), ?_⟩
  rcases h with ⟨x, rfl, hx, q⟩ | ⟨⟨t, ht, hk⟩, q⟩
  · simp only [cxOf_K, tAsg2, tYes, wipe, tSeq, tIfS, tNot, tB, tCB, tCons, tNil, tVar, tC, tTest, tOp, tAnd, tOr, tAsg, gName, tRet, tRetN, tDrop, tNext, tIf, tCall, tTup, tLst, tNotV, tAndV, tOrV, tUn, rI0, rI, rU, rEq, rNe, tM1, tM0, tBM, tBM0, tSl, tPart, tNoPart, iStr, iEnumS, iRng1, iRng2, iList, gSub, tBits, tAug, tPar, L2.start, List.map_cons, List.map_nil, List.length_cons, List.length_nil, List.getElem?_cons_zero, List.getElem?_cons_succ, List.cons_append, List.nil_append, List.append_nil, List.set_cons_zero, List.set_cons_succ, List.replicate_succ, List.replicate_zero, Option.some.injEq, exists_eq_left', V.int.injEq, V.str.injEq, V.ref.injEq, V.bl.injEq, exists_and_left, exists_eq_left, List.cons.injEq, and_true, true_and, tCallX, tRs]
    refine ⟨_, _, _, _, true, rfl, .ty _, .base (.str x), kit_ty (by decide +kernel), _, rfl, ?_⟩
    refine ⟨by decide, fun p hp => ⟨_, rfl, x, rfl, for_str (fun i σ H' => ∃ (st : List Str) (a2 a3 : Option V), σ = [some (.str x), some (.ref p), a2, a3] ∧ Same H H' ∧ H' p = some (.lst (st.reverse.map V.str)) ∧
      isT (x.cps.toList.drop i) st = isT x.cps.toList ["tree"] ∧ st.length ≤ 1 + 2 * i) ⟨_, none, none, rfl, (L2.Same.refl H).new hp _, upd_same, rfl, by decide⟩ ?_ ?_⟩⟩
    · rintro i c σ H' hc ⟨st, a2, a3, rfl, s0, hl, he, hn⟩
      have hi : i < x.cps.size := (Array.getElem?_eq_some_iff.mp hc).1
      have hxl : x.cps.size = x.length := rfl
      have hd : x.cps.toList.drop i = c :: x.cps.toList.drop (i + 1) := by
        rw [List.drop_eq_getElem_cons (by simpa using hi)]
        congr 1
        have := (Array.getElem?_eq_some_iff.mp hc).2
        simpa using this
      rw [hd] at he
      simp only [cxOf_K, tAsg2, tYes, wipe, tSeq, tIfS, tNot, tB, tCB, tCons, tNil, tVar, tC, tTest, tOp, tAnd, tOr, tAsg, gName, tRet, tRetN, tDrop, tNext, tIf, tCall, tTup, tLst, tNotV, tAndV, tOrV, tUn, rI0, rI, rU, rEq, rNe, tM1, tM0, tBM, tBM0, tSl, tPart, tNoPart, iStr, iEnumS, iRng1, iRng2, iList, gSub, tBits, tAug, tPar, L2.start, List.map_cons, List.map_nil, List.length_cons, List.length_nil, List.getElem?_cons_zero, List.getElem?_cons_succ, List.cons_append, List.nil_append, List.append_nil, List.set_cons_zero, List.set_cons_succ, List.replicate_succ, List.replicate_zero, Option.some.injEq, exists_eq_left', V.int.injEq, V.str.injEq, V.ref.injEq, V.bl.injEq, exists_and_left, exists_eq_left, List.cons.injEq, and_true, true_and, tCallX, tRs]
      have hS : ({ cps := #[c] } : Str) = S [c] := rfl
      rcases st with _ | ⟨w0, st⟩
      · refine ⟨false, .inl ⟨_, SqL.of hl, rfl⟩, ?_⟩
        rw [if_neg Bool.false_ne_true]
        obtain ⟨st0, hst0⟩ : ∃ st0 : List Str, st0 = [] := ⟨_, rfl⟩
        replace he : isT (c :: x.cps.toList.drop (i + 1)) st0 = isT x.cps.toList ["tree"] := by rw [hst0]; exact he
        obtain ⟨wd, hwd⟩ : ∃ wd, wd = Str.ofString "end" := ⟨_, rfl⟩
        rw [← hwd]
        obtain ⟨st', hst'⟩ : ∃ st' : List Str, st' = [] := ⟨_, rfl⟩
        have hw : st0.headD "end" = wd := by rw [hst0, hwd]; rfl
        have ht : st0.tail = st' := by rw [hst0, hst']; rfl
        have hn' : st'.length ≤ 2 * i := by rw [hst']; exact Nat.zero_le _
        rw [← hst'] at hl
        try simp only [V.str.injEq]
        refine ⟨rfl, ?_⟩
        have yes : wd = "tree" → S [c] = "(" → ∀ l, H' l = none → ∃ st2 a2 a3, (some (V.str ⟨#[c]⟩) = a2 ∧ some (V.str wd) = a3) ∧ Same H (upd (upd H' l (.lst [.str ")", .str "tree", .str "tree"])) p (.lst (st'.reverse.map V.str ++ [.str ")", .str "tree", .str "tree"]))) ∧
            upd (upd H' l (.lst [.str ")", .str "tree", .str "tree"])) p (.lst (st'.reverse.map V.str ++ [.str ")", .str "tree", .str "tree"])) p = some (.lst (List.map V.str st2.reverse)) ∧ isT (x.cps.toList.drop (i + 1)) st2 = isT x.cps.toList ["tree"] ∧ st2.length ≤ 1 + 2 * (i + 1) := fun h1 h2 l hl' => by
          refine ⟨"tree" :: "tree" :: ")" :: st', _, _, ⟨rfl, rfl⟩, ((s0.new (s0.free hl') _).new hp _), ?_, ?_, ?_⟩
          · rw [upd_same]; simp
          · rw [← he, isT_open hw ht ⟨h1, h2⟩]
          · simp only [List.length_cons]; omega
        have no : ¬ (wd = "tree" ∧ S [c] = "(") → (if (!decide (wd = S [c])) = true then scal (V.str wd) (V.str "tree") = true ∧ (if decide (wd = "tree") = true then scal (V.str (S [c])) (V.str ".") = true ∧ (if (!decide (S [c] = ".")) = true then Q (V.bl false) H' else
              ∃ st2 a2 a3, (some (V.str ⟨#[c]⟩) = a2 ∧ some (V.str wd) = a3) ∧ Same H H' ∧ H' p = some (.lst (List.map V.str st2.reverse)) ∧ isT (x.cps.toList.drop (i + 1)) st2 = isT x.cps.toList ["tree"] ∧ st2.length ≤ 1 + 2 * (i + 1))
              else if (!false) = true then Q (V.bl false) H' else ∃ st2 a2 a3, (some (V.str ⟨#[c]⟩) = a2 ∧ some (V.str wd) = a3) ∧ Same H H' ∧ H' p = some (.lst (List.map V.str st2.reverse)) ∧ isT (x.cps.toList.drop (i + 1)) st2 = isT x.cps.toList ["tree"] ∧ st2.length ≤ 1 + 2 * (i + 1))
            else if false = true then Q (V.bl false) H' else ∃ st2 a2 a3, (some (V.str ⟨#[c]⟩) = a2 ∧ some (V.str wd) = a3) ∧ Same H H' ∧ H' p = some (.lst (List.map V.str st2.reverse)) ∧ isT (x.cps.toList.drop (i + 1)) st2 = isT x.cps.toList ["tree"] ∧ st2.length ≤ 1 + 2 * (i + 1)) := fun hno => by
          have bad : wd ≠ S [c] → ¬ (wd = "tree" ∧ S [c] = ".") → Q (V.bl false) H' := fun h1 h2 => by
            rw [isT_bad hw hno ⟨h1, h2⟩] at he
            rw [he]; exact q _ s0
          have good : ¬ (wd ≠ S [c] ∧ ¬ (wd = "tree" ∧ S [c] = ".")) → ∃ st2 a2 a3, (some (V.str ⟨#[c]⟩) = a2 ∧ some (V.str wd) = a3) ∧ Same H H' ∧ H' p = some (.lst (List.map V.str st2.reverse)) ∧ isT (x.cps.toList.drop (i + 1)) st2 = isT x.cps.toList ["tree"] ∧ st2.length ≤ 1 + 2 * (i + 1) := fun h => by
            rw [isT_on hw ht hno h] at he
            exact ⟨st', _, _, ⟨rfl, rfl⟩, s0, hl, he, by omega⟩
          by_cases e1 : wd = S [c]
          · rw [if_neg (by simp [e1]), if_neg Bool.false_ne_true]
            exact good (fun h => h.1 e1)
          · rw [if_pos (by simp [e1])]
            refine ⟨rfl, ?_⟩
            by_cases e2 : wd = "tree"
            · rw [if_pos (decide_eq_true e2)]
              refine ⟨rfl, ?_⟩
              by_cases e3 : S [c] = "."
              · rw [if_neg (by simp [e3])]
                exact good (fun h => h.2 ⟨e2, e3⟩)
              · rw [if_pos (by simp [e3])]
                exact bad e1 (fun h => e3 h.2)
            · rw [if_neg (by simp [e2]), if_pos (show (!false) = true from rfl)]
              exact bad e1 (fun h => e2 h.1)
        by_cases h1 : wd = "tree"
        · rw [if_pos (decide_eq_true h1)]
          refine ⟨rfl, ?_⟩
          by_cases h2 : S [c] = "("
          · rw [if_pos (decide_eq_true h2)]
            refine ⟨tyV_lst hl, by decide, fun l hl' => ⟨p, l, st'.reverse.map V.str, _, rfl, rfl, ?_, upd_same, ?_, ?_⟩⟩
            · rw [upd_ne (ne_of_none hl hl')]; exact hl
            · simp only [List.length_map, List.length_reverse, List.length_cons, List.length_nil]
              exact small5 (by omega)
            · exact yes h1 h2 l hl'
          · rw [if_neg (by simp only [decide_eq_true_eq]; exact h2)]
            exact ⟨rfl, no (fun h => h2 h.2)⟩
        · rw [if_neg (by simp only [decide_eq_true_eq]; exact h1), if_neg Bool.false_ne_true]
          exact ⟨rfl, no (fun h => h1 h.1)⟩
      · refine ⟨true, .inl ⟨_, SqL.of hl, by simp⟩, ?_⟩
        rw [if_pos rfl]
        refine ⟨tyV_lst hl, p, _, .str w0, rfl, rfl, hl, by simp, ?_⟩
        have hl' : (upd H' p (.lst ((List.map V.str (w0 :: st).reverse).dropLast))) p = some (.lst (st.reverse.map V.str)) := by
          rw [upd_same]; simp
        have s0' := s0.new hp (.lst ((List.map V.str (w0 :: st).reverse).dropLast))
        generalize upd H' p (.lst ((List.map V.str (w0 :: st).reverse).dropLast)) = H' at hl' s0' ⊢
        replace hl := hl'
        replace s0 := s0'
        have hn' : st.length ≤ 2 * i := by simp only [List.length_cons] at hn; omega
        obtain ⟨st0, hst0⟩ : ∃ st0 : List Str, st0 = w0 :: st := ⟨_, rfl⟩
        rw [← hst0] at he
        have hw : st0.headD "end" = w0 := by rw [hst0]; rfl
        have ht : st0.tail = st := by rw [hst0]; rfl
        obtain ⟨wd, hwd⟩ : ∃ wd, wd = w0 := ⟨_, rfl⟩
        rw [← hwd] at hw ⊢
        obtain ⟨st', hst'⟩ : ∃ st' : List Str, st' = st := ⟨_, rfl⟩
        rw [← hst'] at ht hl hn'
        try simp only [V.str.injEq]
        refine ⟨rfl, ?_⟩
        have yes : wd = "tree" → S [c] = "(" → ∀ l, H' l = none → ∃ st2 a2 a3, (some (V.str ⟨#[c]⟩) = a2 ∧ some (V.str wd) = a3) ∧ Same H (upd (upd H' l (.lst [.str ")", .str "tree", .str "tree"])) p (.lst (st'.reverse.map V.str ++ [.str ")", .str "tree", .str "tree"]))) ∧
            upd (upd H' l (.lst [.str ")", .str "tree", .str "tree"])) p (.lst (st'.reverse.map V.str ++ [.str ")", .str "tree", .str "tree"])) p = some (.lst (List.map V.str st2.reverse)) ∧ isT (x.cps.toList.drop (i + 1)) st2 = isT x.cps.toList ["tree"] ∧ st2.length ≤ 1 + 2 * (i + 1) := fun h1 h2 l hl' => by
          refine ⟨"tree" :: "tree" :: ")" :: st', _, _, ⟨rfl, rfl⟩, ((s0.new (s0.free hl') _).new hp _), ?_, ?_, ?_⟩
          · rw [upd_same]; simp
          · rw [← he, isT_open hw ht ⟨h1, h2⟩]
          · simp only [List.length_cons]; omega
        have no : ¬ (wd = "tree" ∧ S [c] = "(") → (if (!decide (wd = S [c])) = true then scal (V.str wd) (V.str "tree") = true ∧ (if decide (wd = "tree") = true then scal (V.str (S [c])) (V.str ".") = true ∧ (if (!decide (S [c] = ".")) = true then Q (V.bl false) H' else
              ∃ st2 a2 a3, (some (V.str ⟨#[c]⟩) = a2 ∧ some (V.str wd) = a3) ∧ Same H H' ∧ H' p = some (.lst (List.map V.str st2.reverse)) ∧ isT (x.cps.toList.drop (i + 1)) st2 = isT x.cps.toList ["tree"] ∧ st2.length ≤ 1 + 2 * (i + 1))
              else if (!false) = true then Q (V.bl false) H' else ∃ st2 a2 a3, (some (V.str ⟨#[c]⟩) = a2 ∧ some (V.str wd) = a3) ∧ Same H H' ∧ H' p = some (.lst (List.map V.str st2.reverse)) ∧ isT (x.cps.toList.drop (i + 1)) st2 = isT x.cps.toList ["tree"] ∧ st2.length ≤ 1 + 2 * (i + 1))
            else if false = true then Q (V.bl false) H' else ∃ st2 a2 a3, (some (V.str ⟨#[c]⟩) = a2 ∧ some (V.str wd) = a3) ∧ Same H H' ∧ H' p = some (.lst (List.map V.str st2.reverse)) ∧ isT (x.cps.toList.drop (i + 1)) st2 = isT x.cps.toList ["tree"] ∧ st2.length ≤ 1 + 2 * (i + 1)) := fun hno => by
          have bad : wd ≠ S [c] → ¬ (wd = "tree" ∧ S [c] = ".") → Q (V.bl false) H' := fun h1 h2 => by
            rw [isT_bad hw hno ⟨h1, h2⟩] at he
            rw [he]; exact q _ s0
          have good : ¬ (wd ≠ S [c] ∧ ¬ (wd = "tree" ∧ S [c] = ".")) → ∃ st2 a2 a3, (some (V.str ⟨#[c]⟩) = a2 ∧ some (V.str wd) = a3) ∧ Same H H' ∧ H' p = some (.lst (List.map V.str st2.reverse)) ∧ isT (x.cps.toList.drop (i + 1)) st2 = isT x.cps.toList ["tree"] ∧ st2.length ≤ 1 + 2 * (i + 1) := fun h => by
            rw [isT_on hw ht hno h] at he
            exact ⟨st', _, _, ⟨rfl, rfl⟩, s0, hl, he, by omega⟩
          by_cases e1 : wd = S [c]
          · rw [if_neg (by simp [e1]), if_neg Bool.false_ne_true]
            exact good (fun h => h.1 e1)
          · rw [if_pos (by simp [e1])]
            refine ⟨rfl, ?_⟩
            by_cases e2 : wd = "tree"
            · rw [if_pos (decide_eq_true e2)]
              refine ⟨rfl, ?_⟩
              by_cases e3 : S [c] = "."
              · rw [if_neg (by simp [e3])]
                exact good (fun h => h.2 ⟨e2, e3⟩)
              · rw [if_pos (by simp [e3])]
                exact bad e1 (fun h => e3 h.2)
            · rw [if_neg (by simp [e2]), if_pos (show (!false) = true from rfl)]
              exact bad e1 (fun h => e2 h.1)
        by_cases h1 : wd = "tree"
        · rw [if_pos (decide_eq_true h1)]
          refine ⟨rfl, ?_⟩
          by_cases h2 : S [c] = "("
          · rw [if_pos (decide_eq_true h2)]
            refine ⟨tyV_lst hl, by decide, fun l hl' => ⟨p, l, st'.reverse.map V.str, _, rfl, rfl, ?_, upd_same, ?_, ?_⟩⟩
            · rw [upd_ne (ne_of_none hl hl')]; exact hl
            · simp only [List.length_map, List.length_reverse, List.length_cons, List.length_nil]
              exact small5 (by omega)
            · exact yes h1 h2 l hl'
          · rw [if_neg (by simp only [decide_eq_true_eq]; exact h2)]
            exact ⟨rfl, no (fun h => h2 h.2)⟩
        · rw [if_neg (by simp only [decide_eq_true_eq]; exact h1), if_neg Bool.false_ne_true]
          exact ⟨rfl, no (fun h => h1 h.1)⟩
    · rintro σ H' ⟨st, a2, a3, rfl, s0, hl, he, hn⟩
      have : x.cps.toList.drop x.cps.size = [] := List.drop_eq_nil_of_le (by simp)
      rw [this, isT_nil] at he
      simp only [cxOf_K, tAsg2, tYes, wipe, tSeq, tIfS, tNot, tB, tCB, tCons, tNil, tVar, tC, tTest, tOp, tAnd, tOr, tAsg, gName, tRet, tRetN, tDrop, tNext, tIf, tCall, tTup, tLst, tNotV, tAndV, tOrV, tUn, rI0, rI, rU, rEq, rNe, tM1, tM0, tBM, tBM0, tSl, tPart, tNoPart, iStr, iEnumS, iRng1, iRng2, iList, gSub, tBits, tAug, tPar, L2.start, List.map_cons, List.map_nil, List.length_cons, List.length_nil, List.getElem?_cons_zero, List.getElem?_cons_succ, List.cons_append, List.nil_append, List.append_nil, List.set_cons_zero, List.set_cons_succ, List.replicate_succ, List.replicate_zero, Option.some.injEq, exists_eq_left', V.int.injEq, V.str.injEq, V.ref.injEq, V.bl.injEq, exists_and_left, exists_eq_left, List.cons.injEq, and_true, true_and, tCallX, tRs, tNotT]
      refine ⟨!st.isEmpty, .inl ⟨_, SqL.of hl, by simp⟩, ?_⟩
      rw [Bool.not_not, he]
      exact q _ s0
  · simp only [cxOf_K, tAsg2, tYes, wipe, tSeq, tIfS, tNot, tB, tCB, tCons, tNil, tVar, tC, tTest, tOp, tAnd, tOr, tAsg, gName, tRet, tRetN, tDrop, tNext, tIf, tCall, tTup, tLst, tNotV, tAndV, tOrV, tUn, rI0, rI, rU, rEq, rNe, tM1, tM0, tBM, tBM0, tSl, tPart, tNoPart, iStr, iEnumS, iRng1, iRng2, iList, gSub, tBits, tAug, tPar, L2.start, List.map_cons, List.map_nil, List.length_cons, List.length_nil, List.getElem?_cons_zero, List.getElem?_cons_succ, List.cons_append, List.nil_append, List.append_nil, List.set_cons_zero, List.set_cons_succ, List.replicate_succ, List.replicate_zero, Option.some.injEq, exists_eq_left', V.int.injEq, V.str.injEq, V.ref.injEq, V.bl.injEq, exists_and_left, exists_eq_left, List.cons.injEq, and_true, true_and, tCallX, tRs]
    exact ⟨_, _, _, _, false, rfl, .ty _, ht, hk, _, rfl, q⟩

theorem lit_ne (c : Nat) : ("tree" : Str) ≠ S [c] := by
  intro h
  rw [lit_tree] at h
  have := S_inj h
  simp at this
theorem isT_tree : ∀ (t : Tr) (rest : List Nat) (st : List Str), isT (t.cs ++ rest) ("tree" :: st) = isT rest st
  | .leaf, rest, st => by
    show isT (46 :: rest) ("tree" :: st) = _
    refine isT_on (st := "tree" :: st) (wd := "tree") rfl rfl (fun h => ?_) (fun h => h.2 ⟨rfl, lit_dot.symm⟩)
    have := h.2
    rw [lit_open] at this
    have := S_inj this
    simp at this
  | .node l r, rest, st => by
    show isT (40 :: ((l.cs ++ (r.cs ++ [41])) ++ rest)) ("tree" :: st) = _
    rw [isT_open (st := "tree" :: st) (wd := "tree") (st' := st) rfl rfl ⟨rfl, lit_open.symm⟩, List.append_assoc, isT_tree l, List.append_assoc, isT_tree r]
    show isT (41 :: ([] ++ rest)) (")" :: st) = _
    rw [isT_on (st := ")" :: st) (wd := ")") (st' := st) rfl rfl]
    · rfl
    · intro h; exact absurd h.1 (by decide +kernel)
    · intro h; exact h.1 lit_close
theorem isT_text (t : Tr) : isT t.cs ["tree"] = true := by
  have := isT_tree t [] []
  rw [List.append_nil] at this
  rw [this]; rfl
theorem tr_len {t : Tr} (h : t.size ≤ 2000) : t.cs.length ≤ 6001 := by rw [Tr.cs_length, Tr.len_size]; omega
theorem ok_check_tree (T : Txt w K mg) : FnOk P w K mg base (L2.CX P w) 3 T.a_check_tree T.fd_check_tree ["value"] (sp_check_tree T) := by
  refine T.F_check_tree.okX sc_check_tree (fun vs H Q E h => ?_) (fun cdv A outer s H vs Q E hr h => ?_)
  · obtain ⟨v, rfl, _⟩ := h; rfl
  obtain ⟨v, rfl, h⟩ := h
  refine ⟨_, (pss_one (ps_if (pt_not (pt_val (pe_call (ok_is_tree T) (hr.mono (by first | decide | omega)) (by rfl) T.m_is_tree T.F_is_tree.kp T.b_is_tree .nil pass0 (pa_cons (pv 0) pa_nil)))) (pss_one (ps_raise rfl (takes_of rfl rfl rfl rfl) (pmk_err T.o_InvalidTree (hr.mono (by first | decide | omega)) (by rfl) (pv 0)))) pss_nil)), ?_⟩
  simp only [cxOf_K, tAsg2, tYes, wipe, tSeq, tIfS, tNot, tB, tCB, tCons, tNil, tVar, tC, tTest, tOp, tAnd, tOr, tAsg, gName, tRet, tRetN, tDrop, tNext, tIf, tCall, tTup, tLst, tNotV, tAndV, tOrV, tUn, rI0, rI, rU, rEq, rNe, tM1, tM0, tBM, tBM0, tSl, tPart, tNoPart, iStr, iEnumS, iRng1, iRng2, iList, gSub, tBits, tAug, tPar, L2.start, List.map_cons, List.map_nil, List.length_cons, List.length_nil, List.getElem?_cons_zero, List.getElem?_cons_succ, List.cons_append, List.nil_append, List.append_nil, List.set_cons_zero, List.set_cons_succ, List.replicate_succ, List.replicate_zero, Option.some.injEq, exists_eq_left', V.int.injEq, V.str.injEq, V.ref.injEq, V.bl.injEq, exists_and_left, exists_eq_left, List.cons.injEq, and_true, true_and, tCallX, tRs]
  rcases h with ⟨t, rfl, ht, q⟩ | ⟨nt, out⟩
  · refine ⟨_, rfl, .inl ⟨_, rfl, by rw [S_len]; have := tr_len ht; omega, fun H' s0 => ?_⟩⟩
    refine ⟨true, by rw [← isT_text t], ?_⟩
    exact iteF (q _ s0)
  · rcases nt with ⟨x, rfl, hx, e⟩ | ns
    · refine ⟨_, rfl, .inl ⟨x, rfl, hx, fun H' s0 => ⟨false, by rw [e], ?_⟩⟩⟩
      rw [if_pos (show (!false) = true from rfl)]
      exact fun d H2 s2 n e2 => out d H2 (s0.trans s2) (s0.free n) e2
    · refine ⟨v, rfl, .inr ⟨ns, false, rfl, ?_⟩⟩
      rw [if_pos (show (!false) = true from rfl)]
      exact out

theorem isA_count : ∀ a : List Nat, a.count 108 + a.count 114 ≤ a.length ∧ (isA a = true ↔ a.count 108 + a.count 114 = a.length)
  | [] => ⟨Nat.le_refl _, by simp [isA]⟩
  | c :: a => by
    obtain ⟨h1, h2⟩ := isA_count a
    have e : isA (c :: a) = ((c == 108 || c == 114) && isA a) := rfl
    rw [e, List.count_cons, List.count_cons, List.length_cons]
    by_cases h : c = 108
    · subst h
      rw [show ((108 : Nat) == 108) = true from rfl, show ((108 : Nat) == 114) = false from rfl, Bool.true_or, Bool.true_and, h2]
      simp
      omega
    · by_cases h' : c = 114
      · subst h'
        rw [show ((114 : Nat) == 108) = false from rfl, show ((114 : Nat) == 114) = true from rfl, Bool.or_true, Bool.true_and, h2]
        simp
        omega
      · have e1 : (c == 108) = false := by simp [h]
        have e2 : (c == 114) = false := by simp [h']
        rw [e1, e2]
        simp
        omega
theorem isA_dec (a : List Nat) : decide (((a.count 108 : Nat) : Int) + ((a.count 114 : Nat) : Int) = ((a.length : Nat) : Int)) = isA a := by
  obtain ⟨_, h⟩ := isA_count a
  cases e : isA a with
  | true => exact decide_eq_true (by have := h.mp e; omega)
  | false => exact decide_eq_false (fun z => by rw [h.mpr (by omega)] at e; cases e)
theorem ok_is_address (T : Txt w K mg) : FnOk P w K mg base CX0 1 T.a_is_address T.fd_is_address ["value"] (sp_is_address K) := by
  refine T.F_is_address.ok sc_is_address (fun vs H Q E h => ?_) (fun cdv A outer s H vs Q E hr h => ?_)
  · obtain ⟨v, rfl, _⟩ := h; rfl
  obtain ⟨v, rfl, h⟩ := h
  refine ⟨_, (pss_one (ps_ret (pe_and (pe_callB call_isi (by rfl) T.z_isinstance (by decide +kernel) (pa_cons (pv 0) (pa_cons (pe_bltn (v := .ty "str") (by rfl) T.z_str (by decide +kernel) rfl) pa_nil))) (pe_one (pe_cmpR op_eq (pe_op op_add (pe_m1 PySem.F.slot_str_count PySem.F.type_str_count mt_count (pv 0) pe_str) (pe_m1 PySem.F.slot_str_count PySem.F.type_str_count mt_count (pv 0) pe_str)) (pe_callB call_len_str (by rfl) T.z_len PySem.boot_len (pa_cons (pv 0) pa_nil)) (nomark _)))))), ?_⟩
  simp only [cxOf_K, tAsg2, tYes, wipe, tSeq, tIfS, tNot, tB, tCB, tCons, tNil, tVar, tC, tTest, tOp, tAnd, tOr, tAsg, gName, tRet, tRetN, tDrop, tNext, tIf, tCall, tTup, tLst, tNotV, tAndV, tOrV, tUn, rI0, rI, rU, rEq, rNe, tM1, tM0, tBM, tBM0, tSl, tPart, tNoPart, iStr, iEnumS, iRng1, iRng2, iList, gSub, tBits, tAug, tPar, L2.start, List.map_cons, List.map_nil, List.length_cons, List.length_nil, List.getElem?_cons_zero, List.getElem?_cons_succ, List.cons_append, List.nil_append, List.append_nil, List.set_cons_zero, List.set_cons_succ, List.replicate_succ, List.replicate_zero, Option.some.injEq, exists_eq_left', V.int.injEq, V.str.injEq, V.ref.injEq, V.bl.injEq, exists_and_left, exists_eq_left, List.cons.injEq, and_true, true_and, tCallX, tRs]
  rcases h with ⟨x, rfl, hx, q⟩ | ⟨⟨t, ht, hk⟩, q⟩
  · refine ⟨_, _, _, _, true, rfl, .ty _, .base (.str _), kit_ty (by decide +kernel), _, rfl, ?_⟩
    rw [if_pos rfl]
    have sl : (S x).length = x.length := S_len x
    refine ⟨⟨_, rfl⟩, S x, rfl, ⟨_, rfl⟩, S x, rfl, S x, rfl, small5 (by omega), rfl, ?_⟩
    rw [show Str.ofString "l" = S [108] by decide +kernel, show Str.ofString "r" = S [114] by decide +kernel, count_S, count_S, sl, isA_dec]
    exact q
  · refine ⟨_, _, _, _, false, rfl, .ty _, ht, hk, _, rfl, ?_⟩
    rw [if_neg Bool.false_ne_true]
    exact q

abbrev nV (n : Nat) : V := .int (n : Nat)
theorem ok_ends (T : Txt w K mg) : FnOk P w K mg base CX0 1 T.a_ends T.fd_ends ["tree"] (sp_ends K) := by
  refine T.F_ends.ok sc_ends (fun vs H Q E h => ?_) (fun cdv A outer s H vs Q E hr h => ?_)
  · obtain ⟨t, rfl, _⟩ := h; rfl
  obtain ⟨t, rfl, ht, q⟩ := h
  have hcl := tr_len ht
  have hS : (S t.cs).length = t.len := by rw [S_len, Tr.cs_length]
  have hsz : (S t.cs).cps.size = t.len := hS
  have htl : t.len ≤ 6001 := by rw [← Tr.cs_length]; exact hcl
  refine ⟨_, (pss_cons (ps_set (i := 1) sc_ends.nd rfl (by first | exact Or.inl rfl | exact Or.inr rfl) (pe_op op_rep (pe_lst (pa_cons pe_int pa_nil)) (pe_callB call_len_str (by rfl) T.z_len PySem.boot_len (pa_cons (pv 0) pa_nil))))
    (pss_cons (ps_set (i := 2) sc_ends.nd rfl (by first | exact Or.inl rfl | exact Or.inr rfl) (pe_lst pa_nil))
    (pss_cons (ps_for PassesOwn.never rfl (pi_enumS (by rfl) T.z_enumerate (pa_cons (pv 0) pa_nil)) (pg_tup rfl (pgs_cons (pg_name (i := 3) sc_ends.nd rfl (by first | exact Or.inl rfl | exact Or.inr rfl)) (pgs_cons (pg_name (i := 4) sc_ends.nd rfl (by first | exact Or.inl rfl | exact Or.inr rfl)) pgs_nil))) (pss_one (ps_if (pt_cmpR op_eq (pv 4) pe_str (nomark _)) (pss_one (ps_expr (pe_bm PySem.F.plainAttrs_list PySem.F.slot_list_append PySem.F.type_list_append mt_append (pv 2) (pa_cons (pv 3) pa_nil)))) (pss_one (ps_if (pt_cmpR op_eq (pv 4) pe_str (nomark _)) (pss_one (ps_asg (pe_op op_add (pv 3) pe_int) (pg_sub (pv 1) (pe_bm0 PySem.F.plainAttrs_list PySem.F.slot_list_pop PySem.F.type_list_pop mt_pop (pv 2)) set_list))) (pss_one (ps_asg (pe_op op_add (pv 3) pe_int) (pg_sub (pv 1) (pv 3) set_list))))))))
    (pss_one (ps_ret (pv 1)))))), ?_⟩
  simp only [cxOf_K, tAsg2, tYes, wipe, tSeq, tIfS, tNot, tB, tCB, tCons, tNil, tVar, tC, tTest, tOp, tAnd, tOr, tAsg, gName, tRet, tRetN, tDrop, tNext, tIf, tCall, tTup, tLst, tNotV, tAndV, tOrV, tUn, rI0, rI, rU, rEq, rNe, tM1, tM0, tBM, tBM0, tSl, tPart, tNoPart, iStr, iEnumS, iRng1, iRng2, iList, gSub, tBits, tAug, tPar, L2.start, List.map_cons, List.map_nil, List.length_cons, List.length_nil, List.getElem?_cons_zero, List.getElem?_cons_succ, List.cons_append, List.nil_append, List.append_nil, List.set_cons_zero, List.set_cons_succ, List.replicate_succ, List.replicate_zero, Option.some.injEq, exists_eq_left', V.int.injEq, V.str.injEq, V.ref.injEq, V.bl.injEq, exists_and_left, exists_eq_left, List.cons.injEq, and_true, true_and, tCallX, tRs]
  refine ⟨by decide, fun z hz => ?_⟩
  refine ⟨by rw [hS]; exact small5 (by omega), z, _, [.int 0], rfl, rfl, upd_same, by omega, by rw [hS]; omega, by rw [hS]; simp; exact small5 (by omega), fun p hp => ?_⟩
  refine ⟨by decide, fun g hg => ?_⟩
  have npz : p ≠ z := fun e => by rw [e, upd_same] at hp; cases hp
  have hp0 : H p = none := by rw [upd_ne npz] at hp; exact hp
  have ngp : g ≠ p := fun e => by rw [e, upd_same] at hg; cases hg
  have hg0 : H g = none := by
    rw [upd_ne ngp] at hg
    by_cases e : g = z
    · rw [e]; exact hz
    · rw [upd_ne e] at hg; exact hg
  have hb : (List.replicate ((S t.cs).length : Int).toNat [V.int 0]).flatten = (List.replicate t.len 0).map nV := by
    rw [hS, Int.toNat_natCast]
    induction t.len with
    | zero => rfl
    | succ n ih => rw [List.replicate_succ, List.flatten_cons, ih, List.replicate_succ, List.map_cons]; rfl
  rw [hb]
  refine ⟨_, rfl, _, rfl, for_enumS (fun i σ H' => ∃ (b st : List Nat) (a3 a4 : Option V), σ = [some (trV t), some (.ref p), some (.ref g), a3, a4] ∧ Same H H' ∧ H' p = some (.lst (b.map nV)) ∧ H' g = some (.lst (st.reverse.map nV)) ∧
      endsRun (t.cs.drop i) i b st = some (Tr.ends 0 t) ∧ b.length = t.len ∧ st.length ≤ i) ⟨List.replicate t.len 0, [], none, none, rfl, (((L2.Same.refl H).new hz _).new hp0 _).new hg0 _, ?_, upd_same, ?_, ?_, ?_⟩ ?_ ?_⟩
  · rw [upd_ne ngp.symm, upd_same]
  · rw [List.drop_zero]; exact endsRun_text t
  · simp
  · simp
  · rintro i c σ H' d hc ⟨b, st, a3, a4, rfl, s0, h1, h2, he, hbl, hst⟩ hd
    have hi : i < t.len := by rw [← hsz]; exact (Array.getElem?_eq_some_iff.mp hc).1
    have hd' : t.cs.drop i = c :: t.cs.drop (i + 1) := by
      rw [List.drop_eq_getElem_cons (by rw [Tr.cs_length]; exact hi)]
      congr 1
      have := (Array.getElem?_eq_some_iff.mp hc).2
      simpa using this
    rw [hd'] at he
    have n1 : p ≠ d := ne_of_none h1 hd
    have n2 : g ≠ d := ne_of_none h2 hd
    have h1' : upd H' d (.tup [.int (i : Nat), .str ⟨#[c]⟩]) p = some (.lst (b.map nV)) := by rw [upd_ne n1]; exact h1
    have h2' : upd H' d (.tup [.int (i : Nat), .str ⟨#[c]⟩]) g = some (.lst (st.reverse.map nV)) := by rw [upd_ne n2]; exact h2
    refine ⟨d, _, rfl, SqT.of upd_same, rfl, _, _, rfl, _, _, rfl, rfl, ?_⟩
    have s1 := s0.new (s0.free hd) (.tup [.int (i : Nat), .str ⟨#[c]⟩])
    generalize upd H' d (.tup [.int (i : Nat), .str ⟨#[c]⟩]) = H' at h1' h2' s1 ⊢
    simp only [cxOf_K, tAsg2, tYes, wipe, tSeq, tIfS, tNot, tB, tCB, tCons, tNil, tVar, tC, tTest, tOp, tAnd, tOr, tAsg, gName, tRet, tRetN, tDrop, tNext, tIf, tCall, tTup, tLst, tNotV, tAndV, tOrV, tUn, rI0, rI, rU, rEq, rNe, tM1, tM0, tBM, tBM0, tSl, tPart, tNoPart, iStr, iEnumS, iRng1, iRng2, iList, gSub, tBits, tAug, tPar, L2.start, List.map_cons, List.map_nil, List.length_cons, List.length_nil, List.getElem?_cons_zero, List.getElem?_cons_succ, List.cons_append, List.nil_append, List.append_nil, List.set_cons_zero, List.set_cons_succ, List.replicate_succ, List.replicate_zero, Option.some.injEq, exists_eq_left', V.int.injEq, V.str.injEq, V.ref.injEq, V.bl.injEq, exists_and_left, exists_eq_left, List.cons.injEq, and_true, true_and, tCallX, tRs]
    refine ⟨rfl, ?_⟩
    rcases endsRun_step he with ⟨rfl, he'⟩ | ⟨rfl, o, st', rfl, ho, he'⟩ | ⟨c1, c2, hk, he'⟩
    · refine ifdT (sg_eq lit_open) ?_
      refine ⟨tyV_lst h2', g, _, _, rfl, rfl, h2', by simp; exact small5' (by omega), ?_⟩
      refine ⟨b, i :: st, _, _, ⟨rfl, rfl⟩, s1.new hg0 _, ?_, ?_, he', hbl, by simp; omega⟩
      · rw [upd_ne ngp.symm]; exact h1'
      · rw [upd_same]; simp
    · refine ifdF (sg_ne lit_open (by decide)) ?_
      refine ⟨rfl, ?_⟩
      refine ifdT (sg_eq lit_close) ?_
      refine ⟨tyV_lst h2', g, _, nV o, rfl, rfl, h2', by simp, ?_⟩
      have hdl : (List.map nV (o :: st').reverse).dropLast = st'.reverse.map nV := by simp
      rw [hdl]
      refine ⟨p, b.map nV, (o : Int), o, rfl, rfl, by rw [upd_ne ngp.symm]; exact h1', by rw [List.length_map]; exact ixN_nat ho, ?_⟩
      refine ⟨b.set o (i + 1), st', _, _, ⟨rfl, rfl⟩, (s1.new hg0 _).new hp0 _, ?_, ?_, he', by rw [List.length_set]; exact hbl, by simp at hst; omega⟩
      · rw [upd_same, List.map_set]; rfl
      · rw [upd_ne ngp, upd_same]
    · refine ifdF (sg_ne lit_open c1) ?_
      refine ⟨rfl, ?_⟩
      refine ifdF (sg_ne lit_close c2) ?_
      refine ⟨p, b.map nV, (i : Int), i, rfl, rfl, h1', by rw [List.length_map]; exact ixN_nat hk, ?_⟩
      refine ⟨b.set i (i + 1), st, _, _, ⟨rfl, rfl⟩, s1.new hp0 _, ?_, ?_, he', by rw [List.length_set]; exact hbl, by omega⟩
      · rw [upd_same, List.map_set]; rfl
      · rw [upd_ne ngp]; exact h2'
  · rintro σ H' ⟨b, st, a3, a4, rfl, s0, h1, h2, he, hbl, hst⟩
    rw [hsz, List.drop_eq_nil_of_le (by rw [Tr.cs_length]; exact Nat.le_refl _)] at he
    have he : (if st = [] then some b else none) = some (Tr.ends 0 t) := he
    simp only [cxOf_K, tAsg2, tYes, wipe, tSeq, tIfS, tNot, tB, tCB, tCons, tNil, tVar, tC, tTest, tOp, tAnd, tOr, tAsg, gName, tRet, tRetN, tDrop, tNext, tIf, tCall, tTup, tLst, tNotV, tAndV, tOrV, tUn, rI0, rI, rU, rEq, rNe, tM1, tM0, tBM, tBM0, tSl, tPart, tNoPart, iStr, iEnumS, iRng1, iRng2, iList, gSub, tBits, tAug, tPar, L2.start, List.map_cons, List.map_nil, List.length_cons, List.length_nil, List.getElem?_cons_zero, List.getElem?_cons_succ, List.cons_append, List.nil_append, List.append_nil, List.set_cons_zero, List.set_cons_succ, List.replicate_succ, List.replicate_zero, Option.some.injEq, exists_eq_left', V.int.injEq, V.str.injEq, V.ref.injEq, V.bl.injEq, exists_and_left, exists_eq_left, List.cons.injEq, and_true, true_and, tCallX, tRs]
    by_cases hs : st = []
    · rw [if_pos hs] at he
      have : b = Tr.ends 0 t := Option.some.inj he
      subst this
      exact q p H' hp0 s0 h1
    · rw [if_neg hs] at he; cases he

theorem tat_sub : ∀ (s : Tr) (T : Tr) (o : Nat) (a : List Nat) (r : Tr), Tr.Sub T o s → tat s a = some r → Tr.Sub T (o + offs s a) r
  | s, T, o, [], r, h, e => by
    have e' : tat s [] = some s := by cases s <;> rfl
    rw [e'] at e
    cases e
    have e2 : offs s [] = 0 := by cases s <;> rfl
    rw [e2]
    exact h
  | .leaf, T, o, c :: a, r, h, e => by cases e
  | .node l rr, T, o, c :: a, r, h, e => by
    have e1 : tat (.node l rr) (c :: a) = if c = 108 then tat l a else tat rr a := rfl
    have e2 : offs (.node l rr) (c :: a) = if c = 108 then 1 + offs l a else 1 + l.len + offs rr a := rfl
    rw [e1] at e
    rw [e2]
    by_cases hc : c = 108
    · rw [if_pos hc] at e ⊢
      have := tat_sub l T (o + 1) a r h.left e
      rw [← Nat.add_assoc]
      exact this
    · rw [if_neg hc] at e ⊢
      have := tat_sub rr T (o + 1 + l.len) a r h.right e
      rw [← Nat.add_assoc, ← Nat.add_assoc]
      exact this
theorem tat_nil (t : Tr) : tat t [] = some t := by cases t <;> rfl
theorem offs_nil (t : Tr) : offs t [] = 0 := by cases t <;> rfl
theorem Sub.sign {T s : Tr} {o : Nat} (h : Tr.Sub T o s) : T.cs[o]? = some (s.cs.headD 0) := by
  obtain ⟨A, B, e, hl⟩ := h.cut
  rw [e, ← hl, List.getElem?_append_right (Nat.le_refl _), Nat.sub_self]
  cases s <;> rfl
theorem ok_stretch (T : Txt w K mg) : FnOk P w K mg base CX0 3 T.a_stretch T.fd_stretch ["tree", "address"] (sp_stretch K) := by
  refine T.F_stretch.ok sc_stretch (fun vs H Q E h => ?_) (fun cdv A outer s H vs Q E hr h => ?_)
  · obtain ⟨t, a, rfl, _⟩ := h; rfl
  obtain ⟨t, a, rfl, ht, ha, qn, qs⟩ := h
  refine ⟨_, (pss_cons (ps_set (i := 2) sc_stretch.nd rfl (by first | exact Or.inl rfl | exact Or.inr rfl) (pe_call (ok_ends T) (hr.mono (by first | decide | omega)) (by rfl) T.m_ends T.F_ends.kp T.b_ends .nil pass0 (pa_cons (pv 0) pa_nil)))
    (pss_cons (ps_set (i := 3) sc_stretch.nd rfl (by first | exact Or.inl rfl | exact Or.inr rfl) pe_int)
    (pss_cons (ps_for PassesOwn.never rfl (pi_str (pv 1)) (pg_name (i := 4) sc_stretch.nd rfl (by first | exact Or.inl rfl | exact Or.inr rfl)) (pss_cons (ps_if (pt_cmpR op_eq (pe_ix ix_str (pv 0) (pv 3) (fun _ _ => rfl)) pe_str (nomark _)) (pss_one (ps_ret pe_non)) pss_nil)
    (pss_one (ps_set (i := 3) sc_stretch.nd rfl (by first | exact Or.inl rfl | exact Or.inr rfl) (pe_ifExp (pt_cmpR op_eq (pv 4) pe_str (nomark _)) (pe_op op_add (pv 3) pe_int) (pe_ix ix_list (pv 2) (pe_op op_add (pv 3) pe_int) (fun _ _ => rfl)))))))
    (pss_one (ps_ret (pe_tup (pa_cons (pv 3) (pa_cons (pe_ix ix_list (pv 2) (pv 3) (fun _ _ => rfl)) pa_nil)))))))), ?_⟩
  simp only [cxOf_K, tAsg2, tYes, wipe, tSeq, tIfS, tNot, tB, tCB, tCons, tNil, tVar, tC, tTest, tOp, tAnd, tOr, tAsg, gName, tRet, tRetN, tDrop, tNext, tIf, tCall, tTup, tLst, tNotV, tAndV, tOrV, tUn, rI0, rI, rU, rEq, rNe, tM1, tM0, tBM, tBM0, tSl, tPart, tNoPart, iStr, iEnumS, iRng1, iRng2, iList, gSub, tBits, tAug, tPar, L2.start, List.map_cons, List.map_nil, List.length_cons, List.length_nil, List.getElem?_cons_zero, List.getElem?_cons_succ, List.cons_append, List.nil_append, List.append_nil, List.set_cons_zero, List.set_cons_succ, List.replicate_succ, List.replicate_zero, Option.some.injEq, exists_eq_left', V.int.injEq, V.str.injEq, V.ref.injEq, V.bl.injEq, exists_and_left, exists_eq_left, List.cons.injEq, and_true, true_and, tCallX, tRs]
  have cl := tr_len ht
  have tl := Tr.cs_length t
  refine ⟨t, rfl, ht, fun p H1 np s1 hp => ?_⟩
  refine ⟨_, rfl, S a, rfl, for_str (fun i σ H' => H' = H1 ∧ ∃ (o : Nat) (r : Tr) (a4 : Option V), σ = [some (trV t), some (sV a), some (.ref p), some (.int (o : Nat)), a4] ∧ Tr.Sub t o r ∧ tat r (a.drop i) = tat t a ∧ (∀ z, tat r (a.drop i) = some z → o + offs r (a.drop i) = offs t a)) ⟨rfl, 0, t, none, rfl, .root, by rw [List.drop_zero], fun z hz => by rw [List.drop_zero, Nat.zero_add]⟩ ?_ ?_⟩
  · rintro i c σ H' hi ⟨rfl, o, r, a4, rfl, su, et, eo⟩
    have hil : i < (S a).length := (Array.getElem?_eq_some_iff.mp hi).1
    rw [S_len] at hil
    have hd : a[i]? = some c := by
      have := (Array.getElem?_eq_some_iff.mp hi).2
      rw [List.getElem?_eq_some_iff]
      exact ⟨hil, by simpa using this⟩
    have ed : a.drop i = c :: a.drop (i + 1) := by
      rw [List.drop_eq_getElem_cons hil]
      rw [(List.getElem?_eq_some_iff.mp hd).2]
    rw [ed] at et eo
    have so := Sub.sign su
    have sle := su.le
    simp only [cxOf_K, tAsg2, tYes, wipe, tSeq, tIfS, tNot, tB, tCB, tCons, tNil, tVar, tC, tTest, tOp, tAnd, tOr, tAsg, gName, tRet, tRetN, tDrop, tNext, tIf, tCall, tTup, tLst, tNotV, tAndV, tOrV, tUn, rI0, rI, rU, rEq, rNe, tM1, tM0, tBM, tBM0, tSl, tPart, tNoPart, iStr, iEnumS, iRng1, iRng2, iList, gSub, tBits, tAug, tPar, L2.start, List.map_cons, List.map_nil, List.length_cons, List.length_nil, List.getElem?_cons_zero, List.getElem?_cons_succ, List.cons_append, List.nil_append, List.append_nil, List.set_cons_zero, List.set_cons_succ, List.replicate_succ, List.replicate_zero, Option.some.injEq, exists_eq_left', V.int.injEq, V.str.injEq, V.ref.injEq, V.bl.injEq, exists_and_left, exists_eq_left, List.cons.injEq, and_true, true_and, tCallX, tRs]
    have sg : (({ cps := #[c] } : Str) = S [c]) := rfl
    rw [sg]
    have sc : (S t.cs).cps.toList = t.cs := by simp
    refine ⟨S t.cs, (o : Nat), r.cs.headD 0, rfl, rfl, small5 (by rw [S_len]; omega), by rw [sc]; exact atI_nat so, rfl, ?_⟩
    have si : ∀ x y : Nat, (S [x] = S [y]) ↔ x = y := fun x y => ⟨fun z => by have := S_inj z; simpa using this, fun z => by rw [z]⟩
    have sd : (({ cps := #[r.cs.headD 0] } : Str) = S [r.cs.headD 0]) := rfl
    rw [sd, lit_dot, show Str.ofString "l" = S [108] by decide +kernel]
    cases r with
    | leaf =>
      refine ifdT rfl ?_
      refine qn ?_ _ s1
      rw [← et]
      rfl
    | node l rr =>
      refine ifdF (fun z => ?_) ⟨rfl, ?_⟩
      · have := (si _ _).mp (V.str.inj z)
        have h40 : (Tr.node l rr).cs.headD 0 = 40 := rfl
        rw [h40] at this
        exact absurd this (by decide)
      have e1 : tat (.node l rr) (c :: a.drop (i + 1)) = if c = 108 then tat l (a.drop (i + 1)) else tat rr (a.drop (i + 1)) := rfl
      have e2 : offs (.node l rr) (c :: a.drop (i + 1)) = if c = 108 then 1 + offs l (a.drop (i + 1)) else 1 + l.len + offs rr (a.drop (i + 1)) := rfl
      rw [e1] at et
      rw [e1, e2] at eo
      by_cases hc : c = 108
      · rw [if_pos hc] at et
        rw [if_pos hc, if_pos hc] at eo
        refine ifdT ((si _ _).mpr hc) ⟨rfl, o + 1, l, _, ⟨by omega, rfl⟩, su.left, et, fun z hz => ?_⟩
        have := eo z hz
        omega
      · rw [if_neg hc] at et
        rw [if_neg hc, if_neg hc] at eo
        refine ifdF (fun z => hc ((si _ _).mp z)) ?_
        have he := su.left.end_get
        refine ⟨p, _, _, _, rfl, rfl, SqL.of hp, ?_, rfl, o + 1 + l.len, rr, _, ⟨rfl, rfl⟩, su.right, et, fun z hz => ?_⟩
        · rw [show (o : Int) + 1 = ((o + 1 : Nat) : Int) by omega]
          exact atI_nat (by rw [List.getElem?_map, he]; rfl)
        · have := eo z hz
          omega
  · rintro σ H' ⟨rfl, o, r, a4, rfl, su, et, eo⟩
    have e : a.drop (S a).cps.size = [] := List.drop_eq_nil_of_le (by simp)
    rw [e, tat_nil] at et
    rw [e, tat_nil, offs_nil] at eo
    have eo := eo r rfl
    simp only [cxOf_K, tAsg2, tYes, wipe, tSeq, tIfS, tNot, tB, tCB, tCons, tNil, tVar, tC, tTest, tOp, tAnd, tOr, tAsg, gName, tRet, tRetN, tDrop, tNext, tIf, tCall, tTup, tLst, tNotV, tAndV, tOrV, tUn, rI0, rI, rU, rEq, rNe, tM1, tM0, tBM, tBM0, tSl, tPart, tNoPart, iStr, iEnumS, iRng1, iRng2, iList, gSub, tBits, tAug, tPar, L2.start, List.map_cons, List.map_nil, List.length_cons, List.length_nil, List.getElem?_cons_zero, List.getElem?_cons_succ, List.cons_append, List.nil_append, List.append_nil, List.set_cons_zero, List.set_cons_succ, List.replicate_succ, List.replicate_zero, Option.some.injEq, exists_eq_left', V.int.injEq, V.str.injEq, V.ref.injEq, V.bl.injEq, exists_and_left, exists_eq_left, List.cons.injEq, and_true, true_and, tCallX, tRs]
    have he := su.end_get
    refine ⟨p, _, _, _, rfl, rfl, SqL.of hp, atI_nat (by rw [List.getElem?_map, he]; rfl), by decide, fun p2 np2 => ?_⟩
    refine qs r et.symm p2 _ (s1.free np2) (s1.new (s1.free np2) _) ?_
    rw [upd_same, ← eo]
    rfl

theorem tat_cut : ∀ (t : Tr) (a : List Nat) (s : Tr), tat t a = some s → ∃ A B, t.cs = A ++ (s.cs ++ B) ∧ A.length = offs t a ∧ ∀ x : Tr, (put t a x).cs = A ++ (x.cs ++ B)
  | t, [], s, e => by
    rw [tat_nil] at e
    cases e
    exact ⟨[], [], by simp, by rw [offs_nil]; rfl, fun x => by
      have : put t [] x = x := by cases t <;> rfl
      rw [this]; simp⟩
  | .leaf, c :: a, s, e => by cases e
  | .node l r, c :: a, s, e => by
    have e1 : tat (.node l r) (c :: a) = if c = 108 then tat l a else tat r a := rfl
    have e2 : offs (.node l r) (c :: a) = if c = 108 then 1 + offs l a else 1 + l.len + offs r a := rfl
    have e3 : ∀ x, put (.node l r) (c :: a) x = if c = 108 then .node (put l a x) r else .node l (put r a x) := fun _ => rfl
    rw [e1] at e
    rw [e2]
    by_cases hc : c = 108
    · rw [if_pos hc] at e ⊢
      obtain ⟨A, B, h1, h2, h3⟩ := tat_cut l a s e
      refine ⟨40 :: A, B ++ (r.cs ++ [41]), ?_, by simp [h2]; omega, fun x => ?_⟩
      · show 40 :: (l.cs ++ (r.cs ++ [41])) = _
        rw [h1]; simp
      · rw [e3, if_pos hc]
        show 40 :: ((put l a x).cs ++ (r.cs ++ [41])) = _
        rw [h3]; simp
    · rw [if_neg hc] at e ⊢
      obtain ⟨A, B, h1, h2, h3⟩ := tat_cut r a s e
      refine ⟨40 :: (l.cs ++ A), B ++ [41], ?_, by simp [h2, Tr.cs_length]; omega, fun x => ?_⟩
      · show 40 :: (l.cs ++ (r.cs ++ [41])) = _
        rw [h1]; simp
      · rw [e3, if_neg hc]
        show 40 :: (l.cs ++ ((put r a x).cs ++ [41])) = _
        rw [h3]; simp
theorem cutS_mid (cs : List Nat) (i j : Nat) (h : i ≤ j) (hj : j ≤ cs.length) : cutS (S cs) (some (i : Int)) (some (j : Int)) = S ((cs.drop i).take (j - i)) := by
  have e : (S cs).length = cs.length := S_len cs
  have e2 : (S cs).cps.toList = cs := by simp
  unfold cutS
  rw [e, e2, HT.sIx_nat, HT.sIx_nat, Nat.min_eq_left hj, Nat.min_eq_left (Nat.le_trans h hj)]
theorem cutS_head (cs : List Nat) (i : Nat) (h : i ≤ cs.length) : cutS (S cs) none (some (i : Int)) = S (cs.take i) := by
  have e : (S cs).length = cs.length := S_len cs
  have e2 : (S cs).cps.toList = cs := by simp
  unfold cutS
  rw [HT.sIx_none, e, e2, HT.sIx_nat, Nat.min_eq_left h, List.drop_zero, Nat.sub_zero]
theorem cutS_tail (cs : List Nat) (i : Nat) (h : i ≤ cs.length) : cutS (S cs) (some (i : Int)) none = S (cs.drop i) := by
  have e : (S cs).length = cs.length := S_len cs
  have e2 : (S cs).cps.toList = cs := by simp
  unfold cutS
  rw [HT.sIx_none, e, e2, HT.sIx_nat, Nat.min_eq_left h]
  refine congrArg S ?_
  exact List.take_of_length_le (by rw [List.length_drop]; omega)
theorem cutS_last (cs : List Nat) (i : Nat) (h : i + 1 ≤ cs.length) : cutS (S cs) (some (i : Int)) (some (-1)) = S ((cs.drop i).take (cs.length - 1 - i)) := by
  have e : (S cs).length = cs.length := S_len cs
  have e2 : (S cs).cps.toList = cs := by simp
  have e3 : HT.sIx cs.length cs.length (some (-1)) = cs.length - 1 := by
    show (if (-1 : Int) < 0 then ((-1 : Int) + (cs.length : Int)).toNat else min (-1 : Int).toNat cs.length) = _
    rw [if_pos (by decide)]
    omega
  unfold cutS
  rw [e, e2, HT.sIx_nat, e3, Nat.min_eq_left (by omega)]

theorem ok_halves (T : Txt w K mg) : FnOk P w K mg base CX0 4 T.a_halves T.fd_halves ["tree"] (sp_halves K) := by
  refine T.F_halves.ok sc_halves (fun vs H Q E h => ?_) (fun cdv A outer s H vs Q E hr h => ?_)
  · obtain ⟨l, r, rfl, _⟩ := h; rfl
  obtain ⟨l, r, rfl, ht, q⟩ := h
  refine ⟨_, (pss_cons (ps_set (i := 1) sc_halves.nd rfl (by first | exact Or.inl rfl | exact Or.inr rfl) (pe_ix ix_list (pe_call (ok_ends T) (hr.mono (by first | decide | omega)) (by rfl) T.m_ends T.F_ends.kp T.b_ends .nil pass0 (pa_cons (pv 0) pa_nil)) pe_int (fun _ _ => rfl)))
    (pss_one (ps_ret (pe_tup (pa_cons (pe_slice sl_str (pv 0) (po_some pe_int) (po_some (pv 1))) (pa_cons (pe_slice sl_str (pv 0) (po_some (pv 1)) (po_some (pe_un un_neg pe_int))) pa_nil)))))), ?_⟩
  simp only [gCons, gNil, cxOf_K, tAsg2, tYes, wipe, tSeq, tIfS, tNot, tB, tCB, tCons, tNil, tVar, tC, tTest, tOp, tAnd, tOr, tAsg, gName, tRet, tRetN, tDrop, tNext, tIf, tCall, tTup, tLst, tNotV, tAndV, tOrV, tUn, rI0, rI, rU, rEq, rNe, tM1, tM0, tBM, tBM0, tSl, tPart, tNoPart, iStr, iEnumS, iRng1, iRng2, iList, gSub, tBits, tAug, tPar, L2.start, List.map_cons, List.map_nil, List.length_cons, List.length_nil, List.getElem?_cons_zero, List.getElem?_cons_succ, List.cons_append, List.nil_append, List.append_nil, List.set_cons_zero, List.set_cons_succ, List.replicate_succ, List.replicate_zero, Option.some.injEq, exists_eq_left', V.int.injEq, V.str.injEq, V.ref.injEq, V.bl.injEq, exists_and_left, exists_eq_left, List.cons.injEq, and_true, true_and, tCallX, tRs]
  have cl := tr_len ht
  have ll := Tr.cs_length l
  have lr := Tr.cs_length r
  have ct : (Tr.node l r).cs = 40 :: (l.cs ++ (r.cs ++ [41])) := by simp [Tr.cs]
  have cn : (Tr.node l r).cs.length = l.len + r.len + 2 := by rw [ct]; simp; omega
  refine ⟨.node l r, rfl, ht, fun p H1 np s1 hp => ?_⟩
  obtain ⟨B, hB⟩ := Tr.ends_head 1 l
  have e1 : (Tr.ends 0 (.node l r))[1]? = some (1 + l.len) := by
    show ((0 + (Tr.node l r).len) :: (Tr.ends (0 + 1) l ++ (Tr.ends (0 + 1 + l.len) r ++ [0])))[1]? = _
    rw [Nat.zero_add 1, hB]
    rfl
  refine ⟨p, _, 1, _, rfl, rfl, SqL.of hp, atI_nat (j := 1) (by rw [List.getElem?_map, e1]; rfl), _, rfl, ?_⟩
  refine ⟨_, rfl, small5 (by rw [S_len]; omega), _, rfl, ?_⟩
  refine ⟨_, rfl, small5 (by rw [S_len]; omega), by decide, fun p2 np2 => ?_⟩
  have c1 := cutS_mid (Tr.node l r).cs 1 (1 + l.len) (by omega) (by omega)
  have c2 := cutS_last (Tr.node l r).cs (1 + l.len) (by omega)
  have d1 : ((Tr.node l r).cs.drop 1).take (1 + l.len - 1) = l.cs := by
    rw [ct, List.drop_succ_cons, List.drop_zero, Nat.add_sub_cancel_left, ← ll, List.take_left]
  have d2 : ((Tr.node l r).cs.drop (1 + l.len)).take ((Tr.node l r).cs.length - 1 - (1 + l.len)) = r.cs := by
    have : (Tr.node l r).cs.length - 1 - (1 + l.len) = r.cs.length := by omega
    rw [this, ct, Nat.add_comm 1, List.drop_succ_cons, ← ll, List.drop_left, List.take_left]
  rw [d1] at c1
  rw [d2] at c2
  refine q p2 _ (s1.free np2) (s1.new (s1.free np2) _) ?_
  rw [upd_same]
  refine congrArg (fun z => some (HO.tup z)) ?_
  exact congr (congrArg _ (congrArg V.str c1)) (congrArg (fun z => [V.str z]) c2)

theorem dotEq (t : Tr) : (S t.cs = Str.ofString ".") ↔ t = .leaf := by
  constructor
  · intro h
    rw [lit_dot] at h
    have h := S_inj h
    cases t with
    | leaf => rfl
    | node l r =>
      have : (Tr.node l r).cs.length = 1 := by rw [h]; rfl
      rw [Tr.cs_length, Tr.len_size] at this
      exact absurd this (by show ¬ 3 * (l.size + r.size + 1) + 1 = 1; omega)
  · rintro rfl
    exact lit_dot.symm
theorem ok_turned_root (T : Txt w K mg) : FnOk P w K mg base CX0 6 T.a_turned_root T.fd_turned_root ["tree", "word"] (sp_turned_root K) := by
  refine T.F_turned_root.ok sc_turned_root (fun vs H Q E h => ?_) (fun cdv A outer s H vs Q E hr h => ?_)
  · obtain ⟨t, w, rfl, _⟩ := h; rfl
  obtain ⟨t, w, rfl, ht, qn, qs⟩ := h
  refine ⟨_, (pss_cons (ps_if (pt_cmpR op_eq (pv 0) pe_str (nomark _)) (pss_one (ps_ret pe_non)) pss_nil)
    (pss_cons (ps_asg (pe_call (ok_halves T) (hr.mono (by first | decide | omega)) (by rfl) T.m_halves T.F_halves.kp T.b_halves .nil pass0 (pa_cons (pv 0) pa_nil)) (pg_tup rfl (pgs_cons (pg_name (i := 2) sc_turned_root.nd rfl (by first | exact Or.inl rfl | exact Or.inr rfl)) (pgs_cons (pg_name (i := 3) sc_turned_root.nd rfl (by first | exact Or.inl rfl | exact Or.inr rfl)) pgs_nil))))
    (pss_cons (ps_if (pw_and (pt_cmpR op_eq (pv 1) pe_str (nomark _)) (pw_and1 (pt_cmpR op_ne (pv 2) pe_str (nomark _)))).pt (pss_cons (ps_asg (pe_call (ok_halves T) (hr.mono (by first | decide | omega)) (by rfl) T.m_halves T.F_halves.kp T.b_halves .nil pass0 (pa_cons (pv 2) pa_nil)) (pg_tup rfl (pgs_cons (pg_name (i := 4) sc_turned_root.nd rfl (by first | exact Or.inl rfl | exact Or.inr rfl)) (pgs_cons (pg_name (i := 5) sc_turned_root.nd rfl (by first | exact Or.inl rfl | exact Or.inr rfl)) pgs_nil))))
    (pss_one (ps_ret (pe_op op_add_str (pe_op op_add_str (pe_op op_add_str (pe_op op_add_str (pe_op op_add_str pe_str (pv 4)) pe_str) (pv 5)) (pv 3)) pe_str)))) pss_nil)
    (pss_cons (ps_if (pw_and (pt_cmpR op_eq (pv 1) pe_str (nomark _)) (pw_and1 (pt_cmpR op_ne (pv 3) pe_str (nomark _)))).pt (pss_cons (ps_asg (pe_call (ok_halves T) (hr.mono (by first | decide | omega)) (by rfl) T.m_halves T.F_halves.kp T.b_halves .nil pass0 (pa_cons (pv 3) pa_nil)) (pg_tup rfl (pgs_cons (pg_name (i := 5) sc_turned_root.nd rfl (by first | exact Or.inl rfl | exact Or.inr rfl)) (pgs_cons (pg_name (i := 4) sc_turned_root.nd rfl (by first | exact Or.inl rfl | exact Or.inr rfl)) pgs_nil))))
    (pss_one (ps_ret (pe_op op_add_str (pe_op op_add_str (pe_op op_add_str (pe_op op_add_str (pe_op op_add_str pe_str (pv 2)) (pv 5)) pe_str) (pv 4)) pe_str)))) pss_nil)
    (pss_one (ps_ret pe_non)))))), ?_⟩
  simp only [gCons, gNil, cxOf_K, tAsg2, tYes, wipe, tSeq, tIfS, tNot, tB, tCB, tCons, tNil, tVar, tC, tTest, tOp, tAnd, tOr, tAsg, gName, tRet, tRetN, tDrop, tNext, tIf, tCall, tTup, tLst, tNotV, tAndV, tOrV, tUn, rI0, rI, rU, rEq, rNe, tM1, tM0, tBM, tBM0, tSl, tPart, tNoPart, iStr, iEnumS, iRng1, iRng2, iList, gSub, tBits, tAug, tPar, L2.start, List.map_cons, List.map_nil, List.length_cons, List.length_nil, List.getElem?_cons_zero, List.getElem?_cons_succ, List.cons_append, List.nil_append, List.append_nil, List.set_cons_zero, List.set_cons_succ, List.replicate_succ, List.replicate_zero, Option.some.injEq, exists_eq_left', V.int.injEq, V.str.injEq, V.ref.injEq, V.bl.injEq, exists_and_left, exists_eq_left, List.cons.injEq, and_true, true_and, tCallX, tRs]
  refine ⟨rfl, ?_⟩
  cases t with
  | leaf =>
    rw [if_pos (decide_eq_true ((dotEq _).mpr rfl))]
    exact qn rfl _ (L2.Same.refl H)
  | node l r =>
    rw [if_neg (by rw [decide_eq_true_eq, dotEq]; intro z; cases z)]
    refine ⟨l, r, rfl, ht, fun p H1 np s1 hp => ?_⟩
    refine ⟨p, _, rfl, SqT.of hp, rfl, _, _, rfl, _, _, rfl, rfl, ?_⟩
    simp only [gCons, gNil, cxOf_K, tAsg2, tYes, wipe, tSeq, tIfS, tNot, tB, tCB, tCons, tNil, tVar, tC, tTest, tOp, tAnd, tOr, tAsg, gName, tRet, tRetN, tDrop, tNext, tIf, tCall, tTup, tLst, tNotV, tAndV, tOrV, tUn, rI0, rI, rU, rEq, rNe, tM1, tM0, tBM, tBM0, tSl, tPart, tNoPart, iStr, iEnumS, iRng1, iRng2, iList, gSub, tBits, tAug, tPar, L2.start, List.map_cons, List.map_nil, List.length_cons, List.length_nil, List.getElem?_cons_zero, List.getElem?_cons_succ, List.cons_append, List.nil_append, List.append_nil, List.set_cons_zero, List.set_cons_succ, List.replicate_succ, List.replicate_zero, Option.some.injEq, exists_eq_left', V.int.injEq, V.str.injEq, V.ref.injEq, V.bl.injEq, exists_and_left, exists_eq_left, List.cons.injEq, and_true, true_and, tCallX, tRs]
    have hs : (Tr.node l r).size = l.size + r.size + 1 := rfl
    have llc : (S l.cs).length = 3 * l.size + 1 := by rw [S_len, Tr.cs_length, Tr.len_size]
    have lrc : (S r.cs).length = 3 * r.size + 1 := by rw [S_len, Tr.cs_length, Tr.len_size]
    have rl : Str.ofString "right" ≠ Str.ofString "left" := by decide +kernel
    refine ⟨rfl, ?_⟩
    have o1 : Str.ofString "(" = S [40] := by decide +kernel
    have o2 : Str.ofString "((" = S [40, 40] := by decide +kernel
    have o3 : Str.ofString ")" = S [41] := by decide +kernel
    have o4 : Str.ofString "))" = S [41, 41] := by decide +kernel
    have tR : turnT (Str.ofString "right") (.node l r) = turnR l r := by unfold turnT; exact if_pos rfl
    have tL : turnT (Str.ofString "left") (.node l r) = turnL l r := by unfold turnT; exact (if_neg rl.symm).trans (if_pos rfl)
    by_cases hw : w = Str.ofString "right"
    · subst hw
      refine ifdT rfl ⟨rfl, ?_⟩
      cases l with
      | leaf => exact ifnF ((dotEq .leaf).mpr rfl) ⟨rfl, ifdF rl (qn tR _ s1)⟩
      | node a b =>
        refine ifnT (fun z => by cases (dotEq _).mp z) ?_
        have hs2 : (Tr.node a b).size = a.size + b.size + 1 := rfl
        have lac : (S a.cs).length = 3 * a.size + 1 := by rw [S_len, Tr.cs_length, Tr.len_size]
        have lbc : (S b.cs).length = 3 * b.size + 1 := by rw [S_len, Tr.cs_length, Tr.len_size]
        refine ⟨a, b, rfl, by omega, fun p2 H2 np2 s2 hp2 => ?_⟩
        refine ⟨p2, _, rfl, SqT.of hp2, rfl, _, _, rfl, _, _, rfl, rfl, ?_⟩
        simp only [cxOf_K, tAsg2, tYes, wipe, tSeq, tIfS, tNot, tB, tCB, tCons, tNil, tVar, tC, tTest, tOp, tAnd, tOr, tAsg, gName, tRet, tRetN, tDrop, tNext, tIf, tCall, tTup, tLst, tNotV, tAndV, tOrV, tUn, rI0, rI, rU, rEq, rNe, tM1, tM0, tBM, tBM0, tSl, tPart, tNoPart, iStr, iEnumS, iRng1, iRng2, iList, gSub, tBits, tAug, tPar, L2.start, List.map_cons, List.map_nil, List.length_cons, List.length_nil, List.getElem?_cons_zero, List.getElem?_cons_succ, List.cons_append, List.nil_append, List.append_nil, List.set_cons_zero, List.set_cons_succ, List.replicate_succ, List.replicate_zero, Option.some.injEq, exists_eq_left', V.int.injEq, V.str.injEq, V.ref.injEq, V.bl.injEq, exists_and_left, exists_eq_left, List.cons.injEq, and_true, true_and, tCallX, tRs]
        rw [o1, o4]
        simp only [S_app, S_len]
        have ca := Tr.cs_length a
        have cb := Tr.cs_length b
        have cc := Tr.cs_length r
        have la := Tr.len_size a
        have lb := Tr.len_size b
        have lc := Tr.len_size r
        simp only [List.length_append, List.length_cons, List.length_nil]
        refine ⟨small5 (by omega), small5 (by omega), small5 (by omega), small5 (by omega), small5 (by omega), ?_⟩
        have e : [40] ++ a.cs ++ [40] ++ b.cs ++ r.cs ++ [41, 41] = (Tr.node a (.node b r)).cs := by simp [Tr.cs]
        rw [e]
        exact qs _ tR _ (s1.trans s2)
    · refine ifdF hw ⟨rfl, ?_⟩
      have tO : w ≠ Str.ofString "left" → turnT w (.node l r) = none := fun z => by unfold turnT; exact (if_neg hw).trans (if_neg z)
      by_cases hl : w = Str.ofString "left"
      · subst hl
        refine ifdT rfl ⟨rfl, ?_⟩
        cases r with
        | leaf => exact ifnF ((dotEq .leaf).mpr rfl) (qn (by rw [tL]; cases l <;> rfl) _ s1)
        | node a b =>
          refine ifnT (fun z => by cases (dotEq _).mp z) ?_
          have hs2 : (Tr.node a b).size = a.size + b.size + 1 := rfl
          refine ⟨a, b, rfl, by omega, fun p2 H2 np2 s2 hp2 => ?_⟩
          refine ⟨p2, _, rfl, SqT.of hp2, rfl, _, _, rfl, _, _, rfl, rfl, ?_⟩
          simp only [cxOf_K, tAsg2, tYes, wipe, tSeq, tIfS, tNot, tB, tCB, tCons, tNil, tVar, tC, tTest, tOp, tAnd, tOr, tAsg, gName, tRet, tRetN, tDrop, tNext, tIf, tCall, tTup, tLst, tNotV, tAndV, tOrV, tUn, rI0, rI, rU, rEq, rNe, tM1, tM0, tBM, tBM0, tSl, tPart, tNoPart, iStr, iEnumS, iRng1, iRng2, iList, gSub, tBits, tAug, tPar, L2.start, List.map_cons, List.map_nil, List.length_cons, List.length_nil, List.getElem?_cons_zero, List.getElem?_cons_succ, List.cons_append, List.nil_append, List.append_nil, List.set_cons_zero, List.set_cons_succ, List.replicate_succ, List.replicate_zero, Option.some.injEq, exists_eq_left', V.int.injEq, V.str.injEq, V.ref.injEq, V.bl.injEq, exists_and_left, exists_eq_left, List.cons.injEq, and_true, true_and, tCallX, tRs]
          rw [o2, o3]
          simp only [S_app, S_len]
          have ca := Tr.cs_length a
          have cb := Tr.cs_length b
          have cc := Tr.cs_length l
          have la := Tr.len_size a
          have lb := Tr.len_size b
          have lc := Tr.len_size l
          simp only [List.length_append, List.length_cons, List.length_nil]
          refine ⟨small5 (by omega), small5 (by omega), small5 (by omega), small5 (by omega), small5 (by omega), ?_⟩
          have e : [40, 40] ++ l.cs ++ a.cs ++ [41] ++ b.cs ++ [41] = (Tr.node (.node l a) b).cs := by simp [Tr.cs]
          rw [e]
          exact qs _ (by rw [tL]; cases l <;> rfl) _ (s1.trans s2)
      · exact ifdF hl (qn (tO hl) _ s1)

theorem turnR_size (l r z : Tr) (h : turnR l r = some z) : z.size = l.size + r.size + 1 := by
  cases l with
  | leaf => cases h
  | node a b =>
    cases h
    show a.size + (b.size + r.size + 1) + 1 = (a.size + b.size + 1) + r.size + 1
    omega
theorem turnL_size (l r z : Tr) (h : turnL l r = some z) : z.size = l.size + r.size + 1 := by
  cases r with
  | leaf => cases l <;> cases h
  | node a b =>
    have h : some (Tr.node (.node l a) b) = some z := by rw [← h]; cases l <;> rfl
    cases h
    show (l.size + a.size + 1) + b.size + 1 = l.size + (a.size + b.size + 1) + 1
    omega
theorem turnT_size (w : Str) (s z : Tr) (h : turnT w s = some z) : z.size = s.size := by
  cases s with
  | leaf => cases h
  | node l r =>
    have h : (if w = Str.ofString "right" then turnR l r else if w = Str.ofString "left" then turnL l r else none) = some z := h
    split at h
    · exact turnR_size l r z h
    · split at h
      · exact turnL_size l r z h
      · cases h
theorem ok_after_step (T : Txt w K mg) : FnOk P w K mg base CX0 8 T.a_after_step T.fd_after_step ["tree", "word", "address"] (sp_after_step K) := by
  refine T.F_after_step.ok sc_after_step (fun vs H Q E h => ?_) (fun cdv A outer s H vs Q E hr h => ?_)
  · obtain ⟨t, w, a, rfl, _⟩ := h; rfl
  obtain ⟨t, w, a, rfl, ht, ha, qn, qs⟩ := h
  refine ⟨_, (pss_cons (ps_set (i := 3) sc_after_step.nd rfl (by first | exact Or.inl rfl | exact Or.inr rfl) (pe_call (ok_stretch T) (hr.mono (by first | decide | omega)) (by rfl) T.m_stretch T.F_stretch.kp T.b_stretch .nil pass0 (pa_cons (pv 0) (pa_cons (pv 2) pa_nil))))
    (pss_cons (ps_if (pt_cmpR op_isN (pv 3) pe_non (nomark _)) (pss_one (ps_ret pe_non)) pss_nil)
    (pss_cons (ps_asg (pv 3) (pg_tup rfl (pgs_cons (pg_name (i := 4) sc_after_step.nd rfl (by first | exact Or.inl rfl | exact Or.inr rfl)) (pgs_cons (pg_name (i := 5) sc_after_step.nd rfl (by first | exact Or.inl rfl | exact Or.inr rfl)) pgs_nil))))
    (pss_cons (ps_set (i := 6) sc_after_step.nd rfl (by first | exact Or.inl rfl | exact Or.inr rfl) (pe_call (ok_turned_root T) (hr.mono (by first | decide | omega)) (by rfl) T.m_turned_root T.F_turned_root.kp T.b_turned_root .nil pass0 (pa_cons (pe_slice sl_str (pv 0) (po_some (pv 4)) (po_some (pv 5))) (pa_cons (pv 1) pa_nil))))
    (pss_one (ps_ret (pe_ifExp (pt_cmpR op_isN (pv 6) pe_non (nomark _)) pe_non (pe_op op_add_str (pe_op op_add_str (pe_slice sl_str (pv 0) po_none (po_some (pv 4))) (pv 6)) (pe_slice sl_str (pv 0) (po_some (pv 5)) po_none))))))))), ?_⟩
  simp only [gCons, gNil, cxOf_K, tAsg2, tYes, wipe, tSeq, tIfS, tNot, tB, tCB, tCons, tNil, tVar, tC, tTest, tOp, tAnd, tOr, tAsg, gName, tRet, tRetN, tDrop, tNext, tIf, tCall, tTup, tLst, tNotV, tAndV, tOrV, tUn, rI0, rI, rU, rEq, rNe, tM1, tM0, tBM, tBM0, tSl, tPart, tNoPart, iStr, iEnumS, iRng1, iRng2, iList, gSub, tBits, tAug, tPar, L2.start, List.map_cons, List.map_nil, List.length_cons, List.length_nil, List.getElem?_cons_zero, List.getElem?_cons_succ, List.cons_append, List.nil_append, List.append_nil, List.set_cons_zero, List.set_cons_succ, List.replicate_succ, List.replicate_zero, Option.some.injEq, exists_eq_left', V.int.injEq, V.str.injEq, V.ref.injEq, V.bl.injEq, exists_and_left, exists_eq_left, List.cons.injEq, and_true, true_and, tCallX, tRs]
  have cl := tr_len ht
  refine ⟨t, a, rfl, ht, ha, fun e H1 s1 => ifdT rfl (qn (by unfold stepT; rw [e]; rfl) _ s1), fun s' e p H1 np s1 hp => ifdF (fun z => by cases z) ?_⟩
  obtain ⟨A, B, h1, h2, h3⟩ := tat_cut t a s' e
  have sl := Tr.cs_length s'
  have ll : t.cs.length = A.length + (s'.cs.length + B.length) := by rw [h1]; simp
  refine ⟨p, _, rfl, SqT.of hp, rfl, _, _, rfl, _, _, rfl, rfl, ?_⟩
  simp only [cxOf_K, tAsg2, tYes, wipe, tSeq, tIfS, tNot, tB, tCB, tCons, tNil, tVar, tC, tTest, tOp, tAnd, tOr, tAsg, gName, tRet, tRetN, tDrop, tNext, tIf, tCall, tTup, tLst, tNotV, tAndV, tOrV, tUn, rI0, rI, rU, rEq, rNe, tM1, tM0, tBM, tBM0, tSl, tPart, tNoPart, iStr, iEnumS, iRng1, iRng2, iList, gSub, tBits, tAug, tPar, L2.start, List.map_cons, List.map_nil, List.length_cons, List.length_nil, List.getElem?_cons_zero, List.getElem?_cons_succ, List.cons_append, List.nil_append, List.append_nil, List.set_cons_zero, List.set_cons_succ, List.replicate_succ, List.replicate_zero, Option.some.injEq, exists_eq_left', V.int.injEq, V.str.injEq, V.ref.injEq, V.bl.injEq, exists_and_left, exists_eq_left, List.cons.injEq, and_true, true_and, tCallX, tRs]
  have e0 : (t.cs.drop (offs t a)).take (offs t a + s'.len - offs t a) = s'.cs := by
    rw [Nat.add_sub_cancel_left, h1, ← h2, List.drop_left, ← sl, List.take_left]
  have e1 : t.cs.take (offs t a) = A := by rw [h1, ← h2, List.take_left]
  have e2 : t.cs.drop (offs t a + s'.len) = B := by
    rw [h1, ← h2, ← sl, ← List.append_assoc, ← List.length_append, List.drop_left]
  have ss : s'.size ≤ 2000 := by
    have := Tr.len_size s'
    have := Tr.len_size t
    have := Tr.cs_length t
    omega
  refine ⟨S t.cs, rfl, small5 (by rw [S_len]; omega), ?_⟩
  rw [cutS_mid t.cs _ _ (by omega) (by omega), e0]
  refine ⟨s', w, rfl, ss, fun en H2 s2 => ifdT rfl (qn (by unfold stepT; rw [e]; show ((turnT w s').map (put t a)) = none; rw [en]; rfl) _ (s1.trans s2)), fun z ez H2 s2 => ifdF (fun z => by cases z) ?_⟩
  have es : stepT w a t = some (put t a z) := by unfold stepT; rw [e]; show ((turnT w s').map (put t a)) = _; rw [ez]; rfl
  have zs : z.cs.length ≤ 6001 := by
    have := turnT_size w s' z ez
    have := Tr.len_size z
    have := Tr.cs_length z
    omega
  refine ⟨S t.cs, rfl, small5 (by rw [S_len]; omega), ?_⟩
  rw [cutS_head t.cs _ (by omega), e1]
  refine ⟨S A, rfl, S z.cs, rfl, small5 (by rw [S_len, S_len]; omega), ?_⟩
  refine ⟨S t.cs, rfl, small5 (by rw [S_len]; omega), ?_⟩
  rw [cutS_tail t.cs _ (by omega), e2]
  refine ⟨S B, rfl, ?_, ?_⟩
  · rw [S_app A z.cs, S_len, S_len, List.length_append]
    exact small5 (by omega)
  · rw [S_app A z.cs, S_app (A ++ z.cs) B]
    have : S (A ++ z.cs ++ B) = S (put t a z).cs := by rw [h3, List.append_assoc]
    rw [this]
    exact qs _ es _ (s1.trans s2)

theorem Tups.same {H H' : Hp} (s : Same H H') : ∀ {vs : List V} {xs : List (List Nat × Nat)}, Tups H vs xs → Tups H' vs xs
  | _, _, .nil => .nil
  | _, _, .cons a b => .cons (s _ _ a) (Tups.same s b)
theorem Tups.keep {H H' : Hp} {g : Addr} {ws : List V} (s : Keep g H H') (hg : H g = some (.lst ws)) : ∀ {vs : List V} {xs : List (List Nat × Nat)}, Tups H vs xs → Tups H' vs xs
  | _, _, .nil => .nil
  | _, _, .cons a b => .cons (s _ _ (ne_of a hg fun z => by cases z) a) (Tups.keep s hg b)
theorem Tups.append {H : Hp} : ∀ {vs : List V} {xs : List (List Nat × Nat)} {us : List V} {ys : List (List Nat × Nat)}, Tups H vs xs → Tups H us ys → Tups H (vs ++ us) (xs ++ ys)
  | _, _, _, _, .nil, b => b
  | _, _, _, _, .cons a c, b => .cons a (Tups.append c b)
theorem Tups.length {H : Hp} : ∀ {vs : List V} {xs : List (List Nat × Nat)}, Tups H vs xs → vs.length = xs.length
  | _, _, .nil => rfl
  | _, _, .cons _ b => congrArg Nat.succ (Tups.length b)
theorem Tups.get {H : Hp} : ∀ {vs : List V} {xs : List (List Nat × Nat)} {i : Nat} {v : V}, Tups H vs xs → vs[i]? = some v → ∃ p x, v = .ref p ∧ xs[i]? = some x ∧ H p = some (.tup [sV x.1, sV [x.2]])
  | _, _, 0, _, .cons a _, h => by
    cases h
    exact ⟨_, _, rfl, rfl, a⟩
  | _, _, i + 1, _, .cons _ b, h => Tups.get (i := i) b h
/-- the walk through the text, the stack's top first -/
def walkA : List Nat → List (List Nat) → List (List Nat × Nat)
  | [], _ => []
  | _ :: _, [] => []
  | c :: cs, a :: st => (a, c) :: walkA cs (if c = 40 then (a ++ [108]) :: (a ++ [114]) :: st else st)
theorem walkA_tree : ∀ (t : Tr) (rest : List Nat) (a : List Nat) (st : List (List Nat)), walkA (t.ps ++ rest) (a :: st) = t.adrs a ++ walkA rest st
  | .leaf, rest, a, st => rfl
  | .node l r, rest, a, st => by
    show (a, 40) :: walkA ((l.ps ++ r.ps) ++ rest) ((a ++ [108]) :: (a ++ [114]) :: st) = _
    rw [List.append_assoc, walkA_tree l, walkA_tree r, ← List.append_assoc]
    rfl
theorem replace_ps (t : Tr) : Txt.replace (S t.cs) (Str.ofString ")") (Str.ofString "") = S t.ps := by
  have h := PyProof.Rows.replace_strikes (S t.cs) 41
  rw [S_of (Txt.replace (S t.cs) (Str.ofString ")") (Str.ofString ""))]
  refine congrArg S ?_
  refine (show _ = ((Txt.replace (S t.cs) ⟨#[41]⟩ ⟨#[]⟩)).cps.toList from rfl).trans (h.trans ?_)
  rw [← Tr.ps_filter t]
theorem ok_addressed (T : Txt w K mg) : FnOk P w K mg base CX0 4 T.a_addressed T.fd_addressed ["tree"] (sp_addressed K) := by
  refine T.F_addressed.ok sc_addressed (fun vs H Q E h => ?_) (fun cdv A outer s H vs Q E hr h => ?_)
  · obtain ⟨t, rfl, _⟩ := h; rfl
  obtain ⟨t, rfl, ht, q⟩ := h
  refine ⟨_, (pss_cons (ps_set (i := 1) sc_addressed.nd rfl (by first | exact Or.inl rfl | exact Or.inr rfl) (pe_lst pa_nil)) (TV.pss_lstT (i := 2) sc_addressed.nd rfl (by first | exact Or.inl rfl | exact Or.inr rfl) (psst_cons (pst_for PassesOwn.never rfl (TV.pit_str (pet_replC (pv 0))) (pg_name (i := 3) sc_addressed.nd rfl (by first | exact Or.inl rfl | exact Or.inr rfl)) (pss_cons (ps_set (i := 4) sc_addressed.nd rfl (by first | exact Or.inl rfl | exact Or.inr rfl) (pe_bm0 PySem.F.plainAttrs_list PySem.F.slot_list_pop PySem.F.type_list_pop mt_pop (pv 2)))
    (pss_cons (ps_expr (pe_bm PySem.F.plainAttrs_list PySem.F.slot_list_append PySem.F.type_list_append mt_append (pv 1) (pa_cons (pe_tup (pa_cons (pv 4) (pa_cons (pv 3) pa_nil))) pa_nil)))
    (pss_one (ps_if (pt_cmpR op_eq (pv 3) pe_str (nomark _)) (pss_one (ps_expr (pe_bm PySem.F.plainAttrs_list PySem.F.slot_list_extend PySem.F.type_list_extend mt_extend (pv 2) (pa_cons (pe_lst (pa_cons (pe_op op_add_str (pv 4) pe_str) (pa_cons (pe_op op_add_str (pv 4) pe_str) pa_nil))) pa_nil)))) pss_nil))))) (PSsT.of (pss_one (ps_ret (pv 1))))))), ?_⟩
  simp only [cxOf_K, tAsg2, tYes, wipe, tSeq, tIfS, tNot, tB, tCB, tCons, tNil, tVar, tC, tTest, tOp, tAnd, tOr, tAsg, gName, tRet, tRetN, tDrop, tNext, tIf, tCall, tTup, tLst, tNotV, tAndV, tOrV, tUn, rI0, rI, rU, rEq, rNe, tM1, tM0, tBM, tBM0, tSl, tPart, tNoPart, iStr, iEnumS, iRng1, iRng2, iList, gSub, tBits, tAug, tPar, L2.start, List.map_cons, List.map_nil, List.length_cons, List.length_nil, List.getElem?_cons_zero, List.getElem?_cons_succ, List.cons_append, List.nil_append, List.append_nil, List.set_cons_zero, List.set_cons_succ, List.replicate_succ, List.replicate_zero, Option.some.injEq, exists_eq_left', V.int.injEq, V.str.injEq, V.ref.injEq, V.bl.injEq, exists_and_left, exists_eq_left, List.cons.injEq, and_true, true_and, tCallX, tRs]
  have tl := Tr.ps_length t
  have cl := tr_len ht
  refine ⟨Nat.zero_le _, fun p np => ?_⟩
  have s1 := (L2.Same.refl H).new np (.lst [])
  have hp : upd H p (.lst []) p = some _ := upd_same
  generalize upd H p (.lst []) = H1 at s1 hp ⊢
  refine ⟨by decide, fun p1 np1 => ?_⟩
  have hpp1 : p ≠ p1 := ne_of_none hp np1
  have np1' := s1.free np1
  have s2 := s1.new np1' (.lst [V.str (Str.ofString "")])
  have hp2 : upd H1 p1 (.lst [V.str (Str.ofString "")]) p = some (.lst []) := by rw [upd_ne hpp1]; exact hp
  have hp1 : upd H1 p1 (.lst [V.str (Str.ofString "")]) p1 = some (.lst (([[]] : List (List Nat)).reverse.map sV)) := upd_same
  generalize upd H1 p1 (.lst [V.str (Str.ofString "")]) = H2 at s2 hp2 hp1 ⊢
  refine ⟨_, rfl, S t.cs, rfl, ?_, S t.ps, by rw [replace_ps], for_str (fun i σ H' => ∃ st ws fs a3 a4, σ = [some (trV t), some (.ref p), some (.ref p1), a3, a4] ∧ Same H H' ∧ H' p = some (.lst ws) ∧ Tups H' ws fs ∧ H' p1 = some (.lst ((st : List (List Nat)).reverse.map sV)) ∧
    fs ++ walkA (t.ps.drop i) st = t.adrs [] ∧ fs.length = i ∧ st.length ≤ 1 + i ∧ ∀ a ∈ st, a.length ≤ i) ?_ ?_ ?_⟩
  · have e0 : (Str.ofString "").length = 0 := rfl
    rw [e0, S_len]
    omega
  · refine ⟨[[]], [], [], none, none, rfl, s2, hp2, .nil, hp1, ?_, rfl, by decide, fun a ha => by rw [List.mem_singleton.mp ha]; exact Nat.le_refl _⟩
    have := walkA_tree t [] [] []
    rw [List.append_nil] at this
    rw [List.nil_append, List.drop_zero, this]
    simp [walkA]
  · rintro i d σ H' hi ⟨st, ws, fs, a3, a4, rfl, s0, h1, tu, h2, ew, el, es, ea⟩
    have hil : i < (S t.ps).length := (Array.getElem?_eq_some_iff.mp hi).1
    rw [S_len] at hil
    have hd : t.ps[i]? = some d := by
      have := (Array.getElem?_eq_some_iff.mp hi).2
      rw [List.getElem?_eq_some_iff]
      exact ⟨hil, by simpa using this⟩
    have ed : t.ps.drop i = d :: t.ps.drop (i + 1) := by
      rw [List.drop_eq_getElem_cons hil]
      rw [(List.getElem?_eq_some_iff.mp hd).2]
    rw [ed] at ew
    have wl := tu.length
    obtain ⟨a, st, rfl⟩ : ∃ a st', st = a :: st' := by
      cases st with
      | nil =>
        have := congrArg List.length ew
        rw [Tr.adrs_length] at this
        simp [walkA] at this
        omega
      | cons a st => exact ⟨a, st, rfl⟩
    have ha := ea a (List.mem_cons_self ..)
    simp only [cxOf_K, tAsg2, tYes, wipe, tSeq, tIfS, tNot, tB, tCB, tCons, tNil, tVar, tC, tTest, tOp, tAnd, tOr, tAsg, gName, tRet, tRetN, tDrop, tNext, tIf, tCall, tTup, tLst, tNotV, tAndV, tOrV, tUn, rI0, rI, rU, rEq, rNe, tM1, tM0, tBM, tBM0, tSl, tPart, tNoPart, iStr, iEnumS, iRng1, iRng2, iList, gSub, tBits, tAug, tPar, L2.start, List.map_cons, List.map_nil, List.length_cons, List.length_nil, List.getElem?_cons_zero, List.getElem?_cons_succ, List.cons_append, List.nil_append, List.append_nil, List.set_cons_zero, List.set_cons_succ, List.replicate_succ, List.replicate_zero, Option.some.injEq, exists_eq_left', V.int.injEq, V.str.injEq, V.ref.injEq, V.bl.injEq, exists_and_left, exists_eq_left, List.cons.injEq, and_true, true_and, tCallX, tRs]
    have sg : (({ cps := #[d] } : Str) = S [d]) := rfl
    rw [sg]
    refine ⟨tyV_lst h2, p1, _, sV a, rfl, rfl, h2, by simp, ?_⟩
    have s3 := s0.new np1' (.lst ((List.map sV (a :: st).reverse).dropLast))
    have k3 : Keep p1 H' (upd H' p1 (.lst ((List.map sV (a :: st).reverse).dropLast))) := fun b o nb hb => by rw [upd_ne nb]; exact hb
    have h23 : upd H' p1 (.lst ((List.map sV (a :: st).reverse).dropLast)) p1 = some (.lst (st.reverse.map sV)) := by
      rw [upd_same]; simp
    have h13 := k3 _ _ hpp1 h1
    have tu := tu.keep k3 h2
    generalize upd H' p1 (.lst ((List.map sV (a :: st).reverse).dropLast)) = H3 at s3 h23 h13 tu ⊢
    clear k3 h1 h2
    refine ⟨tyV_lst h13, by decide, fun q1 nq1 => ?_⟩
    have s4 := s3.new (s3.free nq1) (.tup [sV a, sV [d]])
    have h14 : upd H3 q1 (.tup [sV a, sV [d]]) p = _ := (upd_ne (ne_of_none h13 nq1)).trans h13
    have h24 : upd H3 q1 (.tup [sV a, sV [d]]) p1 = _ := (upd_ne (ne_of_none h23 nq1)).trans h23
    have tq : upd H3 q1 (.tup [sV a, sV [d]]) q1 = some _ := upd_same
    have tu := (tu.same ((L2.Same.refl H3).new nq1 (.tup [sV a, sV [d]]))).append (.cons (x := (a, d)) tq .nil)
    generalize upd H3 q1 (.tup [sV a, sV [d]]) = H4 at s4 h14 h24 tu ⊢
    refine ⟨p, _, _, rfl, rfl, h14, small5' (by omega), ?_⟩
    have s5 := s4.new np (.lst (ws ++ [V.ref q1]))
    have k5 : Keep p H4 (upd H4 p (.lst (ws ++ [V.ref q1]))) := fun b o nb hb => by rw [upd_ne nb]; exact hb
    have h25 := k5 _ _ hpp1.symm h24
    have h15 : upd H4 p (.lst (ws ++ [V.ref q1])) p = some _ := upd_same
    have tu := tu.keep k5 h14
    generalize upd H4 p (.lst (ws ++ [V.ref q1])) = H5 at s5 h25 h15 tu ⊢
    clear k5 s4 h14 h24 tq h13 h23 s3
    have ew' : fs ++ [(a, d)] ++ walkA (t.ps.drop (i + 1)) (if d = 40 then (a ++ [108]) :: (a ++ [114]) :: st else st) = t.adrs [] := by
      rw [← ew, List.append_assoc]
      rfl
    refine ⟨rfl, ?_⟩
    rw [lit_open]
    by_cases h40 : d = 40
    · rw [if_pos (decide_eq_true (by rw [h40]))]
      have ll : (Str.ofString "l").length = 1 := rfl
      have lr : (Str.ofString "r").length = 1 := rfl
      have al : (S a).length = a.length := S_len a
      refine ⟨tyV_lst h25, S a, rfl, small5 (by rw [al, lr]; omega), S a, rfl, small5 (by rw [al, ll]; omega), by decide, fun q2 nq2 => ?_⟩
      rw [show Str.ofString "l" = S [108] by decide +kernel, show Str.ofString "r" = S [114] by decide +kernel, S_app, S_app]
      have s6 := s5.new (s5.free nq2) (.lst [sV (a ++ [114]), sV (a ++ [108])])
      have h16 : upd H5 q2 (.lst [sV (a ++ [114]), sV (a ++ [108])]) p = _ := (upd_ne (ne_of_none h15 nq2)).trans h15
      have h26 : upd H5 q2 (.lst [sV (a ++ [114]), sV (a ++ [108])]) p1 = _ := (upd_ne (ne_of_none h25 nq2)).trans h25
      have tq : upd H5 q2 (.lst [sV (a ++ [114]), sV (a ++ [108])]) q2 = some _ := upd_same
      have tu := tu.same ((L2.Same.refl H5).new nq2 (.lst [sV (a ++ [114]), sV (a ++ [108])]))
      generalize upd H5 q2 (.lst [sV (a ++ [114]), sV (a ++ [108])]) = H6 at s6 h16 h26 tq tu ⊢
      refine ⟨p1, q2, _, _, rfl, rfl, h26, tq, ?_, ?_⟩
      · simp only [List.length_map, List.length_reverse, List.length_cons, List.length_nil] at es ⊢
        exact small5 (by omega)
      have k7 : Keep p1 H6 (upd H6 p1 (.lst (st.reverse.map sV ++ [sV (a ++ [114]), sV (a ++ [108])]))) := fun b o nb hb => by rw [upd_ne nb]; exact hb
      refine ⟨(a ++ [108]) :: (a ++ [114]) :: st, _, fs ++ [(a, d)], _, _, ⟨rfl, rfl⟩, s6.new np1' _, k7 _ _ hpp1 h16, tu.keep k7 h26, ?_, ?_, by simp [el], ?_, ?_⟩
      · rw [upd_same]; simp
      · rw [if_pos h40] at ew'
        exact ew'
      · simp only [List.length_cons] at es ⊢
        omega
      · intro b hb
        simp only [List.mem_cons] at hb
        rcases hb with rfl | rfl | hb
        · simp; omega
        · simp; omega
        · have := ea b (List.mem_cons_of_mem _ hb)
          omega
    · rw [if_neg (by simp only [decide_eq_true_eq]; intro z; exact h40 (by have := S_inj z; simpa using this))]
      refine ⟨st, _, fs ++ [(a, d)], _, _, ⟨rfl, rfl⟩, s5, h15, tu, h25, ?_, by simp [el], ?_, ?_⟩
      · rw [if_neg h40] at ew'
        exact ew'
      · simp only [List.length_cons] at es
        omega
      · intro b hb
        have := ea b (List.mem_cons_of_mem _ hb)
        omega
  · rintro σ H' ⟨st, ws, fs, a3, a4, rfl, s0, h1, tu, h2, ew, el, es, ea⟩
    have e : t.ps.drop (S t.ps).cps.size = [] := List.drop_eq_nil_of_le (by simp)
    rw [e] at ew
    have : fs = t.adrs [] := by
      rw [← ew]
      simp [walkA]
    subst this
    simp only [cxOf_K, tAsg2, tYes, wipe, tSeq, tIfS, tNot, tB, tCB, tCons, tNil, tVar, tC, tTest, tOp, tAnd, tOr, tAsg, gName, tRet, tRetN, tDrop, tNext, tIf, tCall, tTup, tLst, tNotV, tAndV, tOrV, tUn, rI0, rI, rU, rEq, rNe, tM1, tM0, tBM, tBM0, tSl, tPart, tNoPart, iStr, iEnumS, iRng1, iRng2, iList, gSub, tBits, tAug, tPar, L2.start, List.map_cons, List.map_nil, List.length_cons, List.length_nil, List.getElem?_cons_zero, List.getElem?_cons_succ, List.cons_append, List.nil_append, List.append_nil, List.set_cons_zero, List.set_cons_succ, List.replicate_succ, List.replicate_zero, Option.some.injEq, exists_eq_left', V.int.injEq, V.str.injEq, V.ref.injEq, V.bl.injEq, exists_and_left, exists_eq_left, List.cons.injEq, and_true, true_and, tCallX, tRs]
    exact q p ws H' np s0 h1 tu

theorem okStW {n : Nat} {x : Str × List Nat} (h : okSt n x) : (kv_OTHER_WORD.lookup x.1).isSome = true := by
  rcases h.1 with e | e
  · rw [e]; decide +kernel
  · rw [e]; decide +kernel
theorem noW {z : Str} (h1 : z ≠ Str.ofString "left") (h2 : z ≠ Str.ofString "right") : (kv_OTHER_WORD.lookup z).isSome = false := by
  have e1 : (z == Str.ofString "left") = false := beq_eq_false_iff_ne.mpr h1
  have e2 : (z == Str.ofString "right") = false := beq_eq_false_iff_ne.mpr h2
  show (List.lookup z [((Str.ofString "left" : Str), (Str.ofString "right" : Str)), (Str.ofString "right", Str.ofString "left")]).isSome = false
  simp [List.lookup, e1, e2]
theorem ok_is_step (T : Txt w K mg) : FnOk P w K mg base CX0 2 T.a_is_step T.fd_is_step ["value"] (sp_is_step K) := by
  refine T.F_is_step.ok sc_is_step (fun vs H Q E h => ?_) (fun cdv A outer s H vs Q E hr h => ?_)
  · obtain ⟨v, rfl, _⟩ := h; rfl
  obtain ⟨v, rfl, h⟩ := h
  refine ⟨_, (pss_cons (ps_if (pw_or (pt_not (pt_val (pe_callB call_isi (by rfl) T.z_isinstance (by decide +kernel) (pa_cons (pv 0) (pa_cons (pe_bltn (v := .ty "tuple") (by rfl) T.z_tuple (by decide +kernel) rfl) pa_nil))))) (pw_or1 (pt_cmpR op_ne (pe_callB call_len_seq (by rfl) T.z_len PySem.boot_len (pa_cons (pv 0) pa_nil)) pe_int (nomark _)))).pt (pss_one (ps_ret pe_bl)) pss_nil)
    (pss_one (ps_ret (pe_and (pe_callB call_isi (by rfl) T.z_isinstance (by decide +kernel) (pa_cons (pe_ix ix_tup (pv 0) pe_int (fun _ _ => rfl)) (pa_cons (pe_bltn (v := .ty "str") (by rfl) T.z_str (by decide +kernel) rfl) pa_nil))) (pe_and (pe_cmpR (TD.op_inKD T.k_OTHER_WORD) (pe_ix ix_tup (pv 0) pe_int (fun _ _ => rfl)) (pe_glob (v := .ref T.d_OTHER_WORD) (by rfl) T.m_OTHER_WORD rfl) (by with_unfolding_all rfl)) (pe_one (pe_call (ok_is_address T) (hr.mono (by first | decide | omega)) (by rfl) T.m_is_address T.F_is_address.kp T.b_is_address .nil pass0 (pa_cons (pe_ix ix_tup (pv 0) pe_int (fun _ _ => rfl)) pa_nil)))))))), ?_⟩
  simp only [cxOf_K, tAsg2, tYes, wipe, tSeq, tIfS, tNot, tB, tCB, tCons, tNil, tVar, tC, tTest, tOp, tAnd, tOr, tAsg, gName, tRet, tRetN, tDrop, tNext, tIf, tCall, tTup, tLst, tNotV, tAndV, tOrV, tUn, rI0, rI, rU, rEq, rNe, tM1, tM0, tBM, tBM0, tSl, tPart, tNoPart, iStr, iEnumS, iRng1, iRng2, iList, gSub, tBits, tAug, tPar, L2.start, List.map_cons, List.map_nil, List.length_cons, List.length_nil, List.getElem?_cons_zero, List.getElem?_cons_succ, List.cons_append, List.nil_append, List.append_nil, List.set_cons_zero, List.set_cons_succ, List.replicate_succ, List.replicate_zero, Option.some.injEq, exists_eq_left', V.int.injEq, V.str.injEq, V.ref.injEq, V.bl.injEq, exists_and_left, exists_eq_left, List.cons.injEq, and_true, true_and, tCallX, tRs]
  rcases h with ⟨⟨p, x, rfl, hp, ok⟩, q⟩ | ⟨ns, q⟩
  · refine ⟨_, _, _, _, true, rfl, .ty _, .base (.tup hp), kit_ty (by decide +kernel), true, rfl, ?_⟩
    rw [if_neg (by decide)]
    refine ⟨p, rfl, _, .inr (SqT.of hp), rfl, ?_⟩
    rw [if_neg (by simp)]
    refine ⟨p, _, _, _, rfl, rfl, SqT.of hp, atI_nat (j := 0) rfl, _, _, _, _, true, rfl, .ty _, .base (.str _), kit_ty (by decide +kernel), _, rfl, ?_⟩
    rw [if_pos rfl]
    refine ⟨p, _, _, _, rfl, rfl, SqT.of hp, atI_nat (j := 0) rfl, _, rfl, rfl, _, rfl, ?_⟩
    rw [okStW ok, if_pos rfl]
    refine ⟨p, _, _, _, rfl, rfl, SqT.of hp, atI_nat (j := 1) rfl, _, rfl, .inl ⟨x.2, rfl, by have := ok.2.2; omega, ?_⟩⟩
    rw [ok.2.1]
    exact q
  · rcases ns with ⟨ty, h1, h2⟩ | ⟨p, ws, rfl, hp, hl⟩ | ⟨p, x, y, rfl, hp, r⟩
    · refine ⟨v, _, ty, _, false, rfl, .ty _, h1, h2, false, rfl, ?_⟩
      rw [if_pos (by decide), if_pos (by decide)]
      exact q
    · refine ⟨_, _, _, _, true, rfl, .ty _, .base (.tup hp), kit_ty (by decide +kernel), true, rfl, ?_⟩
      rw [if_neg (by decide)]
      refine ⟨p, rfl, _, .inr (SqT.of hp), rfl, ?_⟩
      rw [if_pos (by rw [decide_eq_false (by omega)]; rfl)]
      exact q
    · refine ⟨_, _, _, _, true, rfl, .ty _, .base (.tup hp), kit_ty (by decide +kernel), true, rfl, ?_⟩
      rw [if_neg (by decide)]
      refine ⟨p, rfl, _, .inr (SqT.of hp), rfl, ?_⟩
      rw [if_neg (by simp)]
      rcases r with ⟨ty, h1, h2⟩ | ⟨z, rfl, n1, n2⟩ | ⟨hx, na⟩
      · refine ⟨p, _, _, _, rfl, rfl, SqT.of hp, atI_nat (j := 0) rfl, _, _, _, _, false, rfl, .ty _, h1, h2, _, rfl, ?_⟩
        rw [if_neg Bool.false_ne_true]
        exact q
      · refine ⟨p, _, _, _, rfl, rfl, SqT.of hp, atI_nat (j := 0) rfl, _, _, _, _, true, rfl, .ty _, .base (.str _), kit_ty (by decide +kernel), _, rfl, ?_⟩
        rw [if_pos rfl]
        refine ⟨p, _, _, _, rfl, rfl, SqT.of hp, atI_nat (j := 0) rfl, _, rfl, rfl, _, rfl, ?_⟩
        rw [noW n1 n2, if_neg Bool.false_ne_true]
        exact q
      · obtain ⟨z, rfl, hz⟩ : ∃ z : Str, x = .str z ∧ (kv_OTHER_WORD.lookup z).isSome = true := by
          rcases hx with rfl | rfl
          · exact ⟨_, rfl, by decide +kernel⟩
          · exact ⟨_, rfl, by decide +kernel⟩
        refine ⟨p, _, _, _, rfl, rfl, SqT.of hp, atI_nat (j := 0) rfl, _, _, _, _, true, rfl, .ty _, .base (.str _), kit_ty (by decide +kernel), _, rfl, ?_⟩
        rw [if_pos rfl]
        refine ⟨p, _, _, _, rfl, rfl, SqT.of hp, atI_nat (j := 0) rfl, _, rfl, rfl, _, rfl, ?_⟩
        rw [hz, if_pos rfl]
        refine ⟨p, _, _, _, rfl, rfl, SqT.of hp, atI_nat (j := 1) rfl, _, rfl, ?_⟩
        rcases na with ⟨a, rfl, ha, hi⟩ | ns
        · refine .inl ⟨a, rfl, ha, ?_⟩
          rw [hi]
          exact q
        · exact .inr ⟨ns, q⟩

theorem Stps.get {H : Hp} : ∀ {vs : List V} {xs : List (Str × List Nat)} {i : Nat} {v : V}, Stps H vs xs → vs[i]? = some v → ∃ p x, v = .ref p ∧ xs[i]? = some x ∧ H p = some (.tup [.str x.1, sV x.2])
  | _, _, _, _, .nil, h => by simp at h
  | _, _, 0, v, @Stps.cons _ p x _ _ g t, h => ⟨p, x, by simpa using h.symm, rfl, g⟩
  | _, _, i + 1, v, .cons g t, h => by
    obtain ⟨p, x, e, h2, h3⟩ := Stps.get t (by simpa using h)
    exact ⟨p, x, e, by simpa using h2, h3⟩
theorem Stps.snoc {H : Hp} {vs : List V} {xs : List (Str × List Nat)} {p : Addr} {x : Str × List Nat} (h : Stps H vs xs) (g : H p = some (.tup [.str x.1, sV x.2])) : Stps H (vs ++ [.ref p]) (xs ++ [x]) := h.append (.cons g .nil)
theorem GoodS.isStep {H : Hp} {vs : List V} {xs : List (Str × List Nat)} (h : Stps H vs xs) (ok : ∀ x ∈ xs, okSt 3000 x) {i : Nat} {v : V} (e : vs[i]? = some v) : IsStep H v := by
  obtain ⟨p, x, rfl, h2, h3⟩ := h.get e
  exact ⟨p, x, rfl, h3, ok x (List.mem_of_getElem? h2)⟩
/-- one step more -/
theorem Stps.push {H : Hp} {D p : Addr} {us : List V} {ys : List (Str × List Nat)} {x : Str × List Nat} (hd : H D = some (.lst us)) (st : Stps H us ys) (np : H p = none) :
    Stps (upd (upd H p (.tup [.str x.1, sV x.2])) D (.lst (us ++ [.ref p]))) (us ++ [.ref p]) (ys ++ [x]) := by
  have pd : p ≠ D := fun z => by rw [z, hd] at np; cases np
  refine Stps.snoc (st.mono fun b vs hb => ?_) ?_
  · have b1 : b ≠ D := fun z => by rw [z, hd] at hb; cases hb
    have b2 : b ≠ p := fun z => by rw [z, np] at hb; cases hb
    rw [upd_ne b1, upd_ne b2]
    exact hb
  · rw [upd_ne pd, upd_same]
/-- what a turn of a comprehension that makes steps must show -/
theorem stepTail {H0 H2 : Hp} {D p2 : Addr} {us : List V} {ys : List (Str × List Nat)} {y : Str × List Nat} {i : Nat} (hD0 : H0 D = none) (s2 : Same H0 H2) (hd : H2 D = some (.lst us)) (ul : us.length = i) (su : Stps H2 us (ys.take i)) (hy : ys[i]? = some y) (hi : i ≤ 10000) (np : H2 p2 = none) :
    ∃ acc, upd H2 p2 (.tup [.str y.1, sV y.2]) D = some (.lst acc) ∧ acc.length < sizeLine ∧ Same H0 (upd (upd H2 p2 (.tup [.str y.1, sV y.2])) D (.lst (acc ++ [.ref p2]))) ∧
      ∃ us, upd (upd H2 p2 (.tup [.str y.1, sV y.2])) D (.lst (acc ++ [.ref p2])) D = some (.lst us) ∧ us.length = i + 1 ∧ Stps (upd (upd H2 p2 (.tup [.str y.1, sV y.2])) D (.lst (acc ++ [.ref p2]))) us (ys.take (i + 1)) := by
  have pD : p2 ≠ D := fun z => by rw [z, hd] at np; cases np
  refine ⟨us, by rw [upd_ne pD.symm]; exact hd, small5' (by omega), (s2.new (s2.free np) _).new hD0 _, us ++ [.ref p2], upd_same, by simp [ul], ?_⟩
  rw [List.take_succ, hy]
  exact Stps.push hd su np
theorem cutAll (z : Str) : cutS z none none = z := by
  unfold cutS
  have e1 : HT.sIx z.length 0 none = 0 := rfl
  have e2 : HT.sIx z.length z.length none = z.length := rfl
  rw [e1, e2]
  cases z with
  | mk c =>
    show (⟨(List.take c.size c.toList).toArray⟩ : Str) = ⟨c⟩
    rw [List.take_of_length_le (by simp)]
theorem wordLen {n : Nat} {x : Str × List Nat} (h : okSt n x) : x.1.length ≤ 5 := by
  rcases h.1 with e | e
  · rw [e]; decide +kernel
  · rw [e]; decide +kernel
theorem ok_checked_script (T : Txt w K mg) : FnOk P w K mg base (L2.CX P w) 4 T.a_checked_script T.fd_checked_script ["steps"] (sp_checked_script T) := by
  refine T.F_checked_script.okX sc_checked_script (fun vs H Q E h => ?_) (fun cdv A outer s H vs Q E hr h => ?_)
  · obtain ⟨v, rfl, _⟩ := h; rfl
  obtain ⟨v, rfl, h⟩ := h
  refine ⟨_, (pss_cons (ps_if (pw_or (pt_not (pt_val (pe_callB call_isi (by rfl) T.z_isinstance (by decide +kernel) (pa_cons (pv 0) (pa_cons (pe_bltn (v := .ty "list") (by rfl) T.z_list (by decide +kernel) rfl) pa_nil))))) (pw_or1 (pt_not (pt_val (pe_callB (cr_all rfl) (by rfl) T.z_all (by decide +kernel) (pa_cons (pe_lc (own := [("step", 1)]) rfl sc_checked_script.nd (pi_list (pv 0)) (blkOk_by (own := [("step", 1)]) (N := nm_checked_script) (sc := defScope s_checked_script) (by decide +kernel)) (fun _ _ _ _ _ => by exact (pg_name (i := 1) sc_checked_script.nd rfl (by first | exact Or.inl rfl | exact Or.inr rfl))) (fun _ _ _ _ _ => by exact pts_nil) (fun _ _ _ _ _ => by exact (pe_call (ok_is_step T) (hr.mono (by first | decide | omega)) (by rfl) T.m_is_step T.F_is_step.kp T.b_is_step .nil pass0 (pa_cons (pv 1) pa_nil)))) pa_nil)))))).pt (pss_one (ps_raise rfl (takes_of rfl rfl rfl rfl) (pmk_err T.o_InvalidScript (hr.mono (by first | decide | omega)) (by rfl) (pv 0)))) pss_nil)
    (pss_one (ps_ret (pe_lc (own := [("word", 2), ("address", 3)]) rfl sc_checked_script.nd (pi_list (pv 0)) (blkOk_by (own := [("word", 2), ("address", 3)]) (N := nm_checked_script) (sc := defScope s_checked_script) (by decide +kernel)) (fun _ _ _ _ _ => by exact (show L2.PG _ _ (gTup K 2 _) from (pg_tup rfl (pgs_cons (pg_name (i := 2) sc_checked_script.nd rfl (by first | exact Or.inl rfl | exact Or.inr rfl)) (pgs_cons (pg_name (i := 3) sc_checked_script.nd rfl (by first | exact Or.inl rfl | exact Or.inr rfl)) pgs_nil))))) (fun _ _ _ _ _ => by exact pts_nil) (fun _ _ _ _ _ => by exact (pe_tup (pa_cons (pe_slice sl_str (pv 2) po_none po_none) (pa_cons (pe_slice sl_str (pv 3) po_none po_none) pa_nil)))))))), ?_⟩
  simp only [cxOf_K, tAsg2, tYes, wipe, tSeq, tIfS, tNot, tB, tCB, tCons, tNil, tVar, tC, tTest, tOp, tAnd, tOr, tAsg, gName, tRet, tRetN, tDrop, tNext, tIf, tCall, tTup, tLst, tNotV, tAndV, tOrV, tUn, rI0, rI, rU, rEq, rNe, tM1, tM0, tBM, tBM0, tSl, tPart, tNoPart, iStr, iEnumS, iRng1, iRng2, iList, gSub, tBits, tAug, tPar, L2.start, List.map_cons, List.map_nil, List.length_cons, List.length_nil, List.getElem?_cons_zero, List.getElem?_cons_succ, List.cons_append, List.nil_append, List.append_nil, List.set_cons_zero, List.set_cons_succ, List.replicate_succ, List.replicate_zero, Option.some.injEq, exists_eq_left', V.int.injEq, V.str.injEq, V.ref.injEq, V.bl.injEq, exists_and_left, exists_eq_left, List.cons.injEq, and_true, true_and, tCallX, tRs]
  rcases h with ⟨xs, ⟨a, ws, rfl, ha, st, hl, ok⟩, q⟩ | ⟨⟨ty, h1, h2⟩ | ⟨a, ws, rfl, ha, hl, al, u0, hu0, nu0⟩, out⟩
  · refine ⟨_, _, _, _, true, rfl, .ty _, .base (.lst ha), kit_ty (by decide +kernel), true, rfl, ?_⟩
    rw [if_neg (by decide)]
    refine ⟨_, rfl, a, rfl, ⟨_, SqL.of ha⟩, fun D hD => ?_⟩
    refine lc_list (K := K) (a := a) (xs := ws) (fun i H' => Same H H' ∧ H' D = some (.lst ((List.replicate i true).map V.bl))) ⟨(L2.Same.refl H).new hD _, upd_same⟩ (fun i H' _ hp => SqL.of (hp.1 _ _ ha)) ?_ ?_
    · rintro i x H' hi ⟨s0, hd⟩
      have hil : i < ws.length := (List.getElem?_eq_some_iff.mp hi).1
      simp only [cxOf_K, tAsg2, tYes, wipe, tSeq, tIfS, tNot, tB, tCB, tCons, tNil, tVar, tC, tTest, tOp, tAnd, tOr, tAsg, gName, tRet, tRetN, tDrop, tNext, tIf, tCall, tTup, tLst, tNotV, tAndV, tOrV, tUn, rI0, rI, rU, rEq, rNe, tM1, tM0, tBM, tBM0, tSl, tPart, tNoPart, iStr, iEnumS, iRng1, iRng2, iList, gSub, tBits, tAug, tPar, L2.start, List.map_cons, List.map_nil, List.length_cons, List.length_nil, List.getElem?_cons_zero, List.getElem?_cons_succ, List.cons_append, List.nil_append, List.append_nil, List.set_cons_zero, List.set_cons_succ, List.replicate_succ, List.replicate_zero, Option.some.injEq, exists_eq_left', V.int.injEq, V.str.injEq, V.ref.injEq, V.bl.injEq, exists_and_left, exists_eq_left, List.cons.injEq, and_true, true_and, tCallX, tRs]
      rw [if_pos True.intro]
      refine ⟨_, rfl, .inl ⟨(GoodS.isStep st ok hi).same s0, ?_⟩⟩
      refine ⟨_, hd, by simp; exact small5' (by omega), s0.new hD _, ?_⟩
      rw [upd_same]
      show _ = some (HO.lst ((List.replicate (i + 1) true).map V.bl))
      rw [List.replicate_succ', List.map_append]; rfl
    · rintro H' ⟨s0, hd⟩
      refine ⟨D, List.replicate ws.length true, rfl, SqL.of hd, true, by simp, ?_⟩
      refine iteF ?_
      have ha' := s0 _ _ ha
      refine ⟨_, rfl, a, rfl, ⟨_, SqL.of ha'⟩, fun D2 hD2 => ?_⟩
      refine lc_list (K := K) (a := a) (xs := ws) (fun i H2 => Same H' H2 ∧ ∃ us, H2 D2 = some (.lst us) ∧ us.length = i ∧ Stps H2 us (xs.take i)) ⟨(L2.Same.refl H').new hD2 _, [], upd_same, rfl, .nil⟩ (fun i H2 _ hp => SqL.of (hp.1 _ _ ha')) ?_ ?_
      · rintro i x H2 hi ⟨s2, us, hd2, ul, su⟩
        have hil : i < ws.length := (List.getElem?_eq_some_iff.mp hi).1
        obtain ⟨p, x, rfl, hx, hp⟩ := st.get hi
        have hp2 := s2 _ _ (s0 _ _ hp)
        have okx := ok x (List.mem_of_getElem? hx)
        simp only [gTup, gCons, gNil, cxOf_K, tAsg2, tYes, wipe, tSeq, tIfS, tNot, tB, tCB, tCons, tNil, tVar, tC, tTest, tOp, tAnd, tOr, tAsg, gName, tRet, tRetN, tDrop, tNext, tIf, tCall, tTup, tLst, tNotV, tAndV, tOrV, tUn, rI0, rI, rU, rEq, rNe, tM1, tM0, tBM, tBM0, tSl, tPart, tNoPart, iStr, iEnumS, iRng1, iRng2, iList, gSub, tBits, tAug, tPar, L2.start, List.map_cons, List.map_nil, List.length_cons, List.length_nil, List.getElem?_cons_zero, List.getElem?_cons_succ, List.cons_append, List.nil_append, List.append_nil, List.set_cons_zero, List.set_cons_succ, List.replicate_succ, List.replicate_zero, Option.some.injEq, exists_eq_left', V.int.injEq, V.str.injEq, V.ref.injEq, V.bl.injEq, exists_and_left, exists_eq_left, List.cons.injEq, and_true, true_and, tCallX, tRs]
        refine ⟨_, SqT.of hp2, rfl, _, _, rfl, _, _, rfl, rfl, ?_⟩
        rw [if_pos True.intro]
        refine ⟨_, rfl, small5 (by have := wordLen okx; omega), ?_⟩
        rw [cutAll]
        refine ⟨_, rfl, small5 (by rw [S_len]; have := okx.2.2; omega), ?_⟩
        rw [cutAll]
        refine ⟨by decide, fun p2 np2 => ?_⟩
        exact stepTail hD2 s2 hd2 ul su hx (by omega) np2
      · rintro H2 ⟨s2, us, hd2, ul, su⟩
        rw [List.take_of_length_le (Nat.le_of_eq st.length.symm)] at su
        exact q D2 us H2 (s0.free hD2) (s0.trans s2) hd2 su
  · refine ⟨v, _, ty, _, false, rfl, .ty _, h1, h2, false, rfl, ?_⟩
    rw [if_pos (show (!false) = true from rfl), if_pos True.intro]
    exact out
  · refine ⟨_, _, _, _, true, rfl, .ty _, .base (.lst ha), kit_ty (by decide +kernel), true, rfl, ?_⟩
    rw [if_neg (by decide)]
    refine ⟨_, rfl, a, rfl, ⟨_, SqL.of ha⟩, fun D hD => ?_⟩
    refine lc_list (K := K) (a := a) (xs := ws) (fun i H' => Same H H' ∧ ∃ bs : List Bool, bs.length = i ∧ H' D = some (.lst (bs.map V.bl)) ∧ ∀ k u, k < i → ws[k]? = some u → NotStep K H u → bs[k]? = some false) ⟨(L2.Same.refl H).new hD _, [], rfl, upd_same, fun k u h => by omega⟩ (fun i H' _ hp => SqL.of (hp.1 _ _ ha)) ?_ ?_
    · rintro i x H' hi ⟨s0, bs, hb, hd, no⟩
      have hil : i < ws.length := (List.getElem?_eq_some_iff.mp hi).1
      have fin : ∀ b : Bool, (NotStep K H x → b = false) → ∃ acc, H' D = some (.lst acc) ∧ acc.length < sizeLine ∧ Same H (upd H' D (.lst (acc ++ [V.bl b]))) ∧
          ∃ bs : List Bool, bs.length = i + 1 ∧ upd H' D (.lst (acc ++ [V.bl b])) D = some (.lst (bs.map V.bl)) ∧ ∀ k u, k < i + 1 → ws[k]? = some u → NotStep K H u → bs[k]? = some false := fun b nb => by
        refine ⟨_, hd, by rw [List.length_map]; exact small5' (by omega), s0.new hD _, bs ++ [b], by simp [hb], by rw [upd_same]; simp, fun k u hk hu nu => ?_⟩
        by_cases l : k < i
        · rw [List.getElem?_append_left (by omega)]
          exact no k u l hu nu
        · have ek : k = i := by omega
          subst ek
          rw [hi] at hu
          cases hu
          rw [nb nu, List.getElem?_append_right (by omega), hb, Nat.sub_self]
          rfl
      simp only [cxOf_K, tAsg2, tYes, wipe, tSeq, tIfS, tNot, tB, tCB, tCons, tNil, tVar, tC, tTest, tOp, tAnd, tOr, tAsg, gName, tRet, tRetN, tDrop, tNext, tIf, tCall, tTup, tLst, tNotV, tAndV, tOrV, tUn, rI0, rI, rU, rEq, rNe, tM1, tM0, tBM, tBM0, tSl, tPart, tNoPart, iStr, iEnumS, iRng1, iRng2, iList, gSub, tBits, tAug, tPar, L2.start, List.map_cons, List.map_nil, List.length_cons, List.length_nil, List.getElem?_cons_zero, List.getElem?_cons_succ, List.cons_append, List.nil_append, List.append_nil, List.set_cons_zero, List.set_cons_succ, List.replicate_succ, List.replicate_zero, Option.some.injEq, exists_eq_left', V.int.injEq, V.str.injEq, V.ref.injEq, V.bl.injEq, exists_and_left, exists_eq_left, List.cons.injEq, and_true, true_and, tCallX, tRs]
      rw [if_pos True.intro]
      by_cases ns : NotStep K H x
      · exact ⟨_, rfl, .inr ⟨ns.same s0, fin false fun _ => rfl⟩⟩
      · exact ⟨_, rfl, .inl ⟨((al x (List.mem_of_getElem? hi)).resolve_right ns).same s0, fin true fun z => absurd z ns⟩⟩
    · rintro H' ⟨s0, bs, hb, hd, no⟩
      obtain ⟨k, hk, ek⟩ := List.mem_iff_getElem.mp hu0
      have nk := no k u0 hk (by rw [List.getElem?_eq_getElem hk, ek]) nu0
      have hf : bs.all id = false := by
        cases e : bs.all id with
        | false => rfl
        | true => exact absurd (List.all_eq_true.mp e false (List.mem_of_getElem? nk)) Bool.false_ne_true
      refine ⟨D, bs, rfl, SqL.of hd, false, by simpa using hf, ?_⟩
      refine iteT ?_
      exact Out.same out s0

theorem ok_law_cell (T : Txt w K mg) : FnOk P w K mg base CX0 1 T.a_law_cell T.fd_law_cell ["_law_script", "_law_index"] (sp_law_cell K) := by
  refine T.F_law_cell.ok sc_law_cell (fun vs H Q E h => ?_) (fun cdv A outer s H vs Q E hr h => ?_)
  · obtain ⟨a, ns, i, rfl, _⟩ := h; rfl
  obtain ⟨a, ns, i, rfl, ha, q⟩ := h
  refine ⟨_, (pss_cons (ps_if (pt_cmpR op_lt (pv 1) (pe_callB call_len_seq (by rfl) T.z_len PySem.boot_len (pa_cons (pv 0) pa_nil)) (nomark _)) (pss_one (ps_ret (pe_ix ix_list (pv 0) (pv 1) (fun _ _ => rfl)))) pss_nil)
    (pss_one (ps_ret pe_int))), ?_⟩
  simp only [cxOf_K, tAsg2, tYes, wipe, tSeq, tIfS, tNot, tB, tCB, tCons, tNil, tVar, tC, tTest, tOp, tAnd, tOr, tAsg, gName, tRet, tRetN, tDrop, tNext, tIf, tCall, tTup, tLst, tNotV, tAndV, tOrV, tUn, rI0, rI, rU, rEq, rNe, tM1, tM0, tBM, tBM0, tSl, tPart, tNoPart, iStr, iEnumS, iRng1, iRng2, iList, gSub, tBits, tAug, tPar, L2.start, List.map_cons, List.map_nil, List.length_cons, List.length_nil, List.getElem?_cons_zero, List.getElem?_cons_succ, List.cons_append, List.nil_append, List.append_nil, List.set_cons_zero, List.set_cons_succ, List.replicate_succ, List.replicate_zero, Option.some.injEq, exists_eq_left', V.int.injEq, V.str.injEq, V.ref.injEq, V.bl.injEq, exists_and_left, exists_eq_left, List.cons.injEq, and_true, true_and, tCallX, tRs]
  refine ⟨_, .inl ha, ?_⟩
  rw [List.length_map]
  by_cases h : (i : Int) < (ns.length : Int)
  · refine ifdT h ?_
    have hi : i < ns.length := by omega
    refine ⟨a, _, (i : Int), _, rfl, rfl, ha, atI_nat (by rw [List.getElem?_map, List.getElem?_eq_getElem hi]; rfl), ?_⟩
    rw [List.getD_eq_getElem?_getD, List.getElem?_eq_getElem hi] at q
    exact q
  · refine ifdF h ?_
    rw [List.getD_eq_getElem?_getD, List.getElem?_eq_none (by omega)] at q
    exact q
theorem ok_law_hash (T : Txt w K mg) : FnOk P w K mg base CX0 1 T.a_law_hash T.fd_law_hash ["_law_seed", "_law_index"] (sp_law_hash K) := by
  refine T.F_law_hash.ok sc_law_hash (fun vs H Q E h => ?_) (fun cdv A outer s H vs Q E hr h => ?_)
  · obtain ⟨a, i, rfl, _⟩ := h; rfl
  obtain ⟨a, i, rfl, h0, h1, q⟩ := h
  refine ⟨_, (pss_cons (ps_set (i := 2) sc_law_hash.nd rfl (by first | exact Or.inl rfl | exact Or.inr rfl) (pe_op op_mod (pe_callTy call_intI (by rfl) T.z_int (by decide +kernel) (pa_cons (pe_op op_add (pe_op op_add (pe_op op_add (pe_op op_mul (pv 0) pe_int) (pe_op op_mul (pe_op op_mul pe_int (pv 1)) (pv 1))) (pv 1)) pe_int) pa_nil)) pe_int))
    (pss_cons (ps_set (i := 2) sc_law_hash.nd rfl (by first | exact Or.inl rfl | exact Or.inr rfl) (pe_op op_mod (pe_callTy call_intI (by rfl) T.z_int (by decide +kernel) (pa_cons (pe_op op_add (pe_op op_mul (pv 2) (pv 2)) pe_int) pa_nil)) pe_int))
    (pss_one (ps_ret (pe_op op_mod (pe_callTy call_intI (by rfl) T.z_int (by decide +kernel) (pa_cons (pe_op op_mul (pv 2) pe_int) pa_nil)) pe_int))))), ?_⟩
  simp only [cxOf_K, tAsg2, tYes, wipe, tSeq, tIfS, tNot, tB, tCB, tCons, tNil, tVar, tC, tTest, tOp, tAnd, tOr, tAsg, gName, tRet, tRetN, tDrop, tNext, tIf, tCall, tTup, tLst, tNotV, tAndV, tOrV, tUn, rI0, rI, rU, rEq, rNe, tM1, tM0, tBM, tBM0, tSl, tPart, tNoPart, iStr, iEnumS, iRng1, iRng2, iList, gSub, tBits, tAug, tPar, L2.start, List.map_cons, List.map_nil, List.length_cons, List.length_nil, List.getElem?_cons_zero, List.getElem?_cons_succ, List.cons_append, List.nil_append, List.append_nil, List.set_cons_zero, List.set_cons_succ, List.replicate_succ, List.replicate_zero, Option.some.injEq, exists_eq_left', V.int.injEq, V.str.injEq, V.ref.injEq, V.bl.injEq, exists_and_left, exists_eq_left, List.cons.injEq, and_true, true_and, tCallX, tRs]
  refine ⟨cmulR (by decide), cmulL (by decide), cmulR (by omega), by decide, cmulR (cmod _ (by decide) (by decide)), by decide, cmulR (by decide), by decide, q _⟩
theorem ok_law_generator (T : Txt w K mg) : FnOk P w K mg base CX0 2 T.a_law_generator T.fd_law_generator ["_law_script", "_law_index"] (sp_law_generator K) := by
  refine T.F_law_generator.ok sc_law_generator (fun vs H Q E h => ?_) (fun cdv A outer s H vs Q E hr h => ?_)
  · obtain ⟨a, ns, i, rfl, _⟩ := h; rfl
  obtain ⟨a, ns, i, rfl, ha, q⟩ := h
  refine ⟨_, (pss_cons (ps_set (i := 2) sc_law_generator.nd rfl (by first | exact Or.inl rfl | exact Or.inr rfl) (pe_call (ok_law_cell T) (hr.mono (by first | decide | omega)) (by rfl) T.m_law_cell T.F_law_cell.kp T.b_law_cell .nil pass0 (pa_cons (pv 0) (pa_cons (pv 1) pa_nil))))
    (pss_one (ps_ret (pe_lst (pa_cons (pe_op op_mod (pe_callTy call_intI (by rfl) T.z_int (by decide +kernel) (pa_cons (pe_callB (call_max2 rfl) (by rfl) T.z_max (by decide +kernel) (pa_cons (pe_op op_sub (pv 2) (pe_op op_powB pe_int pe_int)) (pa_cons pe_int pa_nil))) pa_nil)) (pe_op op_powB (pe_op op_powB pe_int pe_int) pe_int)) (pa_cons (pe_op op_mod (pe_callTy call_intI (by rfl) T.z_int (by decide +kernel) (pa_cons (pv 2) pa_nil)) pe_int) (pa_cons (pe_op op_mul pe_int (pv 1)) pa_nil))))))), ?_⟩
  simp only [cxOf_K, tAsg2, tYes, wipe, tSeq, tIfS, tNot, tB, tCB, tCons, tNil, tVar, tC, tTest, tOp, tAnd, tOr, tAsg, gName, tRet, tRetN, tDrop, tNext, tIf, tCall, tTup, tLst, tNotV, tAndV, tOrV, tUn, rI0, rI, rU, rEq, rNe, tM1, tM0, tBM, tBM0, tSl, tPart, tNoPart, iStr, iEnumS, iRng1, iRng2, iList, gSub, tBits, tAug, tPar, L2.start, List.map_cons, List.map_nil, List.length_cons, List.length_nil, List.getElem?_cons_zero, List.getElem?_cons_succ, List.cons_append, List.nil_append, List.append_nil, List.set_cons_zero, List.set_cons_succ, List.replicate_succ, List.replicate_zero, Option.some.injEq, exists_eq_left', V.int.injEq, V.str.injEq, V.ref.injEq, V.bl.injEq, exists_and_left, exists_eq_left, List.cons.injEq, and_true, true_and, tCallX, tRs]
  refine ⟨a, ns, i, rfl, ha, ?_⟩
  simp only [cxOf_K, tAsg2, tYes, wipe, tSeq, tIfS, tNot, tB, tCB, tCons, tNil, tVar, tC, tTest, tOp, tAnd, tOr, tAsg, gName, tRet, tRetN, tDrop, tNext, tIf, tCall, tTup, tLst, tNotV, tAndV, tOrV, tUn, rI0, rI, rU, rEq, rNe, tM1, tM0, tBM, tBM0, tSl, tPart, tNoPart, iStr, iEnumS, iRng1, iRng2, iList, gSub, tBits, tAug, tPar, L2.start, List.map_cons, List.map_nil, List.length_cons, List.length_nil, List.getElem?_cons_zero, List.getElem?_cons_succ, List.cons_append, List.nil_append, List.append_nil, List.set_cons_zero, List.set_cons_succ, List.replicate_succ, List.replicate_zero, Option.some.injEq, exists_eq_left', V.int.injEq, V.str.injEq, V.ref.injEq, V.bl.injEq, exists_and_left, exists_eq_left, List.cons.injEq, and_true, true_and, tCallX, tRs]
  refine ⟨⟨by decide, by decide +kernel⟩, _, _, ⟨rfl, rfl⟩, ⟨by decide, by decide +kernel⟩, ⟨by decide, by decide +kernel⟩, by decide +kernel, by decide, cmulL (by decide), by decide, fun g hg => ?_⟩
  exact q g _ hg ((L2.Same.refl H).new hg _) ⟨_, _, _, upd_same, by omega, by omega⟩
theorem ok_law_random (T : Txt w K mg) : FnOk P w K mg base CX0 2 T.a_law_random T.fd_law_random ["_law_generator_here", "_law_bound"] (sp_law_random K) := by
  refine T.F_law_random.ok sc_law_random (fun vs H Q E h => ?_) (fun cdv A outer s H vs Q E hr h => ?_)
  · obtain ⟨g, b, n, rfl, _⟩ := h; rfl
  obtain ⟨g, b, n, rfl, ⟨x, y, z, hg, z0, z1⟩, hn, b0, b1, q⟩ := h
  refine ⟨_, (pss_cons (ps_if (pt_cmpR op_gt (pe_ix ix_list (pv 0) pe_int (fun _ _ => rfl)) pe_int (nomark _)) (pss_cons (ps_set (i := 2) sc_law_random.nd rfl (by first | exact Or.inl rfl | exact Or.inr rfl) (pe_op op_mod (pe_callTy call_intI (by rfl) T.z_int (by decide +kernel) (pa_cons (pe_ix ix_list (pv 0) pe_int (fun _ _ => rfl)) pa_nil)) (pv 1)))
    (pss_cons (ps_asg (pe_op op_fdivW (pe_ix ix_list (pv 0) pe_int (fun _ _ => rfl)) (pv 1)) (pg_sub (pv 0) pe_int set_list))
    (pss_one (ps_ret (pv 2))))) pss_nil)
    (pss_cons (ps_set (i := 2) sc_law_random.nd rfl (by first | exact Or.inl rfl | exact Or.inr rfl) pe_int)
    (pss_cons (ps_for PassesOwn.never rfl (pi_range1 rfl T.z_range (pa_cons (pe_op op_add pe_int (pe_op op_fdivW (pe_bits (pv 1)) pe_int)) pa_nil)) (pg_name (i := 3) sc_law_random.nd rfl (by first | exact Or.inl rfl | exact Or.inr rfl)) (pss_cons (ps_asg (pe_op op_add (pe_ix ix_list (pv 0) pe_int (fun _ _ => rfl)) pe_int) (pg_sub (pv 0) pe_int set_list))
    (pss_one (ps_set (i := 2) sc_law_random.nd rfl (by first | exact Or.inl rfl | exact Or.inr rfl) (pe_op op_add (pe_op op_mul (pv 2) pe_int) (pe_call (ok_law_hash T) (hr.mono (by first | decide | omega)) (by rfl) T.m_law_hash T.F_law_hash.kp T.b_law_hash .nil pass0 (pa_cons (pe_ix ix_list (pv 0) pe_int (fun _ _ => rfl)) (pa_cons (pe_ix ix_list (pv 0) pe_int (fun _ _ => rfl)) pa_nil))))))))
    (pss_one (ps_ret (pe_op op_mod (pe_callTy call_intI (by rfl) T.z_int (by decide +kernel) (pa_cons (pv 2) pa_nil)) (pv 1))))))), ?_⟩
  simp only [cxOf_K, tAsg2, tYes, wipe, tSeq, tIfS, tNot, tB, tCB, tCons, tNil, tVar, tC, tTest, tOp, tAnd, tOr, tAsg, gName, tRet, tRetN, tDrop, tNext, tIf, tCall, tTup, tLst, tNotV, tAndV, tOrV, tUn, rI0, rI, rU, rEq, rNe, tM1, tM0, tBM, tBM0, tSl, tPart, tNoPart, iStr, iEnumS, iRng1, iRng2, iList, gSub, tBits, tAug, tPar, L2.start, List.map_cons, List.map_nil, List.length_cons, List.length_nil, List.getElem?_cons_zero, List.getElem?_cons_succ, List.cons_append, List.nil_append, List.append_nil, List.set_cons_zero, List.set_cons_succ, List.replicate_succ, List.replicate_zero, Option.some.injEq, exists_eq_left', V.int.injEq, V.str.injEq, V.ref.injEq, V.bl.injEq, exists_and_left, exists_eq_left, List.cons.injEq, and_true, true_and, tCallX, tRs]
  refine ⟨g, _, 0, .int x, rfl, rfl, SqL.of hg, rfl, ?_⟩
  simp only [cxOf_K, tAsg2, tYes, wipe, tSeq, tIfS, tNot, tB, tCB, tCons, tNil, tVar, tC, tTest, tOp, tAnd, tOr, tAsg, gName, tRet, tRetN, tDrop, tNext, tIf, tCall, tTup, tLst, tNotV, tAndV, tOrV, tUn, rI0, rI, rU, rEq, rNe, tM1, tM0, tBM, tBM0, tSl, tPart, tNoPart, iStr, iEnumS, iRng1, iRng2, iList, gSub, tBits, tAug, tPar, L2.start, List.map_cons, List.map_nil, List.length_cons, List.length_nil, List.getElem?_cons_zero, List.getElem?_cons_succ, List.cons_append, List.nil_append, List.append_nil, List.set_cons_zero, List.set_cons_succ, List.replicate_succ, List.replicate_zero, Option.some.injEq, exists_eq_left', V.int.injEq, V.str.injEq, V.ref.injEq, V.bl.injEq, exists_and_left, exists_eq_left, List.cons.injEq, and_true, true_and, tCallX, tRs]
  by_cases hx : 0 < x
  · refine ifdT hx ⟨g, _, 0, .int x, rfl, rfl, SqL.of hg, rfl, ?_⟩
    simp only [cxOf_K, tAsg2, tYes, wipe, tSeq, tIfS, tNot, tB, tCB, tCons, tNil, tVar, tC, tTest, tOp, tAnd, tOr, tAsg, gName, tRet, tRetN, tDrop, tNext, tIf, tCall, tTup, tLst, tNotV, tAndV, tOrV, tUn, rI0, rI, rU, rEq, rNe, tM1, tM0, tBM, tBM0, tSl, tPart, tNoPart, iStr, iEnumS, iRng1, iRng2, iList, gSub, tBits, tAug, tPar, L2.start, List.map_cons, List.map_nil, List.length_cons, List.length_nil, List.getElem?_cons_zero, List.getElem?_cons_succ, List.cons_append, List.nil_append, List.append_nil, List.set_cons_zero, List.set_cons_succ, List.replicate_succ, List.replicate_zero, Option.some.injEq, exists_eq_left', V.int.injEq, V.str.injEq, V.ref.injEq, V.bl.injEq, exists_and_left, exists_eq_left, List.cons.injEq, and_true, true_and, tCallX, tRs]
    refine ⟨by omega, g, _, 0, .int x, rfl, rfl, SqL.of hg, rfl, ?_⟩
    simp only [cxOf_K, tAsg2, tYes, wipe, tSeq, tIfS, tNot, tB, tCB, tCons, tNil, tVar, tC, tTest, tOp, tAnd, tOr, tAsg, gName, tRet, tRetN, tDrop, tNext, tIf, tCall, tTup, tLst, tNotV, tAndV, tOrV, tUn, rI0, rI, rU, rEq, rNe, tM1, tM0, tBM, tBM0, tSl, tPart, tNoPart, iStr, iEnumS, iRng1, iRng2, iList, gSub, tBits, tAug, tPar, L2.start, List.map_cons, List.map_nil, List.length_cons, List.length_nil, List.getElem?_cons_zero, List.getElem?_cons_succ, List.cons_append, List.nil_append, List.append_nil, List.set_cons_zero, List.set_cons_succ, List.replicate_succ, List.replicate_zero, Option.some.injEq, exists_eq_left', V.int.injEq, V.str.injEq, V.ref.injEq, V.bl.injEq, exists_and_left, exists_eq_left, List.cons.injEq, and_true, true_and, tCallX, tRs]
    refine ⟨cdivW b0 b1, g, _, 0, 0, rfl, rfl, hg, rfl, ?_⟩
    exact q _ _ (Int.emod_nonneg _ (by omega)) (Int.emod_lt_of_pos _ (by omega)) (fun p o hp ho => by rw [upd_ne hp]; exact ho) ⟨_, _, _, upd_same, z0, by omega⟩
  · refine ifdF hx ?_
    have hb : (Builtin.Int.intBits b : Int) ≤ 50 := by
      have : Builtin.Int.intBits b ≤ 50 := PyProof.Rows.intBits_le (by omega)
      omega
    have hj0 : (0 : Int) ≤ 1 + (Builtin.Int.intBits b : Int) / 30 := by omega
    have hj1 : (1 : Int) + (Builtin.Int.intBits b : Int) / 30 ≤ 2 := by omega
    refine ⟨_, rfl, _, rfl, _, _, rfl, rfl, cdivW (by decide) (by decide), _, _, rfl, rfl, _, rfl, by omega, by omega, for_range (fun i σ H' => ∃ (d : Int) (a3 : Option V) (z' : Int), σ = [some (.ref g), some (.int b), some (.int d), a3] ∧ Keep g H H' ∧ H' g = some (.lst [.int x, .int y, .int z']) ∧ z' = z + i)
      ⟨0, none, z, rfl, fun p o _ ho => ho, hg, by simp⟩ ?_ ?_⟩
    · rintro i σ H' hi ⟨d, a3, z', rfl, k0, hg', rfl⟩
      simp only [cxOf_K, tAsg2, tYes, wipe, tSeq, tIfS, tNot, tB, tCB, tCons, tNil, tVar, tC, tTest, tOp, tAnd, tOr, tAsg, gName, tRet, tRetN, tDrop, tNext, tIf, tCall, tTup, tLst, tNotV, tAndV, tOrV, tUn, rI0, rI, rU, rEq, rNe, tM1, tM0, tBM, tBM0, tSl, tPart, tNoPart, iStr, iEnumS, iRng1, iRng2, iList, gSub, tBits, tAug, tPar, L2.start, List.map_cons, List.map_nil, List.length_cons, List.length_nil, List.getElem?_cons_zero, List.getElem?_cons_succ, List.cons_append, List.nil_append, List.append_nil, List.set_cons_zero, List.set_cons_succ, List.replicate_succ, List.replicate_zero, Option.some.injEq, exists_eq_left', V.int.injEq, V.str.injEq, V.ref.injEq, V.bl.injEq, exists_and_left, exists_eq_left, List.cons.injEq, and_true, true_and, tCallX, tRs]
      refine ⟨g, _, 2, .int (z + i), rfl, rfl, SqL.of hg', rfl, ?_⟩
      simp only [cxOf_K, tAsg2, tYes, wipe, tSeq, tIfS, tNot, tB, tCB, tCons, tNil, tVar, tC, tTest, tOp, tAnd, tOr, tAsg, gName, tRet, tRetN, tDrop, tNext, tIf, tCall, tTup, tLst, tNotV, tAndV, tOrV, tUn, rI0, rI, rU, rEq, rNe, tM1, tM0, tBM, tBM0, tSl, tPart, tNoPart, iStr, iEnumS, iRng1, iRng2, iList, gSub, tBits, tAug, tPar, L2.start, List.map_cons, List.map_nil, List.length_cons, List.length_nil, List.getElem?_cons_zero, List.getElem?_cons_succ, List.cons_append, List.nil_append, List.append_nil, List.set_cons_zero, List.set_cons_succ, List.replicate_succ, List.replicate_zero, Option.some.injEq, exists_eq_left', V.int.injEq, V.str.injEq, V.ref.injEq, V.bl.injEq, exists_and_left, exists_eq_left, List.cons.injEq, and_true, true_and, tCallX, tRs]
      refine ⟨g, _, 2, 2, rfl, rfl, hg', rfl, ?_⟩
      refine ⟨cmulR (by decide), g, _, 1, .int y, rfl, rfl, SqL.of upd_same, rfl, ?_⟩
      refine ⟨g, _, 2, .int (z + i + 1), rfl, rfl, SqL.of upd_same, rfl, ?_⟩
      refine ⟨y, z + i + 1, rfl, by omega, by omega, fun r => ?_⟩
      simp only [cxOf_K, tAsg2, tYes, wipe, tSeq, tIfS, tNot, tB, tCB, tCons, tNil, tVar, tC, tTest, tOp, tAnd, tOr, tAsg, gName, tRet, tRetN, tDrop, tNext, tIf, tCall, tTup, tLst, tNotV, tAndV, tOrV, tUn, rI0, rI, rU, rEq, rNe, tM1, tM0, tBM, tBM0, tSl, tPart, tNoPart, iStr, iEnumS, iRng1, iRng2, iList, gSub, tBits, tAug, tPar, L2.start, List.map_cons, List.map_nil, List.length_cons, List.length_nil, List.getElem?_cons_zero, List.getElem?_cons_succ, List.cons_append, List.nil_append, List.append_nil, List.set_cons_zero, List.set_cons_succ, List.replicate_succ, List.replicate_zero, Option.some.injEq, exists_eq_left', V.int.injEq, V.str.injEq, V.ref.injEq, V.bl.injEq, exists_and_left, exists_eq_left, List.cons.injEq, and_true, true_and, tCallX, tRs]
      exact ⟨_, _, ⟨rfl, rfl⟩, fun p o hp ho => by rw [upd_ne hp]; exact k0 p o hp ho, z + i + 1, by rw [upd_same], by omega⟩
    · rintro σ H' ⟨d, a3, z', rfl, k0, hg', rfl⟩
      simp only [cxOf_K, tAsg2, tYes, wipe, tSeq, tIfS, tNot, tB, tCB, tCons, tNil, tVar, tC, tTest, tOp, tAnd, tOr, tAsg, gName, tRet, tRetN, tDrop, tNext, tIf, tCall, tTup, tLst, tNotV, tAndV, tOrV, tUn, rI0, rI, rU, rEq, rNe, tM1, tM0, tBM, tBM0, tSl, tPart, tNoPart, iStr, iEnumS, iRng1, iRng2, iList, gSub, tBits, tAug, tPar, L2.start, List.map_cons, List.map_nil, List.length_cons, List.length_nil, List.getElem?_cons_zero, List.getElem?_cons_succ, List.cons_append, List.nil_append, List.append_nil, List.set_cons_zero, List.set_cons_succ, List.replicate_succ, List.replicate_zero, Option.some.injEq, exists_eq_left', V.int.injEq, V.str.injEq, V.ref.injEq, V.bl.injEq, exists_and_left, exists_eq_left, List.cons.injEq, and_true, true_and, tCallX, tRs]
      exact ⟨by omega, q _ _ (Int.emod_nonneg _ (by omega)) (Int.emod_lt_of_pos _ (by omega)) k0 ⟨_, _, _, hg', by omega, by omega⟩⟩

theorem lit_str (t : Tr) : ("." : Str) = S t.cs ↔ t = .leaf := by
  rw [lit_dot, S_iff]
  constructor
  · intro h; exact Tr.cs_inj (t := .leaf) h.symm
  · intro h; rw [h]; rfl
theorem ok_law_tree (T : Txt w K mg) : ∀ k : Nat, FnD P w K mg base CX0 (k + 1) 3 T.a_law_tree T.fd_law_tree ["_law_generator_here", "_law_many"] (sp_law_tree K k)
  | 0 => by
    have no : ∀ vs H Q E, ¬ sp_law_tree K 0 vs H Q E := fun vs H Q E h => by
      obtain ⟨_, _, _, _, h, _⟩ := h
      omega
    exact ⟨fun vs H Q E h => absurd h (no vs H Q E), fun A outer s H args us vs Q E _ _ _ _ h => absurd h (no vs H Q E)⟩
  | k + 1 => by
    have rec_law_tree := ok_law_tree T k
    refine okD T.F_law_tree sc_law_tree (fun vs H Q E h => ?_) (fun cdv A outer s H vs Q E hr h => ?_)
    · obtain ⟨g, m, n, rfl, _⟩ := h; rfl
    obtain ⟨g, m, n, rfl, hm, hm2, hg, hn, q⟩ := h
    refine ⟨_, (pss_cons (ps_if (pt_cmpR op_eq (pv 1) pe_int (nomark _)) (pss_one (ps_ret pe_str)) pss_nil)
    (pss_cons (ps_set (i := 2) sc_law_tree.nd rfl (by first | exact Or.inl rfl | exact Or.inr rfl) (pe_ix ix_list (pe_lst (pa_cons pe_int (pa_cons (pe_op op_sub (pv 1) pe_int) (pa_cons (pe_call (ok_law_random T) (hr.room.mono (by first | decide | omega)) (by rfl) T.m_law_random T.F_law_random.kp T.b_law_random .nil pass0 (pa_cons (pv 0) (pa_cons (pv 1) pa_nil))) (pa_cons (pe_op op_fdivW (pv 1) pe_int) pa_nil))))) (pe_call (ok_law_random T) (hr.room.mono (by first | decide | omega)) (by rfl) T.m_law_random T.F_law_random.kp T.b_law_random .nil pass0 (pa_cons (pv 0) (pa_cons pe_int pa_nil))) (fun _ _ => rfl)))
    (pss_one (ps_ret (pe_op op_add_str (pe_op op_add_str (pe_op op_add_str pe_str (pe_callD rec_law_tree (hr.mono (by first | decide | omega) (by first | decide | omega)) (by rfl) T.m_law_tree T.F_law_tree.kp T.b_law_tree .nil pass0 (pa_cons (pv 0) (pa_cons (pv 2) pa_nil)))) (pe_callD rec_law_tree (hr.mono (by first | decide | omega) (by first | decide | omega)) (by rfl) T.m_law_tree T.F_law_tree.kp T.b_law_tree .nil pass0 (pa_cons (pv 0) (pa_cons (pe_op op_sub (pe_op op_sub (pv 1) pe_int) (pv 2)) pa_nil)))) pe_str))))), ?_⟩
    simp only [cxOf_K, tAsg2, tYes, wipe, tSeq, tIfS, tNot, tB, tCB, tCons, tNil, tVar, tC, tTest, tOp, tAnd, tOr, tAsg, gName, tRet, tRetN, tDrop, tNext, tIf, tCall, tTup, tLst, tNotV, tAndV, tOrV, tUn, rI0, rI, rU, rEq, rNe, tM1, tM0, tBM, tBM0, tSl, tPart, tNoPart, iStr, iEnumS, iRng1, iRng2, iList, gSub, tBits, tAug, tPar, L2.start, List.map_cons, List.map_nil, List.length_cons, List.length_nil, List.getElem?_cons_zero, List.getElem?_cons_succ, List.cons_append, List.nil_append, List.append_nil, List.set_cons_zero, List.set_cons_succ, List.replicate_succ, List.replicate_zero, Option.some.injEq, exists_eq_left', V.int.injEq, V.str.injEq, V.ref.injEq, V.bl.injEq, exists_and_left, exists_eq_left, List.cons.injEq, and_true, true_and, tCallX, tRs]
    refine ⟨rfl, ?_⟩
    by_cases h0 : (m : Int) = 0
    · refine ifdT h0 ?_
      have : m = 0 := by omega
      subst this
      rw [lit_dot]
      exact q .leaf H rfl (fun p o _ ho => ho) (hg.mono (by omega))
    · refine ifdF h0 ?_
      have hm0 : 0 < m := by omega
      refine ⟨g, m, n, rfl, hg, by omega, by omega, by omega, fun r H1 r0 r1 k1 g1 => ?_⟩
      simp only [cxOf_K, tAsg2, tYes, wipe, tSeq, tIfS, tNot, tB, tCB, tCons, tNil, tVar, tC, tTest, tOp, tAnd, tOr, tAsg, gName, tRet, tRetN, tDrop, tNext, tIf, tCall, tTup, tLst, tNotV, tAndV, tOrV, tUn, rI0, rI, rU, rEq, rNe, tM1, tM0, tBM, tBM0, tSl, tPart, tNoPart, iStr, iEnumS, iRng1, iRng2, iList, gSub, tBits, tAug, tPar, L2.start, List.map_cons, List.map_nil, List.length_cons, List.length_nil, List.getElem?_cons_zero, List.getElem?_cons_succ, List.cons_append, List.nil_append, List.append_nil, List.set_cons_zero, List.set_cons_succ, List.replicate_succ, List.replicate_zero, Option.some.injEq, exists_eq_left', V.int.injEq, V.str.injEq, V.ref.injEq, V.bl.injEq, exists_and_left, exists_eq_left, List.cons.injEq, and_true, true_and, tCallX, tRs]
      refine ⟨cdivW (by decide) (by decide), by decide, fun p hp => ?_⟩
      have g1' := g1.new (o := .lst [.int 0, .int ((m : Int) - 1), .int r, .int ((m : Int) / 2)]) hp
      refine ⟨g, 4, n + 3, rfl, g1', by omega, by decide, by decide, fun r2 H2 r20 r21 k2 g2 => ?_⟩
      obtain ⟨og, hog⟩ := hg.some
      have hgp : g ≠ p := by obtain ⟨o, ho⟩ := g1.some; exact ne_of_none ho hp
      have hp2 : H2 p = some (.lst [.int 0, .int ((m : Int) - 1), .int r, .int ((m : Int) / 2)]) := k2 p _ hgp.symm upd_same
      have hp0 : H p = none := k1.free g1.some hp ⟨_, hog⟩
      have k2' : Keep g H H2 := (k1.new hp0 _).trans k2
      obtain ⟨L, hL, hL2⟩ : ∃ L : Nat, atI [V.int 0, .int ((m : Int) - 1), .int r, .int ((m : Int) / 2)] r2 = some (.int (L : Nat)) ∧ L < m := by
        have : r2 = 0 ∨ r2 = 1 ∨ r2 = 2 ∨ r2 = 3 := by omega
        rcases this with rfl | rfl | rfl | rfl
        · exact ⟨0, rfl, hm0⟩
        · exact ⟨m - 1, by rw [show ((m - 1 : Nat) : Int) = (m : Int) - 1 by omega]; rfl, by omega⟩
        · exact ⟨r.toNat, by rw [show ((r.toNat : Nat) : Int) = r by omega]; rfl, by omega⟩
        · exact ⟨m / 2, by rw [show ((m / 2 : Nat) : Int) = (m : Int) / 2 by omega]; rfl, by omega⟩
      refine ⟨p, _, r2, .int (L : Nat), rfl, rfl, SqL.of hp2, hL, ?_⟩
      simp only [cxOf_K, tAsg2, tYes, wipe, tSeq, tIfS, tNot, tB, tCB, tCons, tNil, tVar, tC, tTest, tOp, tAnd, tOr, tAsg, gName, tRet, tRetN, tDrop, tNext, tIf, tCall, tTup, tLst, tNotV, tAndV, tOrV, tUn, rI0, rI, rU, rEq, rNe, tM1, tM0, tBM, tBM0, tSl, tPart, tNoPart, iStr, iEnumS, iRng1, iRng2, iList, gSub, tBits, tAug, tPar, L2.start, List.map_cons, List.map_nil, List.length_cons, List.length_nil, List.getElem?_cons_zero, List.getElem?_cons_succ, List.cons_append, List.nil_append, List.append_nil, List.set_cons_zero, List.set_cons_succ, List.replicate_succ, List.replicate_zero, Option.some.injEq, exists_eq_left', V.int.injEq, V.str.injEq, V.ref.injEq, V.bl.injEq, exists_and_left, exists_eq_left, List.cons.injEq, and_true, true_and, tCallX, tRs]
      refine ⟨g, L, n + 3 + 3, rfl, by omega, by omega, g2, by omega, fun t1 H3 ht1 k3 g3 => ?_⟩
      have l1 : t1.cs.length = 3 * L + 1 := by rw [Tr.cs_length, Tr.len_size, ht1]
      simp only [cxOf_K, tAsg2, tYes, wipe, tSeq, tIfS, tNot, tB, tCB, tCons, tNil, tVar, tC, tTest, tOp, tAnd, tOr, tAsg, gName, tRet, tRetN, tDrop, tNext, tIf, tCall, tTup, tLst, tNotV, tAndV, tOrV, tUn, rI0, rI, rU, rEq, rNe, tM1, tM0, tBM, tBM0, tSl, tPart, tNoPart, iStr, iEnumS, iRng1, iRng2, iList, gSub, tBits, tAug, tPar, L2.start, List.map_cons, List.map_nil, List.length_cons, List.length_nil, List.getElem?_cons_zero, List.getElem?_cons_succ, List.cons_append, List.nil_append, List.append_nil, List.set_cons_zero, List.set_cons_succ, List.replicate_succ, List.replicate_zero, Option.some.injEq, exists_eq_left', V.int.injEq, V.str.injEq, V.ref.injEq, V.bl.injEq, exists_and_left, exists_eq_left, List.cons.injEq, and_true, true_and, tCallX, tRs]
      refine ⟨by rw [lit_open]; simp only [S_len, List.length_append, List.length_cons, List.length_nil]; exact small5 (by omega), ?_⟩
      refine ⟨g, m - 1 - L, n + 3 + 3 + 6 * L, by rw [show ((m - 1 - L : Nat) : Int) = (m : Int) - 1 - (L : Int) by omega], by omega, by omega, g3, by omega, fun t2 H4 ht2 k4 g4 => ?_⟩
      have l2 : t2.cs.length = 3 * (m - 1 - L) + 1 := by rw [Tr.cs_length, Tr.len_size, ht2]
      simp only [cxOf_K, tAsg2, tYes, wipe, tSeq, tIfS, tNot, tB, tCB, tCons, tNil, tVar, tC, tTest, tOp, tAnd, tOr, tAsg, gName, tRet, tRetN, tDrop, tNext, tIf, tCall, tTup, tLst, tNotV, tAndV, tOrV, tUn, rI0, rI, rU, rEq, rNe, tM1, tM0, tBM, tBM0, tSl, tPart, tNoPart, iStr, iEnumS, iRng1, iRng2, iList, gSub, tBits, tAug, tPar, L2.start, List.map_cons, List.map_nil, List.length_cons, List.length_nil, List.getElem?_cons_zero, List.getElem?_cons_succ, List.cons_append, List.nil_append, List.append_nil, List.set_cons_zero, List.set_cons_succ, List.replicate_succ, List.replicate_zero, Option.some.injEq, exists_eq_left', V.int.injEq, V.str.injEq, V.ref.injEq, V.bl.injEq, exists_and_left, exists_eq_left, List.cons.injEq, and_true, true_and, tCallX, tRs]
      rw [lit_open, lit_close, S_app, S_app, S_app, S_len, S_len]
      refine ⟨by simp only [S_len, List.length_append, List.length_cons, List.length_nil]; exact small5 (by omega), by simp only [S_len, List.length_append, List.length_cons, List.length_nil]; exact small5 (by omega), ?_⟩
      have ek : [40] ++ t1.cs ++ t2.cs ++ [41] = (Tr.node t1 t2).cs := by simp [Tr.cs]
      rw [ek]
      exact q (.node t1 t2) H4 (by show t1.size + t2.size + 1 = m; omega) (k2'.trans (k3.trans k4)) (g4.mono (by omega))

/-- how a text is read: the stack, its top first -/
def prs : List Nat → List Tr → Option (List Tr)
  | [], st => some st
  | c :: cs, st => if c = 41 then (match st with | r :: l :: st' => prs cs (.node l r :: st') | _ => none) else if c = 46 then prs cs (.leaf :: st) else prs cs st
theorem prs_tree : ∀ (t : Tr) (rest : List Nat) (st : List Tr), prs (t.cs ++ rest) st = prs rest (t :: st)
  | .leaf, rest, st => rfl
  | .node l r, rest, st => by
    show prs (40 :: ((l.cs ++ (r.cs ++ [41])) ++ rest)) st = _
    show prs ((l.cs ++ (r.cs ++ [41])) ++ rest) st = _
    rw [List.append_assoc, prs_tree l, List.append_assoc, prs_tree r]
    rfl
theorem cut_m2 (xs : List V) (x y : V) : cutV (xs ++ [x, y]) none (some (-2)) = xs := by
  unfold cutV
  have e : HT.sIx (xs ++ [x, y]).length (xs ++ [x, y]).length (some (-2)) = xs.length := by
    unfold HT.sIx
    dsimp only
    rw [if_pos (by decide)]
    simp
    omega
  rw [e, HT.sIx_none]
  simp
theorem at_m2 (xs : List V) (x y : V) : atI (xs ++ [x, y]) (-2) = some x := by
  have h1 : ixN (xs ++ [x, y]).length (-2) = some xs.length := by
    unfold ixN
    rw [if_neg (by decide), if_pos (by simp; omega)]
    congr 1
    simp
    omega
  unfold atI
  rw [h1]
  simp
theorem ok_law_parsed (T : Txt w K mg) : FnOk P w K mg base CX0 2 T.a_law_parsed T.fd_law_parsed ["_law_tree_here"] (sp_law_parsed K) := by
  refine T.F_law_parsed.ok sc_law_parsed (fun vs H Q E h => ?_) (fun cdv A outer s H vs Q E hr h => ?_)
  · obtain ⟨t, rfl, _⟩ := h; rfl
  obtain ⟨t, rfl, ht, q⟩ := h
  have hru := hr.units
  refine ⟨_, (pss_cons (ps_set (i := 1) sc_law_parsed.nd rfl (by first | exact Or.inl rfl | exact Or.inr rfl) (pe_lst pa_nil))
    (pss_cons (ps_for PassesOwn.never rfl (pi_str (pv 0)) (pg_name (i := 2) sc_law_parsed.nd rfl (by first | exact Or.inl rfl | exact Or.inr rfl)) (pss_one (ps_if (pt_cmpR op_eq (pv 2) pe_str (nomark _)) (pss_one (ps_set (i := 1) sc_law_parsed.nd rfl (by first | exact Or.inl rfl | exact Or.inr rfl) (pe_op op_cat (pe_slice sl_list (pv 1) po_none (po_some (pe_un un_neg pe_int))) (pe_lst (pa_cons (pe_tup (pa_cons (pe_ix ix_list (pv 1) (pe_un un_neg pe_int) (fun _ _ => rfl)) (pa_cons (pe_ix ix_list (pv 1) (pe_un un_neg pe_int) (fun _ _ => rfl)) pa_nil))) pa_nil))))) (pss_one (ps_if (pt_cmpR op_eq (pv 2) pe_str (nomark _)) (pss_one (ps_expr (pe_bm PySem.F.plainAttrs_list PySem.F.slot_list_append PySem.F.type_list_append mt_append (pv 1) (pa_cons (pe_tup pa_nil) pa_nil)))) pss_nil)))))
    (pss_one (ps_ret (pe_ix ix_list (pv 1) pe_int (fun _ _ => rfl)))))), ?_⟩
  simp only [cxOf_K, tAsg2, tYes, wipe, tSeq, tIfS, tNot, tB, tCB, tCons, tNil, tVar, tC, tTest, tOp, tAnd, tOr, tAsg, gName, tRet, tRetN, tDrop, tNext, tIf, tCall, tTup, tLst, tNotV, tAndV, tOrV, tUn, rI0, rI, rU, rEq, rNe, tM1, tM0, tBM, tBM0, tSl, tPart, tNoPart, iStr, iEnumS, iRng1, iRng2, iList, gSub, tBits, tAug, tPar, L2.start, List.map_cons, List.map_nil, List.length_cons, List.length_nil, List.getElem?_cons_zero, List.getElem?_cons_succ, List.cons_append, List.nil_append, List.append_nil, List.set_cons_zero, List.set_cons_succ, List.replicate_succ, List.replicate_zero, Option.some.injEq, exists_eq_left', V.int.injEq, V.str.injEq, V.ref.injEq, V.bl.injEq, exists_and_left, exists_eq_left, List.cons.injEq, and_true, true_and, tCallX, tRs]
  refine ⟨by decide, fun p hp => ?_⟩
  have hcl := tr_len ht
  refine ⟨_, rfl, _, rfl, for_str (fun i σ H' => ∃ (f : Addr) (st : List Tr) (vs : List V) (a3 : Option V), σ = [some (trV t), some (.ref f), a3] ∧ Same H H' ∧ H f = none ∧ H' f = some (.lst vs.reverse) ∧ PTs H' vs st ∧ prs (t.cs.drop i) st = some [t] ∧ vs.length ≤ i) ?_ ?_ ?_⟩
  · refine ⟨p, [], [], none, rfl, (L2.Same.refl H).new hp _, hp, upd_same, .nil, ?_, Nat.le_refl _⟩
    have := prs_tree t [] []
    rw [List.append_nil] at this
    exact this
  · rintro i d σ H' hi ⟨f, st, vs, a3, rfl, s0, nf, hf, hv, e1, e2⟩
    have hil : i < (S t.cs).length := (Array.getElem?_eq_some_iff.mp hi).1
    rw [S_len] at hil
    have hd : t.cs[i]? = some d := by
      have := (Array.getElem?_eq_some_iff.mp hi).2
      rw [List.getElem?_eq_some_iff]
      exact ⟨hil, by simpa using this⟩
    have ed : t.cs.drop i = d :: t.cs.drop (i + 1) := by
      rw [List.drop_eq_getElem_cons hil]
      rw [(List.getElem?_eq_some_iff.mp hd).2]
    rw [ed] at e1
    simp only [cxOf_K, tAsg2, tYes, wipe, tSeq, tIfS, tNot, tB, tCB, tCons, tNil, tVar, tC, tTest, tOp, tAnd, tOr, tAsg, gName, tRet, tRetN, tDrop, tNext, tIf, tCall, tTup, tLst, tNotV, tAndV, tOrV, tUn, rI0, rI, rU, rEq, rNe, tM1, tM0, tBM, tBM0, tSl, tPart, tNoPart, iStr, iEnumS, iRng1, iRng2, iList, gSub, tBits, tAug, tPar, L2.start, List.map_cons, List.map_nil, List.length_cons, List.length_nil, List.getElem?_cons_zero, List.getElem?_cons_succ, List.cons_append, List.nil_append, List.append_nil, List.set_cons_zero, List.set_cons_succ, List.replicate_succ, List.replicate_zero, Option.some.injEq, exists_eq_left', V.int.injEq, V.str.injEq, V.ref.injEq, V.bl.injEq, exists_and_left, exists_eq_left, List.cons.injEq, and_true, true_and, tCallX, tRs]
    have sg : (({ cps := #[d] } : Str) = S [d]) := rfl
    rw [sg]
    refine ⟨rfl, ?_⟩
    by_cases c1 : d = 41
    · subst c1
      rw [if_pos (decide_eq_true lit_close.symm)]
      cases hv with
      | nil => exact absurd e1 (by simp [prs])
      | @cons v1 r vs1 st1 pr hv =>
        cases hv with
        | nil => exact absurd e1 (by simp [prs])
        | @cons v2 l vs2 st2 pl hv =>
          have e1' : prs (t.cs.drop (i + 1)) (.node l r :: st2) = some [t] := e1
          have ev : (v1 :: v2 :: vs2).reverse = vs2.reverse ++ [v2, v1] := by simp
          rw [ev] at hf
          refine ⟨f, _, rfl, SqL.of hf, fun g hg => ?_⟩
          rw [cut_m2]
          have nfg : f ≠ g := ne_of_none hf hg
          have s1 := (L2.Same.refl H').new hg (.lst vs2.reverse)
          have hf1 := s1 _ _ hf
          have hg1 : upd H' g (.lst vs2.reverse) g = some (.lst vs2.reverse) := upd_same
          generalize upd H' g (.lst vs2.reverse) = H1 at s1 hf1 hg1 ⊢
          refine ⟨f, _, -2, v2, rfl, rfl, SqL.of hf1, at_m2 _ _ _, f, _, -1, v1, rfl, rfl, SqL.of hf1, by rw [show vs2.reverse ++ [v2, v1] = (vs2.reverse ++ [v2]) ++ [v1] by simp]; exact atI_last _ _, by decide, fun p1 hp1 => ⟨by decide, fun p2 hp2 => ?_⟩⟩
          have s2 := (L2.Same.refl H1).new hp1 (.tup [v2, v1])
          have h1 : upd H1 p1 (.tup [v2, v1]) p1 = some _ := upd_same
          generalize upd H1 p1 (.tup [v2, v1]) = H2 at s2 h1 hp2 ⊢
          have s3 := (L2.Same.refl H2).new hp2 (.lst [V.ref p1])
          have h2 : upd H2 p2 (.lst [V.ref p1]) p2 = some _ := upd_same
          generalize upd H2 p2 (.lst [V.ref p1]) = H3 at s3 h2 ⊢
          have s123 := s1.trans (s2.trans s3)
          refine ⟨g, p2, _, _, rfl, rfl, s3 _ _ (s2 _ _ hg1), h2, small5 (by simp at e2 ⊢; omega), fun p3 hp3 => ?_⟩
          have s4 := (L2.Same.refl H3).new hp3 (.lst (vs2.reverse ++ [V.ref p1]))
          have sa := s123.trans s4
          refine ⟨p3, .node l r :: st2, V.ref p1 :: vs2, _, ⟨rfl, rfl⟩, s0.trans sa, (s0.trans s123).free hp3, by rw [upd_same]; simp, .cons (.node (s4 _ _ (s3 _ _ h1)) (pl.same sa) (pr.same sa)) (hv.same sa), e1', by simp at e2 ⊢; omega⟩
    · rw [if_neg (by simp only [decide_eq_true_eq]; rw [lit_close, S_iff]; simpa using c1)]
      refine ⟨rfl, ?_⟩
      by_cases c2 : d = 46
      · subst c2
        rw [if_pos (decide_eq_true lit_dot.symm)]
        refine ⟨tyV_lst hf, by decide, fun p1 hp1 => ?_⟩
        have s1 := (L2.Same.refl H').new hp1 (.tup [])
        have h1 : upd H' p1 (.tup []) p1 = some _ := upd_same
        generalize upd H' p1 (.tup []) = H1 at s1 h1 ⊢
        have hf1 := s1 _ _ hf
        refine ⟨f, _, _, rfl, rfl, hf1, small5' (by simp at e2 ⊢; omega), ?_⟩
        have kf : Keep f H1 (upd H1 f (.lst (vs.reverse ++ [V.ref p1]))) := fun b o nb hb => by rw [upd_ne nb]; exact hb
        refine ⟨f, .leaf :: st, V.ref p1 :: vs, _, ⟨rfl, rfl⟩, (s0.trans s1).new nf _, nf, by rw [upd_same]; simp, .cons (.leaf (kf _ _ (ne_of h1 hf1 fun z => by cases z) h1)) ((hv.same s1).keep kf hf1), ?_, by simp; omega⟩
        exact e1
      · rw [if_neg (by simp only [decide_eq_true_eq]; rw [lit_dot, S_iff]; simpa using c2)]
        refine ⟨f, st, vs, _, ⟨rfl, rfl⟩, s0, nf, hf, hv, ?_, by omega⟩
        rw [show prs (d :: t.cs.drop (i + 1)) st = prs (t.cs.drop (i + 1)) st by simp [prs, c1, c2]] at e1
        exact e1
  · rintro σ H' ⟨f, st, vs, a3, rfl, s0, nf, hf, hv, e1, e2⟩
    simp only [cxOf_K, tAsg2, tYes, wipe, tSeq, tIfS, tNot, tB, tCB, tCons, tNil, tVar, tC, tTest, tOp, tAnd, tOr, tAsg, gName, tRet, tRetN, tDrop, tNext, tIf, tCall, tTup, tLst, tNotV, tAndV, tOrV, tUn, rI0, rI, rU, rEq, rNe, tM1, tM0, tBM, tBM0, tSl, tPart, tNoPart, iStr, iEnumS, iRng1, iRng2, iList, gSub, tBits, tAug, tPar, L2.start, List.map_cons, List.map_nil, List.length_cons, List.length_nil, List.getElem?_cons_zero, List.getElem?_cons_succ, List.cons_append, List.nil_append, List.append_nil, List.set_cons_zero, List.set_cons_succ, List.replicate_succ, List.replicate_zero, Option.some.injEq, exists_eq_left', V.int.injEq, V.str.injEq, V.ref.injEq, V.bl.injEq, exists_and_left, exists_eq_left, List.cons.injEq, and_true, true_and, tCallX, tRs]
    have e0 : t.cs.drop (S t.cs).length = [] := by rw [S_len]; simp
    have e0' : t.cs.drop (S t.cs).cps.size = [] := e0
    rw [e0'] at e1
    have e3 : st = [t] := Option.some.inj e1
    subst e3
    cases hv with
    | @cons v1 _ vs1 _ pv hv =>
      cases hv
      exact ⟨f, _, 0, v1, rfl, rfl, SqL.of hf, rfl, q _ _ s0 pv⟩

theorem eqLeafE {K : PySem.W.Frag} {H : Hp} {v : V} {t : Tr} {p : Addr} {Q : VK} (h : PT H v t) (hp : H p = some (.tup [])) (q : Q (.bl (decide (t = .leaf))) H) : TV.rEqE K v (.ref p) H Q :=
  ⟨tD t, .tuple [], h.dp, .tup (SqT.of hp) .nil, tD_lay t, by decide +kernel, by simp [PyData.depth, PyData.depthAll]; omega, by rw [tD_leaf]; exact q⟩

theorem ok_law_nodes (T : Txt w K mg) : ∀ k : Nat, FnD P w K mg base CX0 (k + 1) 3 T.a_law_nodes T.fd_law_nodes ["_law_parsed_here", "_law_road"] (sp_law_nodes K k)
  | 0 => by
    have no : ∀ vs H Q E, ¬ sp_law_nodes K 0 vs H Q E := fun vs H Q E h => by
      obtain ⟨_, _, _, _, _, h, _⟩ := h
      omega
    exact ⟨fun vs H Q E h => absurd h (no vs H Q E), fun A outer s H args us vs Q E _ _ _ _ h => absurd h (no vs H Q E)⟩
  | k + 1 => by
    have rec_law_nodes := ok_law_nodes T k
    refine okD T.F_law_nodes sc_law_nodes (fun vs H Q E h => ?_) (fun cdv A outer s H vs Q E hr h => ?_)
    · obtain ⟨v, a, t, rfl, _⟩ := h; rfl
    obtain ⟨v, a, t, rfl, hv, hk, ha, q⟩ := h
    have hru := hr.room.units
    refine ⟨_, (pss_cons (ps_if (pt_cmpR (TV.op_eqE hru) (pv 0) (pe_tup pa_nil) (nomark _)) (pss_one (ps_ret (pe_lst pa_nil))) pss_nil)
    (pss_one (ps_ret (pe_op op_cat (pe_op op_cat (pe_callD rec_law_nodes (hr.mono (by first | decide | omega) (by first | decide | omega)) (by rfl) T.m_law_nodes T.F_law_nodes.kp T.b_law_nodes .nil pass0 (pa_cons (pe_ix ix_tup (pv 0) pe_int (fun _ _ => rfl)) (pa_cons (pe_op op_add_str (pv 1) pe_str) pa_nil))) (pe_lst (pa_cons (pv 1) pa_nil))) (pe_callD rec_law_nodes (hr.mono (by first | decide | omega) (by first | decide | omega)) (by rfl) T.m_law_nodes T.F_law_nodes.kp T.b_law_nodes .nil pass0 (pa_cons (pe_ix ix_tup (pv 0) pe_int (fun _ _ => rfl)) (pa_cons (pe_op op_add_str (pv 1) pe_str) pa_nil))))))), ?_⟩
    simp only [cxOf_K, tAsg2, tYes, wipe, tSeq, tIfS, tNot, tB, tCB, tCons, tNil, tVar, tC, tTest, tOp, tAnd, tOr, tAsg, gName, tRet, tRetN, tDrop, tNext, tIf, tCall, tTup, tLst, tNotV, tAndV, tOrV, tUn, rI0, rI, rU, rEq, rNe, tM1, tM0, tBM, tBM0, tSl, tPart, tNoPart, iStr, iEnumS, iRng1, iRng2, iList, gSub, tBits, tAug, tPar, L2.start, List.map_cons, List.map_nil, List.length_cons, List.length_nil, List.getElem?_cons_zero, List.getElem?_cons_succ, List.cons_append, List.nil_append, List.append_nil, List.set_cons_zero, List.set_cons_succ, List.replicate_succ, List.replicate_zero, Option.some.injEq, exists_eq_left', V.int.injEq, V.str.injEq, V.ref.injEq, V.bl.injEq, exists_and_left, exists_eq_left, List.cons.injEq, and_true, true_and, tCallX, tRs]
    refine ⟨by decide, fun p hp => ?_⟩
    have s0 := (L2.Same.refl H).new hp (.tup [])
    refine eqLeafE (hv.same s0) upd_same ⟨_, rfl, ?_⟩
    have al : (S a).length = a.length := S_len a
    cases hv with
    | leaf h =>
      rw [if_pos (by decide)]
      generalize upd H p (HO.tup []) = H0 at s0 ⊢
      refine ⟨Nat.zero_le _, fun p2 np2 => ?_⟩
      exact q p2 _ (s0.free np2) (s0.new (s0.free np2) _) upd_same
    | @node pn x y l r h hx hy =>
      rw [if_neg (by simp)]
      generalize upd H p (HO.tup []) = H0 at s0 ⊢
      have e1 : Tr.hgt (Tr.node l r) = max (Tr.hgt l) (Tr.hgt r) + 1 := rfl
      have e2 : (Tr.node l r).size = l.size + r.size + 1 := rfl
      have ll : (Str.ofString "l").length = 1 := rfl
      have lr : (Str.ofString "r").length = 1 := rfl
      refine ⟨pn, _, 0, x, rfl, rfl, SqT.of (s0 _ _ h), rfl, small5 (by rw [al, ll]; omega), ?_⟩
      rw [show Str.ofString "l" = S [108] by decide +kernel, S_app]
      refine ⟨x, a ++ [108], l, rfl, hx.same s0, by omega, by simp; omega, fun p1 H1 np1 s1 hp1 => ?_⟩
      have s1 := s0.trans s1
      have z1 := Tr.ndA_length l (a ++ [108])
      have z2 := Tr.ndA_length r (a ++ [114])
      refine ⟨by decide, fun p2 np2 => ?_⟩
      have s2 := s1.new (s1.free np2) (.lst [sV a])
      have h12 : upd H1 p2 (.lst [sV a]) p1 = _ := (upd_ne (ne_of_none hp1 np2)).trans hp1
      have h22 : upd H1 p2 (.lst [sV a]) p2 = some _ := upd_same
      generalize upd H1 p2 (.lst [sV a]) = H2 at s2 h12 h22 ⊢
      refine ⟨p1, p2, _, _, rfl, rfl, h12, h22, small5 (by rw [List.length_map, List.length_singleton]; omega), fun p3 np3 => ?_⟩
      have s3 := s2.new (s2.free np3) (.lst ((l.ndA (a ++ [108])).map sV ++ [sV a]))
      have h33 : upd H2 p3 (.lst ((l.ndA (a ++ [108])).map sV ++ [sV a])) p3 = some _ := upd_same
      generalize upd H2 p3 (.lst ((l.ndA (a ++ [108])).map sV ++ [sV a])) = H3 at s3 h33 ⊢
      refine ⟨pn, _, 1, y, rfl, rfl, SqT.of (s3 _ _ h), rfl, small5 (by rw [al, lr]; omega), ?_⟩
      rw [show Str.ofString "r" = S [114] by decide +kernel, S_app]
      refine ⟨y, a ++ [114], r, rfl, hy.same s3, by omega, by simp; omega, fun p4 H4 np4 s4 hp4 => ?_⟩
      have s34 := s3.trans s4
      refine ⟨p3, p4, _, _, rfl, rfl, s4 _ _ h33, hp4, small5 (by simp; omega), fun p5 np5 => ?_⟩
      refine q p5 _ (s34.free np5) (s34.new (s34.free np5) _) ?_
      rw [upd_same]
      simp [Tr.ndA]

theorem ok_law_text (T : Txt w K mg) : ∀ k : Nat, FnD P w K mg base CX0 (k + 1) 3 T.a_law_text T.fd_law_text ["_law_parsed_here"] (sp_law_text K k)
  | 0 => by
    have no : ∀ vs H Q E, ¬ sp_law_text K 0 vs H Q E := fun vs H Q E h => by
      obtain ⟨_, _, _, _, h, _⟩ := h
      omega
    exact ⟨fun vs H Q E h => absurd h (no vs H Q E), fun A outer s H args us vs Q E _ _ _ _ h => absurd h (no vs H Q E)⟩
  | k + 1 => by
    have rec_law_text := ok_law_text T k
    refine okD T.F_law_text sc_law_text (fun vs H Q E h => ?_) (fun cdv A outer s H vs Q E hr h => ?_)
    · obtain ⟨v, t, rfl, _⟩ := h; rfl
    obtain ⟨v, t, rfl, hv, hk, hs, q⟩ := h
    have hru := hr.room.units
    refine ⟨_, (pss_cons (ps_if (pt_cmpR (TV.op_eqE hru) (pv 0) (pe_tup pa_nil) (nomark _)) (pss_one (ps_ret pe_str)) pss_nil)
    (pss_one (ps_ret (pe_op op_add_str (pe_op op_add_str (pe_op op_add_str pe_str (pe_callD rec_law_text (hr.mono (by first | decide | omega) (by first | decide | omega)) (by rfl) T.m_law_text T.F_law_text.kp T.b_law_text .nil pass0 (pa_cons (pe_ix ix_tup (pv 0) pe_int (fun _ _ => rfl)) pa_nil))) (pe_callD rec_law_text (hr.mono (by first | decide | omega) (by first | decide | omega)) (by rfl) T.m_law_text T.F_law_text.kp T.b_law_text .nil pass0 (pa_cons (pe_ix ix_tup (pv 0) pe_int (fun _ _ => rfl)) pa_nil))) pe_str)))), ?_⟩
    simp only [cxOf_K, tAsg2, tYes, wipe, tSeq, tIfS, tNot, tB, tCB, tCons, tNil, tVar, tC, tTest, tOp, tAnd, tOr, tAsg, gName, tRet, tRetN, tDrop, tNext, tIf, tCall, tTup, tLst, tNotV, tAndV, tOrV, tUn, rI0, rI, rU, rEq, rNe, tM1, tM0, tBM, tBM0, tSl, tPart, tNoPart, iStr, iEnumS, iRng1, iRng2, iList, gSub, tBits, tAug, tPar, L2.start, List.map_cons, List.map_nil, List.length_cons, List.length_nil, List.getElem?_cons_zero, List.getElem?_cons_succ, List.cons_append, List.nil_append, List.append_nil, List.set_cons_zero, List.set_cons_succ, List.replicate_succ, List.replicate_zero, Option.some.injEq, exists_eq_left', V.int.injEq, V.str.injEq, V.ref.injEq, V.bl.injEq, exists_and_left, exists_eq_left, List.cons.injEq, and_true, true_and, tCallX, tRs]
    refine ⟨by decide, fun p hp => ?_⟩
    have s0 := (L2.Same.refl H).new hp (.tup [])
    refine eqLeafE (hv.same s0) upd_same ⟨_, rfl, ?_⟩
    cases hv with
    | leaf h =>
      rw [if_pos (by decide)]
      have := q _ s0
      rw [show trV .leaf = V.str "." from congrArg V.str lit_dot.symm] at this
      exact this
    | @node pn x y l r h hx hy =>
      rw [if_neg (by simp)]
      have e1 : Tr.hgt (Tr.node l r) = max (Tr.hgt l) (Tr.hgt r) + 1 := rfl
      have e2 : (Tr.node l r).size = l.size + r.size + 1 := rfl
      refine ⟨pn, _, 0, x, rfl, rfl, SqT.of (s0 _ _ h), rfl, ?_⟩
      refine ⟨x, l, rfl, hx.same s0, by omega, by omega, fun H1 s1 => ?_⟩
      have s1 := s0.trans s1
      have c1 := tr_len (t := l) (by omega)
      have c2 := tr_len (t := r) (by omega)
      refine ⟨_, rfl, by rw [lit_open, S_len, S_len]; exact small5 (by simp; omega), ?_⟩
      refine ⟨pn, _, 1, y, rfl, rfl, SqT.of (s1 _ _ h), rfl, ?_⟩
      refine ⟨y, r, rfl, hy.same s1, by omega, by omega, fun H2 s2 => ?_⟩
      refine ⟨_, rfl, ?_⟩
      have lc : (")" : Str) = S [41] := lit_close
      rw [lit_open, lc, S_app, S_app, S_app, S_len, S_len, S_len, S_len]
      have e3 : trV (Tr.node l r) = V.str (S ([40] ++ l.cs ++ r.cs ++ [41])) := by
        show V.str (S (40 :: (l.cs ++ (r.cs ++ [41])))) = _
        simp
      refine ⟨small5 (by simp; omega), small5 (by simp; omega), ?_⟩
      rw [← e3]
      exact q _ (s1.trans s2)

theorem ok_law_at (T : Txt w K mg) : FnOk P w K mg base CX0 3 T.a_law_at T.fd_law_at ["_law_parsed_here", "_law_road"] (sp_law_at K) := by
  refine T.F_law_at.ok sc_law_at (fun vs H Q E h => ?_) (fun cdv A outer s H vs Q E hr h => ?_)
  · obtain ⟨v, t, a, rfl, _⟩ := h; rfl
  obtain ⟨v, t, a, rfl, hv, ha, hi, qn, qs⟩ := h
  have hru := hr.units
  refine ⟨_, (pss_cons (ps_for PassesOwn.never rfl (pi_str (pv 1)) (pg_name (i := 2) sc_law_at.nd rfl (by first | exact Or.inl rfl | exact Or.inr rfl)) (pss_cons (ps_if (pt_cmpR (TV.op_eqE hru) (pv 0) (pe_tup pa_nil) (nomark _)) (pss_one (ps_ret pe_non)) pss_nil)
    (pss_one (ps_set (i := 0) sc_law_at.nd rfl (by first | exact Or.inl rfl | exact Or.inr rfl) (pe_ix ix_tup (pv 0) (pe_callTy call_intB (by rfl) T.z_int (by decide +kernel) (pa_cons (pe_cmpR op_eq (pv 2) pe_str (nomark _)) pa_nil)) (fun _ _ => rfl))))))
    (pss_one (ps_ret (pv 0)))), ?_⟩
  simp only [cxOf_K, tAsg2, tYes, wipe, tSeq, tIfS, tNot, tB, tCB, tCons, tNil, tVar, tC, tTest, tOp, tAnd, tOr, tAsg, gName, tRet, tRetN, tDrop, tNext, tIf, tCall, tTup, tLst, tNotV, tAndV, tOrV, tUn, rI0, rI, rU, rEq, rNe, tM1, tM0, tBM, tBM0, tSl, tPart, tNoPart, iStr, iEnumS, iRng1, iRng2, iList, gSub, tBits, tAug, tPar, L2.start, List.map_cons, List.map_nil, List.length_cons, List.length_nil, List.getElem?_cons_zero, List.getElem?_cons_succ, List.cons_append, List.nil_append, List.append_nil, List.set_cons_zero, List.set_cons_succ, List.replicate_succ, List.replicate_zero, Option.some.injEq, exists_eq_left', V.int.injEq, V.str.injEq, V.ref.injEq, V.bl.injEq, exists_and_left, exists_eq_left, List.cons.injEq, and_true, true_and, tCallX, tRs]
  refine ⟨_, rfl, S a, rfl, for_str (fun i σ H' => ∃ (u : V) (r : Tr) (a2 : Option V), σ = [some u, some (sV a), a2] ∧ Same H H' ∧ PT H' u r ∧ tat r (a.drop i) = tat t a) ⟨v, t, none, rfl, L2.Same.refl H, hv, by rw [List.drop_zero]⟩ ?_ ?_⟩
  · rintro i c σ H' hi2 ⟨u, r, a2, rfl, s0, pu, et⟩
    have hil : i < (S a).length := (Array.getElem?_eq_some_iff.mp hi2).1
    rw [S_len] at hil
    have hd : a[i]? = some c := by
      have := (Array.getElem?_eq_some_iff.mp hi2).2
      rw [List.getElem?_eq_some_iff]
      exact ⟨hil, by simpa using this⟩
    have ed : a.drop i = c :: a.drop (i + 1) := by
      rw [List.drop_eq_getElem_cons hil]
      rw [(List.getElem?_eq_some_iff.mp hd).2]
    rw [ed] at et
    have hc : c = 108 ∨ c = 114 := by
      have := List.all_eq_true.mp hi c (List.mem_of_getElem? hd)
      simpa using this
    simp only [cxOf_K, tAsg2, tYes, wipe, tSeq, tIfS, tNot, tB, tCB, tCons, tNil, tVar, tC, tTest, tOp, tAnd, tOr, tAsg, gName, tRet, tRetN, tDrop, tNext, tIf, tCall, tTup, tLst, tNotV, tAndV, tOrV, tUn, rI0, rI, rU, rEq, rNe, tM1, tM0, tBM, tBM0, tSl, tPart, tNoPart, iStr, iEnumS, iRng1, iRng2, iList, gSub, tBits, tAug, tPar, L2.start, List.map_cons, List.map_nil, List.length_cons, List.length_nil, List.getElem?_cons_zero, List.getElem?_cons_succ, List.cons_append, List.nil_append, List.append_nil, List.set_cons_zero, List.set_cons_succ, List.replicate_succ, List.replicate_zero, Option.some.injEq, exists_eq_left', V.int.injEq, V.str.injEq, V.ref.injEq, V.bl.injEq, exists_and_left, exists_eq_left, List.cons.injEq, and_true, true_and, tCallX, tRs]
    have sg : (({ cps := #[c] } : Str) = S [c]) := rfl
    rw [sg]
    refine ⟨by decide, fun p np => ?_⟩
    have s1 := s0.new (s0.free np) (.tup [])
    have k1 := (L2.Same.refl H').new np (.tup [])
    refine eqLeafE (pu.same k1) upd_same ⟨_, rfl, ?_⟩
    cases pu with
    | leaf h =>
      rw [if_pos (by decide)]
      exact qn (by rw [← et]; rfl) _ s1
    | @node pn x y l rr h hx hy =>
      rw [if_neg (by simp)]
      generalize upd H' p (HO.tup []) = H2 at s1 k1 ⊢
      have si : ∀ x y : Nat, (S [x] = S [y]) ↔ x = y := fun x y => ⟨fun z => by have := S_inj z; simpa using this, fun z => by rw [z]⟩
      rw [show Str.ofString "r" = S [114] by decide +kernel]
      have e1 : tat (.node l rr) (c :: a.drop (i + 1)) = if c = 108 then tat l (a.drop (i + 1)) else tat rr (a.drop (i + 1)) := rfl
      rw [e1] at et
      refine ⟨rfl, ?_⟩
      rcases hc with rfl | rfl
      · rw [if_pos rfl] at et
        rw [if_neg (by simp only [decide_eq_true_eq]; intro z; exact absurd ((si _ _).mp z) (by decide))]
        exact ⟨pn, _, 0, x, rfl, rfl, SqT.of (k1 _ _ h), rfl, _, _, _, ⟨rfl, rfl⟩, s1, hx.same k1, et⟩
      · rw [if_neg (by decide)] at et
        rw [if_pos (decide_eq_true rfl)]
        exact ⟨pn, _, 1, y, rfl, rfl, SqT.of (k1 _ _ h), rfl, _, _, _, ⟨rfl, rfl⟩, s1, hy.same k1, et⟩
  · rintro σ H' ⟨u, r, a2, rfl, s0, pu, et⟩
    have e : a.drop (S a).cps.size = [] := List.drop_eq_nil_of_le (by simp)
    rw [e, tat_nil] at et
    simp only [cxOf_K, tAsg2, tYes, wipe, tSeq, tIfS, tNot, tB, tCB, tCons, tNil, tVar, tC, tTest, tOp, tAnd, tOr, tAsg, gName, tRet, tRetN, tDrop, tNext, tIf, tCall, tTup, tLst, tNotV, tAndV, tOrV, tUn, rI0, rI, rU, rEq, rNe, tM1, tM0, tBM, tBM0, tSl, tPart, tNoPart, iStr, iEnumS, iRng1, iRng2, iList, gSub, tBits, tAug, tPar, L2.start, List.map_cons, List.map_nil, List.length_cons, List.length_nil, List.getElem?_cons_zero, List.getElem?_cons_succ, List.cons_append, List.nil_append, List.append_nil, List.set_cons_zero, List.set_cons_succ, List.replicate_succ, List.replicate_zero, Option.some.injEq, exists_eq_left', V.int.injEq, V.str.injEq, V.ref.injEq, V.bl.injEq, exists_and_left, exists_eq_left, List.cons.injEq, and_true, true_and, tCallX, tRs]
    exact qs r et.symm u H' s0 pu

theorem ok_law_put (T : Txt w K mg) : ∀ k : Nat, FnD P w K mg base CX0 (k + 1) 3 T.a_law_put T.fd_law_put ["_law_parsed_here", "_law_road", "_law_other"] (sp_law_put K k)
  | 0 => by
    have no : ∀ vs H Q E, ¬ sp_law_put K 0 vs H Q E := fun vs H Q E h => by
      obtain ⟨_, _, _, _, _, _, _, _, _, _, _, h, _⟩ := h
      omega
    exact ⟨fun vs H Q E h => absurd h (no vs H Q E), fun A outer s H args us vs Q E _ _ _ _ h => absurd h (no vs H Q E)⟩
  | k + 1 => by
    have rec_law_put := ok_law_put T k
    refine okD T.F_law_put sc_law_put (fun vs H Q E h => ?_) (fun cdv A outer s H vs Q E hr h => ?_)
    · obtain ⟨v, x, t, z, s', a, rfl, _⟩ := h; rfl
    obtain ⟨v, x, t, z, s', a, rfl, hv, hx, e, hi, hk, ha, q⟩ := h
    have hru := hr.room.units
    refine ⟨_, (pss_cons (ps_if (pt_cmpR op_eq (pv 1) pe_str (nomark _)) (pss_one (ps_ret (pv 2))) pss_nil)
    (pss_cons (ps_if (pt_cmpR op_eq (pe_ix ix_str (pv 1) pe_int (fun _ _ => rfl)) pe_str (nomark _)) (pss_one (ps_ret (pe_tup (pa_cons (pe_callD rec_law_put (hr.mono (by first | decide | omega) (by first | decide | omega)) (by rfl) T.m_law_put T.F_law_put.kp T.b_law_put .nil pass0 (pa_cons (pe_ix ix_tup (pv 0) pe_int (fun _ _ => rfl)) (pa_cons (pe_slice sl_str (pv 1) (po_some pe_int) po_none) (pa_cons (pv 2) pa_nil)))) (pa_cons (pe_ix ix_tup (pv 0) pe_int (fun _ _ => rfl)) pa_nil))))) pss_nil)
    (pss_one (ps_ret (pe_tup (pa_cons (pe_ix ix_tup (pv 0) pe_int (fun _ _ => rfl)) (pa_cons (pe_callD rec_law_put (hr.mono (by first | decide | omega) (by first | decide | omega)) (by rfl) T.m_law_put T.F_law_put.kp T.b_law_put .nil pass0 (pa_cons (pe_ix ix_tup (pv 0) pe_int (fun _ _ => rfl)) (pa_cons (pe_slice sl_str (pv 1) (po_some pe_int) po_none) (pa_cons (pv 2) pa_nil)))) pa_nil))))))), ?_⟩
    simp only [cxOf_K, tAsg2, tYes, wipe, tSeq, tIfS, tNot, tB, tCB, tCons, tNil, tVar, tC, tTest, tOp, tAnd, tOr, tAsg, gName, tRet, tRetN, tDrop, tNext, tIf, tCall, tTup, tLst, tNotV, tAndV, tOrV, tUn, rI0, rI, rU, rEq, rNe, tM1, tM0, tBM, tBM0, tSl, tPart, tNoPart, iStr, iEnumS, iRng1, iRng2, iList, gSub, tBits, tAug, tPar, L2.start, List.map_cons, List.map_nil, List.length_cons, List.length_nil, List.getElem?_cons_zero, List.getElem?_cons_succ, List.cons_append, List.nil_append, List.append_nil, List.set_cons_zero, List.set_cons_succ, List.replicate_succ, List.replicate_zero, Option.some.injEq, exists_eq_left', V.int.injEq, V.str.injEq, V.ref.injEq, V.bl.injEq, exists_and_left, exists_eq_left, List.cons.injEq, and_true, true_and, tCallX, tRs]
    have si : ∀ x y : Nat, (V.str (S [x]) = V.str (S [y])) ↔ x = y := fun x y => ⟨fun z => by have := S_inj (V.str.inj z); simpa using this, fun z => by rw [z]⟩
    have al : (S a).length = a.length := S_len a
    have ac : (S a).cps.toList = a := by simp
    rw [show Str.ofString "" = S [] by decide +kernel, show Str.ofString "l" = S [108] by decide +kernel]
    refine ⟨rfl, ?_⟩
    cases a with
    | nil =>
      rw [if_pos (decide_eq_true rfl)]
      have : put t [] z = z := by cases t <;> rfl
      rw [this] at q
      exact q x H (L2.Same.refl H) hx
    | cons c a =>
      rw [if_neg (by simp only [decide_eq_true_eq]; intro w; have := S_inj w; cases this)]
      have hc : c = 108 ∨ c = 114 := by
        have := List.all_eq_true.mp hi c (List.mem_cons_self ..)
        simpa using this
      have hi' : isA a = true := by
        have : isA (c :: a) = ((c == 108 || c == 114) && isA a) := rfl
        rw [this, Bool.and_eq_true] at hi
        exact hi.2
      simp only [List.length_cons] at hk ha
      cases hv with
      | leaf h => cases e
      | @node pn y1 y2 l rr h h1 h2 =>
        have e1 : tat (.node l rr) (c :: a) = if c = 108 then tat l a else tat rr a := rfl
        have e3 : put (.node l rr) (c :: a) z = if c = 108 then .node (put l a z) rr else .node l (put rr a z) := rfl
        rw [e1] at e
        rw [e3] at q
        have cut : cutS (S (c :: a)) (some 1) none = S a := by
          have := cutS_tail (c :: a) 1 (by simp)
          exact this
        have fit : (S (c :: a)).length ≤ sizeLine := small5 (by rw [al, List.length_cons]; omega)
        refine ⟨S (c :: a), 0, c, rfl, rfl, fit, by rw [ac]; exact atI_nat (j := 0) rfl, ?_⟩
        have sd : (({ cps := #[c] } : Str) = S [c]) := rfl
        rw [sd]
        refine ⟨rfl, ?_⟩
        rcases hc with rfl | rfl
        · rw [if_pos rfl] at e q
          refine ifdT rfl ?_
          refine ⟨pn, _, 0, y1, rfl, rfl, SqT.of h, rfl, S (108 :: a), rfl, fit, ?_⟩
          rw [cut]
          refine ⟨y1, x, l, z, s', a, rfl, h1, hx, e, hi', by omega, by omega, fun u H1 s1 pu => ?_⟩
          refine ⟨pn, _, 1, y2, rfl, rfl, SqT.of (s1 _ _ h), rfl, by decide, fun p np => ?_⟩
          have k1 := (L2.Same.refl H1).new np (.tup [u, y2])
          exact q (.ref p) _ (s1.new (s1.free np) _) (.node upd_same (pu.same k1) ((h2.same s1).same k1))
        · rw [if_neg (by decide)] at e q
          refine ifdF (fun w => absurd ((si _ _).mp w) (by decide)) ?_
          refine ⟨pn, _, 0, y1, rfl, rfl, SqT.of h, rfl, pn, _, 1, y2, rfl, rfl, SqT.of h, rfl, S (114 :: a), rfl, fit, ?_⟩
          rw [cut]
          refine ⟨y2, x, rr, z, s', a, rfl, h2, hx, e, hi', by omega, by omega, fun u H1 s1 pu => ⟨by decide, fun p np => ?_⟩⟩
          have k1 := (L2.Same.refl H1).new np (.tup [y1, u])
          exact q (.ref p) _ (s1.new (s1.free np) _) (.node upd_same ((h1.same s1).same k1) (pu.same k1))

theorem ok_law_turn (T : Txt w K mg) : FnD P w K mg base CX0 203 5 T.a_law_turn T.fd_law_turn ["_law_parsed_here", "_law_step"] (sp_law_turn K) := by
  refine okD T.F_law_turn sc_law_turn (fun vs H Q E h => ?_) (fun cdv A outer s H vs Q E hr h => ?_)
  · obtain ⟨v, q, t, w, a, rfl, _⟩ := h; rfl
  obtain ⟨v, q, t, w, a, rfl, pt, hq, hw, aA, al, qn, qs⟩ := h
  have hru := hr.room.units
  refine ⟨_, (pss_cons (ps_asg (pv 1) (pg_tup rfl (pgs_cons (pg_name (i := 2) sc_law_turn.nd rfl (by first | exact Or.inl rfl | exact Or.inr rfl)) (pgs_cons (pg_name (i := 3) sc_law_turn.nd rfl (by first | exact Or.inl rfl | exact Or.inr rfl)) pgs_nil))))
    (pss_cons (ps_set (i := 4) sc_law_turn.nd rfl (by first | exact Or.inl rfl | exact Or.inr rfl) (pe_call (ok_law_at T) (hr.room.mono (by first | decide | omega)) (by rfl) T.m_law_at T.F_law_at.kp T.b_law_at .nil pass0 (pa_cons (pv 0) (pa_cons (pv 3) pa_nil))))
    (pss_cons (ps_if (pw_or (pt_cmpR op_isN (pv 4) pe_non (nomark _)) (pw_or1 (pt_cmpR (TV.op_eqE hru) (pv 4) (pe_tup pa_nil) (nomark _)))).pt (pss_one (ps_ret pe_non)) pss_nil)
    (pss_cons (ps_if (pt_cmpR op_eq (pv 2) pe_str (nomark _)) (pss_cons (ps_if (pt_cmpR (TV.op_eqE hru) (pe_ix ix_tup (pv 4) pe_int (fun _ _ => rfl)) (pe_tup pa_nil) (nomark _)) (pss_one (ps_ret pe_non)) pss_nil)
    (pss_one (ps_set (i := 5) sc_law_turn.nd rfl (by first | exact Or.inl rfl | exact Or.inr rfl) (pe_tup (pa_cons (pe_ix ix_tup (pe_ix ix_tup (pv 4) pe_int (fun _ _ => rfl)) pe_int (fun _ _ => rfl)) (pa_cons (pe_tup (pa_cons (pe_ix ix_tup (pe_ix ix_tup (pv 4) pe_int (fun _ _ => rfl)) pe_int (fun _ _ => rfl)) (pa_cons (pe_ix ix_tup (pv 4) pe_int (fun _ _ => rfl)) pa_nil))) pa_nil)))))) (pss_cons (ps_if (pt_cmpR (TV.op_eqE hru) (pe_ix ix_tup (pv 4) pe_int (fun _ _ => rfl)) (pe_tup pa_nil) (nomark _)) (pss_one (ps_ret pe_non)) pss_nil)
    (pss_one (ps_set (i := 5) sc_law_turn.nd rfl (by first | exact Or.inl rfl | exact Or.inr rfl) (pe_tup (pa_cons (pe_tup (pa_cons (pe_ix ix_tup (pv 4) pe_int (fun _ _ => rfl)) (pa_cons (pe_ix ix_tup (pe_ix ix_tup (pv 4) pe_int (fun _ _ => rfl)) pe_int (fun _ _ => rfl)) pa_nil))) (pa_cons (pe_ix ix_tup (pe_ix ix_tup (pv 4) pe_int (fun _ _ => rfl)) pe_int (fun _ _ => rfl)) pa_nil)))))))
    (pss_one (ps_ret (pe_callD (ok_law_put T 200) (hr.mono (by first | decide | omega) (by first | decide | omega)) (by rfl) T.m_law_put T.F_law_put.kp T.b_law_put .nil pass0 (pa_cons (pv 0) (pa_cons (pv 3) (pa_cons (pv 5) pa_nil)))))))))), ?_⟩
  simp only [gCons, gNil, cxOf_K, tAsg2, tYes, wipe, tSeq, tIfS, tNot, tB, tCB, tCons, tNil, tVar, tC, tTest, tOp, tAnd, tOr, tAsg, gName, tRet, tRetN, tDrop, tNext, tIf, tCall, tTup, tLst, tNotV, tAndV, tOrV, tUn, rI0, rI, rU, rEq, rNe, tM1, tM0, tBM, tBM0, tSl, tPart, tNoPart, iStr, iEnumS, iRng1, iRng2, iList, gSub, tBits, tAug, tPar, L2.start, List.map_cons, List.map_nil, List.length_cons, List.length_nil, List.getElem?_cons_zero, List.getElem?_cons_succ, List.cons_append, List.nil_append, List.append_nil, List.set_cons_zero, List.set_cons_succ, List.replicate_succ, List.replicate_zero, Option.some.injEq, exists_eq_left', V.int.injEq, V.str.injEq, V.ref.injEq, V.bl.injEq, exists_and_left, exists_eq_left, List.cons.injEq, and_true, true_and, tCallX, tRs]
  refine ⟨q, _, rfl, SqT.of hq, rfl, _, _, rfl, _, _, rfl, rfl, ?_⟩
  simp only [gCons, gNil, cxOf_K, tAsg2, tYes, wipe, tSeq, tIfS, tNot, tB, tCB, tCons, tNil, tVar, tC, tTest, tOp, tAnd, tOr, tAsg, gName, tRet, tRetN, tDrop, tNext, tIf, tCall, tTup, tLst, tNotV, tAndV, tOrV, tUn, rI0, rI, rU, rEq, rNe, tM1, tM0, tBM, tBM0, tSl, tPart, tNoPart, iStr, iEnumS, iRng1, iRng2, iList, gSub, tBits, tAug, tPar, L2.start, List.map_cons, List.map_nil, List.length_cons, List.length_nil, List.getElem?_cons_zero, List.getElem?_cons_succ, List.cons_append, List.nil_append, List.append_nil, List.set_cons_zero, List.set_cons_succ, List.replicate_succ, List.replicate_zero, Option.some.injEq, exists_eq_left', V.int.injEq, V.str.injEq, V.ref.injEq, V.bl.injEq, exists_and_left, exists_eq_left, List.cons.injEq, and_true, true_and, tCallX, tRs]
  refine ⟨v, t, a, rfl, pt, by omega, aA, fun e H1 s1 => ifdT rfl ?_, fun s e u H1 s1 pu => ?_⟩
  · rw [if_pos trivial]
    exact qn (by unfold stepT; rw [e]; rfl) _ s1
  have st : stepT w a t = (turnT w s).map (put t a) := by unfold stepT; rw [e]; rfl
  have ru : ∃ pu : Addr, u = .ref pu := by cases pu <;> exact ⟨_, rfl⟩
  refine ifdF (fun z => by obtain ⟨pu, hu⟩ := ru; rw [hu] at z; cases z) ⟨by decide, fun p hp => ?_⟩
  have s2 := (L2.Same.refl H1).new hp (.tup [])
  refine eqLeafE (pu.same s2) upd_same ⟨_, rfl, ?_⟩
  have s2 := s1.trans s2
  cases pu with
  | leaf h =>
    rw [if_pos (by decide)]
    exact qn (by rw [st]; rfl) _ s2
  | @node pn x y l r h hx hy =>
    have h := (L2.Same.refl H1).new hp (.tup []) _ _ h
    have hx := hx.same ((L2.Same.refl H1).new hp (.tup []))
    have hy := hy.same ((L2.Same.refl H1).new hp (.tup []))
    rw [if_neg (by simp)]
    generalize upd H1 p (.tup []) = H2 at h hx hy s2 ⊢
    refine ⟨rfl, ?_⟩
    rcases hw with rfl | rfl
    · refine ifdF (by decide +kernel) ?_
      have tL : turnT (Str.ofString "left") (.node l r) = turnL l r := by unfold turnT; exact (if_neg (by decide +kernel)).trans (if_pos rfl)
      rw [tL] at st
      refine ⟨pn, _, 1, y, rfl, rfl, SqT.of h, rfl, by decide, fun p3 np3 => ?_⟩
      have s3 := (L2.Same.refl H2).new np3 (.tup [])
      refine eqLeafE (hy.same s3) upd_same ⟨_, rfl, ?_⟩
      have h := s3 _ _ h
      have hx := hx.same s3
      have hy := hy.same s3
      have s3 := s2.trans s3
      generalize upd H2 p3 (.tup []) = H3 at h hx hy s3 ⊢
      cases hy with
      | leaf h2 =>
        rw [if_pos (by decide)]
        exact qn (by rw [st]; cases l <;> rfl) _ s3
      | @node pm y1 y2 r1 r2 h2 hy1 hy2 =>
        rw [if_neg (by simp)]
        have st : stepT (Str.ofString "left") a t = some (put t a (.node (.node l r1) r2)) := by rw [st]; cases l <;> rfl
        refine ⟨pn, _, 0, x, rfl, rfl, SqT.of h, rfl, ?_⟩
        refine ⟨pn, _, 1, _, rfl, rfl, SqT.of h, rfl, ?_⟩
        refine ⟨pm, _, 0, y1, rfl, rfl, SqT.of h2, rfl, ?_⟩
        refine ⟨by decide, fun p4 np4 => ?_⟩
        have s4 := (L2.Same.refl H3).new np4 (.tup [x, y1])
        have h4 : upd H3 p4 (.tup [x, y1]) p4 = some _ := upd_same
        have h := s4 _ _ h
        have h2 := s4 _ _ h2
        have hx := hx.same s4
        have hy1 := hy1.same s4
        have hy2 := hy2.same s4
        have s4 := s3.trans s4
        generalize upd H3 p4 (.tup [x, y1]) = H4 at h h2 hx hy1 hy2 s4 h4 ⊢
        refine ⟨pn, _, 1, _, rfl, rfl, SqT.of h, rfl, ?_⟩
        refine ⟨pm, _, 1, y2, rfl, rfl, SqT.of h2, rfl, ?_⟩
        refine ⟨by decide, fun p5 np5 => ?_⟩
        have s5 := (L2.Same.refl H4).new np5 (.tup [V.ref p4, y2])
        have h5 : upd H4 p5 (.tup [V.ref p4, y2]) p5 = some _ := upd_same
        have pn5 : PT (upd H4 p5 (.tup [V.ref p4, y2])) (.ref p5) (.node (.node l r1) r2) := .node h5 (.node (s5 _ _ h4) (hx.same s5) (hy1.same s5)) (hy2.same s5)
        exact ⟨v, .ref p5, t, _, _, a, rfl, pt.same (s4.trans s5), pn5, e, aA, by omega, by omega, fun u H6 s6 pu => qs _ st u H6 (s4.trans (s5.trans s6)) pu⟩
    · refine ifdT rfl ?_
      have tR : turnT (Str.ofString "right") (.node l r) = turnR l r := by unfold turnT; exact if_pos rfl
      rw [tR] at st
      refine ⟨pn, _, 0, x, rfl, rfl, SqT.of h, rfl, by decide, fun p3 np3 => ?_⟩
      have s3 := (L2.Same.refl H2).new np3 (.tup [])
      refine eqLeafE (hx.same s3) upd_same ⟨_, rfl, ?_⟩
      have h := s3 _ _ h
      have hx := hx.same s3
      have hy := hy.same s3
      have s3 := s2.trans s3
      generalize upd H2 p3 (.tup []) = H3 at h hx hy s3 ⊢
      cases hx with
      | leaf h2 =>
        rw [if_pos (by decide)]
        exact qn (by rw [st]; rfl) _ s3
      | @node pm x1 x2 l1 l2 h2 hx1 hx2 =>
        rw [if_neg (by simp)]
        have st : stepT (Str.ofString "right") a t = some (put t a (.node l1 (.node l2 r))) := by rw [st]; rfl
        refine ⟨pn, _, 0, _, rfl, rfl, SqT.of h, rfl, ?_⟩
        refine ⟨pm, _, 0, x1, rfl, rfl, SqT.of h2, rfl, ?_⟩
        refine ⟨pn, _, 0, _, rfl, rfl, SqT.of h, rfl, ?_⟩
        refine ⟨pm, _, 1, x2, rfl, rfl, SqT.of h2, rfl, ?_⟩
        refine ⟨pn, _, 1, y, rfl, rfl, SqT.of h, rfl, ?_⟩
        refine ⟨by decide, fun p4 np4 => ⟨by decide, fun p5 np5 => ?_⟩⟩
        have s4 := (L2.Same.refl H3).new np4 (.tup [x2, y])
        have h4 : upd H3 p4 (.tup [x2, y]) p4 = some _ := upd_same
        have hx1 := hx1.same s4
        have hx2 := hx2.same s4
        have hy := hy.same s4
        have s4 := s3.trans s4
        generalize upd H3 p4 (.tup [x2, y]) = H4 at hx1 hx2 hy s4 h4 np5 ⊢
        have s5 := (L2.Same.refl H4).new np5 (.tup [x1, V.ref p4])
        have h5 : upd H4 p5 (.tup [x1, V.ref p4]) p5 = some _ := upd_same
        have pn5 : PT (upd H4 p5 (.tup [x1, V.ref p4])) (.ref p5) (.node l1 (.node l2 r)) := .node h5 (hx1.same s5) (.node (s5 _ _ h4) (hx2.same s5) (hy.same s5))
        exact ⟨v, .ref p5, t, _, _, a, rfl, pt.same (s4.trans s5), pn5, e, aA, by omega, by omega, fun u H6 s6 pu => qs _ st u H6 (s4.trans (s5.trans s6)) pu⟩

theorem ok_law_address (T : Txt w K mg) : FnOk P w K mg base CX0 4 T.a_law_address T.fd_law_address ["_law_generator_here", "_law_longest"] (sp_law_address K) := by
  refine T.F_law_address.ok sc_law_address (fun vs H Q E h => ?_) (fun cdv A outer s H vs Q E hr h => ?_)
  · obtain ⟨g, m, n, rfl, _⟩ := h; rfl
  obtain ⟨g, m, n, rfl, hg, hm, hn, q⟩ := h
  refine ⟨_, (pss_cons (ps_set (i := 2) sc_law_address.nd rfl (by first | exact Or.inl rfl | exact Or.inr rfl) (pe_lst pa_nil))
    (pss_cons (ps_for PassesOwn.never rfl (pi_range1 rfl T.z_range (pa_cons (pe_call (ok_law_random T) (hr.mono (by first | decide | omega)) (by rfl) T.m_law_random T.F_law_random.kp T.b_law_random .nil pass0 (pa_cons (pv 0) (pa_cons (pe_op op_add (pv 1) pe_int) pa_nil))) pa_nil)) (pg_name (i := 3) sc_law_address.nd rfl (by first | exact Or.inl rfl | exact Or.inr rfl)) (pss_one (ps_expr (pe_bm PySem.F.plainAttrs_list PySem.F.slot_list_append PySem.F.type_list_append mt_append (pv 2) (pa_cons (pe_ix ix_list (pe_lst (pa_cons pe_str (pa_cons pe_str pa_nil))) (pe_call (ok_law_random T) (hr.mono (by first | decide | omega)) (by rfl) T.m_law_random T.F_law_random.kp T.b_law_random .nil pass0 (pa_cons (pv 0) (pa_cons pe_int pa_nil))) (fun _ _ => rfl)) pa_nil)))))
    (pss_one (ps_ret (pe_join pe_str (pv 2)))))), ?_⟩
  simp only [cxOf_K, tAsg2, tYes, wipe, tSeq, tIfS, tNot, tB, tCB, tCons, tNil, tVar, tC, tTest, tOp, tAnd, tOr, tAsg, gName, tRet, tRetN, tDrop, tNext, tIf, tCall, tTup, tLst, tNotV, tAndV, tOrV, tUn, rI0, rI, rU, rEq, rNe, tM1, tM0, tBM, tBM0, tSl, tPart, tNoPart, iStr, iEnumS, iRng1, iRng2, iList, gSub, tBits, tAug, tPar, L2.start, List.map_cons, List.map_nil, List.length_cons, List.length_nil, List.getElem?_cons_zero, List.getElem?_cons_succ, List.cons_append, List.nil_append, List.append_nil, List.set_cons_zero, List.set_cons_succ, List.replicate_succ, List.replicate_zero, Option.some.injEq, exists_eq_left', V.int.injEq, V.str.injEq, V.ref.injEq, V.bl.injEq, exists_and_left, exists_eq_left, List.cons.injEq, and_true, true_and, tCallX, tRs]
  refine ⟨by decide, fun p np => ?_⟩
  have np0 := np
  have gp : p ≠ g := by obtain ⟨o, ho⟩ := hg.some; exact (ne_of_none ho np).symm
  have h1 : upd H p (.lst []) p = some (.lst (([] : List Nat).map fun c => V.str (S [c]))) := upd_same
  have k1 := Keep.of (g := g) ((L2.Same.refl H).new np (.lst []))
  have g1 := hg.new (o := .lst []) np
  generalize upd H p (.lst []) = H1 at h1 k1 g1 ⊢
  refine ⟨_, rfl, _, rfl, (m : Int), 1, rfl, rfl, g, (m : Int) + 1, n, rfl, g1, by omega, by omega, by omega, fun r H2 r0 r1 k2 g2 => ?_⟩
  have h2 := k2 _ _ gp h1
  have k2 := k1.trans k2
  clear k1 g1 h1 np
  refine ⟨r, rfl, by omega, by omega, for_range (fun i σ H' => ∃ (a : List Nat) (a3 : Option V), σ = [some (.ref g), some (.int (m : Nat)), some (.ref p), a3] ∧ isA a = true ∧ a.length = i ∧ H' p = some (.lst (a.map fun c => V.str (S [c]))) ∧ Keep g H H' ∧ GenAt H' g (n + 3 + 3 * i)) ⟨[], none, rfl, rfl, rfl, h2, k2, g2⟩ ?_ ?_⟩
  · rintro i σ H3 hi ⟨a, a3, rfl, aA, al, h3, k3, g3⟩
    have him : i < m := by omega
    simp only [cxOf_K, tAsg2, tYes, wipe, tSeq, tIfS, tNot, tB, tCB, tCons, tNil, tVar, tC, tTest, tOp, tAnd, tOr, tAsg, gName, tRet, tRetN, tDrop, tNext, tIf, tCall, tTup, tLst, tNotV, tAndV, tOrV, tUn, rI0, rI, rU, rEq, rNe, tM1, tM0, tBM, tBM0, tSl, tPart, tNoPart, iStr, iEnumS, iRng1, iRng2, iList, gSub, tBits, tAug, tPar, L2.start, List.map_cons, List.map_nil, List.length_cons, List.length_nil, List.getElem?_cons_zero, List.getElem?_cons_succ, List.cons_append, List.nil_append, List.append_nil, List.set_cons_zero, List.set_cons_succ, List.replicate_succ, List.replicate_zero, Option.some.injEq, exists_eq_left', V.int.injEq, V.str.injEq, V.ref.injEq, V.bl.injEq, exists_and_left, exists_eq_left, List.cons.injEq, and_true, true_and, tCallX, tRs]
    refine ⟨tyV_lst h3, by decide, fun p4 np4 => ⟨g, 2, _, rfl, g3.new np4, by omega, by decide, by decide, fun z H5 z0 z1 k5 g5 => ?_⟩⟩
    have pg : p4 ≠ g := by obtain ⟨o, ho⟩ := g3.some; exact (ne_of_none ho np4).symm
    have k4 := (L2.Same.refl H3).new np4 (.lst [V.str (Str.ofString "l"), .str (Str.ofString "r")])
    have h4 := k5 _ _ pg (upd_same (H := H3) (a := p4) (o := .lst [V.str (Str.ofString "l"), .str (Str.ofString "r")]))
    have h5 := k5 _ _ gp (k4 _ _ h3)
    have k5 := (k3.trans (Keep.of k4)).trans k5
    obtain ⟨c, hc, cA⟩ : ∃ c : Nat, atI [V.str (Str.ofString "l"), .str (Str.ofString "r")] z = some (.str (S [c])) ∧ isA [c] = true := by
      have : z = 0 ∨ z = 1 := by omega
      rcases this with rfl | rfl
      · exact ⟨108, by rw [show S [108] = Str.ofString "l" by decide +kernel]; rfl, by decide⟩
      · exact ⟨114, by rw [show S [114] = Str.ofString "r" by decide +kernel]; rfl, by decide⟩
    refine ⟨p4, _, z, _, rfl, rfl, SqL.of h4, hc, p, _, _, rfl, rfl, h5, by rw [List.length_map]; exact small5' (by omega), a ++ [c], by simp only [isA, List.all_append] at aA cA ⊢; rw [aA, cA]; rfl, by simp [al], ?_, ?_, ?_⟩
    · rw [upd_same, List.map_append]; rfl
    · exact fun b o nb hb => by
        by_cases e : b = p
        · rw [e, np0] at hb; cases hb
        · rw [upd_ne e]; exact k5 _ _ nb hb
    · obtain ⟨x, y, w, e1, e2, e3⟩ := g5
      exact ⟨x, y, w, by rw [upd_ne gp.symm]; exact e1, e2, by omega⟩
  · rintro σ H3 ⟨a, a3, rfl, aA, al, h3, k3, g3⟩
    simp only [cxOf_K, tAsg2, tYes, wipe, tSeq, tIfS, tNot, tB, tCB, tCons, tNil, tVar, tC, tTest, tOp, tAnd, tOr, tAsg, gName, tRet, tRetN, tDrop, tNext, tIf, tCall, tTup, tLst, tNotV, tAndV, tOrV, tUn, rI0, rI, rU, rEq, rNe, tM1, tM0, tBM, tBM0, tSl, tPart, tNoPart, iStr, iEnumS, iRng1, iRng2, iList, gSub, tBits, tAug, tPar, L2.start, List.map_cons, List.map_nil, List.length_cons, List.length_nil, List.getElem?_cons_zero, List.getElem?_cons_succ, List.cons_append, List.nil_append, List.append_nil, List.set_cons_zero, List.set_cons_succ, List.replicate_succ, List.replicate_zero, Option.some.injEq, exists_eq_left', V.int.injEq, V.str.injEq, V.ref.injEq, V.bl.injEq, exists_and_left, exists_eq_left, List.cons.injEq, and_true, true_and, tCallX, tRs]
    refine ⟨⟨_, rfl⟩, a.map (fun c => S [c]), .inl (SqL.of (by rw [h3, List.map_map]; rfl)), ?_, ?_⟩
    · rw [signs_sum, lit_empty, S_len]
      simp only [List.length_nil, Nat.mul_zero]
      omega
    · rw [lit_empty, signs_join]
      obtain ⟨x, y, z, e1, e2, e3⟩ := g3
      exact q a H3 aA (by omega) k3 ⟨x, y, z, e1, e2, by omega⟩

theorem ok_law_steps (T : Txt w K mg) : FnOk P w K mg base CX0 6 T.a_law_steps T.fd_law_steps ["_law_generator_here", "_law_many", "_law_deep"] (sp_law_steps K) := by
  refine T.F_law_steps.ok sc_law_steps (fun vs H Q E h => ?_) (fun cdv A outer s H vs Q E hr h => ?_)
  · obtain ⟨g, m, d, n, rfl, _⟩ := h; rfl
  obtain ⟨g, m, d, n, rfl, hg, hm, hd, hd2, hn, q⟩ := h
  refine ⟨_, (pss_cons (ps_set (i := 3) sc_law_steps.nd rfl (by first | exact Or.inl rfl | exact Or.inr rfl) (pe_lst pa_nil))
    (pss_cons (ps_for PassesOwn.never rfl (pi_range1 rfl T.z_range (pa_cons (pv 1) pa_nil)) (pg_name (i := 4) sc_law_steps.nd rfl (by first | exact Or.inl rfl | exact Or.inr rfl)) (pss_cons (ps_set (i := 5) sc_law_steps.nd rfl (by first | exact Or.inl rfl | exact Or.inr rfl) (pe_ix ix_list (pe_lst (pa_cons pe_str (pa_cons pe_str pa_nil))) (pe_call (ok_law_random T) (hr.mono (by first | decide | omega)) (by rfl) T.m_law_random T.F_law_random.kp T.b_law_random .nil pass0 (pa_cons (pv 0) (pa_cons pe_int pa_nil))) (fun _ _ => rfl)))
    (pss_one (ps_expr (pe_bm PySem.F.plainAttrs_list PySem.F.slot_list_append PySem.F.type_list_append mt_append (pv 3) (pa_cons (pe_tup (pa_cons (pv 5) (pa_cons (pe_call (ok_law_address T) (hr.mono (by first | decide | omega)) (by rfl) T.m_law_address T.F_law_address.kp T.b_law_address .nil pass0 (pa_cons (pv 0) (pa_cons (pe_ix ix_list (pe_lst (pa_cons pe_int (pa_cons pe_int (pa_cons pe_int (pa_cons (pv 2) pa_nil))))) (pe_call (ok_law_random T) (hr.mono (by first | decide | omega)) (by rfl) T.m_law_random T.F_law_random.kp T.b_law_random .nil pass0 (pa_cons (pv 0) (pa_cons pe_int pa_nil))) (fun _ _ => rfl)) pa_nil))) pa_nil))) pa_nil))))))
    (pss_one (ps_ret (pv 3))))), ?_⟩
  simp only [cxOf_K, tAsg2, tYes, wipe, tSeq, tIfS, tNot, tB, tCB, tCons, tNil, tVar, tC, tTest, tOp, tAnd, tOr, tAsg, gName, tRet, tRetN, tDrop, tNext, tIf, tCall, tTup, tLst, tNotV, tAndV, tOrV, tUn, rI0, rI, rU, rEq, rNe, tM1, tM0, tBM, tBM0, tSl, tPart, tNoPart, iStr, iEnumS, iRng1, iRng2, iList, gSub, tBits, tAug, tPar, L2.start, List.map_cons, List.map_nil, List.length_cons, List.length_nil, List.getElem?_cons_zero, List.getElem?_cons_succ, List.cons_append, List.nil_append, List.append_nil, List.set_cons_zero, List.set_cons_succ, List.replicate_succ, List.replicate_zero, Option.some.injEq, exists_eq_left', V.int.injEq, V.str.injEq, V.ref.injEq, V.bl.injEq, exists_and_left, exists_eq_left, List.cons.injEq, and_true, true_and, tCallX, tRs]
  refine ⟨by decide, fun p np => ?_⟩
  have np0 := np
  have gp : p ≠ g := by obtain ⟨o, ho⟩ := hg.some; exact (ne_of_none ho np).symm
  have h1 : upd H p (.lst []) p = some (.lst []) := upd_same
  have k1 := Keep.of (g := g) ((L2.Same.refl H).new np (.lst []))
  have g1 := hg.new (o := .lst []) np
  generalize upd H p (.lst []) = H1 at h1 k1 g1 ⊢
  refine ⟨_, rfl, m, rfl, by omega, by omega, for_range (fun i σ H' => ∃ (ws : List V) (xs : List (Str × List Nat)) (a4 a5 : Option V), σ = [some (.ref g), some (.int (m : Nat)), some (.int (d : Nat)), some (.ref p), a4, a5] ∧ xs.length = i ∧ H' p = some (.lst ws) ∧ Stps H' ws xs ∧ (∀ x ∈ xs, okSt d x) ∧ Keep g H H' ∧ GenAt H' g (n + (9 + 3 * d) * i)) ⟨[], [], _, _, rfl, rfl, h1, .nil, (fun x hx => by cases hx), k1, g1⟩ ?_ ?_⟩
  · rintro i σ H3 hi ⟨ws, xs, a4, a5, rfl, xl, h3, st, ok, k3, g3⟩
    have him : i < m := by omega
    simp only [cxOf_K, tAsg2, tYes, wipe, tSeq, tIfS, tNot, tB, tCB, tCons, tNil, tVar, tC, tTest, tOp, tAnd, tOr, tAsg, gName, tRet, tRetN, tDrop, tNext, tIf, tCall, tTup, tLst, tNotV, tAndV, tOrV, tUn, rI0, rI, rU, rEq, rNe, tM1, tM0, tBM, tBM0, tSl, tPart, tNoPart, iStr, iEnumS, iRng1, iRng2, iList, gSub, tBits, tAug, tPar, L2.start, List.map_cons, List.map_nil, List.length_cons, List.length_nil, List.getElem?_cons_zero, List.getElem?_cons_succ, List.cons_append, List.nil_append, List.append_nil, List.set_cons_zero, List.set_cons_succ, List.replicate_succ, List.replicate_zero, Option.some.injEq, exists_eq_left', V.int.injEq, V.str.injEq, V.ref.injEq, V.bl.injEq, exists_and_left, exists_eq_left, List.cons.injEq, and_true, true_and, tCallX, tRs]
    have nb : (9 + 3 * d) * i ≤ 609 * 100 := Nat.mul_le_mul (by omega) (by omega)
    have ns : (9 + 3 * d) * (i + 1) = (9 + 3 * d) * i + (9 + 3 * d) := Nat.mul_succ _ _
    generalize hN : (9 + 3 * d) * i = N at nb ns g3
    rw [ns]
    refine ⟨by decide, fun p1 np1 => ⟨g, 2, _, rfl, g3.new np1, by omega, by decide, by decide, fun z H5 z0 z1 k5 g5 => ?_⟩⟩
    have pg1 : p1 ≠ g := by obtain ⟨o, ho⟩ := g3.some; exact (ne_of_none ho np1).symm
    have s4 := (L2.Same.refl H3).new np1 (.lst [V.str (Str.ofString "left"), .str (Str.ofString "right")])
    have h4 := k5 _ _ pg1 (upd_same (H := H3) (a := p1) (o := .lst [V.str (Str.ofString "left"), .str (Str.ofString "right")]))
    have kA := (Keep.of (g := g) s4).trans k5
    have h5 := kA _ _ gp h3
    obtain ⟨w, hw, hw2⟩ : ∃ w : Str, atI [V.str (Str.ofString "left"), .str (Str.ofString "right")] z = some (.str w) ∧ (w = Str.ofString "left" ∨ w = Str.ofString "right") := by
      have : z = 0 ∨ z = 1 := by omega
      rcases this with rfl | rfl
      · exact ⟨_, rfl, .inl rfl⟩
      · exact ⟨_, rfl, .inr rfl⟩
    refine ⟨p1, _, z, _, rfl, rfl, SqL.of h4, hw, tyV_lst h5, by decide, fun p2 np2 => ⟨g, 4, _, rfl, g5.new np2, by omega, by decide, by decide, fun y H6 y0 y1 k6 g6 => ?_⟩⟩
    have pg2 : p2 ≠ g := by obtain ⟨o, ho⟩ := g5.some; exact (ne_of_none ho np2).symm
    have s5 := (L2.Same.refl H5).new np2 (.lst [V.int 0, .int 1, .int 2, .int (d : Nat)])
    have h6 := k6 _ _ pg2 (upd_same (H := H5) (a := p2) (o := .lst [V.int 0, .int 1, .int 2, .int (d : Nat)]))
    have kB := kA.trans ((Keep.of (g := g) s5).trans k6)
    obtain ⟨e, he, he2⟩ : ∃ e : Nat, atI [V.int 0, .int 1, .int 2, .int (d : Nat)] y = some (.int (e : Nat)) ∧ e ≤ d := by
      have : y = 0 ∨ y = 1 ∨ y = 2 ∨ y = 3 := by omega
      rcases this with rfl | rfl | rfl | rfl
      · exact ⟨0, rfl, by omega⟩
      · exact ⟨1, rfl, by omega⟩
      · exact ⟨2, rfl, by omega⟩
      · exact ⟨d, rfl, by omega⟩
    refine ⟨p2, _, y, _, rfl, rfl, SqL.of h6, he, g, e, _, rfl, g6, by omega, by omega, fun a H7 aA al k7 g7 => ⟨by decide, fun p3 np3 => ?_⟩⟩
    have kC := kB.trans k7
    have h7 := kC _ _ gp h3
    have s7 := (L2.Same.refl H7).new np3 (.tup [V.str w, sV a])
    have h8 : upd H7 p3 (.tup [V.str w, sV a]) p3 = some _ := upd_same
    have kD := kC.trans (Keep.of (g := g) s7)
    have h9 := s7 _ _ h7
    have pp3 : p3 ≠ p := (ne_of_none h7 np3).symm
    have g8 := g7.same s7
    generalize upd H7 p3 (.tup [V.str w, sV a]) = H8 at h8 kD h9 g8 ⊢
    have wl := st.length
    refine ⟨p, _, _, rfl, rfl, h9, small5' (by omega), ws ++ [.ref p3], xs ++ [(w, a)], _, _, ⟨rfl, rfl⟩, by simp [xl], upd_same, ?_, ?_, ?_, ?_⟩
    · refine Stps.append (st.mono fun b vs hb => ?_) (.cons ?_ .nil)
      · have b1 : b ≠ g := fun z => by obtain ⟨_, _, _, e, _⟩ := g3; rw [z, e] at hb; cases hb
        have b2 : b ≠ p := fun z => by rw [z, h3] at hb; cases hb
        rw [upd_ne b2]
        exact kD _ _ b1 hb
      · rw [upd_ne pp3]
        exact h8
    · intro x hx
      rcases List.mem_append.mp hx with hx | hx
      · exact ok x hx
      · rw [List.mem_singleton.mp hx]
        exact ⟨hw2, aA, by show a.length ≤ d; omega⟩
    · exact fun b o nb hb => by
        by_cases e : b = p
        · rw [e, np0] at hb; cases hb
        · rw [upd_ne e]; exact kD _ _ nb (k3 _ _ nb hb)
    · obtain ⟨x, y, w, e1, e2, e3⟩ := g8
      exact ⟨x, y, w, by rw [upd_ne gp.symm]; exact e1, e2, by omega⟩
  · rintro σ H3 ⟨ws, xs, a4, a5, rfl, xl, h3, st, ok, k3, g3⟩
    simp only [cxOf_K, tAsg2, tYes, wipe, tSeq, tIfS, tNot, tB, tCB, tCons, tNil, tVar, tC, tTest, tOp, tAnd, tOr, tAsg, gName, tRet, tRetN, tDrop, tNext, tIf, tCall, tTup, tLst, tNotV, tAndV, tOrV, tUn, rI0, rI, rU, rEq, rNe, tM1, tM0, tBM, tBM0, tSl, tPart, tNoPart, iStr, iEnumS, iRng1, iRng2, iList, gSub, tBits, tAug, tPar, L2.start, List.map_cons, List.map_nil, List.length_cons, List.length_nil, List.getElem?_cons_zero, List.getElem?_cons_succ, List.cons_append, List.nil_append, List.append_nil, List.set_cons_zero, List.set_cons_succ, List.replicate_succ, List.replicate_zero, Option.some.injEq, exists_eq_left', V.int.injEq, V.str.injEq, V.ref.injEq, V.bl.injEq, exists_and_left, exists_eq_left, List.cons.injEq, and_true, true_and, tCallX, tRs]
    have xl : xs.length = m := by omega
    exact q p ws xs H3 np0 k3 (by have := g3; simpa using this) h3 st xl ok

theorem exmT (T : Txt w K mg) {C : Addr} {l : List Value} (e : ErrC K C (.ref C :: .ref T.c_TurnError :: l)) : PySem.W.exmOne K (.ref C) (.ref T.c_TurnError) = some true := by
  refine PySem.W.exm_ref T.e_TurnError.ec.hs T.e_TurnError.ec.hd T.e_TurnError.ty ?_
  rw [e.sub rfl, List.contains_cons, List.contains_cons, show ((Value.ref T.c_TurnError) == (Value.ref T.c_TurnError)) = true from beq_self_eq_true _, Bool.true_or, Bool.or_true]
theorem kitFalse (T : Txt w K mg) {C D : Addr} (x : ErrC K C (.ref C :: .ref T.c_TurnError :: veL)) (y : ErrC K D (.ref D :: .ref T.c_TurnError :: veL)) (h1 : C ≠ D) (h2 : D ≠ T.c_TurnError) : PySem.W.kitOne K (.ref C) (.ref D) = some false := by
  rw [kit_own x y, decide_eq_false h1, Bool.false_or]
  have e : ((Value.ref D) == (Value.ref T.c_TurnError)) = false := beq_eq_false_iff_ne.mpr fun z => h2 (Value.ref.inj z)
  have ve : veL.contains (Value.ref D) = false := rfl
  rw [List.contains_cons, e, ve]
  rfl

theorem putSize : ∀ (t : Tr) (a : List Nat) (p u : Tr), tat t a = some p → u.size = p.size → (put t a u).size = t.size
  | t, [], p, u, h, e => by
    rw [tat_nil] at h
    cases h
    have : put t [] u = u := by cases t <;> rfl
    rw [this, e]
  | .leaf, c :: a, p, u, h, e => by cases h
  | .node l r, c :: a, p, u, h, e => by
    have h : (if c = 108 then tat l a else tat r a) = some p := h
    show (if c = 108 then Tr.node (put l a u) r else Tr.node l (put r a u)).size = _
    by_cases hc : c = 108
    · rw [if_pos hc] at h ⊢
      have := putSize l a p u h e
      show (put l a u).size + r.size + 1 = l.size + r.size + 1
      omega
    · rw [if_neg hc] at h ⊢
      have := putSize r a p u h e
      show l.size + (put r a u).size + 1 = l.size + r.size + 1
      omega
theorem stepSize {w : Str} {a : List Nat} {t s : Tr} (h : stepT w a t = some s) : s.size = t.size := by
  unfold stepT at h
  obtain ⟨u, hu, rfl⟩ := Option.map_eq_some_iff.mp h
  obtain ⟨p, hp, hu⟩ := Option.bind_eq_some_iff.mp hu
  have h1 : u.size = p.size := by
    unfold turnT at hu
    cases p with
    | leaf => cases hu
    | node l r =>
      simp only at hu
      split at hu
      · cases l with
        | leaf => cases hu
        | node a b =>
          cases hu
          show a.size + (b.size + r.size + 1) + 1 = (a.size + b.size + 1) + r.size + 1
          omega
      · split at hu
        · cases r with
          | leaf => cases hu
          | node b c =>
            cases hu
            show (l.size + b.size + 1) + c.size + 1 = l.size + (b.size + c.size + 1) + 1
            omega
        · cases hu
  exact putSize t a p u hp h1
theorem ok_turned (T : Txt w K mg) : FnOk P w K mg base (L2.CX P w) 10 T.a_turned T.fd_turned ["tree", "steps"] (sp_turned T) := by
  refine T.F_turned.okX sc_turned (fun vs H Q E h => ?_) (fun cdv A outer s H vs Q E hr h => ?_)
  · obtain ⟨u, v, rfl, _⟩ := h; rfl
  obtain ⟨u, v, rfl, h⟩ := h
  refine ⟨_, (pss_cons (ps_expr (pe_callX (ok_check_tree T) (takes_of rfl rfl rfl rfl) (hr.mono (by first | decide | omega)) (by rfl) T.m_check_tree T.F_check_tree.kp T.b_check_tree .nil (pa_cons (pv 0) pa_nil)))
    (pss_cons (ps_set (i := 2) sc_turned.nd rfl (by first | exact Or.inl rfl | exact Or.inr rfl) (pe_callX (ok_checked_script T) (takes_of rfl rfl rfl rfl) (hr.mono (by first | decide | omega)) (by rfl) T.m_checked_script T.F_checked_script.kp T.b_checked_script .nil (pa_cons (pv 1) pa_nil)))
    (pss_cons (ps_set (i := 3) sc_turned.nd rfl (by first | exact Or.inl rfl | exact Or.inr rfl) (pe_slice sl_str (pv 0) po_none po_none))
    (pss_cons (ps_for (passes_of rfl) rfl (pi_enum (by rfl) T.z_enumerate (pa_cons (pv 2) pa_nil)) (pg_tup rfl (pgs_cons (pg_name (i := 4) sc_turned.nd rfl (by first | exact Or.inl rfl | exact Or.inr rfl)) (pgs_cons (pg_tup rfl (pgs_cons (pg_name (i := 5) sc_turned.nd rfl (by first | exact Or.inl rfl | exact Or.inr rfl)) (pgs_cons (pg_name (i := 6) sc_turned.nd rfl (by first | exact Or.inl rfl | exact Or.inr rfl)) pgs_nil))) pgs_nil))) (pss_cons (ps_set (i := 3) sc_turned.nd rfl (by first | exact Or.inl rfl | exact Or.inr rfl) (pe_call (ok_after_step T) (hr.mono (by first | decide | omega)) (by rfl) T.m_after_step T.F_after_step.kp T.b_after_step .nil pass0 (pa_cons (pv 3) (pa_cons (pv 5) (pa_cons (pv 6) pa_nil)))))
    (pss_one (ps_if (pt_cmpR op_isN (pv 3) pe_non (nomark _)) (pss_one (ps_raise rfl (takes_of rfl rfl rfl rfl) (pmk_err T.o_CannotTurn (hr.mono (by first | decide | omega)) (by rfl) (pv 4)))) pss_nil))))
    (pss_one (ps_ret (pv 3))))))), ?_⟩
  simp only [cxOf_K, tAsg2, tYes, wipe, tSeq, tIfS, tNot, tB, tCB, tCons, tNil, tVar, tC, tTest, tOp, tAnd, tOr, tAsg, gName, tRet, tRetN, tDrop, tNext, tIf, tCall, tTup, tLst, tNotV, tAndV, tOrV, tUn, rI0, rI, rU, rEq, rNe, tM1, tM0, tBM, tBM0, tSl, tPart, tNoPart, iStr, iEnumS, iRng1, iRng2, iList, gSub, tBits, tAug, tPar, L2.start, List.map_cons, List.map_nil, List.length_cons, List.length_nil, List.getElem?_cons_zero, List.getElem?_cons_succ, List.cons_append, List.nil_append, List.append_nil, List.set_cons_zero, List.set_cons_succ, List.replicate_succ, List.replicate_zero, Option.some.injEq, exists_eq_left', V.int.injEq, V.str.injEq, V.ref.injEq, V.bl.injEq, exists_and_left, exists_eq_left, List.cons.injEq, and_true, true_and, tCallX, tRs]
  rcases h with ⟨t, rfl, ht, h⟩ | ⟨nt, out⟩
  · refine ⟨_, rfl, .inl ⟨t, rfl, ht, fun H1 s1 => ?_⟩⟩
    rcases h with ⟨xs, gs, ok, hq, ho⟩ | ⟨bs, out⟩
    · refine ⟨_, rfl, .inl ⟨xs, gs.same s1, fun p ws H2 np s2 hp st => ?_⟩⟩
      have sl : (S t.cs).length ≤ sizeLine := small5 (by rw [S_len]; have := tr_len ht; omega)
      refine ⟨_, rfl, sl, ?_⟩
      rw [cutAll]
      have s12 := s1.trans s2
      have wl := st.length
      refine ⟨_, rfl, p, ws, rfl, SqL.of hp, TD.for_enumL (K := K) (a := p) (xs := ws) (fun i σ H' => ∃ (u : Tr) (a4 a5 a6 : Option V), σ = [some (trV t), some v, some (.ref p), some (trV u), a4, a5, a6] ∧ Same H H' ∧ H' p = some (.lst ws) ∧ Stps H' ws xs ∧ u.size = t.size ∧ runT i (xs.drop i) u = runT 0 xs t) ⟨t, none, none, none, rfl, s12, hp, st, rfl, rfl⟩ ?_ ?_ ?_⟩
      · rintro i σ H' ⟨u, a4, a5, a6, rfl, s3, h3, st3, us, ru⟩
        exact SqL.of h3
      · rintro i x σ H' T' hi ⟨u, a4, a5, a6, rfl, s3, h3, st3, us, ru⟩ nT
        obtain ⟨p4, x, rfl, hx, hp4⟩ := st3.get hi
        have okx := ok x (List.mem_of_getElem? hx)
        have s4 := (L2.Same.refl H').new nT (.tup [.int (i : Nat), .ref p4])
        have hT : upd H' T' (.tup [.int (i : Nat), .ref p4]) T' = some (.tup [.int (i : Nat), .ref p4]) := upd_same
        have s34 := s3.trans s4
        have h4 := s4 _ _ h3
        have st4 := st3.same s4
        have hp5 := s4 _ _ hp4
        generalize upd H' T' (.tup [.int (i : Nat), .ref p4]) = H4 at s34 hT h4 st4 hp5 ⊢
        simp only [gTup, gCons, gNil, cxOf_K, tAsg2, tYes, wipe, tSeq, tIfS, tNot, tB, tCB, tCons, tNil, tVar, tC, tTest, tOp, tAnd, tOr, tAsg, gName, tRet, tRetN, tDrop, tNext, tIf, tCall, tTup, tLst, tNotV, tAndV, tOrV, tUn, rI0, rI, rU, rEq, rNe, tM1, tM0, tBM, tBM0, tSl, tPart, tNoPart, iStr, iEnumS, iRng1, iRng2, iList, gSub, tBits, tAug, tPar, L2.start, List.map_cons, List.map_nil, List.length_cons, List.length_nil, List.getElem?_cons_zero, List.getElem?_cons_succ, List.cons_append, List.nil_append, List.append_nil, List.set_cons_zero, List.set_cons_succ, List.replicate_succ, List.replicate_zero, Option.some.injEq, exists_eq_left', V.int.injEq, V.str.injEq, V.ref.injEq, V.bl.injEq, exists_and_left, exists_eq_left, List.cons.injEq, and_true, true_and, tCallX, tRs]
        have dr : xs.drop i = x :: xs.drop (i + 1) := by
          have il : i < xs.length := by
            rcases Nat.lt_or_ge i xs.length with q | q
            · exact q
            · rw [List.getElem?_eq_none_iff.mpr q] at hx; cases hx
          rw [List.drop_eq_getElem_cons il]
          rw [List.getElem?_eq_getElem il] at hx
          cases hx
          rfl
        have r1 : runT i (x :: xs.drop (i + 1)) u = runT 0 xs t := by rw [← dr]; exact ru
        refine ⟨_, SqT.of hT, rfl, _, _, rfl, _, _, rfl, p4, rfl, _, SqT.of hp5, rfl, _, _, rfl, _, _, rfl, rfl, rfl, u, x.1, x.2, rfl, by omega, okx.2.2, fun sn H5 s5 => ?_, fun s' ss H5 s5 => ?_⟩
        · show (if decide (V.non = V.non) = true then _ else _)
          rw [if_pos (decide_eq_true rfl)]
          have r2 : runT 0 xs t = .inr i := by
            rw [← r1]
            simp only [runT, sn]
          exact fun d H6 s6 n6 e6 => ho i r2 d H6 ((s34.trans s5).trans s6) ((s34.trans s5).free n6) e6
        · show (if decide (trV s' = V.non) = true then _ else _)
          rw [if_neg (by simp [trV])]
          refine ⟨s', _, _, _, ⟨rfl, rfl, rfl, rfl⟩, s34.trans s5, s5 _ _ h4, st4.same s5, by rw [stepSize ss, us], ?_⟩
          rw [← r1]
          simp only [runT, ss]
      · rintro σ H' ⟨u, a4, a5, a6, rfl, s3, h3, st3, us, ru⟩
        simp only [cxOf_K, tAsg2, tYes, wipe, tSeq, tIfS, tNot, tB, tCB, tCons, tNil, tVar, tC, tTest, tOp, tAnd, tOr, tAsg, gName, tRet, tRetN, tDrop, tNext, tIf, tCall, tTup, tLst, tNotV, tAndV, tOrV, tUn, rI0, rI, rU, rEq, rNe, tM1, tM0, tBM, tBM0, tSl, tPart, tNoPart, iStr, iEnumS, iRng1, iRng2, iList, gSub, tBits, tAug, tPar, L2.start, List.map_cons, List.map_nil, List.length_cons, List.length_nil, List.getElem?_cons_zero, List.getElem?_cons_succ, List.cons_append, List.nil_append, List.append_nil, List.set_cons_zero, List.set_cons_succ, List.replicate_succ, List.replicate_zero, Option.some.injEq, exists_eq_left', V.int.injEq, V.str.injEq, V.ref.injEq, V.bl.injEq, exists_and_left, exists_eq_left, List.cons.injEq, and_true, true_and, tCallX, tRs]
        rw [wl, List.drop_length] at ru
        exact hq u ru.symm H' s3
    · exact ⟨_, rfl, .inr ⟨bs.same s1, Out.same out s1⟩⟩
  · exact ⟨_, rfl, .inr ⟨nt, out⟩⟩

def topsA (t : Tr) (a : List Nat) : List (List Nat) := ((t.adrs a).filter fun x => x.2 == 40).map (·.1)
theorem topsA_node (l r : Tr) (a : List Nat) : topsA (.node l r) a = a :: (topsA l (a ++ [108]) ++ topsA r (a ++ [114])) := by
  simp [topsA, Tr.adrs]
theorem topsA_len : ∀ (t : Tr) (a : List Nat), (topsA t a).length = t.size
  | .leaf, a => rfl
  | .node l r, a => by
    rw [topsA_node, List.length_cons, List.length_append, topsA_len l, topsA_len r]
    rfl
theorem topsA_perm : ∀ (t : Tr) (a : List Nat), (topsA t a).Perm (t.ndA a)
  | .leaf, a => .nil
  | .node l r, a => by
    rw [topsA_node]
    refine (List.Perm.trans ?_ (((topsA_perm l _).append_right [a]).append (topsA_perm r _)))
    rw [List.append_assoc]
    exact List.perm_middle.symm
theorem tops_lt {t : Tr} {a : List Nat} (h : a ∈ tops t) : a.length ≤ t.size := by
  have := Tr.ndA_len t [] a ((topsA_perm t []).mem_iff.mp h)
  simpa using this
theorem mem_S {a : List Nat} {xs : List (List Nat)} : decide (S a ∈ xs.map S) = decide (a ∈ xs) := by
  refine decide_eq_decide.mpr ⟨fun h => ?_, fun h => List.mem_map.mpr ⟨a, h, rfl⟩⟩
  obtain ⟨b, hb, e⟩ := List.mem_map.mp h
  rwa [← S_inj e]
/-- the steps with one word -/
def side (t : Tr) (wd : Str) (c : Nat) (xs : List (List Nat)) : List (Str × List Nat) := (xs.filter fun a => decide (a ++ [c] ∈ tops t)).map fun a => (wd, a)
theorem side_len (t : Tr) (wd : Str) (c : Nat) (xs : List (List Nat)) : (side t wd c xs).length ≤ xs.length := by
  unfold side
  rw [List.length_map]
  exact List.length_filter_le ..
theorem ok_steps_of (T : Txt w K mg) : FnOk P w K mg base (L2.CX P w) 6 T.a_steps_of T.fd_steps_of ["tree"] (sp_steps_of T) := by
  refine T.F_steps_of.okX sc_steps_of (fun vs H Q E h => ?_) (fun cdv A outer s H vs Q E hr h => ?_)
  · obtain ⟨u, rfl, _⟩ := h; rfl
  obtain ⟨u, rfl, h⟩ := h
  refine ⟨_, (pss_cons (ps_expr (pe_callX (ok_check_tree T) (takes_of rfl rfl rfl rfl) (hr.mono (by first | decide | omega)) (by rfl) T.m_check_tree T.F_check_tree.kp T.b_check_tree .nil (pa_cons (pv 0) pa_nil)))
    (pss_cons (ps_set (i := 1) sc_steps_of.nd rfl (by first | exact Or.inl rfl | exact Or.inr rfl) (pe_lc (own := [("address", 2), ("sign", 3)]) rfl sc_steps_of.nd (pi_list (pe_call (ok_addressed T) (hr.mono (by first | decide | omega)) (by rfl) T.m_addressed T.F_addressed.kp T.b_addressed .nil pass0 (pa_cons (pv 0) pa_nil))) (blkOk_by (own := [("address", 2), ("sign", 3)]) (N := nm_steps_of) (sc := defScope s_steps_of) (by decide +kernel)) (fun _ _ _ _ _ => by exact (show L2.PG _ _ (gTup K 2 _) from (pg_tup rfl (pgs_cons (pg_name (i := 2) sc_steps_of.nd rfl (by first | exact Or.inl rfl | exact Or.inr rfl)) (pgs_cons (pg_name (i := 3) sc_steps_of.nd rfl (by first | exact Or.inl rfl | exact Or.inr rfl)) pgs_nil))))) (fun _ _ _ _ _ => by exact (pts_one (pt_cmpR op_eq (pv 3) pe_str (nomark _)))) (fun _ _ _ _ _ => by exact (pv 2))))
    (pss_cons (ps_set (i := 4) sc_steps_of.nd rfl (by first | exact Or.inl rfl | exact Or.inr rfl) (pe_callTy (TG.cr_setOf rfl) (by rfl) T.z_set (by decide +kernel) (pa_cons (pv 1) pa_nil)))
    (pss_cons (ps_set (i := 5) sc_steps_of.nd rfl (by first | exact Or.inl rfl | exact Or.inr rfl) (pe_tup (pa_cons (pe_tup (pa_cons pe_str (pa_cons pe_str pa_nil))) (pa_cons (pe_tup (pa_cons pe_str (pa_cons pe_str pa_nil))) pa_nil))))
    (pss_one (ps_ret (pe_lc2 (own := [("word", 6), ("letter", 7), ("address", 2)]) (vs1 := [2]) rfl sc_steps_of.nd (pi_tup (pv 5)) (blkOk_by (own := [("word", 6), ("letter", 7), ("address", 2)]) (N := nm_steps_of) (sc := defScope s_steps_of) (by decide +kernel)) (by simp) (fun _ _ _ _ _ => by exact (show L2.PG _ _ (gTup K 2 _) from (pg_tup rfl (pgs_cons (pg_name (i := 6) sc_steps_of.nd rfl (by first | exact Or.inl rfl | exact Or.inr rfl)) (pgs_cons (pg_name (i := 7) sc_steps_of.nd rfl (by first | exact Or.inl rfl | exact Or.inr rfl)) pgs_nil))))) (fun _ _ _ _ _ => by exact pts_nil) (fun _ _ _ _ _ => by exact (show L2.PI _ _ _ (iList K _) from (pi_list (pv 1)))) (fun _ _ _ _ _ => by exact (pg_name (i := 2) sc_steps_of.nd rfl (by first | exact Or.inl rfl | exact Or.inr rfl))) (fun _ _ _ _ _ => by exact (pts_one (show L2.PT _ _ (tTest (tOp (TG.rInSet P w) _ _)) from (pt_cmpR TG.op_inS (pe_op op_add_str (pv 2) (pv 7)) (pv 4) (by with_unfolding_all rfl))))) (fun _ _ _ _ _ => by exact (pe_tup (pa_cons (pv 6) (pa_cons (pv 2) pa_nil))))))))))), ?_⟩
  simp only [cxOf_K, tAsg2, tYes, wipe, tSeq, tIfS, tNot, tB, tCB, tCons, tNil, tVar, tC, tTest, tOp, tAnd, tOr, tAsg, gName, tRet, tRetN, tDrop, tNext, tIf, tCall, tTup, tLst, tNotV, tAndV, tOrV, tUn, rI0, rI, rU, rEq, rNe, tM1, tM0, tBM, tBM0, tSl, tPart, tNoPart, iStr, iEnumS, iRng1, iRng2, iList, gSub, tBits, tAug, tPar, L2.start, List.map_cons, List.map_nil, List.length_cons, List.length_nil, List.getElem?_cons_zero, List.getElem?_cons_succ, List.cons_append, List.nil_append, List.append_nil, List.set_cons_zero, List.set_cons_succ, List.replicate_succ, List.replicate_zero, Option.some.injEq, exists_eq_left', V.int.injEq, V.str.injEq, V.ref.injEq, V.bl.injEq, exists_and_left, exists_eq_left, List.cons.injEq, and_true, true_and, tCallX, tRs]
  rcases h with ⟨t, rfl, ht, h⟩ | ⟨nt, out⟩
  · refine ⟨_, rfl, .inl ⟨t, rfl, ht, fun H1 s1 => ?_⟩⟩
    refine ⟨_, rfl, t, rfl, ht, fun p ws H2 np s2 hp st => ?_⟩
    refine ⟨p, rfl, ⟨ws, SqL.of hp⟩, fun D hD => ?_⟩
    have wl := st.length
    have al := Tr.adrs_length t []
    have pl := Tr.ps_length t
    have hpD := ne_of_none hp hD
    refine lc_list (K := K) (a := p) (xs := ws) (fun i H' => Same H2 H' ∧ H' D = some (.lst (((((t.adrs []).take i).filter fun x => x.2 == 40).map (·.1)).map sV))) ⟨(L2.Same.refl H2).new hD _, upd_same⟩ (fun i H' _ q => SqL.of (q.1 _ _ hp)) ?_ ?_
    · rintro i x H' hi ⟨s0, hd⟩
      have hil : i < ws.length := (List.getElem?_eq_some_iff.mp hi).1
      obtain ⟨p4, x, rfl, hx, hp4⟩ := st.get hi
      have hp5 := s0 _ _ hp4
      have tk : (t.adrs []).take (i + 1) = (t.adrs []).take i ++ [x] := by rw [List.take_succ, hx]; rfl
      simp only [gTup, gCons, gNil, cxOf_K, tAsg2, tYes, wipe, tSeq, tIfS, tNot, tB, tCB, tCons, tNil, tVar, tC, tTest, tOp, tAnd, tOr, tAsg, gName, tRet, tRetN, tDrop, tNext, tIf, tCall, tTup, tLst, tNotV, tAndV, tOrV, tUn, rI0, rI, rU, rEq, rNe, tM1, tM0, tBM, tBM0, tSl, tPart, tNoPart, iStr, iEnumS, iRng1, iRng2, iList, gSub, tBits, tAug, tPar, L2.start, List.map_cons, List.map_nil, List.length_cons, List.length_nil, List.getElem?_cons_zero, List.getElem?_cons_succ, List.cons_append, List.nil_append, List.append_nil, List.set_cons_zero, List.set_cons_succ, List.replicate_succ, List.replicate_zero, Option.some.injEq, exists_eq_left', V.int.injEq, V.str.injEq, V.ref.injEq, V.bl.injEq, exists_and_left, exists_eq_left, List.cons.injEq, and_true, true_and, tCallX, tRs]
      refine ⟨_, SqT.of hp5, rfl, _, _, rfl, _, _, rfl, rfl, rfl, ?_⟩
      rw [tk, List.filter_append, List.map_append, List.map_append]
      by_cases c : x.2 = 40
      · rw [if_pos (by rw [c]; decide)]
        refine ⟨_, hd, small5' ?_, s0.new hD _, ?_⟩
        · rw [List.length_map, List.length_map]
          have := List.length_filter_le (fun x : List Nat × Nat => x.2 == 40) ((t.adrs []).take i)
          rw [List.length_take] at this
          omega
        · rw [upd_same, List.filter_cons_of_pos (by simpa using c)]
          rfl
      · rw [if_neg (by
          have : sV [x.2] ≠ V.str (Str.ofString "(") := fun z => c (by
            have := V.str.inj z
            have := S_inj (a := [x.2]) (b := [40]) this
            exact List.cons.inj this |>.1)
          simpa using this)]
        refine ⟨s0, ?_⟩
        rw [hd, List.filter_cons_of_neg (by simpa using c)]
        simp
    · rintro H3 ⟨s3, hd⟩
      rw [wl, List.take_length] at hd
      have hd : H3 D = some (.lst ((tops t).map sV)) := hd
      have tl : (tops t).length = t.size := topsA_len t []
      refine ⟨D, (tops t).map S, rfl, SqL.of (by rw [List.map_map]; exact hd), by rw [List.length_map]; omega, fun k nk => ?_⟩
      dsimp only [cxOf, L2.CX]
      have nk3 := (s3.free nk)
      have s4 := s3.new nk3 (TG.SetS P w k ((tops t).map S))
      have hd4 : upd H3 k (TG.SetS P w k ((tops t).map S)) D = _ := (upd_ne (ne_of_none hd nk)).trans hd
      have hk4 : upd H3 k (TG.SetS P w k ((tops t).map S)) k = _ := upd_same
      generalize upd H3 k (TG.SetS P w k ((tops t).map S)) = H4 at s4 hd4 hk4 ⊢
      refine ⟨by decide, fun q1 nq1 => ⟨by decide, fun q2 nq2 => ⟨by decide, fun q3 nq3 => ?_⟩⟩⟩
      have s5 := ((s4.new (s4.free nq1) (.tup [V.str (Str.ofString "left"), V.str (Str.ofString "r")])))
      have hd5 : upd H4 q1 (.tup [V.str (Str.ofString "left"), V.str (Str.ofString "r")]) D = _ := (upd_ne (ne_of_none hd4 nq1)).trans hd4
      have hk5 : upd H4 q1 (.tup [V.str (Str.ofString "left"), V.str (Str.ofString "r")]) k = _ := (upd_ne (ne_of_none hk4 nq1)).trans hk4
      have hq5 : upd H4 q1 (.tup [V.str (Str.ofString "left"), V.str (Str.ofString "r")]) q1 = _ := upd_same
      generalize upd H4 q1 (.tup [V.str (Str.ofString "left"), V.str (Str.ofString "r")]) = H5 at s5 hd5 hk5 hq5 nq2 nq3 ⊢
      have s6 := ((s5.new (s5.free nq2) (.tup [V.str (Str.ofString "right"), V.str (Str.ofString "l")])))
      have hd6 : upd H5 q2 (.tup [V.str (Str.ofString "right"), V.str (Str.ofString "l")]) D = _ := (upd_ne (ne_of_none hd5 nq2)).trans hd5
      have hk6 : upd H5 q2 (.tup [V.str (Str.ofString "right"), V.str (Str.ofString "l")]) k = _ := (upd_ne (ne_of_none hk5 nq2)).trans hk5
      have hq6 : upd H5 q2 (.tup [V.str (Str.ofString "right"), V.str (Str.ofString "l")]) q1 = _ := (upd_ne (ne_of_none hq5 nq2)).trans hq5
      have hr6 : upd H5 q2 (.tup [V.str (Str.ofString "right"), V.str (Str.ofString "l")]) q2 = _ := upd_same
      generalize upd H5 q2 (.tup [V.str (Str.ofString "right"), V.str (Str.ofString "l")]) = H6 at s6 hd6 hk6 hq6 hr6 nq3 ⊢
      have s7 := ((s6.new (s6.free nq3) (.tup [V.ref q1, V.ref q2])))
      have hd7 : upd H6 q3 (.tup [V.ref q1, V.ref q2]) D = _ := (upd_ne (ne_of_none hd6 nq3)).trans hd6
      have hk7 : upd H6 q3 (.tup [V.ref q1, V.ref q2]) k = _ := (upd_ne (ne_of_none hk6 nq3)).trans hk6
      have hq7 : upd H6 q3 (.tup [V.ref q1, V.ref q2]) q1 = _ := (upd_ne (ne_of_none hq6 nq3)).trans hq6
      have hr7 : upd H6 q3 (.tup [V.ref q1, V.ref q2]) q2 = _ := (upd_ne (ne_of_none hr6 nq3)).trans hr6
      have hs7 : upd H6 q3 (.tup [V.ref q1, V.ref q2]) q3 = _ := upd_same
      generalize upd H6 q3 (.tup [V.ref q1, V.ref q2]) = H7 at s7 hd7 hk7 hq7 hr7 hs7 ⊢
      clear nq1 nq2 nq3 hd4 hd5 hd6 hk4 hk5 hk6 hq5 hq6 hr6 s4 s5 s6
      simp only [tLc2, cxOf_K, tAsg2, tYes, wipe, tSeq, tIfS, tNot, tB, tCB, tCons, tNil, tVar, tC, tTest, tOp, tAnd, tOr, tAsg, gName, tRet, tRetN, tDrop, tNext, tIf, tCall, tTup, tLst, tNotV, tAndV, tOrV, tUn, rI0, rI, rU, rEq, rNe, tM1, tM0, tBM, tBM0, tSl, tPart, tNoPart, iStr, iEnumS, iRng1, iRng2, iList, gSub, tBits, tAug, tPar, L2.start, List.map_cons, List.map_nil, List.length_cons, List.length_nil, List.getElem?_cons_zero, List.getElem?_cons_succ, List.cons_append, List.nil_append, List.append_nil, List.set_cons_zero, List.set_cons_succ, List.replicate_succ, List.replicate_zero, Option.some.injEq, exists_eq_left', V.int.injEq, V.str.injEq, V.ref.injEq, V.bl.injEq, exists_and_left, exists_eq_left, List.cons.injEq, and_true, true_and, tCallX, tRs]
      refine ⟨_, rfl, q3, rfl, ⟨_, SqT.of hs7⟩, fun D2 hD2 => ?_⟩
      refine TD.lco_tup (K := K) (a := q3) (xs := [V.ref q1, V.ref q2]) (fun i H8 => Same H7 H8 ∧ ∃ ws, H8 D2 = some (.lst ws) ∧ Stps H8 ws ([[], side t (Str.ofString "left") 114 (tops t), stepsT t].getD i [])) ⟨(L2.Same.refl H7).new hD2 _, [], upd_same, .nil⟩ (fun i H' _ q => SqT.of (q.1 _ _ hs7)) ?_ ?_
      · rintro i x H8 hi ⟨s8, ws, hd8, st8⟩
        have cs : ∃ (q : Addr) (wd : Str) (c : Nat) (fs : List (Str × List Nat)), x = .ref q ∧ H7 q = some (.tup [.str wd, sV [c]]) ∧ ([[], side t (Str.ofString "left") 114 (tops t), stepsT t] : List (List (Str × List Nat))).getD i [] = fs ∧
            ([[], side t (Str.ofString "left") 114 (tops t), stepsT t] : List (List (Str × List Nat))).getD (i + 1) [] = fs ++ side t wd c (tops t) ∧ fs.length ≤ 2000 := by
          rcases i with _ | _ | i
          · cases hi
            exact ⟨q1, _, 114, [], rfl, hq7, rfl, rfl, by decide⟩
          · cases hi
            exact ⟨q2, _, 108, side t (Str.ofString "left") 114 (tops t), rfl, hr7, rfl, rfl, by have := side_len t (Str.ofString "left") 114 (tops t); omega⟩
          · simp at hi
        obtain ⟨q, wd, c, fs, rfl, hq, e1, e2, fl⟩ := cs
        rw [e1] at st8
        rw [e2]
        clear e1 e2 hi
        simp only [gTup, gCons, gNil, cxOf_K, tAsg2, tYes, wipe, tSeq, tIfS, tNot, tB, tCB, tCons, tNil, tVar, tC, tTest, tOp, tAnd, tOr, tAsg, gName, tRet, tRetN, tDrop, tNext, tIf, tCall, tTup, tLst, tNotV, tAndV, tOrV, tUn, rI0, rI, rU, rEq, rNe, tM1, tM0, tBM, tBM0, tSl, tPart, tNoPart, iStr, iEnumS, iRng1, iRng2, iList, gSub, tBits, tAug, tPar, L2.start, List.map_cons, List.map_nil, List.length_cons, List.length_nil, List.getElem?_cons_zero, List.getElem?_cons_succ, List.cons_append, List.nil_append, List.append_nil, List.set_cons_zero, List.set_cons_succ, List.replicate_succ, List.replicate_zero, Option.some.injEq, exists_eq_left', V.int.injEq, V.str.injEq, V.ref.injEq, V.bl.injEq, exists_and_left, exists_eq_left, List.cons.injEq, and_true, true_and, tCallX, tRs]
        refine ⟨_, SqT.of (s8 _ _ hq), rfl, _, _, rfl, _, _, rfl, rfl, ?_⟩
        rw [if_pos True.intro]
        refine ⟨⟨_, SqL.of (s8 _ _ hd7)⟩, ?_⟩
        refine TD.lco_list (K := K) (a := D) (xs := (tops t).map sV) (fun j H9 => Same H7 H9 ∧ ∃ ws, H9 D2 = some (.lst ws) ∧ Stps H9 ws (fs ++ side t wd c ((tops t).take j))) ⟨s8, ws, hd8, by simpa [side] using st8⟩ (fun j H9 _ q => SqL.of (q.1 _ _ hd7)) ?_ ?_
        · rintro j x H9 hj ⟨s9, ws, hd9, st9⟩
          rw [List.getElem?_map] at hj
          obtain ⟨a, ha, rfl⟩ := Option.map_eq_some_iff.mp hj
          have am : a ∈ tops t := List.mem_of_getElem? ha
          have aln := tops_lt am
          have tk : (tops t).take (j + 1) = (tops t).take j ++ [a] := by rw [List.take_succ, ha]; rfl
          have sk : side t wd c ((tops t).take (j + 1)) = side t wd c ((tops t).take j) ++ (if a ++ [c] ∈ tops t then [(wd, a)] else []) := by
            rw [tk]
            unfold side
            rw [List.filter_append, List.map_append]
            congr 1
            by_cases m : a ++ [c] ∈ tops t
            · rw [if_pos m, List.filter_cons_of_pos (by simpa using m)]; rfl
            · rw [if_neg m, List.filter_cons_of_neg (by simpa using m)]; rfl
          have sl := side_len t wd c ((tops t).take j)
          have wl9 := st9.length
          have wb : ws.length ≤ 4000 := by
            rw [wl9, List.length_append]
            rw [List.length_take] at sl
            omega
          refine ⟨_, rfl, _, rfl, small5 (by rw [S_len, S_len]; simp; omega), _, k, _, rfl, rfl, s9 _ _ hk7, _, rfl, ?_⟩
          rw [S_app, mem_S, sk]
          by_cases m : a ++ [c] ∈ tops t
          · rw [if_pos (decide_eq_true m), if_pos m]
            refine ⟨by decide, fun p9 np9 => ?_⟩
            have hd10 : upd H9 p9 (.tup [.str wd, sV a]) D2 = _ := (upd_ne (ne_of_none hd9 np9)).trans hd9
            have st10 := st9.same ((L2.Same.refl H9).new np9 (.tup [.str wd, sV a]))
            have hp10 : upd H9 p9 (.tup [.str wd, sV a]) p9 = _ := upd_same
            have s10 := s9.new (s9.free np9) (.tup [.str wd, sV a])
            generalize upd H9 p9 (.tup [.str wd, sV a]) = H10 at hd10 st10 hp10 s10 ⊢
            refine ⟨ws, hd10, small5' (by omega), s10.new hD2 _, _, upd_same, ?_⟩
            rw [← List.append_assoc]
            refine Stps.append (ys := [(wd, a)]) ?_ (.cons ?_ .nil)
            · exact st10.mono fun b vs e => by rw [upd_ne (ne_of e hd10 fun z => by cases z)]; exact e
            · rw [upd_ne (ne_of hp10 hd10 fun z => by cases z)]; exact hp10
          · rw [if_neg (by simpa using m), if_neg m, List.append_nil]
            exact ⟨s9, ws, hd9, st9⟩
        · rintro H9 ⟨s9, ws, hd9, st9⟩
          rw [List.length_map, List.take_length] at st9
          exact ⟨s9, ws, hd9, st9⟩
      · rintro H8 ⟨s8, ws, hd8, st8⟩
        have s28 := s7.trans s8
        exact h D2 ws H8 ((s1.trans s2).free (s7.free hD2)) ((s1.trans s2).trans s28) hd8 st8
  · exact ⟨_, rfl, .inr ⟨nt, out⟩⟩

theorem ltC_app : ∀ a x y : List Nat, PySem.Spec.ltCps (a ++ x) (a ++ y) = PySem.Spec.ltCps x y
  | [], x, y => rfl
  | c :: a, x, y => by simp [PySem.Spec.ltCps, ltC_app a x y]
theorem rising_of : ∀ (l : List (List Nat)) (p : List Nat), (∀ x ∈ l, PySem.Spec.ltCps x p = false) → l.Pairwise (fun x y => PySem.Spec.ltCps y x = false) → PyProof.Rows.risingS (S p) (l.map S) = true
  | [], p, _, _ => rfl
  | x :: l, p, h, q => by
    rw [List.pairwise_cons] at q
    simp only [List.map_cons, PyProof.Rows.risingS, Bool.and_eq_true, Bool.not_eq_true']
    exact ⟨h x (List.mem_cons_self ..), rising_of l x q.1 q.2⟩
theorem sorted_of : ∀ (l : List (List Nat)), l.Pairwise (fun x y => PySem.Spec.ltCps y x = false) → PyProof.Rows.sortedS (l.map S) = true
  | [], _ => rfl
  | x :: l, q => by
    rw [List.pairwise_cons] at q
    exact rising_of l x q.1 q.2
theorem topsA_pre (t : Tr) (a x : List Nat) (h : x ∈ topsA t a) : a <+: x := Tr.ndA_pre t a x ((topsA_perm t a).mem_iff.mp h)
theorem topsA_up : ∀ (t : Tr) (a : List Nat), (topsA t a).Pairwise (fun x y => PySem.Spec.ltCps y x = false)
  | .leaf, a => .nil
  | .node l r, a => by
    rw [topsA_node, List.pairwise_cons, List.pairwise_append]
    refine ⟨fun x hx => ?_, topsA_up l _, topsA_up r _, fun x hx y hy => ?_⟩
    · have : a <+: x := by
        rcases List.mem_append.mp hx with h | h
        · exact (List.prefix_append a [108]).trans (topsA_pre l _ x h)
        · exact (List.prefix_append a [114]).trans (topsA_pre r _ x h)
      obtain ⟨z, rfl⟩ := this
      have := ltC_app a z []
      rw [List.append_nil] at this
      rw [this]
      cases z <;> rfl
    · obtain ⟨u, rfl⟩ := topsA_pre l _ x hx
      obtain ⟨v, rfl⟩ := topsA_pre r _ y hy
      rw [List.append_assoc, List.append_assoc, ltC_app]
      simp [PySem.Spec.ltCps]
theorem topsA_isA : ∀ (t : Tr) (a : List Nat), isA a = true → ∀ x ∈ topsA t a, isA x = true
  | .leaf, a, h, x, hx => by cases hx
  | .node l r, a, h, x, hx => by
    have h1 : isA (a ++ [108]) = true := by unfold isA at h ⊢; rw [List.all_append, h]; rfl
    have h2 : isA (a ++ [114]) = true := by unfold isA at h ⊢; rw [List.all_append, h]; rfl
    rw [topsA_node] at hx
    rcases List.mem_cons.mp hx with rfl | hx
    · exact h
    · rcases List.mem_append.mp hx with q | q
      · exact topsA_isA l _ h1 x q
      · exact topsA_isA r _ h2 x q
theorem mem_topsA : ∀ (t : Tr) (b : List Nat) (a : List Nat), a ∈ topsA t b → ∃ c l r, a = b ++ c ∧ isA c = true ∧ tat t c = some (.node l r)
  | .leaf, b, a, h => by cases h
  | .node l r, b, a, h => by
    rw [topsA_node] at h
    rcases List.mem_cons.mp h with rfl | h
    · exact ⟨[], l, r, by simp, rfl, rfl⟩
    · rcases List.mem_append.mp h with h | h
      · obtain ⟨c, l', r', e, i, q⟩ := mem_topsA l _ a h
        exact ⟨108 :: c, l', r', by simp [e], i, by simpa [tat] using q⟩
      · obtain ⟨c, l', r', e, i, q⟩ := mem_topsA r _ a h
        exact ⟨114 :: c, l', r', by simp [e], i, by simpa [tat] using q⟩
theorem of_tat : ∀ (t : Tr) (b : List Nat) (c : List Nat) (l r : Tr), isA c = true → tat t c = some (.node l r) → b ++ c ∈ topsA t b
  | .leaf, b, [], l, r, i, h => by cases h
  | .leaf, b, _ :: _, l, r, i, h => by cases h
  | .node l r, b, [], l', r', i, h => by rw [topsA_node, List.append_nil]; exact List.mem_cons_self ..
  | .node l r, b, c :: cs, l', r', i, h => by
    have i2 : (c == 108 || c == 114) = true ∧ isA cs = true := by simpa [isA] using i
    have h : (if c = 108 then tat l cs else tat r cs) = some (.node l' r') := h
    rw [topsA_node]
    refine List.mem_cons_of_mem _ (List.mem_append.mpr ?_)
    by_cases e : c = 108
    · subst e
      rw [if_pos rfl] at h
      have := of_tat l (b ++ [108]) cs l' r' i2.2 h
      exact .inl (by simpa using this)
    · have e2 : c = 114 := by
        have := i2.1
        simp only [Bool.or_eq_true, beq_iff_eq] at this
        rcases this with z | z
        · exact absurd z e
        · exact z
      subst e2
      rw [if_neg e] at h
      have := of_tat r (b ++ [114]) cs l' r' i2.2 h
      exact .inr (by simpa using this)
theorem mem_tops {t : Tr} {a : List Nat} : a ∈ tops t ↔ isA a = true ∧ ∃ l r, tat t a = some (.node l r) := by
  constructor
  · intro h
    obtain ⟨c, l, r, e, i, q⟩ := mem_topsA t [] a h
    rw [List.nil_append] at e
    subst e
    exact ⟨i, l, r, q⟩
  · rintro ⟨i, l, r, q⟩
    have := of_tat t [] a l r i q
    rwa [List.nil_append] at this
theorem tat_snoc : ∀ (t : Tr) (a : List Nat) (x : Nat), tat t (a ++ [x]) = (tat t a).bind fun s => tat s [x]
  | t, [], x => by rw [tat_nil]; rfl
  | .leaf, c :: a, x => rfl
  | .node l r, c :: a, x => by
    show (if c = 108 then tat l (a ++ [x]) else tat r (a ++ [x])) = (if c = 108 then tat l a else tat r a).bind _
    by_cases e : c = 108
    · rw [if_pos e, if_pos e]; exact tat_snoc l a x
    · rw [if_neg e, if_neg e]; exact tat_snoc r a x
theorem isA_snoc {a : List Nat} {x : Nat} (h : isA a = true) (e : (x == 108 || x == 114) = true) : isA (a ++ [x]) = true := by
  unfold isA at h ⊢
  rw [List.all_append, h]
  simpa using e
theorem step_left {t : Tr} {a : List Nat} (h : a ∈ tops t) : (stepT (Str.ofString "left") a t).isSome = decide (a ++ [114] ∈ tops t) := by
  obtain ⟨i, l, r, q⟩ := mem_tops.mp h
  have e : stepT (Str.ofString "left") a t = (turnL l r).map (put t a) := by
    unfold stepT
    rw [q]
    show (turnT (Str.ofString "left") (.node l r)).map _ = _
    unfold turnT
    simp only
    rw [if_neg (by decide), if_pos True.intro]
  rw [e]
  have m : a ++ [114] ∈ tops t ↔ ∃ b c, r = .node b c := by
    rw [mem_tops, tat_snoc, q]
    constructor
    · rintro ⟨_, b, c, z⟩
      have z : tat r [] = some (.node b c) := z
      rw [tat_nil] at z
      exact ⟨b, c, Option.some.inj z⟩
    · rintro ⟨b, c, rfl⟩
      exact ⟨isA_snoc i (by decide), b, c, rfl⟩
  cases r with
  | leaf =>
    rw [decide_eq_false (fun z => by obtain ⟨b, c, z⟩ := m.mp z; cases z)]
    cases l <;> rfl
  | node b c =>
    rw [decide_eq_true (m.mpr ⟨b, c, rfl⟩)]
    cases l <;> rfl
theorem step_right {t : Tr} {a : List Nat} (h : a ∈ tops t) : (stepT (Str.ofString "right") a t).isSome = decide (a ++ [108] ∈ tops t) := by
  obtain ⟨i, l, r, q⟩ := mem_tops.mp h
  have e : stepT (Str.ofString "right") a t = (turnR l r).map (put t a) := by
    unfold stepT
    rw [q]
    show (turnT (Str.ofString "right") (.node l r)).map _ = _
    unfold turnT
    simp only
    rw [if_pos True.intro]
  rw [e]
  have m : a ++ [108] ∈ tops t ↔ ∃ b c, l = .node b c := by
    rw [mem_tops, tat_snoc, q]
    constructor
    · rintro ⟨_, b, c, z⟩
      have z : tat l [] = some (.node b c) := z
      rw [tat_nil] at z
      exact ⟨b, c, Option.some.inj z⟩
    · rintro ⟨b, c, rfl⟩
      exact ⟨isA_snoc i (by decide), b, c, rfl⟩
  cases l with
  | leaf =>
    rw [decide_eq_false (fun z => by obtain ⟨b, c, z⟩ := m.mp z; cases z)]
    rfl
  | node b c =>
    rw [decide_eq_true (m.mpr ⟨b, c, rfl⟩)]
    rfl
/-- all steps, tried one by one -/
theorem steps_tried (t : Tr) : (((tops t).map fun a => (Str.ofString "left", a)) ++ ((tops t).map fun a => (Str.ofString "right", a))).filter (fun x => (stepT x.1 x.2 t).isSome) = stepsT t := by
  rw [List.filter_append]
  unfold stepsT
  rw [List.filter_map, List.filter_map]
  congr 1
  · congr 1
    exact List.filter_congr fun a ha => step_left ha
  · congr 1
    exact List.filter_congr fun a ha => step_right ha
theorem tops_len (t : Tr) : (tops t).length = t.size := topsA_len t []
theorem hgt_size : ∀ t : Tr, Tr.hgt t ≤ t.size
  | .leaf => Nat.le_refl _
  | .node l r => by
    have := hgt_size l
    have := hgt_size r
    simp only [Tr.hgt, Tr.size]
    omega

theorem stps_new {H : Hp} {D p : Addr} {ws : List V} {x : Str × List Nat} {fs : List (Str × List Nat)} {H0 : Hp} (s : Same H0 H) (hD : H0 D = none) (np : H p = none) (hd : H D = some (.lst ws)) (st : Stps H ws fs) :
    upd H p (.tup [.str x.1, sV x.2]) D = some (.lst ws) ∧ Same H0 (upd (upd H p (.tup [.str x.1, sV x.2])) D (.lst (ws ++ [.ref p]))) ∧ Stps (upd (upd H p (.tup [.str x.1, sV x.2])) D (.lst (ws ++ [.ref p]))) (ws ++ [.ref p]) (fs ++ [x]) := by
  have hd10 : upd H p (.tup [.str x.1, sV x.2]) D = _ := (upd_ne (ne_of_none hd np)).trans hd
  have st10 := st.same ((L2.Same.refl H).new np (.tup [.str x.1, sV x.2]))
  have hp10 : upd H p (.tup [.str x.1, sV x.2]) p = _ := upd_same
  have s10 := s.new (s.free np) (.tup [.str x.1, sV x.2])
  generalize upd H p (.tup [.str x.1, sV x.2]) = H10 at hd10 st10 hp10 s10 ⊢
  refine ⟨hd10, s10.new hD _, Stps.append ?_ (.cons ?_ .nil)⟩
  · exact st10.mono fun b vs e => by rw [upd_ne (ne_of e hd10 fun z => by cases z)]; exact e
  · rw [upd_ne (ne_of hp10 hd10 fun z => by cases z)]; exact hp10
theorem lc_pairs {a : Addr} {xs : List (List Nat)} {wd : Str} {v : V} {H : Hp} {Q : VK} (ha : H a = some (.lst (xs.map sV))) (hl : xs.length ≤ 4000)
    (q : ∀ D ws H', H D = none → Same H H' → H' D = some (.lst ws) → Stps H' ws (xs.map fun x => (wd, x)) → Q (.ref D) H') :
    tLc (iList K (tVar 1)) (gName 2) tYes (tTup (tCons (tC (V.str wd)) (tCons (tVar 2) tNil))) [2] [some v, some (.ref a), none, none, none] H Q := by
  simp only [tLc, cxOf_K, tAsg2, tYes, wipe, tSeq, tIfS, tNot, tB, tCB, tCons, tNil, tVar, tC, tTest, tOp, tAnd, tOr, tAsg, gName, tRet, tRetN, tDrop, tNext, tIf, tCall, tTup, tLst, tNotV, tAndV, tOrV, tUn, rI0, rI, rU, rEq, rNe, tM1, tM0, tBM, tBM0, tSl, tPart, tNoPart, iStr, iEnumS, iRng1, iRng2, iList, gSub, tBits, tAug, tPar, L2.start, List.map_cons, List.map_nil, List.length_cons, List.length_nil, List.getElem?_cons_zero, List.getElem?_cons_succ, List.cons_append, List.nil_append, List.append_nil, List.set_cons_zero, List.set_cons_succ, List.replicate_succ, List.replicate_zero, Option.some.injEq, exists_eq_left', V.int.injEq, V.str.injEq, V.ref.injEq, V.bl.injEq, exists_and_left, exists_eq_left, List.cons.injEq, and_true, true_and, tCallX, tRs]
  refine ⟨⟨_, SqL.of ha⟩, fun D hD => ?_⟩
  refine TD.lco_list (K := K) (a := a) (xs := xs.map sV) (fun i H' => Same H H' ∧ ∃ ws, H' D = some (.lst ws) ∧ Stps H' ws ((xs.take i).map fun x => (wd, x))) ⟨(L2.Same.refl H).new hD _, [], upd_same, .nil⟩ (fun i H' _ p => SqL.of (p.1 _ _ ha)) ?_ ?_
  · rintro i x H' hi ⟨s1, ws, hd, st⟩
    rw [List.getElem?_map] at hi
    obtain ⟨b, hb, rfl⟩ := Option.map_eq_some_iff.mp hi
    have wl := st.length
    rw [List.length_map, List.length_take] at wl
    rw [if_pos True.intro]
    refine ⟨by decide, fun p np => ?_⟩
    have m := stps_new (x := (wd, b)) s1 hD np hd st
    refine ⟨ws, m.1, small5' (by omega), m.2.1, _, upd_same, ?_⟩
    rw [List.take_succ, hb, List.map_append]
    exact m.2.2
  · rintro H' ⟨s1, ws, hd, st⟩
    rw [List.length_map, List.take_length] at st
    exact q D ws H' hD s1 hd st
theorem ok_law_all_steps (T : Txt w K mg) : FnD P w K mg base CX0 204 8 T.a_law_all_steps T.fd_law_all_steps ["_law_parsed_here"] (sp_law_all_steps K) := by
  refine okD T.F_law_all_steps sc_law_all_steps (fun vs H Q E h => ?_) (fun cdv A outer s H vs Q E hr h => ?_)
  · obtain ⟨v, t, rfl, _⟩ := h; rfl
  obtain ⟨v, t, rfl, hv, ht, q⟩ := h
  refine ⟨_, (pss_cons (ps_set (i := 1) sc_law_all_steps.nd rfl (by first | exact Or.inl rfl | exact Or.inr rfl) (pe_callB TO.cr_srtA (by rfl) T.z_sorted (by decide +kernel) (pa_cons (pe_lc (own := [("_law_one", 2)]) rfl sc_law_all_steps.nd (pi_list (pe_callD (ok_law_nodes T 200) (hr.mono (by first | decide | omega) (by first | decide | omega)) (by rfl) T.m_law_nodes T.F_law_nodes.kp T.b_law_nodes .nil pass0 (pa_cons (pv 0) (pa_cons pe_str pa_nil)))) (blkOk_by (own := [("_law_one", 2)]) (N := nm_law_all_steps) (sc := defScope s_law_all_steps) (by decide +kernel)) (fun _ _ _ _ _ => by exact (pg_name (i := 2) sc_law_all_steps.nd rfl (by first | exact Or.inl rfl | exact Or.inr rfl))) (fun _ _ _ _ _ => by exact pts_nil) (fun _ _ _ _ _ => by exact (pe_callTy SkE.call_str_str (by rfl) T.z_str (by decide +kernel) (pa_cons (pv 2) pa_nil)))) pa_nil)))
    (pss_cons (ps_set (i := 3) sc_law_all_steps.nd rfl (by first | exact Or.inl rfl | exact Or.inr rfl) (pe_op op_cat (pe_lc (own := [("_law_one", 2)]) rfl sc_law_all_steps.nd (pi_list (pv 1)) (blkOk_by (own := [("_law_one", 2)]) (N := nm_law_all_steps) (sc := defScope s_law_all_steps) (by decide +kernel)) (fun _ _ _ _ _ => by exact (pg_name (i := 2) sc_law_all_steps.nd rfl (by first | exact Or.inl rfl | exact Or.inr rfl))) (fun _ _ _ _ _ => by exact pts_nil) (fun _ _ _ _ _ => by exact (pe_tup (pa_cons pe_str (pa_cons (pv 2) pa_nil))))) (pe_lc (own := [("_law_one", 2)]) rfl sc_law_all_steps.nd (pi_list (pv 1)) (blkOk_by (own := [("_law_one", 2)]) (N := nm_law_all_steps) (sc := defScope s_law_all_steps) (by decide +kernel)) (fun _ _ _ _ _ => by exact (pg_name (i := 2) sc_law_all_steps.nd rfl (by first | exact Or.inl rfl | exact Or.inr rfl))) (fun _ _ _ _ _ => by exact pts_nil) (fun _ _ _ _ _ => by exact (pe_tup (pa_cons pe_str (pa_cons (pv 2) pa_nil)))))))
    (pss_one (ps_ret (pe_lc (own := [("_law_pair", 4)]) rfl sc_law_all_steps.nd (pi_list (pv 3)) (blkOk_by (own := [("_law_pair", 4)]) (N := nm_law_all_steps) (sc := defScope s_law_all_steps) (by decide +kernel)) (fun _ _ _ _ _ => by exact (pg_name (i := 4) sc_law_all_steps.nd rfl (by first | exact Or.inl rfl | exact Or.inr rfl))) (fun _ _ _ _ _ => by exact (pts_one (pt_cmpR op_notN (pe_callD (ok_law_turn T) (hr.mono (by first | decide | omega) (by first | decide | omega)) (by rfl) T.m_law_turn T.F_law_turn.kp T.b_law_turn .nil pass0 (pa_cons (pv 0) (pa_cons (pv 4) pa_nil))) pe_non (nomark _)))) (fun _ _ _ _ _ => by exact (pv 4))))))), ?_⟩
  simp only [cxOf_K, tAsg2, tYes, wipe, tSeq, tIfS, tNot, tB, tCB, tCons, tNil, tVar, tC, tTest, tOp, tAnd, tOr, tAsg, gName, tRet, tRetN, tDrop, tNext, tIf, tCall, tTup, tLst, tNotV, tAndV, tOrV, tUn, rI0, rI, rU, rEq, rNe, tM1, tM0, tBM, tBM0, tSl, tPart, tNoPart, iStr, iEnumS, iRng1, iRng2, iList, gSub, tBits, tAug, tPar, L2.start, List.map_cons, List.map_nil, List.length_cons, List.length_nil, List.getElem?_cons_zero, List.getElem?_cons_succ, List.cons_append, List.nil_append, List.append_nil, List.set_cons_zero, List.set_cons_succ, List.replicate_succ, List.replicate_zero, Option.some.injEq, exists_eq_left', V.int.injEq, V.str.injEq, V.ref.injEq, V.bl.injEq, exists_and_left, exists_eq_left, List.cons.injEq, and_true, true_and, tCallX, tRs]
  have hh := hgt_size t
  have nl := Tr.ndA_length t []
  refine ⟨_, rfl, v, [], t, rfl, hv, by omega, by show 0 + t.size ≤ _; omega, fun p H1 np s1 hp => ?_⟩
  refine ⟨p, rfl, ⟨_, SqL.of hp⟩, fun D hD => ?_⟩
  refine lc_list (K := K) (a := p) (xs := (t.ndA []).map sV) (fun i H' => Same H1 H' ∧ H' D = some (.lst (((t.ndA []).take i).map sV))) ⟨(L2.Same.refl H1).new hD _, upd_same⟩ (fun i H' _ p => SqL.of (p.1 _ _ hp)) ?_ ?_
  · rintro i x H' hi ⟨s2, hd⟩
    rw [List.getElem?_map] at hi
    obtain ⟨b, hb, rfl⟩ := Option.map_eq_some_iff.mp hi
    have il : i < (t.ndA []).length := (List.getElem?_eq_some_iff.mp hb).1
    simp only [cxOf_K, tAsg2, tYes, wipe, tSeq, tIfS, tNot, tB, tCB, tCons, tNil, tVar, tC, tTest, tOp, tAnd, tOr, tAsg, gName, tRet, tRetN, tDrop, tNext, tIf, tCall, tTup, tLst, tNotV, tAndV, tOrV, tUn, rI0, rI, rU, rEq, rNe, tM1, tM0, tBM, tBM0, tSl, tPart, tNoPart, iStr, iEnumS, iRng1, iRng2, iList, gSub, tBits, tAug, tPar, L2.start, List.map_cons, List.map_nil, List.length_cons, List.length_nil, List.getElem?_cons_zero, List.getElem?_cons_succ, List.cons_append, List.nil_append, List.append_nil, List.set_cons_zero, List.set_cons_succ, List.replicate_succ, List.replicate_zero, Option.some.injEq, exists_eq_left', V.int.injEq, V.str.injEq, V.ref.injEq, V.bl.injEq, exists_and_left, exists_eq_left, List.cons.injEq, and_true, true_and, tCallX, tRs]
    rw [if_pos True.intro]
    refine ⟨_, hd, small5' (by rw [List.length_map, List.length_take]; omega), s2.new hD _, ?_⟩
    rw [upd_same, List.take_succ, hb, List.map_append]
    rfl
  · rintro H2 ⟨s2, hd⟩
    rw [List.length_map, List.take_length] at hd
    refine ⟨D, (t.ndA []).map S, rfl, SqL.of (by rw [List.map_map]; exact hd), fun ys D2 ⟨pm, so⟩ nD2 => ?_⟩
    have ey : ys = (tops t).map S := TO.one_list (pm.trans ((topsA_perm t []).symm.map S)) so (sorted_of _ (topsA_up t []))
    subst ey
    have s3 := (s1.trans s2).new ((s1.trans s2).free nD2) (.lst (((tops t).map S).map V.str))
    have hd3 : upd H2 D2 (.lst (((tops t).map S).map V.str)) D2 = some (.lst ((tops t).map sV)) := by rw [upd_same, List.map_map]; rfl
    generalize upd H2 D2 (.lst (((tops t).map S).map V.str)) = H3 at s3 hd3 ⊢
    have tl := tops_len t
    refine lc_pairs hd3 (by omega) fun D3 ws3 H4 n3 s4 hd4 st4 => ?_
    refine lc_pairs (s4 _ _ hd3) (by omega) fun D4 ws4 H5 n4 s5 hd5 st5 => ?_
    have w3 := st4.length
    have w4 := st5.length
    rw [List.length_map] at w3 w4
    refine ⟨D3, D4, ws3, ws4, rfl, rfl, s5 _ _ hd4, hd5, small5 (by omega), fun D5 n5 => ?_⟩
    have s6 := ((s3.trans s4).trans s5).new (((s3.trans s4).trans s5).free n5) (.lst (ws3 ++ ws4))
    have st6 := Stps.same ((L2.Same.refl H5).new n5 (.lst (ws3 ++ ws4))) ((Stps.same s5 st4).append st5)
    have hd6 : upd H5 D5 (.lst (ws3 ++ ws4)) D5 = some (.lst (ws3 ++ ws4)) := upd_same
    generalize upd H5 D5 (.lst (ws3 ++ ws4)) = H6 at s6 st6 hd6 ⊢
    generalize ws3 ++ ws4 = ws at st6 hd6 ⊢
    simp only [tLc, cxOf_K, tAsg2, tYes, wipe, tSeq, tIfS, tNot, tB, tCB, tCons, tNil, tVar, tC, tTest, tOp, tAnd, tOr, tAsg, gName, tRet, tRetN, tDrop, tNext, tIf, tCall, tTup, tLst, tNotV, tAndV, tOrV, tUn, rI0, rI, rU, rEq, rNe, tM1, tM0, tBM, tBM0, tSl, tPart, tNoPart, iStr, iEnumS, iRng1, iRng2, iList, gSub, tBits, tAug, tPar, L2.start, List.map_cons, List.map_nil, List.length_cons, List.length_nil, List.getElem?_cons_zero, List.getElem?_cons_succ, List.cons_append, List.nil_append, List.append_nil, List.set_cons_zero, List.set_cons_succ, List.replicate_succ, List.replicate_zero, Option.some.injEq, exists_eq_left', V.int.injEq, V.str.injEq, V.ref.injEq, V.bl.injEq, exists_and_left, exists_eq_left, List.cons.injEq, and_true, true_and, tCallX, tRs]
    refine ⟨⟨_, SqL.of hd6⟩, fun D hD => ?_⟩
    generalize hL : ((tops t).map fun x => (Str.ofString "left", x)) ++ ((tops t).map fun x => (Str.ofString "right", x)) = L at st6
    have okL : ∀ x ∈ L, (x.1 = Str.ofString "left" ∨ x.1 = Str.ofString "right") ∧ x.2 ∈ tops t := by
      intro x hx
      rw [← hL] at hx
      rcases List.mem_append.mp hx with z | z
      · obtain ⟨a, ha, rfl⟩ := List.mem_map.mp z
        exact ⟨.inl rfl, ha⟩
      · obtain ⟨a, ha, rfl⟩ := List.mem_map.mp z
        exact ⟨.inr rfl, ha⟩
    have lL : L.length ≤ 200 := by rw [← hL, List.length_append, List.length_map, List.length_map]; omega
    have wl := st6.length
    have pv := (hv.same s6)
    refine TD.lco_list (K := K) (a := D5) (xs := ws) (fun i H' => Same H6 H' ∧ ∃ us, H' D = some (.lst us) ∧ Stps H' us ((L.take i).filter fun x => (stepT x.1 x.2 t).isSome)) ⟨(L2.Same.refl H6).new hD _, [], upd_same, .nil⟩ (fun i H' _ p => SqL.of (p.1 _ _ hd6)) ?_ ?_
    · rintro i x H' hi ⟨s7, us, hd, su⟩
      obtain ⟨p7, x, rfl, hx, hp7⟩ := st6.get hi
      have okx := okL x (List.mem_of_getElem? hx)
      have xl := tops_lt okx.2
      have tk : L.take (i + 1) = L.take i ++ [x] := by rw [List.take_succ, hx]; rfl
      have ul := su.length
      have ul2 : us.length ≤ 200 := by
        rw [ul]
        refine Nat.le_trans (List.length_filter_le ..) ?_
        rw [List.length_take]
        omega
      rw [tk, List.filter_append]
      refine ⟨v, p7, t, x.1, x.2, rfl, pv.same s7, s7 _ _ hp7, okx.1, (mem_tops.mp okx.2).1, by omega, fun no H8 s8 => ?_, fun s' so u H8 s8 pu => ?_⟩
      · refine ifnF rfl ?_
        rw [List.filter_cons_of_neg (by rw [no]; decide)]
        refine ⟨s7.trans s8, us, s8 _ _ hd, ?_⟩
        rw [List.filter_nil, List.append_nil]
        exact su.same s8
      · have ru : ∃ pu : Addr, u = .ref pu := by cases pu <;> exact ⟨_, rfl⟩
        refine ifnT (fun z => by obtain ⟨pu, hu⟩ := ru; rw [hu] at z; cases z) ?_
        rw [List.filter_cons_of_pos (by rw [so]; rfl)]
        have hd8 := s8 _ _ hd
        have f : ∀ b vs, H8 b = some (.tup vs) → upd H8 D (.lst (us ++ [V.ref p7])) b = some (.tup vs) := fun b vs e => by rw [upd_ne (ne_of e hd8 fun z => by cases z)]; exact e
        exact ⟨us, hd8, small5' (by omega), (s7.trans s8).new hD _, _, upd_same, ((su.same s8).mono f).append (.cons (f _ _ (s8 _ _ (s7 _ _ hp7))) .nil)⟩
    · rintro H7 ⟨s7, us, hd, su⟩
      rw [wl, List.take_length, ← hL, steps_tried] at su
      exact q D us H7 (s6.free hD) (s6.trans s7) hd su

theorem okSt.mono {n m : Nat} {x : Str × List Nat} (h : okSt n x) (l : n ≤ m) : okSt m x := ⟨h.1, h.2.1, by have := h.2.2; omega⟩
/-- steps as plain data -/
def stD (x : Str × List Nat) : PyData := .tuple [.str x.1, .str (S x.2)]
theorem okWord {n : Nat} {x : Str × List Nat} (h : okSt n x) : PyData.strOk x.1 = true ∧ PyData.strOk (S x.2) = true := by
  refine ⟨?_, okL x.2 fun c hc => ?_⟩
  · rcases h.1 with e | e
    · rw [e]; decide +kernel
    · rw [e]; decide +kernel
  · have := List.all_eq_true.mp h.2.1 c hc
    simp only [Bool.or_eq_true, beq_iff_eq] at this
    omega
theorem Stps.dp {H : Hp} : ∀ {ws : List V} {xs : List (Str × List Nat)}, Stps H ws xs → DpAll K H ws (xs.map stD)
  | _, _, .nil => .nil
  | _, _, .cons a b => .cons (.tup (SqT.of a) (.cons (.str _) (.cons (.str _) .nil))) (Stps.dp b)
theorem stLay : ∀ xs : List (Str × List Nat), (∀ x ∈ xs, ∃ n, okSt n x) → PyData.canLayAll0 (xs.map stD) = true
  | [], _ => by simp [PyData.canLayAll0]
  | x :: xs, h => by
    obtain ⟨n, hn⟩ := h x (List.mem_cons_self ..)
    obtain ⟨h1, h2⟩ := okWord hn
    simp only [List.map_cons, PyData.canLayAll0, stD, PyData.canLay0, h1, h2, stLay xs fun y hy => h y (List.mem_cons_of_mem _ hy)]
    rfl
theorem stDep : ∀ xs : List (Str × List Nat), PyData.depthAll (xs.map stD) ≤ 1
  | [] => by simp [PyData.depthAll]
  | x :: xs => by
    have := stDep xs
    simp only [List.map_cons, PyData.depthAll, stD, PyData.depth]
    omega
theorem stEq : ∀ xs : List (Str × List Nat), PyData.eqvAll (xs.map stD) (xs.map stD) = true
  | [] => by simp [PyData.eqvAll]
  | x :: xs => by
    simp only [List.map_cons, PyData.eqvAll, stD, PyData.eqv, stEq xs, beq_self_eq_true]
    rfl
theorem stShaped {xs : List (Str × List Nat)} (h : ∀ x ∈ xs, ∃ n, okSt n x) : SeqAt.shaped (.list (xs.map stD)) = true := by
  unfold SeqAt.shaped
  have := stDep xs
  simp only [PyData.canLay0, PyData.depth, stLay xs h]
  simp
  omega
theorem neSt {H : Hp} {a b : Addr} {us ws : List V} {xs : List (Str × List Nat)} {Q : VK} (h : ∀ x ∈ xs, ∃ n, okSt n x) (ha : H a = some (.lst us)) (sa : Stps H us xs) (hb : H b = some (.lst ws)) (sb : Stps H ws xs) (q : Q (.bl false) H) : rNeD K (.ref a) (.ref b) H Q := by
  refine ⟨_, _, .lst (SqL.of ha) sa.dp, .lst (SqL.of hb) sb.dp, stShaped h, stShaped h, ?_⟩
  rw [show PyData.eqv (.list (xs.map stD)) (.list (xs.map stD)) = true by simp only [PyData.eqv, stEq xs]]
  exact q
theorem dvSt {H : Hp} {c : Bool} : ∀ {ws : List V} {xs : List (Str × List Nat)}, Stps H ws xs → DVs H c ws (xs.map stD)
  | _, _, .nil => .nil
  | _, _, .cons a b => .cons (.tup a (.cons (.str _) (.cons (.str _) .nil))) (dvSt b)
structure Plain (ds : List PyData) (n : Nat) : Prop where
  sh : PyData.showableAll ds = true
  dp : PyData.depthAll ds ≤ 5
  ls : PyData.leavesShortAll 30 ds = true
  bk : PyData.bulkAll ds ≤ n
  hd : PyData.hasDictAll ds = false
theorem Plain.app {ds es : List PyData} {m n : Nat} (h : Plain ds m) (g : Plain es n) : Plain (ds ++ es) (m + n) := by
  refine ⟨?_, ?_, ?_, ?_, ?_⟩
  · have : ∀ ds es : List PyData, PyData.showableAll ds = true → PyData.showableAll es = true → PyData.showableAll (ds ++ es) = true := fun ds es => by
      induction ds with
      | nil => intro _ h; exact h
      | cons d ds ih =>
        intro h g
        simp only [PyData.showableAll, Bool.and_eq_true, List.cons_append] at h ⊢
        exact ⟨h.1, ih h.2 g⟩
    exact this _ _ h.sh g.sh
  · have : ∀ ds es : List PyData, PyData.depthAll (ds ++ es) = max (PyData.depthAll ds) (PyData.depthAll es) := fun ds es => by
      induction ds with
      | nil => simp [PyData.depthAll]
      | cons d ds ih => simp only [PyData.depthAll, List.cons_append, ih]; omega
    rw [this]
    have := h.dp; have := g.dp
    omega
  · have : ∀ ds es : List PyData, PyData.leavesShortAll 30 ds = true → PyData.leavesShortAll 30 es = true → PyData.leavesShortAll 30 (ds ++ es) = true := fun ds es => by
      induction ds with
      | nil => intro _ h; exact h
      | cons d ds ih =>
        intro h g
        simp only [PyData.leavesShortAll, Bool.and_eq_true, List.cons_append] at h ⊢
        exact ⟨h.1, ih h.2 g⟩
    exact this _ _ h.ls g.ls
  · have : ∀ ds es : List PyData, PyData.bulkAll (ds ++ es) = PyData.bulkAll ds + PyData.bulkAll es := fun ds es => by
      induction ds with
      | nil => simp [PyData.bulkAll]
      | cons d ds ih => simp only [PyData.bulkAll, List.cons_append, ih]; omega
    rw [this]
    have := h.bk; have := g.bk
    omega
  · have : ∀ ds es : List PyData, PyData.hasDictAll ds = false → PyData.hasDictAll es = false → PyData.hasDictAll (ds ++ es) = false := fun ds es => by
      induction ds with
      | nil => intro _ h; exact h
      | cons d ds ih =>
        intro h g
        simp only [PyData.hasDictAll, Bool.or_eq_false_iff, List.cons_append] at h ⊢
        exact ⟨h.1, ih h.2 g⟩
    exact this _ _ h.hd g.hd
theorem Plain.mono {ds : List PyData} {m n : Nat} (h : Plain ds m) (l : m ≤ n) : Plain ds n := ⟨h.sh, h.dp, h.ls, Nat.le_trans h.bk l, h.hd⟩
theorem Plain.nil : Plain [] 0 := ⟨by simp [PyData.showableAll], by simp [PyData.depthAll], by simp [PyData.leavesShortAll], by simp [PyData.bulkAll], by simp [PyData.hasDictAll]⟩
theorem plainStr (z : Str) {n : Nat} (h : z.length + 1 ≤ n) (hz : ∀ c ∈ z.cps.toList, c < 16 ^ 8) : Plain [.str z] n := by
  refine ⟨by simp [PyData.showableAll, PyData.showable], by simp [PyData.depthAll, PyData.depth], ?_, ?_, by simp [PyData.hasDictAll, PyData.hasDict]⟩
  · simp only [PyData.leavesShortAll, PyData.leavesShort, Bool.and_true, List.all_eq_true, decide_eq_true_eq]
    exact hz
  · simp only [PyData.bulkAll, PyData.bulk]
    have : z.cps.size = z.length := rfl
    omega
theorem Plain.tup {ds : List PyData} {n : Nat} (h : Plain ds n) (l : PyData.depthAll ds ≤ 4) : Plain [.tuple ds] (n + 1) := by
  refine ⟨by simp only [PyData.showableAll, PyData.showable, h.sh]; rfl, by simp only [PyData.depthAll, PyData.depth]; omega, by simp only [PyData.leavesShortAll, PyData.leavesShort, h.ls]; rfl, ?_, by simp only [PyData.hasDictAll, PyData.hasDict, h.hd]; rfl⟩
  have := h.bk
  simp only [PyData.bulkAll, PyData.bulk]; omega
theorem Plain.lst {ds : List PyData} {n : Nat} (h : Plain ds n) (l : PyData.depthAll ds ≤ 4) : Plain [.list ds] (n + 1) := by
  refine ⟨by simp only [PyData.showableAll, PyData.showable, h.sh]; rfl, by simp only [PyData.depthAll, PyData.depth]; omega, by simp only [PyData.leavesShortAll, PyData.leavesShort, h.ls]; rfl, ?_, by simp only [PyData.hasDictAll, PyData.hasDict, h.hd]; rfl⟩
  have := h.bk
  simp only [PyData.bulkAll, PyData.bulk]; omega
theorem stPlain : ∀ (xs : List (Str × List Nat)) {n : Nat}, (∀ x ∈ xs, okSt n x) → Plain (xs.map stD) (xs.length * (n + 9))
  | [], n, _ => Plain.nil.mono (Nat.zero_le _)
  | x :: xs, n, h => by
    have hx := h x (List.mem_cons_self ..)
    have h1 : Plain [PyData.str x.1] 6 := plainStr _ (by have := wordLen hx; omega) fun c hc => by
      rcases hx.1 with e | e
      · rw [e] at hc
        have : ∀ c ∈ (Str.ofString "left").cps.toList, c < 16 ^ 8 := by decide +kernel
        exact this c hc
      · rw [e] at hc
        have : ∀ c ∈ (Str.ofString "right").cps.toList, c < 16 ^ 8 := by decide +kernel
        exact this c hc
    have h2 : Plain [PyData.str (S x.2)] (n + 1) := plainStr _ (by rw [S_len]; have := hx.2.2; omega) fun c hc => by
      have := List.all_eq_true.mp hx.2.1 c (by simpa using hc)
      simp only [Bool.or_eq_true, beq_iff_eq] at this
      omega
    have h3 := (h1.app h2).tup (by simp [PyData.depthAll, PyData.depth])
    have h4 := h3.app (stPlain xs fun y hy => h y (List.mem_cons_of_mem _ hy))
    refine Plain.mono (n := (x :: xs).length * (n + 9)) (show Plain ([stD x] ++ xs.map stD) _ from h4) ?_
    rw [List.length_cons, Nat.succ_mul]
    omega
theorem goodList {H : Hp} {p : Addr} {ws : List V} {ds : List PyData} {n : Nat} (h : H p = some (.lst ws)) (dv : DVs H false ws ds) (pl : Plain ds n) (l : n ≤ 200000) : Good H (.ref p) (.list ds) := by
  have e : (PyData.list ds).hasDict = false := by simp only [PyData.hasDict, pl.hd]
  refine ⟨?_, by simp only [PyData.showable, pl.sh], ?_, by simp only [PyData.leavesShort, pl.ls], ?_⟩
  · rw [e]
    exact .lst (fun z => by cases z) h dv
  · have := pl.dp
    simp only [PyData.depth]; omega
  · have := pl.bk
    simp only [PyData.bulk]; omega
theorem goodTup {H : Hp} {p : Addr} {ws : List V} {ds : List PyData} {n : Nat} (h : H p = some (.tup ws)) (dv : DVs H false ws ds) (pl : Plain ds n) (l : n ≤ 200000) : Good H (.ref p) (.tuple ds) := by
  have e : (PyData.tuple ds).hasDict = false := by simp only [PyData.hasDict, pl.hd]
  refine ⟨?_, by simp only [PyData.showable, pl.sh], ?_, by simp only [PyData.leavesShort, pl.ls], ?_⟩
  · rw [e]
    exact .tup h dv
  · have := pl.dp
    simp only [PyData.depth]; omega
  · have := pl.bk
    simp only [PyData.bulk]; omega
theorem stDepth (xs : List (Str × List Nat)) : PyData.depthAll (xs.map stD) ≤ 4 := by
  have := stDep xs
  omega
theorem cutAt {G : Prop} {U : Hp → Prop} {C : Hp → Nat → Prop} (use : (∀ H n, C H n → U H) → G) (key : ∀ H n, C H n → U H) : G := use key
theorem cutV {G : Prop} {U : V → Hp → Prop} {C : V → Hp → Prop} (use : (∀ v H, C v H → U v H) → G) (key : ∀ v H, C v H → U v H) : G := use key
/-- no script: by its kind, or a list with an item that is no step -/
def ItemB (K : PySem.W.Frag) (H : Hp) (v : V) : Prop :=
  (∃ d ty, TyX K H v ty ∧ PySem.W.kitOne K ty (.type "list") = some false ∧ Good H v d) ∨
  (∃ l ws ds n, v = .ref l ∧ H l = some (.lst ws) ∧ ws.length ≤ 100 ∧ (∀ u ∈ ws, IsStep H u ∨ NotStep K H u) ∧ (∃ u ∈ ws, NotStep K H u) ∧ DVs H false ws ds ∧ Plain ds n ∧ n ≤ 100000)
theorem ItemB.same {H H' : Hp} {v : V} (h : ItemB K H v) (s : Same H H') : ItemB K H' v := by
  rcases h with ⟨d, ty, a, b, g⟩ | ⟨l, ws, ds, n, e, hl, lw, al, ⟨u, hu, nu⟩, dv, pl, ln⟩
  · exact .inl ⟨d, ty, tyX_same a s, b, g.same s⟩
  · exact .inr ⟨l, ws, ds, n, e, s _ _ hl, lw, fun u hu => (al u hu).imp (fun z => z.same s) fun z => z.same s, ⟨u, hu, nu.same s⟩, DVs.same s dv, pl, ln⟩
theorem plainInt (i : Int) (h : ((PyData.int i).shown).length ≤ 30) (h2 : (PyData.int i).showable = true) : Plain [.int i] 1 := by
  refine ⟨by simp only [PyData.showableAll, h2]; rfl, by simp [PyData.depthAll, PyData.depth], ?_, by simp [PyData.bulkAll, PyData.bulk], by simp [PyData.hasDictAll, PyData.hasDict]⟩
  simp only [PyData.leavesShortAll, PyData.leavesShort, decide_eq_true h]; rfl
theorem plainNon : Plain [.none] 1 := ⟨by simp [PyData.showableAll, PyData.showable], by simp [PyData.depthAll, PyData.depth], by simp [PyData.leavesShortAll, PyData.leavesShort], by simp [PyData.bulkAll, PyData.bulk], by simp [PyData.hasDictAll, PyData.hasDict]⟩
theorem DVsapp {H : Hp} {c : Bool} : ∀ {ws : List V} {ds : List PyData} {us : List V} {es : List PyData}, DVs H c ws ds → DVs H c us es → DVs H c (ws ++ us) (ds ++ es)
  | _, _, _, _, .nil, b => b
  | _, _, _, _, .cons a r, b => .cons a (DVsapp r b)
theorem goodStr1 {H : Hp} (z : Str) (l : z.length ≤ 100000) (hz : ∀ c ∈ z.cps.toList, c < 16 ^ 8) : Good H (.str z) (.str z) := by
  refine ⟨.str _, by simp [PyData.showable], by simp [PyData.depth], ?_, ?_⟩
  · simp only [PyData.leavesShort, List.all_eq_true, decide_eq_true_eq]; exact hz
  · simp only [PyData.bulk]
    have : z.cps.size = z.length := rfl
    omega
theorem goodNon {H : Hp} : Good H .non .none := ⟨.non, by decide +kernel, by decide +kernel, by decide +kernel, by decide +kernel⟩
theorem goodBl {H : Hp} (b : Bool) : Good H (.bl b) (.bool b) := ⟨.bl b, by simp [PyData.showable], by simp [PyData.depth], by simp [PyData.leavesShort], by simp [PyData.bulk]⟩
theorem goodDict {H : Hp} {p : Addr} (h : H p = some (.dK [])) : Good H (.ref p) (.dict []) := ⟨.dic h .nil, by decide +kernel, by decide +kernel, by decide +kernel, by decide +kernel⟩
theorem notTupleList {H : Hp} {p : Addr} {ws : List V} (h : H p = some (.lst ws)) : NotStep K H (.ref p) := .inl ⟨_, .base (.lst h), kit_ty (by decide +kernel)⟩
/-- a list of steps and one more item -/
theorem itemMore {H : Hp} {l : Addr} {ws : List V} {xs : List (Str × List Nat)} {u : V} {d : PyData} (h : H l = some (.lst (ws ++ [u]))) (st : Stps H ws xs) (ok : ∀ x ∈ xs, okSt 200 x) (lx : xs.length ≤ 60) (nu : NotStep K H u) (dv : DV H false u d) (pl : Plain [d] 100) : ItemB K H (.ref l) := by
  have e1 : xs.length * (200 + 9) ≤ 60 * 209 := Nat.mul_le_mul_right _ lx
  refine .inr ⟨l, _, _, _, rfl, h, by have := st.length; rw [List.length_append, List.length_singleton]; omega, fun z hz => ?_, ⟨u, by simp, nu⟩, DVsapp (dvSt st) (.cons dv .nil), (stPlain xs ok).app pl, by omega⟩
  rcases List.mem_append.mp hz with hz | hz
  · obtain ⟨i, hi⟩ := List.getElem?_of_mem hz
    exact .inl (GoodS.isStep st (fun x hx => ⟨(ok x hx).1, (ok x hx).2.1, by have := (ok x hx).2.2; omega⟩) hi)
  · rw [List.mem_singleton.mp hz]; exact .inr nu
/-- a list of one item -/
theorem itemOne {H : Hp} {l : Addr} {u : V} {d : PyData} (h : H l = some (.lst [u])) (nu : NotStep K H u) (dv : DV H false u d) (pl : Plain [d] 100) : ItemB K H (.ref l) :=
  itemMore (ws := []) (xs := []) h .nil (fun x hx => by cases hx) (by decide) nu dv pl
theorem itemTup {H : Hp} {l : Addr} {ws : List V} {ds : List PyData} {n : Nat} (h : H l = some (.tup ws)) (dv : DVs H false ws ds) (pl : Plain ds n) (ln : n ≤ 100000) : ItemB K H (.ref l) :=
  .inl ⟨_, _, .base (.tup h), kit_ty (by decide +kernel), goodTup h dv pl (by omega)⟩
theorem itemNon {H : Hp} : ItemB K H .non := .inl ⟨_, _, .base .non, kit_ty (by decide +kernel), goodNon⟩

theorem eqSt0 {H : Hp} {a b : Addr} {us : List V} {xs : List (Str × List Nat)} {Q : VK} (h : ∀ x ∈ xs, ∃ n, okSt n x) (ha : H a = some (.lst us)) (sa : Stps H us xs) (hb : H b = some (.lst [])) (q : Q (.bl (decide (xs = []))) H) : rEqD K (.ref a) (.ref b) H Q := by
  refine ⟨.list (xs.map stD), .list [], .lst (SqL.of ha) sa.dp, .lst (SqL.of hb) .nil, stShaped h, by decide, ?_⟩
  have e : PyData.eqv (.list (xs.map stD)) (.list []) = decide (xs = []) := by
    cases xs with
    | nil => simp [PyData.eqv, PyData.eqvAll]
    | cons x xs => simp [PyData.eqv, PyData.eqvAll]
  rw [e]
  exact q
theorem Stps.keep {H H' : Hp} {g : Addr} {ws : List V} (s : Keep g H H') (hg : H g = some (.lst ws)) {vs : List V} {xs : List (Str × List Nat)} (h : Stps H vs xs) : Stps H' vs xs := h.mono fun b vs e => s _ _ (ne_of e hg fun z => by cases z) e
theorem stepsT_ok {t : Tr} {x : Str × List Nat} (h : x ∈ stepsT t) : okSt t.size x ∧ (stepT x.1 x.2 t).isSome = true := by
  rw [← steps_tried] at h
  obtain ⟨h, s⟩ := List.mem_filter.mp h
  rcases List.mem_append.mp h with z | z
  · obtain ⟨a, ha, rfl⟩ := List.mem_map.mp z
    exact ⟨⟨.inl rfl, (mem_tops.mp ha).1, tops_lt ha⟩, s⟩
  · obtain ⟨a, ha, rfl⟩ := List.mem_map.mp z
    exact ⟨⟨.inr rfl, (mem_tops.mp ha).1, tops_lt ha⟩, s⟩
theorem stepsT_len (t : Tr) : (stepsT t).length ≤ 2 * t.size := by
  rw [← steps_tried]
  refine Nat.le_trans (List.length_filter_le ..) ?_
  rw [List.length_append, List.length_map, List.length_map, tops_len]
  omega
theorem ok_law_drawn (T : Txt w K mg) : FnD P w K mg base CX0 205 9 T.a_law_drawn T.fd_law_drawn ["_law_generator_here", "_law_tree_here"] (sp_law_drawn K) := by
  refine okD T.F_law_drawn sc_law_drawn (fun vs H Q E h => ?_) (fun cdv A outer s H vs Q E hr h => ?_)
  · obtain ⟨g, t, n, rfl, _⟩ := h; rfl
  obtain ⟨g, t, n, rfl, ht, hg, hn, q⟩ := h
  have hru := hr.room.units
  refine ⟨_, (pss_cons (ps_par (i := 2) (j := 3) rfl sc_law_drawn.nd rfl rfl (by decide) rfl rfl (pa_cons (pe_call (ok_law_parsed T) (hr.room.mono (by first | decide | omega)) (by rfl) T.m_law_parsed T.F_law_parsed.kp T.b_law_parsed .nil pass0 (pa_cons (pv 1) pa_nil)) (pa_cons (pe_lst pa_nil) pa_nil)) rfl)
    (pss_cons (ps_for PassesOwn.never rfl (pi_range1 rfl T.z_range (pa_cons (pe_call (ok_law_random T) (hr.room.mono (by first | decide | omega)) (by rfl) T.m_law_random T.F_law_random.kp T.b_law_random .nil pass0 (pa_cons (pv 0) (pa_cons pe_int pa_nil))) pa_nil)) (pg_name (i := 4) sc_law_drawn.nd rfl (by first | exact Or.inl rfl | exact Or.inr rfl)) (pss_cons (ps_set (i := 5) sc_law_drawn.nd rfl (by first | exact Or.inl rfl | exact Or.inr rfl) (pe_callD (ok_law_all_steps T) (hr.mono (by first | decide | omega) (by first | decide | omega)) (by rfl) T.m_law_all_steps T.F_law_all_steps.kp T.b_law_all_steps .nil pass0 (pa_cons (pv 2) pa_nil)))
    (pss_cons (ps_if (pw_or (pt_cmpR (op_eqD hru) (pv 5) (pe_lst pa_nil) (nomark _)) (pw_or1 (pt_cmpR op_eq (pe_call (ok_law_random T) (hr.room.mono (by first | decide | omega)) (by rfl) T.m_law_random T.F_law_random.kp T.b_law_random .nil pass0 (pa_cons (pv 0) (pa_cons pe_int pa_nil))) pe_int (nomark _)))).pt (pss_one (ps_ret (pe_op op_cat (pv 3) (pe_call (ok_law_steps T) (hr.room.mono (by first | decide | omega)) (by rfl) T.m_law_steps T.F_law_steps.kp T.b_law_steps .nil pass0 (pa_cons (pv 0) (pa_cons (pe_op op_add pe_int (pe_call (ok_law_random T) (hr.room.mono (by first | decide | omega)) (by rfl) T.m_law_random T.F_law_random.kp T.b_law_random .nil pass0 (pa_cons (pv 0) (pa_cons pe_int pa_nil)))) (pa_cons pe_int pa_nil))))))) pss_nil)
    (pss_cons (ps_expr (pe_bm PySem.F.plainAttrs_list PySem.F.slot_list_append PySem.F.type_list_append mt_append (pv 3) (pa_cons (pe_ix ix_list (pv 5) (pe_call (ok_law_random T) (hr.room.mono (by first | decide | omega)) (by rfl) T.m_law_random T.F_law_random.kp T.b_law_random .nil pass0 (pa_cons (pv 0) (pa_cons (pe_callB call_len_seq (by rfl) T.z_len PySem.boot_len (pa_cons (pv 5) pa_nil)) pa_nil))) (fun _ _ => rfl)) pa_nil)))
    (pss_one (ps_set (i := 2) sc_law_drawn.nd rfl (by first | exact Or.inl rfl | exact Or.inr rfl) (pe_callD (ok_law_turn T) (hr.mono (by first | decide | omega) (by first | decide | omega)) (by rfl) T.m_law_turn T.F_law_turn.kp T.b_law_turn .nil pass0 (pa_cons (pv 2) (pa_cons (pe_ix ix_list (pv 3) (pe_un un_neg pe_int) (fun _ _ => rfl)) pa_nil)))))))))
    (pss_one (ps_ret (pv 3))))), ?_⟩
  simp only [cxOf_K, tAsg2, tYes, wipe, tSeq, tIfS, tNot, tB, tCB, tCons, tNil, tVar, tC, tTest, tOp, tAnd, tOr, tAsg, gName, tRet, tRetN, tDrop, tNext, tIf, tCall, tTup, tLst, tNotV, tAndV, tOrV, tUn, rI0, rI, rU, rEq, rNe, tM1, tM0, tBM, tBM0, tSl, tPart, tNoPart, iStr, iEnumS, iRng1, iRng2, iList, gSub, tBits, tAug, tPar, L2.start, List.map_cons, List.map_nil, List.length_cons, List.length_nil, List.getElem?_cons_zero, List.getElem?_cons_succ, List.cons_append, List.nil_append, List.append_nil, List.set_cons_zero, List.set_cons_succ, List.replicate_succ, List.replicate_zero, Option.some.injEq, exists_eq_left', V.int.injEq, V.str.injEq, V.ref.injEq, V.bl.injEq, exists_and_left, exists_eq_left, List.cons.injEq, and_true, true_and, tCallX, tRs]
  refine ⟨t, rfl, by omega, fun v0 H1 s1 pv0 => ⟨by decide, fun p np => ⟨_, _, ⟨rfl, rfl⟩, ?_⟩⟩⟩
  have np0 := s1.free np
  have gp : p ≠ g := by obtain ⟨o, ho⟩ := hg.some; exact (ne_of_none ho np0).symm
  have h2 : upd H1 p (.lst []) p = some (.lst []) := upd_same
  have s2 := s1.new np0 (.lst [])
  have k2 := Keep.of (g := g) s2
  have g2 := hg.same s2
  have pv2 := pv0.same ((L2.Same.refl H1).new np (.lst []))
  generalize upd H1 p (.lst []) = H2 at h2 k2 g2 pv2 ⊢
  clear s2
  refine ⟨_, rfl, g, 13, _, rfl, g2, by omega, by decide, by decide, fun m H3 m0 m1 k3 g3 => ?_⟩
  obtain ⟨m, rfl⟩ := Int.eq_ofNat_of_zero_le m0
  have lg : ∀ {H : Hp} {n : Nat}, GenAt H g n → ∃ ws, H g = some (.lst ws) := fun h => by obtain ⟨a, b, c, e, _⟩ := h; exact ⟨_, e⟩
  obtain ⟨wg2, eg2⟩ := lg g2
  refine ⟨m, rfl, by omega, by omega, for_range (fun i σ H' => ∃ (u : Tr) (v : V) (ws : List V) (xs : List (Str × List Nat)) (a4 a5 : Option V), σ = [some (.ref g), some (trV t), some v, some (.ref p), a4, a5] ∧ u.size = t.size ∧ PT H' v u ∧ xs.length = i ∧ H' p = some (.lst ws) ∧ Stps H' ws xs ∧ (∀ x ∈ xs, okSt 40 x) ∧ Keep g H H' ∧ GenAt H' g (n + 3 + 6 * i)) ⟨t, v0, [], [], none, none, rfl, rfl, pv2.keep k3 eg2, rfl, k3 _ _ gp h2, .nil, (fun x hx => by cases hx), k2.trans k3, g3⟩ ?_ ?_⟩
  · rintro i σ H4 hi ⟨u, v, ws, xs, a4, a5, rfl, us, pv, xl, h4, st, ok, k4, g4⟩
    have him : i < 13 := by omega
    simp only [cxOf_K, tAsg2, tYes, wipe, tSeq, tIfS, tNot, tB, tCB, tCons, tNil, tVar, tC, tTest, tOp, tAnd, tOr, tAsg, gName, tRet, tRetN, tDrop, tNext, tIf, tCall, tTup, tLst, tNotV, tAndV, tOrV, tUn, rI0, rI, rU, rEq, rNe, tM1, tM0, tBM, tBM0, tSl, tPart, tNoPart, iStr, iEnumS, iRng1, iRng2, iList, gSub, tBits, tAug, tPar, L2.start, List.map_cons, List.map_nil, List.length_cons, List.length_nil, List.getElem?_cons_zero, List.getElem?_cons_succ, List.cons_append, List.nil_append, List.append_nil, List.set_cons_zero, List.set_cons_succ, List.replicate_succ, List.replicate_zero, Option.some.injEq, exists_eq_left', V.int.injEq, V.str.injEq, V.ref.injEq, V.bl.injEq, exists_and_left, exists_eq_left, List.cons.injEq, and_true, true_and, tCallX, tRs]
    refine ⟨v, u, rfl, pv, by omega, fun p5 ws5 H5 np5 s5 h5 st5 => ⟨by decide, fun p6 np6 => ?_⟩⟩
    have h45 := s5 _ _ h4
    have g5 := g4.same s5
    have k5 := k4.trans (Keep.of (g := g) s5)
    have pv5 := pv.same s5
    have ss5 := st.same s5
    have okS : ∀ x ∈ stepsT u, okSt 40 x := fun x hx => (stepsT_ok hx).1.mono (by omega)
    have slS := stepsT_len u
    have w5l := st5.length
    have wl := st.length
    have s6 := (L2.Same.refl H5).new np6 (.lst [])
    have h6 : upd H5 p6 (.lst []) p6 = some (.lst []) := upd_same
    have k6 := k5.trans (Keep.of (g := g) s6)
    have pv6 := pv5.same s6
    have ss6 := ss5.same s6
    have st6 := st5.same s6
    have g6 := g5.same s6
    have h46 := s6 _ _ h45
    have h56 := s6 _ _ h5
    have gp5 : p5 ≠ g := by obtain ⟨o, ho⟩ := g4.some; exact (ne_of_none ho np5).symm
    clear h4 g4 s5 g5 k4 k5 pv pv5 st ss5 st5 h5 h45 s6
    generalize upd H5 p6 (.lst []) = H6 at h6 k6 pv6 ss6 st6 g6 h46 h56 ⊢
    have fin : ∀ (H7 : Hp) (j : Nat), j ≤ n + 100 → GenAt H7 g j → Keep g H6 H7 → sp_law_random K [V.ref g, V.int 2] H7 (fun y H2 => ∃ x, y = V.int x ∧ sp_law_steps K [V.ref g, V.int (1 + x), V.int 5] H2 (fun y H2 => rCat (V.ref p) y H2 Q) E0) E0 := by
      intro H7 j hj g7 k7
      refine ⟨g, 2, j, rfl, g7, by omega, by decide, by decide, fun z H8 z0 z1 k8 g8 => ?_⟩
      obtain ⟨z, rfl⟩ := Int.eq_ofNat_of_zero_le z0
      refine ⟨_, rfl, g, 1 + z, 5, _, rfl, g8, by omega, by decide, by decide, by omega, fun p9 ws9 xs9 H9 np9 k9 g9 h9 st9 xl9 ok9 => ?_⟩
      obtain ⟨wg6, eg6⟩ := lg g6
      obtain ⟨wg8, eg8⟩ := lg g8
      have k69 := (k7.trans k8).trans k9
      have w9 := st9.length
      refine ⟨p, p9, ws, ws9, rfl, rfl, k69 _ _ gp h46, h9, small5 (by omega), fun pA npA => ?_⟩
      have ss9 := ss6.keep k69 eg6
      have kA := (k6.trans k69).trans (Keep.of (g := g) ((L2.Same.refl H9).new npA (.lst (ws ++ ws9))))
      have sA := (L2.Same.refl H9).new npA (.lst (ws ++ ws9))
      refine q pA (ws ++ ws9) (xs ++ xs9) _ ?_ kA ((g9.same sA).mono (by omega)) upd_same ((ss9.same sA).append (st9.same sA)) (by rw [List.length_append]; omega) fun x hx => ?_
      · exact (k6.trans k69).free (by obtain ⟨o, ho⟩ := lg g9; exact ⟨_, ho⟩) npA (by obtain ⟨o, ho⟩ := lg hg; exact ⟨_, ho⟩)
      · rcases List.mem_append.mp hx with z | z
        · exact ok x z
        · exact (ok9 x z).mono (by decide)
    refine eqSt0 (fun x hx => ⟨_, okS x hx⟩) h56 st6 h6 ⟨_, rfl, ?_⟩
    by_cases e0 : stepsT u = []
    · rw [if_pos (decide_eq_true e0), if_pos True.intro]
      exact fin H6 _ (by omega) g6 fun _ _ _ h => h
    · rw [if_neg (by simpa using e0)]
      refine ⟨g, 9, _, rfl, g6, by omega, by decide, by decide, fun z H7 z0 z1 k7 g7 => ⟨rfl, ?_⟩⟩
      by_cases ez : (V.int z) = V.int 0
      · refine ifdT ez ?_
        exact fin H7 _ (by omega) g7 k7
      · refine ifdF ez ?_
        have h47 := k7 _ _ gp h46
        have h57 := k7 _ _ gp5 h56
        have lp : 0 < (stepsT u).length := List.length_pos_iff.mpr e0
        refine ⟨tyV_lst h47, p5, rfl, ws5, .inl (SqL.of h57), g, ((ws5.length : Nat) : Int), _, rfl, g7, by omega, by omega, by omega, fun y H8 y0 y1 k8 g8 => ?_⟩
        obtain ⟨y, rfl⟩ := Int.eq_ofNat_of_zero_le y0
        have yl : y < ws5.length := by omega
        have h48 := k8 _ _ gp h47
        have h58 := k8 _ _ gp5 h57
        obtain ⟨wg6, eg6⟩ := lg g6
        have ss8 := ss6.keep (k7.trans k8) eg6
        have st8 := st6.keep (k7.trans k8) eg6
        have pv8 := pv6.keep (k7.trans k8) eg6
        obtain ⟨pz, x, ex, hx, hpz⟩ := st8.get (List.getElem?_eq_getElem yl)
        obtain ⟨okx, sox⟩ := stepsT_ok (List.mem_of_getElem? hx)
        have hpz8 := hpz
        have f : ∀ b o, b ≠ p → H8 b = some o → upd H8 p (.lst (ws ++ [V.ref pz])) b = some o := fun b o nb e => by rw [upd_ne nb]; exact e
        have ft : ∀ b vs, H8 b = some (.tup vs) → upd H8 p (.lst (ws ++ [V.ref pz])) b = some (.tup vs) := fun b vs e => f _ _ (ne_of e h48 fun z => by cases z) e
        have kp : Keep p H8 (upd H8 p (.lst (ws ++ [V.ref pz]))) := fun b o nb e => f b o nb e
        have k9 : Keep g H (upd H8 p (.lst (ws ++ [V.ref pz]))) := fun b o nb hb => by
          have nbp : b ≠ p := fun e => by rw [e, np0] at hb; cases hb
          exact f _ _ nbp (((k6.trans k7).trans k8) _ _ nb hb)
        have g9 : GenAt (upd H8 p (.lst (ws ++ [V.ref pz]))) g (n + 3 + 6 * (i + 1)) := by
          obtain ⟨a, b, c, e1, e2, e3⟩ := g8
          exact ⟨a, b, c, f _ _ gp.symm e1, e2, by omega⟩
        have p9 := pv8.keep kp h48
        have hz9 := ft _ _ hpz8
        have st9 := (Stps.mono ft ss8).append (.cons hz9 .nil)
        have hp9 : upd H8 p (.lst (ws ++ [V.ref pz])) p = some (.lst (ws ++ [V.ref pz])) := upd_same
        refine ⟨p5, ws5, (y : Int), .ref pz, rfl, rfl, SqL.of h58, atI_nat (by rw [List.getElem?_eq_getElem yl, ex]), p, ws, .ref pz, rfl, rfl, h48, small5' (by omega), ?_⟩
        generalize upd H8 p (.lst (ws ++ [V.ref pz])) = H9 at k9 g9 p9 hz9 st9 hp9 ⊢
        have xl2 := okx.2.2
        refine ⟨p, _, -1, .ref pz, rfl, rfl, SqL.of hp9, atI_last _ _, v, pz, u, x.1, x.2, rfl, p9, hz9, okx.1, okx.2.1, by omega, fun no => absurd sox (by rw [no]; decide), fun s' so w' H10 s10 pw => ?_⟩
        refine ⟨s', w', ws ++ [.ref pz], xs ++ [x], _, _, ⟨rfl, rfl, rfl⟩, by rw [stepSize so, us], pw, by rw [List.length_append, xl]; rfl, s10 _ _ hp9, st9.same s10, fun z hz => ?_, k9.trans (Keep.of s10), g9.same s10⟩
        rcases List.mem_append.mp hz with hz | hz
        · exact ok z hz
        · rw [List.mem_singleton.mp hz]
          exact okx.mono (by omega)
  · rintro σ H4 ⟨u, v, ws, xs, a4, a5, rfl, us, pv, xl, h4, st, ok, k4, g4⟩
    simp only [cxOf_K, tAsg2, tYes, wipe, tSeq, tIfS, tNot, tB, tCB, tCons, tNil, tVar, tC, tTest, tOp, tAnd, tOr, tAsg, gName, tRet, tRetN, tDrop, tNext, tIf, tCall, tTup, tLst, tNotV, tAndV, tOrV, tUn, rI0, rI, rU, rEq, rNe, tM1, tM0, tBM, tBM0, tSl, tPart, tNoPart, iStr, iEnumS, iRng1, iRng2, iList, gSub, tBits, tAug, tPar, L2.start, List.map_cons, List.map_nil, List.length_cons, List.length_nil, List.getElem?_cons_zero, List.getElem?_cons_succ, List.cons_append, List.nil_append, List.append_nil, List.set_cons_zero, List.set_cons_succ, List.replicate_succ, List.replicate_zero, Option.some.injEq, exists_eq_left', V.int.injEq, V.str.injEq, V.ref.injEq, V.bl.injEq, exists_and_left, exists_eq_left, List.cons.injEq, and_true, true_and, tCallX, tRs]
    exact q p ws xs H4 np0 k4 (g4.mono (by omega)) h4 st (by omega) ok

theorem ok_law_due (T : Txt w K mg) : FnD P w K mg base CX0 204 8 T.a_law_due T.fd_law_due ["_law_tree_here", "_law_some"] (sp_law_due K) := by
  refine okD T.F_law_due sc_law_due (fun vs H Q E h => ?_) (fun cdv A outer s H vs Q E hr h => ?_)
  · obtain ⟨t, a, ws, xs, rfl, _⟩ := h; rfl
  obtain ⟨t, a, ws, xs, rfl, ht, ha, st, xl, ok, ql, qr⟩ := h
  refine ⟨_, (pss_cons (ps_set (i := 2) sc_law_due.nd rfl (by first | exact Or.inl rfl | exact Or.inr rfl) (pe_call (ok_law_parsed T) (hr.room.mono (by first | decide | omega)) (by rfl) T.m_law_parsed T.F_law_parsed.kp T.b_law_parsed .nil pass0 (pa_cons (pv 0) pa_nil)))
    (pss_cons (ps_for PassesOwn.never rfl (pi_enum (by rfl) T.z_enumerate (pa_cons (pv 1) pa_nil)) (pg_tup rfl (pgs_cons (pg_name (i := 3) sc_law_due.nd rfl (by first | exact Or.inl rfl | exact Or.inr rfl)) (pgs_cons (pg_name (i := 4) sc_law_due.nd rfl (by first | exact Or.inl rfl | exact Or.inr rfl)) pgs_nil))) (pss_cons (ps_set (i := 2) sc_law_due.nd rfl (by first | exact Or.inl rfl | exact Or.inr rfl) (pe_callD (ok_law_turn T) (hr.mono (by first | decide | omega) (by first | decide | omega)) (by rfl) T.m_law_turn T.F_law_turn.kp T.b_law_turn .nil pass0 (pa_cons (pv 2) (pa_cons (pv 4) pa_nil))))
    (pss_one (ps_if (pt_cmpR op_isN (pv 2) pe_non (nomark _)) (pss_one (ps_ret (pe_lst (pa_cons pe_str (pa_cons (pv 3) pa_nil))))) pss_nil))))
    (pss_one (ps_ret (pe_callD (ok_law_text T 200) (hr.mono (by first | decide | omega) (by first | decide | omega)) (by rfl) T.m_law_text T.F_law_text.kp T.b_law_text .nil pass0 (pa_cons (pv 2) pa_nil)))))), ?_⟩
  simp only [cxOf_K, tAsg2, tYes, wipe, tSeq, tIfS, tNot, tB, tCB, tCons, tNil, tVar, tC, tTest, tOp, tAnd, tOr, tAsg, gName, tRet, tRetN, tDrop, tNext, tIf, tCall, tTup, tLst, tNotV, tAndV, tOrV, tUn, rI0, rI, rU, rEq, rNe, tM1, tM0, tBM, tBM0, tSl, tPart, tNoPart, iStr, iEnumS, iRng1, iRng2, iList, gSub, tBits, tAug, tPar, L2.start, List.map_cons, List.map_nil, List.length_cons, List.length_nil, List.getElem?_cons_zero, List.getElem?_cons_succ, List.cons_append, List.nil_append, List.append_nil, List.set_cons_zero, List.set_cons_succ, List.replicate_succ, List.replicate_zero, Option.some.injEq, exists_eq_left', V.int.injEq, V.str.injEq, V.ref.injEq, V.bl.injEq, exists_and_left, exists_eq_left, List.cons.injEq, and_true, true_and, tCallX, tRs]
  refine ⟨t, rfl, by omega, fun v0 H1 s1 pv0 => ?_⟩
  have wl := st.length
  have h1 := s1 _ _ ha
  refine ⟨_, rfl, a, ws, rfl, SqL.of h1, TD.for_enumL (K := K) (a := a) (xs := ws) (fun i σ H' => ∃ (u : Tr) (v : V) (a4 a5 : Option V), σ = [some (trV t), some (.ref a), some v, a4, a5] ∧ Same H H' ∧ PT H' v u ∧ u.size = t.size ∧ runT i (xs.drop i) u = runT 0 xs t) ⟨t, v0, none, none, rfl, s1, pv0, rfl, rfl⟩ ?_ ?_ ?_⟩
  · rintro i σ H' ⟨u, v, a4, a5, rfl, s3, pv, us, ru⟩
    exact SqL.of (s3 _ _ ha)
  · rintro i x σ H' T' hi ⟨u, v, a4, a5, rfl, s3, pv, us, ru⟩ nT
    obtain ⟨p4, x, rfl, hx, hp4⟩ := st.get hi
    have okx := ok x (List.mem_of_getElem? hx)
    have s4 := (L2.Same.refl H').new nT (.tup [.int (i : Nat), .ref p4])
    have hT : upd H' T' (.tup [.int (i : Nat), .ref p4]) T' = some (.tup [.int (i : Nat), .ref p4]) := upd_same
    have s34 := s3.trans s4
    have pv4 := pv.same s4
    generalize upd H' T' (.tup [.int (i : Nat), .ref p4]) = H4 at s34 hT pv4 ⊢
    have hp5 := s34 _ _ hp4
    have dr : xs.drop i = x :: xs.drop (i + 1) := by
      have il : i < xs.length := by
        rcases Nat.lt_or_ge i xs.length with q | q
        · exact q
        · rw [List.getElem?_eq_none_iff.mpr q] at hx; cases hx
      rw [List.drop_eq_getElem_cons il]
      rw [List.getElem?_eq_getElem il] at hx
      cases hx
      rfl
    have r1 : runT i (x :: xs.drop (i + 1)) u = runT 0 xs t := by rw [← dr]; exact ru
    simp only [gTup, gCons, gNil, cxOf_K, tAsg2, tYes, wipe, tSeq, tIfS, tNot, tB, tCB, tCons, tNil, tVar, tC, tTest, tOp, tAnd, tOr, tAsg, gName, tRet, tRetN, tDrop, tNext, tIf, tCall, tTup, tLst, tNotV, tAndV, tOrV, tUn, rI0, rI, rU, rEq, rNe, tM1, tM0, tBM, tBM0, tSl, tPart, tNoPart, iStr, iEnumS, iRng1, iRng2, iList, gSub, tBits, tAug, tPar, L2.start, List.map_cons, List.map_nil, List.length_cons, List.length_nil, List.getElem?_cons_zero, List.getElem?_cons_succ, List.cons_append, List.nil_append, List.append_nil, List.set_cons_zero, List.set_cons_succ, List.replicate_succ, List.replicate_zero, Option.some.injEq, exists_eq_left', V.int.injEq, V.str.injEq, V.ref.injEq, V.bl.injEq, exists_and_left, exists_eq_left, List.cons.injEq, and_true, true_and, tCallX, tRs]
    refine ⟨_, SqT.of hT, rfl, _, _, rfl, _, _, rfl, rfl, ?_⟩
    refine ⟨v, p4, u, x.1, x.2, rfl, pv4, hp5, okx.1, okx.2.1, by have := okx.2.2; omega, fun no H5 s5 => ?_, fun s' so w' H5 s5 pw => ?_⟩
    · refine ifdT rfl ⟨by decide, fun p np => ?_⟩
      have r2 : runT 0 xs t = .inr i := by
        rw [← r1]
        simp only [runT, no]
      have s45 := s34.trans s5
      exact qr i r2 p _ (s45.free np) (s45.new (s45.free np) _) upd_same
    · have ru : ∃ pu : Addr, w' = .ref pu := by cases pw <;> exact ⟨_, rfl⟩
      refine ifdF (fun z => by obtain ⟨pu, hu⟩ := ru; rw [hu] at z; cases z) ⟨s', w', _, _, ⟨rfl, rfl, rfl⟩, s34.trans s5, pw, by rw [stepSize so, us], ?_⟩
      rw [← r1]
      simp only [runT, so]
  · rintro σ H' ⟨u, v, a4, a5, rfl, s3, pv, us, ru⟩
    simp only [cxOf_K, tAsg2, tYes, wipe, tSeq, tIfS, tNot, tB, tCB, tCons, tNil, tVar, tC, tTest, tOp, tAnd, tOr, tAsg, gName, tRet, tRetN, tDrop, tNext, tIf, tCall, tTup, tLst, tNotV, tAndV, tOrV, tUn, rI0, rI, rU, rEq, rNe, tM1, tM0, tBM, tBM0, tSl, tPart, tNoPart, iStr, iEnumS, iRng1, iRng2, iList, gSub, tBits, tAug, tPar, L2.start, List.map_cons, List.map_nil, List.length_cons, List.length_nil, List.getElem?_cons_zero, List.getElem?_cons_succ, List.cons_append, List.nil_append, List.append_nil, List.set_cons_zero, List.set_cons_succ, List.replicate_succ, List.replicate_zero, Option.some.injEq, exists_eq_left', V.int.injEq, V.str.injEq, V.ref.injEq, V.bl.injEq, exists_and_left, exists_eq_left, List.cons.injEq, and_true, true_and, tCallX, tRs]
    rw [wl, List.drop_length] at ru
    have := hgt_size u
    exact ⟨v, u, rfl, pv, by omega, by omega, fun H5 s5 => ql u ru.symm H5 (s3.trans s5)⟩

theorem kIT_IS (T : Txt w K mg) : PySem.W.kitOne K (.ref T.c_InvalidTree) (.ref T.c_InvalidScript) = some false := by
  have nd := T.nd
  simp only [List.nodup_cons, List.mem_cons, List.not_mem_nil, or_false, not_or] at nd
  exact kitFalse T T.e_InvalidTree T.e_InvalidScript nd.1.1 nd.2.1.2
theorem kIT_CT (T : Txt w K mg) : PySem.W.kitOne K (.ref T.c_InvalidTree) (.ref T.c_CannotTurn) = some false := by
  have nd := T.nd
  simp only [List.nodup_cons, List.mem_cons, List.not_mem_nil, or_false, not_or] at nd
  exact kitFalse T T.e_InvalidTree T.e_CannotTurn nd.1.2.1 nd.2.2.1
theorem kIS_CT (T : Txt w K mg) : PySem.W.kitOne K (.ref T.c_InvalidScript) (.ref T.c_CannotTurn) = some false := by
  have nd := T.nd
  simp only [List.nodup_cons, List.mem_cons, List.not_mem_nil, or_false, not_or] at nd
  exact kitFalse T T.e_InvalidScript T.e_CannotTurn nd.2.1.1 nd.2.2.1
theorem ok_law_told (T : Txt w K mg) : FnG P w K mg base CX0 14 T.a_law_told T.fd_law_told ["_law_tree_here", "_law_some"] (sp_law_told T) := by
  refine okG T.F_law_told sc_law_told (fun vs H Q E h => ?_) (fun cdv A outer s H vs Q E hG hr h => ?_)
  · obtain ⟨u, v, rfl, _⟩ := h; rfl
  obtain ⟨u, v, rfl, h⟩ := h
  have hru := hr.units
  refine ⟨_, (pss_cons (ps_set (i := 2) sc_law_told.nd rfl (by first | exact Or.inl rfl | exact Or.inr rfl) pe_non)
    (pss_cons (ps_try_keep (i := 3) (j := 2) rfl rfl rfl sc_law_told.nd rfl rfl rfl rfl (by decide) ⟨by rfl, by decide, .inl T.g_TurnError⟩ takes0 (fun W pn xe tk po => (pss_one (ps_ret (pe_callX (ok_turned T) tk (hr.mono (by first | decide | omega)) (by rfl) T.m_turned T.F_turned.kp T.b_turned .nil (pa_cons (pv 0) (pa_cons (pv 1) pa_nil)))))) (fun a pn => pss_one (ps_set (i := 2) sc_law_told.nd rfl (by first | exact Or.inl rfl | exact Or.inr rfl) (pv 3))))
    (pss_cons (ps_if (pt_val (pe_callB call_isQ (by rfl) T.z_isinstance (by decide +kernel) (pa_cons (pv 2) (pa_cons (pe_glob (v := .ref T.c_CannotTurn) (by rfl) T.g_CannotTurn rfl) pa_nil)))) (pss_one (ps_ret (pe_lst (pa_cons pe_str (pa_cons (pe_qx (pv 2)) pa_nil))))) pss_nil)
    (pss_cons (ps_if (pt_val (pe_callB call_isQ (by rfl) T.z_isinstance (by decide +kernel) (pa_cons (pv 2) (pa_cons (pe_glob (v := .ref T.c_InvalidScript) (by rfl) T.g_InvalidScript rfl) pa_nil)))) (pss_cons (ps_if (pt_val (pe_callB call_isi (by rfl) T.z_isinstance (by decide +kernel) (pa_cons (pe_qx (pv 2)) (pa_cons (pe_bltn (v := .ty "list") (by rfl) T.z_list (by decide +kernel) rfl) pa_nil)))) (pss_one (ps_expr (pe_bm PySem.F.plainAttrs_list PySem.F.slot_list_append PySem.F.type_list_append mt_append (pe_qx (pv 2)) (pa_cons pe_str pa_nil)))) pss_nil)
    (pss_one (ps_ret (pe_lst (pa_cons pe_str (pa_cons (pe_callB (cr_reprV hG hru) (by rfl) T.z_repr (by decide +kernel) (pa_cons (pe_qx (pv 2)) pa_nil)) pa_nil)))))) pss_nil)
    (pss_one (ps_ret (pe_lst (pa_cons pe_str (pa_cons (pe_and (pe_callB call_isQ (by rfl) T.z_isinstance (by decide +kernel) (pa_cons (pv 2) (pa_cons (pe_glob (v := .ref T.c_InvalidTree) (by rfl) T.g_InvalidTree rfl) pa_nil))) (pe_one (pe_cmpR op_eq (pe_callB (cr_reprV hG hru) (by rfl) T.z_repr (by decide +kernel) (pa_cons (pe_qx (pv 2)) pa_nil)) (pe_callB (cr_reprV hG hru) (by rfl) T.z_repr (by decide +kernel) (pa_cons (pv 0) pa_nil)) (nomark _)))) pa_nil))))))))), ?_⟩
  simp only [cxOf_K, tAsg2, tYes, wipe, tSeq, tIfS, tNot, tB, tCB, tCons, tNil, tVar, tC, tTest, tOp, tAnd, tOr, tAsg, gName, tRet, tRetN, tDrop, tNext, tIf, tCall, tTup, tLst, tNotV, tAndV, tOrV, tUn, rI0, rI, rU, rEq, rNe, tM1, tM0, tBM, tBM0, tSl, tPart, tNoPart, iStr, iEnumS, iRng1, iRng2, iList, gSub, tBits, tAug, tPar, L2.start, List.map_cons, List.map_nil, List.length_cons, List.length_nil, List.getElem?_cons_zero, List.getElem?_cons_succ, List.cons_append, List.nil_append, List.append_nil, List.set_cons_zero, List.set_cons_succ, List.replicate_succ, List.replicate_zero, Option.some.injEq, exists_eq_left', V.int.injEq, V.str.injEq, V.ref.injEq, V.bl.injEq, exists_and_left, exists_eq_left, List.cons.injEq, and_true, true_and, tCallX, tRs]
  have out : ∀ (C : Addr) (f : Str) (b : V) (e : ErrC K C (.ref C :: .ref T.c_TurnError :: veL)) (D : Ends) (σ : L2.St), (∀ H4, Same H H4 → ∀ a, Kept H4 a C [(f, b)] → D.nx (((σ.set 3 (some (.ref a))).set 2 (some (.ref a))).set 3 none) H4) →
      OutF C f b H fun cls d H3 => wKeep K (.ref T.c_TurnError) 3 2 (fun _ _ _ _ => False) D cls d σ H3 := fun C f b e D σ go d' H2 s2 nd hd => by
    refine ⟨C, true, rfl, exmT T e, fun _ a na => ?_, fun z => by cases z⟩
    have da : d' ≠ a := fun z => by rw [z, na] at hd; cases hd
    exact go _ (s2.new (s2.free na) (kxo a C (some d'))) a ⟨d', upd_same, by rw [upd_ne da]; exact hd⟩
  rcases h with ⟨t, xs, rfl, ht, gs, ok, ql, qr⟩ | ⟨t, rfl, ht, bs, sh⟩ | ⟨nt, d, gd, q⟩
  · refine ⟨_, _, rfl, .inl ⟨t, rfl, ht, .inl ⟨xs, gs, ok, ql, fun i hi => ?_⟩⟩⟩
    refine out _ _ _ T.e_CannotTurn _ _ fun H4 s4 a kp => ?_
    simp only [tQx, cxOf_K, tAsg2, tYes, wipe, tSeq, tIfS, tNot, tB, tCB, tCons, tNil, tVar, tC, tTest, tOp, tAnd, tOr, tAsg, gName, tRet, tRetN, tDrop, tNext, tIf, tCall, tTup, tLst, tNotV, tAndV, tOrV, tUn, rI0, rI, rU, rEq, rNe, tM1, tM0, tBM, tBM0, tSl, tPart, tNoPart, iStr, iEnumS, iRng1, iRng2, iList, gSub, tBits, tAug, tPar, L2.start, List.map_cons, List.map_nil, List.length_cons, List.length_nil, List.getElem?_cons_zero, List.getElem?_cons_succ, List.cons_append, List.nil_append, List.append_nil, List.set_cons_zero, List.set_cons_succ, List.replicate_succ, List.replicate_zero, Option.some.injEq, exists_eq_left', V.int.injEq, V.str.injEq, V.ref.injEq, V.bl.injEq, exists_and_left, exists_eq_left, List.cons.injEq, and_true, true_and, tCallX, tRs]
    refine ⟨a, T.c_CannotTurn, _, _, _, true, rfl, T.e_CannotTurn.ec, kp, .own _, kitSelf, true, rfl, ?_⟩
    rw [if_pos rfl]
    refine ⟨T.c_CannotTurn, T.x_CannotTurn, T.n_CannotTurn, _, kp, .int (i : Nat), rfl, by decide, fun p np => ?_⟩
    exact qr i hi p _ (s4.free np) (s4.new (s4.free np) _) upd_same
  · refine ⟨_, _, rfl, .inl ⟨t, rfl, ht, .inr ⟨bs, ?_⟩⟩⟩
    refine out _ "value" _ T.e_InvalidScript _ _ fun H4 s4 a kp => ?_
    simp only [tQx, cxOf_K, tAsg2, tYes, wipe, tSeq, tIfS, tNot, tB, tCB, tCons, tNil, tVar, tC, tTest, tOp, tAnd, tOr, tAsg, gName, tRet, tRetN, tDrop, tNext, tIf, tCall, tTup, tLst, tNotV, tAndV, tOrV, tUn, rI0, rI, rU, rEq, rNe, tM1, tM0, tBM, tBM0, tSl, tPart, tNoPart, iStr, iEnumS, iRng1, iRng2, iList, gSub, tBits, tAug, tPar, L2.start, List.map_cons, List.map_nil, List.length_cons, List.length_nil, List.getElem?_cons_zero, List.getElem?_cons_succ, List.cons_append, List.nil_append, List.append_nil, List.set_cons_zero, List.set_cons_succ, List.replicate_succ, List.replicate_zero, Option.some.injEq, exists_eq_left', V.int.injEq, V.str.injEq, V.ref.injEq, V.bl.injEq, exists_and_left, exists_eq_left, List.cons.injEq, and_true, true_and, tCallX, tRs]
    refine ⟨a, T.c_InvalidScript, _, _, _, false, rfl, T.e_InvalidScript.ec, kp, .own _, kIS_CT T, false, rfl, ?_⟩
    rw [if_neg (by decide)]
    refine ⟨a, T.c_InvalidScript, _, _, _, true, rfl, T.e_InvalidScript.ec, kp, .own _, kitSelf, true, rfl, ?_⟩
    rw [if_pos rfl]
    rcases sh with ⟨d, ty, gd, tx, hk, q⟩ | ⟨l, ws, rfl, hl, hw, q⟩
    · refine ⟨T.c_InvalidScript, T.x_InvalidScript, T.n_InvalidScript, _, kp, v, rfl, v, _, ty, _, false, rfl, .ty _, tyX_same tx s4, hk, false, rfl, ?_⟩
      rw [if_neg (by decide)]
      refine ⟨T.c_InvalidScript, T.x_InvalidScript, T.n_InvalidScript, _, kp, v, rfl, (Good.same gd s4).repr ⟨by decide, fun p np => ?_⟩⟩
      exact q H4 s4 p _ np ((L2.Same.refl H4).new np _) upd_same
    · have h4 := s4 _ _ hl
      refine ⟨T.c_InvalidScript, T.x_InvalidScript, T.n_InvalidScript, _, kp, .ref l, rfl, _, _, _, _, true, rfl, .ty _, .base (.lst h4), kit_ty (by decide +kernel), true, rfl, ?_⟩
      rw [if_pos rfl]
      refine ⟨T.c_InvalidScript, T.x_InvalidScript, T.n_InvalidScript, _, kp, .ref l, rfl, tyV_lst h4, l, _, _, rfl, rfl, h4, small5' (by omega), ?_⟩
      have k1 : Keep l H4 (upd H4 l (.lst (ws ++ [V.str (Str.ofString "more")]))) := fun b o nb hb => by rw [upd_ne nb]; exact hb
      have h1 : upd H4 l (.lst (ws ++ [V.str (Str.ofString "more")])) l = some (.lst (ws ++ [V.str "more"])) := upd_same
      have kp1 := Kept.keep kp k1 h4
      generalize upd H4 l (.lst (ws ++ [V.str (Str.ofString "more")])) = H5 at k1 h1 kp1 ⊢
      obtain ⟨d, gd, q⟩ := q H5 (fun b o nb hb => k1 b o nb (s4 _ _ hb)) h1
      refine ⟨T.c_InvalidScript, T.x_InvalidScript, T.n_InvalidScript, _, kp1, .ref l, rfl, Good.repr gd ⟨by decide, fun p np => ?_⟩⟩
      exact q p _ np ((L2.Same.refl H5).new np _) upd_same
  · refine ⟨_, _, rfl, .inr ⟨nt, ?_⟩⟩
    refine out _ "value" _ T.e_InvalidTree _ _ fun H4 s4 a kp => ?_
    simp only [tQx, cxOf_K, tAsg2, tYes, wipe, tSeq, tIfS, tNot, tB, tCB, tCons, tNil, tVar, tC, tTest, tOp, tAnd, tOr, tAsg, gName, tRet, tRetN, tDrop, tNext, tIf, tCall, tTup, tLst, tNotV, tAndV, tOrV, tUn, rI0, rI, rU, rEq, rNe, tM1, tM0, tBM, tBM0, tSl, tPart, tNoPart, iStr, iEnumS, iRng1, iRng2, iList, gSub, tBits, tAug, tPar, L2.start, List.map_cons, List.map_nil, List.length_cons, List.length_nil, List.getElem?_cons_zero, List.getElem?_cons_succ, List.cons_append, List.nil_append, List.append_nil, List.set_cons_zero, List.set_cons_succ, List.replicate_succ, List.replicate_zero, Option.some.injEq, exists_eq_left', V.int.injEq, V.str.injEq, V.ref.injEq, V.bl.injEq, exists_and_left, exists_eq_left, List.cons.injEq, and_true, true_and, tCallX, tRs]
    refine ⟨a, T.c_InvalidTree, _, _, _, false, rfl, T.e_InvalidTree.ec, kp, .own _, kIT_CT T, false, rfl, ?_⟩
    rw [if_neg (by decide)]
    refine ⟨a, T.c_InvalidTree, _, _, _, false, rfl, T.e_InvalidTree.ec, kp, .own _, kIT_IS T, false, rfl, ?_⟩
    rw [if_neg (by decide)]
    refine ⟨a, T.c_InvalidTree, _, _, _, true, rfl, T.e_InvalidTree.ec, kp, .own _, kitSelf, true, rfl, ?_⟩
    rw [if_pos rfl]
    refine ⟨T.c_InvalidTree, T.x_InvalidTree, T.n_InvalidTree, _, kp, u, rfl, (Good.same gd s4).repr ((Good.same gd s4).repr ⟨rfl, by decide, fun p np => ?_⟩)⟩
    exact q p _ (s4.free np) (s4.new (s4.free np) _) (by rw [upd_same, decide_eq_true rfl])

theorem ok_law_no_steps (T : Txt w K mg) : FnG P w K mg base CX0 14 T.a_law_no_steps T.fd_law_no_steps ["_law_thing"] (sp_law_no_steps T) := by
  refine okG T.F_law_no_steps sc_law_no_steps (fun vs H Q E h => ?_) (fun cdv A outer s H vs Q E hG hr h => ?_)
  · obtain ⟨u, rfl, _⟩ := h; rfl
  obtain ⟨u, rfl, nt, d, gd, q⟩ := h
  have hru := hr.units
  refine ⟨_, (pss_cons (ps_set (i := 1) sc_law_no_steps.nd rfl (by first | exact Or.inl rfl | exact Or.inr rfl) pe_non)
    (pss_cons (ps_try_keep (i := 2) (j := 1) rfl rfl rfl sc_law_no_steps.nd rfl rfl rfl rfl (by decide) ⟨by rfl, by decide, .inl T.g_TurnError⟩ takes0 (fun W pn xe tk po => (pss_one (ps_expr (pe_callX (ok_steps_of T) tk (hr.mono (by first | decide | omega)) (by rfl) T.m_steps_of T.F_steps_of.kp T.b_steps_of .nil (pa_cons (pv 0) pa_nil))))) (fun a pn => pss_one (ps_set (i := 1) sc_law_no_steps.nd rfl (by first | exact Or.inl rfl | exact Or.inr rfl) (pv 2))))
    (pss_one (ps_ret (pe_and (pe_callB call_isQ (by rfl) T.z_isinstance (by decide +kernel) (pa_cons (pv 1) (pa_cons (pe_glob (v := .ref T.c_InvalidTree) (by rfl) T.g_InvalidTree rfl) pa_nil))) (pe_one (pe_cmpR op_eq (pe_callB (cr_reprV hG hru) (by rfl) T.z_repr (by decide +kernel) (pa_cons (pe_qx (pv 1)) pa_nil)) (pe_callB (cr_reprV hG hru) (by rfl) T.z_repr (by decide +kernel) (pa_cons (pv 0) pa_nil)) (nomark _)))))))), ?_⟩
  simp only [cxOf_K, tAsg2, tYes, wipe, tSeq, tIfS, tNot, tB, tCB, tCons, tNil, tVar, tC, tTest, tOp, tAnd, tOr, tAsg, gName, tRet, tRetN, tDrop, tNext, tIf, tCall, tTup, tLst, tNotV, tAndV, tOrV, tUn, rI0, rI, rU, rEq, rNe, tM1, tM0, tBM, tBM0, tSl, tPart, tNoPart, iStr, iEnumS, iRng1, iRng2, iList, gSub, tBits, tAug, tPar, L2.start, List.map_cons, List.map_nil, List.length_cons, List.length_nil, List.getElem?_cons_zero, List.getElem?_cons_succ, List.cons_append, List.nil_append, List.append_nil, List.set_cons_zero, List.set_cons_succ, List.replicate_succ, List.replicate_zero, Option.some.injEq, exists_eq_left', V.int.injEq, V.str.injEq, V.ref.injEq, V.bl.injEq, exists_and_left, exists_eq_left, List.cons.injEq, and_true, true_and, tCallX, tRs]
  have out : ∀ (C : Addr) (f : Str) (b : V) (e : ErrC K C (.ref C :: .ref T.c_TurnError :: veL)) (D : Ends) (σ : L2.St), (∀ H4, Same H H4 → ∀ a, Kept H4 a C [(f, b)] → D.nx (((σ.set 2 (some (.ref a))).set 1 (some (.ref a))).set 2 none) H4) →
      OutF C f b H fun cls d H3 => wKeep K (.ref T.c_TurnError) 2 1 (fun _ _ _ _ => False) D cls d σ H3 := fun C f b e D σ go d' H2 s2 nd hd => by
    refine ⟨C, true, rfl, exmT T e, fun _ a na => ?_, fun z => by cases z⟩
    have da : d' ≠ a := fun z => by rw [z, na] at hd; cases hd
    exact go _ (s2.new (s2.free na) (kxo a C (some d'))) a ⟨d', upd_same, by rw [upd_ne da]; exact hd⟩
  refine ⟨_, rfl, .inr ⟨nt, ?_⟩⟩
  refine out _ "value" _ T.e_InvalidTree _ _ fun H4 s4 a kp => ?_
  simp only [tQx, cxOf_K, tAsg2, tYes, wipe, tSeq, tIfS, tNot, tB, tCB, tCons, tNil, tVar, tC, tTest, tOp, tAnd, tOr, tAsg, gName, tRet, tRetN, tDrop, tNext, tIf, tCall, tTup, tLst, tNotV, tAndV, tOrV, tUn, rI0, rI, rU, rEq, rNe, tM1, tM0, tBM, tBM0, tSl, tPart, tNoPart, iStr, iEnumS, iRng1, iRng2, iList, gSub, tBits, tAug, tPar, L2.start, List.map_cons, List.map_nil, List.length_cons, List.length_nil, List.getElem?_cons_zero, List.getElem?_cons_succ, List.cons_append, List.nil_append, List.append_nil, List.set_cons_zero, List.set_cons_succ, List.replicate_succ, List.replicate_zero, Option.some.injEq, exists_eq_left', V.int.injEq, V.str.injEq, V.ref.injEq, V.bl.injEq, exists_and_left, exists_eq_left, List.cons.injEq, and_true, true_and, tCallX, tRs]
  refine ⟨a, T.c_InvalidTree, _, _, _, true, rfl, T.e_InvalidTree.ec, kp, .own _, kitSelf, true, rfl, ?_⟩
  rw [if_pos rfl]
  refine ⟨T.c_InvalidTree, T.x_InvalidTree, T.n_InvalidTree, _, kp, u, rfl, (Good.same gd s4).repr ((Good.same gd s4).repr ⟨rfl, ?_⟩)⟩
  rw [decide_eq_true rfl]
  exact q H4 s4

theorem shAll_app (ds es : List PyData) : PyData.showableAll (ds ++ es) = (PyData.showableAll ds && PyData.showableAll es) := by
  induction ds with
  | nil => simp [PyData.showableAll]
  | cons d ds ih => simp only [PyData.showableAll, List.cons_append, ih, Bool.and_assoc]
theorem dpAll_app (ds es : List PyData) : PyData.depthAll (ds ++ es) = max (PyData.depthAll ds) (PyData.depthAll es) := by
  induction ds with
  | nil => simp [PyData.depthAll]
  | cons d ds ih => simp only [PyData.depthAll, List.cons_append, ih]; omega
theorem lsAll_app (ds es : List PyData) : PyData.leavesShortAll 30 (ds ++ es) = (PyData.leavesShortAll 30 ds && PyData.leavesShortAll 30 es) := by
  induction ds with
  | nil => simp [PyData.leavesShortAll]
  | cons d ds ih => simp only [PyData.leavesShortAll, List.cons_append, ih, Bool.and_assoc]
theorem bkAll_app (ds es : List PyData) : PyData.bulkAll (ds ++ es) = PyData.bulkAll ds + PyData.bulkAll es := by
  induction ds with
  | nil => simp [PyData.bulkAll]
  | cons d ds ih => simp only [PyData.bulkAll, List.cons_append, ih]; omega
theorem hdAll_app (ds es : List PyData) : PyData.hasDictAll (ds ++ es) = (PyData.hasDictAll ds || PyData.hasDictAll es) := by
  induction ds with
  | nil => simp [PyData.hasDictAll]
  | cons d ds ih => simp only [PyData.hasDictAll, List.cons_append, ih, Bool.or_assoc]
theorem Plain.c {ds : List PyData} {n : Nat} (h : Plain ds n) : PlainC false ds n := ⟨h.sh, h.dp, h.ls, h.bk, h.hd⟩
theorem PlainC.app {b c : Bool} {ds es : List PyData} {m n : Nat} (h : PlainC b ds m) (g : PlainC c es n) : PlainC (b || c) (ds ++ es) (m + n) := by
  refine ⟨by rw [shAll_app, h.sh, g.sh]; rfl, ?_, by rw [lsAll_app, h.ls, g.ls]; rfl, ?_, by rw [hdAll_app, h.hd, g.hd]⟩
  · rw [dpAll_app]
    have := h.dp; have := g.dp
    omega
  · rw [bkAll_app]
    have := h.bk; have := g.bk
    omega
theorem goodListC {H : Hp} {p : Addr} {ws : List V} {ds : List PyData} {n : Nat} {c : Bool} (h : H p = some (.lst ws)) (dv : DVs H c ws ds) (pl : PlainC c ds n) (l : n ≤ 190000) (hp : c = true → p ≠ sysModules) : Good H (.ref p) (.list ds) := by
  have e : (PyData.list ds).hasDict = c := by simp only [PyData.hasDict, pl.hd]
  refine ⟨?_, by simp only [PyData.showable, pl.sh], ?_, by simp only [PyData.leavesShort, pl.ls], ?_⟩
  · rw [e]
    exact .lst hp h dv
  · have := pl.dp
    simp only [PyData.depth]; omega
  · have := pl.bk
    simp only [PyData.bulk]; omega
/-- no step, and it can be shown -/
def Odd (K : PySem.W.Frag) (H : Hp) (v : V) : Prop := NotStep K H v ∧ ∃ c d, DV H c v d ∧ PlainC c [d] 100
theorem Odd.same {H H' : Hp} {v : V} (h : Odd K H v) (s : Same H H') : Odd K H' v := let ⟨n, c, d, a, b⟩ := h; ⟨n.same s, c, d, DV.same s a, b⟩
theorem odds_add {H H' : Hp} {vs : List V} {v : V} (h : ∀ u ∈ vs, Odd K H u) (s : Same H H') (o : Odd K H' v) : ∀ u ∈ vs ++ [v], Odd K H' u := fun u hu => by
  rcases List.mem_append.mp hu with z | z
  · exact (h u z).same s
  · rw [List.mem_singleton.mp z]; exact o
def oddB (a b : Str) : Bool := ((a != Str.ofString "left" && a != Str.ofString "right") || ((a == Str.ofString "left" || a == Str.ofString "right") && !isA b.cps.toList)) && decide (a.length ≤ 40) && decide (b.length ≤ 40) && a.cps.toList.all (fun c => decide (c < 16 ^ 8)) && b.cps.toList.all (fun c => decide (c < 16 ^ 8))
theorem plainTwo {a b : Str} (la : a.length ≤ 40) (lb : b.length ≤ 40) (ca : a.cps.toList.all (fun c => decide (c < 16 ^ 8)) = true) (cb : b.cps.toList.all (fun c => decide (c < 16 ^ 8)) = true) : Plain [.str a, .str b] 82 :=
  (plainStr (n := 41) a (by omega) fun c hc => of_decide_eq_true (List.all_eq_true.mp ca c hc)).app (plainStr (n := 41) b (by omega) fun c hc => of_decide_eq_true (List.all_eq_true.mp cb c hc))
theorem oddPair {H : Hp} {p : Addr} (a b : Str) (h : H p = some (.tup [.str a, .str b])) (o : oddB a b = true) : Odd K H (.ref p) := by
  unfold oddB at o
  simp only [Bool.and_eq_true, decide_eq_true_eq] at o
  obtain ⟨⟨⟨⟨o, la⟩, lb⟩, ca⟩, cb⟩ := o
  refine ⟨.inr (.inr ⟨p, _, _, rfl, h, ?_⟩), false, .tuple [.str a, .str b], .tup h (.cons (.str _) (.cons (.str _) .nil)), (Plain.mono (Plain.tup (plainTwo la lb ca cb) (by simp [PyData.depthAll, PyData.depth])) (by decide)).c⟩
  simp only [Bool.or_eq_true, Bool.and_eq_true, bne_iff_ne, ne_eq, beq_iff_eq, Bool.not_eq_true'] at o
  rcases o with ⟨o1, o2⟩ | ⟨o1, o2⟩
  · exact .inr (.inl ⟨a, rfl, o1, o2⟩)
  · refine .inr (.inr ⟨o1.imp (fun z => by rw [z]) fun z => by rw [z], .inl ⟨b.cps.toList, congrArg V.str (S_of b), ?_, o2⟩⟩)
    have : b.cps.toList.length = b.length := Array.length_toList
    omega
theorem oddLen {H : Hp} {p : Addr} {ws : List V} {ds : List PyData} (h : H p = some (.tup ws)) (l : ws.length ≠ 2) (dv : DVs H false ws ds) (pl : Plain ds 90) (dp : PyData.depthAll ds ≤ 4) : Odd K H (.ref p) :=
  ⟨.inr (.inl ⟨p, ws, rfl, h, l⟩), false, .tuple ds, .tup h dv, ((Plain.tup pl dp).mono (by decide)).c⟩
theorem oddFst {H : Hp} {p : Addr} {x y : V} {ds : List PyData} (h : H p = some (.tup [x, y])) (nx : NotStr K H x) (dv : DVs H false [x, y] ds) (pl : Plain ds 90) (dp : PyData.depthAll ds ≤ 4) : Odd K H (.ref p) :=
  ⟨.inr (.inr ⟨p, x, y, rfl, h, .inl nx⟩), false, .tuple ds, .tup h dv, ((Plain.tup pl dp).mono (by decide)).c⟩
theorem oddSnd {H : Hp} {p : Addr} {y : V} {ds : List PyData} (h : H p = some (.tup [.str (Str.ofString "left"), y])) (ny : NotStr K H y) (dv : DVs H false [.str (Str.ofString "left"), y] ds) (pl : Plain ds 90) (dp : PyData.depthAll ds ≤ 4) : Odd K H (.ref p) :=
  ⟨.inr (.inr ⟨p, _, y, rfl, h, .inr (.inr ⟨.inl rfl, .inr ny⟩)⟩), false, .tuple ds, .tup h dv, ((Plain.tup pl dp).mono (by decide)).c⟩
theorem oddList {H : Hp} {p : Addr} {ws : List V} {ds : List PyData} (h : H p = some (.lst ws)) (dv : DVs H false ws ds) (pl : Plain ds 90) (dp : PyData.depthAll ds ≤ 4) : Odd K H (.ref p) :=
  ⟨.inl ⟨_, .base (.lst h), kit_ty (by decide +kernel)⟩, false, .list ds, .lst (fun z => by cases z) h dv, ((Plain.lst pl dp).mono (by decide)).c⟩
theorem oddNon {H : Hp} : Odd K H .non := ⟨.inl ⟨_, .base .non, kit_ty (by decide +kernel)⟩, false, .none, .non, (plainNon.mono (by decide)).c⟩
theorem oddStr {H : Hp} (z : Str) (l : z.length ≤ 40) (ca : z.cps.toList.all (fun c => decide (c < 16 ^ 8)) = true) : Odd K H (.str z) :=
  ⟨.inl ⟨_, .base (.str _), kit_ty (by decide +kernel)⟩, false, .str z, .str z, ((plainStr (n := 41) z (by omega) fun c hc => of_decide_eq_true (List.all_eq_true.mp ca c hc)).mono (by decide)).c⟩
theorem oddInt {H : Hp} (i : Int) (h : ((PyData.int i).shown).length ≤ 30) (h2 : (PyData.int i).showable = true) : Odd K H (.int i) :=
  ⟨.inl ⟨_, .base (.int _), kit_ty (by decide +kernel)⟩, false, .int i, .int i, ((plainInt i h h2).mono (by decide)).c⟩
theorem oddDict {H : Hp} {p : Addr} (h : H p = some (.dK [])) : Odd K H (.ref p) := by
  refine ⟨.inl ⟨_, .base (.dK h), kit_ty (by decide +kernel)⟩, true, .dict [], .dic h .nil, ?_, ?_, ?_, ?_, ?_⟩ <;> decide +kernel
/-! ### the values that are no scripts -/
theorem ListI.keep {B H H' : Hp} {v : V} {l : Addr} (h : ListI K B H v) (k : Keep l H H') (n : v ≠ .ref l) : ListI K B H' v := by
  obtain ⟨l', ws, c, ds, m, rfl, a, e, r⟩ := h
  exact ⟨l', ws, c, ds, m, rfl, a, k _ _ (fun z => n (by rw [z])) e, r⟩
theorem FlatI.bad {B H : Hp} {v : V} (h : FlatI K B v) (s : Same B H) : BadS K H v := let ⟨_, ty, t, k, _⟩ := h; .inl ⟨ty, tyX_same t s, k⟩
theorem ListI.bad {B H : Hp} {v : V} (h : ListI K B H v) (s : Same B H) : BadS K H v := by
  obtain ⟨l, ws, c, ds, m, rfl, a, e, lw, al, ⟨u, hu, nu⟩, _⟩ := h
  exact .inr ⟨l, ws, rfl, e, by omega, fun u hu => (al u hu).imp (fun z => z.same s) fun z => z.same s, u, hu, nu.same s⟩
theorem ListI.more {B H : Hp} {l : Addr} (h : ListI K B H (.ref l)) (s : Same B H) : ∃ ws, H l = some (.lst ws) ∧ ws.length ≤ 1000 ∧ B l = none ∧ ∀ H', Keep l H H' → H' l = some (.lst (ws ++ [V.str "more"])) → Same B H' ∧ BadS K H' (.ref l) ∧ ∃ d, Good H' (.ref l) d := by
  obtain ⟨l', ws, c, ds, m, e, a, hl, lw, al, ⟨u, hu, nu⟩, dv, pl, ln, hp⟩ := h
  cases e
  refine ⟨ws, hl, by omega, a, fun H' k h' => ?_⟩
  have pl' := pl.app (plainStr (n := 5) "more" (by decide +kernel) (by decide +kernel)).c
  rw [Bool.or_false] at pl'
  have s' : Same B H' := fun q o hq => k q o (fun z => by rw [z, a] at hq; cases hq) (s q o hq)
  refine ⟨s', .inr ⟨l, _, rfl, h', by rw [List.length_append, List.length_singleton]; omega, fun v hv => ?_, u, List.mem_append_left _ hu, nu.same s'⟩, _, goodListC h' (DVsapp (DVs.same s' dv) (.cons (.str "more") .nil)) pl' (by omega) hp⟩
  rcases List.mem_append.mp hv with z | z
  · exact (al v z).imp (fun z => z.same s') fun z => z.same s'
  · rw [List.mem_singleton.mp z]
    exact .inr (.inl ⟨_, .base (.str _), kit_ty (by decide +kernel)⟩)
/-- two tuples beside each other -/
theorem catA_any {H : Hp} {a b : Addr} {xs ys : List V} {Q : VK} (ha : H a = some (.tup xs)) (hb : H b = some (.tup ys)) (l : xs.length + ys.length ≤ sizeLine) (q : ∀ p H', Same H H' → H' p = some (.tup (xs ++ ys)) → Q (.ref p) H') : rCatA K (.ref a) (.ref b) H Q := by
  refine ⟨a, b, xs, ys, rfl, rfl, SqT.of ha, SqT.of hb, l, fun e => ?_, fun _ e => ?_, fun _ _ p np => ?_⟩
  · subst e; exact q b H (L2.Same.refl H) hb
  · subst e; exact q a H (L2.Same.refl H) (by rw [List.append_nil]; exact ha)
  · exact q p _ ((L2.Same.refl H).new np _) upd_same
theorem ghost {F H : Hp} {g L : Addr} {n : Nat} (o : HO) (s : Same F H) (hg : GenAt H g n) (f : F g = none) (nL : H L = none) :
    ∃ F', Same F F' ∧ Same F' (upd H L o) ∧ F' L = some o ∧ F' g = none ∧ GenAt (upd H L o) g n ∧ (∀ b, H b ≠ none → F b = none → F' b = none) := by
  have gl : g ≠ L := fun z => by obtain ⟨x, h⟩ := hg.some; rw [z, nL] at h; cases h
  refine ⟨upd F L o, (L2.Same.refl F).new (s.free nL) o, fun b x h => ?_, upd_same, by rw [upd_ne gl]; exact f, hg.new nL, fun b h1 h2 => ?_⟩
  · by_cases e : b = L
    · subst e; rw [upd_same] at h ⊢; exact h
    · rw [upd_ne e] at h ⊢; exact s _ _ h
  · have e : b ≠ L := fun z => h1 (by rw [z]; exact nL)
    rw [upd_ne e]; exact h2
theorem ghost_gen {F H H' : Hp} {g : Addr} (s : Same F H) (f : F g = none) (k : Keep g H H') : Same F H' := fun b o h => k b o (fun z => by rw [z, f] at h; cases h) (s b o h)
theorem notStrList {H : Hp} {l : Addr} {ws : List V} (h : H l = some (.lst ws)) : NotStr K H (.ref l) := ⟨_, .base (.lst h), kit_ty (by decide +kernel)⟩
theorem notStrNon {H : Hp} : NotStr K H .non := ⟨_, .base .non, kit_ty (by decide +kernel)⟩
theorem Stps.drop {H : Hp} : ∀ {vs : List V} {xs : List (Str × List Nat)} (n : Nat), Stps H vs xs → Stps H (vs.drop n) (xs.drop n)
  | _, _, 0, h => h
  | _, _, n + 1, .nil => .nil
  | _, _, n + 1, .cons a b => Stps.drop n b
theorem Stps.take {H : Hp} : ∀ {vs : List V} {xs : List (Str × List Nat)} (n : Nat), Stps H vs xs → Stps H (vs.take n) (xs.take n)
  | _, _, 0, h => .nil
  | _, _, n + 1, .nil => .nil
  | _, _, n + 1, .cons a b => .cons a (Stps.take n b)
theorem Stps.cut {H : Hp} {vs : List V} {xs : List (Str × List Nat)} (h : Stps H vs xs) (lo hi : Option Int) : ∃ ys, Stps H (L2.cutV vs lo hi) ys ∧ (∀ y ∈ ys, y ∈ xs) ∧ ys.length ≤ xs.length := by
  unfold L2.cutV
  refine ⟨_, (h.drop _).take _, fun y hy => List.mem_of_mem_drop (List.mem_of_mem_take hy), ?_⟩
  rw [List.length_take, List.length_drop]
  omega
/-- steps and one odd value among them -/
theorem listI_of {B H : Hp} {l : Addr} {w1 w2 : List V} {ys zs : List (Str × List Nat)} {u : V} (hB : B l = none) (hl : H l = some (.lst ((w1 ++ [u]) ++ w2))) (s1 : Stps B w1 ys) (s2 : Stps B w2 zs) (o1 : ∀ y ∈ ys, okSt 40 y) (o2 : ∀ y ∈ zs, okSt 40 y) (l1 : ys.length ≤ 20) (l2 : zs.length ≤ 20) (ou : Odd K B u) (ls : l ≠ sysModules) : ListI K B H (.ref l) := by
  obtain ⟨nu, c, d, dv, pl⟩ := ou
  have e1 : ys.length * (40 + 9) ≤ 20 * 49 := Nat.mul_le_mul_right _ l1
  have e2 : zs.length * (40 + 9) ≤ 20 * 49 := Nat.mul_le_mul_right _ l2
  have p := ((stPlain ys o1).c.app pl).app (stPlain zs o2).c
  rw [Bool.false_or, Bool.or_false] at p
  have w1l := s1.length
  have w2l := s2.length
  refine ⟨l, _, c, _, _, rfl, hB, hl, by simp; omega, fun v hv => ?_, ⟨u, by simp, nu⟩, DVsapp (DVsapp (dvSt s1) (.cons dv .nil)) (dvSt s2), p, by omega, fun _ => ls⟩
  rcases List.mem_append.mp hv with z | z
  · rcases List.mem_append.mp z with z | z
    · obtain ⟨i, hi⟩ := List.getElem?_of_mem z
      exact .inl (GoodS.isStep s1 (fun x hx => (o1 x hx).mono (by decide)) hi)
    · rw [List.mem_singleton.mp z]; exact .inr nu
  · obtain ⟨i, hi⟩ := List.getElem?_of_mem z
    exact .inl (GoodS.isStep s2 (fun x hx => (o2 x hx).mono (by decide)) hi)
theorem ghost2 {F H : Hp} {g t : Addr} {o : HO} (s : Same F H) (f : F g = none) (h : H t = some o) (tg : t ≠ g) : ∃ F', Same F F' ∧ Same F' H ∧ F' t = some o ∧ F' g = none ∧ ∀ b, b ≠ t → F b = none → F' b = none := by
  refine ⟨upd F t o, fun b x hb => ?_, fun b x hb => ?_, upd_same, by rw [upd_ne tg.symm]; exact f, fun b n hb => by rw [upd_ne n]; exact hb⟩
  · by_cases e : b = t
    · subst e
      have := s _ _ hb
      rw [h] at this
      rw [upd_same, this]
    · rw [upd_ne e]; exact hb
  · by_cases e : b = t
    · subst e; rw [upd_same] at hb; rw [h]; exact hb
    · rw [upd_ne e] at hb; exact s _ _ hb
theorem pw_of {α : Type} {R : α → α → Prop} : ∀ l : List α, (∀ x ∈ l, ∀ y, R x y) → l.Pairwise R
  | [], _ => .nil
  | x :: l, h => .cons (fun y _ => h x (List.mem_cons_self ..) y) (pw_of l fun z hz => h z (List.mem_cons_of_mem _ hz))

theorem ok_law_bad (T : Txt w K mg) : FnOk P w K mg base CX0 6 T.a_law_bad T.fd_law_bad ["_law_generator_here", "_law_some"] (sp_law_bad K) := by
  refine T.F_law_bad.ok sc_law_bad (fun vs H Q E h => ?_) (fun cdv A outer s H vs Q E hr h => ?_)
  · obtain ⟨g, a, ws, xs, n, rfl, _⟩ := h; rfl
  obtain ⟨g, a, ws, xs, n, rfl, hg, hn, ha, st, xl, okx, q⟩ := h
  refine ⟨_, (pss_cons (ps_set (i := 2) sc_law_bad.nd rfl (by first | exact Or.inl rfl | exact Or.inr rfl) (pe_lst (pa_cons (pe_tup (pa_cons pe_str pa_nil)) (pa_cons (pe_tup (pa_cons pe_str (pa_cons pe_str (pa_cons pe_int pa_nil)))) (pa_cons (pe_lst (pa_cons pe_str (pa_cons pe_str pa_nil))) (pa_cons (pe_tup (pa_cons pe_str (pa_cons pe_str pa_nil))) (pa_cons (pe_tup (pa_cons pe_non (pa_cons pe_str pa_nil))) (pa_cons (pe_tup (pa_cons pe_str (pa_cons pe_non pa_nil))) (pa_cons (pe_tup (pa_cons pe_str (pa_cons pe_str pa_nil))) (pa_cons pe_non pa_nil))))))))))
    (pss_cons (ps_set (i := 2) sc_law_bad.nd rfl (by first | exact Or.inl rfl | exact Or.inr rfl) (pe_op op_catN (pv 2) (pe_lst (pa_cons (pe_tup (pa_cons pe_str (pa_cons pe_str pa_nil))) (pa_cons (pe_tup (pa_cons pe_str (pa_cons pe_str pa_nil))) (pa_cons (pe_tup (pa_cons (pe_lst (pa_cons pe_str pa_nil)) (pa_cons pe_str pa_nil))) (pa_cons (pe_tup (pa_cons pe_str (pa_cons (pe_lst (pa_cons pe_str pa_nil)) pa_nil))) (pa_cons pe_str (pa_cons pe_int (pa_cons (pe_tup (pa_cons pe_str (pa_cons pe_str pa_nil))) (pa_cons pe_dnewK pa_nil)))))))))))
    (pss_cons (ps_set (i := 2) sc_law_bad.nd rfl (by first | exact Or.inl rfl | exact Or.inr rfl) (pe_op op_catN (pv 2) (pe_lst (pa_cons (pe_tup (pa_cons pe_str (pa_cons pe_str pa_nil))) (pa_cons (pe_tup (pa_cons pe_str (pa_cons pe_str pa_nil))) (pa_cons (pe_tup (pa_cons pe_str (pa_cons pe_str pa_nil))) (pa_cons (pe_tup (pa_cons pe_str (pa_cons pe_str pa_nil))) (pa_cons (pe_tup (pa_cons pe_str (pa_cons pe_str pa_nil))) (pa_cons (pe_tup (pa_cons pe_str (pa_cons pe_str pa_nil))) (pa_cons (pe_tup (pa_cons pe_str (pa_cons pe_str pa_nil))) (pa_cons (pe_tup (pa_cons pe_str (pa_cons pe_str pa_nil))) pa_nil)))))))))))
    (pss_cons (ps_set (i := 3) sc_law_bad.nd rfl (by first | exact Or.inl rfl | exact Or.inr rfl) (pe_call (ok_law_random T) (hr.mono (by first | decide | omega)) (by rfl) T.m_law_random T.F_law_random.kp T.b_law_random .nil pass0 (pa_cons (pv 0) (pa_cons (pe_op op_add (pe_callB call_len_seq (by rfl) T.z_len PySem.boot_len (pa_cons (pv 1) pa_nil)) pe_int) pa_nil))))
    (pss_cons (ps_setLc (i := 4) (own := [("_law_one", 5)]) rfl sc_law_bad.nd rfl rfl (sw_true rfl rfl rfl (by decide +kernel)) (pi_list (pv 2)) (blkOk_by (own := [("_law_one", 5)]) (N := nm_law_bad) (sc := defScope s_law_bad) (by decide +kernel)) (fun _ _ _ _ _ => by exact (pg_name (i := 5) sc_law_bad.nd rfl (by first | exact Or.inl rfl | exact Or.inr rfl))) (fun _ _ _ _ _ => by exact pts_nil) (fun _ _ _ _ _ => by exact (pe_op op_catN (pe_op op_catN (show L2.PE _ _ (tSl (rSlL K) _ _ _) from (pe_slice sl_list (pv 1) po_none (po_some (pv 3)))) (pe_lst (pa_cons (pv 5) pa_nil))) (show L2.PE _ _ (tSl (rSlL K) _ _ _) from (pe_slice sl_list (pv 1) (po_some (pv 3)) po_none)))))
    (pss_one (ps_ret (pe_op op_catN (pv 4) (pe_lst (pa_cons pe_non (pa_cons (pe_op op_catA (pe_callTy call_tuple_of (by rfl) T.z_tuple (by decide +kernel) (pa_cons (pv 1) pa_nil)) (pe_tup (pa_cons pe_int pa_nil))) (pa_cons (pe_callTy call_tuple_of (by rfl) T.z_tuple (by decide +kernel) (pa_cons (pv 1) pa_nil)) (pa_cons (pe_tup pa_nil) (pa_cons pe_str (pa_cons (pe_tup (pa_cons pe_str (pa_cons pe_str pa_nil))) (pa_cons pe_dnewK (pa_cons pe_bl pa_nil))))))))))))))))), ?_⟩
  simp only [cxOf_K, tAsg2, tYes, wipe, tSeq, tIfS, tNot, tB, tCB, tCons, tNil, tVar, tC, tTest, tOp, tAnd, tOr, tAsg, gName, tRet, tRetN, tDrop, tNext, tIf, tCall, tTup, tLst, tNotV, tAndV, tOrV, tUn, rI0, rI, rU, rEq, rNe, tM1, tM0, tBM, tBM0, tSl, tPart, tNoPart, iStr, iEnumS, iRng1, iRng2, iList, gSub, tBits, tAug, tPar, L2.start, List.map_cons, List.map_nil, List.length_cons, List.length_nil, List.getElem?_cons_zero, List.getElem?_cons_succ, List.cons_append, List.nil_append, List.append_nil, List.set_cons_zero, List.set_cons_succ, List.replicate_succ, List.replicate_zero, Option.some.injEq, exists_eq_left', V.int.injEq, V.str.injEq, V.ref.injEq, V.bl.injEq, exists_and_left, exists_eq_left, List.cons.injEq, and_true, true_and, tCallX, tRs]
  have hag : a ≠ g := fun z => by obtain ⟨_, _, _, e, _⟩ := hg; rw [z] at ha; rw [ha] at e; cases e; cases st
  have s0 : Same (off g H) H := off_same
  have f0 : off g H g = none := off_self
  have ha0 : off g H a = some (.lst ws) := off_at hag ha
  have st0 : Stps (off g H) ws xs := st.mono fun b vs hb => off_at (fun z => by obtain ⟨_, _, _, e, _⟩ := hg; rw [z, e] at hb; cases hb) hb
  have hg0 := hg
  obtain ⟨H0, eH0⟩ : ∃ H0, H0 = H := ⟨_, rfl⟩
  obtain ⟨F0, eF0⟩ : ∃ F0, F0 = off g H := ⟨_, rfl⟩
  rw [← eF0] at s0 f0 ha0 st0
  rw [← eH0] at s0 hg0 ⊢
  have A0 : ∀ u ∈ ([] : List V), Odd K F0 u := fun u hu => by cases hu
  refine ⟨by first | decide | exact small5 (by simp), fun l1 nl1 => ?_⟩
  obtain ⟨F1, sF1, s1, e_l1, f1, hg1, kF1⟩ := ghost (HO.tup [V.str (Str.ofString "right")]) s0 hg0 f0 nl1
  generalize upd H0 l1 (HO.tup [V.str (Str.ofString "right")]) = H1 at s1 hg1 ⊢
  have A1 := odds_add A0 sF1 (v := V.ref l1) (oddLen (ds := [.str (Str.ofString "right")]) e_l1 (by decide) (.cons (.str _) .nil) ((plainStr (n := 20) (Str.ofString "right") (by decide +kernel) (by decide +kernel)).mono (by decide)) (by simp [PyData.depthAll, PyData.depth]))
  refine ⟨by first | decide | exact small5 (by simp), fun l2 nl2 => ?_⟩
  obtain ⟨F2, sF2, s2, e_l2, f2, hg2, kF2⟩ := ghost (HO.tup [V.str (Str.ofString "right"), V.str (Str.ofString "l"), V.int 0]) s1 hg1 f1 nl2
  generalize upd H1 l2 (HO.tup [V.str (Str.ofString "right"), V.str (Str.ofString "l"), V.int 0]) = H2 at s2 hg2 ⊢
  have A2 := odds_add A1 sF2 (v := V.ref l2) (oddLen (ds := [.str (Str.ofString "right"), .str (Str.ofString "l"), .int 0]) e_l2 (by decide) (.cons (.str _) (.cons (.str _) (.cons (.int _) .nil))) ((((plainStr (n := 20) (Str.ofString "right") (by decide +kernel) (by decide +kernel)).app (plainStr (n := 20) (Str.ofString "l") (by decide +kernel) (by decide +kernel))).app (plainInt 0 (by decide +kernel) (by decide +kernel))).mono (by decide)) (by simp [PyData.depthAll, PyData.depth]))
  refine ⟨by first | decide | exact small5 (by simp), fun l3 nl3 => ?_⟩
  obtain ⟨F3, sF3, s3, e_l3, f3, hg3, kF3⟩ := ghost (HO.lst [V.str (Str.ofString "right"), V.str (Str.ofString "")]) s2 hg2 f2 nl3
  generalize upd H2 l3 (HO.lst [V.str (Str.ofString "right"), V.str (Str.ofString "")]) = H3 at s3 hg3 ⊢
  have A3 := odds_add A2 sF3 (v := V.ref l3) (oddList (ds := [.str (Str.ofString "right"), .str (Str.ofString "")]) e_l3 (.cons (.str _) (.cons (.str _) .nil)) (((plainStr (n := 20) (Str.ofString "right") (by decide +kernel) (by decide +kernel)).app (plainStr (n := 20) (Str.ofString "") (by decide +kernel) (by decide +kernel))).mono (by decide)) (by simp [PyData.depthAll, PyData.depth]))
  refine ⟨by first | decide | exact small5 (by simp), fun l4 nl4 => ?_⟩
  obtain ⟨F4, sF4, s4, e_l4, f4, hg4, kF4⟩ := ghost (HO.tup [V.str (Str.ofString "up"), V.str (Str.ofString "")]) s3 hg3 f3 nl4
  generalize upd H3 l4 (HO.tup [V.str (Str.ofString "up"), V.str (Str.ofString "")]) = H4 at s4 hg4 ⊢
  have A4 := odds_add A3 sF4 (v := V.ref l4) (oddPair _ _ e_l4 (by decide +kernel))
  refine ⟨by first | decide | exact small5 (by simp), fun l5 nl5 => ?_⟩
  obtain ⟨F5, sF5, s5, e_l5, f5, hg5, kF5⟩ := ghost (HO.tup [V.non, V.str (Str.ofString "")]) s4 hg4 f4 nl5
  generalize upd H4 l5 (HO.tup [V.non, V.str (Str.ofString "")]) = H5 at s5 hg5 ⊢
  have A5 := odds_add A4 sF5 (v := V.ref l5) (oddFst (ds := [.none, .str (Str.ofString "")]) e_l5 notStrNon (.cons .non (.cons (.str _) .nil)) ((plainNon.app (plainStr (n := 20) (Str.ofString "") (by decide +kernel) (by decide +kernel))).mono (by decide)) (by simp [PyData.depthAll, PyData.depth]))
  refine ⟨by first | decide | exact small5 (by simp), fun l6 nl6 => ?_⟩
  obtain ⟨F6, sF6, s6, e_l6, f6, hg6, kF6⟩ := ghost (HO.tup [V.str (Str.ofString "left"), V.non]) s5 hg5 f5 nl6
  generalize upd H5 l6 (HO.tup [V.str (Str.ofString "left"), V.non]) = H6 at s6 hg6 ⊢
  have A6 := odds_add A5 sF6 (v := V.ref l6) (oddSnd (ds := [.str (Str.ofString "left"), .none]) e_l6 notStrNon (.cons (.str _) (.cons .non .nil)) (((plainStr (n := 20) (Str.ofString "left") (by decide +kernel) (by decide +kernel)).app plainNon).mono (by decide)) (by simp [PyData.depthAll, PyData.depth]))
  refine ⟨by first | decide | exact small5 (by simp), fun l7 nl7 => ?_⟩
  obtain ⟨F7, sF7, s7, e_l7, f7, hg7, kF7⟩ := ghost (HO.tup [V.str (Str.ofString "left"), V.str (Str.ofString "x")]) s6 hg6 f6 nl7
  generalize upd H6 l7 (HO.tup [V.str (Str.ofString "left"), V.str (Str.ofString "x")]) = H7 at s7 hg7 ⊢
  have A7 := odds_add A6 sF7 (v := V.ref l7) (oddPair _ _ e_l7 (by decide +kernel))
  have A8 := odds_add A7 (L2.Same.refl F7) (v := V.non) oddNon
  refine ⟨by first | decide | exact small5 (by simp), fun p1 np1 => ?_⟩
  obtain ⟨F8, sF8, s8, e_p1, f8, hg8, kF8⟩ := ghost (HO.lst [V.ref l1, V.ref l2, V.ref l3, V.ref l4, V.ref l5, V.ref l6, V.ref l7, V.non]) s7 hg7 f7 np1
  generalize upd H7 p1 (HO.lst [V.ref l1, V.ref l2, V.ref l3, V.ref l4, V.ref l5, V.ref l6, V.ref l7, V.non]) = H8 at s8 hg8 ⊢
  have B1 : ∀ u ∈ ([V.ref l1, V.ref l2, V.ref l3, V.ref l4, V.ref l5, V.ref l6, V.ref l7, V.non] : List V), Odd K F8 u := fun u hu => Odd.same (A8 u hu) sF8
  clear A0 A1 A2 A3 A4 A5 A6 A7 A8
  have A108 : ∀ u ∈ ([] : List V), Odd K F8 u := fun u hu => by cases hu
  refine ⟨by first | decide | exact small5 (by simp), fun m1 nm1 => ?_⟩
  obtain ⟨F9, sF9, s9, e_m1, f9, hg9, kF9⟩ := ghost (HO.tup [V.str (Str.ofString "left"), V.str (Str.ofString "l ")]) s8 hg8 f8 nm1
  generalize upd H8 m1 (HO.tup [V.str (Str.ofString "left"), V.str (Str.ofString "l ")]) = H9 at s9 hg9 ⊢
  have A109 := odds_add A108 sF9 (v := V.ref m1) (oddPair _ _ e_m1 (by decide +kernel))
  refine ⟨by first | decide | exact small5 (by simp), fun m2 nm2 => ?_⟩
  obtain ⟨F10, sF10, s10, e_m2, f10, hg10, kF10⟩ := ghost (HO.tup [V.str (Str.ofString "Right"), V.str (Str.ofString "")]) s9 hg9 f9 nm2
  generalize upd H9 m2 (HO.tup [V.str (Str.ofString "Right"), V.str (Str.ofString "")]) = H10 at s10 hg10 ⊢
  have A110 := odds_add A109 sF10 (v := V.ref m2) (oddPair _ _ e_m2 (by decide +kernel))
  refine ⟨by first | decide | exact small5 (by simp), fun m3a nm3a => ?_⟩
  obtain ⟨F11, sF11, s11, e_m3a, f11, hg11, kF11⟩ := ghost (HO.lst [V.str (Str.ofString "left")]) s10 hg10 f10 nm3a
  generalize upd H10 m3a (HO.lst [V.str (Str.ofString "left")]) = H11 at s11 hg11 ⊢
  refine ⟨by first | decide | exact small5 (by simp), fun m3 nm3 => ?_⟩
  obtain ⟨F12, sF12, s12, e_m3, f12, hg12, kF12⟩ := ghost (HO.tup [V.ref m3a, V.str (Str.ofString "")]) s11 hg11 f11 nm3
  generalize upd H11 m3 (HO.tup [V.ref m3a, V.str (Str.ofString "")]) = H12 at s12 hg12 ⊢
  have e_m3a' := sF12 _ _ e_m3a
  have A111 := odds_add A110 (sF11.trans sF12) (v := V.ref m3) (oddFst (ds := [.list [.str (Str.ofString "left")], .str (Str.ofString "")]) e_m3 (notStrList e_m3a') (.cons (.lst (fun z => by cases z) e_m3a' (.cons (.str _) .nil)) (.cons (.str _) .nil)) ((((plainStr (n := 20) (Str.ofString "left") (by decide +kernel) (by decide +kernel)).lst (by simp [PyData.depthAll, PyData.depth])).app (plainStr (n := 20) (Str.ofString "") (by decide +kernel) (by decide +kernel))).mono (by decide)) (by simp [PyData.depthAll, PyData.depth]))
  refine ⟨by first | decide | exact small5 (by simp), fun m4a nm4a => ?_⟩
  obtain ⟨F13, sF13, s13, e_m4a, f13, hg13, kF13⟩ := ghost (HO.lst [V.str (Str.ofString "l")]) s12 hg12 f12 nm4a
  generalize upd H12 m4a (HO.lst [V.str (Str.ofString "l")]) = H13 at s13 hg13 ⊢
  refine ⟨by first | decide | exact small5 (by simp), fun m4 nm4 => ?_⟩
  obtain ⟨F14, sF14, s14, e_m4, f14, hg14, kF14⟩ := ghost (HO.tup [V.str (Str.ofString "left"), V.ref m4a]) s13 hg13 f13 nm4
  generalize upd H13 m4 (HO.tup [V.str (Str.ofString "left"), V.ref m4a]) = H14 at s14 hg14 ⊢
  have e_m4a' := sF14 _ _ e_m4a
  have A112 := odds_add A111 (sF13.trans sF14) (v := V.ref m4) (oddSnd (ds := [.str (Str.ofString "left"), .list [.str (Str.ofString "l")]]) e_m4 (notStrList e_m4a') (.cons (.str _) (.cons (.lst (fun z => by cases z) e_m4a' (.cons (.str _) .nil)) .nil)) (((plainStr (n := 20) (Str.ofString "left") (by decide +kernel) (by decide +kernel)).app ((plainStr (n := 20) (Str.ofString "l") (by decide +kernel) (by decide +kernel)).lst (by simp [PyData.depthAll, PyData.depth]))).mono (by decide)) (by simp [PyData.depthAll, PyData.depth]))
  have A113 := odds_add A112 (L2.Same.refl F14) (v := V.str (Str.ofString "left")) (oddStr _ (by decide +kernel) (by decide +kernel))
  have A114 := odds_add A113 (L2.Same.refl F14) (v := V.int 7) (oddInt 7 (by decide +kernel) (by decide +kernel))
  refine ⟨by first | decide | exact small5 (by simp), fun m5 nm5 => ?_⟩
  obtain ⟨F15, sF15, s15, e_m5, f15, hg15, kF15⟩ := ghost (HO.tup [V.str (Str.ofString ""), V.str (Str.ofString "right")]) s14 hg14 f14 nm5
  generalize upd H14 m5 (HO.tup [V.str (Str.ofString ""), V.str (Str.ofString "right")]) = H15 at s15 hg15 ⊢
  have A115 := odds_add A114 sF15 (v := V.ref m5) (oddPair _ _ e_m5 (by decide +kernel))
  refine fun m6 nm6 => ?_
  obtain ⟨F16, sF16, s16, e_m6, f16, hg16, kF16⟩ := ghost (HO.dK []) s15 hg15 f15 nm6
  generalize upd H15 m6 (HO.dK []) = H16 at s16 hg16 ⊢
  have A116 := odds_add A115 sF16 (v := V.ref m6) (oddDict e_m6)
  refine ⟨by first | decide | exact small5 (by simp), fun p2 np2 => ?_⟩
  obtain ⟨F17, sF17, s17, e_p2, f17, hg17, kF17⟩ := ghost (HO.lst [V.ref m1, V.ref m2, V.ref m3, V.ref m4, V.str (Str.ofString "left"), V.int 7, V.ref m5, V.ref m6]) s16 hg16 f16 np2
  generalize upd H16 p2 (HO.lst [V.ref m1, V.ref m2, V.ref m3, V.ref m4, V.str (Str.ofString "left"), V.int 7, V.ref m5, V.ref m6]) = H17 at s17 hg17 ⊢
  have B2 : ∀ u ∈ ([V.ref m1, V.ref m2, V.ref m3, V.ref m4, V.str (Str.ofString "left"), V.int 7, V.ref m5, V.ref m6] : List V), Odd K F17 u := fun u hu => Odd.same (A116 u hu) sF17
  clear A108 A109 A110 A111 A112 A113 A114 A115 A116
  have e_p1' := s17 _ _ (((((((((sF9.trans sF10).trans sF11).trans sF12).trans sF13).trans sF14).trans sF15).trans sF16).trans sF17) _ _ e_p1)
  have e_p2' := s17 _ _ e_p2
  refine ⟨p1, p2, _, _, rfl, rfl, e_p1', e_p2', by first | decide | exact small5 (by simp), fun p3 np3 _ => ?_⟩
  obtain ⟨F18, sF18, s18, e_p3, f18, hg18, kF18⟩ := ghost (HO.lst ([V.ref l1, V.ref l2, V.ref l3, V.ref l4, V.ref l5, V.ref l6, V.ref l7, V.non] ++ [V.ref m1, V.ref m2, V.ref m3, V.ref m4, V.str (Str.ofString "left"), V.int 7, V.ref m5, V.ref m6])) s17 hg17 f17 np3
  generalize upd H17 p3 (HO.lst ([V.ref l1, V.ref l2, V.ref l3, V.ref l4, V.ref l5, V.ref l6, V.ref l7, V.non] ++ [V.ref m1, V.ref m2, V.ref m3, V.ref m4, V.str (Str.ofString "left"), V.int 7, V.ref m5, V.ref m6])) = H18 at s18 hg18 ⊢
  have B3 : ∀ u ∈ ([V.ref l1, V.ref l2, V.ref l3, V.ref l4, V.ref l5, V.ref l6, V.ref l7, V.non] ++ [V.ref m1, V.ref m2, V.ref m3, V.ref m4, V.str (Str.ofString "left"), V.int 7, V.ref m5, V.ref m6] : List V), Odd K F18 u := fun u hu => (List.mem_append.mp hu).elim (fun z => Odd.same (B1 u z) (((((((((sF9.trans sF10).trans sF11).trans sF12).trans sF13).trans sF14).trans sF15).trans sF16).trans sF17).trans sF18)) (fun z => Odd.same (B2 u z) sF18)
  have A216 : ∀ u ∈ ([] : List V), Odd K F18 u := fun u hu => by cases hu
  refine ⟨by first | decide | exact small5 (by simp), fun r1 nr1 => ?_⟩
  obtain ⟨F19, sF19, s19, e_r1, f19, hg19, kF19⟩ := ghost (HO.tup [V.str (Str.ofString "l"), V.str (Str.ofString "")]) s18 hg18 f18 nr1
  generalize upd H18 r1 (HO.tup [V.str (Str.ofString "l"), V.str (Str.ofString "")]) = H19 at s19 hg19 ⊢
  have A217 := odds_add A216 sF19 (v := V.ref r1) (oddPair _ _ e_r1 (by decide +kernel))
  refine ⟨by first | decide | exact small5 (by simp), fun r2 nr2 => ?_⟩
  obtain ⟨F20, sF20, s20, e_r2, f20, hg20, kF20⟩ := ghost (HO.tup [V.str (Str.ofString "r"), V.str (Str.ofString "l")]) s19 hg19 f19 nr2
  generalize upd H19 r2 (HO.tup [V.str (Str.ofString "r"), V.str (Str.ofString "l")]) = H20 at s20 hg20 ⊢
  have A218 := odds_add A217 sF20 (v := V.ref r2) (oddPair _ _ e_r2 (by decide +kernel))
  refine ⟨by first | decide | exact small5 (by simp), fun r3 nr3 => ?_⟩
  obtain ⟨F21, sF21, s21, e_r3, f21, hg21, kF21⟩ := ghost (HO.tup [V.str (Str.ofString "leftright"), V.str (Str.ofString "")]) s20 hg20 f20 nr3
  generalize upd H20 r3 (HO.tup [V.str (Str.ofString "leftright"), V.str (Str.ofString "")]) = H21 at s21 hg21 ⊢
  have A219 := odds_add A218 sF21 (v := V.ref r3) (oddPair _ _ e_r3 (by decide +kernel))
  refine ⟨by first | decide | exact small5 (by simp), fun r4 nr4 => ?_⟩
  obtain ⟨F22, sF22, s22, e_r4, f22, hg22, kF22⟩ := ghost (HO.tup [V.str (Str.ofString "left "), V.str (Str.ofString "")]) s21 hg21 f21 nr4
  generalize upd H21 r4 (HO.tup [V.str (Str.ofString "left "), V.str (Str.ofString "")]) = H22 at s22 hg22 ⊢
  have A220 := odds_add A219 sF22 (v := V.ref r4) (oddPair _ _ e_r4 (by decide +kernel))
  refine ⟨by first | decide | exact small5 (by simp), fun r5 nr5 => ?_⟩
  obtain ⟨F23, sF23, s23, e_r5, f23, hg23, kF23⟩ := ghost (HO.tup [V.str (Str.ofString "<"), V.str (Str.ofString "")]) s22 hg22 f22 nr5
  generalize upd H22 r5 (HO.tup [V.str (Str.ofString "<"), V.str (Str.ofString "")]) = H23 at s23 hg23 ⊢
  have A221 := odds_add A220 sF23 (v := V.ref r5) (oddPair _ _ e_r5 (by decide +kernel))
  refine ⟨by first | decide | exact small5 (by simp), fun r6 nr6 => ?_⟩
  obtain ⟨F24, sF24, s24, e_r6, f24, hg24, kF24⟩ := ghost (HO.tup [V.str (Str.ofString ">"), V.str (Str.ofString "l")]) s23 hg23 f23 nr6
  generalize upd H23 r6 (HO.tup [V.str (Str.ofString ">"), V.str (Str.ofString "l")]) = H24 at s24 hg24 ⊢
  have A222 := odds_add A221 sF24 (v := V.ref r6) (oddPair _ _ e_r6 (by decide +kernel))
  refine ⟨by first | decide | exact small5 (by simp), fun r7 nr7 => ?_⟩
  obtain ⟨F25, sF25, s25, e_r7, f25, hg25, kF25⟩ := ghost (HO.tup [V.str (Str.ofString "LEFT"), V.str (Str.ofString "")]) s24 hg24 f24 nr7
  generalize upd H24 r7 (HO.tup [V.str (Str.ofString "LEFT"), V.str (Str.ofString "")]) = H25 at s25 hg25 ⊢
  have A223 := odds_add A222 sF25 (v := V.ref r7) (oddPair _ _ e_r7 (by decide +kernel))
  refine ⟨by first | decide | exact small5 (by simp), fun r8 nr8 => ?_⟩
  obtain ⟨F26, sF26, s26, e_r8, f26, hg26, kF26⟩ := ghost (HO.tup [V.str (Str.ofString ""), V.str (Str.ofString "")]) s25 hg25 f25 nr8
  generalize upd H25 r8 (HO.tup [V.str (Str.ofString ""), V.str (Str.ofString "")]) = H26 at s26 hg26 ⊢
  have A224 := odds_add A223 sF26 (v := V.ref r8) (oddPair _ _ e_r8 (by decide +kernel))
  refine ⟨by first | decide | exact small5 (by simp), fun p4 np4 => ?_⟩
  obtain ⟨F27, sF27, s27, e_p4, f27, hg27, kF27⟩ := ghost (HO.lst [V.ref r1, V.ref r2, V.ref r3, V.ref r4, V.ref r5, V.ref r6, V.ref r7, V.ref r8]) s26 hg26 f26 np4
  generalize upd H26 p4 (HO.lst [V.ref r1, V.ref r2, V.ref r3, V.ref r4, V.ref r5, V.ref r6, V.ref r7, V.ref r8]) = H27 at s27 hg27 ⊢
  have B4 : ∀ u ∈ ([V.ref r1, V.ref r2, V.ref r3, V.ref r4, V.ref r5, V.ref r6, V.ref r7, V.ref r8] : List V), Odd K F27 u := fun u hu => Odd.same (A224 u hu) sF27
  have e_p3' := s27 _ _ (((((((((sF19.trans sF20).trans sF21).trans sF22).trans sF23).trans sF24).trans sF25).trans sF26).trans sF27) _ _ e_p3)
  have e_p4' := s27 _ _ e_p4
  refine ⟨p3, p4, _, _, rfl, rfl, e_p3', e_p4', by first | decide | exact small5 (by simp), fun p5 np5 _ => ?_⟩
  obtain ⟨F28, sF28, s28, e_p5, f28, hg28, kF28⟩ := ghost (HO.lst (([V.ref l1, V.ref l2, V.ref l3, V.ref l4, V.ref l5, V.ref l6, V.ref l7, V.non] ++ [V.ref m1, V.ref m2, V.ref m3, V.ref m4, V.str (Str.ofString "left"), V.int 7, V.ref m5, V.ref m6]) ++ [V.ref r1, V.ref r2, V.ref r3, V.ref r4, V.ref r5, V.ref r6, V.ref r7, V.ref r8])) s27 hg27 f27 np5
  generalize upd H27 p5 (HO.lst (([V.ref l1, V.ref l2, V.ref l3, V.ref l4, V.ref l5, V.ref l6, V.ref l7, V.non] ++ [V.ref m1, V.ref m2, V.ref m3, V.ref m4, V.str (Str.ofString "left"), V.int 7, V.ref m5, V.ref m6]) ++ [V.ref r1, V.ref r2, V.ref r3, V.ref r4, V.ref r5, V.ref r6, V.ref r7, V.ref r8])) = H28 at s28 hg28 ⊢
  have B5 : ∀ u ∈ (([V.ref l1, V.ref l2, V.ref l3, V.ref l4, V.ref l5, V.ref l6, V.ref l7, V.non] ++ [V.ref m1, V.ref m2, V.ref m3, V.ref m4, V.str (Str.ofString "left"), V.int 7, V.ref m5, V.ref m6]) ++ [V.ref r1, V.ref r2, V.ref r3, V.ref r4, V.ref r5, V.ref r6, V.ref r7, V.ref r8] : List V), Odd K F28 u := fun u hu => (List.mem_append.mp hu).elim (fun z => Odd.same (B3 u z) (((((((((sF19.trans sF20).trans sF21).trans sF22).trans sF23).trans sF24).trans sF25).trans sF26).trans sF27).trans sF28)) (fun z => Odd.same (B4 u z) sF28)
  have lO : (([V.ref l1, V.ref l2, V.ref l3, V.ref l4, V.ref l5, V.ref l6, V.ref l7, V.non] ++ [V.ref m1, V.ref m2, V.ref m3, V.ref m4, V.str (Str.ofString "left"), V.int 7, V.ref m5, V.ref m6]) ++ [V.ref r1, V.ref r2, V.ref r3, V.ref r4, V.ref r5, V.ref r6, V.ref r7, V.ref r8] : List V).length = 24 := rfl
  have sG : Same F0 F28 := (((((((((((((((((((((((((((sF1.trans sF2).trans sF3).trans sF4).trans sF5).trans sF6).trans sF7).trans sF8).trans sF9).trans sF10).trans sF11).trans sF12).trans sF13).trans sF14).trans sF15).trans sF16).trans sF17).trans sF18).trans sF19).trans sF20).trans sF21).trans sF22).trans sF23).trans sF24).trans sF25).trans sF26).trans sF27).trans sF28)
  generalize (([V.ref l1, V.ref l2, V.ref l3, V.ref l4, V.ref l5, V.ref l6, V.ref l7, V.non] ++ [V.ref m1, V.ref m2, V.ref m3, V.ref m4, V.str (Str.ofString "left"), V.int 7, V.ref m5, V.ref m6]) ++ [V.ref r1, V.ref r2, V.ref r3, V.ref r4, V.ref r5, V.ref r6, V.ref r7, V.ref r8] : List V) = O at lO B5 e_p5 ⊢
  have hnE : ∀ b o, F28 b = some o → H28 b = some o := fun b o h => s28 _ _ h
  have hF := sG _ _ ha0
  have haH := s28 _ _ hF
  have lw : ws.length = xs.length := st.length
  refine ⟨ws, .inl (SqL.of haH), g, (ws.length : Int) + 1, _, rfl, hg28, by omega, by omega, by omega, fun z Hr z0 z1 kr gr => ?_⟩
  have sr : Same F28 Hr := ghost_gen s28 f28 kr
  obtain ⟨z, rfl⟩ := Int.eq_ofNat_of_zero_le z0
  have har := sr _ _ hF
  have stF : Stps F28 ws xs := st0.same sG
  have O_len := lO
  have hpO := sr _ _ e_p5
  have gr0 : ∃ o, Hr g = some o := gr.some
  clear kr hg28 s28 haH z0 z1
  generalize hw1 : L2.cutV ws none (some ((z : Nat) : Int)) = w1
  generalize hw2 : L2.cutV ws (some ((z : Nat) : Int)) none = w2
  obtain ⟨ys1, sw1, oy1, ly1⟩ := stF.cut none (some ((z : Nat) : Int))
  obtain ⟨ys2, sw2, oy2, ly2⟩ := stF.cut (some ((z : Nat) : Int)) none
  rw [hw1] at sw1
  rw [hw2] at sw2
  have w1l := sw1.length
  have w2l := sw2.length
  simp only [tLc, cxOf_K, tAsg2, tYes, wipe, tSeq, tIfS, tNot, tB, tCB, tCons, tNil, tVar, tC, tTest, tOp, tAnd, tOr, tAsg, gName, tRet, tRetN, tDrop, tNext, tIf, tCall, tTup, tLst, tNotV, tAndV, tOrV, tUn, rI0, rI, rU, rEq, rNe, tM1, tM0, tBM, tBM0, tSl, tPart, tNoPart, iStr, iEnumS, iRng1, iRng2, iList, gSub, tBits, tAug, tPar, L2.start, List.map_cons, List.map_nil, List.length_cons, List.length_nil, List.getElem?_cons_zero, List.getElem?_cons_succ, List.cons_append, List.nil_append, List.append_nil, List.set_cons_zero, List.set_cons_succ, List.replicate_succ, List.replicate_zero, Option.some.injEq, exists_eq_left', V.int.injEq, V.str.injEq, V.ref.injEq, V.bl.injEq, exists_and_left, exists_eq_left, List.cons.injEq, and_true, true_and, tCallX, tRs]
  refine ⟨⟨_, SqL.of hpO⟩, fun D hD => ?_⟩
  refine TD.lco_list (K := K) (a := p5) (xs := O) (fun i H' => Same Hr H' ∧ ∃ ls : List Addr, H' D = some (.lst (ls.map V.ref)) ∧ ls.length = i ∧ ls.Nodup ∧ (∀ l ∈ ls, Hr l = none ∧ l ≠ D ∧ l ≠ sysModules) ∧ ∀ (j : Nat) (l : Addr), ls[j]? = some l → ∃ u, O[j]? = some u ∧ H' l = some (.lst ((w1 ++ [u]) ++ w2))) ⟨(L2.Same.refl Hr).new hD _, [], upd_same, rfl, .nil, (fun l hl => by cases hl), fun j l hl => by simp at hl⟩ (fun i H' _ p => SqL.of (p.1 _ _ hpO)) ?_ ?_
  · rintro i u H' hi ⟨s1, ls, hd, lsl, nd, fr, at_⟩
    have il : i < O.length := (List.getElem?_eq_some_iff.mp hi).1
    have haP := s1 _ _ har
    simp only [tSl, cxOf_K, tAsg2, tYes, wipe, tSeq, tIfS, tNot, tB, tCB, tCons, tNil, tVar, tC, tTest, tOp, tAnd, tOr, tAsg, gName, tRet, tRetN, tDrop, tNext, tIf, tCall, tTup, tLst, tNotV, tAndV, tOrV, tUn, rI0, rI, rU, rEq, rNe, tM1, tM0, tBM, tBM0, tSl, tPart, tNoPart, iStr, iEnumS, iRng1, iRng2, iList, gSub, tBits, tAug, tPar, L2.start, List.map_cons, List.map_nil, List.length_cons, List.length_nil, List.getElem?_cons_zero, List.getElem?_cons_succ, List.cons_append, List.nil_append, List.append_nil, List.set_cons_zero, List.set_cons_succ, List.replicate_succ, List.replicate_zero, Option.some.injEq, exists_eq_left', V.int.injEq, V.str.injEq, V.ref.injEq, V.bl.injEq, exists_and_left, exists_eq_left, List.cons.injEq, and_true, true_and, tCallX, tRs]
    rw [if_pos True.intro]
    refine ⟨a, ws, rfl, SqL.of haP, fun q1 n1 => ⟨by decide, fun q2 n2 => ?_⟩⟩
    rw [hw1] at n2 ⊢
    have t1 := (L2.Same.refl H').new n1 (.lst w1)
    have e1 : upd H' q1 (.lst w1) q1 = some (.lst w1) := upd_same
    generalize upd H' q1 (.lst w1) = K1 at t1 e1 n2 ⊢
    have t2 := (L2.Same.refl K1).new n2 (.lst [u])
    have e2 : upd K1 q2 (.lst [u]) q2 = some (.lst [u]) := upd_same
    generalize upd K1 q2 (.lst [u]) = K2 at t2 e2 ⊢
    refine ⟨q1, q2, w1, [u], rfl, rfl, t2 _ _ e1, e2, small5 (by rw [List.length_singleton]; omega), fun q3 n3 _ => ?_⟩
    have t3 := (L2.Same.refl K2).new n3 (.lst (w1 ++ [u]))
    have e3 : upd K2 q3 (.lst (w1 ++ [u])) q3 = some (.lst (w1 ++ [u])) := upd_same
    generalize upd K2 q3 (.lst (w1 ++ [u])) = K3 at t3 e3 ⊢
    refine ⟨a, ws, rfl, SqL.of (t3 _ _ (t2 _ _ (t1 _ _ haP))), fun q4 n4 => ?_⟩
    rw [hw2]
    have t4 := (L2.Same.refl K3).new n4 (.lst w2)
    have e4 : upd K3 q4 (.lst w2) q4 = some (.lst w2) := upd_same
    generalize upd K3 q4 (.lst w2) = K4 at t4 e4 ⊢
    refine ⟨q3, q4, _, w2, rfl, rfl, t4 _ _ e3, e4, small5 (by rw [List.length_append, List.length_singleton]; omega), fun q5 n5 nsys => ?_⟩
    have s14 := ((t1.trans t2).trans t3).trans t4
    have t5 := (L2.Same.refl K4).new n5 (.lst (w1 ++ [u] ++ w2))
    have e5 : upd K4 q5 (.lst (w1 ++ [u] ++ w2)) q5 = some (.lst (w1 ++ [u] ++ w2)) := upd_same
    generalize upd K4 q5 (.lst (w1 ++ [u] ++ w2)) = K5 at t5 e5 ⊢
    have s15 := s14.trans t5
    have n5' := s14.free n5
    have hd5 := s15 _ _ hd
    have q5D : q5 ≠ D := fun z => by rw [z, hd] at n5'; cases n5'
    have lH : ∀ l ∈ ls, ∃ w, H' l = some (.lst w) := fun l hl => by
      obtain ⟨j, hj⟩ := List.getElem?_of_mem hl
      obtain ⟨u', _, h⟩ := at_ j l hj
      exact ⟨_, h⟩
    have q5n : q5 ∉ ls := fun hl => by obtain ⟨w', h⟩ := lH _ hl; rw [n5'] at h; cases h
    refine ⟨_, hd5, small5' (by rw [List.length_map, lsl]; omega), (s1.trans s15).new hD _, ls ++ [q5], by rw [upd_same]; simp, by simp [lsl], ?_, ?_, ?_⟩
    · rw [List.nodup_append]
      refine ⟨nd, List.nodup_cons.mpr ⟨List.not_mem_nil, .nil⟩, fun x hx y hy z => ?_⟩
      rw [List.mem_singleton.mp hy] at z
      rw [z] at hx
      exact q5n hx
    · intro l hl
      rcases List.mem_append.mp hl with hl | hl
      · exact fr l hl
      · rw [List.mem_singleton.mp hl]
        exact ⟨s1.free n5', q5D, nsys⟩
    · intro j l hj
      rcases Nat.lt_or_ge j ls.length with jl | jl
      · rw [List.getElem?_append_left jl] at hj
        obtain ⟨u', hu', h⟩ := at_ j l hj
        have lm := List.mem_of_getElem? hj
        exact ⟨u', hu', by rw [upd_ne (fr l lm).2.1]; exact s15 _ _ h⟩
      · rw [List.getElem?_append_right jl] at hj
        have j0 : j - ls.length = 0 := by
          rcases Nat.eq_zero_or_pos (j - ls.length) with z | z
          · exact z
          · rw [List.getElem?_eq_none_iff.mpr (by rw [List.length_singleton]; omega)] at hj; cases hj
        rw [j0] at hj
        cases hj
        have ji : j = i := by omega
        subst ji
        exact ⟨u, hi, by rw [upd_ne q5D]; exact e5⟩
  · rintro H6 ⟨s6, ls, hd, lsl, nd, fr, at_⟩
    have sF6 : Same F28 H6 := sr.trans s6
    have gH6 := gr.same s6
    have ha6 := s6 _ _ har
    have lsB : ∀ l ∈ ls, F28 l = none := fun l hl => sr.free (fr l hl).1
    have lsH : ∀ l ∈ ls, ∃ w, H6 l = some (.lst w) := fun l hl => by
      obtain ⟨j, hj⟩ := List.getElem?_of_mem hl
      obtain ⟨u', _, h⟩ := at_ j l hj
      exact ⟨_, h⟩
    have DB : F28 D = none := sr.free hD
    refine ⟨ws, .inl ⟨SqL.of ha6, fun t1 nt1 => ⟨by decide, fun t2 nt2 => ?_⟩⟩⟩
    obtain ⟨G1, uG1, v1, e_t1, f1, h1, k1⟩ := ghost (HO.tup ws) sF6 gH6 f28 nt1
    have w1' := (L2.Same.refl H6).new nt1 (HO.tup ws)
    generalize upd H6 t1 (HO.tup ws) = J1 at v1 h1 w1' nt2 ⊢
    obtain ⟨G2, uG2, v2, e_t2, f2, h2, k2⟩ := ghost (HO.tup [V.int 7]) v1 h1 f1 nt2
    have w2' := (L2.Same.refl J1).new nt2 (HO.tup [V.int 7])
    generalize upd J1 t2 (HO.tup [V.int 7]) = J2 at v2 h2 w2' ⊢
    refine catA_any (v2 _ _ (uG2 _ _ e_t1)) (v2 _ _ e_t2) (small5 (by rw [List.length_singleton]; omega)) fun t3 J3 w3 e_t3 => ?_
    have j3 := h2.same w3
    have t3g : t3 ≠ g := fun z => by obtain ⟨_, _, _, e, _⟩ := j3; rw [z, e] at e_t3; cases e_t3
    obtain ⟨G3, uG3, v3, g_t3, f3, k3⟩ := ghost2 (v2.trans w3) f2 e_t3 t3g
    have w03 := (w1'.trans w2').trans w3
    have ls3 : ∀ l ∈ ls, G3 l = none := fun l hl => by
      obtain ⟨wl, hwl⟩ := lsH l hl
      have y1 := k1 l (by rw [hwl]; exact fun z => by cases z) (lsB l hl)
      have y2 := k2 l (by rw [w1' _ _ hwl]; exact fun z => by cases z) y1
      exact k3 l (fun z => by have := w03 _ _ hwl; rw [z, e_t3] at this; cases this) y2
    clear k1 k2 k3 v1 v2 h1 h2 f1 f2 w1' w2' lsB
    refine ⟨ws, .inl ⟨SqL.of (w03 _ _ ha6), fun t4 nt4 => ⟨by decide, fun t5 nt5 => ⟨by decide, fun t6 nt6 => ?_⟩⟩⟩⟩
    obtain ⟨G4, uG4, v4, e_t4, f4, h4, k4⟩ := ghost (HO.tup ws) v3 j3 f3 nt4
    have w04 := w03.new (w03.free nt4) (HO.tup ws)
    have ls4 : ∀ l ∈ ls, G4 l = none := fun l hl => by obtain ⟨wl, hwl⟩ := lsH l hl; exact k4 l (by rw [w03 _ _ hwl]; exact fun z => by cases z) (ls3 l hl)
    generalize upd J3 t4 (HO.tup ws) = J4 at v4 h4 w04 nt5 nt6 ⊢
    obtain ⟨G5, uG5, v5, e_t5, f5, h5, k5⟩ := ghost (HO.tup []) v4 h4 f4 nt5
    have w05 := w04.new (w04.free nt5) (HO.tup [])
    have ls5 : ∀ l ∈ ls, G5 l = none := fun l hl => by obtain ⟨wl, hwl⟩ := lsH l hl; exact k5 l (by rw [w04 _ _ hwl]; exact fun z => by cases z) (ls4 l hl)
    generalize upd J4 t5 (HO.tup []) = J5 at v5 h5 w05 nt6 ⊢
    obtain ⟨G6, uG6, v6, e_t6, f6, h6, k6⟩ := ghost (HO.tup [V.str (Str.ofString "left"), V.str (Str.ofString "")]) v5 h5 f5 nt6
    have w06 := w05.new (w05.free nt6) (HO.tup [V.str (Str.ofString "left"), V.str (Str.ofString "")])
    have ls6 : ∀ l ∈ ls, G6 l = none := fun l hl => by obtain ⟨wl, hwl⟩ := lsH l hl; exact k6 l (by rw [w05 _ _ hwl]; exact fun z => by cases z) (ls5 l hl)
    generalize upd J5 t6 (HO.tup [V.str (Str.ofString "left"), V.str (Str.ofString "")]) = J6 at v6 h6 w06  ⊢
    refine fun t7 nt7 => ?_
    obtain ⟨G7, uG7, v7, e_t7, f7, h7, k7⟩ := ghost (HO.dK []) v6 h6 f6 nt7
    have w07 := w06.new (w06.free nt7) (HO.dK [])
    have ls7 : ∀ l ∈ ls, G7 l = none := fun l hl => by obtain ⟨wl, hwl⟩ := lsH l hl; exact k7 l (by rw [w06 _ _ hwl]; exact fun z => by cases z) (ls6 l hl)
    generalize upd J6 t7 (HO.dK []) = J7 at v7 h7 w07  ⊢
    refine ⟨small5 (by simp), fun t8 nt8 => ?_⟩
    obtain ⟨G8, uG8, v8, e_t8, f8, h8, k8⟩ := ghost (HO.lst [V.non, V.ref t3, V.ref t4, V.ref t5, V.str (Str.ofString "left"), V.ref t6, V.ref t7, V.bl true]) v7 h7 f7 nt8
    have w08 := w07.new (w07.free nt8) (HO.lst [V.non, V.ref t3, V.ref t4, V.ref t5, V.str (Str.ofString "left"), V.ref t6, V.ref t7, V.bl true])
    have ls8 : ∀ l ∈ ls, G8 l = none := fun l hl => by obtain ⟨wl, hwl⟩ := lsH l hl; exact k8 l (by rw [w07 _ _ hwl]; exact fun z => by cases z) (ls7 l hl)
    generalize upd J7 t8 (HO.lst [V.non, V.ref t3, V.ref t4, V.ref t5, V.str (Str.ofString "left"), V.ref t6, V.ref t7, V.bl true]) = J8 at v8 h8 w08  ⊢
    refine ⟨D, t8, ls.map V.ref, [V.non, V.ref t3, V.ref t4, V.ref t5, V.str (Str.ofString "left"), V.ref t6, V.ref t7, V.bl true], rfl, rfl, w08 _ _ hd, v8 _ _ e_t8, small5 (by rw [List.length_map, lsl, O_len]; show 24 + 8 ≤ 16000000; decide), fun p np _ => ?_⟩
    obtain ⟨G9, uG9, v9, e_p, f9, h9, k9⟩ := ghost (HO.lst (ls.map V.ref ++ [V.non, V.ref t3, V.ref t4, V.ref t5, V.str (Str.ofString "left"), V.ref t6, V.ref t7, V.bl true])) v8 h8 f8 np
    have w09 := w08.new (w08.free np) (HO.lst (ls.map V.ref ++ [V.non, V.ref t3, V.ref t4, V.ref t5, V.str (Str.ofString "left"), V.ref t6, V.ref t7, V.bl true]))
    have ls9 : ∀ l ∈ ls, G9 l = none := fun l hl => by obtain ⟨wl, hwl⟩ := lsH l hl; exact k9 l (by rw [w08 _ _ hwl]; exact fun z => by cases z) (ls8 l hl)
    generalize upd J8 p (HO.lst (ls.map V.ref ++ [V.non, V.ref t3, V.ref t4, V.ref t5, V.str (Str.ofString "left"), V.ref t6, V.ref t7, V.bl true])) = J9 at v9 w09 ⊢
    have c79 := uG8.trans uG9
    have g7 := c79 _ _ e_t7
    have g6 := (uG7.trans c79) _ _ e_t6
    have g5 := (uG6.trans (uG7.trans c79)) _ _ e_t5
    have g4 := (uG5.trans (uG6.trans (uG7.trans c79))) _ _ e_t4
    have c39 := uG4.trans (uG5.trans (uG6.trans (uG7.trans c79)))
    have g3 := c39 _ _ g_t3
    have cF := (uG1.trans (uG2.trans uG3)).trans c39
    have stG := stF.same cF
    have S9 : Same (off g H) G9 := by rw [← eF0]; exact sG.trans cF
    clear uG1 uG2 uG3 uG4 uG5 uG6 uG7 uG8 uG9 e_t1 e_t2 e_t4 e_t5 e_t6 e_t7 e_t8 k4 k5 k6 k7 k8 k9 h9 f9 c79 c39 ls3 ls4 ls5 ls6 ls7 ls8 v3 v4 v5 v6 v7 v8 w03 w04 w05 w06 w07 w08 h4 h5 h6 h7 h8 f3 f4 f5 f6 f7 f8
    have dv7 : ∀ {H'}, DVs H' false [V.int 7] [PyData.int 7] := fun {H'} => .cons (.int 7) .nil
    have e49 : xs.length * (40 + 9) ≤ 20 * 49 := Nat.mul_le_mul_right _ xl
    have c1 : ∀ c ∈ (Str.ofString "left").cps.toList, c < 16 ^ 8 := by decide +kernel
    have c2 : ∀ c ∈ (Str.ofString "").cps.toList, c < 16 ^ 8 := by decide +kernel
    have I3 : FlatI K G9 (V.ref t3) := ⟨_, _, .base (.tup g3), kit_ty (by decide +kernel), goodTup g3 (DVsapp (dvSt stG) dv7) ((stPlain xs okx).app (plainInt 7 (by decide +kernel) (by decide +kernel))) (by omega)⟩
    have I4 : FlatI K G9 (V.ref t4) := ⟨_, _, .base (.tup g4), kit_ty (by decide +kernel), goodTup g4 (dvSt stG) (stPlain xs okx) (by omega)⟩
    have I5 : FlatI K G9 (V.ref t5) := ⟨_, _, .base (.tup g5), kit_ty (by decide +kernel), goodTup g5 .nil Plain.nil (by decide)⟩
    have I6 : FlatI K G9 (V.ref t6) := ⟨_, _, .base (.tup g6), kit_ty (by decide +kernel), goodTup g6 (.cons (.str _) (.cons (.str _) .nil)) ((plainStr (n := 5) (Str.ofString "left") (by decide +kernel) c1).app (plainStr (n := 5) (Str.ofString "") (by decide +kernel) c2)) (by decide)⟩
    have I7 : FlatI K G9 (V.ref t7) := ⟨_, _, .base (.dK g7), kit_ty (by decide +kernel), goodDict g7⟩
    have I1 : FlatI K G9 V.non := ⟨_, _, .base .non, kit_ty (by decide +kernel), goodNon⟩
    have I2 : FlatI K G9 (V.str (Str.ofString "left")) := ⟨_, _, .base (.str _), kit_ty (by decide +kernel), goodStr1 _ (by decide +kernel) c1⟩
    have I8 : FlatI K G9 (V.bl true) := ⟨_, _, .base (.bl _), kit_ty (by decide +kernel), goodBl true⟩
    have tlB : ∀ x ∈ [V.non, V.ref t3, V.ref t4, V.ref t5, V.str (Str.ofString "left"), V.ref t6, V.ref t7, V.bl true], FlatI K G9 x ∧ ∀ l, x = V.ref l → G9 l ≠ none := by
      intro x hx
      simp only [List.mem_cons, List.not_mem_nil, or_false] at hx
      rcases hx with rfl | rfl | rfl | rfl | rfl | rfl | rfl | rfl
      · exact ⟨I1, fun l z => by cases z⟩
      · exact ⟨I3, fun l z => by cases z; rw [g3]; exact fun z => by cases z⟩
      · exact ⟨I4, fun l z => by cases z; rw [g4]; exact fun z => by cases z⟩
      · exact ⟨I5, fun l z => by cases z; rw [g5]; exact fun z => by cases z⟩
      · exact ⟨I2, fun l z => by cases z⟩
      · exact ⟨I6, fun l z => by cases z; rw [g6]; exact fun z => by cases z⟩
      · exact ⟨I7, fun l z => by cases z; rw [g7]; exact fun z => by cases z⟩
      · exact ⟨I8, fun l z => by cases z⟩
    have BO : ∀ u ∈ O, Odd K G9 u := fun u hu => (B5 u hu).same cF
    have itL : ∀ x ∈ ls.map V.ref, ListI K G9 J9 x := by
      intro x hx
      obtain ⟨l, hl, rfl⟩ := List.mem_map.mp hx
      obtain ⟨j, hj⟩ := List.getElem?_of_mem hl
      obtain ⟨u, hu, h⟩ := at_ j l hj
      exact listI_of (ls9 l hl) (w09 _ _ h) (sw1.same cF) (sw2.same cF) (fun y hy => okx y (oy1 y hy)) (fun y hy => okx y (oy2 y hy)) (by omega) (by omega) (BO u (List.mem_of_getElem? hu)) (fr l hl).2.2
    generalize [V.non, V.ref t3, V.ref t4, V.ref t5, V.str (Str.ofString "left"), V.ref t6, V.ref t7, V.bl true] = tl at tlB e_p ⊢
    refine q p (ls.map V.ref ++ tl) G9 J9 e_p S9 v9 ?_ fun v hv => ?_
    · rw [List.pairwise_append]
      refine ⟨?_, pw_of _ fun x hx y l e nB => absurd nB ((tlB x hx).2 l e), fun x hx y hy l e nB z => ?_⟩
      · rw [List.pairwise_map]
        exact nd.imp fun ne l e nB z => ne (V.ref.inj z).symm
      · rw [z, e] at hy
        exact (tlB _ hy).2 l rfl nB
    · rcases List.mem_append.mp hv with z | z
      · exact .inr (itL v z)
      · exact .inl (tlB v z).1

theorem tr_chars : ∀ (t : Tr), ∀ c ∈ t.cs, c < 0x110000
  | .leaf, c, h => by
    have : c = 46 := by simpa [Tr.cs] using h
    omega
  | .node l r, c, h => by
    have h : c ∈ 40 :: (l.cs ++ r.cs ++ [41]) := by simpa [Tr.cs] using h
    simp only [List.mem_cons, List.mem_append, List.not_mem_nil, or_false] at h
    rcases h with h | (h | h) | h
    · omega
    · exact tr_chars l c h
    · exact tr_chars r c h
    · omega
theorem neTr {H : Hp} (t : Tr) {Q : VK} (q : Q (.bl false) H) : rNeD K (trV t) (trV t) H Q := by
  have e : SeqAt.shaped (PyData.str (S t.cs)) = true := by
    unfold SeqAt.shaped
    simp only [PyData.canLay0, PyData.depth, okL t.cs (tr_chars t)]
    rfl
  refine ⟨.str (S t.cs), .str (S t.cs), .str _, .str _, e, e, ?_⟩
  rw [show PyData.eqv (.str (S t.cs)) (.str (S t.cs)) = true by simp [PyData.eqv]]
  exact q
theorem neTwo {H : Hp} {a b : Addr} {z : Str} {v : V} {d : PyData} {Q : VK} (ha : H a = some (.lst [.str z, v])) (hb : H b = some (.lst [.str z, v])) (dv : Dp K H v d) (hz : PyData.strOk z = true) (hd : PyData.canLay0 d = true) (dp : d.depth = 0) (e : PyData.eqv d d = true) (q : Q (.bl false) H) : rNeD K (.ref a) (.ref b) H Q := by
  have sh : SeqAt.shaped (PyData.list [.str z, d]) = true := by
    unfold SeqAt.shaped
    simp only [PyData.canLay0, PyData.canLayAll0, PyData.depth, PyData.depthAll, hz, hd, dp]
    decide
  refine ⟨.list [.str z, d], .list [.str z, d], .lst (SqL.of ha) (.cons (.str z) (.cons dv .nil)), .lst (SqL.of hb) (.cons (.str z) (.cons dv .nil)), sh, sh, ?_⟩
  rw [show PyData.eqv (PyData.list [.str z, d]) (.list [.str z, d]) = true by simp [PyData.eqv, PyData.eqvAll, e]]
  exact q
theorem ok_law (T : Txt w K mg) : FnDG P w K mg base CX0 206 20 T.a_law T.fd_law ["_law_script"] (sp_law K) := by
  refine okDG T.F_law sc_law (fun vs H Q E h => ?_) (fun cdv A outer s H vs Q E hG hr h => ?_)
  · obtain ⟨a, ns, rfl, _⟩ := h; rfl
  obtain ⟨a, ns, rfl, ha, hn, q⟩ := h
  have hru := hr.room.units
  refine ⟨_, (pss_cons (ps_for PassesOwn.never rfl (pi_range1 rfl T.z_range (pa_cons pe_int pa_nil)) (pg_name (i := 1) sc_law.nd rfl (by first | exact Or.inl rfl | exact Or.inr rfl)) (pss_cons (ps_set (i := 2) sc_law.nd rfl (by first | exact Or.inl rfl | exact Or.inr rfl) (pe_call (ok_law_generator T) (hr.room.mono (by first | decide | omega)) (by rfl) T.m_law_generator T.F_law_generator.kp T.b_law_generator .nil pass0 (pa_cons (pv 0) (pa_cons (pv 1) pa_nil))))
    (pss_cons (ps_set (i := 3) sc_law.nd rfl (by first | exact Or.inl rfl | exact Or.inr rfl) (pe_callD (ok_law_tree T 200) (hr.mono (by first | decide | omega) (by first | decide | omega)) (by rfl) T.m_law_tree T.F_law_tree.kp T.b_law_tree .nil pass0 (pa_cons (pv 2) (pa_cons (pe_call (ok_law_random T) (hr.room.mono (by first | decide | omega)) (by rfl) T.m_law_random T.F_law_random.kp T.b_law_random .nil pass0 (pa_cons (pv 2) (pa_cons pe_int pa_nil))) pa_nil))))
    (pss_cons (ps_if (pt_cmpR op_ne (pe_callB (cr_reprV hG hru) (by rfl) T.z_repr (by decide +kernel) (pa_cons (pe_call (ok_steps_of T) (hr.room.mono (by first | decide | omega)) (by rfl) T.m_steps_of T.F_steps_of.kp T.b_steps_of .nil passL (pa_cons (pv 3) pa_nil)) pa_nil)) (pe_callB (cr_reprV hG hru) (by rfl) T.z_repr (by decide +kernel) (pa_cons (pe_callD (ok_law_all_steps T) (hr.mono (by first | decide | omega) (by first | decide | omega)) (by rfl) T.m_law_all_steps T.F_law_all_steps.kp T.b_law_all_steps .nil pass0 (pa_cons (pe_call (ok_law_parsed T) (hr.room.mono (by first | decide | omega)) (by rfl) T.m_law_parsed T.F_law_parsed.kp T.b_law_parsed .nil pass0 (pa_cons (pv 3) pa_nil)) pa_nil)) pa_nil)) (nomark _)) (pss_one (ps_ret pe_bl)) pss_nil)
    (pss_cons (ps_for PassesOwn.never rfl (pi_range1 rfl T.z_range (pa_cons pe_int pa_nil)) (pg_name (i := 4) sc_law.nd rfl (by first | exact Or.inl rfl | exact Or.inr rfl)) (pss_cons (ps_set (i := 5) sc_law.nd rfl (by first | exact Or.inl rfl | exact Or.inr rfl) (pe_callD (ok_law_drawn T) (hr.mono (by first | decide | omega) (by first | decide | omega)) (by rfl) T.m_law_drawn T.F_law_drawn.kp T.b_law_drawn .nil pass0 (pa_cons (pv 2) (pa_cons (pv 3) pa_nil))))
    (pss_cons (ps_set (i := 6) sc_law.nd rfl (by first | exact Or.inl rfl | exact Or.inr rfl) (pe_callTy call_list_of (by rfl) T.z_list (by decide +kernel) (pa_cons (pv 5) pa_nil)))
    (pss_one (ps_if (pw_or (pt_cmpR (op_neD hru) (pe_callG (ok_law_told T) hG (hr.room.mono (by first | decide | omega)) (by rfl) T.m_law_told T.F_law_told.kp T.b_law_told .nil pass0 (pa_cons (pv 3) (pa_cons (pv 5) pa_nil))) (pe_callD (ok_law_due T) (hr.mono (by first | decide | omega) (by first | decide | omega)) (by rfl) T.m_law_due T.F_law_due.kp T.b_law_due .nil pass0 (pa_cons (pv 3) (pa_cons (pv 6) pa_nil))) (nomark _)) (pw_or1 (pt_cmpR (op_neD hru) (pv 5) (pv 6) (nomark _)))).pt (pss_one (ps_ret pe_bl)) pss_nil)))))
    (pss_one (ps_for PassesOwn.never rfl (pi_list (pe_call (ok_law_bad T) (hr.room.mono (by first | decide | omega)) (by rfl) T.m_law_bad T.F_law_bad.kp T.b_law_bad .nil pass0 (pa_cons (pv 2) (pa_cons (pv 5) pa_nil)))) (pg_name (i := 7) sc_law.nd rfl (by first | exact Or.inl rfl | exact Or.inr rfl)) (pss_one (ps_if (pw_or (pt_cmpR (TZ.op_neV hru) (pe_callG (ok_law_told T) hG (hr.room.mono (by first | decide | omega)) (by rfl) T.m_law_told T.F_law_told.kp T.b_law_told .nil pass0 (pa_cons (pv 3) (pa_cons (pv 7) pa_nil))) (pe_lst (pa_cons pe_str (pa_cons (pe_callB (cr_reprV hG hru) (by rfl) T.z_repr (by decide +kernel) (pa_cons (pv 7) pa_nil)) pa_nil))) (nomark _)) (pw_or1 (pt_cmpR (TZ.op_neV hru) (pe_callG (ok_law_told T) hG (hr.room.mono (by first | decide | omega)) (by rfl) T.m_law_told T.F_law_told.kp T.b_law_told .nil pass0 (pa_cons pe_str (pa_cons (pv 7) pa_nil))) (pe_lst (pa_cons pe_str (pa_cons pe_bl pa_nil))) (nomark _)))).pt (pss_one (ps_ret pe_bl)) pss_nil)))))))))
    (pss_cons (ps_for PassesOwn.never rfl (pi_list (pe_lst (pa_cons pe_non (pa_cons pe_str (pa_cons pe_str (pa_cons pe_str (pa_cons pe_str (pa_cons pe_str (pa_cons (pe_lst pa_nil) (pa_cons (pe_lst (pa_cons pe_str pa_nil)) (pa_cons pe_int (pa_cons (pe_tup (pa_cons pe_str (pa_cons pe_str pa_nil))) (pa_cons pe_dnewK (pa_cons pe_bl pa_nil)))))))))))))) (pg_name (i := 7) sc_law.nd rfl (by first | exact Or.inl rfl | exact Or.inr rfl)) (pss_one (ps_if (pw_or (pt_not (pt_val (pe_callG (ok_law_no_steps T) hG (hr.room.mono (by first | decide | omega)) (by rfl) T.m_law_no_steps T.F_law_no_steps.kp T.b_law_no_steps .nil pass0 (pa_cons (pv 7) pa_nil)))) (pw_or (pt_cmpR (TZ.op_neV hru) (pe_callG (ok_law_told T) hG (hr.room.mono (by first | decide | omega)) (by rfl) T.m_law_told T.F_law_told.kp T.b_law_told .nil pass0 (pa_cons (pv 7) (pa_cons pe_non pa_nil))) (pe_lst (pa_cons pe_str (pa_cons pe_bl pa_nil))) (nomark _)) (pw_or1 (pt_cmpR (TZ.op_neV hru) (pe_callG (ok_law_told T) hG (hr.room.mono (by first | decide | omega)) (by rfl) T.m_law_told T.F_law_told.kp T.b_law_told .nil pass0 (pa_cons (pv 7) (pa_cons (pe_lst pa_nil) pa_nil))) (pe_lst (pa_cons pe_str (pa_cons pe_bl pa_nil))) (nomark _))))).pt (pss_one (ps_ret pe_bl)) pss_nil)))
    (pss_one (ps_ret pe_bl)))), ?_⟩
  simp only [cxOf_K, tAsg2, tYes, wipe, tSeq, tIfS, tNot, tB, tCB, tCons, tNil, tVar, tC, tTest, tOp, tAnd, tOr, tAsg, gName, tRet, tRetN, tDrop, tNext, tIf, tCall, tTup, tLst, tNotV, tAndV, tOrV, tUn, rI0, rI, rU, rEq, rNe, tM1, tM0, tBM, tBM0, tSl, tPart, tNoPart, iStr, iEnumS, iRng1, iRng2, iList, gSub, tBits, tAug, tPar, L2.start, List.map_cons, List.map_nil, List.length_cons, List.length_nil, List.getElem?_cons_zero, List.getElem?_cons_succ, List.cons_append, List.nil_append, List.append_nil, List.set_cons_zero, List.set_cons_succ, List.replicate_succ, List.replicate_zero, Option.some.injEq, exists_eq_left', V.int.injEq, V.str.injEq, V.ref.injEq, V.bl.injEq, exists_and_left, exists_eq_left, List.cons.injEq, and_true, true_and, tCallX, tRs]
  refine ⟨_, rfl, by decide, by decide, for_range (fun i σ H' => ∃ τ : List (Option V), σ = some (.ref a) :: τ ∧ τ.length = 7 ∧ Same H H') ⟨_, rfl, rfl, L2.Same.refl H⟩ ?_ ?_⟩
  · rintro i σ H1 hi ⟨τ, rfl, tl, s1⟩
    have hi4 : i < 4 := hi
    match τ, tl with
    | [a1, a2, a3, a4, a5, a6, a7], _ =>
    simp only [cxOf_K, tAsg2, tYes, wipe, tSeq, tIfS, tNot, tB, tCB, tCons, tNil, tVar, tC, tTest, tOp, tAnd, tOr, tAsg, gName, tRet, tRetN, tDrop, tNext, tIf, tCall, tTup, tLst, tNotV, tAndV, tOrV, tUn, rI0, rI, rU, rEq, rNe, tM1, tM0, tBM, tBM0, tSl, tPart, tNoPart, iStr, iEnumS, iRng1, iRng2, iList, gSub, tBits, tAug, tPar, L2.start, List.map_cons, List.map_nil, List.length_cons, List.length_nil, List.getElem?_cons_zero, List.getElem?_cons_succ, List.cons_append, List.nil_append, List.append_nil, List.set_cons_zero, List.set_cons_succ, List.replicate_succ, List.replicate_zero, Option.some.injEq, exists_eq_left', V.int.injEq, V.str.injEq, V.ref.injEq, V.bl.injEq, exists_and_left, exists_eq_left, List.cons.injEq, and_true, true_and, tCallX, tRs]
    rw [show (0 : Int) + (i : Int) = ((i : Nat) : Int) by omega]
    refine ⟨a, ns, i, rfl, s1.seq ha, fun g H2 hg s2 g2 => ?_⟩
    have s2' := s1.trans s2
    have hg0 : H g = none := s1.free hg
    refine ⟨g, 21, 1000 * i, rfl, g2, by omega, by decide, by decide, fun m H3 m0 m1 k3 g3 => ?_⟩
    obtain ⟨m, rfl⟩ := Int.eq_ofNat_of_zero_le m0
    have s3 : Same H H3 := (off_in s2' hg0).trans (off_to k3)
    refine ⟨g, m, 1000 * i + 3, rfl, by omega, by omega, g3, by omega, fun t H4 ts k4 g4 => ?_⟩
    have s4 : Same H H4 := (off_in s3 hg0).trans (off_to k4)
    have g4 := g4.mono (show 1000 * i + 3 + 6 * m ≤ 1000 * i + 130 by omega)
    have m20 : m ≤ 20 := by omega
    clear s1 s2 s2' s3 k3 k4 g2 g3 m0 m1
    refine ⟨_, rfl, .inl ⟨t, rfl, by omega, fun p ws H5 np s5 hp st => ?_⟩⟩
    have okS : ∀ x ∈ stepsT t, okSt 20 x := fun x hx => (stepsT_ok hx).1.mono (by omega)
    have slS := stepsT_len t
    have e29 : (stepsT t).length * (20 + 9) ≤ 40 * 29 := Nat.mul_le_mul_right _ (by omega)
    have gd1 := goodList hp (dvSt st) (stPlain _ okS) (by omega)
    refine gd1.repr ⟨t, rfl, by omega, fun v6 H6 s6 pv6 => ⟨v6, t, rfl, pv6, by omega, fun p7 w7 H7 np7 s7 hp7 st7 => ?_⟩⟩
    have gd2 := goodList hp7 (dvSt st7) (stPlain _ okS) (by omega)
    refine gd2.repr ⟨rfl, ?_⟩
    refine ifnF rfl ?_
    have s67 := (s5.trans s6).trans s7
    have s8 := s4.trans s67
    have g8 := g4.same s67
    clear gd1 gd2 hp st hp7 st7 np np7 s5 s6 s7 s67 pv6 s4 g4 e29 slS okS
    refine ⟨_, rfl, by decide, by decide, for_range (fun j σ H' => ∃ b4 b5 b6, σ = [some (.ref a), some (.int (i : Nat)), some (.ref g), some (trV t), b4, b5, b6, a7] ∧ Same H H' ∧ GenAt H' g (1000 * i + 130 + 200 * j) ∧ (0 < j → ∃ (p : Addr) (ws : List V) (xs : List (Str × List Nat)), b5 = some (.ref p) ∧ H' p = some (.lst ws) ∧ Stps H' ws xs ∧ xs.length ≤ 20 ∧ ∀ x ∈ xs, okSt 40 x)) ⟨_, _, _, rfl, s8, g8, fun z => absurd z (by decide)⟩ ?_ ?_⟩
    · rintro j σ H8 hj ⟨b4, b5, b6, rfl, s8, g8, _⟩
      have hj3 : j < 3 := hj
      simp only [cxOf_K, tAsg2, tYes, wipe, tSeq, tIfS, tNot, tB, tCB, tCons, tNil, tVar, tC, tTest, tOp, tAnd, tOr, tAsg, gName, tRet, tRetN, tDrop, tNext, tIf, tCall, tTup, tLst, tNotV, tAndV, tOrV, tUn, rI0, rI, rU, rEq, rNe, tM1, tM0, tBM, tBM0, tSl, tPart, tNoPart, iStr, iEnumS, iRng1, iRng2, iList, gSub, tBits, tAug, tPar, L2.start, List.map_cons, List.map_nil, List.length_cons, List.length_nil, List.getElem?_cons_zero, List.getElem?_cons_succ, List.cons_append, List.nil_append, List.append_nil, List.set_cons_zero, List.set_cons_succ, List.replicate_succ, List.replicate_zero, Option.some.injEq, exists_eq_left', V.int.injEq, V.str.injEq, V.ref.injEq, V.bl.injEq, exists_and_left, exists_eq_left, List.cons.injEq, and_true, true_and, tCallX, tRs]
      refine ⟨g, t, _, rfl, by omega, g8, by omega, fun p ws xs H9 np k9 g9 h9 st9 xl ok9 => ?_⟩
      have s9 : Same H H9 := (off_in s8 hg0).trans (off_to k9)
      refine ⟨p, rfl, ws, .inl (SqL.of h9), fun p6 np6 => ?_⟩
      have sA := (L2.Same.refl H9).new np6 (.lst ws)
      have hA : upd H9 p6 (.lst ws) p6 = some (.lst ws) := upd_same
      generalize upd H9 p6 (.lst ws) = HA at sA hA ⊢
      have hpA := sA _ _ h9
      have stA := st9.same sA
      have gA := (g9.same sA).mono (show 1000 * i + 130 + 200 * j + 200 ≤ 1000 * i + 130 + 200 * (j + 1) by omega)
      have sHA := s9.trans sA
      have okx : ∀ x ∈ xs, ∃ n, okSt n x := fun x hx => ⟨_, ok9 x hx⟩
      clear g9 s9 k9 s8 g8 sA np np6 h9 st9
      have gs : ∀ {H'}, Same HA H' → GoodS H' (.ref p) xs := fun {H'} s => ⟨p, ws, rfl, s _ _ hpA, stA.same s, by have := stA.length; omega, fun x hx => (ok9 x hx).mono (by decide)⟩
      have ok1 : ∀ x ∈ xs, okSt 1000 x := fun x hx => (ok9 x hx).mono (by decide)
      have ok2 : ∀ x ∈ xs, okSt 100 x := fun x hx => (ok9 x hx).mono (by decide)
      refine' cutAt (C := fun H' _ => Same HA H') _ _
      rotate_left
      · intro key
        cases e : runT 0 xs t with
        | inl s =>
          refine ⟨_, _, rfl, .inl ⟨t, xs, rfl, by omega, gs (L2.Same.refl HA), ok1, fun s' hs HB sB => ?_, fun k hk => by rw [e] at hk; cases hk⟩⟩
          refine ⟨t, p6, ws, xs, rfl, by omega, sB _ _ hA, stA.same sB, by omega, ok2, fun s2 hs2 HC sC => ?_, fun k hk => by rw [e] at hk; cases hk⟩
          rw [hs] at hs2
          cases hs2
          refine neTr _ ⟨false, rfl, ?_⟩
          rw [if_neg (by decide)]
          exact key HC 0 (sB.trans sC)
        | inr k0 =>
          refine ⟨_, _, rfl, .inl ⟨t, xs, rfl, by omega, gs (L2.Same.refl HA), ok1, (fun s' hs => by rw [e] at hs; cases hs), fun k hk q1 HB nq1 sB hq1 => ?_⟩⟩
          refine ⟨t, p6, ws, xs, rfl, by omega, sB _ _ hA, stA.same sB, by omega, ok2, (fun s2 hs2 => by rw [e] at hs2; cases hs2), fun k' hk' q2 HC nq2 sC hq2 => ?_⟩
          rw [hk] at hk'
          cases hk'
          refine neTwo (sC _ _ hq1) hq2 (.int _) (by decide +kernel) (by simp [PyData.canLay0]) (by simp [PyData.depth]) (by simp [PyData.eqv]) ⟨false, rfl, ?_⟩
          rw [if_neg (by decide)]
          exact key HC 0 (sB.trans sC)
      · rintro HB _ sB
        refine neSt okx (sB _ _ hpA) (stA.same sB) (sB _ _ hA) (stA.same sB) ⟨false, rfl, ?_⟩
        rw [if_neg (by decide)]
        exact ⟨_, _, _, ⟨rfl, rfl, rfl⟩, sHA.trans sB, gA.same sB, fun _ => ⟨p, rfl, ws, sB _ _ hpA, xs, stA.same sB, xl, ok9⟩⟩
    · rintro σ H8 ⟨b4, b5, b6, rfl, s8, g8, it⟩
      obtain ⟨p, ws, xs, rfl, h8, st8, xl, ok8⟩ := it (by decide)
      refine ⟨_, rfl, _, rfl, g, p, ws, xs, _, rfl, g8, by omega, h8, st8, xl, ok8, fun pb vs B H9 hB sB sB9 pw it => ?_⟩
      have sHB : Same H B := (off_in s8 hg0).trans sB
      refine ⟨pb, rfl, ⟨_, SqL.of (sB9 _ _ hB)⟩, for_list (K := K) (a := pb) (xs := vs) (fun k σ H' => ∃ b7, σ = [some (.ref a), some (.int (i : Nat)), some (.ref g), some (trV t), b4, some (.ref p), b6, b7] ∧ Same B H' ∧ ∀ (j : Nat) v, k ≤ j → vs[j]? = some v → FlatI K B v ∨ ListI K B H' v) ⟨_, rfl, sB9, fun j v _ hv => it v (List.mem_of_getElem? hv)⟩ ?_ ?_ ?_⟩
      · rintro k σ H' hk ⟨b7, rfl, sk, itk⟩
        exact SqL.of (sk _ _ hB)
      · rintro k x σ H' hk ⟨b7, rfl, sk, itk⟩
        simp only [cxOf_K, tAsg2, tYes, wipe, tSeq, tIfS, tNot, tB, tCB, tCons, tNil, tVar, tC, tTest, tOp, tAnd, tOr, tAsg, gName, tRet, tRetN, tDrop, tNext, tIf, tCall, tTup, tLst, tNotV, tAndV, tOrV, tUn, rI0, rI, rU, rEq, rNe, tM1, tM0, tBM, tBM0, tSl, tPart, tNoPart, iStr, iEnumS, iRng1, iRng2, iList, gSub, tBits, tAug, tPar, L2.start, List.map_cons, List.map_nil, List.length_cons, List.length_nil, List.getElem?_cons_zero, List.getElem?_cons_succ, List.cons_append, List.nil_append, List.append_nil, List.set_cons_zero, List.set_cons_succ, List.replicate_succ, List.replicate_zero, Option.some.injEq, exists_eq_left', V.int.injEq, V.str.injEq, V.ref.injEq, V.bl.injEq, exists_and_left, exists_eq_left, List.cons.injEq, and_true, true_and, tCallX, tRs]
        have key : ∀ (QQ : VK), (∀ d H1, Good H1 x d → Same B H1 → (∀ (j : Nat) v, k + 1 ≤ j → vs[j]? = some v → FlatI K B v ∨ ListI K B H1 v) → Two H1 (.str (Str.ofString "script")) (.str d.shown) QQ) → sp_law_told T [trV t, x] H' QQ E0 := by
          intro QQ fin
          rcases itk k x (Nat.le_refl _) hk with f | f
          · obtain ⟨d, ty, tx, hkk, gd⟩ := id f
            exact ⟨_, _, rfl, .inr (.inl ⟨t, rfl, by omega, f.bad sk, .inl ⟨d, ty, gd.same sk, tyX_same tx sk, hkk, fun H1 s1 => fin d H1 (gd.same (sk.trans s1)) (sk.trans s1) fun j v jk hv => (itk j v (by omega) hv).imp id fun z => by
              obtain ⟨l, ws, c, ds, n, e, a1, a2, r⟩ := z
              exact ⟨l, ws, c, ds, n, e, a1, s1 _ _ a2, r⟩⟩⟩)⟩
          · obtain ⟨l, _, _, _, _, rfl, hBl, _⟩ := id f
            obtain ⟨wl, hl, lw, _, mo⟩ := f.more sk
            refine ⟨_, _, rfl, .inr (.inl ⟨t, rfl, by omega, f.bad sk, .inr ⟨l, wl, rfl, hl, lw, fun H1 k1 h1 => ?_⟩⟩)⟩
            obtain ⟨sB1, _, d, gd⟩ := mo H1 k1 h1
            refine ⟨d, gd, fin d H1 gd sB1 fun j v jk hv => (itk j v (by omega) hv).imp id fun z => z.keep k1 ?_⟩
            have := List.pairwise_iff_getElem.mp pw k j (List.getElem?_eq_some_iff.mp hk).1 (List.getElem?_eq_some_iff.mp hv).1 (by omega)
            rw [(List.getElem?_eq_some_iff.mp hk).2, (List.getElem?_eq_some_iff.mp hv).2] at this
            exact this l rfl hBl
        refine key _ fun d H1 gd sB1 it1 p1 H2 np1 s2 h2 => ?_
        have itS : ∀ {Ha Hb : Hp}, Same Ha Hb → (∀ (j : Nat) v, k + 1 ≤ j → vs[j]? = some v → FlatI K B v ∨ ListI K B Ha v) → ∀ (j : Nat) v, k + 1 ≤ j → vs[j]? = some v → FlatI K B v ∨ ListI K B Hb v := fun s h j v jk hv => (h j v jk hv).imp id fun z => by
          obtain ⟨l, ws, c, ds, n, e, a1, a2, r⟩ := z
          exact ⟨l, ws, c, ds, n, e, a1, s _ _ a2, r⟩
        refine (gd.same s2).repr ⟨by decide, fun p2 np2 => ?_⟩
        have s3 := (L2.Same.refl H2).new np2 (.lst [V.str (Str.ofString "script"), V.str d.shown])
        have h3 : upd H2 p2 (.lst [V.str (Str.ofString "script"), V.str d.shown]) p2 = some (.lst [V.str (Str.ofString "script"), V.str d.shown]) := upd_same
        generalize upd H2 p2 (.lst [V.str (Str.ofString "script"), V.str d.shown]) = H3 at s3 h3 ⊢
        have s23 := s2.trans s3
        refine ⟨p1, p2, _, rfl, rfl, SqL.of (s3 _ _ h2), SqL.of h3, ?_, false, rfl, ?_⟩
        · intro z hz
          simp only [List.mem_cons, List.not_mem_nil, or_false] at hz
          rcases hz with rfl | rfl <;> rfl
        rw [if_neg (by decide)]
        have sB3 := sB1.trans s23
        refine ⟨_, x, rfl, .inr (.inr ⟨.inl ⟨Str.ofString "(.)", rfl, by decide +kernel, by decide +kernel⟩, _, goodStr1 (Str.ofString "(.)") (by decide +kernel) (by decide +kernel), fun p4 H4 np4 s4 h4 => ⟨by decide, fun p5 np5 => ?_⟩⟩)⟩
        have s5 := (L2.Same.refl H4).new np5 (.lst [V.str (Str.ofString "tree"), V.bl true])
        refine ⟨p4, p5, _, rfl, rfl, SqL.of (s5 _ _ h4), SqL.of upd_same, ?_, false, rfl, ?_⟩
        · intro z hz
          simp only [List.mem_cons, List.not_mem_nil, or_false] at hz
          rcases hz with rfl | rfl <;> rfl
        rw [if_neg (by decide)]
        have s35 := s4.trans s5
        exact ⟨sB3.trans s35, itS (s23.trans s35) it1⟩
      · rintro σ H' ⟨b7, rfl, sk, itk⟩
        exact ⟨_, rfl, rfl, sHB.trans sk⟩
  · rintro σ H1 ⟨τ, rfl, tl, s1⟩
    match τ, tl with
    | [a1, a2, a3, a4, a5, a6, a7], _ =>
    simp only [cxOf_K, tAsg2, tYes, wipe, tSeq, tIfS, tNot, tB, tCB, tCons, tNil, tVar, tC, tTest, tOp, tAnd, tOr, tAsg, gName, tRet, tRetN, tDrop, tNext, tIf, tCall, tTup, tLst, tNotV, tAndV, tOrV, tUn, rI0, rI, rU, rEq, rNe, tM1, tM0, tBM, tBM0, tSl, tPart, tNoPart, iStr, iEnumS, iRng1, iRng2, iList, gSub, tBits, tAug, tPar, L2.start, List.map_cons, List.map_nil, List.length_cons, List.length_nil, List.getElem?_cons_zero, List.getElem?_cons_succ, List.cons_append, List.nil_append, List.append_nil, List.set_cons_zero, List.set_cons_succ, List.replicate_succ, List.replicate_zero, Option.some.injEq, exists_eq_left', V.int.injEq, V.str.injEq, V.ref.injEq, V.bl.injEq, exists_and_left, exists_eq_left, List.cons.injEq, and_true, true_and, tCallX, tRs]
    refine ⟨by first | decide | exact small5 (by simp), fun la nla => ?_⟩
    have u0 := (L2.Same.refl H1).new nla (HO.lst [])
    have e_la : upd H1 la (HO.lst []) la = some (HO.lst []) := upd_same
    generalize upd H1 la (HO.lst []) = U0 at u0 e_la ⊢
    refine ⟨by first | decide | exact small5 (by simp), fun lb nlb => ?_⟩
    have u1 := (L2.Same.refl U0).new nlb (HO.lst [V.str (Str.ofString ".")])
    have e_lb : upd U0 lb (HO.lst [V.str (Str.ofString ".")]) lb = some (HO.lst [V.str (Str.ofString ".")]) := upd_same
    generalize upd U0 lb (HO.lst [V.str (Str.ofString ".")]) = U1 at u1 e_lb ⊢
    refine ⟨by first | decide | exact small5 (by simp), fun lc nlc => ?_⟩
    have u2 := (L2.Same.refl U1).new nlc (HO.tup [V.str (Str.ofString "."), V.str (Str.ofString ".")])
    have e_lc : upd U1 lc (HO.tup [V.str (Str.ofString "."), V.str (Str.ofString ".")]) lc = some (HO.tup [V.str (Str.ofString "."), V.str (Str.ofString ".")]) := upd_same
    generalize upd U1 lc (HO.tup [V.str (Str.ofString "."), V.str (Str.ofString ".")]) = U2 at u2 e_lc ⊢
    refine fun ld nld => ?_
    have u3 := (L2.Same.refl U2).new nld (HO.dK [])
    have e_ld : upd U2 ld (HO.dK []) ld = some (HO.dK []) := upd_same
    generalize upd U2 ld (HO.dK []) = U3 at u3 e_ld ⊢
    refine ⟨by first | decide | exact small5 (by simp), fun le nle => ?_⟩
    have u4 := (L2.Same.refl U3).new nle (HO.lst [V.non, V.str (Str.ofString ""), V.str (Str.ofString "(.)"), V.str (Str.ofString "(.."), V.str (Str.ofString ".."), V.str (Str.ofString "(..)."), V.ref la, V.ref lb, V.int 5, V.ref lc, V.ref ld, V.bl true])
    have e_le : upd U3 le (HO.lst [V.non, V.str (Str.ofString ""), V.str (Str.ofString "(.)"), V.str (Str.ofString "(.."), V.str (Str.ofString ".."), V.str (Str.ofString "(..)."), V.ref la, V.ref lb, V.int 5, V.ref lc, V.ref ld, V.bl true]) le = some (HO.lst [V.non, V.str (Str.ofString ""), V.str (Str.ofString "(.)"), V.str (Str.ofString "(.."), V.str (Str.ofString ".."), V.str (Str.ofString "(..)."), V.ref la, V.ref lb, V.int 5, V.ref lc, V.ref ld, V.bl true]) := upd_same
    generalize upd U3 le (HO.lst [V.non, V.str (Str.ofString ""), V.str (Str.ofString "(.)"), V.str (Str.ofString "(.."), V.str (Str.ofString ".."), V.str (Str.ofString "(..)."), V.ref la, V.ref lb, V.int 5, V.ref lc, V.ref ld, V.bl true]) = U4 at u4 e_le ⊢
    have f_la := u4 _ _ (u3 _ _ (u2 _ _ (u1 _ _ e_la)))
    have f_lb := u4 _ _ (u3 _ _ (u2 _ _ e_lb))
    have f_lc := u4 _ _ (u3 _ _ e_lc)
    have f_ld := u4 _ _ e_ld
    have cd : ∀ c ∈ (Str.ofString ".").cps.toList, c < 16 ^ 8 := by decide +kernel
    have flat : ∀ z : Str, isT z.cps.toList ["tree"] = false → z.length ≤ 100 → (∀ c ∈ z.cps.toList, c < 16 ^ 8) → NotTree K U4 (V.str z) ∧ ∃ d, Good U4 (V.str z) d := fun z h1 h2 h3 => ⟨.inl ⟨z, rfl, by omega, h1⟩, _, goodStr1 z (by omega) h3⟩
    have al : ∀ x ∈ [V.non, V.str (Str.ofString ""), V.str (Str.ofString "(.)"), V.str (Str.ofString "(.."), V.str (Str.ofString ".."), V.str (Str.ofString "(..)."), V.ref la, V.ref lb, V.int 5, V.ref lc, V.ref ld, V.bl true], NotTree K U4 x ∧ ∃ d, Good U4 x d := by
      intro x hx
      simp only [List.mem_cons, List.not_mem_nil, or_false] at hx
      rcases hx with rfl | rfl | rfl | rfl | rfl | rfl | rfl | rfl | rfl | rfl | rfl | rfl
      · exact ⟨.inr notStrNon, _, goodNon⟩
      · exact flat _ (by decide +kernel) (by decide +kernel) (by decide +kernel)
      · exact flat _ (by decide +kernel) (by decide +kernel) (by decide +kernel)
      · exact flat _ (by decide +kernel) (by decide +kernel) (by decide +kernel)
      · exact flat _ (by decide +kernel) (by decide +kernel) (by decide +kernel)
      · exact flat _ (by decide +kernel) (by decide +kernel) (by decide +kernel)
      · exact ⟨.inr (notStrList f_la), _, goodList f_la .nil Plain.nil (by decide)⟩
      · exact ⟨.inr (notStrList f_lb), _, goodList f_lb (.cons (.str _) .nil) (plainStr (n := 5) _ (by decide +kernel) cd) (by decide)⟩
      · exact ⟨.inr ⟨_, .base (.int _), kit_ty (by decide +kernel)⟩, .int 5, .int 5, by decide +kernel, by decide +kernel, by decide +kernel, by decide +kernel⟩
      · exact ⟨.inr ⟨_, .base (.tup f_lc), kit_ty (by decide +kernel)⟩, _, goodTup f_lc (.cons (.str _) (.cons (.str _) .nil)) ((plainStr (n := 5) _ (by decide +kernel) cd).app (plainStr (n := 5) _ (by decide +kernel) cd)) (by decide)⟩
      · exact ⟨.inr ⟨_, .base (.dK f_ld), kit_ty (by decide +kernel)⟩, _, goodDict f_ld⟩
      · exact ⟨.inr ⟨_, .base (.bl _), kit_ty (by decide +kernel)⟩, _, goodBl true⟩
    generalize [V.non, V.str (Str.ofString ""), V.str (Str.ofString "(.)"), V.str (Str.ofString "(.."), V.str (Str.ofString ".."), V.str (Str.ofString "(..)."), V.ref la, V.ref lb, V.int 5, V.ref lc, V.ref ld, V.bl true] = vs at e_le al ⊢
    refine ⟨le, rfl, ⟨_, SqL.of e_le⟩, for_list (K := K) (a := le) (xs := vs) (fun k σ H' => ∃ b7, σ = [some (.ref a), a1, a2, a3, a4, a5, a6, b7] ∧ Same U4 H') ⟨_, rfl, L2.Same.refl U4⟩ ?_ ?_ ?_⟩
    · rintro k σ H' hk ⟨b7, rfl, sk⟩
      exact SqL.of (sk _ _ e_le)
    · rintro k x σ H' hk ⟨b7, rfl, sk⟩
      obtain ⟨nt0, d, gd0⟩ := al x (List.mem_of_getElem? hk)
      simp only [cxOf_K, tAsg2, tYes, wipe, tSeq, tIfS, tNot, tB, tCB, tCons, tNil, tVar, tC, tTest, tOp, tAnd, tOr, tAsg, gName, tRet, tRetN, tDrop, tNext, tIf, tCall, tTup, tLst, tNotV, tAndV, tOrV, tUn, rI0, rI, rU, rEq, rNe, tM1, tM0, tBM, tBM0, tSl, tPart, tNoPart, iStr, iEnumS, iRng1, iRng2, iList, gSub, tBits, tAug, tPar, L2.start, List.map_cons, List.map_nil, List.length_cons, List.length_nil, List.getElem?_cons_zero, List.getElem?_cons_succ, List.cons_append, List.nil_append, List.append_nil, List.set_cons_zero, List.set_cons_succ, List.replicate_succ, List.replicate_zero, Option.some.injEq, exists_eq_left', V.int.injEq, V.str.injEq, V.ref.injEq, V.bl.injEq, exists_and_left, exists_eq_left, List.cons.injEq, and_true, true_and, tCallX, tRs]
      refine ⟨x, rfl, nt0.same sk, d, gd0.same sk, fun H2 s2 => ?_⟩
      refine ⟨true, rfl, ?_⟩
      rw [if_neg (by decide)]
      have s2 := sk.trans s2
      have fl : ∀ z ∈ [V.str (Str.ofString "tree"), V.bl true], flatB z = true := fun z hz => by
        simp only [List.mem_cons, List.not_mem_nil, or_false] at hz
        rcases hz with rfl | rfl <;> rfl
      refine ⟨x, _, rfl, .inr (.inr ⟨nt0.same s2, d, gd0.same s2, fun p3 H3 np3 s3 h3 => ⟨by decide, fun p4 np4 => ?_⟩⟩)⟩
      have s4 := (L2.Same.refl H3).new np4 (.lst [V.str (Str.ofString "tree"), V.bl true])
      refine ⟨p3, p4, _, rfl, rfl, SqL.of (s4 _ _ h3), SqL.of upd_same, fl, false, rfl, ?_⟩
      rw [if_neg (by decide)]
      refine ⟨by decide, fun p5 np5 => ?_⟩
      have s5 := ((s2.trans s3).trans s4).trans ((L2.Same.refl _).new np5 (.lst []))
      refine ⟨x, _, rfl, .inr (.inr ⟨nt0.same s5, d, gd0.same s5, fun p6 H6 np6 s6 h6 => ⟨by decide, fun p7 np7 => ?_⟩⟩)⟩
      have s7 := (L2.Same.refl H6).new np7 (.lst [V.str (Str.ofString "tree"), V.bl true])
      refine ⟨p6, p7, _, rfl, rfl, SqL.of (s7 _ _ h6), SqL.of upd_same, fl, false, rfl, ?_⟩
      rw [if_neg (by decide)]
      exact (s5.trans s6).trans s7
    · rintro σ H' ⟨b7, rfl, sk⟩
      exact q H'

/-! ### what the classes must say -/
section
variable {K : PySem.W.Frag} {mg : Str → Option Value} {h : Heap} {C : Addr} {bm : List Value} {nm q : Str} {N : Addr} {bs : List Value} {sn : List Str} {sub : List Value} {ab : Bool} {col : Option Bool} {dd : Option Addr} {k0 k1 k2 k3 k5 : Option Value}
theorem cls_mk (l : K.lookup C = some (excClassObj nm q C N bs bm true sn sub ab col dd k0 k1 k2 k3 k5 "ValueError.__new__")) (r : PySem.HandSPX.refsVE bm = true) (ga : PySem.W.findIn K (.ref C) "__getattribute__" = some (some (.builtin "BaseException.__getattribute__"))) (gg : PySem.W.findIn K (.ref C) "__getattr__" = some none)
    (ha : PySem.W.findIn K (.ref C) "__class__" = some (some (.builtin "object.__class__"))) (hn : PySem.W.specialIn K (.builtin "object.__class__") "__get__" = some (some (.builtin "getset_descriptor.__get__"))) (ht : PySem.W.takesIn K (.builtin "object.__class__") = some true) :
    ErrC K C (.ref C :: bm) ∧ XfC K C := by
  have c : PySem.W.clsIn K C = some { name := nm, bases := bs, mro := .ref C :: bm, ns := N, qualname := q, hasDict := true, slotNames := sn, subclasses := sub, abstract := ab, collection := col, hasDel := false } := by unfold PySem.W.clsIn; rw [l] <;> rfl
  have sub : ∀ Y : String, PySem.HandSPX.veTail.contains (.type Y) = true → PySem.W.mroIn K C (.type Y) = some true := fun Y z => by
    unfold PySem.W.mroIn
    rw [c, Option.bind_some, List.contains_cons, PySem.HandSPX.refsVE_contains Y bm r, z, Bool.or_true]
    rfl
  have hd : PySem.W.hasDictIn K C = true := by unfold PySem.W.hasDictIn; rw [c]; rfl
  have sb : PySem.W.subIn K (.ref C) (.type "BaseException") = some true := sub "BaseException" (by decide +kernel)
  have ty : PySem.W.typeIn K (.ref C) = some (.type "type") := by show (K.lookup C).map (·.cls) = _; rw [l] <;> rfl
  exact ⟨⟨by rw [c]; rfl, ty, ⟨ga, gg, sb, hd, ha, hn, ht, sub "object" (by decide +kernel)⟩⟩, ⟨ga, gg, sb, hd⟩⟩
theorem oex_mk (l : K.lookup C = some (excClassObj nm q C N bs bm true sn sub ab col dd k0 k1 k2 k3 k5 "ValueError.__new__")) (r : PySem.HandSPX.refsVE bm = true) (sa : PySem.W.findIn K (.ref C) "__setattr__" = some (some (.builtin "object.__setattr__"))) (kC : PySem.W.keepIn K (.ref C) = true)
    (e : ErrC K C (.ref C :: bm)) : OexC K C := ⟨⟨_, _, _, _, _, _, _, _, _, _, _, _, _, _, _, l, r⟩, sa, e.ec.hs, e.ty, kC⟩
variable {st : Stmt} {fI TT0 : Addr} {od td : Option Addr} {kV doc pm cdv ct tc : Value} {an : Option Addr} {osl ts : Array (Option Value)} {n : Nat} {qual : Str}
theorem fund_mk (l : K.lookup fI = some ⟨.type "function", od, .func (PySem.W.fnOf "__init__" qual (defArgs st) (defBody st) (defScope st) (.ref TT0) kV doc pm an cdv ct), osl⟩) (c : PySem.W.codeIn K cdv qual = true) (lT : K.lookup TT0 = some ⟨tc, td, .seq #[.none] n, ts⟩) :
    FunD K "__init__" qual (defArgs st) (defBody st) (defScope st) [.non] [] fI (PySem.W.fnOf "__init__" qual (defArgs st) (defBody st) (defScope st) (.ref TT0) kV doc pm an cdv ct) :=
  ⟨⟨_, od, _, kV, doc, pm, an, cdv, ct, osl, rfl, l, c, .inr ⟨by simp, TT0, _, [.none], n, rfl, lT, rfl, .cons rfl .nil⟩, .inl rfl⟩, by unfold PySem.W.keepIn; dsimp only; rw [l] <;> rfl⟩
theorem fty (l : K.lookup fI = some ⟨.type "function", od, .func (PySem.W.fnOf "__init__" qual (defArgs st) (defBody st) (defScope st) (.ref TT0) kV doc pm an cdv ct), osl⟩) : PySem.W.typeIn K (.ref fI) = some (.type "function") := by
  show (K.lookup fI).map (·.cls) = _
  rw [l] <;> rfl
end

theorem own_InvalidTree {h : Heap} {C fI : Addr} {fd : FuncData} (X : K.In h) (G : h.Ns mainGlobals mg) (m : PySem.W.nsIn K mainGlobals "InvalidTree" = some (some (.ref C))) (ox : OexC K C) (no : PySem.W.findIn K (.ref C) "value" = some none)
    (iC : PySem.W.findIn K (.ref C) "__init__" = some (some (.ref fI))) (tI : PySem.W.typeIn K (.ref fI) = some (.type "function")) (F : FunD K "__init__" "InvalidTree.__init__" (defArgs i_InvalidTree) (defBody i_InvalidTree) (defScope i_InvalidTree) [.non] [] fI fd) : OwnE K mg "InvalidTree" C "value" "value" := by
  refine ⟨PySem.W.mg_of X G m, ox, fI, fd, iC, tI, F.binds1 1 0 (by simp) rfl (fun _ _ _ _ _ _ _ us its h1 h2 => match us, its, h1, h2 with | [_], [_], _, _ => ⟨_, rfl, rfl⟩), ?_, kbinds1 F (by simp) (fun _ _ _ _ _ _ _ us its ws h1 h2 h3 => match us, its, ws, h1, h2, h3 with | [_], [_], [_], _, _, _ => ⟨_, rfl, rfl⟩), fun P w base => ?_⟩
  · obtain ⟨ds, hd, b⟩ := F.binds1 (ps := ["self", "value"]) 2 1 (by simp) rfl (fun _ _ _ _ _ _ _ us its h1 h2 => match us, its, h1, h2 with | [_, _], [_], _, _ => ⟨_, rfl, rfl⟩)
    cases hd
    exact b
  · refine FunD.ok F si_InvalidTree (fun vs H Q E h => ?_) (fun cdv A outer s H vs Q E hr h => ?_)
    · obtain ⟨a, y, rfl, _⟩ := h; rfl
    obtain ⟨a, y, rfl, ha, q⟩ := h
    refine ⟨_, pss_one (ps_ost (pv 0) (pv 1)), ?_⟩
    simp only [tOst, cxOf_K, tAsg2, tYes, wipe, tSeq, tIfS, tNot, tB, tCB, tCons, tNil, tVar, tC, tTest, tOp, tAnd, tOr, tAsg, gName, tRet, tRetN, tDrop, tNext, tIf, tCall, tTup, tLst, tNotV, tAndV, tOrV, tUn, rI0, rI, rU, rEq, rNe, tM1, tM0, tBM, tBM0, tSl, tPart, tNoPart, iStr, iEnumS, iRng1, iRng2, iList, gSub, tBits, tAug, tPar, L2.start, List.map_cons, List.map_nil, List.length_cons, List.length_nil, List.getElem?_cons_zero, List.getElem?_cons_succ, List.cons_append, List.nil_append, List.append_nil, List.set_cons_zero, List.set_cons_succ, List.replicate_succ, List.replicate_zero, Option.some.injEq, exists_eq_left', V.int.injEq, V.str.injEq, V.ref.injEq, V.bl.injEq, exists_and_left, exists_eq_left, List.cons.injEq, and_true, true_and]
    exact ⟨C, ox, no, .inl ⟨ha, q⟩⟩

theorem own_InvalidScript {h : Heap} {C fI : Addr} {fd : FuncData} (X : K.In h) (G : h.Ns mainGlobals mg) (m : PySem.W.nsIn K mainGlobals "InvalidScript" = some (some (.ref C))) (ox : OexC K C) (no : PySem.W.findIn K (.ref C) "value" = some none)
    (iC : PySem.W.findIn K (.ref C) "__init__" = some (some (.ref fI))) (tI : PySem.W.typeIn K (.ref fI) = some (.type "function")) (F : FunD K "__init__" "InvalidScript.__init__" (defArgs i_InvalidScript) (defBody i_InvalidScript) (defScope i_InvalidScript) [.non] [] fI fd) : OwnE K mg "InvalidScript" C "value" "value" := by
  refine ⟨PySem.W.mg_of X G m, ox, fI, fd, iC, tI, F.binds1 1 0 (by simp) rfl (fun _ _ _ _ _ _ _ us its h1 h2 => match us, its, h1, h2 with | [_], [_], _, _ => ⟨_, rfl, rfl⟩), ?_, kbinds1 F (by simp) (fun _ _ _ _ _ _ _ us its ws h1 h2 h3 => match us, its, ws, h1, h2, h3 with | [_], [_], [_], _, _, _ => ⟨_, rfl, rfl⟩), fun P w base => ?_⟩
  · obtain ⟨ds, hd, b⟩ := F.binds1 (ps := ["self", "value"]) 2 1 (by simp) rfl (fun _ _ _ _ _ _ _ us its h1 h2 => match us, its, h1, h2 with | [_, _], [_], _, _ => ⟨_, rfl, rfl⟩)
    cases hd
    exact b
  · refine FunD.ok F si_InvalidScript (fun vs H Q E h => ?_) (fun cdv A outer s H vs Q E hr h => ?_)
    · obtain ⟨a, y, rfl, _⟩ := h; rfl
    obtain ⟨a, y, rfl, ha, q⟩ := h
    refine ⟨_, pss_one (ps_ost (pv 0) (pv 1)), ?_⟩
    simp only [tOst, cxOf_K, tAsg2, tYes, wipe, tSeq, tIfS, tNot, tB, tCB, tCons, tNil, tVar, tC, tTest, tOp, tAnd, tOr, tAsg, gName, tRet, tRetN, tDrop, tNext, tIf, tCall, tTup, tLst, tNotV, tAndV, tOrV, tUn, rI0, rI, rU, rEq, rNe, tM1, tM0, tBM, tBM0, tSl, tPart, tNoPart, iStr, iEnumS, iRng1, iRng2, iList, gSub, tBits, tAug, tPar, L2.start, List.map_cons, List.map_nil, List.length_cons, List.length_nil, List.getElem?_cons_zero, List.getElem?_cons_succ, List.cons_append, List.nil_append, List.append_nil, List.set_cons_zero, List.set_cons_succ, List.replicate_succ, List.replicate_zero, Option.some.injEq, exists_eq_left', V.int.injEq, V.str.injEq, V.ref.injEq, V.bl.injEq, exists_and_left, exists_eq_left, List.cons.injEq, and_true, true_and]
    exact ⟨C, ox, no, .inl ⟨ha, q⟩⟩

theorem own_CannotTurn {h : Heap} {C fI : Addr} {fd : FuncData} (X : K.In h) (G : h.Ns mainGlobals mg) (m : PySem.W.nsIn K mainGlobals "CannotTurn" = some (some (.ref C))) (ox : OexC K C) (no : PySem.W.findIn K (.ref C) "place" = some none)
    (iC : PySem.W.findIn K (.ref C) "__init__" = some (some (.ref fI))) (tI : PySem.W.typeIn K (.ref fI) = some (.type "function")) (F : FunD K "__init__" "CannotTurn.__init__" (defArgs i_CannotTurn) (defBody i_CannotTurn) (defScope i_CannotTurn) [.non] [] fI fd) : OwnE K mg "CannotTurn" C "place" "place" := by
  refine ⟨PySem.W.mg_of X G m, ox, fI, fd, iC, tI, F.binds1 1 0 (by simp) rfl (fun _ _ _ _ _ _ _ us its h1 h2 => match us, its, h1, h2 with | [_], [_], _, _ => ⟨_, rfl, rfl⟩), ?_, kbinds1 F (by simp) (fun _ _ _ _ _ _ _ us its ws h1 h2 h3 => match us, its, ws, h1, h2, h3 with | [_], [_], [_], _, _, _ => ⟨_, rfl, rfl⟩), fun P w base => ?_⟩
  · obtain ⟨ds, hd, b⟩ := F.binds1 (ps := ["self", "place"]) 2 1 (by simp) rfl (fun _ _ _ _ _ _ _ us its h1 h2 => match us, its, h1, h2 with | [_, _], [_], _, _ => ⟨_, rfl, rfl⟩)
    cases hd
    exact b
  · refine FunD.ok F si_CannotTurn (fun vs H Q E h => ?_) (fun cdv A outer s H vs Q E hr h => ?_)
    · obtain ⟨a, y, rfl, _⟩ := h; rfl
    obtain ⟨a, y, rfl, ha, q⟩ := h
    refine ⟨_, pss_one (ps_ost (pv 0) (pv 1)), ?_⟩
    simp only [tOst, cxOf_K, tAsg2, tYes, wipe, tSeq, tIfS, tNot, tB, tCB, tCons, tNil, tVar, tC, tTest, tOp, tAnd, tOr, tAsg, gName, tRet, tRetN, tDrop, tNext, tIf, tCall, tTup, tLst, tNotV, tAndV, tOrV, tUn, rI0, rI, rU, rEq, rNe, tM1, tM0, tBM, tBM0, tSl, tPart, tNoPart, iStr, iEnumS, iRng1, iRng2, iList, gSub, tBits, tAug, tPar, L2.start, List.map_cons, List.map_nil, List.length_cons, List.length_nil, List.getElem?_cons_zero, List.getElem?_cons_succ, List.cons_append, List.nil_append, List.append_nil, List.set_cons_zero, List.set_cons_succ, List.replicate_succ, List.replicate_zero, Option.some.injEq, exists_eq_left', V.int.injEq, V.str.injEq, V.ref.injEq, V.bl.injEq, exists_and_left, exists_eq_left, List.cons.injEq, and_true, true_and]
    exact ⟨C, ox, no, .inl ⟨ha, q⟩⟩

end
theorem all_mk {l : PySem.W.OpenLaw} {w : World} {K : PySem.W.Frag} {h : Heap} {mg : Str → Option Value} {fa : Addr} (X : K.In h) (G : h.Ns mainGlobals mg) (hfa : mg "law" = some (.ref fa))
    (hn : PySem.W.specialIn K (.builtin "object.__class__") "__get__" = some (some (.builtin "getset_descriptor.__get__"))) (ht : PySem.W.takesIn K (.builtin "object.__class__") = some true)
    {C_TurnError : Addr}
    {nm_TurnError q_TurnError : Str} {N_TurnError : Addr} {bs_TurnError : List Value} {sn_TurnError : List Str} {sub_TurnError : List Value} {ab_TurnError : Bool} {col_TurnError : Option Bool} {dd_TurnError : Option Addr} {k0_TurnError k1_TurnError k2_TurnError k3_TurnError k5_TurnError : Option Value}
    (m_TurnError : PySem.W.nsIn K mainGlobals "TurnError" = some (some (.ref C_TurnError)))
    (l_TurnError : K.lookup C_TurnError = some (excClassObj nm_TurnError q_TurnError C_TurnError N_TurnError bs_TurnError veL true sn_TurnError sub_TurnError ab_TurnError col_TurnError dd_TurnError k0_TurnError k1_TurnError k2_TurnError k3_TurnError k5_TurnError "ValueError.__new__"))
    (ga_TurnError : PySem.W.findIn K (.ref C_TurnError) "__getattribute__" = some (some (.builtin "BaseException.__getattribute__"))) (gg_TurnError : PySem.W.findIn K (.ref C_TurnError) "__getattr__" = some none) (ha_TurnError : PySem.W.findIn K (.ref C_TurnError) "__class__" = some (some (.builtin "object.__class__")))
    {C_InvalidTree : Addr}
    {nm_InvalidTree q_InvalidTree : Str} {N_InvalidTree : Addr} {bs_InvalidTree : List Value} {sn_InvalidTree : List Str} {sub_InvalidTree : List Value} {ab_InvalidTree : Bool} {col_InvalidTree : Option Bool} {dd_InvalidTree : Option Addr} {k0_InvalidTree k1_InvalidTree k2_InvalidTree k3_InvalidTree k5_InvalidTree : Option Value}
    (m_InvalidTree : PySem.W.nsIn K mainGlobals "InvalidTree" = some (some (.ref C_InvalidTree)))
    (l_InvalidTree : K.lookup C_InvalidTree = some (excClassObj nm_InvalidTree q_InvalidTree C_InvalidTree N_InvalidTree bs_InvalidTree (.ref C_TurnError :: veL) true sn_InvalidTree sub_InvalidTree ab_InvalidTree col_InvalidTree dd_InvalidTree k0_InvalidTree k1_InvalidTree k2_InvalidTree k3_InvalidTree k5_InvalidTree "ValueError.__new__"))
    (ga_InvalidTree : PySem.W.findIn K (.ref C_InvalidTree) "__getattribute__" = some (some (.builtin "BaseException.__getattribute__"))) (gg_InvalidTree : PySem.W.findIn K (.ref C_InvalidTree) "__getattr__" = some none) (ha_InvalidTree : PySem.W.findIn K (.ref C_InvalidTree) "__class__" = some (some (.builtin "object.__class__")))
    (sa_InvalidTree : PySem.W.findIn K (.ref C_InvalidTree) "__setattr__" = some (some (.builtin "object.__setattr__"))) (kC_InvalidTree : PySem.W.keepIn K (.ref C_InvalidTree) = true) (no_InvalidTree : PySem.W.findIn K (.ref C_InvalidTree) "value" = some none)
    {f_InvalidTree T_InvalidTree n_InvalidTree : Nat} {od_InvalidTree td_InvalidTree an_InvalidTree : Option Addr} {kV_InvalidTree doc_InvalidTree pm_InvalidTree cd_InvalidTree ct_InvalidTree tc_InvalidTree : Value} {ol_InvalidTree ts_InvalidTree : Array (Option Value)}
    (iC_InvalidTree : PySem.W.findIn K (.ref C_InvalidTree) "__init__" = some (some (.ref f_InvalidTree)))
    (lf_InvalidTree : K.lookup f_InvalidTree = some ⟨.type "function", od_InvalidTree, .func (PySem.W.fnOf "__init__" "InvalidTree.__init__" (defArgs i_InvalidTree) (defBody i_InvalidTree) (defScope i_InvalidTree) (.ref T_InvalidTree) kV_InvalidTree doc_InvalidTree pm_InvalidTree an_InvalidTree cd_InvalidTree ct_InvalidTree), ol_InvalidTree⟩)
    (cf_InvalidTree : PySem.W.codeIn K cd_InvalidTree "InvalidTree.__init__" = true) (lT_InvalidTree : K.lookup T_InvalidTree = some ⟨tc_InvalidTree, td_InvalidTree, .seq #[.none] n_InvalidTree, ts_InvalidTree⟩)
    {C_InvalidScript : Addr}
    {nm_InvalidScript q_InvalidScript : Str} {N_InvalidScript : Addr} {bs_InvalidScript : List Value} {sn_InvalidScript : List Str} {sub_InvalidScript : List Value} {ab_InvalidScript : Bool} {col_InvalidScript : Option Bool} {dd_InvalidScript : Option Addr} {k0_InvalidScript k1_InvalidScript k2_InvalidScript k3_InvalidScript k5_InvalidScript : Option Value}
    (m_InvalidScript : PySem.W.nsIn K mainGlobals "InvalidScript" = some (some (.ref C_InvalidScript)))
    (l_InvalidScript : K.lookup C_InvalidScript = some (excClassObj nm_InvalidScript q_InvalidScript C_InvalidScript N_InvalidScript bs_InvalidScript (.ref C_TurnError :: veL) true sn_InvalidScript sub_InvalidScript ab_InvalidScript col_InvalidScript dd_InvalidScript k0_InvalidScript k1_InvalidScript k2_InvalidScript k3_InvalidScript k5_InvalidScript "ValueError.__new__"))
    (ga_InvalidScript : PySem.W.findIn K (.ref C_InvalidScript) "__getattribute__" = some (some (.builtin "BaseException.__getattribute__"))) (gg_InvalidScript : PySem.W.findIn K (.ref C_InvalidScript) "__getattr__" = some none) (ha_InvalidScript : PySem.W.findIn K (.ref C_InvalidScript) "__class__" = some (some (.builtin "object.__class__")))
    (sa_InvalidScript : PySem.W.findIn K (.ref C_InvalidScript) "__setattr__" = some (some (.builtin "object.__setattr__"))) (kC_InvalidScript : PySem.W.keepIn K (.ref C_InvalidScript) = true) (no_InvalidScript : PySem.W.findIn K (.ref C_InvalidScript) "value" = some none)
    {f_InvalidScript T_InvalidScript n_InvalidScript : Nat} {od_InvalidScript td_InvalidScript an_InvalidScript : Option Addr} {kV_InvalidScript doc_InvalidScript pm_InvalidScript cd_InvalidScript ct_InvalidScript tc_InvalidScript : Value} {ol_InvalidScript ts_InvalidScript : Array (Option Value)}
    (iC_InvalidScript : PySem.W.findIn K (.ref C_InvalidScript) "__init__" = some (some (.ref f_InvalidScript)))
    (lf_InvalidScript : K.lookup f_InvalidScript = some ⟨.type "function", od_InvalidScript, .func (PySem.W.fnOf "__init__" "InvalidScript.__init__" (defArgs i_InvalidScript) (defBody i_InvalidScript) (defScope i_InvalidScript) (.ref T_InvalidScript) kV_InvalidScript doc_InvalidScript pm_InvalidScript an_InvalidScript cd_InvalidScript ct_InvalidScript), ol_InvalidScript⟩)
    (cf_InvalidScript : PySem.W.codeIn K cd_InvalidScript "InvalidScript.__init__" = true) (lT_InvalidScript : K.lookup T_InvalidScript = some ⟨tc_InvalidScript, td_InvalidScript, .seq #[.none] n_InvalidScript, ts_InvalidScript⟩)
    {C_CannotTurn : Addr}
    {nm_CannotTurn q_CannotTurn : Str} {N_CannotTurn : Addr} {bs_CannotTurn : List Value} {sn_CannotTurn : List Str} {sub_CannotTurn : List Value} {ab_CannotTurn : Bool} {col_CannotTurn : Option Bool} {dd_CannotTurn : Option Addr} {k0_CannotTurn k1_CannotTurn k2_CannotTurn k3_CannotTurn k5_CannotTurn : Option Value}
    (m_CannotTurn : PySem.W.nsIn K mainGlobals "CannotTurn" = some (some (.ref C_CannotTurn)))
    (l_CannotTurn : K.lookup C_CannotTurn = some (excClassObj nm_CannotTurn q_CannotTurn C_CannotTurn N_CannotTurn bs_CannotTurn (.ref C_TurnError :: veL) true sn_CannotTurn sub_CannotTurn ab_CannotTurn col_CannotTurn dd_CannotTurn k0_CannotTurn k1_CannotTurn k2_CannotTurn k3_CannotTurn k5_CannotTurn "ValueError.__new__"))
    (ga_CannotTurn : PySem.W.findIn K (.ref C_CannotTurn) "__getattribute__" = some (some (.builtin "BaseException.__getattribute__"))) (gg_CannotTurn : PySem.W.findIn K (.ref C_CannotTurn) "__getattr__" = some none) (ha_CannotTurn : PySem.W.findIn K (.ref C_CannotTurn) "__class__" = some (some (.builtin "object.__class__")))
    (sa_CannotTurn : PySem.W.findIn K (.ref C_CannotTurn) "__setattr__" = some (some (.builtin "object.__setattr__"))) (kC_CannotTurn : PySem.W.keepIn K (.ref C_CannotTurn) = true) (no_CannotTurn : PySem.W.findIn K (.ref C_CannotTurn) "place" = some none)
    {f_CannotTurn T_CannotTurn n_CannotTurn : Nat} {od_CannotTurn td_CannotTurn an_CannotTurn : Option Addr} {kV_CannotTurn doc_CannotTurn pm_CannotTurn cd_CannotTurn ct_CannotTurn tc_CannotTurn : Value} {ol_CannotTurn ts_CannotTurn : Array (Option Value)}
    (iC_CannotTurn : PySem.W.findIn K (.ref C_CannotTurn) "__init__" = some (some (.ref f_CannotTurn)))
    (lf_CannotTurn : K.lookup f_CannotTurn = some ⟨.type "function", od_CannotTurn, .func (PySem.W.fnOf "__init__" "CannotTurn.__init__" (defArgs i_CannotTurn) (defBody i_CannotTurn) (defScope i_CannotTurn) (.ref T_CannotTurn) kV_CannotTurn doc_CannotTurn pm_CannotTurn an_CannotTurn cd_CannotTurn ct_CannotTurn), ol_CannotTurn⟩)
    (cf_CannotTurn : PySem.W.codeIn K cd_CannotTurn "CannotTurn.__init__" = true) (lT_CannotTurn : K.lookup T_CannotTurn = some ⟨tc_CannotTurn, td_CannotTurn, .seq #[.none] n_CannotTurn, ts_CannotTurn⟩)
    (nd : [C_InvalidTree, C_InvalidScript, C_CannotTurn, C_TurnError].Nodup)
    {D_OTHER_WORD n_OTHER_WORD : Nat} {h1_OTHER_WORD h2_OTHER_WORD : Int} {t1_OTHER_WORD t2_OTHER_WORD t3_OTHER_WORD t4_OTHER_WORD : Tok}
    (m_OTHER_WORD : PySem.W.nsIn K mainGlobals "OTHER_WORD" = some (some (.ref D_OTHER_WORD))) (l_OTHER_WORD : K.lookup D_OTHER_WORD = some ⟨.type "dict", none, .dict #[⟨h1_OTHER_WORD, .str "left" t1_OTHER_WORD, .str "right" t2_OTHER_WORD⟩, ⟨h2_OTHER_WORD, .str "right" t3_OTHER_WORD, .str "left" t4_OTHER_WORD⟩] n_OTHER_WORD, #[]⟩)
    (e1_OTHER_WORD : h1_OTHER_WORD = PyData.keyHash w.params "left") (e2_OTHER_WORD : h2_OTHER_WORD = PyData.keyHash w.params "right") (lo_OTHER_WORD : (D_OTHER_WORD == sysModules) = false)
    {f0 : Addr} {od0 an0 : Option Addr} {sl0 : Array (Option Value)} {oc0 kV0 dc0 pm0 cd0 ct0 : Value}
    (a0 : PySem.W.nsIn K mainGlobals "is_tree" = some (some (.ref f0))) (l0 : K.lookup f0 = some ⟨oc0, od0, .func (PySem.W.fnOf "is_tree" "is_tree" (defArgs s_is_tree) (defBody s_is_tree) (defScope s_is_tree) .none kV0 dc0 pm0 an0 cd0 ct0), sl0⟩) (c0 : PySem.W.codeIn K cd0 "is_tree" = true) (k0 : PySem.W.keepIn K (.ref f0) = true)
    {f1 : Addr} {od1 an1 : Option Addr} {sl1 : Array (Option Value)} {oc1 kV1 dc1 pm1 cd1 ct1 : Value}
    (a1 : PySem.W.nsIn K mainGlobals "is_address" = some (some (.ref f1))) (l1 : K.lookup f1 = some ⟨oc1, od1, .func (PySem.W.fnOf "is_address" "is_address" (defArgs s_is_address) (defBody s_is_address) (defScope s_is_address) .none kV1 dc1 pm1 an1 cd1 ct1), sl1⟩) (c1 : PySem.W.codeIn K cd1 "is_address" = true) (k1 : PySem.W.keepIn K (.ref f1) = true)
    {f2 : Addr} {od2 an2 : Option Addr} {sl2 : Array (Option Value)} {oc2 kV2 dc2 pm2 cd2 ct2 : Value}
    (a2 : PySem.W.nsIn K mainGlobals "check_tree" = some (some (.ref f2))) (l2 : K.lookup f2 = some ⟨oc2, od2, .func (PySem.W.fnOf "check_tree" "check_tree" (defArgs s_check_tree) (defBody s_check_tree) (defScope s_check_tree) .none kV2 dc2 pm2 an2 cd2 ct2), sl2⟩) (c2 : PySem.W.codeIn K cd2 "check_tree" = true) (k2 : PySem.W.keepIn K (.ref f2) = true)
    {f3 : Addr} {od3 an3 : Option Addr} {sl3 : Array (Option Value)} {oc3 kV3 dc3 pm3 cd3 ct3 : Value}
    (a3 : PySem.W.nsIn K mainGlobals "ends" = some (some (.ref f3))) (l3 : K.lookup f3 = some ⟨oc3, od3, .func (PySem.W.fnOf "ends" "ends" (defArgs s_ends) (defBody s_ends) (defScope s_ends) .none kV3 dc3 pm3 an3 cd3 ct3), sl3⟩) (c3 : PySem.W.codeIn K cd3 "ends" = true) (k3 : PySem.W.keepIn K (.ref f3) = true)
    {f4 : Addr} {od4 an4 : Option Addr} {sl4 : Array (Option Value)} {oc4 kV4 dc4 pm4 cd4 ct4 : Value}
    (a4 : PySem.W.nsIn K mainGlobals "halves" = some (some (.ref f4))) (l4 : K.lookup f4 = some ⟨oc4, od4, .func (PySem.W.fnOf "halves" "halves" (defArgs s_halves) (defBody s_halves) (defScope s_halves) .none kV4 dc4 pm4 an4 cd4 ct4), sl4⟩) (c4 : PySem.W.codeIn K cd4 "halves" = true) (k4 : PySem.W.keepIn K (.ref f4) = true)
    {f5 : Addr} {od5 an5 : Option Addr} {sl5 : Array (Option Value)} {oc5 kV5 dc5 pm5 cd5 ct5 : Value}
    (a5 : PySem.W.nsIn K mainGlobals "stretch" = some (some (.ref f5))) (l5 : K.lookup f5 = some ⟨oc5, od5, .func (PySem.W.fnOf "stretch" "stretch" (defArgs s_stretch) (defBody s_stretch) (defScope s_stretch) .none kV5 dc5 pm5 an5 cd5 ct5), sl5⟩) (c5 : PySem.W.codeIn K cd5 "stretch" = true) (k5 : PySem.W.keepIn K (.ref f5) = true)
    {f6 : Addr} {od6 an6 : Option Addr} {sl6 : Array (Option Value)} {oc6 kV6 dc6 pm6 cd6 ct6 : Value}
    (a6 : PySem.W.nsIn K mainGlobals "addressed" = some (some (.ref f6))) (l6 : K.lookup f6 = some ⟨oc6, od6, .func (PySem.W.fnOf "addressed" "addressed" (defArgs s_addressed) (defBody s_addressed) (defScope s_addressed) .none kV6 dc6 pm6 an6 cd6 ct6), sl6⟩) (c6 : PySem.W.codeIn K cd6 "addressed" = true) (k6 : PySem.W.keepIn K (.ref f6) = true)
    {f7 : Addr} {od7 an7 : Option Addr} {sl7 : Array (Option Value)} {oc7 kV7 dc7 pm7 cd7 ct7 : Value}
    (a7 : PySem.W.nsIn K mainGlobals "is_step" = some (some (.ref f7))) (l7 : K.lookup f7 = some ⟨oc7, od7, .func (PySem.W.fnOf "is_step" "is_step" (defArgs s_is_step) (defBody s_is_step) (defScope s_is_step) .none kV7 dc7 pm7 an7 cd7 ct7), sl7⟩) (c7 : PySem.W.codeIn K cd7 "is_step" = true) (k7 : PySem.W.keepIn K (.ref f7) = true)
    {f8 : Addr} {od8 an8 : Option Addr} {sl8 : Array (Option Value)} {oc8 kV8 dc8 pm8 cd8 ct8 : Value}
    (a8 : PySem.W.nsIn K mainGlobals "checked_script" = some (some (.ref f8))) (l8 : K.lookup f8 = some ⟨oc8, od8, .func (PySem.W.fnOf "checked_script" "checked_script" (defArgs s_checked_script) (defBody s_checked_script) (defScope s_checked_script) .none kV8 dc8 pm8 an8 cd8 ct8), sl8⟩) (c8 : PySem.W.codeIn K cd8 "checked_script" = true) (k8 : PySem.W.keepIn K (.ref f8) = true)
    {f9 : Addr} {od9 an9 : Option Addr} {sl9 : Array (Option Value)} {oc9 kV9 dc9 pm9 cd9 ct9 : Value}
    (a9 : PySem.W.nsIn K mainGlobals "turned_root" = some (some (.ref f9))) (l9 : K.lookup f9 = some ⟨oc9, od9, .func (PySem.W.fnOf "turned_root" "turned_root" (defArgs s_turned_root) (defBody s_turned_root) (defScope s_turned_root) .none kV9 dc9 pm9 an9 cd9 ct9), sl9⟩) (c9 : PySem.W.codeIn K cd9 "turned_root" = true) (k9 : PySem.W.keepIn K (.ref f9) = true)
    {f10 : Addr} {od10 an10 : Option Addr} {sl10 : Array (Option Value)} {oc10 kV10 dc10 pm10 cd10 ct10 : Value}
    (a10 : PySem.W.nsIn K mainGlobals "after_step" = some (some (.ref f10))) (l10 : K.lookup f10 = some ⟨oc10, od10, .func (PySem.W.fnOf "after_step" "after_step" (defArgs s_after_step) (defBody s_after_step) (defScope s_after_step) .none kV10 dc10 pm10 an10 cd10 ct10), sl10⟩) (c10 : PySem.W.codeIn K cd10 "after_step" = true) (k10 : PySem.W.keepIn K (.ref f10) = true)
    {f11 : Addr} {od11 an11 : Option Addr} {sl11 : Array (Option Value)} {oc11 kV11 dc11 pm11 cd11 ct11 : Value}
    (a11 : PySem.W.nsIn K mainGlobals "turned" = some (some (.ref f11))) (l11 : K.lookup f11 = some ⟨oc11, od11, .func (PySem.W.fnOf "turned" "turned" (defArgs s_turned) (defBody s_turned) (defScope s_turned) .none kV11 dc11 pm11 an11 cd11 ct11), sl11⟩) (c11 : PySem.W.codeIn K cd11 "turned" = true) (k11 : PySem.W.keepIn K (.ref f11) = true)
    {f12 : Addr} {od12 an12 : Option Addr} {sl12 : Array (Option Value)} {oc12 kV12 dc12 pm12 cd12 ct12 : Value}
    (a12 : PySem.W.nsIn K mainGlobals "steps_of" = some (some (.ref f12))) (l12 : K.lookup f12 = some ⟨oc12, od12, .func (PySem.W.fnOf "steps_of" "steps_of" (defArgs s_steps_of) (defBody s_steps_of) (defScope s_steps_of) .none kV12 dc12 pm12 an12 cd12 ct12), sl12⟩) (c12 : PySem.W.codeIn K cd12 "steps_of" = true) (k12 : PySem.W.keepIn K (.ref f12) = true)
    {f13 : Addr} {od13 an13 : Option Addr} {sl13 : Array (Option Value)} {oc13 kV13 dc13 pm13 cd13 ct13 : Value}
    (a13 : PySem.W.nsIn K mainGlobals "_law_cell" = some (some (.ref f13))) (l13 : K.lookup f13 = some ⟨oc13, od13, .func (PySem.W.fnOf "_law_cell" "_law_cell" (defArgs s_law_cell) (defBody s_law_cell) (defScope s_law_cell) .none kV13 dc13 pm13 an13 cd13 ct13), sl13⟩) (c13 : PySem.W.codeIn K cd13 "_law_cell" = true) (k13 : PySem.W.keepIn K (.ref f13) = true)
    {f14 : Addr} {od14 an14 : Option Addr} {sl14 : Array (Option Value)} {oc14 kV14 dc14 pm14 cd14 ct14 : Value}
    (a14 : PySem.W.nsIn K mainGlobals "_law_hash" = some (some (.ref f14))) (l14 : K.lookup f14 = some ⟨oc14, od14, .func (PySem.W.fnOf "_law_hash" "_law_hash" (defArgs s_law_hash) (defBody s_law_hash) (defScope s_law_hash) .none kV14 dc14 pm14 an14 cd14 ct14), sl14⟩) (c14 : PySem.W.codeIn K cd14 "_law_hash" = true) (k14 : PySem.W.keepIn K (.ref f14) = true)
    {f15 : Addr} {od15 an15 : Option Addr} {sl15 : Array (Option Value)} {oc15 kV15 dc15 pm15 cd15 ct15 : Value}
    (a15 : PySem.W.nsIn K mainGlobals "_law_generator" = some (some (.ref f15))) (l15 : K.lookup f15 = some ⟨oc15, od15, .func (PySem.W.fnOf "_law_generator" "_law_generator" (defArgs s_law_generator) (defBody s_law_generator) (defScope s_law_generator) .none kV15 dc15 pm15 an15 cd15 ct15), sl15⟩) (c15 : PySem.W.codeIn K cd15 "_law_generator" = true) (k15 : PySem.W.keepIn K (.ref f15) = true)
    {f16 : Addr} {od16 an16 : Option Addr} {sl16 : Array (Option Value)} {oc16 kV16 dc16 pm16 cd16 ct16 : Value}
    (a16 : PySem.W.nsIn K mainGlobals "_law_tree" = some (some (.ref f16))) (l16 : K.lookup f16 = some ⟨oc16, od16, .func (PySem.W.fnOf "_law_tree" "_law_tree" (defArgs s_law_tree) (defBody s_law_tree) (defScope s_law_tree) .none kV16 dc16 pm16 an16 cd16 ct16), sl16⟩) (c16 : PySem.W.codeIn K cd16 "_law_tree" = true) (k16 : PySem.W.keepIn K (.ref f16) = true)
    {f17 : Addr} {od17 an17 : Option Addr} {sl17 : Array (Option Value)} {oc17 kV17 dc17 pm17 cd17 ct17 : Value}
    (a17 : PySem.W.nsIn K mainGlobals "_law_parsed" = some (some (.ref f17))) (l17 : K.lookup f17 = some ⟨oc17, od17, .func (PySem.W.fnOf "_law_parsed" "_law_parsed" (defArgs s_law_parsed) (defBody s_law_parsed) (defScope s_law_parsed) .none kV17 dc17 pm17 an17 cd17 ct17), sl17⟩) (c17 : PySem.W.codeIn K cd17 "_law_parsed" = true) (k17 : PySem.W.keepIn K (.ref f17) = true)
    {f18 : Addr} {od18 an18 : Option Addr} {sl18 : Array (Option Value)} {oc18 kV18 dc18 pm18 cd18 ct18 : Value}
    (a18 : PySem.W.nsIn K mainGlobals "_law_text" = some (some (.ref f18))) (l18 : K.lookup f18 = some ⟨oc18, od18, .func (PySem.W.fnOf "_law_text" "_law_text" (defArgs s_law_text) (defBody s_law_text) (defScope s_law_text) .none kV18 dc18 pm18 an18 cd18 ct18), sl18⟩) (c18 : PySem.W.codeIn K cd18 "_law_text" = true) (k18 : PySem.W.keepIn K (.ref f18) = true)
    {f19 : Addr} {od19 an19 : Option Addr} {sl19 : Array (Option Value)} {oc19 kV19 dc19 pm19 cd19 ct19 : Value}
    (a19 : PySem.W.nsIn K mainGlobals "_law_nodes" = some (some (.ref f19))) (l19 : K.lookup f19 = some ⟨oc19, od19, .func (PySem.W.fnOf "_law_nodes" "_law_nodes" (defArgs s_law_nodes) (defBody s_law_nodes) (defScope s_law_nodes) .none kV19 dc19 pm19 an19 cd19 ct19), sl19⟩) (c19 : PySem.W.codeIn K cd19 "_law_nodes" = true) (k19 : PySem.W.keepIn K (.ref f19) = true)
    {f20 : Addr} {od20 an20 : Option Addr} {sl20 : Array (Option Value)} {oc20 kV20 dc20 pm20 cd20 ct20 : Value}
    (a20 : PySem.W.nsIn K mainGlobals "_law_at" = some (some (.ref f20))) (l20 : K.lookup f20 = some ⟨oc20, od20, .func (PySem.W.fnOf "_law_at" "_law_at" (defArgs s_law_at) (defBody s_law_at) (defScope s_law_at) .none kV20 dc20 pm20 an20 cd20 ct20), sl20⟩) (c20 : PySem.W.codeIn K cd20 "_law_at" = true) (k20 : PySem.W.keepIn K (.ref f20) = true)
    {f21 : Addr} {od21 an21 : Option Addr} {sl21 : Array (Option Value)} {oc21 kV21 dc21 pm21 cd21 ct21 : Value}
    (a21 : PySem.W.nsIn K mainGlobals "_law_put" = some (some (.ref f21))) (l21 : K.lookup f21 = some ⟨oc21, od21, .func (PySem.W.fnOf "_law_put" "_law_put" (defArgs s_law_put) (defBody s_law_put) (defScope s_law_put) .none kV21 dc21 pm21 an21 cd21 ct21), sl21⟩) (c21 : PySem.W.codeIn K cd21 "_law_put" = true) (k21 : PySem.W.keepIn K (.ref f21) = true)
    {f22 : Addr} {od22 an22 : Option Addr} {sl22 : Array (Option Value)} {oc22 kV22 dc22 pm22 cd22 ct22 : Value}
    (a22 : PySem.W.nsIn K mainGlobals "_law_turn" = some (some (.ref f22))) (l22 : K.lookup f22 = some ⟨oc22, od22, .func (PySem.W.fnOf "_law_turn" "_law_turn" (defArgs s_law_turn) (defBody s_law_turn) (defScope s_law_turn) .none kV22 dc22 pm22 an22 cd22 ct22), sl22⟩) (c22 : PySem.W.codeIn K cd22 "_law_turn" = true) (k22 : PySem.W.keepIn K (.ref f22) = true)
    {f23 : Addr} {od23 an23 : Option Addr} {sl23 : Array (Option Value)} {oc23 kV23 dc23 pm23 cd23 ct23 : Value}
    (a23 : PySem.W.nsIn K mainGlobals "_law_address" = some (some (.ref f23))) (l23 : K.lookup f23 = some ⟨oc23, od23, .func (PySem.W.fnOf "_law_address" "_law_address" (defArgs s_law_address) (defBody s_law_address) (defScope s_law_address) .none kV23 dc23 pm23 an23 cd23 ct23), sl23⟩) (c23 : PySem.W.codeIn K cd23 "_law_address" = true) (k23 : PySem.W.keepIn K (.ref f23) = true)
    {f24 : Addr} {od24 an24 : Option Addr} {sl24 : Array (Option Value)} {oc24 kV24 dc24 pm24 cd24 ct24 : Value}
    (a24 : PySem.W.nsIn K mainGlobals "_law_steps" = some (some (.ref f24))) (l24 : K.lookup f24 = some ⟨oc24, od24, .func (PySem.W.fnOf "_law_steps" "_law_steps" (defArgs s_law_steps) (defBody s_law_steps) (defScope s_law_steps) .none kV24 dc24 pm24 an24 cd24 ct24), sl24⟩) (c24 : PySem.W.codeIn K cd24 "_law_steps" = true) (k24 : PySem.W.keepIn K (.ref f24) = true)
    {f25 : Addr} {od25 an25 : Option Addr} {sl25 : Array (Option Value)} {oc25 kV25 dc25 pm25 cd25 ct25 : Value}
    (a25 : PySem.W.nsIn K mainGlobals "_law_random" = some (some (.ref f25))) (l25 : K.lookup f25 = some ⟨oc25, od25, .func (PySem.W.fnOf "_law_random" "_law_random" (defArgs s_law_random) (defBody s_law_random) (defScope s_law_random) .none kV25 dc25 pm25 an25 cd25 ct25), sl25⟩) (c25 : PySem.W.codeIn K cd25 "_law_random" = true) (k25 : PySem.W.keepIn K (.ref f25) = true)
    {f26 : Addr} {od26 an26 : Option Addr} {sl26 : Array (Option Value)} {oc26 kV26 dc26 pm26 cd26 ct26 : Value}
    (a26 : PySem.W.nsIn K mainGlobals "_law_all_steps" = some (some (.ref f26))) (l26 : K.lookup f26 = some ⟨oc26, od26, .func (PySem.W.fnOf "_law_all_steps" "_law_all_steps" (defArgs s_law_all_steps) (defBody s_law_all_steps) (defScope s_law_all_steps) .none kV26 dc26 pm26 an26 cd26 ct26), sl26⟩) (c26 : PySem.W.codeIn K cd26 "_law_all_steps" = true) (k26 : PySem.W.keepIn K (.ref f26) = true)
    {f27 : Addr} {od27 an27 : Option Addr} {sl27 : Array (Option Value)} {oc27 kV27 dc27 pm27 cd27 ct27 : Value}
    (a27 : PySem.W.nsIn K mainGlobals "_law_drawn" = some (some (.ref f27))) (l27 : K.lookup f27 = some ⟨oc27, od27, .func (PySem.W.fnOf "_law_drawn" "_law_drawn" (defArgs s_law_drawn) (defBody s_law_drawn) (defScope s_law_drawn) .none kV27 dc27 pm27 an27 cd27 ct27), sl27⟩) (c27 : PySem.W.codeIn K cd27 "_law_drawn" = true) (k27 : PySem.W.keepIn K (.ref f27) = true)
    {f28 : Addr} {od28 an28 : Option Addr} {sl28 : Array (Option Value)} {oc28 kV28 dc28 pm28 cd28 ct28 : Value}
    (a28 : PySem.W.nsIn K mainGlobals "_law_told" = some (some (.ref f28))) (l28 : K.lookup f28 = some ⟨oc28, od28, .func (PySem.W.fnOf "_law_told" "_law_told" (defArgs s_law_told) (defBody s_law_told) (defScope s_law_told) .none kV28 dc28 pm28 an28 cd28 ct28), sl28⟩) (c28 : PySem.W.codeIn K cd28 "_law_told" = true) (k28 : PySem.W.keepIn K (.ref f28) = true)
    {f29 : Addr} {od29 an29 : Option Addr} {sl29 : Array (Option Value)} {oc29 kV29 dc29 pm29 cd29 ct29 : Value}
    (a29 : PySem.W.nsIn K mainGlobals "_law_due" = some (some (.ref f29))) (l29 : K.lookup f29 = some ⟨oc29, od29, .func (PySem.W.fnOf "_law_due" "_law_due" (defArgs s_law_due) (defBody s_law_due) (defScope s_law_due) .none kV29 dc29 pm29 an29 cd29 ct29), sl29⟩) (c29 : PySem.W.codeIn K cd29 "_law_due" = true) (k29 : PySem.W.keepIn K (.ref f29) = true)
    {f30 : Addr} {od30 an30 : Option Addr} {sl30 : Array (Option Value)} {oc30 kV30 dc30 pm30 cd30 ct30 : Value}
    (a30 : PySem.W.nsIn K mainGlobals "_law_bad" = some (some (.ref f30))) (l30 : K.lookup f30 = some ⟨oc30, od30, .func (PySem.W.fnOf "_law_bad" "_law_bad" (defArgs s_law_bad) (defBody s_law_bad) (defScope s_law_bad) .none kV30 dc30 pm30 an30 cd30 ct30), sl30⟩) (c30 : PySem.W.codeIn K cd30 "_law_bad" = true) (k30 : PySem.W.keepIn K (.ref f30) = true)
    {f31 : Addr} {od31 an31 : Option Addr} {sl31 : Array (Option Value)} {oc31 kV31 dc31 pm31 cd31 ct31 : Value}
    (a31 : PySem.W.nsIn K mainGlobals "_law_no_steps" = some (some (.ref f31))) (l31 : K.lookup f31 = some ⟨oc31, od31, .func (PySem.W.fnOf "_law_no_steps" "_law_no_steps" (defArgs s_law_no_steps) (defBody s_law_no_steps) (defScope s_law_no_steps) .none kV31 dc31 pm31 an31 cd31 ct31), sl31⟩) (c31 : PySem.W.codeIn K cd31 "_law_no_steps" = true) (k31 : PySem.W.keepIn K (.ref f31) = true)
    {f32 : Addr} {od32 an32 : Option Addr} {sl32 : Array (Option Value)} {oc32 kV32 dc32 pm32 cd32 ct32 : Value}
    (a32 : PySem.W.nsIn K mainGlobals "law" = some (some (.ref f32))) (l32 : K.lookup f32 = some ⟨oc32, od32, .func (PySem.W.fnOf "law" "law" (defArgs s_law) (defBody s_law) (defScope s_law) .none kV32 dc32 pm32 an32 cd32 ct32), sl32⟩) (c32 : PySem.W.codeIn K cd32 "law" = true) (k32 : PySem.W.keepIn K (.ref f32) = true)
    (z_isinstance : PySem.W.nsIn K mainGlobals "isinstance" = some none)
    (z_str : PySem.W.nsIn K mainGlobals "str" = some none)
    (z_len : PySem.W.nsIn K mainGlobals "len" = some none)
    (z_list : PySem.W.nsIn K mainGlobals "list" = some none)
    (z_int : PySem.W.nsIn K mainGlobals "int" = some none)
    (z_max : PySem.W.nsIn K mainGlobals "max" = some none)
    (z_range : PySem.W.nsIn K mainGlobals "range" = some none)
    (z_repr : PySem.W.nsIn K mainGlobals "repr" = some none)
    (z_enumerate : PySem.W.nsIn K mainGlobals "enumerate" = some none)
    (z_sorted : PySem.W.nsIn K mainGlobals "sorted" = some none)
    (z_tuple : PySem.W.nsIn K mainGlobals "tuple" = some none)
    (z_set : PySem.W.nsIn K mainGlobals "set" = some none)
    (z_all : PySem.W.nsIn K mainGlobals "all" = some none)
    : ∃ fd : FuncData, (∀ (s : Shared) (v : Value), BindsTo s fd ⟨[v], []⟩ [("_law_script", v)]) ∧ ∀ base : Heap, K.In base → base.Ns mainGlobals mg → FnDG l.prog w K mg base CX0 206 20 fa fd ["_law_script"] (sp_law K) := by
  have e := hfa.symm.trans (PySem.W.mg_of X G a32)
  cases e
  obtain ⟨e_TurnError, x_TurnError⟩ := cls_mk l_TurnError rfl ga_TurnError gg_TurnError ha_TurnError hn ht
  obtain ⟨e_InvalidTree, x_InvalidTree⟩ := cls_mk l_InvalidTree rfl ga_InvalidTree gg_InvalidTree ha_InvalidTree hn ht
  have o_InvalidTree := own_InvalidTree X G m_InvalidTree (oex_mk l_InvalidTree rfl sa_InvalidTree kC_InvalidTree e_InvalidTree) no_InvalidTree iC_InvalidTree (fty lf_InvalidTree) (fund_mk lf_InvalidTree cf_InvalidTree lT_InvalidTree)
  obtain ⟨e_InvalidScript, x_InvalidScript⟩ := cls_mk l_InvalidScript rfl ga_InvalidScript gg_InvalidScript ha_InvalidScript hn ht
  have o_InvalidScript := own_InvalidScript X G m_InvalidScript (oex_mk l_InvalidScript rfl sa_InvalidScript kC_InvalidScript e_InvalidScript) no_InvalidScript iC_InvalidScript (fty lf_InvalidScript) (fund_mk lf_InvalidScript cf_InvalidScript lT_InvalidScript)
  obtain ⟨e_CannotTurn, x_CannotTurn⟩ := cls_mk l_CannotTurn rfl ga_CannotTurn gg_CannotTurn ha_CannotTurn hn ht
  have o_CannotTurn := own_CannotTurn X G m_CannotTurn (oex_mk l_CannotTurn rfl sa_CannotTurn kC_CannotTurn e_CannotTurn) no_CannotTurn iC_CannotTurn (fty lf_CannotTurn) (fund_mk lf_CannotTurn cf_CannotTurn lT_CannotTurn)
  have F0 := fun_mk (st := s_is_tree) l0 c0 k0
  have b0 := F0.binds (ps := ["value"]) fun _ _ _ _ _ _ us hl => match us, hl with | [_], _ => rfl
  have F1 := fun_mk (st := s_is_address) l1 c1 k1
  have b1 := F1.binds (ps := ["value"]) fun _ _ _ _ _ _ us hl => match us, hl with | [_], _ => rfl
  have F2 := fun_mk (st := s_check_tree) l2 c2 k2
  have b2 := F2.binds (ps := ["value"]) fun _ _ _ _ _ _ us hl => match us, hl with | [_], _ => rfl
  have F3 := fun_mk (st := s_ends) l3 c3 k3
  have b3 := F3.binds (ps := ["tree"]) fun _ _ _ _ _ _ us hl => match us, hl with | [_], _ => rfl
  have F4 := fun_mk (st := s_halves) l4 c4 k4
  have b4 := F4.binds (ps := ["tree"]) fun _ _ _ _ _ _ us hl => match us, hl with | [_], _ => rfl
  have F5 := fun_mk (st := s_stretch) l5 c5 k5
  have b5 := F5.binds (ps := ["tree", "address"]) fun _ _ _ _ _ _ us hl => match us, hl with | [_, _], _ => rfl
  have F6 := fun_mk (st := s_addressed) l6 c6 k6
  have b6 := F6.binds (ps := ["tree"]) fun _ _ _ _ _ _ us hl => match us, hl with | [_], _ => rfl
  have F7 := fun_mk (st := s_is_step) l7 c7 k7
  have b7 := F7.binds (ps := ["value"]) fun _ _ _ _ _ _ us hl => match us, hl with | [_], _ => rfl
  have F8 := fun_mk (st := s_checked_script) l8 c8 k8
  have b8 := F8.binds (ps := ["steps"]) fun _ _ _ _ _ _ us hl => match us, hl with | [_], _ => rfl
  have F9 := fun_mk (st := s_turned_root) l9 c9 k9
  have b9 := F9.binds (ps := ["tree", "word"]) fun _ _ _ _ _ _ us hl => match us, hl with | [_, _], _ => rfl
  have F10 := fun_mk (st := s_after_step) l10 c10 k10
  have b10 := F10.binds (ps := ["tree", "word", "address"]) fun _ _ _ _ _ _ us hl => match us, hl with | [_, _, _], _ => rfl
  have F11 := fun_mk (st := s_turned) l11 c11 k11
  have b11 := F11.binds (ps := ["tree", "steps"]) fun _ _ _ _ _ _ us hl => match us, hl with | [_, _], _ => rfl
  have F12 := fun_mk (st := s_steps_of) l12 c12 k12
  have b12 := F12.binds (ps := ["tree"]) fun _ _ _ _ _ _ us hl => match us, hl with | [_], _ => rfl
  have F13 := fun_mk (st := s_law_cell) l13 c13 k13
  have b13 := F13.binds (ps := ["_law_script", "_law_index"]) fun _ _ _ _ _ _ us hl => match us, hl with | [_, _], _ => rfl
  have F14 := fun_mk (st := s_law_hash) l14 c14 k14
  have b14 := F14.binds (ps := ["_law_seed", "_law_index"]) fun _ _ _ _ _ _ us hl => match us, hl with | [_, _], _ => rfl
  have F15 := fun_mk (st := s_law_generator) l15 c15 k15
  have b15 := F15.binds (ps := ["_law_script", "_law_index"]) fun _ _ _ _ _ _ us hl => match us, hl with | [_, _], _ => rfl
  have F16 := fun_mk (st := s_law_tree) l16 c16 k16
  have b16 := F16.binds (ps := ["_law_generator_here", "_law_many"]) fun _ _ _ _ _ _ us hl => match us, hl with | [_, _], _ => rfl
  have F17 := fun_mk (st := s_law_parsed) l17 c17 k17
  have b17 := F17.binds (ps := ["_law_tree_here"]) fun _ _ _ _ _ _ us hl => match us, hl with | [_], _ => rfl
  have F18 := fun_mk (st := s_law_text) l18 c18 k18
  have b18 := F18.binds (ps := ["_law_parsed_here"]) fun _ _ _ _ _ _ us hl => match us, hl with | [_], _ => rfl
  have F19 := fun_mk (st := s_law_nodes) l19 c19 k19
  have b19 := F19.binds (ps := ["_law_parsed_here", "_law_road"]) fun _ _ _ _ _ _ us hl => match us, hl with | [_, _], _ => rfl
  have F20 := fun_mk (st := s_law_at) l20 c20 k20
  have b20 := F20.binds (ps := ["_law_parsed_here", "_law_road"]) fun _ _ _ _ _ _ us hl => match us, hl with | [_, _], _ => rfl
  have F21 := fun_mk (st := s_law_put) l21 c21 k21
  have b21 := F21.binds (ps := ["_law_parsed_here", "_law_road", "_law_other"]) fun _ _ _ _ _ _ us hl => match us, hl with | [_, _, _], _ => rfl
  have F22 := fun_mk (st := s_law_turn) l22 c22 k22
  have b22 := F22.binds (ps := ["_law_parsed_here", "_law_step"]) fun _ _ _ _ _ _ us hl => match us, hl with | [_, _], _ => rfl
  have F23 := fun_mk (st := s_law_address) l23 c23 k23
  have b23 := F23.binds (ps := ["_law_generator_here", "_law_longest"]) fun _ _ _ _ _ _ us hl => match us, hl with | [_, _], _ => rfl
  have F24 := fun_mk (st := s_law_steps) l24 c24 k24
  have b24 := F24.binds (ps := ["_law_generator_here", "_law_many", "_law_deep"]) fun _ _ _ _ _ _ us hl => match us, hl with | [_, _, _], _ => rfl
  have F25 := fun_mk (st := s_law_random) l25 c25 k25
  have b25 := F25.binds (ps := ["_law_generator_here", "_law_bound"]) fun _ _ _ _ _ _ us hl => match us, hl with | [_, _], _ => rfl
  have F26 := fun_mk (st := s_law_all_steps) l26 c26 k26
  have b26 := F26.binds (ps := ["_law_parsed_here"]) fun _ _ _ _ _ _ us hl => match us, hl with | [_], _ => rfl
  have F27 := fun_mk (st := s_law_drawn) l27 c27 k27
  have b27 := F27.binds (ps := ["_law_generator_here", "_law_tree_here"]) fun _ _ _ _ _ _ us hl => match us, hl with | [_, _], _ => rfl
  have F28 := fun_mk (st := s_law_told) l28 c28 k28
  have b28 := F28.binds (ps := ["_law_tree_here", "_law_some"]) fun _ _ _ _ _ _ us hl => match us, hl with | [_, _], _ => rfl
  have F29 := fun_mk (st := s_law_due) l29 c29 k29
  have b29 := F29.binds (ps := ["_law_tree_here", "_law_some"]) fun _ _ _ _ _ _ us hl => match us, hl with | [_, _], _ => rfl
  have F30 := fun_mk (st := s_law_bad) l30 c30 k30
  have b30 := F30.binds (ps := ["_law_generator_here", "_law_some"]) fun _ _ _ _ _ _ us hl => match us, hl with | [_, _], _ => rfl
  have F31 := fun_mk (st := s_law_no_steps) l31 c31 k31
  have b31 := F31.binds (ps := ["_law_thing"]) fun _ _ _ _ _ _ us hl => match us, hl with | [_], _ => rfl
  have F32 := fun_mk (st := s_law) l32 c32 k32
  have b32 := F32.binds (ps := ["_law_script"]) fun _ _ _ _ _ _ us hl => match us, hl with | [_], _ => rfl
  refine ⟨PySem.W.fnOf "law" "law" (defArgs s_law) (defBody s_law) (defScope s_law) .none kV32 dc32 pm32 an32 cd32 ct32, fun s v => .of_eq rfl, fun base _ _ => ?_⟩
  exact ok_law { c_TurnError := _, g_TurnError := PySem.W.mg_of X G m_TurnError, e_TurnError := e_TurnError, c_InvalidTree := _, g_InvalidTree := PySem.W.mg_of X G m_InvalidTree, e_InvalidTree := e_InvalidTree, o_InvalidTree := o_InvalidTree, x_InvalidTree := x_InvalidTree, n_InvalidTree := no_InvalidTree, c_InvalidScript := _, g_InvalidScript := PySem.W.mg_of X G m_InvalidScript, e_InvalidScript := e_InvalidScript, o_InvalidScript := o_InvalidScript, x_InvalidScript := x_InvalidScript, n_InvalidScript := no_InvalidScript, c_CannotTurn := _, g_CannotTurn := PySem.W.mg_of X G m_CannotTurn, e_CannotTurn := e_CannotTurn, o_CannotTurn := o_CannotTurn, x_CannotTurn := x_CannotTurn, n_CannotTurn := no_CannotTurn, nd := nd, d_OTHER_WORD := D_OTHER_WORD, m_OTHER_WORD := PySem.W.mg_of X G m_OTHER_WORD, k_OTHER_WORD := TD.kd_mk2 l_OTHER_WORD e1_OTHER_WORD e2_OTHER_WORD lo_OTHER_WORD, a_is_tree := _, fd_is_tree := _, F_is_tree := F0, b_is_tree := b0, m_is_tree := PySem.W.mg_of X G a0, a_is_address := _, fd_is_address := _, F_is_address := F1, b_is_address := b1, m_is_address := PySem.W.mg_of X G a1, a_check_tree := _, fd_check_tree := _, F_check_tree := F2, b_check_tree := b2, m_check_tree := PySem.W.mg_of X G a2, a_ends := _, fd_ends := _, F_ends := F3, b_ends := b3, m_ends := PySem.W.mg_of X G a3, a_halves := _, fd_halves := _, F_halves := F4, b_halves := b4, m_halves := PySem.W.mg_of X G a4, a_stretch := _, fd_stretch := _, F_stretch := F5, b_stretch := b5, m_stretch := PySem.W.mg_of X G a5, a_addressed := _, fd_addressed := _, F_addressed := F6, b_addressed := b6, m_addressed := PySem.W.mg_of X G a6, a_is_step := _, fd_is_step := _, F_is_step := F7, b_is_step := b7, m_is_step := PySem.W.mg_of X G a7, a_checked_script := _, fd_checked_script := _, F_checked_script := F8, b_checked_script := b8, m_checked_script := PySem.W.mg_of X G a8, a_turned_root := _, fd_turned_root := _, F_turned_root := F9, b_turned_root := b9, m_turned_root := PySem.W.mg_of X G a9, a_after_step := _, fd_after_step := _, F_after_step := F10, b_after_step := b10, m_after_step := PySem.W.mg_of X G a10, a_turned := _, fd_turned := _, F_turned := F11, b_turned := b11, m_turned := PySem.W.mg_of X G a11, a_steps_of := _, fd_steps_of := _, F_steps_of := F12, b_steps_of := b12, m_steps_of := PySem.W.mg_of X G a12, a_law_cell := _, fd_law_cell := _, F_law_cell := F13, b_law_cell := b13, m_law_cell := PySem.W.mg_of X G a13, a_law_hash := _, fd_law_hash := _, F_law_hash := F14, b_law_hash := b14, m_law_hash := PySem.W.mg_of X G a14, a_law_generator := _, fd_law_generator := _, F_law_generator := F15, b_law_generator := b15, m_law_generator := PySem.W.mg_of X G a15, a_law_tree := _, fd_law_tree := _, F_law_tree := F16, b_law_tree := b16, m_law_tree := PySem.W.mg_of X G a16, a_law_parsed := _, fd_law_parsed := _, F_law_parsed := F17, b_law_parsed := b17, m_law_parsed := PySem.W.mg_of X G a17, a_law_text := _, fd_law_text := _, F_law_text := F18, b_law_text := b18, m_law_text := PySem.W.mg_of X G a18, a_law_nodes := _, fd_law_nodes := _, F_law_nodes := F19, b_law_nodes := b19, m_law_nodes := PySem.W.mg_of X G a19, a_law_at := _, fd_law_at := _, F_law_at := F20, b_law_at := b20, m_law_at := PySem.W.mg_of X G a20, a_law_put := _, fd_law_put := _, F_law_put := F21, b_law_put := b21, m_law_put := PySem.W.mg_of X G a21, a_law_turn := _, fd_law_turn := _, F_law_turn := F22, b_law_turn := b22, m_law_turn := PySem.W.mg_of X G a22, a_law_address := _, fd_law_address := _, F_law_address := F23, b_law_address := b23, m_law_address := PySem.W.mg_of X G a23, a_law_steps := _, fd_law_steps := _, F_law_steps := F24, b_law_steps := b24, m_law_steps := PySem.W.mg_of X G a24, a_law_random := _, fd_law_random := _, F_law_random := F25, b_law_random := b25, m_law_random := PySem.W.mg_of X G a25, a_law_all_steps := _, fd_law_all_steps := _, F_law_all_steps := F26, b_law_all_steps := b26, m_law_all_steps := PySem.W.mg_of X G a26, a_law_drawn := _, fd_law_drawn := _, F_law_drawn := F27, b_law_drawn := b27, m_law_drawn := PySem.W.mg_of X G a27, a_law_told := _, fd_law_told := _, F_law_told := F28, b_law_told := b28, m_law_told := PySem.W.mg_of X G a28, a_law_due := _, fd_law_due := _, F_law_due := F29, b_law_due := b29, m_law_due := PySem.W.mg_of X G a29, a_law_bad := _, fd_law_bad := _, F_law_bad := F30, b_law_bad := b30, m_law_bad := PySem.W.mg_of X G a30, a_law_no_steps := _, fd_law_no_steps := _, F_law_no_steps := F31, b_law_no_steps := b31, m_law_no_steps := PySem.W.mg_of X G a31, a_law := _, fd_law := _, F_law := F32, b_law := b32, m_law := PySem.W.mg_of X G a32, z_isinstance := PySem.W.mg_none_of X G z_isinstance, z_str := PySem.W.mg_none_of X G z_str, z_len := PySem.W.mg_none_of X G z_len, z_list := PySem.W.mg_none_of X G z_list, z_int := PySem.W.mg_none_of X G z_int, z_max := PySem.W.mg_none_of X G z_max, z_range := PySem.W.mg_none_of X G z_range, z_repr := PySem.W.mg_none_of X G z_repr, z_enumerate := PySem.W.mg_none_of X G z_enumerate, z_sorted := PySem.W.mg_none_of X G z_sorted, z_tuple := PySem.W.mg_none_of X G z_tuple, z_set := PySem.W.mg_none_of X G z_set, z_all := PySem.W.mg_none_of X G z_all }
theorem walk {l : PySem.W.OpenLaw} {q : Program} {loose : List Str} {XP : (Str → Option Value) → Heap → Prop} {YP : World → Heap → Prop} {d : DefRec} {K : Params → PySem.W.Frag} (hn : l.most = some 63) (hdf : d.params.defaults = [])
    (hY : ∀ (w : World) (h : Heap), YP w h → (K w.params).In h)
    (F : ∀ (w : World) (mg : Str → Option Value) (fa : Addr) (h : Heap), (K w.params).In h → h.Ns mainGlobals mg → mg d.name = some (.ref fa) →
      ∃ fd : FuncData, (∀ (s : Shared) (u : Value), BindsTo s fd ⟨[u], []⟩ [("_law_script", u)]) ∧ ∀ base : Heap, (K w.params).In base → base.Ns mainGlobals mg → FnDG l.prog w (K w.params) mg base CX0 206 20 fa fd ["_law_script"] (sp_law (K w.params))) :
    PySem.W.WalkO q loose XP YP l.row.toRowW d [] (fun f vs => PySem.call f vs) :=
  walkGD (n := 63) (m := 206) (k := 20) (x := "_law_script") (sp := fun w => sp_law (K w.params)) hn (by decide) hdf ⟨rfl, by decide, by decide⟩ hY F (fun _ _ a ns hl _ hS => ⟨a, ns, rfl, hS, hl, fun _ => rfl⟩)
end Toy

open PySem PySem.W PyProof.Rows in
set_option maxRecDepth 100000 in
set_option maxHeartbeats 0 in
theorem PySem.Challenge.cw_treeturns_k10_scripts_step_by_step_holds : PySem.Challenge.rw_treeturns_k10_scripts_step_by_step.Holds := by
  w_on; o_law; k_head; (case hw => w_witness2)
  k_fill
  refine Toy.walk (l := PySem.Challenge.rw_treeturns_k10_scripts_step_by_step) rfl rfl (fun w h Y => PySem.W.kIn_of Y) ?F
  case F =>
    intro w mg fa h KX G hmg
    refine' Toy.all_mk KX G hmg ?hn ?ht ?m_TurnError ?l_TurnError ?ga_TurnError ?gg_TurnError ?ha_TurnError ?m_InvalidTree ?l_InvalidTree ?ga_InvalidTree ?gg_InvalidTree ?ha_InvalidTree ?sa_InvalidTree ?kC_InvalidTree ?no_InvalidTree ?iC_InvalidTree ?lf_InvalidTree ?cf_InvalidTree ?lT_InvalidTree ?m_InvalidScript ?l_InvalidScript ?ga_InvalidScript ?gg_InvalidScript ?ha_InvalidScript ?sa_InvalidScript ?kC_InvalidScript ?no_InvalidScript ?iC_InvalidScript ?lf_InvalidScript ?cf_InvalidScript ?lT_InvalidScript ?m_CannotTurn ?l_CannotTurn ?ga_CannotTurn ?gg_CannotTurn ?ha_CannotTurn ?sa_CannotTurn ?kC_CannotTurn ?no_CannotTurn ?iC_CannotTurn ?lf_CannotTurn ?cf_CannotTurn ?lT_CannotTurn ?nd ?m_OTHER_WORD ?l_OTHER_WORD ?e1_OTHER_WORD ?e2_OTHER_WORD ?lo_OTHER_WORD ?a0 ?l0 ?c0 ?k0 ?a1 ?l1 ?c1 ?k1 ?a2 ?l2 ?c2 ?k2 ?a3 ?l3 ?c3 ?k3 ?a4 ?l4 ?c4 ?k4 ?a5 ?l5 ?c5 ?k5 ?a6 ?l6 ?c6 ?k6 ?a7 ?l7 ?c7 ?k7 ?a8 ?l8 ?c8 ?k8 ?a9 ?l9 ?c9 ?k9 ?a10 ?l10 ?c10 ?k10 ?a11 ?l11 ?c11 ?k11 ?a12 ?l12 ?c12 ?k12 ?a13 ?l13 ?c13 ?k13 ?a14 ?l14 ?c14 ?k14 ?a15 ?l15 ?c15 ?k15 ?a16 ?l16 ?c16 ?k16 ?a17 ?l17 ?c17 ?k17 ?a18 ?l18 ?c18 ?k18 ?a19 ?l19 ?c19 ?k19 ?a20 ?l20 ?c20 ?k20 ?a21 ?l21 ?c21 ?k21 ?a22 ?l22 ?c22 ?k22 ?a23 ?l23 ?c23 ?k23 ?a24 ?l24 ?c24 ?k24 ?a25 ?l25 ?c25 ?k25 ?a26 ?l26 ?c26 ?k26 ?a27 ?l27 ?c27 ?k27 ?a28 ?l28 ?c28 ?k28 ?a29 ?l29 ?c29 ?k29 ?a30 ?l30 ?c30 ?k30 ?a31 ?l31 ?c31 ?k31 ?a32 ?l32 ?c32 ?k32 ?z_isinstance ?z_str ?z_len ?z_list ?z_int ?z_max ?z_range ?z_repr ?z_enumerate ?z_sorted ?z_tuple ?z_set ?z_all
    (case hn => k_is)
    (case ht => k_is)
    (case m_TurnError => k_is)
    (case l_TurnError => k_is)
    (case ga_TurnError => k_is)
    (case gg_TurnError => k_is)
    (case ha_TurnError => k_is)
    (case m_InvalidTree => k_is)
    (case l_InvalidTree => k_is)
    (case ga_InvalidTree => k_is)
    (case gg_InvalidTree => k_is)
    (case ha_InvalidTree => k_is)
    (case sa_InvalidTree => k_is)
    (case kC_InvalidTree => k_is)
    (case no_InvalidTree => k_is)
    (case iC_InvalidTree => k_is)
    (case lf_InvalidTree => k_is)
    (case cf_InvalidTree => k_is)
    (case lT_InvalidTree => k_is)
    (case m_InvalidScript => k_is)
    (case l_InvalidScript => k_is)
    (case ga_InvalidScript => k_is)
    (case gg_InvalidScript => k_is)
    (case ha_InvalidScript => k_is)
    (case sa_InvalidScript => k_is)
    (case kC_InvalidScript => k_is)
    (case no_InvalidScript => k_is)
    (case iC_InvalidScript => k_is)
    (case lf_InvalidScript => k_is)
    (case cf_InvalidScript => k_is)
    (case lT_InvalidScript => k_is)
    (case m_CannotTurn => k_is)
    (case l_CannotTurn => k_is)
    (case ga_CannotTurn => k_is)
    (case gg_CannotTurn => k_is)
    (case ha_CannotTurn => k_is)
    (case sa_CannotTurn => k_is)
    (case kC_CannotTurn => k_is)
    (case no_CannotTurn => k_is)
    (case iC_CannotTurn => k_is)
    (case lf_CannotTurn => k_is)
    (case cf_CannotTurn => k_is)
    (case lT_CannotTurn => k_is)
    (case nd => decide)
    (case m_OTHER_WORD => k_is)
    (case l_OTHER_WORD => k_is)
    (case e1_OTHER_WORD => rfl)
    (case e2_OTHER_WORD => rfl)
    (case lo_OTHER_WORD => rfl)
    (case a0 => k_is)
    (case l0 => k_is)
    (case c0 => k_is)
    (case k0 => k_is)
    (case a1 => k_is)
    (case l1 => k_is)
    (case c1 => k_is)
    (case k1 => k_is)
    (case a2 => k_is)
    (case l2 => k_is)
    (case c2 => k_is)
    (case k2 => k_is)
    (case a3 => k_is)
    (case l3 => k_is)
    (case c3 => k_is)
    (case k3 => k_is)
    (case a4 => k_is)
    (case l4 => k_is)
    (case c4 => k_is)
    (case k4 => k_is)
    (case a5 => k_is)
    (case l5 => k_is)
    (case c5 => k_is)
    (case k5 => k_is)
    (case a6 => k_is)
    (case l6 => k_is)
    (case c6 => k_is)
    (case k6 => k_is)
    (case a7 => k_is)
    (case l7 => k_is)
    (case c7 => k_is)
    (case k7 => k_is)
    (case a8 => k_is)
    (case l8 => k_is)
    (case c8 => k_is)
    (case k8 => k_is)
    (case a9 => k_is)
    (case l9 => k_is)
    (case c9 => k_is)
    (case k9 => k_is)
    (case a10 => k_is)
    (case l10 => k_is)
    (case c10 => k_is)
    (case k10 => k_is)
    (case a11 => k_is)
    (case l11 => k_is)
    (case c11 => k_is)
    (case k11 => k_is)
    (case a12 => k_is)
    (case l12 => k_is)
    (case c12 => k_is)
    (case k12 => k_is)
    (case a13 => k_is)
    (case l13 => k_is)
    (case c13 => k_is)
    (case k13 => k_is)
    (case a14 => k_is)
    (case l14 => k_is)
    (case c14 => k_is)
    (case k14 => k_is)
    (case a15 => k_is)
    (case l15 => k_is)
    (case c15 => k_is)
    (case k15 => k_is)
    (case a16 => k_is)
    (case l16 => k_is)
    (case c16 => k_is)
    (case k16 => k_is)
    (case a17 => k_is)
    (case l17 => k_is)
    (case c17 => k_is)
    (case k17 => k_is)
    (case a18 => k_is)
    (case l18 => k_is)
    (case c18 => k_is)
    (case k18 => k_is)
    (case a19 => k_is)
    (case l19 => k_is)
    (case c19 => k_is)
    (case k19 => k_is)
    (case a20 => k_is)
    (case l20 => k_is)
    (case c20 => k_is)
    (case k20 => k_is)
    (case a21 => k_is)
    (case l21 => k_is)
    (case c21 => k_is)
    (case k21 => k_is)
    (case a22 => k_is)
    (case l22 => k_is)
    (case c22 => k_is)
    (case k22 => k_is)
    (case a23 => k_is)
    (case l23 => k_is)
    (case c23 => k_is)
    (case k23 => k_is)
    (case a24 => k_is)
    (case l24 => k_is)
    (case c24 => k_is)
    (case k24 => k_is)
    (case a25 => k_is)
    (case l25 => k_is)
    (case c25 => k_is)
    (case k25 => k_is)
    (case a26 => k_is)
    (case l26 => k_is)
    (case c26 => k_is)
    (case k26 => k_is)
    (case a27 => k_is)
    (case l27 => k_is)
    (case c27 => k_is)
    (case k27 => k_is)
    (case a28 => k_is)
    (case l28 => k_is)
    (case c28 => k_is)
    (case k28 => k_is)
    (case a29 => k_is)
    (case l29 => k_is)
    (case c29 => k_is)
    (case k29 => k_is)
    (case a30 => k_is)
    (case l30 => k_is)
    (case c30 => k_is)
    (case k30 => k_is)
    (case a31 => k_is)
    (case l31 => k_is)
    (case c31 => k_is)
    (case k31 => k_is)
    (case a32 => k_is)
    (case l32 => k_is)
    (case c32 => k_is)
    (case k32 => k_is)
    (case z_isinstance => k_is)
    (case z_str => k_is)
    (case z_len => k_is)
    (case z_list => k_is)
    (case z_int => k_is)
    (case z_max => k_is)
    (case z_range => k_is)
    (case z_repr => k_is)
    (case z_enumerate => k_is)
    (case z_sorted => k_is)
    (case z_tuple => k_is)
    (case z_set => k_is)
    (case z_all => k_is)

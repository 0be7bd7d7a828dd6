import PyProof.Rows.All
import Wide.All
import OpenK.AllK
import Wide.FinOn
import HandS.ForMost
import HandS.Flow
import HandS.Wide
import HandS.WideBits
import HandS.NoneIn
import HandS.IsInst
import PyProof.Rows.RegReprOcc
import KE.KExcIs
import HandS.Base
import HandS.Call
import HandS.List
import HandS.Ends
import HandS.Exc
import HandS.ExcInit
import HandS.ExcField
import HandS.ExcIs
import HandS.Defaults
import HandS.MakeKwOnly
import PyProof.ReprRoads
import PyProof.ReprReads
import PyProof.StrLawsRepr
import PyProof.ReprBulk
import HandS.ExcValue
import HandS.Words
import HandS.Codes
import HandS.Dict
import HandS.WordsExc
import HandS.Replace
import HandS.ReplaceLit
import HandS.Iter
import HandS.Steps
import HandS.StrMore
import HandS.Text
import PyProof.EqLayable
import PyProof.Rows.StrStrike
import HandS.Style
import PyProof.Rows.StrRev
import PyProof.StrOps2
import KE.KRevSl
import HandS.DeepEq
import PyProof.NeData
import PyProof.Rows.SortShellAny
import HandS.More
import HandS.TupAny
import HandS.RaiseMore
import KE.KDictLaws
import PyProof.Rows.SetObj
import PyProof.Rows.SetFrom
import HandS.Set
import HandS.SetKeys
import PyProof.InstEq
import KE.KOpsOwn
import KE.KCallOwn
import HandS.Slots
import HandS.SlotsOwn
import HandS.ClsMeth
import HandS.Property
import HandS.Star
import HandS.FStr
import PyProof.EqKinds
import KE.KDictZip
import KE.KDictItemsList
import HandS.Zip
import HandS.RevRange
import HandS.Conv
import PySem.Challenge.RW_treeturns_k23_moves_done_often
set_option Elab.async false
set_option linter.all false
set_option maxRecDepth 100000
set_option maxHeartbeats 4000000
set_option linter.all false
/-! Trees, plainly: growing, hanging, meet and join. -/
namespace TT
inductive Tr where
  | leaf
  | node (l r : Tr)
  deriving DecidableEq
namespace Tr
def size : Tr → Nat
  | leaf => 0
  | node l r => l.size + r.size + 1
/-- the text's length -/
def len : Tr → Nat
  | leaf => 1
  | node l r => l.len + r.len + 2
/-- the text -/
def cs : Tr → List Nat
  | leaf => [46]
  | node l r => 40 :: (l.cs ++ (r.cs ++ [41]))
theorem cs_length : ∀ t : Tr, t.cs.length = t.len
  | leaf => rfl
  | node l r => by simp [cs, len, cs_length l, cs_length r]; omega
theorem len_size : ∀ t : Tr, t.len = 3 * t.size + 1
  | leaf => rfl
  | node l r => by simp [size, len, len_size l, len_size r]; omega
theorem len_pos (t : Tr) : 0 < t.len := by rw [len_size]; omega
theorem cs_inj' : ∀ (s t : Tr) (a b : List Nat), s.cs ++ a = t.cs ++ b → s = t ∧ a = b
  | leaf, leaf, a, b, h => by simp [cs] at h; exact ⟨rfl, h⟩
  | leaf, node l r, a, b, h => by simp [cs] at h
  | node l r, leaf, a, b, h => by simp [cs] at h
  | node l r, node l' r', a, b, h => by
    simp only [cs, List.cons_append, List.append_assoc, List.cons.injEq, true_and] at h
    obtain ⟨e1, h1⟩ := cs_inj' l l' _ _ h
    obtain ⟨e2, h2⟩ := cs_inj' r r' _ _ h1
    simp at h2
    exact ⟨by rw [e1, e2], h2⟩
theorem cs_inj {s t : Tr} (h : s.cs = t.cs) : s = t := (cs_inj' s t [] [] (by rw [h])).1

/-- number of leaves -/
def lvs : Tr → Nat
  | leaf => 1
  | node l r => l.lvs + r.lvs
theorem lvs_size : ∀ t : Tr, t.lvs = t.size + 1
  | leaf => rfl
  | node l r => by simp [lvs, size, lvs_size l, lvs_size r]; omega

/-- grow the tree by the list, and what is left of it -/
def growR : Tr → List Tr → Tr × List Tr
  | leaf, [] => (leaf, [])
  | leaf, x :: xs => (x, xs)
  | node l r, xs => ((node (l.growR xs).1 (r.growR (l.growR xs).2).1), (r.growR (l.growR xs).2).2)
def grow (t : Tr) (xs : List Tr) : Tr := (t.growR xs).1
/-- the list with which the second tree grows into the first -/
def hang : Tr → Tr → Option (List Tr)
  | s, leaf => some [s]
  | leaf, node _ _ => none
  | node a b, node c d => (hang a c).bind fun x => (hang b d).map fun y => x ++ y
def meet : Tr → Tr → Tr
  | node a b, node c d => node (meet a c) (meet b d)
  | _, _ => leaf
def join : Tr → Tr → Tr
  | leaf, t => t
  | s, leaf => s
  | node a b, node c d => node (join a c) (join b d)

theorem growR_len : ∀ (t : Tr) (xs : List Tr), t.lvs ≤ xs.length → (t.growR xs).2.length + t.lvs = xs.length
  | leaf, [], h => by simp [lvs] at h
  | leaf, x :: xs, h => by simp [growR, lvs]
  | node l r, xs, h => by
    simp only [lvs] at h
    have h1 := growR_len l xs (by omega)
    have h2 := growR_len r (l.growR xs).2 (by omega)
    simp only [growR, lvs]
    omega
theorem hang_len : ∀ (s c : Tr) (xs : List Tr), hang s c = some xs → xs.length = c.lvs
  | s, leaf, xs, h => by simp [hang] at h; subst h; rfl
  | leaf, node _ _, xs, h => by simp [hang] at h
  | node a b, node c d, xs, h => by
    simp only [hang, Option.bind_eq_some_iff, Option.map_eq_some_iff] at h
    obtain ⟨x, hx, y, hy, rfl⟩ := h
    simp [lvs, hang_len a c x hx, hang_len b d y hy]
theorem growR_hang : ∀ (s c : Tr) (xs rest : List Tr), hang s c = some xs → c.growR (xs ++ rest) = (s, rest)
  | s, leaf, xs, rest, h => by simp [hang] at h; subst h; rfl
  | leaf, node _ _, xs, rest, h => by simp [hang] at h
  | node a b, node c d, xs, rest, h => by
    simp only [hang, Option.bind_eq_some_iff, Option.map_eq_some_iff] at h
    obtain ⟨x, hx, y, hy, rfl⟩ := h
    simp only [growR, List.append_assoc, growR_hang a c x _ hx, growR_hang b d y _ hy]
theorem grow_hang {s c : Tr} {xs : List Tr} (h : hang s c = some xs) : c.grow xs = s := by
  have := growR_hang s c xs [] h
  rw [List.append_nil] at this
  unfold grow; rw [this]
/-- hanging what was grown -/
theorem hang_growR : ∀ (c : Tr) (xs : List Tr), c.lvs ≤ xs.length → hang (c.growR xs).1 c = some (xs.take c.lvs) ∧ (c.growR xs).2 = xs.drop c.lvs
  | leaf, [], h => by simp [lvs] at h
  | leaf, x :: xs, h => by simp [growR, hang, lvs]
  | node l r, xs, h => by
    simp only [lvs] at h
    obtain ⟨h1, e1⟩ := hang_growR l xs (by omega)
    have hl : r.lvs ≤ (l.growR xs).2.length := by rw [e1, List.length_drop]; omega
    obtain ⟨h2, e2⟩ := hang_growR r (l.growR xs).2 hl
    refine ⟨?_, ?_⟩
    · simp only [growR, hang, h1, h2, Option.bind_some, Option.map_some, lvs]
      rw [e1, List.take_add]
    · show (r.growR (l.growR xs).2).2 = _
      rw [e2, e1, List.drop_drop]; rfl
theorem hang_grow {c : Tr} {xs : List Tr} (h : xs.length = c.lvs) : hang (c.grow xs) c = some xs := by
  have := (hang_growR c xs (by omega)).1
  unfold grow; rw [this, ← h, List.take_length]

theorem meet_comm : ∀ s t : Tr, meet s t = meet t s
  | leaf, leaf => rfl
  | leaf, node _ _ => rfl
  | node _ _, leaf => rfl
  | node a b, node c d => by simp only [meet, meet_comm a c, meet_comm b d]
theorem join_comm : ∀ s t : Tr, join s t = join t s
  | leaf, leaf => rfl
  | leaf, node _ _ => rfl
  | node _ _, leaf => rfl
  | node a b, node c d => by simp only [join, join_comm a c, join_comm b d]
theorem meet_leaf (t : Tr) : meet t leaf = leaf := by cases t <;> rfl
theorem leaf_meet (t : Tr) : meet leaf t = leaf := rfl
theorem join_leaf (t : Tr) : join t leaf = t := by cases t <;> rfl
theorem leaf_join (t : Tr) : join leaf t = t := rfl
theorem meet_self : ∀ t : Tr, meet t t = t
  | leaf => rfl
  | node a b => by simp only [meet, meet_self a, meet_self b]
theorem join_self : ∀ t : Tr, join t t = t
  | leaf => rfl
  | node a b => by simp only [join, join_self a, join_self b]
theorem meet_assoc : ∀ a b c : Tr, meet (meet a b) c = meet a (meet b c)
  | leaf, _, _ => rfl
  | node _ _, leaf, c => by simp [meet]
  | node _ _, node _ _, leaf => by simp [meet]
  | node a b, node c d, node e f => by simp only [meet, meet_assoc a c e, meet_assoc b d f]
theorem join_assoc : ∀ a b c : Tr, join (join a b) c = join a (join b c)
  | leaf, _, _ => rfl
  | node _ _, leaf, c => by rw [join_leaf, leaf_join]
  | node a b, node c d, leaf => by rw [join_leaf, join_leaf]
  | node a b, node c d, node e f => by simp only [join, join_assoc a c e, join_assoc b d f]
theorem join_meet_self : ∀ a b : Tr, join a (meet a b) = a
  | leaf, _ => rfl
  | node _ _, leaf => rfl
  | node a b, node c d => by simp only [meet, join, join_meet_self a c, join_meet_self b d]
theorem meet_join_self : ∀ a b : Tr, meet a (join a b) = a
  | leaf, _ => rfl
  | node a b, leaf => by rw [join_leaf, meet_self]
  | node a b, node c d => by simp only [meet, join, meet_join_self a c, meet_join_self b d]
theorem join_meet_distrib : ∀ a b c : Tr, join a (meet b c) = meet (join a b) (join a c)
  | leaf, b, c => rfl
  | node a b, leaf, c => by rw [leaf_meet, join_leaf, meet_join_self]
  | node a b, node c d, leaf => by rw [meet_leaf, join_leaf, meet_comm, meet_join_self]
  | node a b, node c d, node e f => by simp only [meet, join, join_meet_distrib a c e, join_meet_distrib b d f]
theorem size_join_meet : ∀ a b : Tr, (join a b).size + (meet a b).size = a.size + b.size
  | leaf, leaf => rfl
  | leaf, node _ _ => by simp [join, meet, size]
  | node _ _, leaf => by simp [join, meet, size]
  | node a b, node c d => by
    have := size_join_meet a c
    have := size_join_meet b d
    simp only [join, meet, size]; omega
theorem size_join_le (a b : Tr) : (join a b).size ≤ a.size + b.size := by have := size_join_meet a b; omega
theorem size_meet_le : ∀ (a b : Tr), (meet a b).size ≤ a.size
  | leaf, _ => Nat.le_refl _
  | node _ _, leaf => Nat.zero_le _
  | node a b, node c d => by
    have := size_meet_le a c
    have := size_meet_le b d
    simp only [meet, size]; omega
/-- the second tree grows into the first exactly if the join is the first, if the meet is the second -/
theorem hang_iff_join : ∀ s c : Tr, (hang s c).isSome = true ↔ join s c = s
  | s, leaf => by simp [hang, join_leaf]
  | leaf, node _ _ => by simp [hang, join]
  | node a b, node c d => by
    have h1 := hang_iff_join a c
    have h2 := hang_iff_join b d
    simp only [hang, join, node.injEq, ← h1, ← h2]
    cases hang a c <;> cases hang b d <;> simp
theorem hang_iff_meet : ∀ s c : Tr, (hang s c).isSome = true ↔ meet s c = c
  | s, leaf => by simp [hang, meet_leaf]
  | leaf, node _ _ => by simp [hang, meet]
  | node a b, node c d => by
    have h1 := hang_iff_meet a c
    have h2 := hang_iff_meet b d
    simp only [hang, meet, node.injEq, ← h1, ← h2]
    cases hang a c <;> cases hang b d <;> simp
theorem hang_meet (a b : Tr) : ∃ xs, hang a (meet a b) = some xs :=
  Option.isSome_iff_exists.mp ((hang_iff_meet _ _).mpr (by rw [← meet_assoc, meet_self]))
theorem hang_meet' (a b : Tr) : ∃ xs, hang b (meet a b) = some xs := by rw [meet_comm]; exact hang_meet b a
theorem hang_join (a b : Tr) : ∃ xs, hang (join a b) a = some xs :=
  Option.isSome_iff_exists.mp ((hang_iff_meet _ _).mpr (by rw [meet_comm, meet_join_self]))
/-- what the program makes of the two lists -/
def pick (x y : Tr) : Tr := if x = leaf then y else x
theorem growR_pick : ∀ (a b : Tr) (xs ys rs : List Tr), hang a (meet a b) = some xs → hang b (meet a b) = some ys →
    (meet a b).growR (List.zipWith pick xs ys ++ rs) = (join a b, rs)
  | leaf, b, xs, ys, rs, h1, h2 => by
    simp [meet, hang] at h1 h2; subst h1; subst h2
    simp [meet, growR, join, pick]
  | node a b, leaf, xs, ys, rs, h1, h2 => by
    simp [meet, hang] at h1 h2; subst h1; subst h2
    simp [meet, growR, join, pick]
  | node a b, node c d, xs, ys, rs, h1, h2 => by
    simp only [meet, hang, Option.bind_eq_some_iff, Option.map_eq_some_iff] at h1 h2
    obtain ⟨x1, hx1, x2, hx2, rfl⟩ := h1
    obtain ⟨y1, hy1, y2, hy2, rfl⟩ := h2
    have e : x1.length = y1.length := by rw [hang_len _ _ _ hx1, hang_len _ _ _ hy1]
    rw [List.zipWith_append e]
    simp only [meet, growR, join, List.append_assoc, growR_pick a c x1 y1 _ hx1 hy1, growR_pick b d x2 y2 _ hx2 hy2]
theorem grow_pick {a b : Tr} {xs ys : List Tr} (h1 : hang a (meet a b) = some xs) (h2 : hang b (meet a b) = some ys) : (meet a b).grow (List.zipWith pick xs ys) = join a b := by
  have := growR_pick a b xs ys [] h1 h2
  rw [List.append_nil] at this
  unfold grow; rw [this]

/-! ### a part at an offset of the text -/
inductive Sub (T : Tr) : Nat → Tr → Prop where
  | root : Sub T 0 T
  | left {o : Nat} {l r : Tr} : Sub T o (node l r) → Sub T (o + 1) l
  | right {o : Nat} {l r : Tr} : Sub T o (node l r) → Sub T (o + 1 + l.len) r
theorem Sub.cut {T s : Tr} {o : Nat} (h : Sub T o s) : ∃ A B, T.cs = A ++ (s.cs ++ B) ∧ A.length = o := by
  induction h with
  | root => exact ⟨[], [], by simp, rfl⟩
  | @left o l r _ ih =>
    obtain ⟨A, B, e, h⟩ := ih
    exact ⟨A ++ [40], r.cs ++ [41] ++ B, by rw [e]; simp [cs], by simp [h]⟩
  | @right o l r _ ih =>
    obtain ⟨A, B, e, h⟩ := ih
    exact ⟨A ++ [40] ++ l.cs, [41] ++ B, by rw [e]; simp [cs], by simp [h, cs_length]; omega⟩
/-- where each part ends, by its first sign's index (0 at closing signs) -/
def ends : Nat → Tr → List Nat
  | o, leaf => [o + 1]
  | o, node l r => (o + (node l r).len) :: (ends (o + 1) l ++ (ends (o + 1 + l.len) r ++ [0]))
theorem ends_length : ∀ (o : Nat) (t : Tr), (ends o t).length = t.len
  | o, leaf => rfl
  | o, node l r => by simp [ends, len, ends_length _ l, ends_length _ r]; omega
theorem Sub.ends_at {T s : Tr} {o : Nat} (h : Sub T o s) : ∃ A B, ends 0 T = A ++ (ends o s ++ B) ∧ A.length = o := by
  induction h with
  | root => exact ⟨[], [], by simp, rfl⟩
  | @left o l r _ ih =>
    obtain ⟨A, B, e, h⟩ := ih
    exact ⟨A ++ [o + (node l r).len], ends (o + 1 + l.len) r ++ [0] ++ B, by rw [e]; simp [ends], by simp [h]⟩
  | @right o l r _ ih =>
    obtain ⟨A, B, e, h⟩ := ih
    exact ⟨A ++ [o + (node l r).len] ++ ends (o + 1) l, [0] ++ B, by rw [e]; simp [ends], by simp [h, ends_length]; omega⟩
theorem ends_head (o : Nat) (s : Tr) : ∃ B, ends o s = (o + s.len) :: B := by
  cases s with
  | leaf => exact ⟨[], rfl⟩
  | node l r => exact ⟨_, rfl⟩
theorem Sub.end_get {T s : Tr} {o : Nat} (h : Sub T o s) : (ends 0 T)[o]? = some (o + s.len) := by
  obtain ⟨A, B, e, hl⟩ := h.ends_at
  obtain ⟨C, e2⟩ := ends_head o s
  rw [e, e2, ← hl, List.getElem?_append_right (Nat.le_refl _), Nat.sub_self]
  simp
theorem Sub.le {T s : Tr} {o : Nat} (h : Sub T o s) : o + s.len ≤ T.len := by
  obtain ⟨A, B, e, hl⟩ := h.cut
  have := congrArg List.length e
  simp [cs_length, hl] at this
  omega
theorem Sub.size_le {T s : Tr} {o : Nat} (h : Sub T o s) : s.size ≤ T.size := by
  have h1 := h.le
  rw [len_size, len_size] at h1
  omega
end Tr
end TT

set_option linter.all false
/-! TW: addresses of leaves and nodes, nodes off the right arm. -/
namespace TT
/-- how many signs c stand at the end -/
def trail (c : Nat) (a : List Nat) : Nat := (a.reverse.takeWhile (· == c)).length
def topOf (c : Nat) (a : List Nat) : List Nat := a.take (a.length - trail c a)
theorem trail_same (c : Nat) (a : List Nat) : trail c (a ++ [c]) = trail c a + 1 := by
  unfold trail
  rw [List.reverse_append]
  simp
theorem trail_other {c d : Nat} (h : d ≠ c) (a : List Nat) : trail c (a ++ [d]) = 0 := by
  unfold trail
  rw [List.reverse_append]
  simp [h]
theorem trail_le (c : Nat) (a : List Nat) : trail c a ≤ a.length := by
  unfold trail
  have := (List.takeWhile_sublist (p := (· == c)) (l := a.reverse)).length_le
  simpa using this
theorem topOf_same (c : Nat) (a : List Nat) : topOf c (a ++ [c]) = topOf c a := by
  unfold topOf
  have := trail_le c a
  rw [trail_same, List.length_append, List.length_singleton, Nat.add_sub_add_right, List.take_append_of_le_length (by omega)]
theorem topOf_other {c d : Nat} (h : d ≠ c) (a : List Nat) : topOf c (a ++ [d]) = a ++ [d] := by
  unfold topOf
  rw [trail_other h, Nat.sub_zero, List.take_length]
theorem topOf_none {c : Nat} {a : List Nat} (h : trail c a = 0) : topOf c a = a := by
  unfold topOf
  rw [h, Nat.sub_zero, List.take_length]
theorem takeWhile_all {p : Nat → Bool} : ∀ {l : List Nat} {x : Nat}, x ∈ l.takeWhile p → p x = true
  | [], x, h => by cases h
  | y :: ys, x, h => by
    rw [List.takeWhile_cons] at h
    split at h
    · rename_i hy
      rcases List.mem_cons.mp h with rfl | h
      · exact hy
      · exact takeWhile_all h
    · cases h
theorem mem_of_trail {c : Nat} {a : List Nat} (h : 0 < trail c a) : c ∈ a := by
  unfold trail at h
  cases e : a.reverse.takeWhile (· == c) with
  | nil => rw [e] at h; exact absurd h (by decide)
  | cons x xs =>
    have m : x ∈ a.reverse.takeWhile (· == c) := by rw [e]; exact List.mem_cons_self ..
    have h1 := takeWhile_all m
    have h2 := (List.takeWhile_sublist _).subset m
    have : x = c := by simpa using h1
    rw [← this]
    simpa using h2
theorem mem_topOf {c : Nat} {a : List Nat} (h : c ∈ topOf c a) : c ∈ a := List.mem_of_mem_take h
/-- the nodes off the arm whose leftmost leaf is at a -/
def bg (a : List Nat) : Nat := if 0 < trail 108 a ∧ 108 ∉ topOf 108 a then trail 108 a - 1 else trail 108 a
theorem bg_nil : bg [] = 0 := by decide
theorem bg_r (a : List Nat) : bg (a ++ [114]) = 0 := by
  unfold bg
  rw [trail_other (by decide)]
  simp
theorem bg_l (a : List Nat) : bg (a ++ [108]) = bg a + (if 108 ∈ a then 1 else 0) := by
  unfold bg
  rw [trail_same, topOf_same]
  by_cases h0 : trail 108 a = 0
  · rw [h0, topOf_none h0]
    by_cases h : 108 ∈ a
    · simp [h]
    · simp [h]
  · have hm : 108 ∈ a := mem_of_trail (by omega)
    rw [if_pos hm]
    by_cases h : 108 ∈ topOf 108 a
    · rw [if_neg (by simp [h]), if_neg (by simp [h])]
    · rw [if_pos ⟨by omega, h⟩, if_pos ⟨by omega, h⟩]
      omega
namespace Tr
/-- each part's address and first sign, in the text's order -/
def adrs : Tr → List Nat → List (List Nat × Nat)
  | leaf, a => [(a, 46)]
  | node l r, a => (a, 40) :: (adrs l (a ++ [108]) ++ adrs r (a ++ [114]))
def lvA : Tr → List Nat → List (List Nat)
  | leaf, a => [a]
  | node l r, a => lvA l (a ++ [108]) ++ lvA r (a ++ [114])
def ndA : Tr → List Nat → List (List Nat)
  | leaf, _ => []
  | node l r, a => ndA l (a ++ [108]) ++ [a] ++ ndA r (a ++ [114])
/-- the text without closing signs -/
def ps : Tr → List Nat
  | leaf => [46]
  | node l r => 40 :: (ps l ++ ps r)
theorem ps_filter : ∀ t : Tr, t.cs.filter (· != 41) = t.ps
  | leaf => by decide
  | node l r => by
    simp only [cs, ps, List.filter_cons, List.filter_append, ps_filter l, ps_filter r]
    simp
theorem adrs_length : ∀ (t : Tr) (a : List Nat), (t.adrs a).length = t.ps.length
  | leaf, a => rfl
  | node l r, a => by simp [adrs, ps, adrs_length l, adrs_length r]
theorem ps_length : ∀ t : Tr, t.ps.length = 2 * t.size + 1
  | leaf => rfl
  | node l r => by simp [ps, size, ps_length l, ps_length r]; omega
theorem lvA_adrs : ∀ (t : Tr) (a : List Nat), ((t.adrs a).filter (fun x => x.2 == 46)).map (·.1) = t.lvA a
  | leaf, a => rfl
  | node l r, a => by
    simp only [adrs, lvA, List.filter_cons, List.filter_append, List.map_append, lvA_adrs l, lvA_adrs r]
    simp [lvA_adrs l, lvA_adrs r]
theorem lvA_length : ∀ (t : Tr) (a : List Nat), (t.lvA a).length = t.lvs
  | leaf, a => rfl
  | node l r, a => by simp [lvA, lvs, lvA_length l, lvA_length r]
theorem ndA_length : ∀ (t : Tr) (a : List Nat), (t.ndA a).length = t.size
  | leaf, a => rfl
  | node l r, a => by simp [ndA, size, ndA_length l, ndA_length r]; omega
theorem adrs_len : ∀ (t : Tr) (a : List Nat), ∀ x ∈ t.adrs a, x.1.length ≤ a.length + t.size
  | leaf, a, x, h => by rw [List.mem_singleton.mp h]; exact Nat.le_add_right _ _
  | node l r, a, x, h => by
    simp only [adrs, List.mem_cons, List.mem_append] at h
    simp only [size]
    rcases h with rfl | h | h
    · simp
    · have := adrs_len l _ x h
      simp at this; omega
    · have := adrs_len r _ x h
      simp at this; omega
theorem lvA_len : ∀ (t : Tr) (a : List Nat), ∀ x ∈ t.lvA a, x.length ≤ a.length + t.size
  | leaf, a, x, h => by rw [List.mem_singleton.mp h]; exact Nat.le_add_right _ _
  | node l r, a, x, h => by
    simp only [lvA, List.mem_append] at h
    simp only [size]
    rcases h with h | h
    · have := lvA_len l _ x h
      simp at this; omega
    · have := lvA_len r _ x h
      simp at this; omega
theorem ndA_len : ∀ (t : Tr) (a : List Nat), ∀ x ∈ t.ndA a, x.length ≤ a.length + t.size
  | leaf, a, x, h => by cases h
  | node l r, a, x, h => by
    simp only [ndA, List.mem_append, List.mem_singleton] at h
    simp only [size]
    rcases h with (h | h) | h
    · have := ndA_len l _ x h
      simp at this; omega
    · rw [h]; omega
    · have := ndA_len r _ x h
      simp at this; omega
/-- the nodes of the right arm -/
def arm : Tr → Nat
  | leaf => 0
  | node _ r => arm r + 1
def off : Tr → Nat
  | leaf => 0
  | node l r => l.size + off r
theorem off_arm : ∀ t : Tr, t.off + t.arm = t.size
  | leaf => rfl
  | node l r => by simp only [off, arm, size]; have := off_arm r; omega
theorem trail_cs : ∀ t : Tr, trail 41 t.cs = t.arm
  | leaf => by decide
  | node l r => by
    have e : (node l r).cs = (40 :: (l.cs ++ r.cs)) ++ [41] := by simp [cs]
    rw [e, trail_same]
    show _ = arm r + 1
    refine congrArg (· + 1) ?_
    rw [← trail_cs r]
    unfold trail
    have : ∃ x xs, r.cs.reverse = xs ++ x :: [] ∧ x ≠ 41 := by
      cases r with
      | leaf => exact ⟨46, [], rfl, by decide⟩
      | node p q => exact ⟨40, (p.cs ++ (q.cs ++ [41])).reverse, by simp [cs], by decide⟩
    obtain ⟨x, xs, h1, h2⟩ := this
    have h3 : (40 :: (l.cs ++ r.cs)).reverse = r.cs.reverse ++ (l.cs.reverse ++ [40]) := by simp
    rw [h3, h1, List.append_assoc]
    have : ∀ (ys zs : List Nat), ((ys ++ x :: zs).takeWhile (· == 41)) = ((ys ++ [x]).takeWhile (· == 41)) := by
      intro ys
      induction ys with
      | nil => intro zs; simp [h2]
      | cons y ys ih =>
        intro zs
        simp only [List.cons_append, List.takeWhile_cons]
        rw [ih zs]
    exact congrArg List.length (this xs _)
/-! ### counting at the leaves -/
def addH (k : Nat) : List Nat → List Nat
  | [] => []
  | x :: xs => (k + x) :: xs
theorem addH_zero : ∀ xs : List Nat, addH 0 xs = xs
  | [] => rfl
  | x :: xs => by simp [addH]
theorem addH_add (i j : Nat) : ∀ xs : List Nat, addH i (addH j xs) = addH (i + j) xs
  | [] => rfl
  | x :: xs => by simp [addH, Nat.add_assoc]
theorem addH_append (k : Nat) : ∀ {xs ys : List Nat}, xs ≠ [] → addH k (xs ++ ys) = addH k xs ++ ys
  | [], _, h => absurd rfl h
  | x :: xs, ys, _ => rfl
theorem addH_length (k : Nat) : ∀ xs : List Nat, (addH k xs).length = xs.length
  | [] => rfl
  | x :: xs => rfl
def Dn : Tr → List Nat → List Nat
  | leaf, _ => [0]
  | node l r, a => addH (if 108 ∈ a then 1 else 0) (Dn l (a ++ [108])) ++ Dn r (a ++ [114])
theorem Dn_length : ∀ (t : Tr) (a : List Nat), (Dn t a).length = t.lvs
  | leaf, a => rfl
  | node l r, a => by simp [Dn, lvs, addH_length, Dn_length l, Dn_length r]
theorem lvs_pos (t : Tr) : 0 < t.lvs := by rw [lvs_size]; omega
theorem Dn_ne (t : Tr) (a : List Nat) : Dn t a ≠ [] := fun z => by
  have h1 := Dn_length t a
  have h2 := lvs_pos t
  rw [z] at h1
  simp at h1
  omega
theorem addH_ne (k : Nat) {xs : List Nat} (h : xs ≠ []) : addH k xs ≠ [] := by
  cases xs with
  | nil => exact absurd rfl h
  | cons x xs => simp [addH]
theorem bg_map : ∀ (t : Tr) (a : List Nat), (t.lvA a).map bg = addH (bg a) (Dn t a)
  | leaf, a => rfl
  | node l r, a => by
    simp only [lvA, Dn, List.map_append]
    rw [bg_map l, bg_map r, bg_l, bg_r, addH_zero, addH_append _ (addH_ne _ (Dn_ne l _)), addH_add]
theorem bg_all (t : Tr) : (t.lvA []).map bg = Dn t [] := by rw [bg_map, bg_nil, addH_zero]
theorem addH_sum (k : Nat) {xs : List Nat} (h : xs ≠ []) : (addH k xs).sum = k + xs.sum := by
  cases xs with
  | nil => exact absurd rfl h
  | cons x xs => simp [addH]; omega
theorem Dn_sum : ∀ (t : Tr) (a : List Nat), (Dn t a).sum = if 108 ∈ a then t.size else t.off
  | leaf, a => by simp [Dn, size, off]
  | node l r, a => by
    simp only [Dn, List.sum_append, addH_sum _ (Dn_ne l _), Dn_sum l, Dn_sum r, size, off]
    by_cases h : 108 ∈ a
    · simp [h]; omega
    · simp [h]
theorem bg_sum (t : Tr) : ((t.lvA []).map bg).sum = t.off := by
  rw [bg_all, Dn_sum]
  simp
/-! ### counting by the nodes -/
def fi (A : List (List Nat)) (n : List Nat) : Nat := A.findIdx fun s => n.isPrefixOf s
def bump (f : List Nat) (i : Nat) : List Nat := f.set i (f.getD i 0 + 1)
def bumps (A ns : List (List Nat)) (f : List Nat) : List Nat := ns.foldl (fun f n => if 108 ∈ n then bump f (fi A n) else f) f
theorem pre_self (a m : List Nat) : a.isPrefixOf (a ++ m) = true := List.isPrefixOf_iff_prefix.mpr (List.prefix_append a m)
theorem lvA_pre : ∀ (t : Tr) (a : List Nat), ∀ s ∈ t.lvA a, a <+: s
  | leaf, a, s, h => by rw [List.mem_singleton.mp h]; exact List.prefix_refl _
  | node l r, a, s, h => by
    rcases List.mem_append.mp h with h | h
    · exact (List.prefix_append a [108]).trans (lvA_pre l _ s h)
    · exact (List.prefix_append a [114]).trans (lvA_pre r _ s h)
theorem ndA_pre : ∀ (t : Tr) (a : List Nat), ∀ n ∈ t.ndA a, a <+: n
  | leaf, a, n, h => by cases h
  | node l r, a, n, h => by
    simp only [ndA, List.mem_append, List.mem_singleton] at h
    rcases h with (h | h) | h
    · exact (List.prefix_append a [108]).trans (ndA_pre l _ n h)
    · rw [h]; exact List.prefix_refl _
    · exact (List.prefix_append a [114]).trans (ndA_pre r _ n h)
theorem ndA_leaf : ∀ (t : Tr) (a : List Nat), ∀ n ∈ t.ndA a, ∃ s ∈ t.lvA a, n <+: s
  | leaf, a, n, h => by cases h
  | node l r, a, n, h => by
    simp only [ndA, List.mem_append, List.mem_singleton] at h
    rcases h with (h | h) | h
    · obtain ⟨s, hs, hp⟩ := ndA_leaf l _ n h
      exact ⟨s, List.mem_append_left _ hs, hp⟩
    · obtain ⟨s, hs⟩ : ∃ s, s ∈ l.lvA (a ++ [108]) := List.exists_mem_of_length_pos (by rw [lvA_length]; exact lvs_pos l)
      exact ⟨s, List.mem_append_left _ hs, by rw [h]; exact (List.prefix_append a [108]).trans (lvA_pre l _ s hs)⟩
    · obtain ⟨s, hs, hp⟩ := ndA_leaf r _ n h
      exact ⟨s, List.mem_append_right _ hs, hp⟩
theorem fi_lt {A : List (List Nat)} {n s : List Nat} (hs : s ∈ A) (h : n <+: s) : fi A n < A.length := List.findIdx_lt_length_of_exists ⟨s, hs, List.isPrefixOf_iff_prefix.mpr h⟩
theorem fi_left {A B : List (List Nat)} {n s : List Nat} (hs : s ∈ A) (h : n <+: s) : fi (A ++ B) n = fi A n := by
  have := fi_lt hs h
  unfold fi at this ⊢
  rw [List.findIdx_append, if_pos this]
theorem fi_right {A B : List (List Nat)} {n : List Nat} (h : ∀ s ∈ A, ¬ n <+: s) : fi (A ++ B) n = fi B n + A.length := by
  have e : A.findIdx (fun s => n.isPrefixOf s) = A.length := List.findIdx_eq_length.mpr fun s hs => by
    cases hz : n.isPrefixOf s with
    | false => rfl
    | true => exact absurd (List.isPrefixOf_iff_prefix.mp hz) (h s hs)
  unfold fi
  rw [List.findIdx_append, if_neg (by rw [e]; omega)]
theorem bump_left {x y : List Nat} {i : Nat} (h : i < x.length) : bump (x ++ y) i = bump x i ++ y := by
  unfold bump
  rw [List.set_append_left _ _ h, List.getD_eq_getElem?_getD, List.getD_eq_getElem?_getD, List.getElem?_append_left h]
theorem bump_right (x y : List Nat) (i : Nat) : bump (x ++ y) (i + x.length) = x ++ bump y i := by
  unfold bump
  rw [List.set_append_right _ _ (by omega), List.getD_eq_getElem?_getD, List.getD_eq_getElem?_getD, List.getElem?_append_right (by omega), Nat.add_sub_cancel]
theorem bump_length (x : List Nat) (i : Nat) : (bump x i).length = x.length := List.length_set
theorem bumps_length (A : List (List Nat)) : ∀ (ns : List (List Nat)) (f : List Nat), (bumps A ns f).length = f.length
  | [], f => rfl
  | n :: ns, f => by
    show (bumps A ns (if 108 ∈ n then bump f (fi A n) else f)).length = _
    rw [bumps_length A ns]
    split
    · exact bump_length _ _
    · rfl
theorem bumps_left {A B : List (List Nat)} : ∀ {ns : List (List Nat)} {x y : List Nat}, x.length = A.length → (∀ n ∈ ns, ∃ s ∈ A, n <+: s) → bumps (A ++ B) ns (x ++ y) = bumps A ns x ++ y
  | [], x, y, _, _ => rfl
  | n :: ns, x, y, hl, h => by
    obtain ⟨s, hs, hp⟩ := h n (List.mem_cons_self ..)
    show bumps (A ++ B) ns (if 108 ∈ n then bump (x ++ y) (fi (A ++ B) n) else x ++ y) = bumps A ns (if 108 ∈ n then bump x (fi A n) else x) ++ y
    have hl' := fi_lt hs hp
    rw [fi_left hs hp, bump_left (by rw [hl]; exact hl')]
    split
    · exact bumps_left (by rw [bump_length, hl]) fun m hm => h m (List.mem_cons_of_mem _ hm)
    · exact bumps_left hl fun m hm => h m (List.mem_cons_of_mem _ hm)
theorem bumps_right {A B : List (List Nat)} : ∀ {ns : List (List Nat)} {x y : List Nat}, x.length = A.length → (∀ n ∈ ns, ∀ s ∈ A, ¬ n <+: s) → bumps (A ++ B) ns (x ++ y) = x ++ bumps B ns y
  | [], x, y, _, _ => rfl
  | n :: ns, x, y, hl, h => by
    have hn := h n (List.mem_cons_self ..)
    show bumps (A ++ B) ns (if 108 ∈ n then bump (x ++ y) (fi (A ++ B) n) else x ++ y) = x ++ bumps B ns (if 108 ∈ n then bump y (fi B n) else y)
    rw [fi_right hn, ← hl, bump_right]
    split
    · exact bumps_right hl fun m hm => h m (List.mem_cons_of_mem _ hm)
    · exact bumps_right hl fun m hm => h m (List.mem_cons_of_mem _ hm)
theorem bumps_append (A : List (List Nat)) (ns ms : List (List Nat)) (f : List Nat) : bumps A (ns ++ ms) f = bumps A ms (bumps A ns f) := List.foldl_append
theorem bump_zero : ∀ {x : List Nat}, x ≠ [] → bump x 0 = addH 1 x
  | [], h => absurd rfl h
  | y :: ys, _ => by
    show (y + 1) :: ys = (1 + y) :: ys
    rw [Nat.add_comm]
theorem parted {a n s : List Nat} (h1 : a ++ [114] <+: n) (h2 : a ++ [108] <+: s) : ¬ n <+: s := fun h => by
  obtain ⟨m, e1⟩ := h1.trans h
  obtain ⟨k, e2⟩ := h2
  rw [← e2, List.append_assoc, List.append_assoc] at e1
  have := List.append_cancel_left e1
  simp at this
theorem bumps_Dn : ∀ (t : Tr) (a : List Nat), bumps (t.lvA a) (t.ndA a) (List.replicate t.lvs 0) = Dn t a
  | leaf, a => rfl
  | node l r, a => by
    simp only [lvA, ndA, lvs, Dn]
    rw [← List.replicate_append_replicate, bumps_append, bumps_append, bumps_left (by rw [lvA_length, List.length_replicate]) (ndA_leaf l _), bumps_Dn l]
    obtain ⟨s, hs⟩ : ∃ s, s ∈ l.lvA (a ++ [108]) := List.exists_mem_of_length_pos (by rw [lvA_length]; exact lvs_pos l)
    have f0 : fi (l.lvA (a ++ [108]) ++ r.lvA (a ++ [114])) a = 0 := by
      cases e : l.lvA (a ++ [108]) with
      | nil => rw [e] at hs; cases hs
      | cons z zs =>
        have hz := lvA_pre l (a ++ [108]) z (by rw [e]; exact List.mem_cons_self ..)
        have : a.isPrefixOf z = true := List.isPrefixOf_iff_prefix.mpr ((List.prefix_append a [108]).trans hz)
        unfold fi
        rw [List.cons_append, List.findIdx_cons, this]
        rfl
    have e1 : bumps (l.lvA (a ++ [108]) ++ r.lvA (a ++ [114])) [a] (Dn l (a ++ [108]) ++ List.replicate r.lvs 0) = addH (if 108 ∈ a then 1 else 0) (Dn l (a ++ [108])) ++ List.replicate r.lvs 0 := by
      show (if 108 ∈ a then bump (Dn l (a ++ [108]) ++ List.replicate r.lvs 0) (fi _ a) else _) = _
      rw [f0]
      split
      · rw [bump_zero (by simp [Dn_ne]), addH_append _ (Dn_ne l _)]
      · rw [addH_zero]
    rw [e1, bumps_right (by rw [addH_length, Dn_length, lvA_length]) (fun n hn s hs => parted (ndA_pre r _ n hn) (lvA_pre l _ s hs)), bumps_Dn r]
end Tr
end TT
namespace TT
namespace Tr
def cL : Nat → Tr
  | 0 => leaf
  | n + 1 => node (cL n) leaf
def cR : Nat → Tr
  | 0 => leaf
  | n + 1 => node leaf (cR n)
theorem cL_size : ∀ n, (cL n).size = n
  | 0 => rfl
  | n + 1 => by simp [cL, size, cL_size n]
theorem cR_size : ∀ n, (cR n).size = n
  | 0 => rfl
  | n + 1 => by simp [cR, size, cR_size n]
theorem cL_Dn : ∀ (n : Nat) (a : List Nat), 108 ∈ a → Dn (cL n) a = n :: List.replicate n 0
  | 0, a, _ => rfl
  | n + 1, a, h => by
    show addH (if 108 ∈ a then 1 else 0) (Dn (cL n) (a ++ [108])) ++ [0] = _
    rw [if_pos h, cL_Dn n _ (by simp)]
    show (1 + n) :: (List.replicate n 0 ++ [0]) = _
    rw [Nat.add_comm 1 n]
    refine congrArg _ ?_
    exact List.replicate_succ'.symm
theorem cL_top (n : Nat) : Dn (cL (n + 1)) [] = n :: List.replicate (n + 1) 0 := by
  show addH (if 108 ∈ [] then 1 else 0) (Dn (cL n) ([] ++ [108])) ++ [0] = _
  rw [if_neg (by simp), addH_zero, cL_Dn n _ (by simp)]
  exact congrArg (List.cons n) List.replicate_succ'.symm
theorem cR_Dn : ∀ (n : Nat) (a : List Nat), 108 ∉ a → Dn (cR n) a = List.replicate (n + 1) 0
  | 0, a, _ => rfl
  | n + 1, a, h => by
    show addH (if 108 ∈ a then 1 else 0) [0] ++ Dn (cR n) (a ++ [114]) = _
    rw [if_neg h, addH_zero, cR_Dn n _ (by simp [h])]
    rfl
theorem cL_off (n : Nat) : (cL (n + 1)).off = n := by
  show (cL n).size + 0 = n
  rw [cL_size]
  rfl
theorem cR_off : ∀ n, (cR n).off = 0
  | 0 => rfl
  | n + 1 => by
    show leaf.size + (cR n).off = 0
    rw [cR_off n]
    rfl
end Tr
end TT

set_option Elab.async false
set_option linter.all false
set_option maxRecDepth 100000
set_option maxHeartbeats 4000000
/-! further rules over the hand layer -/
namespace TT
open PySem PySem.Spec PyProof.Rows L2

/-! ### texts as lists of signs -/
abbrev S (l : List Nat) : Str := ⟨l.toArray⟩
theorem S_app (a b : List Nat) : S a ++ S b = S (a ++ b) := by
  show Str.append (S a) (S b) = _
  unfold Str.append
  simp
theorem S_len (a : List Nat) : (S a).length = a.length := by simp [Str.length]
theorem S_inj {a b : List Nat} (h : S a = S b) : a = b := by
  have := congrArg (fun x => x.cps.toList) h
  simpa using this
theorem S_iff {a b : List Nat} : S a = S b ↔ a = b := ⟨S_inj, fun h => by rw [h]⟩
theorem S_of (x : Str) : x = S x.cps.toList := by cases x; simp
theorem lit_open : ("(" : Str) = S [40] := by decide +kernel
theorem lit_close : (")" : Str) = S [41] := by decide +kernel
theorem lit_dot : ("." : Str) = S [46] := by decide +kernel
theorem lit_empty : ("" : Str) = S [] := by decide +kernel
theorem lit_l : ("l" : Str) = S [108] := by decide +kernel
theorem lit_r : ("r" : Str) = S [114] := by decide +kernel
theorem lit_tree : ("tree" : Str) = S [116, 114, 101, 101] := by decide +kernel
theorem lit_end : ("end" : Str) = S [101, 110, 100] := by decide +kernel

section
variable {X : Cx}
theorem sg_eq {d : Nat} {x : Str} (hx : x = S [d]) : ({ cps := #[d] } : Str) = x := hx.symm
theorem sg_ne {c d : Nat} {x : Str} (hx : x = S [d]) (h : c ≠ d) : ¬ ({ cps := #[c] } : Str) = x := fun e => h (by
  have := S_inj (a := [c]) (b := [d]) (e.trans hx)
  simpa using this)
theorem ifdT {p A B : Prop} [Decidable p] (h : p) (a : A) : if decide p = true then A else B := by rw [if_pos (decide_eq_true h)]; exact a
theorem ifdF {p A B : Prop} [Decidable p] (h : ¬ p) (b : B) : if decide p = true then A else B := by rw [if_neg (by rw [decide_eq_true_eq]; exact h)]; exact b
theorem ifnT {p A B : Prop} [Decidable p] (h : ¬ p) (a : A) : if (!decide p) = true then A else B := by rw [if_pos (by rw [decide_eq_false h]; rfl)]; exact a
theorem ifnF {p A B : Prop} [Decidable p] (h : p) (b : B) : if (!decide p) = true then A else B := by rw [if_neg (by rw [decide_eq_true h]; exact Bool.false_ne_true)]; exact b
theorem ixN_nat {n j : Nat} (h : j < n) : ixN n (j : Int) = some j := by
  unfold ixN
  rw [if_pos (by omega), if_pos (by omega)]; simp
/-- readings told with K -/
def tTruK (K : PySem.W.Frag) (ta : TE) : TT := fun σ H Q => ta σ H fun x H' => ∃ k, TruV K x H' k ∧ Q k H'
def rLenSK (K : PySem.W.Frag) : List V → Hp → VK → Prop := fun xs H Q => ∃ p ys, xs = [.ref p] ∧ (SqL K H p ys ∨ SqT K H p ys) ∧ Q (.int ys.length) H
theorem cxOf_K {CX : CXT} {P : Program} {w : World} {K : PySem.W.Frag} {mg : Str → Option Value} {base : Heap} {N : List Str} {qual : Str} {scope : Scope} {f : Addr} {cd : Value} {A : Around} {outer : List Env} {s : Shared} {H : Hp} {E : XK} :
    (cxOf CX P w K mg base N qual scope f cd A outer s H E).K = K := rfl
/-- a text, a list: of their own kind -/
theorem tyV_lst {K : PySem.W.Frag} {H : Hp} {a : Addr} {xs : List V} (h : H a = some (.lst xs)) : tyV K "list" (.ref a) H := .inl ⟨rfl, _, SqL.of h⟩
theorem _root_.L2.Same.new {H H' : Hp} {p : Addr} (e : Same H H') (h : H p = none) (o : HO) : Same H (upd H' p o) := fun b u q => by
  rw [upd_ne (ne_of_none q h)]; exact e b u q
theorem _root_.L2.Same.get {H H' : Hp} {a : Addr} {o : HO} (e : Same H H') (h : H a = some o) : H' a = some o := e a o h
theorem small5 {n : Nat} (h : n ≤ 16000000) : n ≤ sizeLine := by rw [sizeLine_eq]; omega
theorem small5' {n : Nat} (h : n ≤ 16000000) : n < sizeLine := by rw [sizeLine_eq]; omega
/-! ### powers -/
def CPowB (i j : Int) : Prop := 0 ≤ j ∧ (Builtin.Int.intBits i : Int) * j ≤ 2 ^ 27
theorem op_powB : OpR X (binaryOp .Pow) (rI CPowB fun i j => .int (i ^ j.toNat)) := opI fun _ _ _ _ _ _ _ hc q => pow_int hc.1 hc.2 q

theorem call_intI : CallR X (.type "int") (fun xs H Q => ∃ i, xs = [.int i] ∧ Q (.int i) H) := fun pins s σ H xs us Q I r h => call_int1 pins s σ H xs us Q I r (.inl h)
theorem call_intB : CallR X (.type "int") (fun xs H Q => ∃ k, xs = [.bl k] ∧ Q (.int (if k then 1 else 0)) H) := fun pins s σ H xs us Q I r h => call_int1 pins s σ H xs us Q I r (.inr h)
theorem cmulR {i j : Int} (h : -(2 ^ 64) < j ∧ j < 2 ^ 64) : CMul i j := .inr h
theorem cmulL {i j : Int} (h : -(2 ^ 64) < i ∧ i < 2 ^ 64) : CMul i j := .inl h
theorem cmod (x : Int) {m : Int} (h : 0 < m) (h2 : m < 2 ^ 64) : -(2 ^ 64) < x % m ∧ x % m < 2 ^ 64 := by
  have h3 := Int.emod_nonneg x (show m ≠ 0 by omega)
  have h4 := Int.emod_lt_of_pos x h
  omega
theorem cdivW {i b : Int} (h : 1 ≤ b) (h2 : b < 1000000000000000) : CDivW i b := by
  refine ⟨by omega, ?_⟩
  have : b.natAbs.log2 < 50 := (Nat.log2_lt (by omega)).mpr (by omega)
  omega
/-! ### enumerate of a text -/
def Ites (x : Str) : It :=
  ⟨fun i _ => i < x.cps.size, fun i H v H' => ∃ T c, v = .ref T ∧ H T = none ∧ x.cps[i]? = some c ∧ H' = upd H T (.tup [.int (i : Nat), .str ⟨#[c]⟩]), fun i _ => x.cps.size ≤ i⟩
theorem turn_enumS {P : Program} {w : World} {K : PySem.W.Frag} {elts : List Expr} {kk : Nat} {tpos : Pos} (e it : Addr) (x : Str) (t : Tok) (ty : String) (hty : ty = "str_ascii_iterator" ∨ ty = "str_iterator") :
    Turn P w K (.Tuple elts kk tpos) (Ites x) [e, it] e (fun i h => (∃ old, IsEnum h e it ((i : Nat) : Int) old) ∧ h.IsStrIter it ty x t i ∧ e ≠ it) where
  mem := by simp
  obj := fun i h st b hb => by
    obtain ⟨⟨old, he⟩, ⟨o, ho, hc, hd⟩, _⟩ := st
    have e' : b = e ∨ b = it := by simpa using hb
    rcases e' with z | z
    · rw [z]; exact ⟨_, he, fun v q => nomatch q⟩
    · rw [z]; exact ⟨o, ho, fun v q => by rw [hd] at q; cases q⟩
  keep := fun i h h' st k => by
    obtain ⟨⟨old, he⟩, ⟨o, ho, r⟩, hne⟩ := st
    exact ⟨⟨old, k e (by simp) _ he⟩, ⟨o, k it (by simp) o ho, r⟩, hne⟩
  item := by
    intro X hP hw hK hc i pins s σ H E I hf st hg
    subst hP hw hK
    obtain ⟨⟨old, he⟩, hit, hne⟩ := st
    have hel : e < s.heap.objs.size := Heap.lt_size he
    have hil : it < s.heap.objs.size := by obtain ⟨_, q, _⟩ := hit; exact Heap.lt_size q
    have D : Draws X.prog X.w X.A.in1 it [it] x.cps.size (fun i v => ∃ c u, x.cps[i]? = some c ∧ v = .str ⟨#[c]⟩ u) (fun i h => h.IsStrIter it ty x t i) := by
      rcases hty with q | q
      · rw [q]; exact Draws.strAscii (A := X.A.in1) (I.ok.hd hc) it x t
      · rw [q]; exact Draws.strWide (A := X.A.in1) (I.ok.hd hc) it x t
    refine wpAny_pyNext_enum_itemD D he hit hg hne (by simpa using hne) fun y h' tk hy ho hit' hT hsz hk => ?_
    obtain ⟨c, u, hcx, rfl⟩ := hy
    refine ⟨_, rfl, wpAny_letOwnedTupleGo_enum (s := { s with heap := h', toks := tk + 1 }) ho fun h'' he' sb => ?_⟩
    have hT2 : h''.get? s.heap.objs.size = some { cls := .type "tuple", data := .seq #[.int i tk, .str ⟨#[c]⟩ u] } := (sb.2 _ (Nat.ne_of_gt hel)).trans hT
    have new : ObjOk X.prog X.w (upd H s.heap.objs.size (.tup [.int (i : Nat), .str ⟨#[c]⟩])) h'' s.heap.objs.size (.tup [.int (i : Nat), .str ⟨#[c]⟩]) :=
      ⟨by show 2 ≤ sizeLine; decide, [.int i tk, .str ⟨#[c]⟩ u], .cons ⟨_, rfl⟩ (.cons ⟨_, rfl⟩ .nil), ⟨_, hT2, rfl, _, rfl⟩⟩
    have I1 : Inv X pins σ (upd H s.heap.objs.size (.tup [.int (i : Nat), .str ⟨#[c]⟩])) { s with heap := h'', toks := tk + 1 } :=
      I.turnedNew (ch := [e, it]) (fun b ob hb q => (sb.2 b (fun z => hb (by simp [z]))).trans (hk b ob (fun z => hb (by simp [z])) (fun z => hb (by simp [z])) q)) hf (Nat.le_refl _) new
    refine ⟨.ref s.heap.objs.size, _, I1, rfl, ⟨_, c, rfl, I.hok.fresh (Nat.le_refl _), hcx, rfl⟩, ⟨⟨.str ⟨#[c]⟩ u, ?_⟩, ?_, hne⟩, fun b hb => ?_⟩
    · have e1 : ((i + 1 : Nat) : Int) = (i : Int) + 1 := by omega
      rw [e1]; exact he'
    · obtain ⟨o, ho', r⟩ := hit'
      exact ⟨o, (sb.2 it (Ne.symm hne)).trans ho', r⟩
    · have hb' : b < s.heap.objs.size := by
        have e' : b = e ∨ b = it := by simpa using hb
        rcases e' with z | z
        · rw [z]; exact hel
        · rw [z]; exact hil
      rw [upd_ne (Nat.ne_of_lt hb')]
      exact (hf b hb).1
  done := by
    intro X hP hw hK hc i pins s σ H E I hf st hg
    subst hP hw hK
    obtain ⟨⟨old, he⟩, hit, hne⟩ := st
    obtain ⟨f0, f1, f2, f3, f4, f5⟩ := hf it (by simp)
    have hx : x.cps[i]? = none := Array.getElem?_eq_none hg
    have hT : s.TypeIs (.ref e) "enumerate" := ⟨_, he, rfl⟩
    unfold pyNext
    refine wpAny_bind (wpAny_attempt (wpAny_callSpecial?_slot (name := Str.ofString "__next__") hT F.slot_enumerate_next
      (wpAny_call_entry F.slot_enumerate_next hT F.entry_enumerate_next ?_ (F.args_enumerate_next_1 _))))
    show wpAny _ _ (field (.ref e) 2 >>= _) _ _ _
    refine wpAny_bind (wpAny_field he rfl (x := .ref it) rfl ?_)
    rcases hty with q | q
    · subst q
      refine wpAny_bind (wpAny_nextOf_ascii_end (A := X.A.in1) (I.ok.hd hc) hit hx fun h' e2 he2 hx' => ?_)
      obtain ⟨o, ho, hcc⟩ := hx'
      refine wpAny_bind (wpAny_isInstance (T := "StopIteration") (b := true) ⟨o, ho, hcc⟩ isSubtype_stop ?_)
      exact wpAny_pure ⟨rfl, I.turned (t' := s.toks) (fun b o hb y => he2 b o hb y) f0 f1 f3 f4 f5⟩
    · subst q
      refine wpAny_bind (wpAny_nextOf_wide_end (A := X.A.in1) (I.ok.hd hc) hit hx fun h' e2 he2 hx' => ?_)
      obtain ⟨o, ho, hcc⟩ := hx'
      refine wpAny_bind (wpAny_isInstance (T := "StopIteration") (b := true) ⟨o, ho, hcc⟩ isSubtype_stop ?_)
      exact wpAny_pure ⟨rfl, I.turned (t' := s.toks) (fun b o hb y => he2 b o hb y) f0 f1 f3 f4 f5⟩
  self := fun A i s Q E st h => let ⟨⟨_, he⟩, _⟩ := st; wpAny_pyIter_enum he h
def iEnumS (ta : TA) : TI := fun σ H R => ta σ H fun vs H1 => ∃ x, vs = [.str x] ∧ R (Ites x) H1
theorem pi_enumS {e : Expr} {ta : TA} {p pos tpos : Pos} {elts : List Expr} {kk : Nat} (hg : Gl X "enumerate") (hm : X.mg "enumerate" = none) (ha : PA X [e] ta) (hs : starEach [e] X.env = [(false, eval e X.env)] := by rfl) :
    PI X (.Tuple elts kk tpos) (.Call (.Name "enumerate" p) [e] [] pos) (iEnumS ta) := by
  refine ⟨fun pins s σ H R I h => ?_⟩
  refine Call_ (ld_blt I hg hm boot_enumerate (PyProof.Rows.callWith_type1 (thn (ha.run pos pins s σ H _ I h) fun us s1 ⟨vs, H1, I1, r1, q1⟩ => ?_) hs rfl))
  obtain ⟨x, ex, q⟩ := q1
  subst ex
  cases r1 with
  | cons r rr =>
    cases rr
    obtain ⟨t, rfl⟩ := r
    refine call_enumerate_str fun h' he hit hsz hk => wpAny_pyIter_enum he ?_
    have I2 : Inv X pins σ H1 { s1 with heap := h' } := I1.kept (t' := s1.toks) hk
    have hty : strIterType x = "str_ascii_iterator" ∨ strIterType x = "str_iterator" := by
      unfold strIterType
      split
      · exact .inl rfl
      · exact .inr rfl
    refine ⟨s1.heap.objs.size + 1, [s1.heap.objs.size + 1, s1.heap.objs.size], _, _, H1, rfl, I2, turn_enumS (s1.heap.objs.size + 1) s1.heap.objs.size x t _ hty, ⟨⟨.none, he⟩, hit, Nat.succ_ne_self _⟩, fun b hb => ?_, q⟩
    have e' : b = s1.heap.objs.size + 1 ∨ b = s1.heap.objs.size := by simpa using hb
    have hle : s1.heap.objs.size ≤ b := by
      rcases e' with z | z
      · rw [z]; exact Nat.le_add_right _ _
      · rw [z]; exact Nat.le_refl _
    exact I1.fpOk hle (I1.hok.fresh hle)
end
/-- a loop over enumerate(text) -/
theorem for_enumS {x : Str} {g : TG} {tb : TS} {D : Ends} {σ : L2.St} {H : Hp} (Pv : Nat → L2.St → Hp → Prop) (h0 : Pv 0 σ H)
    (hs : ∀ i c σ H T, x.cps[i]? = some c → Pv i σ H → H T = none → g (.ref T) σ (upd H T (.tup [.int (i : Nat), .str ⟨#[c]⟩])) fun σ2 H2 => tb { D with nx := Pv (i + 1), ct := Pv (i + 1), bk := D.nx } σ2 H2) (hd : ∀ σ H, Pv x.cps.size σ H → D.nx σ H) :
    ∃ W : Nat → Nat → L2.St → Hp → Prop, (∃ m, W 0 m σ H) ∧ ∀ i m σ H, W i m σ H →
      ((Ites x).stop i H ∧ D.nx σ H) ∨ ((Ites x).go i H ∧ ∃ N : L2.St → Hp → Prop, (∀ σ' H', N σ' H' → ∃ m', m' < m ∧ W (i + 1) m' σ' H') ∧ ∀ v H', (Ites x).yld i H v H' → g v σ H' fun σ2 H2 => tb { D with nx := N, ct := N, bk := D.nx } σ2 H2) := by
  refine ⟨fun i m σ H => m = x.cps.size - i ∧ i ≤ x.cps.size ∧ Pv i σ H, ⟨x.cps.size, by simp, Nat.zero_le _, h0⟩, ?_⟩
  rintro i m σ H ⟨rfl, hi, p⟩
  by_cases hlt : i < x.cps.size
  · refine .inr ⟨hlt, Pv (i + 1), fun σ' H' q => ⟨x.cps.size - (i + 1), by omega, rfl, hlt, q⟩, fun v H' y => ?_⟩
    obtain ⟨T, c, rfl, hT, hc, rfl⟩ := y
    exact hs i c σ H T hc p hT
  · have : i = x.cps.size := by omega
    subst this
    exact .inl ⟨Nat.le_refl _, hd σ H p⟩
/-- a loop over a text's signs -/
theorem for_str {x : Str} {g : TG} {tb : TS} {D : Ends} {σ : L2.St} {H : Hp} (Pv : Nat → L2.St → Hp → Prop) (h0 : Pv 0 σ H)
    (hs : ∀ i c σ H, x.cps[i]? = some c → Pv i σ H → g (.str ⟨#[c]⟩) σ H fun σ2 H2 => tb { D with nx := Pv (i + 1), ct := Pv (i + 1), bk := D.nx } σ2 H2) (hd : ∀ σ H, Pv x.cps.size σ H → D.nx σ H) :
    ∃ W : Nat → Nat → L2.St → Hp → Prop, (∃ m, W 0 m σ H) ∧ ∀ i m σ H, W i m σ H →
      ((Its x).stop i H ∧ D.nx σ H) ∨ ((Its x).go i H ∧ ∃ N : L2.St → Hp → Prop, (∀ σ' H', N σ' H' → ∃ m', m' < m ∧ W (i + 1) m' σ' H') ∧ ∀ v H', (Its x).yld i H v H' → g v σ H' fun σ2 H2 => tb { D with nx := N, ct := N, bk := D.nx } σ2 H2) := by
  refine ⟨fun i m σ H => m = x.cps.size - i ∧ i ≤ x.cps.size ∧ Pv i σ H, ⟨x.cps.size, by simp, Nat.zero_le _, h0⟩, ?_⟩
  rintro i m σ H ⟨rfl, hi, p⟩
  by_cases hlt : i < x.cps.size
  · refine .inr ⟨hlt, Pv (i + 1), fun σ' H' q => ⟨x.cps.size - (i + 1), by omega, rfl, hlt, q⟩, fun v H' y => ?_⟩
    obtain ⟨rfl, c, hc, rfl⟩ := y
    exact hs i c σ H' hc p
  · have : i = x.cps.size := by omega
    subst this
    exact .inl ⟨Nat.le_refl _, hd σ H p⟩
/-- a comprehension over zip(two lists) -/
theorem lc_zip {K : PySem.W.Frag} {a b : Addr} {xs ys : List V} {g : TG} {tt : TT} {te : TE} {vs : List Nat} {σ : L2.St} {H1 : Hp} {D : Addr} {Qd : Hp → Prop} (Pv : Nat → Hp → Prop) (h0 : Pv 0 (upd H1 D (.lst [])))
    (hl : ∀ i H, Pv i H → SqL K H a xs ∧ SqL K H b ys)
    (hs : ∀ i x y H T, xs[i]? = some x → ys[i]? = some y → Pv i H → H T = none → g (.ref T) (wipe σ vs) (upd H T (.tup [x, y])) fun σ2 H2 => wipe σ2 vs = wipe σ vs ∧ tt σ2 H2 fun b H3 =>
      if b = true then te σ2 H3 fun y H4 => ∃ acc, H4 D = some (.lst acc) ∧ acc.length < sizeLine ∧ Pv (i + 1) (upd H4 D (.lst (acc ++ [y]))) else Pv (i + 1) H3)
    (hd : ∀ H, Pv (min xs.length ys.length) H → Qd H) :
    ∃ W : Nat → Nat → Hp → Prop, (∃ m, W 0 m (upd H1 D (.lst []))) ∧ ∀ i m H, W i m H →
      ((Itz K a b).stop i H ∧ Qd H) ∨ ((Itz K a b).go i H ∧ ∃ Nx : Hp → Prop, (∀ H', Nx H' → ∃ m', m' < m ∧ W (i + 1) m' H') ∧ ∀ x H', (Itz K a b).yld i H x H' → g x (wipe σ vs) H' fun σ2 H2 => wipe σ2 vs = wipe σ vs ∧ tt σ2 H2 fun b H3 =>
        if b = true then te σ2 H3 fun y H4 => ∃ acc, H4 D = some (.lst acc) ∧ acc.length < sizeLine ∧ Nx (upd H4 D (.lst (acc ++ [y]))) else Nx H3) := by
  refine ⟨fun i m H => m = min xs.length ys.length - i ∧ i ≤ min xs.length ys.length ∧ Pv i H, ⟨_, rfl, Nat.zero_le _, h0⟩, ?_⟩
  rintro i m H ⟨rfl, hi, p⟩
  obtain ⟨q1, q2⟩ := hl i H p
  by_cases hlt : i < min xs.length ys.length
  · have l1 : i < xs.length := by omega
    have l2 : i < ys.length := by omega
    refine .inr ⟨⟨xs, ys, _, _, q1, q2, List.getElem?_eq_getElem l1, List.getElem?_eq_getElem l2⟩, Pv (i + 1), fun H' q => ⟨_, by omega, rfl, hlt, q⟩, fun v H' y => ?_⟩
    obtain ⟨T, x, y, rfl, hT, rfl, e1, e2⟩ := y
    exact hs i x y H T (e1 xs q1) (e2 ys q2) p hT
  · have : i = min xs.length ys.length := by omega
    subst this
    exact .inl ⟨⟨xs, ys, q1, q2, by omega⟩, hd H p⟩
theorem lst_len {P : Prop} (h : P) : P := h
end TT

set_option linter.all false
set_option maxRecDepth 100000
/-! texts cut and joined, as lists of signs -/
namespace TT
open PySem PySem.Spec PyProof.Rows L2
open TL (joinL join_eq tl_join split_join tl)
theorem cnt_count (c : Nat) : ∀ l : List Nat, cnt c l = ((l.count c : Nat) : Int)
  | [] => rfl
  | x :: r => by
    rw [cnt_cons, cnt_count c r, List.count_cons]
    by_cases h : x = c <;> simp [h] <;> omega
theorem count_S (l : List Nat) (c : Nat) : Txt.count (S l) (S [c]) = ((l.count c : Nat) : Int) := by
  have := count_cnt (S l) c
  rw [cnt_count] at this
  exact this
/-- cut at every c -/
def spl (c : Nat) : List Nat → List (List Nat)
  | [] => [[]]
  | x :: xs => if x = c then [] :: spl c xs else ((x :: (spl c xs).headD []) :: (spl c xs).tail)
theorem spl_ne (c : Nat) (l : List Nat) : spl c l ≠ [] := by
  cases l with
  | nil => simp [spl]
  | cons x xs => unfold spl; split <;> simp
theorem spl_eq (c : Nat) (l : List Nat) : spl c l = (spl c l).headD [] :: (spl c l).tail := by
  have := spl_ne c l
  cases h : spl c l with
  | nil => exact absurd h this
  | cons a b => rfl
theorem spl_length (c : Nat) : ∀ l : List Nat, (spl c l).length = l.count c + 1
  | [] => rfl
  | x :: xs => by
    unfold spl
    have ih := spl_length c xs
    rw [List.count_cons]
    by_cases h : x = c
    · simp [h, ih]
    · simp [h]; have := spl_eq c xs; omega
theorem spl_free (c : Nat) : ∀ l : List Nat, ∀ p ∈ spl c l, c ∉ p
  | [], p, hp => by simp [spl] at hp; subst hp; simp
  | x :: xs, p, hp => by
    have ih := spl_free c xs
    rw [spl_eq c xs] at ih
    unfold spl at hp
    by_cases h : x = c
    · simp only [h, if_true] at hp
      rcases List.mem_cons.mp hp with rfl | hp
      · simp
      · rw [spl_eq c xs] at hp; exact ih p hp
    · simp only [h, if_false] at hp
      rcases List.mem_cons.mp hp with rfl | hp
      · intro hc
        rcases List.mem_cons.mp hc with rfl | hc
        · exact h rfl
        · exact ih _ List.mem_cons_self hc
      · exact ih p (List.mem_cons_of_mem _ hp)
theorem spl_joinL (c : Nat) : ∀ l : List Nat, joinL [c] (spl c l) = l
  | [] => rfl
  | x :: xs => by
    have ih := spl_joinL c xs
    unfold spl
    by_cases h : x = c
    · simp only [h, if_true]
      rw [spl_eq c xs] at ih ⊢
      show [] ++ ([c] ++ joinL [c] (_ :: _)) = c :: xs
      rw [ih]; rfl
    · simp only [h, if_false]
      rw [spl_eq c xs] at ih
      cases ht : (spl c xs).tail with
      | nil =>
        rw [ht] at ih
        show x :: (spl c xs).headD [] = x :: xs
        have ih' : (spl c xs).headD [] = xs := ih
        rw [ih']
      | cons q r =>
        rw [ht] at ih
        show (x :: (spl c xs).headD []) ++ ([c] ++ joinL [c] (q :: r)) = x :: xs
        have ih' : (spl c xs).headD [] ++ ([c] ++ joinL [c] (q :: r)) = xs := ih
        rw [List.cons_append, ih']
theorem tl_S (l : List Nat) : tl (S l) = l := by simp [tl]
theorem tl_mapS : ∀ ls : List (List Nat), (ls.map S).map tl = ls
  | [] => rfl
  | l :: ls => by rw [List.map_cons, List.map_cons, tl_S, tl_mapS ls]
theorem S_tl (x : Str) : S (tl x) = x := by cases x; simp [tl]
theorem split_S (l : List Nat) (c : Nat) (hc : c < 256) : Txt.split (S l) (S [c]) = (spl c l).map S := by
  have e : Txt.join (S [c]) ((spl c l).map S) = S l := by
    rw [join_eq, ← S_tl (Str.join _ _), tl_join, tl_mapS, tl_S, spl_joinL]
  rw [← e]
  refine split_join (s := c) (S := []) (tl_S _) (by simp [hc]) (by simp [spl_ne]) fun p hp => ?_
  obtain ⟨q, hq, rfl⟩ := List.mem_map.mp hp
  rw [tl_S]
  exact spl_free c l q hq
theorem joinL_nil : ∀ ls : List (List Nat), joinL [] ls = ls.flatten
  | [] => rfl
  | [p] => by simp [joinL]
  | p :: q :: r => by
    show p ++ ([] ++ joinL [] (q :: r)) = _
    rw [joinL_nil (q :: r)]; simp
theorem join_S (ls : List (List Nat)) : Txt.join (S []) (ls.map S) = S ls.flatten := by
  rw [join_eq, ← S_tl (Str.join _ _), tl_join, tl_mapS, tl_S, joinL_nil]

/-! ### a text with its leaves' signs replaced -/
def sub46 : List Nat → List (List Nat) → List Nat
  | [], _ => []
  | x :: xs, ys => if x = 46 then ys.headD [] ++ sub46 xs ys.tail else x :: sub46 xs ys
theorem sub46_other {x : Nat} (xs : List Nat) (ys : List (List Nat)) (h : x ≠ 46) : sub46 (x :: xs) ys = x :: sub46 xs ys := by
  show (if x = 46 then _ else _) = _
  rw [if_neg h]
theorem weave : ∀ (l : List Nat) (ys : List (List Nat)), ys.length = l.count 46 → (spl 46 l).headD [] ++ (List.zipWith (fun i p => i ++ p) ys (spl 46 l).tail).flatten = sub46 l ys
  | [], ys, h => by simp [spl, sub46]
  | x :: xs, ys, h => by
    rw [List.count_cons] at h
    unfold spl sub46
    by_cases hx : x = 46
    · simp only [hx, if_true]
      cases ys with
      | nil => simp [hx] at h
      | cons y ys =>
        have hl : ys.length = xs.count 46 := by simp [hx] at h; exact h
        have ih := weave xs ys hl
        rw [spl_eq 46 xs]
        simp only [List.headD_cons, List.tail_cons, List.zipWith_cons_cons, List.flatten_cons, List.nil_append, List.append_assoc]
        rw [ih]
    · simp only [hx, if_false]
      have hl : ys.length = xs.count 46 := by simp [hx] at h; exact h
      have ih := weave xs ys hl
      simp only [List.headD_cons, List.tail_cons, List.cons_append]
      rw [ih]
theorem count_tree : ∀ t : Tr, t.cs.count 46 = t.lvs
  | .leaf => rfl
  | .node l r => by simp [Tr.cs, Tr.lvs, count_tree l, count_tree r]
theorem count_open : ∀ t : Tr, t.cs.count 40 = t.size
  | .leaf => rfl
  | .node l r => by simp [Tr.cs, Tr.size, count_open l, count_open r]
theorem sub_tree : ∀ (t : Tr) (rest : List Nat) (xs : List Tr), t.lvs ≤ xs.length → sub46 (t.cs ++ rest) (xs.map Tr.cs) = (t.growR xs).1.cs ++ sub46 rest ((t.growR xs).2.map Tr.cs)
  | .leaf, rest, [], h => by simp [Tr.lvs] at h
  | .leaf, rest, x :: xs, h => by simp [Tr.cs, sub46, Tr.growR]
  | .node l r, rest, xs, h => by
    simp only [Tr.lvs] at h
    have hl := Tr.growR_len l xs (by omega)
    show sub46 (40 :: ((l.cs ++ (r.cs ++ [41])) ++ rest)) _ = _
    rw [sub46_other _ _ (by decide), List.append_assoc, sub_tree l _ xs (by omega), List.append_assoc, sub_tree r _ _ (by omega)]
    show _ = (40 :: ((l.growR xs).1.cs ++ ((r.growR (l.growR xs).2).1.cs ++ [41]))) ++ _
    simp only [List.cons_append, List.append_assoc, List.nil_append]
    rw [sub46_other _ _ (by decide)]
    rfl
theorem grown_text (t : Tr) (xs : List Tr) (h : xs.length = t.lvs) :
    (spl 46 t.cs).headD [] ++ (List.zipWith (fun i p => i ++ p) (xs.map Tr.cs) (spl 46 t.cs).tail).flatten = (t.grow xs).cs := by
  rw [weave _ _ (by rw [List.length_map, count_tree]; exact h)]
  have := sub_tree t [] xs (by omega)
  rw [List.append_nil] at this
  rw [this]
  unfold Tr.grow
  show _ ++ [] = _
  rw [List.append_nil]
theorem spl_le (c : Nat) : ∀ l : List Nat, ∀ p ∈ spl c l, p.length ≤ l.length
  | [], p, hp => by simp [spl] at hp; subst hp; simp
  | x :: xs, p, hp => by
    have ih := spl_le c xs
    rw [spl_eq c xs] at ih
    unfold spl at hp
    by_cases h : x = c
    · simp only [h, if_true] at hp
      rcases List.mem_cons.mp hp with rfl | hp
      · simp
      · rw [spl_eq c xs] at hp
        exact Nat.le_succ_of_le (ih p hp)
    · simp only [h, if_false] at hp
      rcases List.mem_cons.mp hp with rfl | hp
      · exact Nat.succ_le_succ (ih _ List.mem_cons_self)
      · exact Nat.le_succ_of_le (ih p (List.mem_cons_of_mem _ hp))
theorem growR_size {B : Nat} : ∀ (t : Tr) (xs : List Tr), (∀ x ∈ xs, x.size ≤ B) → (t.growR xs).1.size ≤ t.size + t.lvs * B ∧ ∀ x ∈ (t.growR xs).2, x.size ≤ B
  | .leaf, [], h => by simp [Tr.growR, Tr.size]
  | .leaf, x :: xs, h => by
    have := h x List.mem_cons_self
    refine ⟨?_, fun y hy => h y (List.mem_cons_of_mem _ hy)⟩
    show x.size ≤ 0 + 1 * B
    omega
  | .node l r, xs, h => by
    obtain ⟨h1, h2⟩ := growR_size l xs h
    obtain ⟨h3, h4⟩ := growR_size r _ h2
    refine ⟨?_, h4⟩
    show (l.growR xs).1.size + (r.growR (l.growR xs).2).1.size + 1 ≤ l.size + r.size + 1 + (l.lvs + r.lvs) * B
    rw [Nat.add_mul]
    omega
theorem grow_size {B : Nat} (t : Tr) (xs : List Tr) (h : ∀ x ∈ xs, x.size ≤ B) : (t.grow xs).size ≤ t.size + t.lvs * B := (growR_size t xs h).1
theorem sumlen_S (ls : List (List Nat)) : ((ls.map S).map (·.length)).sum = ls.flatten.length := by
  induction ls with
  | nil => rfl
  | cons l ls ih => rw [List.map_cons, List.map_cons, List.sum_cons, ih, List.flatten_cons, List.length_append, S_len]
end TT

set_option linter.all false
set_option maxRecDepth 100000
/-! where the parts end: as the program goes along the signs -/
namespace TT
open PySem
def endsRun : List Nat → Nat → List Nat → List Nat → Option (List Nat)
  | [], _, b, st => if st = [] then some b else none
  | c :: cs, k, b, st =>
    if c = 40 then endsRun cs (k + 1) b (k :: st)
    else if c = 41 then
      match st with
      | [] => none
      | o :: st' => if o < b.length then endsRun cs (k + 1) (b.set o (k + 1)) st' else none
    else if k < b.length then endsRun cs (k + 1) (b.set k (k + 1)) st else none
theorem endsRun_open (cs : List Nat) (k : Nat) (b st : List Nat) : endsRun (40 :: cs) k b st = endsRun cs (k + 1) b (k :: st) := rfl
theorem endsRun_close (cs : List Nat) (k o : Nat) (b st : List Nat) (h : o < b.length) : endsRun (41 :: cs) k b (o :: st) = endsRun cs (k + 1) (b.set o (k + 1)) st := by
  show (if o < b.length then _ else _) = _
  rw [if_pos h]
theorem endsRun_dot (cs : List Nat) (k : Nat) (b st : List Nat) (h : k < b.length) : endsRun (46 :: cs) k b st = endsRun cs (k + 1) (b.set k (k + 1)) st := by
  show (if k < b.length then _ else _) = _
  rw [if_pos h]
theorem set_mid (A : List Nat) (x y : Nat) (B : List Nat) : (A ++ x :: B).set A.length y = A ++ y :: B := by
  rw [List.set_append_right _ _ (Nat.le_refl _), Nat.sub_self]; rfl
theorem endsRun_tree : ∀ (t : Tr) (rest : List Nat) (k : Nat) (A B st : List Nat), A.length = k →
    endsRun (t.cs ++ rest) k (A ++ (List.replicate t.len 0 ++ B)) st = endsRun rest (k + t.len) (A ++ (Tr.ends k t ++ B)) st
  | .leaf, rest, k, A, B, st, h => by
    subst h
    show endsRun (46 :: rest) A.length (A ++ (0 :: B)) st = endsRun rest (A.length + 1) (A ++ ((A.length + 1) :: B)) st
    rw [endsRun_dot _ _ _ _ (by simp), set_mid]
  | .node l r, rest, k, A, B, st, h => by
    subst h
    have e : List.replicate (Tr.node l r).len 0 ++ B = 0 :: (List.replicate l.len 0 ++ (List.replicate r.len 0 ++ (0 :: B))) := by
      show List.replicate (l.len + r.len + 2) 0 ++ B = _
      rw [show l.len + r.len + 2 = 1 + l.len + r.len + 1 by omega, ← List.replicate_append_replicate, ← List.replicate_append_replicate, ← List.replicate_append_replicate]
      show (([0] ++ List.replicate l.len 0) ++ List.replicate r.len 0 ++ [0]) ++ B = _
      simp only [List.append_assoc, List.cons_append, List.nil_append]
    rw [e]
    show endsRun (40 :: ((l.cs ++ (r.cs ++ [41])) ++ rest)) A.length _ st = _
    rw [endsRun_open, List.append_assoc]
    have e1 : A ++ 0 :: (List.replicate l.len 0 ++ (List.replicate r.len 0 ++ (0 :: B))) = (A ++ [0]) ++ (List.replicate l.len 0 ++ (List.replicate r.len 0 ++ (0 :: B))) := by simp
    rw [e1, endsRun_tree l _ (A.length + 1) (A ++ [0]) _ _ (by simp), List.append_assoc]
    have e2 : (A ++ [0]) ++ (Tr.ends (A.length + 1) l ++ (List.replicate r.len 0 ++ (0 :: B))) = (A ++ [0] ++ Tr.ends (A.length + 1) l) ++ (List.replicate r.len 0 ++ (0 :: B)) := by simp
    rw [e2, endsRun_tree r _ (A.length + 1 + l.len) _ _ _ (by simp [Tr.ends_length]; omega)]
    show endsRun (41 :: ([] ++ rest)) _ _ (A.length :: st) = _
    rw [endsRun_close _ _ _ _ _ (by simp)]
    have e3 : (A ++ [0] ++ Tr.ends (A.length + 1) l) ++ (Tr.ends (A.length + 1 + l.len) r ++ (0 :: B)) = A ++ 0 :: (Tr.ends (A.length + 1) l ++ (Tr.ends (A.length + 1 + l.len) r ++ (0 :: B))) := by simp
    rw [e3, set_mid]
    have e4 : A.length + 1 + l.len + r.len + 1 = A.length + (Tr.node l r).len := by show _ = A.length + (l.len + r.len + 2); omega
    rw [e4]
    simp only [List.nil_append, Tr.ends, List.cons_append, List.append_assoc]
theorem endsRun_text (t : Tr) : endsRun t.cs 0 (List.replicate t.len 0) [] = some (Tr.ends 0 t) := by
  have := endsRun_tree t [] 0 [] [] [] rfl
  simp only [List.append_nil, List.nil_append] at this
  rw [this]; rfl
/-- what a step says -/
theorem endsRun_step {c : Nat} {cs : List Nat} {k : Nat} {b st F : List Nat} (h : endsRun (c :: cs) k b st = some F) :
    (c = 40 ∧ endsRun cs (k + 1) b (k :: st) = some F) ∨ (c = 41 ∧ ∃ o st', st = o :: st' ∧ o < b.length ∧ endsRun cs (k + 1) (b.set o (k + 1)) st' = some F) ∨
    (c ≠ 40 ∧ c ≠ 41 ∧ k < b.length ∧ endsRun cs (k + 1) (b.set k (k + 1)) st = some F) := by
  by_cases h1 : c = 40
  · subst h1; exact .inl ⟨rfl, h⟩
  by_cases h2 : c = 41
  · subst h2
    cases st with
    | nil => exact nomatch (show (none : Option (List Nat)) = some F from h)
    | cons o st' =>
      have h : (if o < b.length then endsRun cs (k + 1) (b.set o (k + 1)) st' else none) = some F := h
      by_cases h3 : o < b.length
      · rw [if_pos h3] at h; exact .inr (.inl ⟨rfl, o, st', rfl, h3, h⟩)
      · rw [if_neg h3] at h; cases h
  · have h : (if c = 40 then endsRun cs (k + 1) b (k :: st) else if c = 41 then _ else if k < b.length then endsRun cs (k + 1) (b.set k (k + 1)) st else none) = some F := h
    rw [if_neg h1, if_neg h2] at h
    by_cases h3 : k < b.length
    · rw [if_pos h3] at h; exact .inr (.inr ⟨h1, h2, h3, h⟩)
    · rw [if_neg h3] at h; cases h
end TT

set_option linter.all false
set_option maxRecDepth 100000
/-! two trees gone along together: what is still ahead -/
namespace TT
open PySem
abbrev Ag := List (Option (Tr × Tr))
namespace Ag
def tl : Ag → List Nat
  | [] => []
  | none :: r => 41 :: tl r
  | some p :: r => p.1.cs ++ tl r
def tr : Ag → List Nat
  | [] => []
  | none :: r => 41 :: tr r
  | some p :: r => p.2.cs ++ tr r
def hangs : Ag → Option (List Tr)
  | [] => some []
  | none :: r => hangs r
  | some p :: r => (Tr.hang p.1 p.2).bind fun x => (hangs r).map fun y => x ++ y
/-- the parts ahead stand at their places of the first tree's text, of the second's -/
def AtL (T : Tr) : Nat → Ag → Prop
  | _, [] => True
  | k, none :: r => AtL T (k + 1) r
  | k, some p :: r => Tr.Sub T k p.1 ∧ AtL T (k + p.1.len) r
def AtR (T : Tr) : Nat → Ag → Prop
  | _, [] => True
  | k, none :: r => AtR T (k + 1) r
  | k, some p :: r => Tr.Sub T k p.2 ∧ AtR T (k + p.2.len) r
end Ag
theorem cs_head (t : Tr) : ∃ r, t.cs = (if t = .leaf then 46 else 40) :: r := by
  cases t with
  | leaf => exact ⟨[], rfl⟩
  | node l r => exact ⟨_, rfl⟩
theorem Ag.tr_nil {ag : Ag} (h : ag.tr = []) : ag = [] := by
  match ag with
  | [] => rfl
  | none :: r => simp [Ag.tr] at h
  | some p :: r =>
    obtain ⟨q, e⟩ := cs_head p.2
    simp [Ag.tr, e] at h
theorem Ag.tl_nil {ag : Ag} (h : ag.tl = []) : ag = [] := by
  match ag with
  | [] => rfl
  | none :: r => simp [Ag.tl] at h
  | some p :: r =>
    obtain ⟨q, e⟩ := cs_head p.1
    simp [Ag.tl, e] at h
theorem Sub_left {T l r : Tr} {k : Nat} (h : Tr.Sub T k (.node l r)) : Tr.Sub T (k + 1) l := .left h
theorem Sub_right {T l r : Tr} {k : Nat} (h : Tr.Sub T k (.node l r)) : Tr.Sub T (k + 1 + l.len) r := .right h
theorem drop_cons {α : Type} {l : List α} {k : Nat} {x : α} {r : List α} (h : l.drop k = x :: r) : l[k]? = some x ∧ k < l.length ∧ l.drop (k + 1) = r := by
  have hk : k < l.length := by
    by_cases hk : k < l.length
    · exact hk
    · rw [List.drop_eq_nil_of_le (by omega)] at h; cases h
  rw [List.drop_eq_getElem_cons hk] at h
  injection h with h1 h2
  exact ⟨by rw [List.getElem?_eq_getElem hk, h1], hk, h2⟩
theorem drop_app {α : Type} {l a r : List α} {k : Nat} (h : l.drop k = a ++ r) : l.drop (k + a.length) = r := by
  rw [← List.drop_drop, h, List.drop_left]
theorem rixs {l : List Nat} {k c : Nat} {H : L2.Hp} {Q : L2.VK} (hl : l.length ≤ 16000000) (h : l[k]? = some c) (q : Q (.str ⟨#[c]⟩) H) : L2.rIxS (.str (S l)) (.int (k : Nat)) H Q :=
  ⟨S l, (k : Int), c, rfl, rfl, by rw [S_len]; exact small5 hl, L2.atI_nat (by simpa using h), q⟩
theorem rixl {K : PySem.W.Frag} {a : Addr} {xs : List L2.V} {k : Nat} {x : L2.V} {H : L2.Hp} {Q : L2.VK} (ha : H a = some (.lst xs)) (h : xs[k]? = some x) (q : Q x H) : L2.rIxL K (.ref a) (.int (k : Nat)) H Q :=
  ⟨a, xs, (k : Int), x, rfl, rfl, L2.SqL.of ha, L2.atI_nat h, q⟩
namespace Ag
def outs : Ag → List Nat
  | [] => []
  | none :: r => 41 :: outs r
  | some p :: r => (Tr.meet p.1 p.2).cs ++ outs r
end Ag
theorem signs_join (l : List Nat) : Txt.join (S []) (l.map fun c => S [c]) = S l := by
  have e : (l.map fun c => S [c]) = (l.map fun c => [c]).map S := by rw [List.map_map]; rfl
  rw [e, join_S]
  congr 1
  clear e
  induction l with
  | nil => rfl
  | cons a r ih => rw [List.map_cons, List.flatten_cons]; show [a] ++ _ = _; rw [show (List.map (fun c => [c]) r).flatten = r from by simpa using ih]; rfl
theorem signs_sum (l : List Nat) : ((l.map fun c => S [c]).map (·.length)).sum = l.length := by
  induction l with
  | nil => rfl
  | cons a r ih => rw [List.map_cons, List.map_cons, List.sum_cons, ih, S_len]; simp; omega
theorem hang_size : ∀ (s c : Tr) (xs : List Tr), Tr.hang s c = some xs → ∀ x ∈ xs, x.size ≤ s.size
  | s, .leaf, xs, h => by
    simp [Tr.hang] at h; subst h
    intro x hx
    rw [List.mem_singleton.mp hx]
    exact Nat.le_refl _
  | .leaf, .node _ _, xs, h => by simp [Tr.hang] at h
  | .node a b, .node c d, xs, h => by
    simp only [Tr.hang, Option.bind_eq_some_iff, Option.map_eq_some_iff] at h
    obtain ⟨x, hx, y, hy, rfl⟩ := h
    intro z hz
    show z.size ≤ a.size + b.size + 1
    rcases List.mem_append.mp hz with hz | hz
    · have := hang_size a c x hx z hz; omega
    · have := hang_size b d y hy z hz; omega
theorem mem_pick : ∀ (xs ys : List Tr), ∀ x ∈ List.zipWith Tr.pick xs ys, x ∈ xs ∨ x ∈ ys
  | [], _, x, h => by simp at h
  | _ :: _, [], x, h => by simp at h
  | a :: xs, b :: ys, x, h => by
    rw [List.zipWith_cons_cons] at h
    rcases List.mem_cons.mp h with rfl | h
    · unfold Tr.pick
      split
      · exact .inr List.mem_cons_self
      · exact .inl List.mem_cons_self
    · rcases mem_pick xs ys x h with h | h
      · exact .inl (List.mem_cons_of_mem _ h)
      · exact .inr (List.mem_cons_of_mem _ h)
end TT

set_option Elab.async false
set_option linter.all false
set_option maxRecDepth 100000
set_option maxHeartbeats 4000000
/-! TX: errors that are kept as values: made, asked for their class, their field read; repr of plain data. -/
namespace TX
open PySem PySem.Spec PyProof.Rows L2

/-! ### classes -/
/-- what the written part says of an own error class: its line of ancestors, and what its instances are asked by -/
structure ErrC (K : PySem.W.Frag) (C : Addr) (l : List Value) : Prop where
  mro : (PySem.W.clsIn K C).map (·.mro) = some l
  ty : PySem.W.typeIn K (.ref C) = some (.type "type")
  ec : ExcC K C
theorem ErrC.isSome {K : PySem.W.Frag} {C : Addr} {l : List Value} (x : ErrC K C l) : (PySem.W.clsIn K C).isSome = true := by
  have e := x.mro
  cases q : PySem.W.clsIn K C with
  | some _ => rfl
  | none => rw [q] at e; cases e
theorem ErrC.sub {K : PySem.W.Frag} {C : Addr} {l : List Value} (x : ErrC K C l) (hl : l.isEmpty = false) (v : Value) : PySem.W.subIn K (.ref C) v = some (l.contains v) := by
  show PySem.W.mroIn K C v = _
  unfold PySem.W.mroIn
  have e := x.mro
  cases q : PySem.W.clsIn K C with
  | none => rw [q] at e; cases e
  | some cd =>
    rw [q] at e
    have e2 : cd.mro = l := Option.some.inj e
    rw [Option.bind_some, e2, hl]
    rfl
/-- isinstance's answer for two own classes -/
theorem kit_own {K : PySem.W.Frag} {C D : Addr} {l l' : List Value} (x : ErrC K C (.ref C :: l)) (y : ErrC K D l') : PySem.W.kitOne K (.ref C) (.ref D) = some (decide (C = D) || l.contains (.ref D)) := by
  unfold PySem.W.kitOne
  by_cases h : C = D
  · subst h
    simp
  · have e : ((Value.ref C) == (Value.ref D)) = false := beq_eq_false_iff_ne.mpr fun z => h (Value.ref.inj z)
    rw [e, if_neg Bool.false_ne_true]
    unfold PySem.W.kitCls
    dsimp only
    rw [if_pos (by rw [y.isSome, y.ty]; rfl), x.sub rfl, List.contains_cons]
    have e2 : ((Value.ref D) == (Value.ref C)) = false := beq_eq_false_iff_ne.mpr fun z => h (Value.ref.inj z).symm
    rw [e2]
    simp [h]
theorem kit_ve {K : PySem.W.Frag} {C : Addr} {l : List Value} (x : ErrC K C l) (hl : l.isEmpty = false) : PySem.W.kitOne K (.ref C) (.type "ValueError") = some (l.contains (.type "ValueError")) := by
  unfold PySem.W.kitOne
  have e : ((Value.ref C) == (Value.type "ValueError")) = false := rfl
  rw [e, if_neg Bool.false_ne_true]
  unfold PySem.W.kitCls
  dsimp only
  rw [if_pos (by decide +kernel), x.sub hl]

/-! ### an error as a value -/
/-- at a: an error of the class at C with the fields fs -/
def Err (H : Hp) (a C : Addr) (fs : List (Str × V)) : Prop := ∃ d, H a = some (exo a C (some d)) ∧ H d = some (exd d fs)
/-- at a: an error whose __init__ has stored nothing -/
def Err0 (H : Hp) (a C : Addr) : Prop := H a = some (exo a C none)
theorem Err.same {H H' : Hp} {a C : Addr} {fs : List (Str × V)} (e : Err H a C fs) (h : ∀ b o, H b = some o → H' b = some o) : Err H' a C fs :=
  let ⟨d, h1, h2⟩ := e
  ⟨d, h _ _ h1, h _ _ h2⟩

section
variable {X : Cx} {pins : List (Addr × Obj)} {σ : L2.St} {H : Hp} {s : Shared} {a C : Addr} {fs : List (Str × V)}
theorem inst_of (I : Inv X pins σ H s) (e : Err H a C fs ∨ Err0 H a C) : ∃ ox od, PySem.W.InstAt s.heap a ox C od := by
  rcases e with ⟨d, h1, h2⟩ | h1
  · obtain ⟨t1, ho⟩ := exo_at I.hok h1
    obtain ⟨mA, hns, _⟩ := exd_at I.hok h2
    obtain ⟨od, hd, _⟩ := lookIn_ns hns
    exact ⟨_, some od, ho, rfl, rfl, hd⟩
  · obtain ⟨t1, ho⟩ := exo_at I.hok h1
    exact ⟨_, none, ho, rfl, rfl, trivial⟩
end
/-- isinstance(e, c): e an error that is kept -/
def rIsX (K : PySem.W.Frag) : List V → Hp → VK → Prop := fun xs H Q => ∃ (a C : Addr) (fs : List (Str × V)) (c : V) (cv : Value) (b : Bool), xs = [.ref a, c] ∧ ExcC K C ∧ (Err H a C fs ∨ Err0 H a C) ∧ ClsV c cv ∧ PySem.W.kitOne K (.ref C) cv = some b ∧ Q (.bl b) H
theorem call_isX {X : Cx} : CallR X (.builtin "isinstance") (rIsX X.K) := by
  intro pins s σ H xs us Q I r h
  obtain ⟨a, C, fs, c, cv, b, rfl, hC, he, k, e, q⟩ := h
  obtain ⟨u1, u2, rfl, r1, r2⟩ := vals2 r
  cases (show u1 = Value.ref a from r1)
  have e2 := k.eq r2
  subst e2
  obtain ⟨ox, od, J⟩ := inst_of I he
  refine PySem.W.kia_one (PySem.W.kitx_exc (ox := ox) (od := od) ?_ hC.hg hC.hk hC.hs hC.ha hC.hn hC.ht hC.hm) I.kIn J e (fun z => nomatch z) fun tk => ⟨.bl b, H, I.tok tk, rfl, q⟩
  have z := hC.hd
  unfold PySem.W.hasDictIn at z
  cases w : PySem.W.clsIn X.K C with
  | some _ => rfl
  | none => rw [w] at z; cases z
/-- e.f: a field of an error that is kept -/
def tFx (K : PySem.W.Frag) (f : Str) (te : TE) : TE := fun σ H Q => te σ H fun x H1 => ∃ (a C : Addr) (fs : List (Str × V)) (v : V), x = .ref a ∧ XfC K C ∧ PySem.W.findIn K (.ref C) f = some none ∧ Err H1 a C fs ∧ fs.lookup f = some v ∧ Q v H1
theorem pe_fx {X : Cx} {e : Expr} {te : TE} {pos : Pos} {f : Str} (he : PE X e te) (hb : attributeBase e f X.env (eval e X.env) = eval e X.env := by rfl) : PE X (.Attribute e f pos) (tFx X.K f te) := by
  refine ⟨fun pins s σ H Q I h => attr_of hb (thn (he.run pins s σ H _ I h) fun u s1 ⟨x, H1, I1, rx, a, C, fs, v, ex, T, hno, ⟨d, h1, h2⟩, l, q⟩ => ?_)⟩
  subst ex
  cases (show u = Value.ref a from rx)
  obtain ⟨t1, ho⟩ := exo_at I1.hok h1
  obtain ⟨mA, hns, hr⟩ := exd_at I1.hok h2
  obtain ⟨od, hd, hl⟩ := lookIn_ns hns
  obtain ⟨y, hy, ry⟩ := RelO.some_of (v := v) (o := mA f) (by rw [← l]; exact hr f)
  have J : PySem.W.InstAt s1.heap a ({ cls := .ref C, dict := some d, data := .fields #[.ref t1, .none, .none, .none, .bool false, .none] } : Obj) C (some od) := ⟨ho, rfl, rfl, hd⟩
  exact HandSPX.exc_get I1.kIn J T.ga T.gg T.exC (PySem.W.findObj_own T.hdC hno rfl (by rw [hl, hy])) (handed_of ry) ⟨v, H1, I1.tok _, ry, q⟩
/-! ### an error is made -/
/-- C(e, ..): sp is what C's __init__ keeps -/
def tMx (C : Addr) (sp : Sp) (dvs : List V) (ta : TA) : TE := fun σ H Q => ta σ H fun vs H1 => vs.length ≤ 1000 ∧ ∀ a, H1 a = none → sp (.ref a :: (vs ++ dvs)) (upd H1 a (exo a C none)) (fun v H2 => v = .non ∧ Q (.ref a) H2) (fun _ _ _ => False)
section
variable {X : Cx} {CX : CXT} {x : Str} {C fI : Addr} {k : Nat} {fd : FuncData} {ps : List Str} {sp : Sp} {ds : List Value} {dvs : List V} {e : Expr} {es : List Expr} {ta : TA} {p pos : Pos}
theorem run_mx {pins : List (Addr × Obj)} {σ : L2.St} {H1 : Hp} {s1 : Shared} {Q : VK} {us : List Value} {vs : List V} (T : OexC X.K C) (iC : PySem.W.findIn X.K (.ref C) "__init__" = some (some (.ref fI))) (tI : PySem.W.typeIn X.K (.ref fI) = some (.type "function"))
    (F1 : FnOk X.prog X.w X.K X.mg X.base CX k fI fd ps sp) (hr : Room (k + 1) X.A) (hb : Binds X.K fd ps ds) (hd : Vals dvs ds) (hx : Passes CX X (fun _ _ _ => False)) (I1 : Inv X pins σ H1 s1) (r1 : Vals vs us) (hz : vs.length ≤ 1000)
    (q1 : ∀ a, H1 a = none → sp (.ref a :: (vs ++ dvs)) (upd H1 a (exo a C none)) (fun v H2 => v = .non ∧ Q (.ref a) H2) (fun _ _ _ => False)) : wpAny (model X.prog X.w) X.A (call (.ref C) us) (EP X pins σ Q) X.xe s1 := by
  obtain ⟨nm, qn, N, bs, bm, sn, sub, ab, col, dd, k0, k1, k2, k3, k5, hC, hbm⟩ := T.cls
  obtain ⟨hp, g, dr, tk, os⟩ := s1
  have above : hp.objs.size ≤ hp.objs.size + 1 := Nat.le_succ _
  have new : H1 (hp.objs.size + 1) = none := I1.hok.fresh above
  have run := q1 _ new
  have laid : ∀ b o, hp.get? b = some o → ((hp.push (PySem.W.kdv_tup us)).push (PySem.HandSPX.excO C hp.objs.size)).get? b = some o := fun b o z => Heap.get?_push_of_some _ (Heap.get?_push_of_some _ z)
  have there : ((hp.push (PySem.W.kdv_tup us)).push (PySem.HandSPX.excO C hp.objs.size)).get? (hp.objs.size + 1) = some (PySem.HandSPX.excO C hp.objs.size) := by heap_get
  have I2 : Inv X pins σ (upd H1 (hp.objs.size + 1) (exo (hp.objs.size + 1) C none)) ⟨(hp.push (PySem.W.kdv_tup us)).push (PySem.HandSPX.excO C hp.objs.size), g, dr, tk, os⟩ := I1.laid (t' := tk) laid above (exo_ok there)
  have vals : Vals (V.ref (hp.objs.size + 1) :: (vs ++ dvs)) (Value.ref (hp.objs.size + 1) :: (us ++ ds)) := .cons rfl (r1.append hd)
  have many : (Value.ref (hp.objs.size + 1) :: us ++ ds).length = ps.length := vals.length.symm.trans (F1.len _ _ _ _ run)
  have small : us.length ≤ sizeLine := by
    have z := Paired.length r1
    rw [sizeLine_eq]; omega
  have body := F1.run _ X.stack _ _ ⟨Value.ref (hp.objs.size + 1) :: us, []⟩ (Value.ref (hp.objs.size + 1) :: (us ++ ds)) _ _ (fun _ _ _ => False) (hr.make C us []) (I2.env0.make C us []) (hb _ (Value.ref (hp.objs.size + 1) :: us) I2.kIn many) vals run
  have made := PySem.HandSPX.call_own (R := fun r s' => match r with | .ok (.ret v) => EP X pins σ Q v s' | .ok _ => False | .error er => X.xe er s') F.excBase_ValueError (fun Y => PySem.HandSPX.refsVE_contains Y bm hbm) (I1.kIn _ _ hC) (PySem.W.looks_findIn I1.kIn iC) (fun self => PySem.W.bind_fn I1.kIn self tI) small
    (codeAny_mono body fun r s' z => by
      cases r with
      | error er => exact hx pins σ _ _ er s' I2 z
      | ok fl =>
        cases fl with
        | ret u =>
          obtain ⟨v, H2, J, rv, ev, q⟩ := I2.after z
          subst ev
          exact ⟨rv, ⟨V.ref (hp.objs.size + 1), H2, J, rfl, q⟩⟩
        | next => exact False.elim z
        | brk => exact False.elim z
        | cont => exact False.elim z)
  exact wpAny_call made
theorem pe_mx (T : OexC X.K C) (iC : PySem.W.findIn X.K (.ref C) "__init__" = some (some (.ref fI))) (tI : PySem.W.typeIn X.K (.ref fI) = some (.type "function"))
    (F1 : FnOk X.prog X.w X.K X.mg X.base CX k fI fd ps sp) (hr : Room (k + 1) X.A) (hb : Binds X.K fd ps ds) (hd : Vals dvs ds) (hx : Passes CX X (fun _ _ _ => False)) (hg : Gl X x) (hm : X.mg x = some (.ref C)) (ha : PA X (e :: es) ta)
    (hdb : (x == ("__debug__" : Str)) = false := by decide) (he : starEach (e :: es) X.env = (false, eval e X.env) :: starEach es X.env := by rfl) (hpl : (backTo pos (starEach es X.env)).any (·.1) = false := by rfl) : PE X (.Call (.Name x p) (e :: es) [] pos) (tMx C sp dvs ta) := by
  refine ⟨fun pins s σ H Q I h => wpAny_Call_Name_kw (ld_glob I hg hm ?_ hdb)⟩
  exact PySem.W.callWith_K (h₀ := X.base) I.ok.mod.kin T.kC (thn (ha.run pos pins s σ H _ I h) fun us s1 ⟨vs, H1, I1, r1, hz, q1⟩ => ⟨I1.kIn, run_mx T iC tI F1 hr hb hd hx I1 r1 hz q1⟩) he hpl
theorem pe_mx0 (T : OexC X.K C) (iC : PySem.W.findIn X.K (.ref C) "__init__" = some (some (.ref fI))) (tI : PySem.W.typeIn X.K (.ref fI) = some (.type "function"))
    (F1 : FnOk X.prog X.w X.K X.mg X.base CX k fI fd ps sp) (hr : Room (k + 1) X.A) (hb : Binds X.K fd ps ds) (hd : Vals dvs ds) (hx : Passes CX X (fun _ _ _ => False)) (hg : Gl X x) (hm : X.mg x = some (.ref C))
    (hdb : (x == ("__debug__" : Str)) = false := by decide) : PE X (.Call (.Name x p) [] [] pos) (tMx C sp dvs tNil) := by
  refine ⟨fun pins s σ H Q I h => wpAny_Call_Name_kw (ld_glob I hg hm ?_ hdb)⟩
  obtain ⟨hz, q1⟩ := h
  exact PySem.W.callWith_K0 I.kIn T.kC (run_mx (us := []) T iC tI F1 hr hb hd hx I .nil hz q1)
end

/-! ### C(k = v): keywords -/
namespace Kw
open PySem.HandSPX Builtin Builtin.ObjectAttr PySem.W PySem.Calls
section
variable {prog : Program} {w : World} {A : Around} {E : Value → Shared → Prop} {R : Result → Shared → Prop} {h : Heap} {g : Array GenState} {d : Drawn} {t : Nat} {os : OsState}
variable {nm q : Str} {C N : Addr} {bs bm bB : List Value} {hd : Bool} {sn : List Str} {sub : List Value} {ab : Bool} {col : Option Bool} {dd : Option Addr} {k0 k1 k2 k3 k5 : Option Value} {B nI iI : String} {rest : List Value} {kw : List (Str × Value)}
theorem may (F : ExcBaseFacts B nI iI bB) (hT : ∀ Y : String, bm.contains (.type Y) = bB.contains (.type Y)) {M : Model} {E' : Value → Shared → Prop} {Q : Unit → Shared → Prop}
    (hC : h.get? C = some (excClassObj nm q C N bs bm hd sn sub ab col dd k0 k1 k2 k3 k5 nI)) (hq : Q () ⟨h, g, d, t, os⟩) : wpAny M A (checkBuiltinCall nI ⟨.ref C :: rest, kw⟩) Q E' ⟨h, g, d, t, os⟩ := by
  have inB : (Value.ref C :: bm).contains (.type B) = true := by
    rw [List.contains_cons, hT, F.hasB, Bool.or_true]
  have star := F.noStar
  simp only [checkBuiltinCall, F.newKind, F.newSplit, F.newRow]
  repeat (first | refine wpAny_loadPart_at hC ?_ | (refine wpAny_isSubtype_exc hC ?_; rw [inB]) | refine wpAny_staticBase_exc hC ?_ | refine wpAny_madeBy_exc hC ?_ | simp only [bne_self_eq_false, Bool.false_eq_true, if_false] | wp_step)
  exact hq
theorem anew (F : ExcBaseFacts B nI iI bB) (hT : ∀ Y : String, bm.contains (.type Y) = bB.contains (.type Y)) (hC : h.get? C = some (excClassObj nm q C N bs bm hd sn sub ab col dd k0 k1 k2 k3 k5 nI))
    (hq : R (.ok (.ret (.ref (h.objs.size + 1)))) ⟨(h.push (kdv_tup rest)).push (excO C h.objs.size), g, d, t, os⟩) (hz : rest.length ≤ sizeLine) : codeAny (model prog w) A (.builtin nI ⟨.ref C :: rest, kw⟩) R ⟨h, g, d, t, os⟩ := by
  have fin := F.ends
  have inB : (Value.ref C :: bm).contains (.type B) = true := by
    rw [List.contains_cons, hT, F.hasB, Bool.or_true]
  have inA : (Value.ref C :: bm).contains (.type "AttributeError") = false := by
    rw [List.contains_cons, hT, F.noAttr]; rfl
  have inN : (Value.ref C :: bm).contains (.type "NameError") = false := by
    rw [List.contains_cons, hT, F.noName]; rfl
  refine codeAny_builtinAt F.entry ?_
  unfold Builtin.«BaseException.__new__»
  refine PySem.wpAt_bind ?_
  show PySem.wpAt _ _ _ (stack >>= _) _ _ _
  refine PySem.wpAt_bind (PySem.wpAt_stack fun _ _ => PySem.wpAt_of_wpAny ?_)
  wp_walk
  refine PySem.wpAt_of_wpAny ?_
  rw [F.owner]
  repeat (first | with_reducible refine wpAny_madeHere_exc F.canon hC ?_ | with_reducible refine wpAny_loadPart_at hC ?_ | (with_reducible refine wpAny_isSubtype_exc hC ?_; first | rw [inB] | rw [inA] | rw [inN]) | wp_step)
  show R _ _
  rw [Heap.size_push]
  exact hq
theorem made (F : ExcBaseFacts B nI iI bB) (hT : ∀ Y : String, bm.contains (.type Y) = bB.contains (.type Y)) {fI : Addr} {Q : Fin → Shared → Prop} {E' : Value → Shared → Prop}
    (hC : h.get? C = some (excClassObj nm q C N bs bm hd sn sub ab col dd k0 k1 k2 k3 k5 nI)) (hi : Looks (model prog w) h (typeLookup (.ref C) "__init__") (some (.ref fI))) (hb : ∀ self, Looks (model prog w) h (bindSpecial (.ref fI) self) (.ref fI, [self])) (hz : rest.length ≤ sizeLine)
    (hq : codeAny (model prog w) A (.call (.ref fI) ⟨.ref (h.objs.size + 1) :: rest, kw⟩) (fun r s' => match r with | .ok (.ret v) => v = .none ∧ Q (.done (.ret (.ref (h.objs.size + 1)))) s' | .ok _ => False | .error e => E' e s')
      ⟨(h.push (kdv_tup rest)).push (excO C h.objs.size), g, d, t, os⟩) : wpAny (model prog w) A (Builtin.«type.__call__» ⟨.ref C :: rest, kw⟩) Q E' ⟨h, g, d, t, os⟩ := by
  repeat (first | with_reducible refine wpAny_loadPart_at hC ?_ | with_reducible refine wpAny_madeBy_exc hC ?_ | wp_step)
  refine codeAny_call_builtin_code (Code.quiet_builtin _ F.quiet) (may F hT hC ?_)
  refine anew F hT hC ?_ hz
  show wpAny _ _ _ _ _ _
  have up : ∀ b o, h.get? b = some o → ((h.push (kdv_tup rest)).push (excO C h.objs.size)).get? b = some o := fun b o z => Heap.get?_push_of_some _ (Heap.get?_push_of_some _ z)
  have hC2 := up _ _ hC
  have self : ((h.push (kdv_tup rest)).push (excO C h.objs.size)).get? (h.objs.size + 1) = some (excO C h.objs.size) := by heap_get
  have own : (Value.ref C :: bm).contains (.ref C) = true := by simp
  have i2 := hi.keeps up
  have b2 := (hb (.ref (h.objs.size + 1))).keeps up
  unfold isInstance
  repeat (first | with_reducible refine wpAny_loadPart_at self ?_ | (with_reducible refine wpAny_isSubtype_exc hC2 ?_; rw [own]) | wp_step)
  show wpAny _ _ (typeLookup (.ref C) _) _ _ _
  refine i2.at (wpAny_holding (wpAny_bind (b2.at (wpAny_bind (wpAny_call (codeAny_mono hq fun r s' z => ?_))))))
  rcases r with e | (v | _ | _ | _) <;> first | exact z | exact z.elim | skip
  obtain ⟨rfl, z⟩ := z
  first
    | exact wpAny_pure (wpAny_pure z)
    | (wp_walk; exact z)
theorem called (F : ExcBaseFacts B nI iI bB) (hT : ∀ Y : String, bm.contains (.type Y) = bB.contains (.type Y)) {fI : Addr} (hC : h.get? C = some (excClassObj nm q C N bs bm hd sn sub ab col dd k0 k1 k2 k3 k5 nI))
    (hi : Looks (model prog w) h (typeLookup (.ref C) "__init__") (some (.ref fI))) (hb : ∀ self, Looks (model prog w) h (bindSpecial (.ref fI) self) (.ref fI, [self])) (hz : rest.length ≤ sizeLine)
    (hq : codeAny (model prog w) (A.under (.builtin "type.__call__" ⟨.ref C :: rest, kw⟩)) (.call (.ref fI) ⟨.ref (h.objs.size + 1) :: rest, kw⟩) (InitBack (h.objs.size + 1) R) ⟨(h.push (kdv_tup rest)).push (excO C h.objs.size), g, d, t, os⟩) :
    codeAny (model prog w) A (.call (.ref C) ⟨rest, kw⟩) R ⟨h, g, d, t, os⟩ := by
  have f1 := tc_lookup
  have f2 := tc_bind (.ref C)
  have ty : (⟨h, g, d, t, os⟩ : Shared).TypeIs (.ref C) "type" := ⟨_, hC, rfl⟩
  refine codeAny_of_tree ?_
  show wpAny _ _ (callAny (.ref C) _) _ _ _
  repeat (any_goals (first | assumption | with_reducible refine wpAny_loadPart_at hC ?_ | wp_step))
  refine ⟨rfl, codeAny_call_builtin_at (Code.quiet_builtin _ (by decide +kernel)) entry_typeCall (wpAny_check_type_call_sub hC (made F hT hC hi hb hz (codeAny_mono hq fun r s' z => ?_)))⟩
  rcases r with e | (v | _ | _ | _) <;> exact z
end
end Kw
/-- defaults, no keyword-only parameters; the keywords fill the places of the defaults -/
theorem kbinds1 {K : PySem.W.Frag} {x qual : Str} {params : Arguments} {body : List Stmt} {scope : Scope} {dvs : List V} {f : Addr} {fd : FuncData} {ps ks : List Str} {n : Nat} (F : FunD K x qual params body scope dvs [] f fd) (hd : dvs ≠ [])
    (h : ∀ (T : Addr) (kV doc pm : Value) (an : Option Addr) (cdv ct : Value) (us its ws : List Value), us.length = n → its.length = dvs.length → ws.length = ks.length →
      ∃ k, bindArgs (PySem.W.fnOf x qual params body scope (.ref T) kV doc pm an cdv ct) ⟨us, ks.zip ws⟩ = seqItems? (.ref T) >>= k ∧ k (some its.toArray) = pure (ps.zip (us ++ ws))) : KBn K fd ps n ks (fun us ws => us ++ ws) (fun vs zs => vs ++ zs) := by
  obtain ⟨oc, od, dV, kV, doc, pm, an, cdv, ct, osl, rfl, lk, hcd, hD, hK⟩ := F.ex
  rcases hD with ⟨e, _⟩ | ⟨_, T, o, its, m, rfl, lT, oT, rT⟩
  · exact absurd e hd
  · refine ⟨fun s us ws X l1 l2 => BindsTo.of_looks fun M => ?_, fun r1 r2 => r1.append r2⟩
    obtain ⟨k, e1, e2⟩ := h T kV doc pm an cdv ct us its ws l1 rT.length.symm l2
    rw [e1]
    exact looks_items X lT oT (.of_pure e2)
def tMxK (C : Addr) (m : Nat) (sp : Sp) (tk : TA) : TE := fun σ H Q => tk σ H fun zs H1 => zs.length = m ∧ ∀ a, H1 a = none → sp (.ref a :: zs) (upd H1 a (exo a C none)) (fun v H2 => v = .non ∧ Q (.ref a) H2) (fun _ _ _ => False)
section
variable {X : Cx} {CX : CXT} {x : Str} {C fI : Addr} {k : Nat} {fd : FuncData} {ps ks : List Str} {sp : Sp} {kws : List Keyword} {tk : TA} {p pos : Pos}
theorem run_mxK {pins : List (Addr × Obj)} {σ : L2.St} {H1 : Hp} {s1 : Shared} {Q : VK} {ws : List Value} {zs : List V} (T : OexC X.K C) (iC : PySem.W.findIn X.K (.ref C) "__init__" = some (some (.ref fI))) (tI : PySem.W.typeIn X.K (.ref fI) = some (.type "function"))
    (F1 : FnOk X.prog X.w X.K X.mg X.base CX k fI fd ps sp) (hr : Room (k + 1) X.A) (hb : KBn X.K fd ps 1 ks (fun us ws => us ++ ws) (fun vs zs => vs ++ zs)) (hx : Passes CX X (fun _ _ _ => False)) (I1 : Inv X pins σ H1 s1) (rz : Vals zs ws) (hz : zs.length = ks.length)
    (q1 : ∀ a, H1 a = none → sp (.ref a :: zs) (upd H1 a (exo a C none)) (fun v H2 => v = .non ∧ Q (.ref a) H2) (fun _ _ _ => False)) : wpAny (model X.prog X.w) X.A (call (.ref C) [] (ks.zip ws)) (EP X pins σ Q) X.xe s1 := by
  obtain ⟨nm, qn, N, bs, bm, sn, sub, ab, col, dd, k0, k1, k2, k3, k5, hC, hbm⟩ := T.cls
  obtain ⟨hp, g, dr, tn, os⟩ := s1
  have above : hp.objs.size ≤ hp.objs.size + 1 := Nat.le_succ _
  have run := q1 _ (I1.hok.fresh above)
  have laid : ∀ b o, hp.get? b = some o → ((hp.push (PySem.W.kdv_tup [])).push (PySem.HandSPX.excO C hp.objs.size)).get? b = some o := fun b o z => Heap.get?_push_of_some _ (Heap.get?_push_of_some _ z)
  have there : ((hp.push (PySem.W.kdv_tup [])).push (PySem.HandSPX.excO C hp.objs.size)).get? (hp.objs.size + 1) = some (PySem.HandSPX.excO C hp.objs.size) := by heap_get
  have I2 : Inv X pins σ (upd H1 (hp.objs.size + 1) (exo (hp.objs.size + 1) C none)) ⟨(hp.push (PySem.W.kdv_tup [])).push (PySem.HandSPX.excO C hp.objs.size), g, dr, tn, os⟩ := I1.laid (t' := tn) laid above (exo_ok there)
  have body := F1.run _ X.stack _ _ ⟨[Value.ref (hp.objs.size + 1)], ks.zip ws⟩ (Value.ref (hp.objs.size + 1) :: ws) (V.ref (hp.objs.size + 1) :: zs) _ (fun _ _ _ => False) (hr.make C [] (ks.zip ws)) (I2.env0.make C [] (ks.zip ws)) (hb.to _ [Value.ref (hp.objs.size + 1)] ws I2.kIn rfl (rz.length.symm.trans hz)) (Paired.cons (show RelV (V.ref _) _ from rfl) rz) run
  exact wpAny_call (Kw.called (R := fun r s' => match r with | .ok (.ret v) => EP X pins σ Q v s' | .ok _ => False | .error er => X.xe er s') F.excBase_ValueError (fun Y => PySem.HandSPX.refsVE_contains Y bm hbm) (I1.kIn _ _ hC) (PySem.W.looks_findIn I1.kIn iC) (fun self => PySem.W.bind_fn I1.kIn self tI) (Nat.zero_le _)
    (codeAny_mono body fun r s' z => by
      cases r with
      | error er => exact hx pins σ _ _ er s' I2 z
      | ok fl =>
        cases fl with
        | ret u =>
          obtain ⟨v, H2, J, rv, ev, q⟩ := I2.after z
          subst ev
          exact ⟨rv, ⟨V.ref (hp.objs.size + 1), H2, J, rfl, q⟩⟩
        | next => exact False.elim z
        | brk => exact False.elim z
        | cont => exact False.elim z))
end
/-! ### own error classes with one field -/
/-- what their __init__ keeps: self.f = y -/
def SpI (C : Addr) (f : Str) : Sp := fun vs H Q _ => ∃ a y, vs = [.ref a, y] ∧ H a = some (exo a C none) ∧ ∀ dx, H dx = none → dx ≠ a → Q .non (upd (upd H dx (exd dx [(f, y)])) a (exo a C (some dx)))
structure OwnE (K : PySem.W.Frag) (mg : Str → Option Value) (x : Str) (C : Addr) (f p : Str) : Prop where
  m : mg x = some (.ref C)
  ox : OexC K C
  ex : ∃ fI fd, PySem.W.findIn K (.ref C) "__init__" = some (some (.ref fI)) ∧ PySem.W.typeIn K (.ref fI) = some (.type "function") ∧ (∃ ds, Vals [V.non] ds ∧ Binds K fd ["self", p] ds) ∧ Binds K fd ["self", p] [] ∧
    KBn K fd ["self", p] 1 [p] (fun us ws => us ++ ws) (fun vs zs => vs ++ zs) ∧ ∀ P w base, FnOk P w K mg base CX0 1 fI fd ["self", p] (SpI C f)
/-- the reading: an error of the class at C with the field f -/
def tErr (C : Addr) (f : Str) (ta : TA) : TE := fun σ H Q => ta σ H fun vs H1 => ∃ y, vs = [y] ∧ ∀ a H2, Same H1 H2 → H1 a = none → Err H2 a C [(f, y)] → Q (.ref a) H2
theorem spi_of {C : Addr} {f : Str} {y : V} {H1 : Hp} {Q : VK} {E : XK} (h : ∀ a H2, Same H1 H2 → H1 a = none → Err H2 a C [(f, y)] → Q (.ref a) H2) (a : Addr) (na : H1 a = none) : SpI C f [.ref a, y] (upd H1 a (exo a C none)) (fun v H2 => v = .non ∧ Q (.ref a) H2) E := by
  refine ⟨a, y, rfl, upd_same, fun dx nd ne => ⟨rfl, h a _ (fun b o e => ?_) na ⟨dx, upd_same, ?_⟩⟩⟩
  · have e1 : b ≠ a := fun z => by rw [z, na] at e; cases e
    rw [upd_ne ne] at nd
    have e2 : b ≠ dx := fun z => by rw [z, nd] at e; cases e
    rw [upd_ne e1, upd_ne e2, upd_ne e1]
    exact e
  · rw [upd_ne ne, upd_same]
section
variable {X : Cx} {x f q : Str} {C : Addr} {e : Expr} {te : TE} {p pos : Pos}
theorem pe_err (O : OwnE X.K X.mg x C f q) (hr : Room 2 X.A) (hg : Gl X x) (he : PE X e te)
    (hdb : (x == ("__debug__" : Str)) = false := by decide) (hs : starEach [e] X.env = (false, eval e X.env) :: starEach [] X.env := by rfl) : PE X (.Call (.Name x p) [e] [] pos) (tErr C f (tCons te tNil)) := by
  obtain ⟨fI, fd, iC, tI, _, b1, _, ok⟩ := O.ex
  refine ⟨fun pins s σ H Q I h => wpAny_Call_Name_kw (ld_glob I hg O.m ?_ hdb)⟩
  exact PySem.W.callWith_K (h₀ := X.base) I.ok.mod.kin O.ox.kC (thn ((pa_cons he pa_nil hs).run pos pins s σ H _ I h) fun us s1 ⟨vs, H1, I1, r1, y, ey, q1⟩ => ⟨I1.kIn, by
    subst ey
    exact run_mx (vs := [y]) (dvs := []) O.ox iC tI (ok X.prog X.w X.base) hr b1 .nil pass0 I1 r1 (by simp) (fun a na => spi_of q1 a na)⟩) hs (by rfl)
theorem pe_err0 (O : OwnE X.K X.mg x C f q) (hr : Room 2 X.A) (hg : Gl X x) (hdb : (x == ("__debug__" : Str)) = false := by decide) : PE X (.Call (.Name x p) [] [] pos) (tErr C f (tCons (tC .non) tNil)) := by
  obtain ⟨fI, fd, iC, tI, ⟨ds, hd, b0⟩, _, _, ok⟩ := O.ex
  refine ⟨fun pins s σ H Q I h => wpAny_Call_Name_kw (ld_glob I hg O.m ?_ hdb)⟩
  have h' : ∃ y, [V.non] = [y] ∧ ∀ a H2, Same H H2 → H a = none → Err H2 a C [(f, y)] → Q (.ref a) H2 := h
  obtain ⟨y, ey, q1⟩ := h'
  cases ey
  exact PySem.W.callWith_K0 I.kIn O.ox.kC (run_mx (us := []) (vs := []) (dvs := [V.non]) O.ox iC tI (ok X.prog X.w X.base) hr b0 hd pass0 I .nil (by simp) (fun a na => spi_of q1 a na))
theorem pe_errK {kp : Pos} (O : OwnE X.K X.mg x C f q) (hr : Room 2 X.A) (hg : Gl X x) (he : PE X e te) (hdb : (x == ("__debug__" : Str)) = false := by decide) 
    (hall : (backToKw pos (keywordEach [⟨some q, e, kp⟩] X.env)).all (·.1.isSome) = true := by rfl) (hks : (backToKw pos (keywordEach [⟨some q, e, kp⟩] X.env)).filterMap (·.1) = [q] := by rfl)
    (hpl : ((backTo pos (starEach [] X.env)).any (·.1) || (backToKw pos (keywordEach [⟨some q, e, kp⟩] X.env)).any (·.1.isNone)) = false := by rfl) : PE X (.Call (.Name x p) [] [⟨some q, e, kp⟩] pos) (tErr C f (tCons te tNil)) := by
  obtain ⟨fI, fd, iC, tI, _, _, bk, ok⟩ := O.ex
  refine ⟨fun pins s σ H Q I h => wpAny_Call_Name_kw (ld_glob I hg O.m ?_ hdb)⟩
  refine PySem.W.callWith_KW0 (h₀ := X.base) I.ok.mod.kin O.ox.kC hall ?_ hpl
  refine thn ((pk_cons he pk_nil).run pos pins s σ H _ I h) fun ws s1 ⟨zs, H1, I1, rz, y, ey, q1⟩ => ⟨I1.kIn, ?_⟩
  subst ey
  rw [hks]
  exact run_mxK O.ox iC tI (ok X.prog X.w X.base) hr bk pass0 I1 rz rfl (fun a na => spi_of q1 a na)
end
/-- C(), C an own error class without an __init__ of its own -/
def tErr0 (C : Addr) : TE := fun _ H Q => ∀ a, H a = none → Q (.ref a) (upd H a (exo a C none))
theorem pe_bare {X : Cx} {C : Addr} {bB : List Value} {B nI iI : String} {x : Str} {p pos : Pos} (F : ExcBaseFacts B nI iI bB) (q : PySem.W.excIn X.K C bB nI = true) (gC : X.mg x = some (.ref C)) (kC : PySem.W.keepIn X.K (.ref C) = true) (hg : Gl X x)
    (hdb : (x == ("__debug__" : Str)) = false := by decide) : PE X (.Call (.Name x p) [] [] pos) (tErr0 C) := by
  refine ⟨fun pins s σ H Q I h => wpAny_Call_Name_kw (ld_glob I hg gC ?_ hdb)⟩
  refine PySem.W.callWith_K0 I.kIn kC ?_
  obtain ⟨bm, N, nm, qn, bs, hdct, sn, sub, ab, col, dd, k0, k1, k2, k3, k5, mN, hC, hN, hni, T⟩ := exc_obj I.kIn q
  refine wpAny_call_exc_subT F T hC hN hni (fun h' a hm => ?_) (Nat.zero_le _)
  have hn : H a = none := I.hok.gone hm.new
  obtain ⟨t, ht, _, _⟩ := hm.there
  exact ⟨.ref a, _, I.laidN hm.keeps hm.new hn (exo_ok ht), rfl, h a hn⟩
end TX

set_option Elab.async false
set_option linter.all false
set_option maxRecDepth 100000
set_option maxHeartbeats 4000000
/-! TR: repr of plain data; defs that ask for it (no repr is under way around them). -/
namespace TR
open PySem PySem.Spec PyProof.Rows L2

/-! ### plain data over the abstract heap -/
def keyD : Key → PyData
  | .inl i => .int i
  | .inr x => .str x
mutual
inductive DV (H : Hp) (c : Bool) : V → PyData → Prop
  | non : DV H c .non .none
  | bl (b : Bool) : DV H c (.bl b) (.bool b)
  | int (i : Int) : DV H c (.int i) (.int i)
  | str (x : Str) : DV H c (.str x) (.str x)
  | lst {a : Addr} {xs : List V} {ds : List PyData} : (c = true → a ≠ sysModules) → H a = some (.lst xs) → DVs H c xs ds → DV H c (.ref a) (.list ds)
  | tup {a : Addr} {xs : List V} {ds : List PyData} : H a = some (.tup xs) → DVs H c xs ds → DV H c (.ref a) (.tuple ds)
  | dic {a : Addr} {kvs : List (Key × V)} {ds : List (PyData × PyData)} : H a = some (.dK kvs) → DVk H c kvs ds → DV H c (.ref a) (.dict ds)
inductive DVs (H : Hp) (c : Bool) : List V → List PyData → Prop
  | nil : DVs H c [] []
  | cons {x : V} {d : PyData} {xs : List V} {ds : List PyData} : DV H c x d → DVs H c xs ds → DVs H c (x :: xs) (d :: ds)
inductive DVk (H : Hp) (c : Bool) : List (Key × V) → List (PyData × PyData) → Prop
  | nil : DVk H c [] []
  | cons {k : Key} {x : V} {d : PyData} {xs : List (Key × V)} {ds : List (PyData × PyData)} : DV H c x d → DVk H c xs ds → DVk H c ((k, x) :: xs) ((keyD k, d) :: ds)
end
mutual
theorem DV.same {H H' : Hp} {c : Bool} (h : ∀ a o, H a = some o → H' a = some o) : ∀ {x : V} {d : PyData}, DV H c x d → DV H' c x d
  | _, _, .non => .non
  | _, _, .bl b => .bl b
  | _, _, .int i => .int i
  | _, _, .str x => .str x
  | _, _, .lst z e r => .lst z (h _ _ e) (DVs.same h r)
  | _, _, .tup e r => .tup (h _ _ e) (DVs.same h r)
  | _, _, .dic e r => .dic (h _ _ e) (DVk.same h r)
theorem DVs.same {H H' : Hp} {c : Bool} (h : ∀ a o, H a = some o → H' a = some o) : ∀ {x : List V} {d : List PyData}, DVs H c x d → DVs H' c x d
  | _, _, .nil => .nil
  | _, _, .cons r t => .cons (DV.same h r) (DVs.same h t)
theorem DVk.same {H H' : Hp} {c : Bool} (h : ∀ a o, H a = some o → H' a = some o) : ∀ {x : List (Key × V)} {d : List (PyData × PyData)}, DVk H c x d → DVk H' c x d
  | _, _, .nil => .nil
  | _, _, .cons r t => .cons (DV.same h r) (DVk.same h t)
end
theorem pairs_rd {P : Program} {w : World} : ∀ {es : List DictEntry} {kvs : List (Key × V)} {vs : List (Key × Value)}, PySem.Pairs (mixKind P w) es vs → KV kvs vs →
    Paired (fun (p : Key × V) (e : DictEntry) => keyIs p.1 e.key = true ∧ RelV p.2 e.val) kvs es
  | _, _, _, .nil, .nil => .nil
  | _, _, _, .cons h1 h2 t, .cons r k => .cons ⟨by rw [r.1]; exact h1, by rw [h2]; exact r.2⟩ (pairs_rd t k)
theorem key_rd {h : Heap} {k : Key} {v : Value} (e : keyIs k v = true) : Reads h v (keyD k) [] := by
  rcases keyIs_shape e with ⟨i, t, rfl, rfl⟩ | ⟨x, t, rfl, rfl⟩
  · exact .int i t
  · exact .str x t
section
variable {P : Program} {w : World} {H : Hp} {h : Heap} {c : Bool}
mutual
theorem DV.rd (ok : HOk P w H h) : ∀ {x : V} {d : PyData} {u : Value}, DV H c x d → RelV x u → ∃ as, Reads h u d as ∧ (c = true → sysModules ∉ as)
  | _, _, _, .non, r => by cases (show _ = Value.none from r); exact ⟨_, .none, fun _ => by simp⟩
  | _, _, _, .bl b, r => by cases (show _ = Value.bool b from r); exact ⟨_, .bool b, fun _ => by simp⟩
  | _, _, _, .int i, r => by obtain ⟨t, rfl⟩ := (show ∃ t, _ = Value.int i t from r); exact ⟨_, .int i t, fun _ => by simp⟩
  | _, _, _, .str x, r => by obtain ⟨t, rfl⟩ := (show ∃ t, _ = Value.str x t from r); exact ⟨_, .str x t, fun _ => by simp⟩
  | _, _, _, @DV.lst _ _ a xs ds y e q, r => by
    cases (show _ = Value.ref a from r)
    obtain ⟨_, its, n, rv, g⟩ := (show ObjOk P w H h a (.lst xs) from ok a _ e)
    obtain ⟨as, z, zs⟩ := DVs.rd ok q rv
    exact ⟨_, .list (vs := its.toArray) g rfl rfl z, fun hc => by simpa using ⟨(y hc).symm, zs hc⟩⟩
  | _, _, _, @DV.tup _ _ a xs ds e q, r => by
    cases (show _ = Value.ref a from r)
    obtain ⟨_, its, rv, o, g, k, n, dt⟩ := (show ObjOk P w H h a (.tup xs) from ok a _ e)
    obtain ⟨as, z, zs⟩ := DVs.rd ok q rv
    exact ⟨_, .tuple (vs := its.toArray) g k dt z, zs⟩
  | _, _, _, @DV.dic _ _ a kvs ds e q, r => by
    cases (show _ = Value.ref a from r)
    obtain ⟨_, sm, vs, kv, o, es, ep, g, k, dt, _, pr, _⟩ := (show ObjOk P w H h a (.dK kvs) from ok a _ e)
    obtain ⟨as, bs, z1, z2, z3, z4⟩ := DVk.rd ok q (pairs_rd pr kv)
    exact ⟨_, .dict g k.1 dt z1 z2, fun hc => by simpa using ⟨(beq_eq_false_iff_ne.mp sm).symm, z3 hc, z4 hc⟩⟩
theorem DVs.rd (ok : HOk P w H h) : ∀ {x : List V} {d : List PyData} {u : List Value}, DVs H c x d → Vals x u → ∃ as, ReadsAll h u d as ∧ (c = true → sysModules ∉ as)
  | _, _, _, .nil, .nil => ⟨_, .nil, fun _ => by simp⟩
  | _, _, _, .cons q t, .cons r s => by
    obtain ⟨_, z, y⟩ := DV.rd ok q r
    obtain ⟨_, z', y'⟩ := DVs.rd ok t s
    exact ⟨_, .cons z z', fun hc => by simpa using ⟨y hc, y' hc⟩⟩
theorem DVk.rd (ok : HOk P w H h) : ∀ {x : List (Key × V)} {d : List (PyData × PyData)} {es : List DictEntry}, DVk H c x d → Paired (fun (p : Key × V) (e : DictEntry) => keyIs p.1 e.key = true ∧ RelV p.2 e.val) x es →
    ∃ as bs, ReadsAll h (es.map (·.key)) (d.map (·.1)) as ∧ ReadsAll h (es.map (·.val)) (d.map (·.2)) bs ∧ (c = true → sysModules ∉ as) ∧ (c = true → sysModules ∉ bs)
  | _, _, _, .nil, .nil => ⟨_, _, .nil, .nil, fun _ => by simp, fun _ => by simp⟩
  | _, _, _, .cons q t, .cons r s => by
    obtain ⟨_, z, y⟩ := DV.rd ok q r.2
    obtain ⟨_, _, z1, z2, z3, z4⟩ := DVk.rd ok t s
    exact ⟨_, _, .cons (key_rd r.1) z1, .cons z z2, fun hc => by simpa using z3 hc, fun hc => by simpa using ⟨y hc, z4 hc⟩⟩
end
end
/-- repr(x) of plain data -/
def rRepr : List V → Hp → VK → Prop := fun xs H Q => ∃ (a : Addr) (d : PyData) (c : Bool), xs = [.ref a] ∧ DV H c (.ref a) d ∧ (d.hasDict = true → c = true) ∧ d.showable = true ∧ d.depth ≤ 60 ∧ d.shown.length ≤ sizeLine ∧ Q (.str d.shown) H
theorem cr_repr {X : Cx} (hg : X.A.guards = some []) (hu : X.A.units + 64 < cLine) : CallR X (.builtin "repr") rRepr := by
  intro pins s σ H xs us Q I r h
  obtain ⟨a, d, c, rfl, hd, hc, hs, hp, hz, q⟩ := h
  obtain ⟨u, rfl, ru⟩ := r.one
  cases (show u = Value.ref a from ru)
  obtain ⟨as, rd, ap⟩ := DV.rd I.hok hd (show RelV (.ref a) (.ref a) from rfl)
  exact repr_of_reads' rd hs (fun z => ap (hc z)) hg (by omega) (fun _ _ z => z) (fun h' u tk hk => ⟨.str d.shown, H, I.kept (t' := tk) hk, ⟨u, rfl⟩, q⟩) hz

/-! ### lists whose address is known not to be the table of modules -/
def rCatN : R2 := fun x y H Q => ∃ l b xs zs, x = .ref l ∧ y = .ref b ∧ H l = some (.lst xs) ∧ H b = some (.lst zs) ∧ xs.length + zs.length ≤ sizeLine ∧ ∀ p, H p = none → p ≠ sysModules → Q (.ref p) (upd H p (.lst (xs ++ zs)))
theorem op_catN {X : Cx} : OpR X (binaryOp .Add) rCatN := by
  intro pins s σ H x y v u Q I rx ry hh
  obtain ⟨l, b, xs, zs, e1, e2, hl, hb, hz, k⟩ := hh
  subst e1 e2
  cases rx
  cases ry
  obtain ⟨_, us, n, rl, ll, gl⟩ := I.lstM hl
  obtain ⟨_, ws, m, rb, lb, gb⟩ := I.lstM hb
  refine PySem.P.add_list gl gb ?_ (by simp only [List.size_toArray]; omega)
  rw [show us.toArray ++ ws.toArray = (us ++ ws).toArray by simp]
  exact ⟨.ref _, _, I.lnew (t' := s.toks) (rl.append rb) (by simpa using hz), rfl, k _ I.fresh (Nat.ne_of_gt I.big)⟩
def rRepN : R2 := fun x y H Q => ∃ l z k, x = .ref l ∧ y = .int k ∧ H l = some (.lst [z]) ∧ 0 ≤ k ∧ k ≤ 1000 ∧ ∀ p, H p = none → p ≠ sysModules → Q (.ref p) (upd H p (.lst (List.replicate k.toNat z)))
theorem op_repN {X : Cx} : OpR X (binaryOp .Mult) rRepN := by
  intro pins s σ H x y v u Q I rx ry hh
  obtain ⟨l, z, k, e1, e2, hl, k0, k1, go⟩ := hh
  subst e1 e2
  cases rx
  obtain ⟨tk, rfl⟩ := ry
  obtain ⟨_, us, n, rl, ll, gl⟩ := I.lstM hl
  have small : us.toArray.size * k.toNat ≤ sizeLine := by
    rw [List.size_toArray, ← ll, sizeLine_eq]; simp; omega
  have cap : ¬ us.toArray.size * k.toNat > (2 ^ 63 - 1) / 8 := by
    have : (sizeLine : Nat) ≤ (2 ^ 63 - 1) / 8 := by decide
    omega
  have fits : ¬ (!Builtin.List.listFitsIndex k) = true := by
    rw [fitsIndex_both (by omega) (by omega)]; decide
  have long : ¬ Builtin.List.listTooLong (us.toArray.size * k.toNat) = true := by
    rw [notLongL small]; decide
  have all : List.foldl (fun x1 x2 => x1 ++ x2) #[] (List.replicate (if us.toArray.isEmpty = true then 0 else k.toNat) us.toArray) = (List.replicate k.toNat us).flatten.toArray := by
    have go : ∀ m : Nat, List.foldl (fun x1 x2 => x1 ++ x2) #[] (List.replicate m us.toArray) = (List.replicate m us).flatten.toArray := fun m => by
      simpa using foldl_rep us m []
    rw [go]
    cases us with
    | nil => simp
    | cons _ _ => simp
  refine wpAny_binaryOp_repeat_ref (T := "list") (U := "int") (by decide) ⟨_, gl, rfl⟩ (fun s' => typeIs_int s' k tk) noFill_list_mul F.fills_int_mul F.slot_int_rmul repeat_list F.slot_int_index.lookup ?_
  refine call_meets F.slot_int_rmul (typeIs_int s k tk) F.entry_int_rmul (F.args_int_rmul_2 _ _) (int___rmul___int_list k tk l us.toArray n) ⟨gl, rfl, ⟨_, gl, rfl⟩, ?_⟩
  refine call_meets F.slot_list_mul ⟨_, gl, rfl⟩ F.entry_list_mul (F.args_list_mul_2 _ _) (AutoListH.list___mul___list_int_3 l us.toArray n k tk fits cap long) ⟨gl, ?_⟩
  rw [all]
  have e : (List.replicate k.toNat [z]).flatten = List.replicate k.toNat z := by
    simp [List.flatten_replicate_singleton]
  have rr := rl.rep k.toNat
  rw [e] at rr
  exact ⟨.ref _, _, I.lnew (t' := s.toks) rr (by rw [List.length_replicate, sizeLine_eq]; omega), rfl, go _ I.fresh (Nat.ne_of_gt I.big)⟩

/-! ### defs around which no repr is under way -/
structure FnG (P : Program) (w : World) (K : PySem.W.Frag) (mg : Str → Option Value) (base : Heap) (CX : CXT) (k : Nat) (f : Addr) (fd : FuncData) (ps : List Str) (sp : Sp) : Prop where
  len : ∀ vs H Q E, sp vs H Q E → vs.length = ps.length
  run : ∀ (A : Around), A.guards = some [] → ∀ (outer : List Env) (s : Shared) (H : Hp) (args : Args) (us : List Value) (vs : List V) (Q : VK) (E : XK), Room k A → Env0 P w K mg base A outer s H → BindsTo s fd args (ps.zip us) → Vals vs us → sp vs H Q E →
    codeAny (model P w) A (.call (.ref f) args) (CR CX outer P w H s Q E) s
section
variable {X : Cx} {CX : CXT} {k : Nat} {f : Addr} {fd : FuncData} {ps : List Str} {sp : Sp} {ds : List Value} {dvs : List V} {E : XK} {x : Str} {e : Expr} {es : List Expr} {t : TA} {p pos : Pos}
theorem pe_callG (F : FnG X.prog X.w X.K X.mg X.base CX k f fd ps sp) (hG : X.A.guards = some []) (hr : Room k X.A) (hg : Gl X x) (hm : X.mg x = some (.ref f)) (hk : PySem.W.keepIn X.K (.ref f) = true) (hb : Binds X.K fd ps ds) (hd : Vals dvs ds) (hx : Passes CX X E)
    (ha : PA X (e :: es) t) (hdb : (x == ("__debug__" : Str)) = false := by decide) (he : starEach (e :: es) X.env = (false, eval e X.env) :: starEach es X.env := by rfl) (hpl : (backTo pos (starEach es X.env)).any (·.1) = false := by rfl) :
    PE X (.Call (.Name x p) (e :: es) [] pos) (tCall sp dvs E t) := by
  refine ⟨fun pins s σ H Q I h => wpAny_Call_Name_kw (ld_glob I hg hm ?_ hdb)⟩
  refine PySem.W.callWith_K (h₀ := X.base) I.ok.mod.kin hk (thn (ha.run pos pins s σ H _ I h) fun us s1 ⟨vs, H1, J, r, q⟩ => ⟨J.kIn, ?_⟩) he hpl
  have rr : Vals (vs ++ dvs) (us ++ ds) := r.append hd
  have bound := hb s1 us J.kIn (rr.length.symm.trans (F.len _ _ _ _ q))
  refine wpAny_call (codeAny_mono (F.run X.A hG X.stack s1 H1 ⟨us, []⟩ (us ++ ds) (vs ++ dvs) Q E hr J.env0 bound rr q) fun res s' z => ?_)
  cases res with
  | error er => exact hx pins σ H1 s1 er s' J z
  | ok fl =>
    cases fl with
    | ret u => exact J.after z
    | next => exact False.elim z
    | brk => exact False.elim z
    | cont => exact False.elim z
end
section
variable {P : Program} {w : World} {K : PySem.W.Frag} {mg : Str → Option Value} {base : Heap}
/-- a def by its body, no repr under way -/
theorem okG {x qual : Str} {st : Stmt} {f : Addr} {fd : FuncData} {N ps : List Str} {k : Nat} {sp : Sp} (F : Fun K x qual st f fd) (S : FnScope N ps (defScope st)) (len : ∀ vs H Q E, sp vs H Q E → vs.length = ps.length)
    (hbody : ∀ (cdv : Value) (A : Around) (outer : List Env) (s : Shared) (H : Hp) (vs : List V) (Q : VK) (E : XK), (A.deeper (envOfC qual (defScope st) s.heap.objs.size f cdv)).guards = some [] → Room k (A.deeper (envOfC qual (defScope st) s.heap.objs.size f cdv)) → sp vs H Q E →
      ∃ t, PSs (cxOf CX0 P w K mg base N qual (defScope st) f cdv A outer s H E).nox (defBody st) t ∧ t { nx := fun _ H' => Q .non H', rt := Q } (start N vs) H) : FnG P w K mg base CX0 (k + 1) f fd ps sp := by
  obtain ⟨oc, od, kV, doc, pm, an, cdv, ct, osl, rfl, lk, hcd⟩ := F.ex
  refine ⟨len, fun A hG outer s H args us vs Q E room e0 bound r pre => ?_⟩
  have many := len _ _ _ _ pre
  have KX : K.In s.heap := e0.mod.kin.keeps fun b o z => (e0.bs b o z).1
  have lim : s.heap.NoLimit := e0.mod.nolimit.keeps fun b o z => (e0.bs b o z).1
  have kinds : ∀ y ∈ ps.zip us, (defScope st).names.lookup y.1 = some .local ∨ ((defScope st).names.lookup y.1 = some .cell ∧ ((cellsFrom (s.heap.objs.size + 1) (defScope st).names []).lookup y.1).isSome = true) := fun y hy => by
    have mem : y.1 ∈ ps := (List.of_mem_zip (show (y.1, y.2) ∈ ps.zip us from hy)).1
    rcases S.par y.1 mem with z | z
    · exact .inl z
    · exact .inr ⟨z, PySem.W.cellsFrom_some _ _ _ (.inl z)⟩
  refine codeAny_call_function room.depth (KX _ _ lk) rfl S.co S.gen rfl (PySem.W.codeRec_of KX hcd) (bound _ _ _ _ ?_)
  refine wpAny_newFunctionEnv_cells S.kind kinds fun env henv s1 inside => ?_
  subst henv
  refine ⟨lim.keeps inside.toInCall.keep, codeAny_func ?_⟩
  obtain ⟨t, ht0, go⟩ := hbody cdv A outer s H vs Q E hG (room.deeper _) pre
  have ht := ht0.nox
  have I : Inv (cxOf CX0 P w K mg base N qual (defScope st) f cdv A outer s H E) [] (start N vs) H s1 := inv_start S room.hd e0 many r inside
  refine wpAny_mono (ht.run [] s1 (start N vs) H _ I go) (fun fl s' z => ?_) fun _ _ z => z
  have back : ∀ {σ' : L2.St} {H' : Hp} {v : V} {u : Value}, Inv (cxOf CX0 P w K mg base N qual (defScope st) f cdv A outer s H E) [] σ' H' s' → RelV v u → Q v H' → CE outer P w H s Q u s' := fun {σ' H' v u} J rv q => ⟨v, H', J.os, J.bare, J.base, J.hok, rv, q⟩
  cases fl with
  | ret u =>
    obtain ⟨v, σ', H', J, rv, q⟩ := z
    exact back J rv q
  | next =>
    obtain ⟨σ', H', J, q⟩ := z
    exact back (v := V.non) (u := Value.none) J rfl q
  | brk => exact False.elim z.choose_spec.choose_spec.2
  | cont => exact False.elim z.choose_spec.choose_spec.2
end

/-! ### the law's own def -/
section
variable {P : Program} {w : World} {K : PySem.W.Frag} {mg mb : Str → Option Value} {CX : CXT} {k : Nat} {fa a : Addr} {fd : FuncData} {x : Str} {sp : Sp} {t : Shared} {us : List Value} {ns : List Int}
/-- what the call leaves -/
abbrev Fine (t : Shared) : Result → Shared → Prop := fun r t' => r = .ok (.ret (.bool true)) ∧ OldK t.heap t'.heap ∧ t'.os = t.os ∧ AllBare t'.gens
theorem lawH (inK : K.In t.heap) (nsM : t.heap.Ns mainGlobals mg) (nsB : t.heap.Ns builtinsNs mb) (bb : ∀ y : Str, y ≠ "__name__" → mb y = bootBuiltins y) (nl : t.heap.NoLimit) (ng : t.gens = #[])
    (at_a : t.heap.get? a = some { cls := .type "list", data := .seq us.toArray }) (room : Room k callerA) (F : ∀ base : Heap, K.In base → base.Ns mainGlobals mg → FnG P w K mg base CX k fa fd [x] sp)
    (bind1 : ∀ (s : Shared) (u : Value), BindsTo s fd ⟨[u], []⟩ [(x, u)]) (noX : ∀ H e s', CX [] H t (fun _ _ _ => False) e s' → False)
    {H : Hp} (only : Only H) (pre : sp [.ref a] H (fun v _ => v = .bl true) fun _ _ _ => False) (hok : HOk P w H t.heap) (onA : ∀ b, H b ≠ none → b = a) (offK : H a ≠ none → K.lookup a = none) :
    codeAny (model P w) callerA (.call (.ref fa) ⟨[.ref a], []⟩) (Fine t) t := by
  have sees : ∀ {b : Addr} {o : Obj}, t.heap.get? b = some o → H b = none → (hidT t.heap H).get? b = some o := fun z n => hidT_get z n
  have untr : ∀ {b : Addr}, b ≠ a → H b = none := fun {b} nb => by
    cases q : H b with
    | none => rfl
    | some u => exact absurd (onA b (by rw [q]; simp)) nb
  have dictNs : ∀ {b : Addr} {m : Str → Option Value}, t.heap.Ns b m → (hidT t.heap H).Ns b m := fun {b m} ⟨o, es, ep, g, d, r⟩ => by
    refine ⟨o, es, ep, sees g (untr fun z => ?_), d, r⟩
    subst z
    rw [at_a] at g
    cases g
    exact nomatch (show Data.seq us.toArray _ = Data.dict es ep from d)
  have inB : K.In (hidT t.heap H) := fun b o z => by
    refine sees (inK b o z) ?_
    cases q : H b with
    | none => rfl
    | some u =>
      have nn : H b ≠ none := by rw [q]; simp
      have eb := onA b nn
      subst eb
      rw [offK nn] at z
      cases z
  obtain ⟨mc, l1, l2⟩ := nl
  have md : Mod K mg (hidT t.heap H) := ⟨inB, dictNs nsM, ⟨mb, dictNs nsB, bb⟩, ⟨mc, dictNs l1, l2⟩⟩
  have e0 : Env0 P w K mg (hidT t.heap H) callerA [] t H := ⟨rfl, md, fun b o z => of_hidT z, Nat.le_of_eq (hidT_size _ _), trivial, fun b z => (by cases z), hok, .of_eq ng⟩
  refine codeAny_mono ((F _ inB (dictNs nsM)).run callerA rfl [] t H ⟨[.ref a], []⟩ [.ref a] [.ref a] _ _ room e0 (bind1 t (.ref a)) (.cons rfl .nil) pre) fun r t' z => ?_
  cases r with
  | error e => exact (noX H e t' z).elim
  | ok fl =>
    cases fl with
    | next => exact False.elim z
    | brk => exact False.elim z
    | cont => exact False.elim z
    | ret u =>
      obtain ⟨v, H', os, bare, un, hok', rv, ev⟩ := z
      cases (show v = .bl true from ev)
      cases (show u = Value.bool true from rv)
      refine ⟨rfl, OldK.of_keep fun b o g => ?_, os, bare⟩
      rcases only b with n | ⟨ob, xs, z⟩
      · exact un.keep b o g n (fun q => by cases q) (fun q => by cases q)
      · have g1 := (hok b _ z).1
        have g2 := (hok' b _ (un.frzs b ob _ z)).1
        rw [g] at g1
        cases g1
        exact g2
theorem lawG (inK : K.In t.heap) (nsM : t.heap.Ns mainGlobals mg) (nsB : t.heap.Ns builtinsNs mb) (bb : ∀ y : Str, y ≠ "__name__" → mb y = bootBuiltins y) (nl : t.heap.NoLimit) (ng : t.gens = #[])
    (at_a : t.heap.get? a = some { cls := .type "list", data := .seq us.toArray }) (areInts : IntsAre us ns) (hz : ns.length ≤ sizeLine) (room : Room k callerA) (F : ∀ base : Heap, K.In base → base.Ns mainGlobals mg → FnG P w K mg base CX k fa fd [x] sp)
    (bind1 : ∀ (s : Shared) (u : Value), BindsTo s fd ⟨[u], []⟩ [(x, u)]) (noX : ∀ H e s', CX [] H t (fun _ _ _ => False) e s' → False)
    (pre : ∀ H : Hp, Only H → SqL K H a (ns.map V.int) → sp [.ref a] H (fun v _ => v = .bl true) fun _ _ _ => False) : codeAny (model P w) callerA (.call (.ref fa) ⟨[.ref a], []⟩) (Fine t) t := by
  have rv := vals_ints areInts
  have many := areInts.length
  cases own : K.lookup a with
  | some o =>
    have g := inK a o own
    rw [at_a] at g
    cases g
    have none0 : Only fun _ => none := fun _ => .inl rfl
    exact lawH inK nsM nsB bb nl ng at_a room F bind1 noX none0 (pre _ none0 (.inr ⟨_, us.toArray, _, own, rfl, rfl, rfl, by rw [List.size_toArray, many]; exact hz, by simpa using rv⟩)) (fun b u z => nomatch (show (none : Option HO) = some u from z)) (fun b z => absurd rfl z) fun z => absurd rfl z
  | none =>
    let H1 : Hp := fun b => if b = a then some (.frz { cls := .type "list", data := .seq us.toArray } (.lst (ns.map V.int))) else none
    have yes : H1 a = some (.frz { cls := .type "list", data := .seq us.toArray } (.lst (ns.map V.int))) := if_pos rfl
    have no : ∀ {b : Addr}, b ≠ a → H1 b = none := fun nb => if_neg nb
    have one : Only H1 := fun b => by
      by_cases e : b = a
      · exact .inr ⟨_, _, by rw [e]; exact yes⟩
      · exact .inl (no e)
    refine lawH inK nsM nsB bb nl ng at_a room F bind1 noX one (pre _ one (.inl (.inr ⟨_, yes⟩))) (fun b u z => ?_) (fun b z => ?_) fun _ => own
    · by_cases e : b = a
      · subst e
        rw [yes] at z
        cases z
        exact ⟨at_a, by rw [List.length_map]; exact hz, us, _, rv, at_a⟩
      · rw [no e] at z
        cases z
    · exact Decidable.byContradiction fun e => z (no e)
end
theorem walkG {l : PySem.W.OpenLaw} {n k : Nat} {q : Program} {loose : List Str} {XP : (Str → Option Value) → Heap → Prop} {YP : World → Heap → Prop} {d : DefRec} {K : Params → PySem.W.Frag} {sp : World → Sp} {x : Str}
    (hn : l.most = some n) (hz : n ≤ sizeLine) (hdf : d.params.defaults = []) (room : Room k callerA) (hY : ∀ (w : World) (h : Heap), YP w h → (K w.params).In h)
    (F : ∀ (w : World) (mg : Str → Option Value) (fa : Addr) (h : Heap), (K w.params).In h → h.Ns mainGlobals mg → mg d.name = some (.ref fa) →
      ∃ fd : FuncData, (∀ (s : Shared) (u : Value), BindsTo s fd ⟨[u], []⟩ [(x, u)]) ∧ ∀ base : Heap, (K w.params).In base → base.Ns mainGlobals mg → FnG l.prog w (K w.params) mg base CX0 k fa fd [x] (sp w))
    (pre : ∀ (w : World) (H : Hp) (a : Addr) (ns : List Int), ns.length ≤ n → Only H → SqL (K w.params) H a (ns.map V.int) → sp w [.ref a] H (fun v _ => v = .bl true) fun _ _ _ => False) :
    PySem.W.WalkO q loose XP YP l.row.toRowW d [] (fun f vs => PySem.call f vs) := by
  refine Att.attach_call hn hdf fun w t0 t mg mb fa o pm cd doc a us ns G Y ho hd hcd hmg at_a areInts many ng => ?_
  obtain ⟨fd, hb, hF⟩ := F w mg fa _ (hY w _ Y) G.T.g hmg
  exact lawG (hY w _ Y) G.T.g G.T.b G.T.builtins G.T.nolimit ng at_a areInts (Nat.le_trans many hz) room hF hb (fun _ _ _ z => z) fun H h1 h2 => pre w H a ns many h1 h2
end TR

set_option Elab.async false
set_option linter.all false
set_option maxRecDepth 100000
set_option maxHeartbeats 4000000
/-! TQ: an error that is caught and kept in a name. -/
namespace TQ
open PySem PySem.Spec PyProof.Rows L2 TX

/-- at a: a caught error of the class at C, its dict at d -/
def kxo (a C : Addr) (d : Option Addr) : HO := .ext fun h => ∃ (oe : Obj) (vs : Array Value), h.get? a = some oe ∧ Zc (.ref C) d oe ∧ oe.data = .fields vs
theorem kxo_ok {P : Program} {w : World} {H : Hp} {h : Heap} {a C : Addr} {d : Option Addr} {oe : Obj} {vs : Array Value} (e : h.get? a = some oe) (z : Zc (.ref C) d oe) (f : oe.data = .fields vs) : ObjOk P w H h a (kxo a C d) :=
  ⟨⟨oe, vs, e, z, f⟩, ⟨oe, e⟩, fun h1 h2 ⟨o, us, q, r⟩ k => ⟨o, us, k _ q, r⟩⟩
theorem kxo_at {P : Program} {w : World} {H : Hp} {h : Heap} {a C : Addr} {d : Option Addr} (ok : HOk P w H h) (e : H a = some (kxo a C d)) : ∃ (oe : Obj) (vs : Array Value), h.get? a = some oe ∧ Zc (.ref C) d oe ∧ oe.data = .fields vs := by
  have x : ObjOk P w H h a (.ext fun h => ∃ (oe : Obj) (vs : Array Value), h.get? a = some oe ∧ Zc (.ref C) d oe ∧ oe.data = .fields vs) := ok a _ e
  exact x.1
/-- a caught error with the field f -/
def Kept (H : Hp) (a C : Addr) (fs : List (Str × V)) : Prop := ∃ d, H a = some (kxo a C (some d)) ∧ H d = some (.xd fs)
theorem Kept.same {H H' : Hp} {a C : Addr} {fs : List (Str × V)} (e : Kept H a C fs) (h : ∀ b o, H b = some o → H' b = some o) : Kept H' a C fs :=
  let ⟨d, h1, h2⟩ := e
  ⟨d, h _ _ h1, h _ _ h2⟩
section
variable {X : Cx} {pins : List (Addr × Obj)} {σ : L2.St} {H : Hp} {s : Shared} {a C : Addr} {fs : List (Str × V)}
/-- an object that was made since the entry is looked at from here on -/
theorem track {φ : Heap → Prop} (I : Inv X pins σ H s) (new : ObjOk X.prog X.w (upd H a (.ext φ)) s.heap a (.ext φ)) (na : H a = none) (n0 : X.s_0.heap.get? a = none) (nL : a ≠ X.env.locals) (nC : ∀ x c, X.env.cells.lookup x = some c → c ≠ a) (nP : ∀ p ∈ X.pn ++ pins, p.1 ≠ a) :
    Inv X pins σ (upd H a (.ext φ)) s := by
  have ne : ∀ {b : Addr} {o : HO}, H b = some o → b ≠ a := fun {b o} e z => by
    rw [z, na] at e
    cases e
  have up : ∀ {b : Addr} {o : HO}, H b = some o → upd H a (.ext φ) b = some o := fun {b o} e => by
    rw [upd_ne (ne e)]
    exact e
  have off : ∀ {b : Addr}, b ≠ a → H b = none → upd H a (.ext φ) b = none := fun {b} nb e => by
    rw [upd_ne nb]
    exact e
  refine ⟨I.ok, I.os, I.bare, ⟨I.base.keep, I.base.slot, fun b o e n hx => off (fun z => ?_) (I.base.free b o e n hx), I.base.there, fun b xs e => up (I.base.tups b xs e), fun b o u e => up (I.base.frzs b o u e), fun b ps e => ?_⟩, I.loc, I.cell, off nL.symm I.free, fun x c e => off (nC x c e) (I.freeC x c e), fun p hp => ?_, fun b o e => ?_, I.len⟩
  · rw [z, n0] at e
    cases e
  · obtain ⟨more, q⟩ := I.base.tbls b ps e
    exact ⟨more, up q⟩
  · obtain ⟨h1, h2, h3⟩ := I.pin p hp
    exact ⟨h1, off (nP p hp) h2, h3⟩
  · by_cases hb : b = a
    · subst hb
      rw [upd_same] at e
      cases e
      exact new
    · rw [upd_ne hb] at e
      exact (I.hok b o e).stay (fun _ _ _ q => q) (fun _ q => up q) fun _ _ q => up q
theorem kinst_of (I : Inv X pins σ H s) (e : Kept H a C fs) : ∃ ox od, PySem.W.InstAt s.heap a ox C (some od) ∧ ∃ d, ox.dict = some d ∧ H d = some (.xd fs) ∧ s.heap.get? d = some od := by
  obtain ⟨d, h1, h2⟩ := e
  obtain ⟨oe, vs, ho, hz, hf⟩ := kxo_at I.hok h1
  have hx : ObjOk X.prog X.w H s.heap d (.xd fs) := I.hok d _ h2
  obtain ⟨mA, hns, _⟩ := hx
  obtain ⟨od, hd, _⟩ := lookIn_ns hns
  exact ⟨oe, od, ⟨ho, hz.1, by unfold PySem.W.notCls; rw [hf] <;> rfl, by rw [hz.2]; exact hd⟩, d, hz.2, h2, hd⟩
end
/-- isinstance(e, c): e a caught error -/
def rIsQ (K : PySem.W.Frag) : List V → Hp → VK → Prop := fun xs H Q => ∃ (a C : Addr) (fs : List (Str × V)) (c : V) (cv : Value) (b : Bool), xs = [.ref a, c] ∧ ExcC K C ∧ Kept H a C fs ∧ ClsV c cv ∧ PySem.W.kitOne K (.ref C) cv = some b ∧ Q (.bl b) H
theorem call_isQ {X : Cx} : CallR X (.builtin "isinstance") (rIsQ X.K) := by
  intro pins s σ H xs us Q I r h
  obtain ⟨a, C, fs, c, cv, b, rfl, hC, he, k, e, q⟩ := h
  obtain ⟨u1, u2, rfl, r1, r2⟩ := vals2 r
  cases (show u1 = Value.ref a from r1)
  have e2 := k.eq r2
  subst e2
  obtain ⟨ox, od, J, _⟩ := kinst_of I he
  refine PySem.W.kia_one (PySem.W.kitx_exc (ox := ox) (od := some od) ?_ hC.hg hC.hk hC.hs hC.ha hC.hn hC.ht hC.hm) I.kIn J e (fun z => nomatch z) fun tk => ⟨.bl b, H, I.tok tk, rfl, q⟩
  have z := hC.hd
  unfold PySem.W.hasDictIn at z
  cases w : PySem.W.clsIn X.K C with
  | some _ => rfl
  | none => rw [w] at z; cases z
/-- e.f: a field of a caught error -/
def tQx (K : PySem.W.Frag) (f : Str) (te : TE) : TE := fun σ H Q => te σ H fun x H1 => ∃ (a C : Addr) (fs : List (Str × V)) (v : V), x = .ref a ∧ XfC K C ∧ PySem.W.findIn K (.ref C) f = some none ∧ Kept H1 a C fs ∧ fs.lookup f = some v ∧ Q v H1
theorem pe_qx {X : Cx} {e : Expr} {te : TE} {pos : Pos} {f : Str} (he : PE X e te) (hb : attributeBase e f X.env (eval e X.env) = eval e X.env := by rfl) : PE X (.Attribute e f pos) (tQx X.K f te) := by
  refine ⟨fun pins s σ H Q I h => attr_of hb (thn (he.run pins s σ H _ I h) fun u s1 ⟨x, H1, I1, rx, a, C, fs, v, ex, T, hno, he, l, q⟩ => ?_)⟩
  subst ex
  cases (show u = Value.ref a from rx)
  obtain ⟨d, h1, h2⟩ := he
  obtain ⟨oe, vs, ho, hz, hf⟩ := kxo_at I1.hok h1
  have hx : ObjOk X.prog X.w H1 s1.heap d (.xd fs) := I1.hok d _ h2
  obtain ⟨mA, hns, hr⟩ := hx
  obtain ⟨od, hd, hl⟩ := lookIn_ns hns
  obtain ⟨y, hy, ry⟩ := RelO.some_of (v := v) (o := mA f) (by rw [← l]; exact hr f)
  have J : PySem.W.InstAt s1.heap a oe C (some od) := ⟨ho, hz.1, by unfold PySem.W.notCls; rw [hf] <;> rfl, by rw [hz.2]; exact hd⟩
  exact HandSPX.exc_get I1.kIn J T.ga T.gg T.exC (PySem.W.findObj_own T.hdC hno rfl (by rw [hl, hy])) (handed_of ry) ⟨v, H1, I1.tok _, ry, q⟩

/-! ### try: body, except x as n: y = n -/
def wKeep (K : PySem.W.Frag) (c : Value) (i j : Nat) (Wout : WX) (D : Ends) : WX := fun cls d σ H => ∃ (C : Addr) (b : Bool), cls = .ref C ∧ PySem.W.exmOne K cls c = some b ∧
  (b = true → ∀ a, H a = none → D.nx (((σ.set i (some (.ref a))).set j (some (.ref a))).set i none) (upd H a (kxo a C d))) ∧ (b = false → Wout cls d σ H)
section
variable {X : Cx} {x n y : Str} {c : Value} {i j : Nat} {body : List Stmt} {np np2 yp ap pos pos' : Pos} {tb : WX → TS} {Wout : WX}
theorem ps_try_keep (hex : X.ex = []) (hs : X.stack = X.env :: X.outer) (hf : X.env.frame = some X.env.locals) (hN : X.N.Nodup) (hi : X.N[i]? = some n) (hln : X.env.kindOf n = some .local) (hj : X.N[j]? = some y) (hly : X.env.kindOf y = some .local) (hij : i ≠ j) (hc : Names X x c) (tk : Takes X Wout)
    (hb : ∀ (W : WX) (pn : List (Addr × Obj)) (xe : Value → Shared → Prop), Takes (X.tr pn xe) W → PassesOwn (model X.prog X.w) X.A X.env xe → PSs (X.tr pn xe) body (tb W))
    (hsu : ∀ (a : Addr) (pn : List (Addr × Obj)), PSs (X.suite a pn) [.Assign [.Name y yp] (.Name n np2) ap] (tAsg (tVar i) (gName j))) :
    PS X (.Try body [.ExceptHandler (some (.Name x np)) (some n) [.Assign [.Name y yp] (.Name n np2) ap] pos'] [] [] pos) (fun D σ H => tb (wKeep X.K c i j Wout D) D σ H) := by
  refine ⟨fun pins s σ H D I h => ?_⟩
  have ok := I.ok
  have frames : X.A.frames = some (X.env :: X.outer) := by rw [ok.frames, hs]
  refine wpAny_Try_except ?_
  refine wpAny_mono ((hb (wKeep X.K c i j Wout D) (X.pn ++ pins) (fun e t1 => wpAny (model X.prog X.w) X.A (noteFrame e X.env) (fun _ t2 => wpAny (model X.prog X.w) X.A (setFlight e none) (fun _ t3 =>
    wpAny (model X.prog X.w) X.A (handleBy e X.env [.ExceptHandler (some (.Name x np)) (some n) [.Assign [.Name y yp] (.Name n np2) ap] pos']) (SP X pins D) X.xe t3) X.xe t2) X.xe t1) (fun u s' air => ?_) PassesOwn.looking).run [] s σ H D (I.toTry _) h) (fun fl s1 q => ?_) (fun _ _ q => q)
  · obtain ⟨a, B, sI, pins', σ', H', cls, d, rfl, J', nb, up, sky, na, os, ag, C, b, hcls, hb1, yes, no⟩ := air
    have J : Inv X pins σ' H' sI := J'.ofTry ok
    rw [show (X.tr (X.pn ++ pins) _).stack = X.env :: X.outer from hs] at sky
    show wpAny (model X.prog X.w) X.A (noteFrame (.ref a) X.env) _ _ _
    refine Sky.land Zc.steady frames hf sky fun h3 fl3 up3 => ?_
    have J3 : Inv X pins σ' H' { s' with heap := h3 } := J.landed nb fl3.1 (up.trans up3) os ag
    obtain ⟨o3, f3, g3, z3, d3⟩ := fl3.there
    have outside : ∀ {h : Heap} {o : Obj} {vs : Array Value}, h.FunFrames B (X.env :: X.outer) → h.get? a = some o → o.data = .fields vs → a ∉ frs (X.env :: X.outer) := fun {h o vs} ff e dd hm => by
      obtain ⟨_, o', e', nf⟩ := ff.mem hm
      rw [e] at e'
      cases e'
      exact nf _ dd
    have off := outside fl3.2.2.1 g3 d3
    have nL : a ≠ X.env.locals := fun z => off (List.mem_filterMap.mpr ⟨X.env, List.mem_cons_self, by rw [hf, z]⟩)
    have nF : a ∉ X.fs := fun hm => by
      obtain ⟨e, he, q⟩ := List.mem_filterMap.mp hm
      exact off (List.mem_filterMap.mpr ⟨e, List.mem_cons_of_mem _ he, q⟩)
    -- it is new to the state ahead of it
    have newI : ∀ {b : Addr} {o : Obj}, sI.heap.get? b = some o → b ∉ frs X.stack → b ≠ a := fun {b o} e nf z => by
      have q := nb b o e nf
      rw [z, fl3.2.1] at q
      cases q
    have n0 : X.s_0.heap.get? a = none := by
      cases q : X.s_0.heap.get? a with
      | none => rfl
      | some o =>
        by_cases hx : a ∈ X.ex
        · rw [hex] at hx
          cases hx
        · obtain ⟨o', e'⟩ := J.base.there a o q hx
          exact absurd rfl (newI e' (by rw [hs]; exact off))
    have nP : ∀ p ∈ X.pn ++ pins, p.1 ≠ a := fun p hp z => by
      have q := (J.pin p hp).1
      rw [z] at q
      exact newI q (by rw [hs]; exact off) rfl
    have S3 := J3.suite g3 d3 na nL nF
    refine wpAny_handleBy_cons (codeAny_handlers_test ?_) (by intro q; cases q)
    have LT : PySem.W.Looks (model X.prog X.w) h3 (typeOf (.ref a)) cls := fun A Q E s k q => wpAny_typeOf_ref (k _ _ g3) (by rw [z3.1]; exact q)
    have LM := PySem.W.exm_one (M := model X.prog X.w) J3.kIn LT hb1
    have named : ∀ {Q : Value → Shared → Prop} {E : Value → Shared → Prop}, Q c { s' with heap := h3 } → wpAny (model X.prog X.w) (X.A.mark (some (.ref a))) (eval (.Name x np) X.env) Q E { s' with heap := h3 } := fun {Q E} q => by
      obtain ⟨hg, hdbg, hm | ⟨hm, hv, hnn⟩⟩ := hc
      · exact ld_glob (X := X.suite a ((a, o3) :: (X.pn ++ pins))) S3 hg hm q hdbg
      · exact ld_blt (X := X.suite a ((a, o3) :: (X.pn ++ pins))) S3 hg hm hv q hnn hdbg
    refine named (LM.here ?_)
    cases b with
    | true =>
      refine codeAny_handlers_suite_as (HandSPX.lands_againZ fl3 fun h4 fl4 up4 => ?_)
      have J4 : Inv X pins σ' H' { s' with heap := h4 } := J.landed nb fl4.1 ((up.trans up3).trans up4) os ag
      obtain ⟨o4, f4, g4, z4, d4⟩ := fl4.there
      have S4 := J4.suite g4 d4 na nL nF
      have hiσ : i < σ'.length := by rw [J.len]; exact (List.getElem?_eq_some_iff.mp hi).1
      refine store_ok (X := X.suite a ((a, o4) :: (X.pn ++ pins))) (v := .ref a) S4 hN hi (.inl hln) rfl (fun s5 S5 => ?_) (.inr hln)
      have go := (hsu a ((a, o4) :: (X.pn ++ pins))).run [] s5 _ H' { nx := fun σ6 H6 => σ6 = (σ'.set i (some (.ref a))).set j (some (.ref a)) ∧ H6 = H', rt := fun _ _ => False, bk := fun _ _ => False, ct := fun _ _ => False } S5
        ⟨.ref a, by rw [List.getElem?_set_self hiσ], rfl, rfl⟩
      refine wpAny_mono go (fun fl s6 q => ?_) (fun _ _ z => False.elim z)
      cases fl with
      | next =>
        obtain ⟨σ6, H6, S6, e6, e7⟩ := q
        rw [e6, e7] at S6
        show wpAny (model X.prog X.w) X.A (do bindName X.env n .none; unbindBehindTheSuite X.env n pos') _ _ _
        refine gone_ok (X := X.suite a ((a, o4) :: (X.pn ++ pins))) S6 hN hi hln fun s7 S7 => ?_
        have g7 : s7.heap.get? a = some o4 := (S7.pin (a, o4) (List.mem_append_left _ List.mem_cons_self)).1
        have J7 : Inv X pins _ H' s7 := S7.unsuite ok
        rw [hcls] at z4
        refine ⟨_, _, track J7 (kxo_ok g7 z4 d4) na n0 nL (fun x0 c0 e z => ?_) nP, yes rfl a na⟩
        obtain ⟨v, hv⟩ := J7.cell x0 c0 e
        rw [z] at hv
        obtain ⟨oc, hoc, hdc⟩ := hv
        rw [g7] at hoc
        cases hoc
        rw [d4] at hdc
        cases hdc
      | brk => obtain ⟨_, _, _, z⟩ := q; exact False.elim z
      | cont => obtain ⟨_, _, _, z⟩ := q; exact False.elim z
      | ret u => obtain ⟨_, _, _, _, _, z⟩ := q; exact False.elim z
    | false =>
      show wpAny _ X.A (handleBy (.ref a) X.env []) _ _ _
      refine wpAny_handleBy_nil ?_
      obtain ⟨_, _, _, oe, vs, T, oT, ts', he, hz, hd, h1, hr⟩ := id fl3
      unfold PySem.passOn
      refine wpAny_bind (wpAny_field he hd h1 ?_)
      rw [if_neg (show ¬ ((Value.ref T == Value.none) = true) from by simp)]
      have away : wpAny (model X.prog X.w) X.A (setFlight (.ref a) X.env.frame) (fun _ s4 => wpAny (model X.prog X.w) X.A (throw (.ref a) : Sem Flow) (SP X pins D) X.xe s4) X.xe { s' with heap := h3 } := by
        rw [hf]
        refine HandSPX.setFlight_upZ fl3 fun h4 hh4 up4 => wpAny_throw (tk _ _ ⟨a, B, sI, pins, σ', H', cls, d, rfl, J, nb, (up.trans up3).trans up4, .inr (.inr (by rw [hs]; exact hh4)), na, os, ag, no rfl⟩)
      first
        | exact wpAny_bind (wpAny_pure (wpAny_bind away))
        | exact wpAny_bind away
  · cases fl with
    | next =>
      obtain ⟨σ', H', J', q⟩ := q
      exact wpAny_execs_nil ⟨σ', H', J'.ofTry ok, q⟩
    | brk =>
      obtain ⟨σ', H', J', q⟩ := q
      exact ⟨σ', H', J'.ofTry ok, q⟩
    | cont =>
      obtain ⟨σ', H', J', q⟩ := q
      exact ⟨σ', H', J'.ofTry ok, q⟩
    | ret u =>
      obtain ⟨v, σ', H', J', r, q⟩ := q
      exact ⟨v, σ', H', J'.ofTry ok, r, q⟩
end

/-! ### raise, and calls that may raise -/
/-- a reading that may be weakened -/
def tLax (te : TE) : TE := fun σ H Q => ∃ Q0 : VK, te σ H Q0 ∧ ∀ v H1, Q0 v H1 → Q v H1
theorem pe_lax {X : Cx} {e : Expr} {te : TE} (h : PE X e te) : PE X e (tLax te) :=
  ⟨fun pins s σ H Q I ⟨Q0, h0, im⟩ => wpAny_mono (h.run pins s σ H Q0 I h0) (fun u s' ⟨v, H1, J, r, q⟩ => ⟨v, H1, J, r, im v H1 q⟩) fun _ _ z => z⟩
/-- raise C(e) -/
def tRs (C : Addr) (f : Str) (te : TE) : L2.St → Hp → XK → Prop := fun σ H Q => te σ H fun y H1 => ∀ d H2, Same H1 H2 → H1 d = none → H2 d = some (.xd [(f, y)]) → Q (.ref C) (some d) H2
section
variable {X : Cx} {x f q : Str} {C : Addr} {e : Expr} {te : TE} {p pos : Pos}
theorem pmk_err (O : OwnE X.K X.mg x C f q) (hr : Room 2 X.A) (hg : Gl X x) (he : PE X e te) (hdb : (x == ("__debug__" : Str)) = false := by decide) (hs : starEach [e] X.env = (false, eval e X.env) :: starEach [] X.env := by rfl) :
    PMk X (.Call (.Name x p) [e] [] pos) (tRs C f te) := by
  obtain ⟨fI, fd, iC, tI, _, b1, _, ok⟩ := O.ex
  intro pins s σ H Q I h
  refine pmk_oex (ta := tCons (tLax te) tNil) (dvs := []) (ds := []) O.ox iC tI (ok X.prog X.w X.base) hr b1 .nil pass0 hg O.m (pa_cons (pe_lax he) pa_nil hs) hdb hs (by rfl) pins s σ H Q I ⟨_, h, fun y H1 hy => ?_⟩
  refine ⟨by simp, fun a na => ⟨a, y, rfl, upd_same, fun dx nd ne => ⟨rfl, dx, [(f, y)], upd_same, ?_, ?_, ?_⟩⟩⟩
  · rw [upd_ne ne, upd_same]
  · rw [upd_ne ne] at nd
    exact nd
  · rw [upd_ne ne] at nd
    refine hy dx _ (fun b o hb => ?_) nd upd_same
    have e1 : b ≠ a := fun z => by rw [z, na] at hb; cases hb
    have e2 : b ≠ dx := fun z => by rw [z, nd] at hb; cases hb
    rw [upd_ne e2, del_ne e1, upd_ne e1, upd_ne e2, upd_ne e1]
    exact hb
end
/-- f(e, ..), f may raise: W by the slots as they stand -/
def tCallX (sp : Sp) (dvs : List V) (W : WX) (t : TA) : TE := fun σ H Q => t σ H fun vs H1 => sp (vs ++ dvs) H1 Q fun cls d H2 => W cls d σ H2
section
variable {X : Cx} {k : Nat} {f : Addr} {fd : FuncData} {ps : List Str} {sp : Sp} {ds : List Value} {dvs : List V} {W : WX} {x : Str} {e : Expr} {es : List Expr} {t : TA} {p pos : Pos}
theorem run_fnX {pins : List (Addr × Obj)} {σ : L2.St} {H : Hp} {s : Shared} {Q : VK} {us : List Value} {vs : List V} (F : FnOk X.prog X.w X.K X.mg X.base (L2.CX X.prog X.w) k f fd ps sp) (tk : Takes X W) (hr : Room k X.A) (hb : Binds X.K fd ps ds) (hd : Vals dvs ds)
    (J : Inv X pins σ H s) (r : Vals vs us) (q : sp (vs ++ dvs) H Q fun cls d H2 => W cls d σ H2) : wpAny (model X.prog X.w) X.A (call (.ref f) us) (EP X pins σ Q) X.xe s := by
  have rr : Vals (vs ++ dvs) (us ++ ds) := r.append hd
  refine wpAny_call (codeAny_mono (F.run X.A X.stack s H ⟨us, []⟩ (us ++ ds) (vs ++ dvs) Q _ hr J.env0 (hb s us J.kIn (rr.length.symm.trans (F.len _ _ _ _ q))) rr q) fun res s' z => ?_)
  cases res with
  | error er => exact tk er s' (XE.of_call J (fun cls d H' w => w) z)
  | ok fl =>
    cases fl with
    | ret u => exact J.after z
    | next => exact False.elim z
    | brk => exact False.elim z
    | cont => exact False.elim z
theorem pe_callX (F : FnOk X.prog X.w X.K X.mg X.base (L2.CX X.prog X.w) k f fd ps sp) (tk : Takes X W) (hr : Room k X.A) (hg : Gl X x) (hm : X.mg x = some (.ref f)) (hk : PySem.W.keepIn X.K (.ref f) = true) (hb : Binds X.K fd ps ds) (hd : Vals dvs ds)
    (ha : PA X (e :: es) t) (hdb : (x == ("__debug__" : Str)) = false := by decide) (he : starEach (e :: es) X.env = (false, eval e X.env) :: starEach es X.env := by rfl) (hpl : (backTo pos (starEach es X.env)).any (·.1) = false := by rfl) :
    PE X (.Call (.Name x p) (e :: es) [] pos) (tCallX sp dvs W t) :=
  ⟨fun pins s σ H Q I h => wpAny_Call_Name_kw (ld_glob I hg hm (PySem.W.callWith_K (h₀ := X.base) I.ok.mod.kin hk (thn (ha.run pos pins s σ H _ I h) fun us s1 ⟨vs, H1, J, r, q⟩ => ⟨J.kIn, run_fnX F tk hr hb hd J r q⟩) he hpl) hdb)⟩
end

open TR in
/-- repr(x) of plain data of any kind -/
def rReprV : List V → Hp → VK → Prop := fun xs H Q => ∃ (x : V) (d : PyData) (c : Bool), xs = [x] ∧ DV H c x d ∧ (d.hasDict = true → c = true) ∧ d.showable = true ∧ d.depth ≤ 60 ∧ d.shown.length ≤ sizeLine ∧ Q (.str d.shown) H
open TR in
theorem cr_reprV {X : Cx} (hg : X.A.guards = some []) (hu : X.A.units + 64 < cLine) : CallR X (.builtin "repr") rReprV := by
  intro pins s σ H xs us Q I r h
  obtain ⟨x, d, c, rfl, hd, hc, hs, hp, hz, q⟩ := h
  have asRef : ∀ a, x = .ref a → wpAny (model X.prog X.w) X.A (call (.builtin "repr") us) (EP X pins σ Q) X.xe s := fun a e => by
    subst e
    exact cr_repr hg hu pins s σ H _ us Q I r ⟨a, d, c, rfl, hd, hc, hs, hp, hz, q⟩
  cases hd with
  | non =>
    obtain ⟨u, rfl, ru⟩ := r.one
    cases (show u = Value.none from ru)
    simp only [PyData.shown] at q
    exact PySem.P.repr_of_none ⟨.str "None", H, I.tok _, ⟨_, rfl⟩, q⟩
  | bl b =>
    obtain ⟨u, rfl, ru⟩ := r.one
    cases (show u = Value.bool b from ru)
    simp only [PyData.shown] at q
    exact PySem.P.repr_of_bool ⟨.str (if b then "True" else "False"), H, I.tok _, ⟨_, rfl⟩, q⟩
  | int i =>
    obtain ⟨u, rfl, ru⟩ := r.one
    obtain ⟨t, rfl⟩ := (show ∃ t, u = Value.int i t from ru)
    simp only [PyData.shown] at q
    exact PySem.P.repr_of_int (by simpa only [PyData.showable, decide_eq_true_eq] using hs) ⟨.str (toString i), H, I.tok _, ⟨_, rfl⟩, q⟩
  | str z =>
    obtain ⟨u, rfl, ru⟩ := r.one
    obtain ⟨t, rfl⟩ := (show ∃ t, u = Value.str z t from ru)
    simp only [PyData.shown] at q hz
    exact PySem.P.repr_of_str ⟨.str (reprText z), H, I.tok _, ⟨_, rfl⟩, q⟩ hz
  | lst a b c => exact asRef _ rfl
  | tup a b => exact asRef _ rfl
  | dic a b => exact asRef _ rfl

/-- fs[i](e, ..): a function out of a list, it may raise -/
def tCallSX (P : Program) (w : World) (K : PySem.W.Frag) (mg : Str → Option Value) (base : Heap) (A : Around) (W : WX) (tf : TE) (t : TA) : TE := fun σ H Q => tf σ H fun x H1 => ∃ (f : Addr) (fd : FuncData) (ps : List Str) (sp : Sp) (k : Nat), x = .ref f ∧ FnOk P w K mg base (L2.CX P w) k f fd ps sp ∧ Room k A ∧ PySem.W.keepIn K (.ref f) = true ∧ Binds K fd ps [] ∧
  t σ H1 fun vs H2 => sp vs H2 Q fun cls d H3 => W cls d σ H3
theorem pe_callSX {X : Cx} {W : WX} {a i : Expr} {e : Expr} {es : List Expr} {tf : TE} {t : TA} {p pos : Pos} (tk : Takes X W) (hf : PE X (.Subscript a i p) tf) (ha : PA X (e :: es) t)
    (hc : eval (.Call (.Subscript a i p) (e :: es) [] pos) X.env = (do let f ← eval (.Subscript a i p) X.env; callWith pos f [] (backTo pos (starEach (e :: es) X.env)) (backToKw pos (keywordEach [] X.env))) := by rfl)
    (he : starEach (e :: es) X.env = (false, eval e X.env) :: starEach es X.env := by rfl) (hpl : (backTo pos (starEach es X.env)).any (·.1) = false := by rfl) :
    PE X (.Call (.Subscript a i p) (e :: es) [] pos) (tCallSX X.prog X.w X.K X.mg X.base X.A W tf t) := by
  refine ⟨fun pins s σ H Q I h => ?_⟩
  rw [hc]
  refine wpAny_bind (thn (hf.run pins s σ H _ I h) fun u s1 ⟨x, H1, J, rx, f, fd, ps, sp, k, ex, F, hr, hk, hb, q⟩ => ?_)
  subst ex
  cases (show u = Value.ref f from rx)
  exact PySem.W.callWith_K (h₀ := X.base) J.ok.mod.kin hk (thn (ha.run pos pins s1 σ H1 _ J q) fun us s2 ⟨vs, H2, J2, r, q2⟩ => ⟨J2.kIn, run_fnX (dvs := []) (ds := []) F tk hr hb .nil J2 r (by rw [List.append_nil]; exact q2)⟩) he hpl
end TQ

set_option Elab.async false
set_option linter.all false
set_option maxRecDepth 100000
set_option maxHeartbeats 4000000
/-! TV: texts with a sign struck out, behind a list of a written text; nested data beside an empty tuple. -/
namespace TV
open PySem PySem.Spec PyProof.Rows L2 TX CwR
section
variable {X : Cx} {rest : List Stmt} {u : TS}
/-- a list of one written text is stored under a name: behind it a token is out -/
theorem pss_lstT {i j : Nat} {x c : Str} {cpos lpos pos' pos : Pos} (hN : X.N.Nodup) (hi : X.N[i]? = some x) (hx : Loc X.env.scope x) (h2 : PSsT X rest u)
    (hs : swapsWith (.List [.Constant (.str c) j cpos] lpos) (some (.Name x pos')) pos.line X.env = pure false := by rfl) (hf : X.fn x = true ∨ X.env.scope.names.lookup x = some .local := by first | exact .inl rfl | exact .inr rfl | assumption) :
    PSs X (.Assign [.Name x pos'] (.List [.Constant (.str c) j cpos] lpos) pos :: rest) (tSeq (tAsg (tLst (tCons (tC (.str c)) tNil)) (gName i)) u) := by
  refine ⟨fun pins s σ H D I h => ?_⟩
  refine wpAny_execs_cons (wpAny_Assign_Name (wpAny_List_spliced ?_) hs)
  show wpAny _ _ (spliced ((false, eval (.Constant (.str c) j cpos) X.env) :: backTo lpos (starEach [] X.env))) _ _ s
  refine Calls.spliced_cons (Calls.Constant_str (Calls.spliced_nil ?_))
  have h1 : (1 : Nat) ≤ sizeLine := by decide
  refine ⟨h1, ?_⟩
  have hfr : H s.heap.objs.size = none := I.hok.fresh (Nat.le_refl _)
  have I1 : Inv X pins σ (upd H s.heap.objs.size (.lst [.str c])) _ := I.laid (t' := s.toks + 1) (fun b u e => Heap.get?_push_of_some _ e) (Nat.le_refl _) ⟨h1, [.str c s.toks], 0, .cons ⟨_, rfl⟩ .nil, Heap.get?_push_size _ rfl⟩
  refine wpAny_mono (PySem.wpAny_toks (store_ok (v := V.ref s.heap.objs.size) (u := Value.ref s.heap.objs.size) (Q := fun _ s2 => Inv X pins (σ.set i (some (V.ref s.heap.objs.size))) (upd H s.heap.objs.size (.lst [.str c])) s2) I1 hN hi hx rfl (fun _ I2 => I2) hf)) (fun _ s2 q => ?_) fun _ _ z => z.2
  have hk : s.toks + 1 ≤ s2.toks := q.1
  exact h2 pins s2 _ _ D (by omega) q.2 (h.2 _ hfr)
theorem pit_str {tg e : Expr} {te : TE} (he : PET X e te) : PIT X tg e (iStr te) := by
  intro pins s σ H R h0 I h
  refine thn (he pins s σ H _ h0 I h) fun v s1 ⟨y, H1, I1, r1, x, ex, q⟩ => ?_
  subst ex
  obtain ⟨t, rfl⟩ := r1
  cases ha : x.cps.all (· < 128)
  · exact wpAny_pyIter_wide ha (pi_one (tk := s1.toks) I1 _ (turn_str _ x t "str_iterator" (.inr rfl)) ⟨_, Heap.get?_push_size _ rfl, rfl, rfl⟩ q)
  · exact wpAny_pyIter_ascii ha (pi_one (tk := s1.toks) I1 _ (turn_str _ x t "str_ascii_iterator" (.inl rfl)) ⟨_, Heap.get?_push_size _ rfl, rfl, rfl⟩ q)
end
section
variable {X : Cx}
/-- equality of data one of which is not deep -/
def rEqE (K : PySem.W.Frag) : R2 := fun x y H Q => ∃ d e, Dp K H x d ∧ Dp K H y e ∧ d.canLay0 = true ∧ e.canLay0 = true ∧ min d.depth e.depth ≤ 64 ∧ Q (.bl (PyData.eqv d e)) H
theorem op_eqE (hu : X.A.units + 64 < cLine) : OpR X (compareOp .Eq) (rEqE X.K) := by
  intro pins s σ H x y v u Q I rx ry h
  obtain ⟨d, e, hd, he, sd, se, hm, q⟩ := h
  obtain ⟨as, r1⟩ := Dp.reads I d x v hd rx
  obtain ⟨bs, r2⟩ := Dp.reads I e y u he ry
  exact PySem.SeqAt.compareEq_reads r1 r2 sd se (by omega) ⟨.bl _, H, I, rfl, q⟩
end
end TV

set_option Elab.async false
set_option linter.all false
set_option maxRecDepth 100000
set_option maxHeartbeats 4000000
/-! TU: a text from its end to its beginning. -/
namespace TU
open PySem PySem.Spec PyProof.Rows L2
def tRevS (te : TE) : TE := fun σ H Q => te σ H fun x H1 => ∃ z : Str, x = .str z ∧ z.length ≤ sizeLine ∧ Q (.str ⟨z.cps.toList.reverse.toArray⟩) H1
theorem rev_list (x : Str) (u : Tok) : ((Builtin.Str.strSliceIndices none none (-1) x.length).filterMap (x.cps[·]?)) = x.cps.toList.reverse := by
  rw [picked_rev, filterMap_get, List.map_map]
  · refine List.ext_getElem (by simp [Str.length]) fun i h1 h2 => ?_
    simp only [List.length_map, List.length_range] at h1
    have hx : x.length - 1 - i < x.cps.size := by show x.length - 1 - i < x.length; omega
    rw [List.getElem_map, List.getElem_range, List.getElem_reverse]
    show x.cps.getD (x.length - 1 - i) 0 = _
    rw [Array.getD_eq_getD_getElem?, Array.getElem?_eq_getElem hx]
    simp [Str.length]
  · intro i hi
    obtain ⟨k, hk, rfl⟩ := List.mem_map.mp hi
    have hk' : k < x.length := List.mem_range.mp hk
    show x.length - 1 - k < x.length
    omega
section
variable {X : Cx}
theorem pe_revS {e : Expr} {te : TE} {k : Nat} {p1 p2 p3 pos : Pos} (he : PE X e te) : PE X (.Subscript e (.Slice none none (some (.UnaryOp .USub (.Constant (.int 1) k p1) p2)) p3) pos) (tRevS te) := by
  refine ⟨fun pins s σ H Q I h => ?_⟩
  refine Subscript_ (thn (he.run pins s σ H _ I h) fun v s1 ⟨x, H1, I1, r1, q1⟩ => ?_)
  obtain ⟨z, ex, hz, q⟩ := q1
  subst ex
  obtain ⟨t, rfl⟩ := r1
  have hst : PO X (some (.UnaryOp .USub (.Constant (.int 1) k p1) p2)) (tPart (tUn (rU fun i => .int (-i)) (tC (.int 1)))) := po_some (pe_un un_neg pe_int)
  refine wpAny_Slice (thn (po_none.run pins s1 σ H1 (fun o H2 => o = none ∧ H2 = H1) I1 ⟨rfl, rfl⟩) fun vl s2 ⟨l, H2, I2, pl, el, e2⟩ => ?_)
  subst el e2
  refine thn (po_none.run pins s2 σ H2 (fun o H3 => o = none ∧ H3 = H2) I2 ⟨rfl, rfl⟩) fun vu s3 ⟨u, H3, I3, pu, eu, e3⟩ => ?_
  subst eu e3
  refine thn (hst.run pins s3 σ H3 (fun o H4 => o = some (-1) ∧ H4 = H3) I3 ⟨1, rfl, -1, rfl, rfl, rfl⟩) fun vs s4 ⟨o, H4, I4, ps, eo, e4⟩ => ?_
  subst eo e4
  have I5 : Inv X pins σ H4 { s4 with heap := s4.heap.push { cls := .type "slice", data := .fields #[vl, vu, vs] } } := I4.kept (t' := s4.toks) fun b ob q => Heap.get?_push_of_some _ q
  show wpAny (model X.prog X.w) X.A (subscriptTail e (.Slice none none (some (.UnaryOp .USub (.Constant (.int 1) k p1) p2)) p3) (.str z t) (.ref s4.heap.objs.size)) (EP X pins σ Q) X.xe { s4 with heap := s4.heap.push { cls := .type "slice", data := .fields #[vl, vu, vs] } }
  cases pl
  cases pu
  obtain ⟨tk, rfl⟩ : ∃ tk, vs = Value.int (-1) tk := by
    cases ps
    exact ⟨_, rfl⟩
  have hsl : ({ s4 with heap := s4.heap.push { cls := .type "slice", data := .fields #[_, _, _] } } : Shared).heap.IsSlice s4.heap.objs.size none none (some (-1, tk)) := ⟨_, Heap.get?_push_size _ rfl, rfl, rfl⟩
  refine tail_any (ops := [.str z t, .ref s4.heap.objs.size]) (typeIs_str _ _ _) (PySem.F.slot_str_getitem.lookup) ?_ (by with_unfolding_all rfl)
  refine wpAny_getItem_str_slice (l := none) (u := none) (st := some (-1, tk)) hsl rfl ?_
  have e9 : ((Builtin.Str.strSliceIndices none none (-1) z.length).filterMap (z.cps[·]?)) = z.cps.toList.reverse := rev_list z tk
  show Made.post (if ((-1 : Int) == 1 && (Builtin.Str.strSliceIndices none none (-1) z.length).length == z.length) = true then Made.val (.str z t)
    else Made.str ⟨((Builtin.Str.strSliceIndices none none (-1) z.length).filterMap (z.cps[·]?)).toArray⟩) (EP X pins σ Q) _
  rw [if_neg (by rw [show ((-1 : Int) == 1) = false from rfl]; simp), e9]
  exact ⟨by show (z.cps.toList.reverse.toArray).size ≤ _; simp only [List.size_toArray, List.length_reverse]; exact hz, .str _, H4, I5.tok _, ⟨_, rfl⟩, q⟩
/-- text * n -/
def rRep1 : R2 := fun x y H Q => ∃ (z : Str) (n : Nat), x = .str z ∧ y = .int (n : Nat) ∧ 2 ≤ n ∧ n ≤ 100000 ∧ 1 ≤ z.length ∧ z.length ≤ 100 ∧ Q (.str ⟨(List.replicate n z.cps.toList).flatten.toArray⟩) H
theorem fold_rep (a : Array Nat) : ∀ (k : Nat) (acc : Array Nat), (List.replicate k a).foldl (· ++ ·) acc = acc ++ (List.replicate k a.toList).flatten.toArray
  | 0, acc => by simp
  | k + 1, acc => by
    rw [List.replicate_succ, List.foldl_cons, fold_rep a k, List.replicate_succ, List.flatten_cons]
    apply Array.ext'
    simp
theorem op_rep_str : OpR X (binaryOp .Mult) rRep1 := by
  intro pins s σ H x y v u Q I rx ry h
  obtain ⟨z, n, rfl, rfl, h2, h3, h4, h5, q⟩ := h
  obtain ⟨t, rfl⟩ := rx
  obtain ⟨t', rfl⟩ := ry
  have hz : z.length * n ≤ 100 * 100000 := Nat.mul_le_mul h5 h3
  have e : (⟨(List.replicate n z.cps).foldl (· ++ ·) #[]⟩ : Str) = ⟨(List.replicate n z.cps.toList).flatten.toArray⟩ := by
    rw [fold_rep]
    simp
  have e1 : ((n : Int) == 1 || z.length == 0) = false := by
    have a1 : ((n : Int) == 1) = false := by simp; omega
    have a2 : (z.length == 0) = false := by simp; omega
    rw [a1, a2]
    rfl
  refine PySem.P.mul_str ?_ (fun _ _ => ?_) (fun _ _ => ?_) ?_
  · have a1 : ¬ ((n : Int) < -(2 ^ 63 : Int)) := by omega
    have a2 : ¬ ((n : Int) ≥ 2 ^ 63) := by omega
    rw [decide_eq_false a1, decide_eq_false a2]
    rfl
  · have : (100000 : Int) ≤ (2 ^ 63 - 1) / (n : Int) := by
      refine (Int.le_ediv_iff_mul_le (by omega)).mpr ?_
      omega
    omega
  · rw [Int.toNat_natCast]
    unfold PySem.Builtin.Str.tooLong
    simp
    have := sizeLine_eq
    omega
  · rw [if_neg (by omega), e1, if_neg Bool.false_ne_true, Int.toNat_natCast, e]
    refine ⟨?_, .str _, H, I.tok _, ⟨_, rfl⟩, q⟩
    show ((List.replicate n z.cps.toList).flatten.toArray).size ≤ _
    have hl : z.cps.toList.length = z.length := by simp [Str.length]
    have : (List.replicate n z.cps.toList).flatten.length = n * z.length := by
      rw [List.length_flatten, List.map_replicate, List.sum_replicate_nat, hl]
    rw [List.size_toArray, this, Nat.mul_comm, sizeLine_eq]
    omega
end
end TU

set_option Elab.async false
set_option linter.all false
set_option maxRecDepth 100000
set_option maxHeartbeats 4000000

/-! TY: defs that call themselves some hundred levels down. -/
namespace TY
open PySem PySem.Spec PyProof.Rows L2
open TR
/-- room for n calls straight down, and for k more as Room counts them -/
structure RoomD (n k : Nat) (A : Around) : Prop where
  hd : A.handled = none
  dp : A.depth + n + 3 * k + 5 < recursionLimit
  un : A.units + 3 * n + 16 * k + 200 < cLine
theorem RoomD.mono {j n i k : Nat} {A : Around} (r : RoomD n k A) (h : j ≤ n) (g : i ≤ k) : RoomD j i A := ⟨r.hd, by have := r.dp; omega, by have := r.un; omega⟩
theorem RoomD.deeper {n k : Nat} {A : Around} (r : RoomD (n + 1) k A) (env : Env) : RoomD n k (A.deeper env) :=
  ⟨r.hd, by have := r.dp; show A.depth + 1 + n + 3 * k + 5 < _; omega, by have := r.un; show A.units + 3 + 3 * n + 16 * k + 200 < _; omega⟩
theorem RoomD.room {n k : Nat} {A : Around} (r : RoomD n k A) : Room k A := ⟨r.hd, by have := r.dp; omega, by have := r.un; omega⟩
structure FnD (P : Program) (w : World) (K : PySem.W.Frag) (mg : Str → Option Value) (base : Heap) (CX : CXT) (n k : Nat) (f : Addr) (fd : FuncData) (ps : List Str) (sp : Sp) : Prop where
  len : ∀ vs H Q E, sp vs H Q E → vs.length = ps.length
  run : ∀ (A : Around) (outer : List Env) (s : Shared) (H : Hp) (args : Args) (us : List Value) (vs : List V) (Q : VK) (E : XK), RoomD n k A → Env0 P w K mg base A outer s H → BindsTo s fd args (ps.zip us) → Vals vs us → sp vs H Q E →
    codeAny (model P w) A (.call (.ref f) args) (CR CX outer P w H s Q E) s
section
variable {X : Cx} {CX : CXT} {n k : Nat} {f : Addr} {fd : FuncData} {ps : List Str} {sp : Sp} {ds : List Value} {dvs : List V} {E : XK} {x : Str} {e : Expr} {es : List Expr} {t : TA} {p pos : Pos}
theorem pe_callD (F : FnD X.prog X.w X.K X.mg X.base CX n k f fd ps sp) (hr : RoomD n k X.A) (hg : Gl X x) (hm : X.mg x = some (.ref f)) (hk : PySem.W.keepIn X.K (.ref f) = true) (hb : Binds X.K fd ps ds) (hd : Vals dvs ds) (hx : Passes CX X E)
    (ha : PA X (e :: es) t) (hdb : (x == ("__debug__" : Str)) = false := by decide) (he : starEach (e :: es) X.env = (false, eval e X.env) :: starEach es X.env := by rfl) (hpl : (backTo pos (starEach es X.env)).any (·.1) = false := by rfl) :
    PE X (.Call (.Name x p) (e :: es) [] pos) (tCall sp dvs E t) := by
  refine ⟨fun pins s σ H Q I h => wpAny_Call_Name_kw (ld_glob I hg hm ?_ hdb)⟩
  refine PySem.W.callWith_K (h₀ := X.base) I.ok.mod.kin hk (thn (ha.run pos pins s σ H _ I h) fun us s1 ⟨vs, H1, J, r, q⟩ => ⟨J.kIn, ?_⟩) he hpl
  have rr : Vals (vs ++ dvs) (us ++ ds) := r.append hd
  have bound := hb s1 us J.kIn (rr.length.symm.trans (F.len _ _ _ _ q))
  refine wpAny_call (codeAny_mono (F.run X.A X.stack s1 H1 ⟨us, []⟩ (us ++ ds) (vs ++ dvs) Q E hr J.env0 bound rr q) fun res s' z => ?_)
  cases res with
  | error er => exact hx pins σ H1 s1 er s' J z
  | ok fl =>
    cases fl with
    | ret u => exact J.after z
    | next => exact False.elim z
    | brk => exact False.elim z
    | cont => exact False.elim z
end
section
variable {P : Program} {w : World} {K : PySem.W.Frag} {mg : Str → Option Value} {base : Heap}
/-- a def by its body, no repr under way -/
theorem okD {x qual : Str} {st : Stmt} {f : Addr} {fd : FuncData} {N ps : List Str} {n k : Nat} {sp : Sp} (F : Fun K x qual st f fd) (S : FnScope N ps (defScope st)) (len : ∀ vs H Q E, sp vs H Q E → vs.length = ps.length)
    (hbody : ∀ (cdv : Value) (A : Around) (outer : List Env) (s : Shared) (H : Hp) (vs : List V) (Q : VK) (E : XK), RoomD n k (A.deeper (envOfC qual (defScope st) s.heap.objs.size f cdv)) → sp vs H Q E →
      ∃ t, PSs (cxOf CX0 P w K mg base N qual (defScope st) f cdv A outer s H E).nox (defBody st) t ∧ t { nx := fun _ H' => Q .non H', rt := Q } (start N vs) H) : FnD P w K mg base CX0 (n + 1) k f fd ps sp := by
  obtain ⟨oc, od, kV, doc, pm, an, cdv, ct, osl, rfl, lk, hcd⟩ := F.ex
  refine ⟨len, fun A outer s H args us vs Q E room e0 bound r pre => ?_⟩
  have many := len _ _ _ _ pre
  have KX : K.In s.heap := e0.mod.kin.keeps fun b o z => (e0.bs b o z).1
  have lim : s.heap.NoLimit := e0.mod.nolimit.keeps fun b o z => (e0.bs b o z).1
  have kinds : ∀ y ∈ ps.zip us, (defScope st).names.lookup y.1 = some .local ∨ ((defScope st).names.lookup y.1 = some .cell ∧ ((cellsFrom (s.heap.objs.size + 1) (defScope st).names []).lookup y.1).isSome = true) := fun y hy => by
    have mem : y.1 ∈ ps := (List.of_mem_zip (show (y.1, y.2) ∈ ps.zip us from hy)).1
    rcases S.par y.1 mem with z | z
    · exact .inl z
    · exact .inr ⟨z, PySem.W.cellsFrom_some _ _ _ (.inl z)⟩
  refine codeAny_call_function room.room.depth (KX _ _ lk) rfl S.co S.gen rfl (PySem.W.codeRec_of KX hcd) (bound _ _ _ _ ?_)
  refine wpAny_newFunctionEnv_cells S.kind kinds fun env henv s1 inside => ?_
  subst henv
  refine ⟨lim.keeps inside.toInCall.keep, codeAny_func ?_⟩
  obtain ⟨t, ht0, go⟩ := hbody cdv A outer s H vs Q E (room.deeper _) pre
  have ht := ht0.nox
  have I : Inv (cxOf CX0 P w K mg base N qual (defScope st) f cdv A outer s H E) [] (start N vs) H s1 := inv_start S room.hd e0 many r inside
  refine wpAny_mono (ht.run [] s1 (start N vs) H _ I go) (fun fl s' z => ?_) fun _ _ z => z
  have back : ∀ {σ' : L2.St} {H' : Hp} {v : V} {u : Value}, Inv (cxOf CX0 P w K mg base N qual (defScope st) f cdv A outer s H E) [] σ' H' s' → RelV v u → Q v H' → CE outer P w H s Q u s' := fun {σ' H' v u} J rv q => ⟨v, H', J.os, J.bare, J.base, J.hok, rv, q⟩
  cases fl with
  | ret u =>
    obtain ⟨v, σ', H', J, rv, q⟩ := z
    exact back J rv q
  | next =>
    obtain ⟨σ', H', J, q⟩ := z
    exact back (v := V.non) (u := Value.none) J rfl q
  | brk => exact False.elim z.choose_spec.choose_spec.2
  | cont => exact False.elim z.choose_spec.choose_spec.2
end

structure FnDG (P : Program) (w : World) (K : PySem.W.Frag) (mg : Str → Option Value) (base : Heap) (CX : CXT) (n k : Nat) (f : Addr) (fd : FuncData) (ps : List Str) (sp : Sp) : Prop where
  len : ∀ vs H Q E, sp vs H Q E → vs.length = ps.length
  run : ∀ (A : Around), A.guards = some [] → ∀ (outer : List Env) (s : Shared) (H : Hp) (args : Args) (us : List Value) (vs : List V) (Q : VK) (E : XK), RoomD n k A → Env0 P w K mg base A outer s H → BindsTo s fd args (ps.zip us) → Vals vs us → sp vs H Q E →
    codeAny (model P w) A (.call (.ref f) args) (CR CX outer P w H s Q E) s
section
variable {X : Cx} {CX : CXT} {n k : Nat} {f : Addr} {fd : FuncData} {ps : List Str} {sp : Sp} {ds : List Value} {dvs : List V} {E : XK} {x : Str} {e : Expr} {es : List Expr} {t : TA} {p pos : Pos}
theorem pe_callDG (F : FnDG X.prog X.w X.K X.mg X.base CX n k f fd ps sp) (hG : X.A.guards = some []) (hr : RoomD n k X.A) (hg : Gl X x) (hm : X.mg x = some (.ref f)) (hk : PySem.W.keepIn X.K (.ref f) = true) (hb : Binds X.K fd ps ds) (hd : Vals dvs ds) (hx : Passes CX X E)
    (ha : PA X (e :: es) t) (hdb : (x == ("__debug__" : Str)) = false := by decide) (he : starEach (e :: es) X.env = (false, eval e X.env) :: starEach es X.env := by rfl) (hpl : (backTo pos (starEach es X.env)).any (·.1) = false := by rfl) :
    PE X (.Call (.Name x p) (e :: es) [] pos) (tCall sp dvs E t) := by
  refine ⟨fun pins s σ H Q I h => wpAny_Call_Name_kw (ld_glob I hg hm ?_ hdb)⟩
  refine PySem.W.callWith_K (h₀ := X.base) I.ok.mod.kin hk (thn (ha.run pos pins s σ H _ I h) fun us s1 ⟨vs, H1, J, r, q⟩ => ⟨J.kIn, ?_⟩) he hpl
  have rr : Vals (vs ++ dvs) (us ++ ds) := r.append hd
  have bound := hb s1 us J.kIn (rr.length.symm.trans (F.len _ _ _ _ q))
  refine wpAny_call (codeAny_mono (F.run X.A hG X.stack s1 H1 ⟨us, []⟩ (us ++ ds) (vs ++ dvs) Q E hr J.env0 bound rr q) fun res s' z => ?_)
  cases res with
  | error er => exact hx pins σ H1 s1 er s' J z
  | ok fl =>
    cases fl with
    | ret u => exact J.after z
    | next => exact False.elim z
    | brk => exact False.elim z
    | cont => exact False.elim z
end
section
variable {P : Program} {w : World} {K : PySem.W.Frag} {mg : Str → Option Value} {base : Heap}
/-- a def by its body, no repr under way -/
theorem okDG {x qual : Str} {st : Stmt} {f : Addr} {fd : FuncData} {N ps : List Str} {n k : Nat} {sp : Sp} (F : Fun K x qual st f fd) (S : FnScope N ps (defScope st)) (len : ∀ vs H Q E, sp vs H Q E → vs.length = ps.length)
    (hbody : ∀ (cdv : Value) (A : Around) (outer : List Env) (s : Shared) (H : Hp) (vs : List V) (Q : VK) (E : XK), (A.deeper (envOfC qual (defScope st) s.heap.objs.size f cdv)).guards = some [] → RoomD n k (A.deeper (envOfC qual (defScope st) s.heap.objs.size f cdv)) → sp vs H Q E →
      ∃ t, PSs (cxOf CX0 P w K mg base N qual (defScope st) f cdv A outer s H E).nox (defBody st) t ∧ t { nx := fun _ H' => Q .non H', rt := Q } (start N vs) H) : FnDG P w K mg base CX0 (n + 1) k f fd ps sp := by
  obtain ⟨oc, od, kV, doc, pm, an, cdv, ct, osl, rfl, lk, hcd⟩ := F.ex
  refine ⟨len, fun A hG outer s H args us vs Q E room e0 bound r pre => ?_⟩
  have many := len _ _ _ _ pre
  have KX : K.In s.heap := e0.mod.kin.keeps fun b o z => (e0.bs b o z).1
  have lim : s.heap.NoLimit := e0.mod.nolimit.keeps fun b o z => (e0.bs b o z).1
  have kinds : ∀ y ∈ ps.zip us, (defScope st).names.lookup y.1 = some .local ∨ ((defScope st).names.lookup y.1 = some .cell ∧ ((cellsFrom (s.heap.objs.size + 1) (defScope st).names []).lookup y.1).isSome = true) := fun y hy => by
    have mem : y.1 ∈ ps := (List.of_mem_zip (show (y.1, y.2) ∈ ps.zip us from hy)).1
    rcases S.par y.1 mem with z | z
    · exact .inl z
    · exact .inr ⟨z, PySem.W.cellsFrom_some _ _ _ (.inl z)⟩
  refine codeAny_call_function room.room.depth (KX _ _ lk) rfl S.co S.gen rfl (PySem.W.codeRec_of KX hcd) (bound _ _ _ _ ?_)
  refine wpAny_newFunctionEnv_cells S.kind kinds fun env henv s1 inside => ?_
  subst henv
  refine ⟨lim.keeps inside.toInCall.keep, codeAny_func ?_⟩
  obtain ⟨t, ht0, go⟩ := hbody cdv A outer s H vs Q E hG (room.deeper _) pre
  have ht := ht0.nox
  have I : Inv (cxOf CX0 P w K mg base N qual (defScope st) f cdv A outer s H E) [] (start N vs) H s1 := inv_start S room.hd e0 many r inside
  refine wpAny_mono (ht.run [] s1 (start N vs) H _ I go) (fun fl s' z => ?_) fun _ _ z => z
  have back : ∀ {σ' : L2.St} {H' : Hp} {v : V} {u : Value}, Inv (cxOf CX0 P w K mg base N qual (defScope st) f cdv A outer s H E) [] σ' H' s' → RelV v u → Q v H' → CE outer P w H s Q u s' := fun {σ' H' v u} J rv q => ⟨v, H', J.os, J.bare, J.base, J.hok, rv, q⟩
  cases fl with
  | ret u =>
    obtain ⟨v, σ', H', J, rv, q⟩ := z
    exact back J rv q
  | next =>
    obtain ⟨σ', H', J, q⟩ := z
    exact back (v := V.non) (u := Value.none) J rfl q
  | brk => exact False.elim z.choose_spec.choose_spec.2
  | cont => exact False.elim z.choose_spec.choose_spec.2
end

/-! ### the law's own def -/
section
variable {P : Program} {w : World} {K : PySem.W.Frag} {mg mb : Str → Option Value} {CX : CXT} {m k : Nat} {fa a : Addr} {fd : FuncData} {x : Str} {sp : Sp} {t : Shared} {us : List Value} {ns : List Int}
/-- what the call leaves -/
abbrev FineD (t : Shared) : Result → Shared → Prop := fun r t' => r = .ok (.ret (.bool true)) ∧ OldK t.heap t'.heap ∧ t'.os = t.os ∧ AllBare t'.gens
theorem lawHD (inK : K.In t.heap) (nsM : t.heap.Ns mainGlobals mg) (nsB : t.heap.Ns builtinsNs mb) (bb : ∀ y : Str, y ≠ "__name__" → mb y = bootBuiltins y) (nl : t.heap.NoLimit) (ng : t.gens = #[])
    (at_a : t.heap.get? a = some { cls := .type "list", data := .seq us.toArray }) (room : RoomD m k callerA) (F : ∀ base : Heap, K.In base → base.Ns mainGlobals mg → FnDG P w K mg base CX m k fa fd [x] sp)
    (bind1 : ∀ (s : Shared) (u : Value), BindsTo s fd ⟨[u], []⟩ [(x, u)]) (noX : ∀ H e s', CX [] H t (fun _ _ _ => False) e s' → False)
    {H : Hp} (only : Only H) (pre : sp [.ref a] H (fun v _ => v = .bl true) fun _ _ _ => False) (hok : HOk P w H t.heap) (onA : ∀ b, H b ≠ none → b = a) (offK : H a ≠ none → K.lookup a = none) :
    codeAny (model P w) callerA (.call (.ref fa) ⟨[.ref a], []⟩) (FineD t) t := by
  have sees : ∀ {b : Addr} {o : Obj}, t.heap.get? b = some o → H b = none → (hidT t.heap H).get? b = some o := fun z n => hidT_get z n
  have untr : ∀ {b : Addr}, b ≠ a → H b = none := fun {b} nb => by
    cases q : H b with
    | none => rfl
    | some u => exact absurd (onA b (by rw [q]; simp)) nb
  have dictNs : ∀ {b : Addr} {m : Str → Option Value}, t.heap.Ns b m → (hidT t.heap H).Ns b m := fun {b m} ⟨o, es, ep, g, d, r⟩ => by
    refine ⟨o, es, ep, sees g (untr fun z => ?_), d, r⟩
    subst z
    rw [at_a] at g
    cases g
    exact nomatch (show Data.seq us.toArray _ = Data.dict es ep from d)
  have inB : K.In (hidT t.heap H) := fun b o z => by
    refine sees (inK b o z) ?_
    cases q : H b with
    | none => rfl
    | some u =>
      have nn : H b ≠ none := by rw [q]; simp
      have eb := onA b nn
      subst eb
      rw [offK nn] at z
      cases z
  obtain ⟨mc, l1, l2⟩ := nl
  have md : Mod K mg (hidT t.heap H) := ⟨inB, dictNs nsM, ⟨mb, dictNs nsB, bb⟩, ⟨mc, dictNs l1, l2⟩⟩
  have e0 : Env0 P w K mg (hidT t.heap H) callerA [] t H := ⟨rfl, md, fun b o z => of_hidT z, Nat.le_of_eq (hidT_size _ _), trivial, fun b z => (by cases z), hok, .of_eq ng⟩
  refine codeAny_mono ((F _ inB (dictNs nsM)).run callerA rfl [] t H ⟨[.ref a], []⟩ [.ref a] [.ref a] _ _ room e0 (bind1 t (.ref a)) (.cons rfl .nil) pre) fun r t' z => ?_
  cases r with
  | error e => exact (noX H e t' z).elim
  | ok fl =>
    cases fl with
    | next => exact False.elim z
    | brk => exact False.elim z
    | cont => exact False.elim z
    | ret u =>
      obtain ⟨v, H', os, bare, un, hok', rv, ev⟩ := z
      cases (show v = .bl true from ev)
      cases (show u = Value.bool true from rv)
      refine ⟨rfl, OldK.of_keep fun b o g => ?_, os, bare⟩
      rcases only b with n | ⟨ob, xs, z⟩
      · exact un.keep b o g n (fun q => by cases q) (fun q => by cases q)
      · have g1 := (hok b _ z).1
        have g2 := (hok' b _ (un.frzs b ob _ z)).1
        rw [g] at g1
        cases g1
        exact g2
theorem lawGD (inK : K.In t.heap) (nsM : t.heap.Ns mainGlobals mg) (nsB : t.heap.Ns builtinsNs mb) (bb : ∀ y : Str, y ≠ "__name__" → mb y = bootBuiltins y) (nl : t.heap.NoLimit) (ng : t.gens = #[])
    (at_a : t.heap.get? a = some { cls := .type "list", data := .seq us.toArray }) (areInts : IntsAre us ns) (hz : ns.length ≤ sizeLine) (room : RoomD m k callerA) (F : ∀ base : Heap, K.In base → base.Ns mainGlobals mg → FnDG P w K mg base CX m k fa fd [x] sp)
    (bind1 : ∀ (s : Shared) (u : Value), BindsTo s fd ⟨[u], []⟩ [(x, u)]) (noX : ∀ H e s', CX [] H t (fun _ _ _ => False) e s' → False)
    (pre : ∀ H : Hp, Only H → SqL K H a (ns.map V.int) → sp [.ref a] H (fun v _ => v = .bl true) fun _ _ _ => False) : codeAny (model P w) callerA (.call (.ref fa) ⟨[.ref a], []⟩) (FineD t) t := by
  have rv := vals_ints areInts
  have many := areInts.length
  cases own : K.lookup a with
  | some o =>
    have g := inK a o own
    rw [at_a] at g
    cases g
    have none0 : Only fun _ => none := fun _ => .inl rfl
    exact lawHD inK nsM nsB bb nl ng at_a room F bind1 noX none0 (pre _ none0 (.inr ⟨_, us.toArray, _, own, rfl, rfl, rfl, by rw [List.size_toArray, many]; exact hz, by simpa using rv⟩)) (fun b u z => nomatch (show (none : Option HO) = some u from z)) (fun b z => absurd rfl z) fun z => absurd rfl z
  | none =>
    let H1 : Hp := fun b => if b = a then some (.frz { cls := .type "list", data := .seq us.toArray } (.lst (ns.map V.int))) else none
    have yes : H1 a = some (.frz { cls := .type "list", data := .seq us.toArray } (.lst (ns.map V.int))) := if_pos rfl
    have no : ∀ {b : Addr}, b ≠ a → H1 b = none := fun nb => if_neg nb
    have one : Only H1 := fun b => by
      by_cases e : b = a
      · exact .inr ⟨_, _, by rw [e]; exact yes⟩
      · exact .inl (no e)
    refine lawHD inK nsM nsB bb nl ng at_a room F bind1 noX one (pre _ one (.inl (.inr ⟨_, yes⟩))) (fun b u z => ?_) (fun b z => ?_) fun _ => own
    · by_cases e : b = a
      · subst e
        rw [yes] at z
        cases z
        exact ⟨at_a, by rw [List.length_map]; exact hz, us, _, rv, at_a⟩
      · rw [no e] at z
        cases z
    · exact Decidable.byContradiction fun e => z (no e)
end
theorem walkGD {l : PySem.W.OpenLaw} {n m k : Nat} {q : Program} {loose : List Str} {XP : (Str → Option Value) → Heap → Prop} {YP : World → Heap → Prop} {d : DefRec} {K : Params → PySem.W.Frag} {sp : World → Sp} {x : Str}
    (hn : l.most = some n) (hz : n ≤ sizeLine) (hdf : d.params.defaults = []) (room : RoomD m k callerA) (hY : ∀ (w : World) (h : Heap), YP w h → (K w.params).In h)
    (F : ∀ (w : World) (mg : Str → Option Value) (fa : Addr) (h : Heap), (K w.params).In h → h.Ns mainGlobals mg → mg d.name = some (.ref fa) →
      ∃ fd : FuncData, (∀ (s : Shared) (u : Value), BindsTo s fd ⟨[u], []⟩ [(x, u)]) ∧ ∀ base : Heap, (K w.params).In base → base.Ns mainGlobals mg → FnDG l.prog w (K w.params) mg base CX0 m k fa fd [x] (sp w))
    (pre : ∀ (w : World) (H : Hp) (a : Addr) (ns : List Int), ns.length ≤ n → Only H → SqL (K w.params) H a (ns.map V.int) → sp w [.ref a] H (fun v _ => v = .bl true) fun _ _ _ => False) :
    PySem.W.WalkO q loose XP YP l.row.toRowW d [] (fun f vs => PySem.call f vs) := by
  refine Att.attach_call hn hdf fun w t0 t mg mb fa o pm cd doc a us ns G Y ho hd hcd hmg at_a areInts many ng => ?_
  obtain ⟨fd, hb, hF⟩ := F w mg fa _ (hY w _ Y) G.T.g hmg
  exact lawGD (hY w _ Y) G.T.g G.T.b G.T.builtins G.T.nolimit ng at_a areInts (Nat.le_trans many hz) room hF hb (fun _ _ _ z => z) fun H h1 h2 => pre w H a ns many h1 h2
end TY

set_option Elab.async false
set_option linter.all false
set_option maxRecDepth 100000
set_option maxHeartbeats 4000000
/-! TZ: two lists of the same plain values. -/
namespace TZ
open PySem PySem.Spec PyProof.Rows L2
theorem valsAt : ∀ {xs : List V} {us ws : List Value}, Vals xs us → Vals xs ws → (∀ z ∈ xs, flatB z = true) → ∀ (A : Around) (s : Shared) (j : Nat) (h1 : j < us.length) (h2 : j < ws.length), SeqAt.EqAt A s us[j] ws[j] true
  | _, _, _, .nil, .nil, _, _, _, j, h1, _ => absurd h1 (Nat.not_lt_zero j)
  | _, _, _, .cons r1 t1, .cons r2 t2, hf, A, s, 0, _, _ => eqAt_same r1 r2 (hf _ (List.mem_cons_self ..))
  | _, _, _, .cons r1 t1, .cons r2 t2, hf, A, s, j + 1, h1, h2 => valsAt t1 t2 (fun z hz => hf z (List.mem_cons_of_mem _ hz)) A s j (by simpa using h1) (by simpa using h2)
section
variable {X : Cx}
def rNeV (K : PySem.W.Frag) : R2 := fun x y H Q => ∃ a b xs, x = .ref a ∧ y = .ref b ∧ SqL K H a xs ∧ SqL K H b xs ∧ (∀ z ∈ xs, flatB z = true) ∧ Q (.bl false) H
theorem op_neV (hu : X.A.units + 64 < cLine) : OpR X (compareOp .NotEq) (rNeV X.K) := by
  intro pins s σ H x y v u Q I rx ry h
  obtain ⟨a, b, xs, rfl, rfl, ha, hb, hf, q⟩ := h
  cases (show v = Value.ref a from rx)
  cases (show u = Value.ref b from ry)
  obtain ⟨us, r1, p1, _⟩ := I.list ha
  obtain ⟨ws, r2, p2, _⟩ := I.list hb
  have hsz : us.toArray.size = ws.toArray.size := by
    rw [List.size_toArray, List.size_toArray, ← r1.length, ← r2.length]
  have he : ∀ j (h1 : j < us.toArray.size) (h2 : j < ws.toArray.size), SeqAt.EqAt X.A.in1 s us.toArray[j] ws.toArray[j] ((fun _ => true) j) := fun j h1 h2 => by
    have k := valsAt r1 r2 hf X.A.in1 s j (by simpa using h1) (by simpa using h2)
    simpa using k
  refine SeqAt.RcNeAt.lists (e := fun _ => true) p1.isList p2.isList hsz (by omega) he _ _ _ _ ?_
  rw [show (!(List.range us.toArray.size).all fun _ => true) = false from by rw [show ((List.range us.toArray.size).all fun _ => true) = true from List.all_eq_true.mpr fun _ _ => rfl]; rfl]
  exact ⟨.bl false, H, I, rfl, q⟩
end
end TZ

set_option Elab.async false
set_option linter.all false
set_option maxRecDepth 100000
set_option maxHeartbeats 4000000
/-! TO: texts put in order, however many there are; there is one such list. -/
namespace TO
open PySem PySem.Spec PyProof.Rows L2
def rSrtA (K : PySem.W.Frag) : List V → Hp → VK → Prop := fun vs H Q => ∃ (a : Addr) (xs : List Str), vs = [V.ref a] ∧ SqL K H a (xs.map V.str) ∧
  ∀ (ys : List Str) (p : Addr), ys.Perm xs ∧ sortedS ys = true → H p = none → Q (.ref p) (upd H p (.lst (ys.map V.str)))
section
variable {X : Cx}
theorem cr_srtA : CallR X (.builtin "sorted") (rSrtA X.K) := by
  intro pins s σ H vs us Q I r h
  obtain ⟨a, xs, e, hs, q⟩ := h
  subst e
  obtain ⟨its, rv, hl, hz⟩ := I.list hs
  rw [Vals.ref1 r]
  have n1 : its.length ≤ sizeLine := by rw [← rv.length]; exact hz
  refine PyProof.Rows.sorted_strsAny hl.isList rv.strs n1 fun out ys h1 h2 h3 => ?_
  obtain ⟨ep, at_⟩ := PyProof.Rows.sortedAll_at s.heap its out
  have n2 : (ys.map V.str).length ≤ sizeLine := by
    rw [List.length_map, h2.length_eq]
    rw [List.length_map] at hz
    exact hz
  have J := I.laid (t' := s.toks) (o := .lst (ys.map V.str)) (fun _ _ => PyProof.Rows.sortedAll_old) (Nat.le_succ _) ⟨n2, out.toList, ep, vals_of_strs h1, at_⟩
  exact ⟨.ref _, _, J, rfl, q ys _ ⟨h2, h3⟩ (I.hok.fresh (Nat.le_succ _))⟩
end
/-! ### the order of texts -/
theorem lt_irr : ∀ a : List Nat, ltCps a a = false
  | [] => rfl
  | x :: a => by simp [ltCps, lt_irr a]
theorem lt_tri : ∀ a b : List Nat, ltCps a b = false → ltCps b a = false → a = b
  | [], [], _, _ => rfl
  | [], _ :: _, h, _ => by simp [ltCps] at h
  | _ :: _, [], _, h => by simp [ltCps] at h
  | x :: a, y :: b, h, g => by
    simp only [ltCps, Bool.or_eq_false_iff, Bool.and_eq_false_iff, decide_eq_false_iff_not, beq_eq_false_iff_ne] at h g
    have e : x = y := by omega
    subst e
    rw [lt_tri a b (by rcases h.2 with z | z; exact absurd rfl z; exact z) (by rcases g.2 with z | z; exact absurd rfl z; exact z)]
/-- not after -/
theorem nl_trans : ∀ a b c : List Nat, ltCps b a = false → ltCps c b = false → ltCps c a = false
  | [], _, [], _, _ => rfl
  | [], _, _ :: _, _, _ => rfl
  | _ :: _, [], _, h, _ => by simp [ltCps] at h
  | x :: a, y :: b, [], _, g => by simp [ltCps] at g
  | x :: a, y :: b, z :: c, h, g => by
    simp only [ltCps, Bool.or_eq_false_iff, Bool.and_eq_false_iff, decide_eq_false_iff_not, beq_eq_false_iff_ne] at h g ⊢
    refine ⟨by omega, ?_⟩
    by_cases e : z = x
    · have e1 : y = x := by omega
      have e2 : z = y := by omega
      exact .inr (nl_trans a b c (by rcases h.2 with q | q; exact absurd e1 q; exact q) (by rcases g.2 with q | q; exact absurd e2 q; exact q))
    · exact .inl e
theorem up_all : ∀ (l : List Str) (p : Str), risingS p l = true → ∀ x ∈ l, ltCps x.cps.toList p.cps.toList = false
  | [], _, _, _, h => nomatch h
  | y :: l, p, h, x, hx => by
    simp only [risingS, Bool.and_eq_true, Bool.not_eq_true'] at h
    rcases List.mem_cons.mp hx with rfl | hx
    · exact h.1
    · exact nl_trans _ _ _ h.1 (up_all l y h.2 x hx)
theorem up_tail {x : Str} {l : List Str} (h : sortedS (x :: l) = true) : sortedS l = true := by
  cases l with
  | nil => rfl
  | cons y l =>
    have h : risingS x (y :: l) = true := h
    simp only [risingS, Bool.and_eq_true] at h
    exact h.2
/-- texts in order: one list -/
theorem one_list : ∀ {xs ys : List Str}, xs.Perm ys → sortedS xs = true → sortedS ys = true → xs = ys
  | [], ys, h, _, _ => (List.Perm.eq_nil h.symm).symm
  | x :: xs, [], h, _, _ => absurd h.length_eq (by simp)
  | x :: xs, y :: ys, h, hx, hy => by
    have e : x = y := by
      by_cases e : x = y
      · exact e
      · have m1 : x ∈ ys := by
          rcases List.mem_cons.mp (h.mem_iff.mp (List.mem_cons_self (a := x) (l := xs))) with z | z
          · exact absurd z e
          · exact z
        have m2 : y ∈ xs := by
          rcases List.mem_cons.mp (h.mem_iff.mpr (List.mem_cons_self (a := y) (l := ys))) with z | z
          · exact absurd z.symm e
          · exact z
        have a1 := up_all ys y hy x m1
        have a2 := up_all xs x hx y m2
        have := lt_tri _ _ a1 a2
        cases x; cases y
        simp only [Str.mk.injEq] at *
        exact absurd (Array.toList_inj.mp this) e
    subst e
    rw [one_list (List.Perm.cons_inv h) (up_tail hx) (up_tail hy)]
end TO

set_option Elab.async false
set_option linter.all false
set_option maxRecDepth 100000
set_option maxHeartbeats 4000000
/-! TD: dicts of the module from texts to texts; text * 0 or 1. -/
namespace TD
open PySem PySem.Spec PyProof.Rows L2
/-- at d stands, for good, a dict from texts to texts -/
structure KD (K : PySem.W.Frag) (w : World) (d : Addr) (kvs : List (Str × Str)) : Prop where
  ex : ∃ es n, KDict K w d es n
  get : ∀ z, ∃ r, PySem.W.nsIn K d z = some r ∧ ((∃ y t, kvs.lookup z = some y ∧ r = some (.str y t)) ∨ (kvs.lookup z = none ∧ r = none))
def rInKD (d : Addr) (kvs : List (Str × Str)) : R2 := fun x y H Q => ∃ z, x = .str z ∧ y = .ref d ∧ Q (.bl (kvs.lookup z).isSome) H
def rNiKD (d : Addr) (kvs : List (Str × Str)) : R2 := fun x y H Q => ∃ z, x = .str z ∧ y = .ref d ∧ Q (.bl (!(kvs.lookup z).isSome)) H
def rIxKD (d : Addr) (kvs : List (Str × Str)) : R2 := fun x y H Q => ∃ z u, x = .ref d ∧ y = .str z ∧ kvs.lookup z = some u ∧ Q (.str u) H
section
variable {X : Cx} {d : Addr} {kvs : List (Str × Str)}
theorem op_inKD (D : KD X.K X.w d kvs) : OpR X (compareOp .In) (rInKD d kvs) := by
  obtain ⟨es, n, kd⟩ := D.ex
  intro pins s σ H x y v u Q I rx ry h
  obtain ⟨z, e1, e2, q⟩ := h
  obtain ⟨r, hr, hc⟩ := D.get z
  refine op_in_kd kd pins s σ H x y v u Q I rx ry ⟨z, r, e1, e2, hr, ?_⟩
  rcases hc with ⟨y, t, l, rfl⟩ | ⟨l, rfl⟩
  · rw [l] at q; exact q
  · rw [l] at q; exact q
theorem op_niKD (D : KD X.K X.w d kvs) : OpR X (compareOp .NotIn) (rNiKD d kvs) := by
  obtain ⟨es, n, kd⟩ := D.ex
  intro pins s σ H x y v u Q I rx ry h
  obtain ⟨z, e1, e2, q⟩ := h
  obtain ⟨r, hr, hc⟩ := D.get z
  refine op_notIn_kd kd pins s σ H x y v u Q I rx ry ⟨z, r, e1, e2, hr, ?_⟩
  rcases hc with ⟨y, t, l, rfl⟩ | ⟨l, rfl⟩
  · rw [l] at q; exact q
  · rw [l] at q; exact q
theorem ix_KD (D : KD X.K X.w d kvs) : IxR X (rIxKD d kvs) := by
  obtain ⟨es, n, kd⟩ := D.ex
  intro value slice pins s σ H x y v u Q I rx ry h hs
  obtain ⟨z, u0, e1, e2, l, q⟩ := h
  obtain ⟨r, hr, hc⟩ := D.get z
  rcases hc with ⟨y', t, l', rfl⟩ | ⟨l', rfl⟩
  · rw [l] at l'
    cases l'
    exact ix_kdict value slice pins s σ H x y v u Q I rx ry ⟨d, z, .str u0, e1, e2, ⟨es, n, _, kd.at_, kd.lit, hr, t, rfl⟩, q⟩ hs
  · rw [l] at l'; cases l'
end
/-- how such a dict is found among what the top leaves -/
theorem kd_mk2 {K : PySem.W.Frag} {w : World} {d : Addr} {n : Nat} {h1 h2 : Int} {a b c e : Str} {t1 t2 t3 t4 : Tok} (l : K.lookup d = some ⟨.type "dict", none, .dict #[⟨h1, .str a t1, .str b t2⟩, ⟨h2, .str c t3, .str e t4⟩] n, #[]⟩)
    (e1 : h1 = PyData.keyHash w.params a) (e2 : h2 = PyData.keyHash w.params c) (low : (d == sysModules) = false) : KD K w d [(a, b), (c, e)] := by
  refine ⟨⟨_, _, l, ⟨⟨a, t1, rfl, e1⟩, ⟨c, t3, rfl, e2⟩, trivial⟩, low⟩, fun z => ?_⟩
  unfold PySem.W.nsIn
  rw [l]
  simp only [List.find?, Value.isStr]
  by_cases ha : a = z
  · subst ha
    refine ⟨_, by simp, .inl ⟨b, t2, ?_, rfl⟩⟩
    simp [List.lookup]
  · have ha' : (a == z) = false := by simpa using ha
    have ha2 : (z == a) = false := by simpa using fun q : z = a => ha q.symm
    by_cases hc : c = z
    · subst hc
      refine ⟨_, by simp [ha'], .inl ⟨e, t4, ?_, rfl⟩⟩
      simp [List.lookup, ha2]
    · have hc' : (c == z) = false := by simpa using hc
      have hc2 : (z == c) = false := by simpa using fun q : z = c => hc q.symm
      refine ⟨none, by simp [ha', hc', DictEntry.refKey], .inr ⟨?_, rfl⟩⟩
      simp [List.lookup, ha2, hc2]
/-- text * 0, text * 1 -/
def rRep01 : R2 := fun x y H Q => ∃ (z : Str) (n : Nat), x = .str z ∧ y = .int (n : Nat) ∧ n ≤ 1 ∧ z.length ≤ 100 ∧ Q (.str (if n = 1 then z else Str.empty)) H
theorem op_rep01 {X : Cx} : OpR X (binaryOp .Mult) rRep01 := by
  intro pins s σ H x y v u Q I rx ry h
  obtain ⟨z, n, rfl, rfl, h2, h3, q⟩ := h
  obtain ⟨t, rfl⟩ := rx
  obtain ⟨t', rfl⟩ := ry
  rcases (show n = 0 ∨ n = 1 by omega) with rfl | rfl
  · exact PySem.P.mul_str_none (by decide) (by decide) ⟨.str _, H, I.tok _, ⟨_, rfl⟩, q⟩
  · have e : (((1 : Nat) : Int) == 1 || z.length == 0) = true := rfl
    refine PySem.P.mul_str (by decide) (fun _ h => by rw [e] at h; cases h) (fun _ h => by rw [e] at h; cases h) ?_
    rw [if_neg (by decide), if_pos e]
    exact ⟨.str z, H, I, ⟨_, rfl⟩, q⟩
/-- what is never reached -/
theorem pss_dead {X : Cx} {b : List Stmt} : PSs X b (fun _ _ _ => False) := ⟨fun _ _ _ _ _ _ h => False.elim h⟩
/-- a comprehension over a text's signs -/
theorem lc_str {x : Str} {g : TG} {tt : TT} {te : TE} {vs : List Nat} {σ : L2.St} {H1 : Hp} {D : Addr} {Qd : Hp → Prop} (Pv : Nat → Hp → Prop) (h0 : Pv 0 (upd H1 D (.lst [])))
    (hs : ∀ i c H, x.cps[i]? = some c → Pv i H → g (.str ⟨#[c]⟩) (wipe σ vs) H fun σ2 H2 => wipe σ2 vs = wipe σ vs ∧ tt σ2 H2 fun b H3 =>
      if b = true then te σ2 H3 fun y H4 => ∃ acc, H4 D = some (.lst acc) ∧ acc.length < sizeLine ∧ Pv (i + 1) (upd H4 D (.lst (acc ++ [y]))) else Pv (i + 1) H3)
    (hd : ∀ H, Pv x.cps.size H → Qd H) :
    ∃ W : Nat → Nat → Hp → Prop, (∃ m, W 0 m (upd H1 D (.lst []))) ∧ ∀ i m H, W i m H →
      ((Its x).stop i H ∧ Qd H) ∨ ((Its x).go i H ∧ ∃ Nx : Hp → Prop, (∀ H', Nx H' → ∃ m', m' < m ∧ W (i + 1) m' H') ∧ ∀ y H', (Its x).yld i H y H' → g y (wipe σ vs) H' fun σ2 H2 => wipe σ2 vs = wipe σ vs ∧ tt σ2 H2 fun b H3 =>
        if b = true then te σ2 H3 fun y H4 => ∃ acc, H4 D = some (.lst acc) ∧ acc.length < sizeLine ∧ Nx (upd H4 D (.lst (acc ++ [y]))) else Nx H3) := by
  refine ⟨fun i m H => m = x.cps.size - i ∧ i ≤ x.cps.size ∧ Pv i H, ⟨x.cps.size, by simp, Nat.zero_le _, h0⟩, ?_⟩
  rintro i m H ⟨rfl, hi, p⟩
  by_cases hlt : i < x.cps.size
  · refine .inr ⟨hlt, Pv (i + 1), fun H' q => ⟨x.cps.size - (i + 1), by omega, rfl, hlt, q⟩, fun v H' y => ?_⟩
    obtain ⟨rfl, c, hc, rfl⟩ := y
    exact hs i c H' hc p
  · have : i = x.cps.size := by omega
    subst this
    exact .inl ⟨Nat.le_refl _, hd H p⟩
/-- any comprehension's loop over a list: what a turn does, by its item, its heap and what it is to reach -/
theorem lco_list {K : PySem.W.Frag} {a : Addr} {xs : List V} {H0 : Hp} {Qd : Hp → Prop} {B : V → Hp → (Hp → Prop) → Prop} (Pv : Nat → Hp → Prop) (h0 : Pv 0 H0) (hl : ∀ i H, i ≤ xs.length → Pv i H → SqL K H a xs)
    (hs : ∀ i x H, xs[i]? = some x → Pv i H → B x H (Pv (i + 1))) (hd : ∀ H, Pv xs.length H → Qd H) :
    ∃ W : Nat → Nat → Hp → Prop, (∃ m, W 0 m H0) ∧ ∀ i m H, W i m H →
      ((Itl K a).stop i H ∧ Qd H) ∨ ((Itl K a).go i H ∧ ∃ Nx : Hp → Prop, (∀ H', Nx H' → ∃ m', m' < m ∧ W (i + 1) m' H') ∧ ∀ x H', (Itl K a).yld i H x H' → B x H' Nx) := by
  refine ⟨fun i m H => m = xs.length - i ∧ i ≤ xs.length ∧ Pv i H, ⟨xs.length, by simp, Nat.zero_le _, h0⟩, ?_⟩
  rintro i m H ⟨rfl, hi, p⟩
  have q := hl i H hi p
  by_cases hlt : i < xs.length
  · refine .inr ⟨⟨xs, xs[i], q, by simp [hlt]⟩, Pv (i + 1), fun H' p' => ⟨xs.length - (i + 1), by omega, rfl, hlt, p'⟩, fun x H' y => ?_⟩
    obtain ⟨e, y⟩ := y
    subst e
    exact hs i x _ (y xs q) p
  · have e : i = xs.length := by omega
    subst e
    exact .inl ⟨⟨xs, q, Nat.le_refl _⟩, hd H p⟩
/-- the same over a tuple -/
theorem lco_tup {K : PySem.W.Frag} {a : Addr} {xs : List V} {H0 : Hp} {Qd : Hp → Prop} {B : V → Hp → (Hp → Prop) → Prop} (Pv : Nat → Hp → Prop) (h0 : Pv 0 H0) (hl : ∀ i H, i ≤ xs.length → Pv i H → SqT K H a xs)
    (hs : ∀ i x H, xs[i]? = some x → Pv i H → B x H (Pv (i + 1))) (hd : ∀ H, Pv xs.length H → Qd H) :
    ∃ W : Nat → Nat → Hp → Prop, (∃ m, W 0 m H0) ∧ ∀ i m H, W i m H →
      ((Itt K a).stop i H ∧ Qd H) ∨ ((Itt K a).go i H ∧ ∃ Nx : Hp → Prop, (∀ H', Nx H' → ∃ m', m' < m ∧ W (i + 1) m' H') ∧ ∀ x H', (Itt K a).yld i H x H' → B x H' Nx) := by
  refine ⟨fun i m H => m = xs.length - i ∧ i ≤ xs.length ∧ Pv i H, ⟨xs.length, by simp, Nat.zero_le _, h0⟩, ?_⟩
  rintro i m H ⟨rfl, hi, p⟩
  have q := hl i H hi p
  by_cases hlt : i < xs.length
  · refine .inr ⟨⟨xs, xs[i], q, by simp [hlt]⟩, Pv (i + 1), fun H' p' => ⟨xs.length - (i + 1), by omega, rfl, hlt, p'⟩, fun x H' y => ?_⟩
    obtain ⟨e, y⟩ := y
    subst e
    exact hs i x _ (y xs q) p
  · have e : i = xs.length := by omega
    subst e
    exact .inl ⟨⟨xs, q, Nat.le_refl _⟩, hd H p⟩
/-- a loop over enumerate(a list) -/
theorem for_enumL {K : PySem.W.Frag} {a : Addr} {xs : List V} {g : TG} {tb : TS} {D : Ends} {σ : L2.St} {H : Hp} (Pv : Nat → L2.St → Hp → Prop) (h0 : Pv 0 σ H) (hl : ∀ i σ H, Pv i σ H → SqL K H a xs)
    (hs : ∀ i x σ H T, xs[i]? = some x → Pv i σ H → H T = none → g (.ref T) σ (upd H T (.tup [.int (i : Nat), x])) fun σ2 H2 => tb { D with nx := Pv (i + 1), ct := Pv (i + 1), bk := D.nx } σ2 H2) (hd : ∀ σ H, Pv xs.length σ H → D.nx σ H) :
    ∃ W : Nat → Nat → L2.St → Hp → Prop, (∃ m, W 0 m σ H) ∧ ∀ i m σ H, W i m σ H →
      ((Ite K a).stop i H ∧ D.nx σ H) ∨ ((Ite K a).go i H ∧ ∃ N : L2.St → Hp → Prop, (∀ σ' H', N σ' H' → ∃ m', m' < m ∧ W (i + 1) m' σ' H') ∧ ∀ v H', (Ite K a).yld i H v H' → g v σ H' fun σ2 H2 => tb { D with nx := N, ct := N, bk := D.nx } σ2 H2) := by
  refine ⟨fun i m σ H => m = xs.length - i ∧ i ≤ xs.length ∧ Pv i σ H, ⟨xs.length, by simp, Nat.zero_le _, h0⟩, ?_⟩
  rintro i m σ H ⟨rfl, hi, p⟩
  have q := hl i σ H p
  by_cases hlt : i < xs.length
  · refine .inr ⟨⟨xs, xs[i], q, List.getElem?_eq_getElem hlt⟩, Pv (i + 1), fun σ' H' z => ⟨xs.length - (i + 1), by omega, rfl, hlt, z⟩, fun v H' y => ?_⟩
    obtain ⟨T, x, rfl, hT, rfl, hx⟩ := y
    exact hs i x σ H T (hx xs q) p hT
  · have : i = xs.length := by omega
    subst this
    exact .inl ⟨⟨xs, q, by omega⟩, hd σ H p⟩
end TD

set_option Elab.async false
set_option linter.all false
set_option maxRecDepth 100000
set_option maxHeartbeats 4000000
/-! TG: the set of a list of texts, and whether a text is in it. -/
namespace TG
open PySem PySem.Spec PyProof.Rows L2
theorem txt_get : ∀ {us : List Value} {zs : List Str}, StrsAre us zs → ∀ (i : Nat) (v : Value), us[i]? = some v → ∃ z t, zs[i]? = some z ∧ v = .str z t
  | _, _, .nil, i, v, h => by simp at h
  | _, _, .cons z t r, 0, v, h => ⟨z, t, rfl, by simpa using h.symm⟩
  | _, _, .cons z t r, i + 1, v, h => by
    obtain ⟨y, u, h1, h2⟩ := txt_get r i v (by simpa using h)
    exact ⟨y, u, by simpa using h1, h2⟩
/-- the first i texts are in -/
def In (P : Program) (w : World) (h : Heap) (D : Addr) (zs : List Str) (i : Nat) : Prop := ∃ n, n ≤ i ∧ h.SetOf (strKind P w) D (fun y => decide (y ∈ zs.take i)) n
theorem In.move {P : Program} {w : World} {h h' : Heap} {D : Addr} {zs : List Str} {i : Nat} (a : In P w h D zs i) (k : ∀ o, h.get? D = some o → h'.get? D = some o) : In P w h' D zs i := by
  obtain ⟨n, hn, o, es, ep, t, ho, r⟩ := a
  exact ⟨n, hn, o, es, ep, t, k o ho, r⟩
section
variable {P : Program} {w : World} {A : Around} {R : Result → Shared → Prop} {it : Addr} {fp wr : List Addr} {G : Array GenState → Array GenState → Prop} {n : Nat} {Pv : Nat → Value → Prop} {St : Nat → Shared → Prop}
theorem run_fill (W : WalksS P w A.in1 it fp wr G n Pv St) (D : Addr) (out : D ∉ fp) (zs : List Str) (few : n + 1 < scanBound) (told : ∀ i v, Pv i v → ∃ z t, zs[i]? = some z ∧ v = .str z t) :
    ∀ (left i : Nat) (s : Shared), n - i = left → i ≤ n → St i s → In P w s.heap D zs i → (∀ s2, Moved (D :: wr) G s s2 → In P w s2.heap D zs n → R (.ok (.ret .none)) s2) →
      codeAny (model P w) A (.builtin "set.update.loop" ⟨[.ref D, .ref it], []⟩) R s := by
  have outW : D ∉ wr := fun m => out (W.sub _ m)
  have wider : ∀ b ∈ wr, b ∈ D :: wr := fun b m => List.mem_cons_of_mem _ m
  intro left
  induction left with
  | zero =>
    intro i s e le st a go
    obtain rfl : i = n := by omega
    refine codeAny_builtin PyProof.Rows.F.entry_set_update_loop ?_
    rw [Around.under_plainId PyProof.Rows.F.plain_set_update_loop _]
    show wpAny _ A.in1 (pyNext (.ref it) >>= _) _ _ s
    refine wpAny_bind (W.done s _ _ st fun s2 mv => ?_)
    show wpAny _ A.in1 (ret Value.none) _ _ s2
    exact wpAny_pure (go s2 (mv.mono wider) (a.move fun o ho => mv.heap D _ outW ho))
  | succ left ih =>
    intro i s e le st a go
    have lt : i < n := by omega
    refine codeAny_builtin PyProof.Rows.F.entry_set_update_loop ?_
    rw [Around.under_plainId PyProof.Rows.F.plain_set_update_loop _]
    show wpAny _ A.in1 (pyNext (.ref it) >>= _) _ _ s
    refine wpAny_bind (W.item i s _ _ lt st fun v s2 pv st2 mv => ?_)
    obtain ⟨z, t, hz, rfl⟩ := told i v pv
    obtain ⟨k, hk, hS⟩ := a.move fun o ho => mv.heap D _ outW ho
    show wpAny _ A.in1 (holding [Value.str z t] (setAdd D (.str z t)) >>= _) _ _ s2
    refine wpAny_bind (wpAny_holding ?_)
    unfold setAdd
    refine wpAny_holding (wpAny_bind ((strKind P w).pyHash (k := z) (strKind_is _ _ _ _) ?_))
    refine wpAny_setAddHashed_of (knd := strKind P w) (s := { s2 with toks := s2.toks + 1 }) (strKind_is _ _ _ _) rfl hS (by omega) fun h2 but hS2 => ?_
    have a2 : In P w h2 D zs (i + 1) := by
      refine ⟨_, ?_, SetOf_congr hS2 (fun y => ?_) rfl⟩
      · split <;> omega
      · rw [List.take_succ, hz]
        show (decide (y ∈ zs.take i) || decide (y = z)) = decide (y ∈ zs.take i ++ [z])
        rw [← Bool.decide_or]
        exact decide_eq_decide.mpr (by simp)
    have keep : ∀ b o, b ≠ D → s2.heap.get? b = some o → h2.get? b = some o := fun b o nb ho => (but.2 b nb).trans ho
    refine wpAny_pure ⟨plainId_quiet PyProof.Rows.F.plain_set_update_loop _, ih (i + 1) _ (by omega) lt (W.frame _ s2 _ _ st2 (Nat.le_succ _) fun b m o ho => keep b o (fun z => out (z ▸ m)) ho) a2 fun s3 mv3 a3 => ?_⟩
    exact go s3 (Moved.trans W.gtrans ((mv.mono wider).then_heap (Nat.le_succ _) fun b o nb ho => keep b o (fun z => nb (by rw [z]; exact List.mem_cons_self)) ho) mv3) a3
end
section
variable {P : Program} {w : World} {A : Around} {E : Value → Shared → Prop} {s : Shared}
abbrev bare (led : Bool) : Obj := { cls := .type "set", dict := none, data := .set #[] 0 (.fresh 0 0 led) }
theorem call_texts {l : Addr} {its : Array Value} {zs : List Str} {Q : Value → Shared → Prop} (nh : A.handled = none) (hl : s.heap.IsList l its) (hz : StrsAre its.toList zs) (few : its.size + 1 < scanBound)
    (go : ∀ (h2 : Heap) (tk : Nat), In P w h2 s.heap.objs.size zs its.size → (∀ b o, b < s.heap.objs.size → s.heap.get? b = some o → h2.get? b = some o) → Q (.ref s.heap.objs.size) { s with heap := h2, toks := tk }) :
    wpAny (model P w) A (call (.type "set") [.ref l]) Q E s := by
  obtain ⟨c0, r0, order⟩ := PySem.F.called_set.mro
  have made := PySem.F.called_set.made
  have subs := PySem.F.called_set.sub
  refine wpAny_call (codeAny_of_tree ?_)
  show wpAny _ _ (callAny (.type "set") _) _ _ _
  refine wpAny_pure ⟨Code.quiet_builtin _ (by decide +kernel), codeAny_builtin PySem.F.entry_type_call ?_⟩
  rw [Around.under_plain (weight_type_call_type "set" [.ref l] []) rfl]
  have f1 := PySem.F.called_set.notType
  have f2 := PySem.F.called_set.canCreate
  have f3 := PySem.F.typeCall_set_1 (.ref l)
  repeat (any_goals (first | assumption | wp_step))
  refine codeAny_mono (PySem.code_set_new_1 (.ref l) (E := E) (Q₁ := fun x s1 => ∃ led, x = .ref s.heap.objs.size ∧ s1 = { s with heap := s.heap.push (bare led) }) fun led => ⟨led, rfl, rfl⟩) fun r1 s1 back1 => ?_
  rcases r1 with e1 | (x | _ | _ | _) <;> first | exact back1 | exact back1.elim | skip
  obtain ⟨led, rfl, rfl⟩ := back1
  have hD : (s.heap.push (bare led)).get? s.heap.objs.size = some (bare led) := Heap.get?_push_size _ rfl
  have tyD : Shared.TypeIs { s with heap := s.heap.push (bare led) } (.ref s.heap.objs.size) "set" := ⟨_, hD, rfl⟩
  have g1 := PySem.F.called_set.init.lookup
  have g2 := PySem.F.called_set.init.bind (.ref s.heap.objs.size)
  repeat (any_goals (first | assumption | wp_step))
  refine codeAny_mono (codeAny_call_builtin (R := wants (fun r s2 => r = .none ∧ ∃ h2 tk, s2 = { s with heap := h2, toks := tk } ∧ In P w h2 s.heap.objs.size zs its.size ∧ (∀ b o, b < s.heap.objs.size → s.heap.get? b = some o → h2.get? b = some o)) E) PySem.F.called_set.init.plain PySem.F.entry_set_init (PySem.check_set_init_1 tyD ?_)) fun r2 s2 back2 => ?_
  · obtain ⟨ol, hol, hc, nl, hd⟩ := hl
    obtain ⟨oc, od, ot, os⟩ := ol
    simp only at hc hd
    subst hc hd
    have up1 : ∀ b o, s.heap.get? b = some o → (s.heap.push (bare led)).get? b = some o := fun b o e => Heap.get?_push_of_some _ e
    have hol1 := up1 _ _ hol
    have k1 := PySem.F.sub_list_set
    have k2 := PySem.F.sub_list_frozenset
    have k3 : (Value.type "list" == Value.type "dict") = false := by decide
    have isl : (s.heap.push (bare led)).IsList l its := ⟨_, hol1, rfl, nl, rfl⟩
    unfold Builtin.«set.__init__» noKeywords Builtin.Frozenset.updateFrom
    generalize hIt : pyIter = It0
    wp_walk
    subst hIt
    refine wpAny_pyIter_list isl (wpAny_bind (wpAny_runValue ?_))
    have lS : l < s.heap.objs.size := Heap.lt_size hol
    have nh3 : A.in1.in1.in1.handled = none := by simp [nh]
    have sz1 : (s.heap.push (bare led)).objs.size = s.heap.objs.size + 1 := Heap.size_push ..
    have lI : l ≠ (s.heap.push (bare led)).objs.size := by rw [sz1]; exact Nat.ne_of_lt (Nat.lt_succ_of_lt lS)
    have nin : s.heap.objs.size ∉ [(s.heap.push (bare led)).objs.size, l] := by
      rw [sz1]
      simp only [List.mem_cons, List.not_mem_nil, or_false, not_or]
      exact ⟨Nat.ne_of_lt (Nat.lt_succ_self _), Nat.ne_of_gt lS⟩
    have told : ∀ (i : Nat) (v : Value), its[i]? = some v → ∃ z t, zs[i]? = some z ∧ v = .str z t := fun i v hv => txt_get hz i v (by rw [Array.getElem?_toList]; exact hv)
    refine run_fill (zs := zs) ((Walks.list nh3 _ l lI its).toS) s.heap.objs.size nin few told (its.size - 0) 0 _ (by omega) (Nat.zero_le _) ⟨⟨_, Heap.get?_push_size _ rfl, rfl, rfl⟩, isl.push _⟩ ?start ?fin
    case start =>
      have up2 : ((s.heap.push (bare led)).push { cls := .type "list_iterator", data := .fields #[.ref l, .int 0 0] }).get? s.heap.objs.size = some (bare led) := Heap.get?_push_of_some _ hD
      exact ⟨0, Nat.le_refl _, SetOf_congr ((setObjOf_fresh (knd := strKind P w) led).setOf up2 (by unfold scanBound; omega)) (fun y => by simp) rfl⟩
    case fin =>
      intro s3 mv a3
      obtain ⟨h3, g3, d3, tk3, os3⟩ := s3
      have q1 : g3 = s.gens := mv.gens
      have q2 : d3 = s.drawn := mv.drawn
      have q3 : os3 = s.os := mv.os
      subst q1 q2 q3
      show wpAny _ _ _ _ _ _
      refine wpAny_pure ?_
      show wpAny _ _ (ret Value.none) _ _ _
      refine wpAny_pure ⟨rfl, h3, tk3, rfl, a3, fun b o lt ho => ?_⟩
      refine mv.heap b o ?_ (Heap.get?_push_of_some _ (up1 b o ho))
      rw [sz1]
      simp only [List.mem_cons, List.not_mem_nil, or_false, not_or]
      exact ⟨Nat.ne_of_lt lt, Nat.ne_of_lt (Nat.lt_succ_of_lt lt)⟩
  · rcases r2 with e2 | (x | _ | _ | _) <;> first | exact back2 | exact back2.elim | skip
    obtain ⟨rfl, h2, tk, rfl, a2, kp⟩ := back2
    repeat (any_goals (first | assumption | wp_step))
    exact go _ _ a2 kp
end
/-- the object: a set of texts -/
def SetS (P : Program) (w : World) (a : Addr) (zs : List Str) : HO := .ext fun h => In P w h a zs zs.length
def rSetOf (P : Program) (w : World) (K : PySem.W.Frag) : List V → Hp → VK → Prop := fun xs H Q => ∃ (l : Addr) (zs : List Str), xs = [.ref l] ∧ SqL K H l (zs.map V.str) ∧ zs.length ≤ 4000 ∧ ∀ p, H p = none → Q (.ref p) (upd H p (SetS P w p zs))
def rInSet (P : Program) (w : World) : R2 := fun x y H Q => ∃ (z : Str) (a : Addr) (zs : List Str), x = .str z ∧ y = .ref a ∧ H a = some (SetS P w a zs) ∧ Q (.bl (decide (z ∈ zs))) H
section
variable {X : Cx}
theorem set_ok {P : Program} {w : World} {H : Hp} {h : Heap} {a : Addr} {zs : List Str} (R : In P w h a zs zs.length) : ObjOk P w H h a (SetS P w a zs) := by
  have ⟨_, _, o, _, _, _, ho, _⟩ := R
  exact ⟨R, ⟨o, ho⟩, fun h1 h2 p k => p.move k⟩
theorem cr_setOf (hc : X.calm = true) : CallR X (.type "set") (rSetOf X.prog X.w X.K) := by
  intro pins s σ H xs us Q I r h
  obtain ⟨l, zs, rfl, hl, few, q⟩ := h
  rw [Vals.ref1 r]
  obtain ⟨its, rv, pl, hz⟩ := I.list hl
  have n1 : its.length = zs.length := by rw [← rv.length, List.length_map]
  refine call_texts (zs := zs) (I.ok.hd hc) pl.isList (by simpa using rv.strs) (by rw [List.size_toArray]; unfold scanBound; omega) fun h2 tk a2 kp => ?_
  have n2 : its.toArray.size = zs.length := by rw [List.size_toArray]; exact n1
  rw [n2] at a2
  exact ⟨.ref _, _, I.laid (t' := tk) (fun b o e => kp b o (Heap.lt_size e) e) (Nat.le_refl _) (set_ok a2), rfl, q _ (I.hok.fresh (Nat.le_refl _))⟩
theorem op_inS : OpR X (compareOp .In) (rInSet X.prog X.w) := by
  intro pins s σ H x y v u Q I rx ry h
  obtain ⟨z, a, zs, rfl, rfl, ha, q⟩ := h
  cases ry
  obtain ⟨t, rfl⟩ := rx
  obtain ⟨n, hn, hS⟩ : In X.prog X.w s.heap a zs zs.length := (I.hok a _ ha).1
  have hS : s.heap.SetOf (strKind X.prog X.w) a (fun y => decide (y ∈ zs)) n := SetOf_congr hS (fun y => by rw [List.take_length]) rfl
  exact wpAny_inSet_of (strKind_is _ _ z t) rfl hS ⟨.bl _, H, I.tok _, rfl, q⟩
end
end TG

set_option Elab.async false
set_option linter.all false
set_option maxRecDepth 100000
set_option maxHeartbeats 4000000
/-! TI: equality of data of which one is at most 200 deep. -/
namespace TI
open PySem PySem.Spec PyProof.Rows L2 TX CwR
theorem far {n k : Nat} {A : Around} (r : TY.RoomD n k A) : A.units + 200 < cLine := by have := r.un; omega
section
variable {X : Cx}
def rEqF (K : PySem.W.Frag) : R2 := fun x y H Q => ∃ d e, Dp K H x d ∧ Dp K H y e ∧ d.canLay0 = true ∧ e.canLay0 = true ∧ min d.depth e.depth ≤ 200 ∧ Q (.bl (PyData.eqv d e)) H
def rNeF (K : PySem.W.Frag) : R2 := fun x y H Q => ∃ d e, Dp K H x d ∧ Dp K H y e ∧ d.canLay0 = true ∧ e.canLay0 = true ∧ min d.depth e.depth ≤ 200 ∧ Q (.bl (!PyData.eqv d e)) H
theorem op_eqF (hu : X.A.units + 200 < cLine) : OpR X (compareOp .Eq) (rEqF X.K) := by
  intro pins s σ H x y v u Q I rx ry h
  obtain ⟨d, e, hd, he, sd, se, hm, q⟩ := h
  obtain ⟨as, r1⟩ := Dp.reads I d x v hd rx
  obtain ⟨bs, r2⟩ := Dp.reads I e y u he ry
  exact PySem.SeqAt.compareEq_reads r1 r2 sd se (by omega) ⟨.bl _, H, I, rfl, q⟩
theorem op_neF (hu : X.A.units + 200 < cLine) : OpR X (compareOp .NotEq) (rNeF X.K) := by
  intro pins s σ H x y v u Q I rx ry h
  obtain ⟨d, e, hd, he, sd, se, hm, q⟩ := h
  obtain ⟨as, r1⟩ := Dp.reads I d x v hd rx
  obtain ⟨bs, r2⟩ := Dp.reads I e y u he ry
  exact PySem.SeqAt.compareNe_reads r1 r2 sd se (by omega) ⟨.bl _, H, I, rfl, q⟩
end
/-- any comprehension's loop over a range -/
theorem lco_range {lo : Int} {n : Nat} {H0 : Hp} {Qd : Hp → Prop} {B : V → Hp → (Hp → Prop) → Prop} (Pv : Nat → Hp → Prop) (h0 : Pv 0 H0)
    (hs : ∀ i H, i < n → Pv i H → B (.int (lo + i)) H (Pv (i + 1))) (hd : ∀ H, Pv n H → Qd H) :
    ∃ W : Nat → Nat → Hp → Prop, (∃ m, W 0 m H0) ∧ ∀ i m H, W i m H →
      ((Itr lo n).stop i H ∧ Qd H) ∨ ((Itr lo n).go i H ∧ ∃ Nx : Hp → Prop, (∀ H', Nx H' → ∃ m', m' < m ∧ W (i + 1) m' H') ∧ ∀ x H', (Itr lo n).yld i H x H' → B x H' Nx) := by
  refine ⟨fun i m H => m = n - i ∧ i ≤ n ∧ Pv i H, ⟨n, by simp, Nat.zero_le _, h0⟩, ?_⟩
  rintro i m H ⟨rfl, hi, p⟩
  by_cases hlt : i < n
  · refine .inr ⟨hlt, Pv (i + 1), fun H' p' => ⟨n - (i + 1), by omega, rfl, hlt, p'⟩, fun x H' y => ?_⟩
    obtain ⟨e, y⟩ := y
    subst e y
    exact hs i _ hlt p
  · have e : i = n := by omega
    subst e
    exact .inl ⟨Nat.le_refl _, hd H p⟩
end TI

set_option linter.all false
/-! TJ: scripts on trees, their least trees, moves: plainly. -/
namespace TT
open Tr
def Tr.hgt : Tr → Nat
  | .leaf => 0
  | .node l r => max (hgt l) (hgt r) + 1
def tat : Tr → List Nat → Option Tr
  | t, [] => some t
  | .leaf, _ :: _ => none
  | .node l r, c :: cs => if c = 108 then tat l cs else tat r cs
def offs : Tr → List Nat → Nat
  | _, [] => 0
  | .leaf, _ :: _ => 0
  | .node l r, c :: cs => if c = 108 then 1 + offs l cs else 1 + l.len + offs r cs
def put : Tr → List Nat → Tr → Tr
  | _, [], x => x
  | .leaf, _ :: _, _ => .leaf
  | .node l r, c :: cs, x => if c = 108 then .node (put l cs x) r else .node l (put r cs x)
/-- a node turned at its top -/
def turnR : Tr → Tr → Option Tr
  | .node a b, c => some (.node a (.node b c))
  | .leaf, _ => none
def turnL : Tr → Tr → Option Tr
  | a, .node b c => some (.node (.node a b) c)
  | _, .leaf => none
/-- to the right: true -/
def turnB (r : Bool) : Tr → Option Tr
  | .leaf => none
  | .node x y => if r = true then turnR x y else turnL x y
def stepB (r : Bool) (a : List Nat) (t : Tr) : Option Tr := ((tat t a).bind (turnB r)).map (put t a)
def pth : List Nat → Tr → Tr
  | [], x => x
  | c :: cs, x => if c = 108 then .node (pth cs x) .leaf else .node .leaf (pth cs x)
def ttop : Bool → Tr
  | true => .node (.node .leaf .leaf) .leaf
  | false => .node .leaf (.node .leaf .leaf)
/-- the least tree of a step -/
def stp (r : Bool) (a : List Nat) : Tr := pth a (ttop r)
theorem stepB_nil (r : Bool) (t : Tr) : stepB r [] t = turnB r t := by
  unfold stepB
  have e : tat t [] = some t := by cases t <;> rfl
  have p : put t [] = id := by funext x; cases t <;> rfl
  rw [e, p]; simp
theorem stepB_leaf (r : Bool) (a : List Nat) : stepB r a .leaf = none := by
  cases a with
  | nil => rw [stepB_nil]; rfl
  | cons c cs => rfl
theorem stepB_cons (r : Bool) (c : Nat) (cs : List Nat) (x y : Tr) : stepB r (c :: cs) (.node x y) = if c = 108 then (stepB r cs x).map (fun z => .node z y) else (stepB r cs y).map (fun z => .node x z) := by
  unfold stepB
  have e : tat (.node x y) (c :: cs) = if c = 108 then tat x cs else tat y cs := rfl
  have p : put (.node x y) (c :: cs) = fun z => if c = 108 then .node (put x cs z) y else .node x (put y cs z) := by funext z; rfl
  rw [e, p]
  by_cases h : c = 108
  · simp only [h, if_true, Option.map_map]; rfl
  · simp only [h, if_false, Option.map_map]; rfl
theorem pth_cons (c : Nat) (cs : List Nat) (x : Tr) : pth (c :: cs) x = if c = 108 then .node (pth cs x) .leaf else .node .leaf (pth cs x) := rfl
theorem step_iff (r : Bool) : ∀ (a : List Nat) (t : Tr), (stepB r a t).isSome = (hang t (stp r a)).isSome
  | [], t => by
    rw [stepB_nil]
    show _ = (hang t (ttop r)).isSome
    cases t with
    | leaf => cases r <;> rfl
    | node x y =>
      cases r with
      | true => cases x <;> simp [turnB, turnR, ttop, hang]
      | false => cases y <;> simp [turnB, turnL, ttop, hang]
  | c :: cs, .leaf => by
    rw [stepB_leaf]
    show _ = (hang .leaf (pth (c :: cs) (ttop r))).isSome
    rw [pth_cons]; split <;> rfl
  | c :: cs, .node x y => by
    rw [stepB_cons]
    show _ = (hang (.node x y) (pth (c :: cs) (ttop r))).isSome
    rw [pth_cons]
    split
    · have ih := step_iff r cs x
      show _ = ((hang x (stp r cs)).bind fun u => (hang y .leaf).map fun v => u ++ v).isSome
      rw [Option.isSome_map, ih]
      cases hang x (stp r cs) <;> simp [hang]
    · have ih := step_iff r cs y
      show _ = ((hang x .leaf).bind fun u => (hang y (stp r cs)).map fun v => u ++ v).isSome
      rw [Option.isSome_map, ih]
      cases hang y (stp r cs) <;> simp [hang]
theorem turn_lvs {r : Bool} {t s : Tr} (h : turnB r t = some s) : s.lvs = t.lvs ∧ s.size = t.size ∧ s.hgt ≤ t.hgt + 1 ∧ t.hgt ≤ s.hgt + 1 := by
  cases t with
  | leaf => cases h
  | node x y =>
    cases r with
    | true =>
      cases x with
      | leaf => cases h
      | node a b => cases h; simp only [lvs, size, hgt]; omega
    | false =>
      cases y with
      | leaf => cases h
      | node a b => cases h; simp only [lvs, size, hgt]; omega
theorem step_lvs {r : Bool} : ∀ {a : List Nat} {t s : Tr}, stepB r a t = some s → s.lvs = t.lvs ∧ s.size = t.size ∧ s.hgt ≤ t.hgt + 1 ∧ t.hgt ≤ s.hgt + 1
  | [], t, s, h => by rw [stepB_nil] at h; exact turn_lvs h
  | c :: cs, .leaf, s, h => by rw [stepB_leaf] at h; cases h
  | c :: cs, .node x y, s, h => by
    rw [stepB_cons] at h
    split at h
    · obtain ⟨z, hz, rfl⟩ := Option.map_eq_some_iff.mp h
      have ih := step_lvs hz
      simp only [lvs, size, hgt]; omega
    · obtain ⟨z, hz, rfl⟩ := Option.map_eq_some_iff.mp h
      have ih := step_lvs hz
      simp only [lvs, size, hgt]; omega
theorem growR_app : ∀ (t : Tr) (xs ys : List Tr), xs.length = t.lvs → t.growR (xs ++ ys) = (t.grow xs, ys)
  | t, xs, ys, h => by
    have h1 := hang_growR t (xs ++ ys) (by rw [List.length_append]; omega)
    have h2 := hang_grow (c := t) (xs := xs) h
    rw [← h, List.take_left, List.drop_left] at h1
    have := grow_hang h1.1
    refine Prod.ext ?_ h1.2
    exact this.symm
theorem grow_node (l r : Tr) (xs ys : List Tr) (h : xs.length = l.lvs) (h' : ys.length = r.lvs) : (Tr.node l r).grow (xs ++ ys) = .node (l.grow xs) (r.grow ys) := by
  unfold grow
  show Tr.node (l.growR (xs ++ ys)).1 (r.growR (l.growR (xs ++ ys)).2).1 = _
  rw [growR_app l xs ys h]
  rfl
theorem split_len {l r : Tr} {xs : List Tr} (h : xs.length = (Tr.node l r).lvs) : ∃ ys zs, xs = ys ++ zs ∧ ys.length = l.lvs ∧ zs.length = r.lvs := by
  have h : xs.length = l.lvs + r.lvs := h
  exact ⟨xs.take l.lvs, xs.drop l.lvs, (List.take_append_drop _ _).symm, by rw [List.length_take]; omega, by rw [List.length_drop]; omega⟩
theorem grow_leaf1 (x : Tr) : Tr.leaf.grow [x] = x := rfl
theorem turn_grow {r : Bool} {t s : Tr} (h : turnB r t = some s) {xs : List Tr} (hl : xs.length = t.lvs) : turnB r (t.grow xs) = some (s.grow xs) := by
  cases t with
  | leaf => cases h
  | node x y =>
    obtain ⟨ys, zs, rfl, h1, h2⟩ := split_len hl
    rw [grow_node x y ys zs h1 h2]
    cases r with
    | true =>
      cases x with
      | leaf => cases h
      | node a b =>
        cases h
        obtain ⟨us, vs, rfl, h3, h4⟩ := split_len h1
        rw [grow_node a b us vs h3 h4, List.append_assoc, grow_node a _ us (vs ++ zs) h3 (by simp only [List.length_append, lvs]; omega), grow_node b y vs zs h4 h2]
        rfl
    | false =>
      cases y with
      | leaf => cases h
      | node a b =>
        cases h
        obtain ⟨us, vs, rfl, h3, h4⟩ := split_len h2
        rw [grow_node a b us vs h3 h4, ← List.append_assoc, grow_node _ b (ys ++ us) vs (by simp only [List.length_append, lvs]; omega) h4, grow_node x a ys us h1 h3]
        rfl
theorem step_grow {r : Bool} : ∀ {a : List Nat} {t s : Tr}, stepB r a t = some s → ∀ {xs : List Tr}, xs.length = t.lvs → stepB r a (t.grow xs) = some (s.grow xs)
  | [], t, s, h, xs, hl => by rw [stepB_nil] at h ⊢; exact turn_grow h hl
  | c :: cs, .leaf, s, h, xs, hl => by rw [stepB_leaf] at h; cases h
  | c :: cs, .node x y, s, h, xs, hl => by
    obtain ⟨ys, zs, rfl, h1, h2⟩ := split_len hl
    rw [grow_node x y ys zs h1 h2, stepB_cons]
    rw [stepB_cons] at h
    by_cases hc : c = 108
    · rw [if_pos hc] at h ⊢
      obtain ⟨z, hz, rfl⟩ := Option.map_eq_some_iff.mp h
      rw [step_grow hz h1, grow_node z y ys zs (by rw [(step_lvs hz).1, h1]) h2]; rfl
    · rw [if_neg hc] at h ⊢
      obtain ⟨z, hz, rfl⟩ := Option.map_eq_some_iff.mp h
      rw [step_grow hz h2, grow_node x z ys zs h1 (by rw [(step_lvs hz).1, h2])]; rfl
/-! ### growing into both -/
theorem hang_some_join {q a b : Tr} : (hang q (join a b)).isSome = true ↔ (hang q a).isSome = true ∧ (hang q b).isSome = true := by
  rw [hang_iff_join, hang_iff_join, hang_iff_join]
  constructor
  · intro h
    refine ⟨?_, ?_⟩
    · rw [← h, join_assoc, join_comm (join a b) a, ← join_assoc a a b, join_self]
    · rw [← h, join_assoc, join_assoc a b b, join_self]
  · rintro ⟨h1, h2⟩
    rw [← join_assoc, h1, h2]
/-- the lists hung one by one -/
def hangL : List Tr → List Tr → Option (List Tr)
  | [], [] => some []
  | x :: xs, y :: ys => (hang x y).bind fun u => (hangL xs ys).map fun v => u ++ v
  | _, _ => none
theorem hangL_append : ∀ {xs ys us vs : List Tr}, xs.length = us.length → hangL (xs ++ ys) (us ++ vs) = (hangL xs us).bind fun u => (hangL ys vs).map fun v => u ++ v
  | [], ys, [], vs, _ => by simp [hangL]
  | x :: xs, ys, u :: us, vs, h => by
    have ih := hangL_append (xs := xs) (ys := ys) (us := us) (vs := vs) (by simpa using h)
    simp only [List.cons_append, hangL, ih]
    cases hang x u <;> simp
    cases hangL xs us <;> simp
    cases hangL ys vs <;> simp
theorem hang_grows : ∀ {t : Tr} {xs us : List Tr}, xs.length = t.lvs → us.length = t.lvs → hang (t.grow xs) (t.grow us) = hangL xs us
  | .leaf, xs, us, h1, h2 => by
    obtain ⟨x, rfl⟩ := List.length_eq_one_iff.mp h1
    obtain ⟨u, rfl⟩ := List.length_eq_one_iff.mp h2
    rw [grow_leaf1, grow_leaf1]
    simp only [hangL]
    cases hang x u <;> simp
  | .node l r, xs, us, h1, h2 => by
    obtain ⟨a, b, rfl, ha, hb⟩ := split_len h1
    obtain ⟨c, d, rfl, hc, hd⟩ := split_len h2
    rw [grow_node l r a b ha hb, grow_node l r c d hc hd, hangL_append (by omega)]
    show (hang (l.grow a) (l.grow c)).bind _ = _
    rw [hang_grows ha hc, hang_grows hb hd]
theorem lvs_grow : ∀ {t : Tr} {xs : List Tr}, xs.length = t.lvs → (t.grow xs).lvs = (xs.map lvs).sum
  | .leaf, xs, h1 => by
    obtain ⟨x, rfl⟩ := List.length_eq_one_iff.mp h1
    rw [grow_leaf1]; simp
  | .node l r, xs, h1 => by
    obtain ⟨a, b, rfl, ha, hb⟩ := split_len h1
    rw [grow_node l r a b ha hb, List.map_append, List.sum_append, ← lvs_grow ha, ← lvs_grow hb]
    rfl
theorem grow_leaves : ∀ t : Tr, t.grow (List.replicate t.lvs .leaf) = t
  | .leaf => rfl
  | .node l r => by
    show (Tr.node l r).grow (List.replicate (l.lvs + r.lvs) .leaf) = _
    rw [← List.replicate_append_replicate, grow_node l r _ _ (by simp) (by simp), grow_leaves l, grow_leaves r]
theorem hang_self (t : Tr) : hang t t = some (List.replicate t.lvs .leaf) := by
  have := hang_grow (c := t) (xs := List.replicate t.lvs .leaf) (by simp)
  rwa [grow_leaves] at this
theorem hang_trans {p a b : Tr} (h1 : (hang p b).isSome = true) (h2 : (hang b a).isSome = true) : (hang p a).isSome = true := by
  rw [hang_iff_join] at *
  rw [← h1, join_assoc, h2]
theorem hang_size_le {s c : Tr} (h : (hang s c).isSome = true) : c.size ≤ s.size := by
  rw [hang_iff_meet] at h
  rw [← h]; exact size_meet_le s c
/-! ### scripts -/
def runO : List (Bool × List Nat) → Tr → Option Tr
  | [], t => some t
  | x :: xs, t => (stepB x.1 x.2 t).bind (runO xs)
theorem runO_snoc (t : Tr) : ∀ (xs : List (Bool × List Nat)) (x : Bool × List Nat), runO (xs ++ [x]) t = (runO xs t).bind (stepB x.1 x.2) := by
  intro xs
  induction xs generalizing t with
  | nil => intro x; show (stepB x.1 x.2 t).bind (fun s => some s) = (some t).bind _; simp
  | cons y ys ih =>
    intro x
    show (stepB y.1 y.2 t).bind (runO (ys ++ [x])) = ((stepB y.1 y.2 t).bind (runO ys)).bind _
    cases stepB y.1 y.2 t with
    | none => rfl
    | some s => exact ih s x
/-- the first tree grows, as the second has to, so that the step can be done -/
def unf (AB : Tr × Tr) (x : Bool × List Nat) : Tr × Tr :=
  (AB.1.grow ((hang (join AB.2 (stp x.1 x.2)) AB.2).getD []), (stepB x.1 x.2 (join AB.2 (stp x.1 x.2))).getD .leaf)
def pairT (xs : List (Bool × List Nat)) : Tr × Tr := xs.foldl unf (.leaf, .leaf)
/-- what a pair of trees tells of all trees -/
def Tells (f : Tr → Option Tr) (A B : Tr) : Prop := A.lvs = B.lvs ∧ ∀ p, f p = (hang p A).map B.grow
theorem unf_tells {f : Tr → Option Tr} {A B : Tr} (h : Tells f A B) (x : Bool × List Nat) :
    ∃ us, us.length = A.lvs ∧ us.length = B.lvs ∧ join B (stp x.1 x.2) = B.grow us ∧ (unf (A, B) x).1 = A.grow us ∧ stepB x.1 x.2 (B.grow us) = some (unf (A, B) x).2 ∧
      Tells (fun p => (f p).bind (stepB x.1 x.2)) (unf (A, B) x).1 (unf (A, B) x).2 := by
  obtain ⟨hl, hf⟩ := h
  obtain ⟨us, hus⟩ := hang_join B (stp x.1 x.2)
  have ul := hang_len _ _ _ hus
  have jg := (grow_hang hus).symm
  have st : (stepB x.1 x.2 (join B (stp x.1 x.2))).isSome = true := by
    rw [step_iff]
    obtain ⟨ys, hy⟩ := hang_join (stp x.1 x.2) B
    rw [join_comm] at hy
    rw [hy]; rfl
  obtain ⟨C, hC⟩ := Option.isSome_iff_exists.mp st
  have e1 : (unf (A, B) x).1 = A.grow us := by show A.grow ((hang (join B (stp x.1 x.2)) B).getD []) = _; rw [hus]; rfl
  have e2 : (unf (A, B) x).2 = C := by show (stepB x.1 x.2 (join B (stp x.1 x.2))).getD .leaf = _; rw [hC]; rfl
  rw [jg] at hC
  refine ⟨us, by omega, ul, jg, e1, by rw [hC, e2], ?_⟩
  rw [e1, e2]
  have ll := step_lvs hC
  refine ⟨by rw [ll.1, lvs_grow (by omega), lvs_grow ul], fun p => ?_⟩
  show (f p).bind (stepB x.1 x.2) = _
  rw [hf p]
  cases hp : hang p A with
  | none =>
    have : hang p (A.grow us) = none := by
      cases hq : hang p (A.grow us) with
      | none => rfl
      | some zs =>
        have h1 : (hang p A).isSome = true := hang_trans (b := A.grow us) (by rw [hq]; rfl) (by rw [hang_grow (by omega)]; rfl)
        rw [hp] at h1; cases h1
    rw [this]; rfl
  | some ts =>
    have tl := hang_len _ _ _ hp
    have pg := grow_hang hp
    have e3 : hang p (A.grow us) = hang (B.grow ts) (B.grow us) := by rw [← pg, hang_grows (by omega) (by omega), hang_grows (by omega) ul]
    rw [e3]
    show stepB x.1 x.2 (B.grow ts) = _
    cases hq : hang (B.grow ts) (B.grow us) with
    | none =>
      have : (stepB x.1 x.2 (B.grow ts)).isSome = false := by
        rw [step_iff]
        cases hz : hang (B.grow ts) (stp x.1 x.2) with
        | none => rfl
        | some zs =>
          have := hang_some_join.mpr ⟨(by rw [hang_grow (by omega)]; rfl : (hang (B.grow ts) B).isSome = true), (by rw [hz]; rfl : (hang (B.grow ts) (stp x.1 x.2)).isSome = true)⟩
          rw [jg, hq] at this; cases this
      cases hz : stepB x.1 x.2 (B.grow ts) with
      | none => rfl
      | some z => rw [hz] at this; cases this
    | some zs =>
      have zl := hang_len _ _ _ hq
      have e4 := step_grow hC zl
      rw [grow_hang hq] at e4
      rw [e4]; rfl
theorem tells_nil : Tells (runO []) .leaf .leaf := ⟨rfl, fun p => by cases p <;> rfl⟩
theorem foldl_snoc {α β : Type} (f : α → β → α) (a : α) (xs : List β) (x : β) : (xs ++ [x]).foldl f a = f (xs.foldl f a) x := by rw [List.foldl_append]; rfl
theorem pairT_snoc (xs : List (Bool × List Nat)) (x : Bool × List Nat) : pairT (xs ++ [x]) = unf (pairT xs) x := foldl_snoc _ _ _ _
theorem pairT_tells_rev : ∀ xs : List (Bool × List Nat), Tells (runO xs.reverse) (pairT xs.reverse).1 (pairT xs.reverse).2
  | [] => tells_nil
  | x :: xs => by
    rw [List.reverse_cons, pairT_snoc]
    obtain ⟨us, _, _, _, _, _, h⟩ := unf_tells (pairT_tells_rev xs) x
    have : (fun p => (runO xs.reverse p).bind (stepB x.1 x.2)) = runO (xs.reverse ++ [x]) := by funext p; rw [runO_snoc]
    rw [this] at h
    exact h
theorem pairT_tells (xs : List (Bool × List Nat)) : Tells (runO xs) (pairT xs).1 (pairT xs).2 := by
  have := pairT_tells_rev xs.reverse
  rwa [List.reverse_reverse] at this
theorem grow_replicate_self {A B : Tr} (h : A.lvs = B.lvs) : B.grow (List.replicate A.lvs .leaf) = B := by rw [h, grow_leaves]
theorem run_first {f : Tr → Option Tr} {A B : Tr} (h : Tells f A B) : f A = some B := by
  rw [h.2, hang_self]
  show some _ = _
  rw [grow_replicate_self h.1]
/-- on a smaller tree nothing can be done -/
theorem run_smaller {f : Tr → Option Tr} {A B p : Tr} (h : Tells f A B) (l : p.size < A.size) : f p = none := by
  rw [h.2]
  cases hp : hang p A with
  | none => rfl
  | some zs =>
    have := hang_size_le (s := p) (c := A) (by rw [hp]; rfl)
    omega
/-! ### sizes and heights -/
theorem pth_size : ∀ (a : List Nat) (x : Tr), (pth a x).size = a.length + x.size
  | [], x => by simp [pth]
  | c :: cs, x => by
    rw [pth_cons]
    split <;> simp only [size, pth_size cs x, List.length_cons] <;> omega
theorem pth_hgt : ∀ (a : List Nat) (x : Tr), (pth a x).hgt = a.length + x.hgt
  | [], x => by simp [pth]
  | c :: cs, x => by
    rw [pth_cons]
    split <;> simp only [hgt, pth_hgt cs x, List.length_cons] <;> omega
theorem stp_size (r : Bool) (a : List Nat) : (stp r a).size = a.length + 2 := by unfold stp; rw [pth_size]; cases r <;> rfl
theorem stp_hgt (r : Bool) (a : List Nat) : (stp r a).hgt = a.length + 2 := by unfold stp; rw [pth_hgt]; cases r <;> rfl
theorem join_hgt : ∀ a b : Tr, (join a b).hgt = max a.hgt b.hgt
  | .leaf, t => by simp [join, hgt]
  | .node a b, .leaf => by simp [join, hgt]
  | .node a b, .node c d => by
    simp only [join, hgt, join_hgt a c, join_hgt b d]; omega
theorem grow_size_lvs {A B : Tr} (h : A.lvs = B.lvs) : A.size = B.size := by rw [lvs_size, lvs_size] at h; omega
theorem unf_size {f : Tr → Option Tr} {A B : Tr} (h : Tells f A B) (x : Bool × List Nat) : (unf (A, B) x).1.size ≤ A.size + x.2.length + 2 ∧ (unf (A, B) x).2.hgt ≤ max B.hgt (x.2.length + 2) + 1 := by
  obtain ⟨us, u1, u2, e1, e2, e3, h3⟩ := unf_tells h x
  have s1 := size_join_le B (stp x.1 x.2)
  have s2 := stp_size x.1 x.2
  have s3 := grow_size_lvs h.1
  have s4 := step_lvs e3
  have s5 := grow_size_lvs h3.1
  have s6 := join_hgt B (stp x.1 x.2)
  have s7 := stp_hgt x.1 x.2
  rw [← e1] at s4
  exact ⟨by omega, by omega⟩
theorem pairT_size {D : Nat} : ∀ xs : List (Bool × List Nat), (∀ x ∈ xs, x.2.length ≤ D) → (pairT xs.reverse).1.size ≤ xs.length * (D + 2) ∧ (pairT xs.reverse).2.hgt ≤ D + 2 + xs.length
  | [], _ => ⟨Nat.zero_le _, Nat.zero_le _⟩
  | x :: xs, h => by
    have ih := pairT_size xs fun y hy => h y (List.mem_cons_of_mem _ hy)
    have hx := h x List.mem_cons_self
    rw [List.reverse_cons, pairT_snoc]
    have := unf_size (pairT_tells_rev xs) x
    rw [List.length_cons, Nat.succ_mul]
    have e : unf ((pairT xs.reverse).1, (pairT xs.reverse).2) x = unf (pairT xs.reverse) x := rfl
    rw [e] at this
    omega
theorem runO_hgt : ∀ (xs : List (Bool × List Nat)) {t s : Tr}, runO xs t = some s → t.hgt ≤ s.hgt + xs.length ∧ s.size = t.size
  | [], t, s, h => by cases h; exact ⟨by omega, rfl⟩
  | x :: xs, t, s, h => by
    have h : (stepB x.1 x.2 t).bind (runO xs) = some s := h
    obtain ⟨u, hu, h⟩ := Option.bind_eq_some_iff.mp h
    have h1 := step_lvs hu
    have h2 := runO_hgt xs h
    rw [List.length_cons]
    omega
theorem hang_hgt : ∀ (s c : Tr) (xs : List Tr), hang s c = some xs → ∀ x ∈ xs, x.hgt ≤ s.hgt
  | s, .leaf, xs, h => by
    simp [hang] at h; subst h
    intro x hx
    rw [List.mem_singleton.mp hx]
    exact Nat.le_refl _
  | .leaf, .node _ _, xs, h => by simp [hang] at h
  | .node a b, .node c d, xs, h => by
    simp only [hang, Option.bind_eq_some_iff, Option.map_eq_some_iff] at h
    obtain ⟨x, hx, y, hy, rfl⟩ := h
    intro z hz
    show z.hgt ≤ max a.hgt b.hgt + 1
    rcases List.mem_append.mp hz with hz | hz
    · have := hang_hgt a c x hx z hz; omega
    · have := hang_hgt b d y hy z hz; omega
theorem growR_hgt {M : Nat} : ∀ (t : Tr) (xs : List Tr), (∀ x ∈ xs, x.hgt ≤ M) → (t.growR xs).1.hgt ≤ t.hgt + M ∧ ∀ x ∈ (t.growR xs).2, x.hgt ≤ M
  | .leaf, [], h => ⟨Nat.zero_le _, fun _ h => nomatch h⟩
  | .leaf, x :: xs, h => ⟨by have := h x List.mem_cons_self; show x.hgt ≤ 0 + M; omega, fun y hy => h y (List.mem_cons_of_mem _ hy)⟩
  | .node l r, xs, h => by
    have h1 := growR_hgt l xs h
    have h2 := growR_hgt r _ h1.2
    refine ⟨?_, h2.2⟩
    show max (l.growR xs).1.hgt (r.growR (l.growR xs).2).1.hgt + 1 ≤ max l.hgt r.hgt + 1 + M
    omega
theorem grow_hgt {M : Nat} (t : Tr) (xs : List Tr) (h : ∀ x ∈ xs, x.hgt ≤ M) : (t.grow xs).hgt ≤ t.hgt + M := (growR_hgt t xs h).1
theorem pairT_bounds {D : Nat} (xs : List (Bool × List Nat)) (h : ∀ x ∈ xs, x.2.length ≤ D) :
    (pairT xs).1.size ≤ xs.length * (D + 2) ∧ (pairT xs).2.size = (pairT xs).1.size ∧ (pairT xs).2.hgt ≤ D + 2 + xs.length ∧ (pairT xs).1.hgt ≤ D + 2 + 2 * xs.length := by
  have h1 := pairT_size xs.reverse fun x hx => h x (List.mem_reverse.mp hx)
  rw [List.reverse_reverse, List.length_reverse] at h1
  have h2 := runO_hgt xs (run_first (pairT_tells xs))
  omega
/-! ### trees whose parts have numbers -/
theorem put_nil (t x : Tr) : put t [] x = x := by cases t <;> rfl
theorem tat_nil (t : Tr) : tat t [] = some t := by cases t <;> rfl
inductive LT where
  | lf (n : Nat)
  | nd (n : Nat) (l r : LT)
namespace LT
def lab : LT → Nat
  | lf n => n
  | nd n _ _ => n
def shape : LT → Tr
  | lf _ => .leaf
  | nd _ l r => .node l.shape r.shape
def lls : LT → List Nat
  | lf n => [n]
  | nd _ l r => l.lls ++ r.lls
def labs : LT → List Nat
  | lf n => [n]
  | nd n l r => n :: (l.labs ++ r.labs)
def Rep (f : Nat → Option (Nat × Nat)) : LT → Prop
  | lf n => f n = none
  | nd n l r => f n = some (l.lab, r.lab) ∧ Rep f l ∧ Rep f r
def subst (σ : Nat → LT) : LT → LT
  | lf n => σ n
  | nd n l r => nd n (subst σ l) (subst σ r)
/-- a leaf becomes a node -/
def sb (n m k : Nat) : LT := if k = n then nd n (lf m) (lf (m + 1)) else lf k
def lat : LT → List Nat → Option LT
  | t, [] => some t
  | lf _, _ :: _ => none
  | nd _ l r, c :: cs => if c = 108 then lat l cs else lat r cs
def lput : LT → List Nat → LT → LT
  | _, [], x => x
  | lf n, _ :: _, _ => lf n
  | nd n l r, c :: cs, x => if c = 108 then nd n (lput l cs x) r else nd n l (lput r cs x)
theorem lat_nil (t : LT) : lat t [] = some t := by cases t <;> rfl
theorem lput_nil (t x : LT) : lput t [] x = x := by cases t <;> rfl
theorem lls_len : ∀ t : LT, t.lls.length = t.shape.lvs
  | lf n => rfl
  | nd n l r => by simp [lls, shape, lvs, lls_len l, lls_len r]
theorem lls_labs : ∀ (t : LT), ∀ n ∈ t.lls, n ∈ t.labs
  | lf n, k, h => h
  | nd n l r, k, h => by
    rcases List.mem_append.mp h with h | h
    · exact List.mem_cons_of_mem _ (List.mem_append_left _ (lls_labs l k h))
    · exact List.mem_cons_of_mem _ (List.mem_append_right _ (lls_labs r k h))
theorem lab_labs (t : LT) : t.lab ∈ t.labs := by cases t <;> simp [lab, labs]
theorem rep_leaf {f : Nat → Option (Nat × Nat)} : ∀ {t : LT}, Rep f t → ∀ n ∈ t.lls, f n = none
  | lf n, h, k, hk => by rw [List.mem_singleton.mp hk]; exact h
  | nd n l r, h, k, hk => by
    rcases List.mem_append.mp hk with hk | hk
    · exact rep_leaf h.2.1 k hk
    · exact rep_leaf h.2.2 k hk
theorem rep_congr {f g : Nat → Option (Nat × Nat)} : ∀ {t : LT}, (∀ k ∈ t.labs, g k = f k) → Rep f t → Rep g t
  | lf n, e, h => by show g n = none; rw [e n (by simp [labs])]; exact h
  | nd n l r, e, h => ⟨by rw [e n (by simp [labs])]; exact h.1, rep_congr (fun k hk => e k (by simp [labs, hk])) h.2.1, rep_congr (fun k hk => e k (by simp [labs, hk])) h.2.2⟩
theorem shape_subst (σ : Nat → LT) : ∀ t : LT, (t.subst σ).shape = t.shape.grow (t.lls.map fun k => (σ k).shape)
  | lf n => rfl
  | nd n l r => by
    show Tr.node _ _ = _
    rw [shape_subst σ l, shape_subst σ r]
    simp only [lls, List.map_append, shape]
    rw [grow_node _ _ _ _ (by rw [List.length_map, lls_len]) (by rw [List.length_map, lls_len])]
theorem lls_subst (σ : Nat → LT) : ∀ t : LT, (t.subst σ).lls = t.lls.flatMap fun k => (σ k).lls
  | lf n => by simp [subst, lls]
  | nd n l r => by simp only [subst, lls, lls_subst σ l, lls_subst σ r, List.flatMap_append]
theorem subst_subst (σ τ : Nat → LT) : ∀ t : LT, (t.subst σ).subst τ = t.subst fun k => (σ k).subst τ
  | lf n => rfl
  | nd n l r => by simp only [subst, subst_subst σ τ l, subst_subst σ τ r]
theorem subst_lf : ∀ t : LT, t.subst lf = t
  | lf n => rfl
  | nd n l r => by simp only [subst, subst_lf l, subst_lf r]
theorem lab_sb (n m : Nat) (t : LT) : (t.subst (sb n m)).lab = t.lab := by
  cases t with
  | lf k => show (sb n m k).lab = k; unfold sb; split <;> simp [lab, *]
  | nd k l r => rfl
theorem sb_id {n m : Nat} : ∀ {t : LT}, n ∉ t.lls → t.subst (sb n m) = t
  | lf k, h => by show sb n m k = lf k; unfold sb; rw [if_neg]; intro e; exact h (by rw [← e]; simp [lls])
  | nd k l r, h => by
    simp only [lls, List.mem_append, not_or] at h
    simp only [subst, sb_id h.1, sb_id h.2]
/-- the dict with one more entry -/
def fput (f : Nat → Option (Nat × Nat)) (n : Nat) (p : Nat × Nat) : Nat → Option (Nat × Nat) := fun k => if k = n then some p else f k
theorem rep_sb {f : Nat → Option (Nat × Nat)} {n m : Nat} (hn : f n = none) (hm : f m = none) (hm1 : f (m + 1) = none) (h1 : n < m) : ∀ {t : LT}, Rep f t → Rep (fput f n (m, m + 1)) (t.subst (sb n m))
  | lf k, h => by
    show Rep _ (sb n m k)
    unfold sb
    split
    · rename_i e
      exact ⟨by unfold fput; rw [if_pos rfl]; rfl, by show fput f n _ m = none; unfold fput; rw [if_neg (by omega)]; exact hm, by show fput f n _ (m + 1) = none; unfold fput; rw [if_neg (by omega)]; exact hm1⟩
    · rename_i e
      show fput f n _ k = none
      unfold fput; rw [if_neg e]; exact h
  | nd k l r, h => by
    refine ⟨?_, rep_sb hn hm hm1 h1 h.2.1, rep_sb hn hm hm1 h1 h.2.2⟩
    rw [lab_sb, lab_sb]
    unfold fput
    rw [if_neg (fun e => by have := h.1; rw [e, hn] at this; cases this)]
    exact h.1
theorem labs_sb {n m : Nat} : ∀ {t : LT}, ∀ k ∈ (t.subst (sb n m)).labs, k ∈ t.labs ∨ k = m ∨ k = m + 1
  | lf j, k, h => by
    have h : k ∈ (sb n m j).labs := h
    unfold sb at h
    split at h
    · rename_i e
      simp [labs] at h
      rcases h with h | h | h
      · exact .inl (by simp [labs, h, e])
      · exact .inr (.inl h)
      · exact .inr (.inr h)
    · exact .inl h
  | nd j l r, k, h => by
    simp only [subst, labs, List.mem_cons, List.mem_append] at h ⊢
    rcases h with h | h | h
    · exact .inl (.inl h)
    · rcases labs_sb k h with h | h
      · exact .inl (.inr (.inl h))
      · exact .inr h
    · rcases labs_sb k h with h | h
      · exact .inl (.inr (.inr h))
      · exact .inr h
theorem lat_labs : ∀ {t : LT} {a : List Nat} {s : LT}, lat t a = some s → ∀ k ∈ s.labs, k ∈ t.labs
  | t, [], s, h, k, hk => by rw [lat_nil] at h; cases h; exact hk
  | lf n, c :: cs, s, h, k, hk => by cases h
  | nd n l r, c :: cs, s, h, k, hk => by
    have h : (if c = 108 then lat l cs else lat r cs) = some s := h
    simp only [labs, List.mem_cons, List.mem_append]
    split at h
    · exact .inr (.inl (lat_labs h k hk))
    · exact .inr (.inr (lat_labs h k hk))
theorem lat_shape : ∀ {t : LT} {a : List Nat} {s : LT}, lat t a = some s → tat t.shape a = some s.shape
  | t, [], s, h => by rw [lat_nil] at h; cases h; exact tat_nil _
  | lf n, c :: cs, s, h => by cases h
  | nd n l r, c :: cs, s, h => by
    have h : (if c = 108 then lat l cs else lat r cs) = some s := h
    show (if c = 108 then tat l.shape cs else tat r.shape cs) = _
    split at h
    · rename_i e; rw [if_pos e]; exact lat_shape h
    · rename_i e; rw [if_neg e]; exact lat_shape h
theorem lput_shape : ∀ {t : LT} {a : List Nat} {s : LT} (x : LT), lat t a = some s → (lput t a x).shape = put t.shape a x.shape
  | t, [], s, x, h => by rw [lput_nil, put_nil]
  | lf n, c :: cs, s, x, h => by cases h
  | nd n l r, c :: cs, s, x, h => by
    have h : (if c = 108 then lat l cs else lat r cs) = some s := h
    show (if c = 108 then nd n (lput l cs x) r else nd n l (lput r cs x)).shape = if c = 108 then Tr.node (put l.shape cs x.shape) r.shape else Tr.node l.shape (put r.shape cs x.shape)
    split at h
    · rename_i e; rw [if_pos e, if_pos e]; show Tr.node _ _ = _; rw [lput_shape x h]
    · rename_i e; rw [if_neg e, if_neg e]; show Tr.node _ _ = _; rw [lput_shape x h]
theorem lat_lput : ∀ {t : LT} {a : List Nat} {s : LT} (x : LT) (b : List Nat), lat t a = some s → lat (lput t a x) (a ++ b) = lat x b
  | t, [], s, x, b, h => by rw [lput_nil]; rfl
  | lf n, c :: cs, s, x, b, h => by cases h
  | nd n l r, c :: cs, s, x, b, h => by
    have h : (if c = 108 then lat l cs else lat r cs) = some s := h
    show lat (if c = 108 then nd n (lput l cs x) r else nd n l (lput r cs x)) (c :: (cs ++ b)) = _
    split at h
    · rename_i e; rw [if_pos e]; show (if c = 108 then lat (lput l cs x) (cs ++ b) else _) = _; rw [if_pos e]; exact lat_lput x b h
    · rename_i e; rw [if_neg e]; show (if c = 108 then _ else lat (lput r cs x) (cs ++ b)) = _; rw [if_neg e]; exact lat_lput x b h
theorem lat_app : ∀ {t : LT} {a : List Nat} {s : LT} (b : List Nat), lat t a = some s → lat t (a ++ b) = lat s b
  | t, [], s, b, h => by rw [lat_nil] at h; cases h; rfl
  | lf n, c :: cs, s, b, h => by cases h
  | nd n l r, c :: cs, s, b, h => by
    have h : (if c = 108 then lat l cs else lat r cs) = some s := h
    show (if c = 108 then lat l (cs ++ b) else lat r (cs ++ b)) = _
    split at h
    · rename_i e; rw [if_pos e]; exact lat_app b h
    · rename_i e; rw [if_neg e]; exact lat_app b h
theorem nodup_nd {n : Nat} {l r : LT} (h : (nd n l r).labs.Nodup) : n ∉ l.labs ∧ n ∉ r.labs ∧ l.labs.Nodup ∧ r.labs.Nodup ∧ ∀ k ∈ l.labs, k ∉ r.labs := by
  simp only [labs, List.nodup_cons, List.mem_append, not_or, List.nodup_append] at h
  exact ⟨h.1.1, h.1.2, h.2.1, h.2.2.1, fun k hk hr => h.2.2.2 k hk k hr rfl⟩
/-- unfolding the leaf at an address -/
theorem sb_put {m : Nat} : ∀ {t : LT} {a : List Nat} {n : Nat}, t.labs.Nodup → lat t a = some (lf n) → t.subst (sb n m) = lput t a (nd n (lf m) (lf (m + 1)))
  | t, [], n, _, h => by rw [lat_nil] at h; cases h; rw [lput_nil]; show sb n m n = _; unfold sb; rw [if_pos rfl]
  | lf k, c :: cs, n, _, h => by cases h
  | nd k l r, c :: cs, n, hn, h => by
    have h : (if c = 108 then lat l cs else lat r cs) = some (lf n) := h
    obtain ⟨h1, h2, h3, h4, h5⟩ := nodup_nd hn
    show nd k (l.subst (sb n m)) (r.subst (sb n m)) = if c = 108 then nd k (lput l cs _) r else nd k l (lput r cs _)
    split at h
    · rename_i e
      rw [if_pos e, sb_put h3 h, sb_id (t := r) fun z => h5 n (lat_labs h n (by simp [labs])) (lls_labs r n z)]
    · rename_i e
      rw [if_neg e, sb_put h4 h, sb_id (t := l) fun z => h5 n (lls_labs l n z) (lat_labs h n (by simp [labs]))]
theorem lat_lls {n : Nat} : ∀ {t : LT} {a : List Nat}, lat t a = some (lf n) → n ∈ t.lls
  | t, [], h => by rw [lat_nil] at h; cases h; simp [lls]
  | lf k, c :: cs, h => by cases h
  | nd k l r, c :: cs, h => by
    have h : (if c = 108 then lat l cs else lat r cs) = some (lf n) := h
    split at h
    · exact List.mem_append_left _ (lat_lls h)
    · exact List.mem_append_right _ (lat_lls h)
theorem rep_lat {f : Nat → Option (Nat × Nat)} : ∀ {t : LT} {a : List Nat} {s : LT}, Rep f t → lat t a = some s → Rep f s
  | t, [], s, h, e => by rw [lat_nil] at e; cases e; exact h
  | lf k, c :: cs, s, h, e => by cases e
  | nd k l r, c :: cs, s, h, e => by
    have e : (if c = 108 then lat l cs else lat r cs) = some s := e
    split at e
    · exact rep_lat h.2.1 e
    · exact rep_lat h.2.2 e
/-- another part in the place of one, with the same number at its top -/
theorem rep_put {f g : Nat → Option (Nat × Nat)} : ∀ {t : LT} {a : List Nat} {s x : LT}, t.labs.Nodup → Rep f t → lat t a = some s → (∀ k, k ∉ s.labs → g k = f k) → Rep g x → x.lab = s.lab → x.labs.Perm s.labs → x.lls = s.lls →
    Rep g (lput t a x) ∧ (lput t a x).lab = t.lab ∧ (lput t a x).labs.Perm t.labs ∧ (lput t a x).lls = t.lls
  | t, [], s, x, _, _, e, _, hx, hl, hp, hs => by rw [lat_nil] at e; cases e; rw [lput_nil]; exact ⟨hx, hl, hp, hs⟩
  | lf k, c :: cs, s, x, _, _, e, _, _, _, _, _ => by cases e
  | nd k l r, c :: cs, s, x, hn, hr, e, hg, hx, hl, hp, hs => by
    have e : (if c = 108 then lat l cs else lat r cs) = some s := e
    obtain ⟨h1, h2, h3, h4, h5⟩ := nodup_nd hn
    show Rep g (if c = 108 then nd k (lput l cs x) r else nd k l (lput r cs x)) ∧ (if c = 108 then nd k (lput l cs x) r else nd k l (lput r cs x)).lab = k ∧
      (if c = 108 then nd k (lput l cs x) r else nd k l (lput r cs x)).labs.Perm (k :: (l.labs ++ r.labs)) ∧ (if c = 108 then nd k (lput l cs x) r else nd k l (lput r cs x)).lls = l.lls ++ r.lls
    split at e
    · rename_i z
      have ih := rep_put h3 hr.2.1 e hg hx hl hp hs
      rw [if_pos z]
      refine ⟨⟨?_, ih.1, rep_congr (fun j hj => hg j fun q => h5 j (lat_labs e j q) hj) hr.2.2⟩, rfl, ?_, ?_⟩
      · rw [hg k fun q => h1 (lat_labs e k q), ih.2.1]; exact hr.1
      · exact (ih.2.2.1.append_right _).cons _
      · show _ ++ _ = _; rw [ih.2.2.2]
    · rename_i z
      have ih := rep_put h4 hr.2.2 e hg hx hl hp hs
      rw [if_neg z]
      refine ⟨⟨?_, rep_congr (fun j hj => hg j fun q => h5 j hj (lat_labs e j q)) hr.2.1, ih.1⟩, rfl, ?_, ?_⟩
      · rw [hg k fun q => h2 (lat_labs e k q), ih.2.1]; exact hr.1
      · exact (ih.2.2.1.append_left _).cons _
      · show _ ++ _ = _; rw [ih.2.2.2]
end LT
abbrev cherry : Tr := .node .leaf .leaf
theorem pth_join (a : List Nat) : ∀ x y : Tr, join (pth a x) (pth a y) = pth a (join x y) := by
  induction a with
  | nil => intro x y; rfl
  | cons c cs ih =>
    intro x y
    rw [pth_cons, pth_cons, pth_cons]
    split
    · simp only [join, ih]
    · simp only [join, ih]
theorem pth_app (a b : List Nat) (x : Tr) : pth (a ++ b) x = pth a (pth b x) := by
  induction a with
  | nil => rfl
  | cons c cs ih => rw [List.cons_append, pth_cons, pth_cons, ih]
theorem put_join : ∀ {t : Tr} {a : List Nat} {s : Tr} (x : Tr), tat t a = some s → put t a (join s x) = join t (pth a x)
  | t, [], s, x, h => by rw [tat_nil] at h; cases h; rw [put_nil]; rfl
  | .leaf, c :: cs, s, x, h => by cases h
  | .node l r, c :: cs, s, x, h => by
    have h : (if c = 108 then tat l cs else tat r cs) = some s := h
    rw [pth_cons]
    show (if c = 108 then Tr.node (put l cs _) r else Tr.node l (put r cs _)) = _
    split at h
    · rename_i e; rw [if_pos e, if_pos e, put_join x h]; simp only [join, join_leaf]
    · rename_i e; rw [if_neg e, if_neg e, put_join x h]; simp only [join, join_leaf]
namespace LT
/-- what the two dicts hold -/
structure Sta (f g : Nat → Option (Nat × Nat)) (m : Nat) (O C : LT) : Prop where
  ro : Rep f O
  rc : Rep g C
  lo : O.lab = 0
  lc : C.lab = 0
  ndp : C.labs.Nodup
  fr : ∀ k ∈ C.labs, k < m
  dom : ∀ k, m ≤ k → f k = none ∧ g k = none
  eq : O.lls = C.lls
theorem Sta.zero : Sta (fun _ => none) (fun _ => none) 1 (lf 0) (lf 0) := ⟨rfl, rfl, rfl, rfl, by simp [labs], by simp [labs], fun _ _ => ⟨rfl, rfl⟩, rfl⟩
theorem labs_leaf {m : Nat} : ∀ {t : LT} {a : List Nat} {n : Nat}, lat t a = some (lf n) → (lput t a (nd n (lf m) (lf (m + 1)))).labs.Perm (m :: (m + 1) :: t.labs)
  | t, [], n, h => by
    rw [lat_nil] at h; cases h; rw [lput_nil]
    show [n, m, m + 1].Perm [m, m + 1, n]
    exact (List.perm_append_comm (l₁ := [n]) (l₂ := [m, m + 1]))
  | lf k, c :: cs, n, h => by cases h
  | nd k l r, c :: cs, n, h => by
    have h : (if c = 108 then lat l cs else lat r cs) = some (lf n) := h
    show (if c = 108 then nd k (lput l cs _) r else nd k l (lput r cs _)).labs.Perm (m :: (m + 1) :: k :: (l.labs ++ r.labs))
    have mid : ∀ xs : List Nat, (k :: m :: (m + 1) :: xs).Perm (m :: (m + 1) :: k :: xs) := fun xs => (List.Perm.swap _ _ _).trans ((List.Perm.swap _ _ _).cons _)
    split at h
    · rename_i e; rw [if_pos e]
      exact (((labs_leaf h).append_right _).cons _).trans (mid _)
    · rename_i e; rw [if_neg e]
      refine (((labs_leaf h).append_left _).cons _).trans (.trans (List.Perm.cons _ ?_) (mid _))
      exact (List.perm_middle).trans ((List.perm_middle).cons _)
theorem Sta.unfold {f g : Nat → Option (Nat × Nat)} {m : Nat} {O C : LT} (S : Sta f g m O C) {a : List Nat} {n : Nat} (h : lat C a = some (lf n)) :
    Sta (fput f n (m, m + 1)) (fput g n (m, m + 1)) (m + 2) (O.subst (sb n m)) (C.subst (sb n m)) ∧ lat (C.subst (sb n m)) a = some (nd n (lf m) (lf (m + 1))) ∧ (C.subst (sb n m)).shape = join C.shape (pth a cherry) := by
  have hn : n ∈ C.labs := lat_labs h n (by simp [labs])
  have nm := S.fr n hn
  have hl : n ∈ C.lls := lat_lls h
  have gn : g n = none := rep_leaf S.rc n hl
  have fn : f n = none := rep_leaf S.ro n (by rw [S.eq]; exact hl)
  have d0 := S.dom m (Nat.le_refl _)
  have d1 := S.dom (m + 1) (by omega)
  have e := sb_put (m := m) S.ndp h
  have la := lat_lput (nd n (lf m) (lf (m + 1))) [] h
  rw [List.append_nil, lat_nil] at la
  refine ⟨⟨rep_sb fn d0.1 d1.1 nm S.ro, rep_sb gn d0.2 d1.2 nm S.rc, by rw [lab_sb]; exact S.lo, by rw [lab_sb]; exact S.lc, ?_, fun k hk => ?_, fun k hk => ?_, by rw [lls_subst, lls_subst, S.eq]⟩, by rw [e]; exact la, ?_⟩
  · rw [e]
    refine (labs_leaf h).nodup_iff.mpr ?_
    refine List.nodup_cons.mpr ⟨fun z => ?_, List.nodup_cons.mpr ⟨fun z => ?_, S.ndp⟩⟩
    · rcases List.mem_cons.mp z with z | z
      · omega
      · have := S.fr m z; omega
    · have := S.fr _ z; omega
  · rcases labs_sb k hk with h | h | h
    · have := S.fr k h; omega
    · omega
    · omega
  · have := S.dom k (by omega)
    unfold fput
    rw [if_neg (by omega), if_neg (by omega)]
    exact this
  · rw [e, lput_shape _ h]
    have := put_join cherry (lat_shape h)
    exact this
/-- where a node stands nothing need grow -/
theorem node_join {C : LT} {a : List Nat} {n : Nat} {l r : LT} (h : lat C a = some (nd n l r)) : C.shape = join C.shape (pth a cherry) := by
  have e := put_join cherry (lat_shape h)
  have k : join (nd n l r).shape cherry = (nd n l r).shape := by show join (.node l.shape r.shape) (.node .leaf .leaf) = _; simp only [join, join_leaf]; rfl
  rw [k] at e
  rw [← e]
  have : ∀ {t : Tr} {a : List Nat} {s : Tr}, tat t a = some s → put t a s = t := by
    intro t a
    induction a generalizing t with
    | nil => intro s h; rw [tat_nil] at h; cases h; exact put_nil _ _
    | cons c cs ih =>
      intro s h
      cases t with
      | leaf => cases h
      | node x y =>
        have h : (if c = 108 then tat x cs else tat y cs) = some s := h
        show (if c = 108 then Tr.node (put x cs s) y else Tr.node x (put y cs s)) = _
        split at h
        · rename_i e; rw [if_pos e, ih h]
        · rename_i e; rw [if_neg e, ih h]
  exact (this (lat_shape h)).symm
/-- a turn -/
theorem Sta.turnR {f g : Nat → Option (Nat × Nat)} {m : Nat} {O C : LT} (S : Sta f g m O C) {a : List Nat} {n j : Nat} {o i r : LT} (h : lat C a = some (nd n (nd j o i) r)) :
    Sta f (fput (fput g n (o.lab, j)) j (i.lab, r.lab)) m O (lput C a (nd n o (nd j i r))) ∧ stepB true a C.shape = some (lput C a (nd n o (nd j i r))).shape := by
  have hs := rep_lat S.rc h
  have nds : (nd n (nd j o i) r).labs.Nodup := by
    have : ∀ {t : LT} {a : List Nat} {s : LT}, t.labs.Nodup → lat t a = some s → s.labs.Nodup := by
      intro t a
      induction a generalizing t with
      | nil => intro s hn h; rw [lat_nil] at h; cases h; exact hn
      | cons c cs ih =>
        intro s hn h
        cases t with
        | lf k => cases h
        | nd k x y =>
          have h : (if c = 108 then lat x cs else lat y cs) = some s := h
          have := nodup_nd hn
          split at h
          · exact ih this.2.2.1 h
          · exact ih this.2.2.2.1 h
    exact this S.ndp h
  obtain ⟨a1, a2, a3, a4, a5⟩ := nodup_nd nds
  obtain ⟨b1, b2, b3, b4, b5⟩ := nodup_nd a3
  have nj : ¬ n = j := fun z => a1 (by rw [z]; simp [labs])
  have P := rep_put (g := fput (fput g n (o.lab, j)) j (i.lab, r.lab)) (x := nd n o (nd j i r)) S.ndp S.rc h (fun k hk => by
      unfold fput
      rw [if_neg (fun z => hk (by rw [z]; simp [labs])), if_neg (fun z => hk (by rw [z]; simp [labs]))]) ?_ rfl ?_ (by simp [lls])
  · refine ⟨⟨S.ro, P.1, S.lo, by rw [P.2.1]; exact S.lc, P.2.2.1.nodup_iff.mpr S.ndp, fun k hk => S.fr k (P.2.2.1.mem_iff.mp hk), fun k hk => ⟨(S.dom k hk).1, ?_⟩, by rw [P.2.2.2]; exact S.eq⟩, ?_⟩
    · have h1 := S.fr n (lat_labs h n (by simp [labs]))
      have h2 := S.fr j (lat_labs h j (by simp [labs]))
      unfold fput
      rw [if_neg (by omega), if_neg (by omega)]
      exact (S.dom k hk).2
    · rw [lput_shape _ h]
      unfold stepB
      rw [lat_shape h]
      rfl
  · refine ⟨?_, rep_congr (fun k hk => ?_) hs.2.1.2.1, ?_, rep_congr (fun k hk => ?_) hs.2.1.2.2, rep_congr (fun k hk => ?_) hs.2.2⟩
    · unfold fput; rw [if_neg nj, if_pos rfl]; rfl
    · unfold fput; rw [if_neg (fun z => b1 (by rw [← z]; exact hk)), if_neg (fun z => a1 (by rw [← z]; simp [labs, hk]))]
    · unfold fput; rw [if_pos rfl]
    · unfold fput; rw [if_neg (fun z => b2 (by rw [← z]; exact hk)), if_neg (fun z => a1 (by rw [← z]; simp [labs, hk]))]
    · unfold fput; rw [if_neg (fun z => a5 j (by simp [labs]) (by rw [← z]; exact hk)), if_neg (fun z => a2 (by rw [← z]; exact hk))]
  · simp only [labs]
    refine List.Perm.cons _ ?_
    show (o.labs ++ j :: (i.labs ++ r.labs)).Perm ((j :: (o.labs ++ i.labs)) ++ r.labs)
    rw [List.cons_append, List.append_assoc]
    exact List.perm_middle
theorem Sta.turnL {f g : Nat → Option (Nat × Nat)} {m : Nat} {O C : LT} (S : Sta f g m O C) {a : List Nat} {n j : Nat} {l i o : LT} (h : lat C a = some (nd n l (nd j i o))) :
    Sta f (fput (fput g n (j, o.lab)) j (l.lab, i.lab)) m O (lput C a (nd n (nd j l i) o)) ∧ stepB false a C.shape = some (lput C a (nd n (nd j l i) o)).shape := by
  have hs := rep_lat S.rc h
  have nds : (nd n l (nd j i o)).labs.Nodup := by
    have : ∀ {t : LT} {a : List Nat} {s : LT}, t.labs.Nodup → lat t a = some s → s.labs.Nodup := by
      intro t a
      induction a generalizing t with
      | nil => intro s hn h; rw [lat_nil] at h; cases h; exact hn
      | cons c cs ih =>
        intro s hn h
        cases t with
        | lf k => cases h
        | nd k x y =>
          have h : (if c = 108 then lat x cs else lat y cs) = some s := h
          have := nodup_nd hn
          split at h
          · exact ih this.2.2.1 h
          · exact ih this.2.2.2.1 h
    exact this S.ndp h
  obtain ⟨a1, a2, a3, a4, a5⟩ := nodup_nd nds
  obtain ⟨b1, b2, b3, b4, b5⟩ := nodup_nd a4
  have nj : ¬ n = j := fun z => a2 (by rw [z]; simp [labs])
  have P := rep_put (g := fput (fput g n (j, o.lab)) j (l.lab, i.lab)) (x := nd n (nd j l i) o) S.ndp S.rc h (fun k hk => by
      unfold fput
      rw [if_neg (fun z => hk (by rw [z]; simp [labs])), if_neg (fun z => hk (by rw [z]; simp [labs]))]) ?_ rfl ?_ (by simp [lls])
  · refine ⟨⟨S.ro, P.1, S.lo, by rw [P.2.1]; exact S.lc, P.2.2.1.nodup_iff.mpr S.ndp, fun k hk => S.fr k (P.2.2.1.mem_iff.mp hk), fun k hk => ⟨(S.dom k hk).1, ?_⟩, by rw [P.2.2.2]; exact S.eq⟩, ?_⟩
    · have h1 := S.fr n (lat_labs h n (by simp [labs]))
      have h2 := S.fr j (lat_labs h j (by simp [labs]))
      unfold fput
      rw [if_neg (by omega), if_neg (by omega)]
      exact (S.dom k hk).2
    · rw [lput_shape _ h]
      unfold stepB
      rw [lat_shape h]
      show Option.map _ (TT.turnL l.shape (.node i.shape o.shape)) = _
      cases l <;> rfl
  · refine ⟨?_, ⟨?_, rep_congr (fun k hk => ?_) hs.2.1, rep_congr (fun k hk => ?_) hs.2.2.2.1⟩, rep_congr (fun k hk => ?_) hs.2.2.2.2⟩
    · unfold fput; rw [if_neg nj, if_pos rfl]; rfl
    · unfold fput; rw [if_pos rfl]
    · unfold fput; rw [if_neg (fun z => a5 k hk (by rw [z]; simp [labs])), if_neg (fun z => a1 (by rw [← z]; exact hk))]
    · unfold fput; rw [if_neg (fun z => b1 (by rw [← z]; exact hk)), if_neg (fun z => a2 (by rw [← z]; simp [labs, hk]))]
    · unfold fput; rw [if_neg (fun z => b2 (by rw [← z]; exact hk)), if_neg (fun z => a2 (by rw [← z]; simp [labs, hk]))]
  · simp only [labs]
    refine List.Perm.cons _ ?_
    show ((j :: (l.labs ++ i.labs)) ++ o.labs).Perm (l.labs ++ j :: (i.labs ++ o.labs))
    rw [List.cons_append, List.append_assoc]
    exact List.perm_middle.symm
/-- both trees have grown alike -/
def Alike (O0 C0 O C : LT) : Prop := ∃ σ : Nat → LT, (∀ k, (σ k).lab = k) ∧ O = O0.subst σ ∧ C = C0.subst σ
theorem Alike.refl (O C : LT) : Alike O C O C := ⟨lf, fun _ => rfl, (subst_lf O).symm, (subst_lf C).symm⟩
theorem Alike.sb {O0 C0 O C : LT} (A : Alike O0 C0 O C) (n m : Nat) : Alike O0 C0 (O.subst (sb n m)) (C.subst (sb n m)) := by
  obtain ⟨σ, h, rfl, rfl⟩ := A
  exact ⟨_, fun k => by rw [lab_sb]; exact h k, subst_subst _ _ _, subst_subst _ _ _⟩
theorem lab_subst {σ : Nat → LT} (h : ∀ k, (σ k).lab = k) (t : LT) : (t.subst σ).lab = t.lab := by
  cases t with
  | lf k => exact h k
  | nd k l r => rfl
theorem lat_subst (σ : Nat → LT) : ∀ {t : LT} {a : List Nat} {s : LT}, lat t a = some s → lat (t.subst σ) a = some (s.subst σ)
  | t, [], s, h => by rw [lat_nil] at h; cases h; exact lat_nil _
  | lf n, c :: cs, s, h => by cases h
  | nd n l r, c :: cs, s, h => by
    have h : (if c = 108 then lat l cs else lat r cs) = some s := h
    show (if c = 108 then lat (l.subst σ) cs else lat (r.subst σ) cs) = _
    split at h
    · rename_i e; rw [if_pos e]; exact lat_subst σ h
    · rename_i e; rw [if_neg e]; exact lat_subst σ h
theorem Alike.lat {O0 C0 O C : LT} (A : Alike O0 C0 O C) {a : List Nat} {n : Nat} {l r : LT} (h : lat C0 a = some (nd n l r)) : ∃ l' r', lat C a = some (nd n l' r') ∧ l'.lab = l.lab ∧ r'.lab = r.lab := by
  obtain ⟨σ, k, e1, e2⟩ := A
  refine ⟨l.subst σ, r.subst σ, ?_, lab_subst k l, lab_subst k r⟩
  rw [e2]
  exact lat_subst σ h
theorem Alike.unf {f g : Nat → Option (Nat × Nat)} {m : Nat} {O0 C0 O C : LT} (S : Sta f g m O0 C0) (A : Alike O0 C0 O C) {r : Bool} {a : List Nat} (hC : C.shape = join C0.shape (stp r a)) {s : Tr} (hs : stepB r a C.shape = some s) :
    TT.unf (O0.shape, C0.shape) (r, a) = (O.shape, s) := by
  obtain ⟨σ, _, e1, e2⟩ := A
  have s1 := shape_subst σ O0
  have s2 := shape_subst σ C0
  rw [← e1, S.eq] at s1
  rw [← e2] at s2
  have hg := hang_grow (c := C0.shape) (xs := C0.lls.map fun k => (σ k).shape) (by rw [List.length_map, lls_len])
  rw [← s2, hC] at hg
  unfold TT.unf
  show (O0.shape.grow ((hang (join C0.shape (stp r a)) C0.shape).getD []), (stepB r a (join C0.shape (stp r a))).getD .leaf) = _
  rw [hg, ← hC, hs, s1]
  rfl
theorem walk_on {B : Tr} {a : List Nat} (c : Nat) {C : Tr} (h : C = join B (pth a .leaf)) {C' : Tr} (h' : C' = join C (pth a cherry)) : C' = join B (pth (a ++ [c]) .leaf) := by
  have e : pth (a ++ [c]) Tr.leaf = pth a cherry := by
    rw [pth_app]
    show pth a (if c = 108 then .node .leaf .leaf else .node .leaf .leaf) = _
    split <;> rfl
  rw [h', h, join_assoc, pth_join, leaf_join, e]
theorem walk_top {B : Tr} {a : List Nat} {C : Tr} (h : C = join B (pth a .leaf)) {C' : Tr} (h' : C' = join C (pth a cherry)) (r : Bool) {C2 : Tr} (h2 : C2 = join C' (pth (a ++ [if r = true then 108 else 114]) cherry)) : C2 = join B (stp r a) := by
  rw [h2, h', h, join_assoc, join_assoc, pth_app, ← join_assoc (pth a .leaf), pth_join, pth_join, leaf_join]
  cases r <;> rfl
end LT
/-! ### moves -/
def mvF (A B p : Tr) : Option Tr := (hang p A).map B.grow
def mulT (a b : Tr × Tr) : Tr × Tr := (a.1.grow ((hang (join a.2 b.1) a.2).getD []), b.2.grow ((hang (join a.2 b.1) b.1).getD []))
theorem mul_parts {A B C D : Tr} (h1 : A.lvs = B.lvs) (h2 : C.lvs = D.lvs) : ∃ us ws, hang (join B C) B = some us ∧ hang (join B C) C = some ws ∧ us.length = A.lvs ∧ us.length = B.lvs ∧ ws.length = C.lvs ∧ ws.length = D.lvs ∧
    mulT (A, B) (C, D) = (A.grow us, D.grow ws) ∧ join B C = B.grow us ∧ join B C = C.grow ws := by
  obtain ⟨us, hus⟩ := hang_join B C
  obtain ⟨ws, hws⟩ := hang_join C B
  rw [join_comm] at hws
  have l1 := hang_len _ _ _ hus
  have l2 := hang_len _ _ _ hws
  refine ⟨us, ws, hus, hws, by omega, l1, l2, by omega, ?_, (grow_hang hus).symm, (grow_hang hws).symm⟩
  unfold mulT
  rw [hus, hws]; rfl
theorem mul_tells {A B C D : Tr} (h1 : A.lvs = B.lvs) (h2 : C.lvs = D.lvs) : Tells (fun p => (mvF A B p).bind (mvF C D)) (mulT (A, B) (C, D)).1 (mulT (A, B) (C, D)).2 := by
  obtain ⟨us, ws, hus, hws, l1, l2, l3, l4, e, j1, j2⟩ := mul_parts h1 h2
  rw [e]
  have hl : (A.grow us).lvs = (D.grow ws).lvs := by
    have a := lvs_grow (t := A) (xs := us) l1
    have b := lvs_grow (t := B) (xs := us) l2
    have c := lvs_grow (t := C) (xs := ws) l3
    have d := lvs_grow (t := D) (xs := ws) l4
    rw [← j1] at b; rw [← j2] at c
    omega
  refine ⟨hl, fun p => ?_⟩
  show ((hang p A).map B.grow).bind (mvF C D) = _
  cases hp : hang p A with
  | none =>
    have : hang p (A.grow us) = none := by
      cases hq : hang p (A.grow us) with
      | none => rfl
      | some zs =>
        have h1 : (hang p A).isSome = true := hang_trans (b := A.grow us) (by rw [hq]; rfl) (by rw [hang_grow l1]; rfl)
        rw [hp] at h1; cases h1
    rw [this]; rfl
  | some ts =>
    have tl := hang_len _ _ _ hp
    have pg := grow_hang hp
    have e3 : hang p (A.grow us) = hang (B.grow ts) (join B C) := by rw [← pg, hang_grows (by omega) (by omega), j1, hang_grows (by omega) l2]
    rw [e3]
    show (hang (B.grow ts) C).map D.grow = _
    cases hc : hang (B.grow ts) C with
    | none =>
      have : hang (B.grow ts) (join B C) = none := by
        cases hq : hang (B.grow ts) (join B C) with
        | none => rfl
        | some zs =>
          have := (hang_some_join.mp (by rw [hq]; rfl : (hang (B.grow ts) (join B C)).isSome = true)).2
          rw [hc] at this; cases this
      rw [this]; rfl
    | some cs =>
      have cl := hang_len _ _ _ hc
      have hs : (hang (B.grow ts) (join B C)).isSome = true := hang_some_join.mpr ⟨by rw [hang_grow (by omega)]; rfl, by rw [hc]; rfl⟩
      obtain ⟨zs, hz⟩ := Option.isSome_iff_exists.mp hs
      rw [hz]
      have cg := grow_hang hc
      have e4 : hang (B.grow ts) (join B C) = hang (D.grow cs) (D.grow ws) := by rw [← cg, j2, hang_grows (by omega) l3, hang_grows (by omega) l4]
      rw [hz] at e4
      have := grow_hang e4.symm
      show some (D.grow cs) = some ((D.grow ws).grow zs)
      rw [this]
theorem mul_bounds {A B C D : Tr} (h1 : A.lvs = B.lvs) (h2 : C.lvs = D.lvs) : (mulT (A, B) (C, D)).1.size ≤ A.size + C.size ∧ (mulT (A, B) (C, D)).2.size = (mulT (A, B) (C, D)).1.size ∧ (mulT (A, B) (C, D)).1.hgt ≤ A.hgt + max B.hgt C.hgt ∧ (mulT (A, B) (C, D)).2.hgt ≤ D.hgt + max B.hgt C.hgt := by
  obtain ⟨us, ws, hus, hws, l1, l2, l3, l4, e, j1, j2⟩ := mul_parts h1 h2
  have ht := (mul_tells h1 h2).1
  have s1 := size_join_le B C
  have s2 := grow_size_lvs h1
  have s3 : (A.grow us).size = (D.grow ws).size := by have := grow_size_lvs ht; rw [e] at this; exact this
  rw [e]
  have a := lvs_grow (t := A) (xs := us) l1
  have b := lvs_grow (t := B) (xs := us) l2
  rw [← j1] at b
  have s4 : (A.grow us).size = (join B C).size := grow_size_lvs (by omega)
  have j := join_hgt B C
  have g1 := grow_hgt (M := (join B C).hgt) A us fun x hx => hang_hgt _ _ _ hus x hx
  have g2 := grow_hgt (M := (join B C).hgt) D ws fun x hx => hang_hgt _ _ _ hws x hx
  show (A.grow us).size ≤ _ ∧ (D.grow ws).size = (A.grow us).size ∧ (A.grow us).hgt ≤ _ ∧ (D.grow ws).hgt ≤ _
  exact ⟨by omega, by omega, by omega, by omega⟩
theorem mvF_none {A B p : Tr} : mvF A B p = none ↔ hang p A = none := by unfold mvF; cases hang p A <;> simp
/-- one move is below another -/
def leT (a b : Tr × Tr) : Bool := (hang a.1 b.1).isSome && decide (hang a.1 b.1 = hang a.2 b.2)
end TT

set_option Elab.async false
set_option linter.all false
set_option maxRecDepth 100000
set_option maxHeartbeats 4000000
/-! TB: defs called by their arguments' names alone, in any order. -/
namespace TB
open PySem PySem.Spec PyProof.Rows L2
theorem vals_getD : ∀ {zs : List V} {ws : List Value}, Vals zs ws → ∀ i, RelV (zs.getD i .non) (ws.getD i .none)
  | _, _, .nil, i => rfl
  | _, _, .cons h r, 0 => h
  | _, _, .cons h r, i + 1 => vals_getD r i
theorem vals_perm {zs : List V} {ws : List Value} (h : Vals zs ws) : ∀ p : List Nat, Vals (p.map fun i => zs.getD i .non) (p.map fun i => ws.getD i .none)
  | [] => .nil
  | i :: p => .cons (vals_getD h i) (vals_perm h p)
/-- p: for each parameter the place of its keyword -/
theorem kbn {K : PySem.W.Frag} {x qual : Str} {st : Stmt} {f : Addr} {fd : FuncData} {ps : List Str} (F : Fun K x qual st f fd) (ks : List Str) (p : List Nat)
    (h : ∀ (kV doc pm : Value) (an : Option Addr) (cdv ct : Value) (ws : List Value), ws.length = ks.length → bindArgs (PySem.W.fnOf x qual (defArgs st) (defBody st) (defScope st) .none kV doc pm an cdv ct) ⟨[], ks.zip ws⟩ = pure (ps.zip (p.map fun i => ws.getD i .none))) :
    KBn K fd ps 0 ks (fun _ ws => p.map fun i => ws.getD i .none) (fun _ zs => p.map fun i => zs.getD i .non) := by
  obtain ⟨oc, od, kV, doc, pm, an, cdv, ct, osl, rfl, lk, hcd⟩ := F.ex
  refine ⟨fun s us ws _ l1 l2 => ?_, fun _ r => vals_perm r p⟩
  obtain rfl : us = [] := List.eq_nil_of_length_eq_zero l1
  exact .of_eq (h kV doc pm an cdv ct ws l2)
def tCallK (m : Nat) (sp : Sp) (gV : List V → List V → List V) (E : XK) (tk : TA) : TE := fun σ H Q => tk σ H fun zs H2 => zs.length = m ∧ sp (gV [] zs) H2 Q E
section
variable {X : Cx} {CX : CXT} {k : Nat} {f : Addr} {fd : FuncData} {ps ks : List Str} {sp : Sp} {E : XK} {x : Str} {p pos : Pos} {kws : List Keyword} {tk : TA} {g : List Value → List Value → List Value} {gV : List V → List V → List V}
/-- f(k = v, ..) -/
theorem pe_callK0 (F : FnOk X.prog X.w X.K X.mg X.base CX k f fd ps sp) (hr : Room k X.A) (hg : Gl X x) (hm : X.mg x = some (.ref f)) (hk : PySem.W.keepIn X.K (.ref f) = true) (hb : KBn X.K fd ps 0 ks g gV) (hx : Passes CX X E)
    (hkw : PK X kws tk) (hall : (backToKw pos (keywordEach kws X.env)).all (·.1.isSome) = true := by rfl) (hks : (backToKw pos (keywordEach kws X.env)).filterMap (·.1) = ks := by rfl)
    (hdb : (x == ("__debug__" : Str)) = false := by decide)
    (hpl : ((backTo pos (starEach [] X.env)).any (·.1) || (backToKw pos (keywordEach kws X.env)).any (·.1.isNone)) = false := by rfl) :
    PE X (.Call (.Name x p) [] kws pos) (tCallK ks.length sp gV E tk) := by
  refine ⟨fun pins s σ H Q I h => ?_⟩
  refine wpAny_Call_Name_kw (ld_glob I hg hm ?_ hdb)
  refine PySem.W.callWith_KW0 (h₀ := X.base) I.ok.mod.kin hk hall ?_ hpl
  refine thn (hkw.run pos pins s σ H _ I h) fun ws s2 ⟨zs, H2, I2, rz, l2, q2⟩ => ⟨I2.kIn, ?_⟩
  rw [hks]
  exact run_fnN (us := []) (vs := []) F hr hb hx I2 .nil rz rfl l2 q2
end
end TB

set_option Elab.async false
set_option linter.all false
set_option maxRecDepth 100000
set_option maxHeartbeats 4000000
/-! TOw: the operators that an own class has, its static methods, its calls, its repr. -/
namespace OW
open PySem PySem.Spec PyProof.Rows L2
/-- the class at C has the def at g under the name m -/
structure Own (K : PySem.W.Frag) (C : Addr) (m : Str) (g : Addr) : Prop where
  at_ : PySem.W.findIn K (.ref C) m = some (some (.ref g))
  fn : PySem.W.isFn K (.ref g) = true
/-- an instance of the class at C -/
def IsC (H : Hp) (C : Addr) (x : V) : Prop := ∃ a dx fs, x = .ref a ∧ H a = some (.ins C dx fs)
section
variable {X : Cx} {CX : CXT} {pins : List (Addr × Obj)} {σ : L2.St} {H : Hp} {s : Shared} {a C dx g : Addr} {fs : List (Str × V)} {k : Nat} {fd : FuncData} {ps : List Str} {sp : Sp} {E : XK} {us : List Value} {vs : List V} {Q : VK}
theorem inst_at (I : Inv X pins σ H s) (h : H a = some (.ins C dx fs)) : ∃ ox od, PySem.W.InstAt s.heap a ox C (some od) ∧ ox.data = .plain := by
  obtain ⟨mA, O, _⟩ := ins_get I.hok h
  obtain ⟨od, J, _⟩ := O.look
  exact ⟨_, _, J, rfl⟩
theorem vr1 (a : Addr) : Vals [V.ref a] [Value.ref a] := .cons rfl .nil
theorem vr2 (a b : Addr) : Vals [V.ref a, V.ref b] [Value.ref a, Value.ref b] := .cons rfl (.cons rfl .nil)
theorem run1 (F : FnOk X.prog X.w X.K X.mg X.base CX k g fd ps sp) (hr : Room k X.A) (hb : Binds X.K fd ps []) (hx : Passes CX X E) (I : Inv X pins σ H s) (r : Vals vs us) (h : sp vs H Q E) :
    wpAny (model X.prog X.w) X.A (call (.ref g) us) (EP X pins σ Q) X.xe s := run_fn F hr hb .nil hx I r (by rw [List.append_nil]; exact h)
/-- .. below a built-in -/
theorem run1in (F : FnOk X.prog X.w X.K X.mg X.base CX k g fd ps sp) (hr : Room (k + 1) X.A) (hb : Binds X.K fd ps []) (hx : Passes CX X E) (I : Inv X pins σ H s) (r : Vals vs us) (h : sp vs H Q E) :
    wpAny (model X.prog X.w) X.A.in1 (call (.ref g) us) (EP X pins σ Q) X.xe s := by
  have hl : (us ++ []).length = ps.length := by rw [List.append_nil, ← r.length]; exact F.len _ _ _ _ h
  have b := hb s us I.kIn hl
  rw [List.append_nil] at b
  refine wpAny_call (codeAny_mono (F.run X.A.in1 X.stack s H ⟨us, []⟩ us vs Q E hr.in1 I.env0.in1 b r h) fun r s' hq => ?_)
  cases r with
  | error e => exact hx pins σ H s e s' I hq
  | ok fl =>
    cases fl with
    | ret u => exact I.after hq
    | next => exact False.elim hq
    | brk => exact False.elim hq
    | cont => exact False.elim hq
theorem back {v : Value} {s' : Shared} (z : EP X pins σ Q v s') : PySem.W.CmpBack (EP X pins σ Q) v s' := by
  obtain ⟨w, H', I', rw', q⟩ := z
  exact SlX.cmpback rw' ⟨w, H', I', rw', q⟩
end
/-! ### two of the class -/
def rOwn2 (C : Addr) (sp : Sp) (E : XK) : R2 := fun x y H Q => IsC H C x ∧ IsC H C y ∧ sp [x, y] H Q E
section
variable {X : Cx} {CX : CXT} {C g : Addr} {k : Nat} {fd : FuncData} {ps : List Str} {sp : Sp} {E : XK}
theorem op_own2 {op : Operator} (sf : PySem.W.selfFirst X.K C = true) (o : Own X.K C (PySem.dunder op.info.2) g) (F : FnOk X.prog X.w X.K X.mg X.base CX k g fd ps sp) (hr : Room k X.A) (hb : Binds X.K fd ps []) (hx : Passes CX X E) : OpR X (binaryOp op) (rOwn2 C sp E) := by
  intro pins s σ H x y v u Q I rx ry h
  obtain ⟨⟨a, dx, fs, rfl, ha⟩, ⟨b, dy, gs, rfl, hb'⟩, hsp⟩ := h
  cases rx
  cases ry
  obtain ⟨ox, od, J, _⟩ := inst_at I ha
  obtain ⟨oy, oe, J', _⟩ := inst_at I hb'
  obtain ⟨m, hF⟩ := I.fr
  exact PySem.W.binop_K hF I.ok.mod.kin J J'.type sf o.at_ o.fn (wpAny_mono (run1 F hr hb hx I (vr2 a b) hsp) (fun v s' z => back z) fun _ _ z => z)
theorem op_cmp2 {op : CmpOp} (hu : X.A.units < cLine) (o : Own X.K C (cmpInfo op).2.1 g) (F : FnOk X.prog X.w X.K X.mg X.base CX k g fd ps sp) (hr : Room k X.A) (hb : Binds X.K fd ps []) (hx : Passes CX X E) : OpR X (richCompare op) (rOwn2 C sp E) := by
  intro pins s σ H x y v u Q I rx ry h
  obtain ⟨⟨a, dx, fs, rfl, ha⟩, ⟨b, dy, gs, rfl, hb'⟩, hsp⟩ := h
  cases rx
  cases ry
  obtain ⟨ox, od, J, _⟩ := inst_at I ha
  obtain ⟨oy, oe, J', _⟩ := inst_at I hb'
  obtain ⟨m, hF⟩ := I.fr
  exact PySem.W.cmp_K (tb := .ref C) hu hF I.ok.mod.kin J J'.type (by simp [PySem.W.notFirst]) o.at_ o.fn (wpAny_mono (run1 F hr hb hx I (vr2 a b) hsp) (fun v s' z => back z) fun _ _ z => z)
theorem op_eq2 (hu : X.A.units < cLine) (o : Own X.K C "__eq__" g) (F : FnOk X.prog X.w X.K X.mg X.base CX k g fd ps sp) (hr : Room k X.A) (hb : Binds X.K fd ps []) (hx : Passes CX X E) : OpR X (compareOp .Eq) (rOwn2 C sp E) := op_cmp2 (op := .Eq) hu o F hr hb hx
theorem op_le2 (hu : X.A.units < cLine) (o : Own X.K C "__le__" g) (F : FnOk X.prog X.w X.K X.mg X.base CX k g fd ps sp) (hr : Room k X.A) (hb : Binds X.K fd ps []) (hx : Passes CX X E) : OpR X (compareOp .LtE) (rOwn2 C sp E) := op_cmp2 (op := .LtE) hu o F hr hb hx
theorem op_lt2 (hu : X.A.units < cLine) (o : Own X.K C "__lt__" g) (F : FnOk X.prog X.w X.K X.mg X.base CX k g fd ps sp) (hr : Room k X.A) (hb : Binds X.K fd ps []) (hx : Passes CX X E) : OpR X (compareOp .Lt) (rOwn2 C sp E) := op_cmp2 (op := .Lt) hu o F hr hb hx
theorem op_ge2 (hu : X.A.units < cLine) (o : Own X.K C "__ge__" g) (F : FnOk X.prog X.w X.K X.mg X.base CX k g fd ps sp) (hr : Room k X.A) (hb : Binds X.K fd ps []) (hx : Passes CX X E) : OpR X (compareOp .GtE) (rOwn2 C sp E) := op_cmp2 (op := .GtE) hu o F hr hb hx
theorem op_gt2 (hu : X.A.units < cLine) (o : Own X.K C "__gt__" g) (F : FnOk X.prog X.w X.K X.mg X.base CX k g fd ps sp) (hr : Room k X.A) (hb : Binds X.K fd ps []) (hx : Passes CX X E) : OpR X (compareOp .Gt) (rOwn2 C sp E) := op_cmp2 (op := .Gt) hu o F hr hb hx
/-- ~x -/
theorem un_inv1 (o : Own X.K C "__invert__" g) (F : FnOk X.prog X.w X.K X.mg X.base CX k g fd ps sp) (hr : Room k X.A) (hb : Binds X.K fd ps []) (hx : Passes CX X E) : UnR X (unaryOp .Invert) (fun x H Q => IsC H C x ∧ sp [x] H Q E) := by
  intro pins s σ H x v Q I rx h
  obtain ⟨⟨a, dx, fs, rfl, ha⟩, hsp⟩ := h
  cases rx
  obtain ⟨ox, od, J, _⟩ := inst_at I ha
  obtain ⟨m, hF⟩ := I.fr
  exact PySem.W.ksp_inv hF I.ok.mod.kin J o.at_ o.fn (run1 F hr hb hx I (vr1 a) hsp)
end
/-! ### x != y without an own __ne__ -/
section
variable {prog : Program} {w : World} {A : Around} {E : Value → Shared → Prop} {s : Shared} {K : PySem.W.Frag} {x y C f : Addr} {ox : Obj} {od : Option Obj}
theorem ne_bind (self : Value) : bindSpecial (.builtin "object.__ne__") self = pure (.builtin "object.__ne__", [self]) :=
  (Slot.of (T := "object") (name := "__ne__") (owner := "object") (n := "__ne__") (by rw [typeLookup_type, builtinLookup_eq_fast]; kernel_rfl) (by decide +kernel) (by decide +kernel) (by decide +kernel)
    (.inl (by decide +kernel)) (by rw [isSubtype_type]; kernel_rfl)).bind self
theorem ne_plain : plainId "object.__ne__" = true := by decide +kernel
theorem ifBoundB {M : Model} {id : String} {name : Str} {args : List Value} {Q : Option Value → Shared → Prop} (X : K.In s.heap) (I : PySem.W.InstAt s.heap x ox C od) (hs : PySem.W.findIn K (.ref C) name = some (some (.builtin id))) (hb : ∀ self, bindSpecial (.builtin id) self = pure (.builtin id, [self]))
    (h : wpAny M A (call (.builtin id) (.ref x :: args)) (fun v => Q (some v)) E s) : wpAny M A (callSpecialIfBound? (.ref x) name args) Q E s := by
  simp only [callSpecialIfBound?, bindSpecialIfBound?]
  refine wpAny_holding (wpAny_bind (wpAny_bind (wpAny_bind (I.type.here ((PySem.W.looks_findIn X hs).here ?_)))))
  simp only [hb]
  refine wpAny_bind (wpAny_askSetting (wpAny_ite ?_))
  have fin : wpAny M A (call (.builtin id) ([.ref x] ++ args) >>= fun v => pure (some v)) Q E s := wpAny_bind (wpAny_mono h (fun v s' h' => wpAny_pure h') fun _ _ h' => h')
  split
  · exact wpAny_bind (wpAny_pure (wpAny_pure fin))
  · exact wpAny_tryCatch (wpAny_bind (wpAny_pure (wpAny_pure fin)))
theorem ne_entry {Q : Fin → Shared → Prop} (hu : A.units < cLine) (X : K.In s.heap) (I : PySem.W.InstAt s.heap x ox C od) (hs : PySem.W.findIn K (.ref C) "__eq__" = some (some (.ref f))) (hf : PySem.W.isFn K (.ref f) = true)
    (hcall : wpAny (model prog w) A (call (.ref f) [.ref x, .ref y]) (fun v s' => ∃ b, v = .bool b ∧ Q (.done (.ret (.bool (!b)))) s') E s) : wpAny (model prog w) A (Builtin.«object.__ne__» ⟨[.ref x, .ref y], []⟩) Q E s := by
  unfold Builtin.«object.__ne__»
  repeat (first
    | with_reducible refine wpAny_cRoomFor hu ?_
    | (refine wpAny_bind (m := callSpecialIfBound? (.ref x) (Str.ofString "__eq__") [.ref y])
        (PySem.W.ifBound_K X I hs hf (wpAny_mono hcall (fun r s' hr => by
          obtain ⟨b, rfl, hq⟩ := hr
          repeat (first | exact hq | exact wpAny_pure hq | exact wpAny_truthy_bool hq | (refine wpAny_bind (m := truthy (.bool _)) (wpAny_truthy_bool ?_)) | wp_step)) fun _ _ e => e)))
    | wp_step)
theorem ne_own {Q : Value → Shared → Prop} (hu : A.units + 1 < cLine) (X : K.In s.heap) (I : PySem.W.InstAt s.heap x ox C od) (hy : PySem.W.Looks (model prog w) s.heap (typeOf (.ref y)) (.ref C)) (hob : PySem.W.mroIn K C (.type "object") = some true) (hn : PySem.W.findIn K (.ref C) "__ne__" = some (some (.builtin "object.__ne__")))
    (hs : PySem.W.findIn K (.ref C) "__eq__" = some (some (.ref f))) (hf : PySem.W.isFn K (.ref f) = true)
    (hcall : wpAny (model prog w) A.in1 (call (.ref f) [.ref x, .ref y]) (fun v s' => ∃ b, v = .bool b ∧ Q (.bool (!b)) s') E s) : wpAny (model prog w) A (richCompare .NotEq (.ref x) (.ref y)) Q E s := by
  unfold richCompare
  simp only [oneThing_ref]
  refine wpAny_holding (wpAny_bind (wpAny_cRoomFor (Nat.lt_of_succ_lt hu) ?_))
  rw [cmpInfo_NotEq]
  dsimp only
  refine wpAny_bind (I.type.here (wpAny_bind (hy.here ?_)))
  rw [show (Value.ref C != Value.ref C) = false from by simp]
  simp only [Bool.false_eq_true, if_false]
  refine wpAny_bind (wpAny_pure ?_)
  simp only [Bool.false_eq_true, if_false]
  have one : wpAny (model prog w) A (tryCompare (.ref x) "__ne__" (.ref y)) (fun r s' => ∃ b, r = some (.bool b) ∧ Q (.bool b) s') E s := by
    simp only [tryCompare]
    have isi : PySem.W.Looks (model prog w) s.heap (isInstance (.ref x) (.type "object")) true := (I.type).andThen (PySem.W.looks_mroIn X hob)
    refine wpAny_bind (ifBoundB X I hn ne_bind (wpAny_call (codeAny_call_builtin ne_plain F.cmpEntry_ne (PySem.W.check_slot F.cmpKind_ne F.cmpSplit_ne isi (F.cmpArgs_ne _ _) ?_))))
    refine ne_entry (A := A.in1) hu X I hs hf (wpAny_mono hcall (fun v s' hv => ?_) fun _ _ e => e)
    obtain ⟨b, rfl, hq⟩ := hv
    first | exact ⟨b, rfl, wpAny_pure ⟨_, rfl, hq⟩⟩ | exact ⟨b, rfl, wpAny_pure (wpAny_pure ⟨_, rfl, hq⟩)⟩
  refine wpAny_bind (wpAny_mono one (fun r s' z => ?_) fun _ _ e => e)
  obtain ⟨b, rfl, hq⟩ := z
  exact wpAny_pure hq
end
section
variable {X : Cx} {CX : CXT} {C g : Addr} {k : Nat} {fd : FuncData} {ps : List Str} {sp : Sp} {E : XK}
def rOwnNe (C : Addr) (sp : Sp) (E : XK) : R2 := fun x y H Q => IsC H C x ∧ IsC H C y ∧ sp [x, y] H (fun v H' => ∃ b, v = .bl b ∧ Q (.bl (!b)) H') E
/-- what != asks of the class -/
structure NeC (K : PySem.W.Frag) (C : Addr) : Prop where
  ob : PySem.W.mroIn K C (.type "object") = some true
  ne : PySem.W.findIn K (.ref C) "__ne__" = some (some (.builtin "object.__ne__"))
theorem op_ne2 (n : NeC X.K C) (o : Own X.K C "__eq__" g) (F : FnOk X.prog X.w X.K X.mg X.base CX k g fd ps sp) (hr : Room (k + 1) X.A) (hb : Binds X.K fd ps []) (hx : Passes CX X E) : OpR X (compareOp .NotEq) (rOwnNe C sp E) := by
  intro pins s σ H x y v u Q I rx ry h
  obtain ⟨⟨a, dx, fs, rfl, ha⟩, ⟨b, dy, gs, rfl, hb'⟩, hsp⟩ := h
  cases rx
  cases ry
  obtain ⟨ox, od, J, _⟩ := inst_at I ha
  obtain ⟨oy, oe, J', _⟩ := inst_at I hb'
  have hu : X.A.units + 1 < cLine := Nat.lt_of_le_of_lt (Nat.add_le_add_left (by decide : 1 ≤ 64) _) hr.units
  refine ne_own hu I.kIn J J'.type n.ob n.ne o.at_ o.fn (wpAny_mono (run1in F hr hb hx I (vr2 a b) hsp) (fun v s' z => ?_) fun _ _ z => z)
  obtain ⟨w, H', I', rw', k', e, q⟩ := z
  subst e
  cases rw'
  exact ⟨k', rfl, .bl (!k'), H', I', rfl, q⟩
end
/-! ### C.m(..), m a static method -/
structure SMet (K : PySem.W.Frag) (C : Addr) (mc : Value) (m : Str) (p g : Addr) : Prop where
  at_ : PySem.W.findCls K (.ref C) mc m = some (.get (.builtin "staticmethod.__get__") (.ref p) .none (.ref C))
  rc : ∃ rest, PySem.W.recIn K p "staticmethod" = some (.ref g :: rest)
  kp : PySem.W.keepIn K (.ref g) = true
def tSMeth (C : Addr) (sp : Sp) (E : XK) (ta : TE) (t : TA) : TE := fun σ H Q => ta σ H fun x H1 => x = .ref C ∧ t σ H1 fun vs H2 => sp vs H2 Q E
section
variable {X : Cx} {CX : CXT} {k : Nat} {C p g : Addr} {mc : Value} {fd : FuncData} {ps : List Str} {sp : Sp} {E : XK} {o e : Expr} {es : List Expr} {m : Str} {pos apos : Pos} {ta : TE} {t : TA} {pl : Sem Bool}
theorem getsm {pins : List (Addr × Obj)} {σ : L2.St} {H : Hp} {s : Shared} {Q : Value × List Value → Shared → Prop} {E' : Value → Shared → Prop} {A : Around} (I : Inv X pins σ H s) (r : ClX.CRead X.K C mc) (c : SMet X.K C mc m p g)
    (h : ∀ s', Inv X pins σ H s' → Q (.ref g, []) s') : wpAny (model X.prog X.w) A (getMethod (.ref C) m pl) Q E' s := by
  obtain ⟨rest, hp⟩ := c.rc
  refine PySem.W.method_cls I.kIn r.ga ?_
  refine PySem.W.cls_bind I.kIn r.rd c.at_ ?_
  exact wpAny_call (PySem.W.sm_get (s := { s with toks := s.toks + 1 }) I.kIn hp (PySem.W.handed_on rfl (h _ (I.tok _))))
theorem pe_smeth (he : PE X o ta) (r : ClX.CRead X.K C mc) (c : SMet X.K C mc m p g) (F : FnOk X.prog X.w X.K X.mg X.base CX k g fd ps sp) (hr : Room k X.A) (hb : Binds X.K fd ps []) (hx : Passes CX X E) (ha : PA X (e :: es) t)
    (hst : starEach (e :: es) X.env = (false, eval e X.env) :: starEach es X.env := by rfl) (hpl : (backTo pos (starEach es X.env)).any (·.1) = false := by rfl)
    (ht : eval (.Call (.Attribute o m apos) (e :: es) [] pos) X.env = (do
      let ov ← eval o X.env
      standAt apos.atName
      let (f, first) ← holding [ov] (getMethod ov m pl)
      callWith pos f first (backTo pos (starEach (e :: es) X.env)) (backToKw pos (keywordEach [] X.env))) := by rfl) :
    PE X (.Call (.Attribute o m apos) (e :: es) [] pos) (tSMeth C sp E ta t) := by
  refine ⟨fun pins s σ H Q I h => ?_⟩
  refine PySem.W.methodCall_KW (pl := pl) (thn (he.run pins s σ H _ I h) fun u s1 ⟨x, H1, I1, rx, ex, q⟩ => ?_) ht
  subst ex
  obtain rfl : u = Value.ref C := rx
  refine getsm I1 r c fun s2 I2 => ?_
  refine PySem.W.callWith_K (first := []) (h₀ := X.base) I.ok.mod.kin c.kp (thn (ha.run pos pins s2 σ H1 _ I2 q) fun us s3 ⟨vs, H2, I3, rv, q2⟩ => ⟨I3.kIn, ?_⟩) hst hpl
  exact run1 F hr hb hx I3 rv q2
end
/-! ### o(..) -/
structure CallC (K : PySem.W.Frag) (C g : Addr) : Prop where
  at_ : PySem.W.findIn K (.ref C) "__call__" = some (some (.ref g))
  fn : PySem.W.isFn K (.ref g) = true
  fi : PySem.W.fnIn K g = true
def tCallI (C : Addr) (sp : Sp) (E : XK) (tf : TE) (t : TA) : TE := fun σ H Q => tf σ H fun y H1 => ∃ a, y = .ref a ∧ t σ H1 fun vs H2 => IsC H2 C (.ref a) ∧ sp (.ref a :: vs) H2 Q E
section
variable {X : Cx} {CX : CXT} {k : Nat} {C g : Addr} {fd : FuncData} {ps : List Str} {sp : Sp} {E : XK} {fe e : Expr} {es : List Expr} {pos : Pos} {tf : TE} {t : TA}
theorem pe_callI (hf : PE X fe tf) (c : CallC X.K C g) (F : FnOk X.prog X.w X.K X.mg X.base CX k g fd ps sp) (hr : Room k X.A) (hb : Binds X.K fd ps []) (hx : Passes CX X E) (ha : PA X (e :: es) t)
    (ht : eval (.Call fe (e :: es) [] pos) X.env = (do callWith pos (← eval fe X.env) [] (backTo pos (starEach (e :: es) X.env)) (backToKw pos (keywordEach [] X.env))) := by rfl)
    (he : starEach (e :: es) X.env = (false, eval e X.env) :: starEach es X.env := by rfl) (hpl : (backTo pos (starEach es X.env)).any (·.1) = false := by rfl) : PE X (.Call fe (e :: es) [] pos) (tCallI C sp E tf t) := by
  refine ⟨fun pins s σ H Q I h => ?_⟩
  refine Call_ (thn (hf.run pins s σ H _ I h) fun u s1 ⟨y, H1, I1, ry, a, ey, q⟩ => ?_) ht
  subst ey
  obtain rfl : u = Value.ref a := ry
  refine StX.callO_with (thn (ha.run pos pins s1 σ H1 _ I1 q) fun us s2 ⟨vs, H2, I2, r, ⟨b, dx, fs, eb, hi⟩, q2⟩ => ?_) he hpl
  cases eb
  obtain ⟨ox, od, J, hd⟩ := inst_at I2 hi
  refine ⟨⟨C, ox, some od, J, hd⟩, ?_⟩
  have r2 : Vals (V.ref a :: vs) (Value.ref a :: us) := .cons rfl r
  have hl : ((Value.ref a :: us) ++ []).length = ps.length := by rw [List.append_nil, ← r2.length]; exact F.len _ _ _ _ q2
  have b := hb s2 (Value.ref a :: us) I2.kIn hl
  rw [List.append_nil] at b
  refine wpAny_call (PySem.W.kco_code I2.kIn J hd c.at_ c.fn c.fi (codeAny_mono (F.run X.A X.stack s2 H2 ⟨Value.ref a :: us, []⟩ (Value.ref a :: us) (V.ref a :: vs) Q E hr I2.env0 b r2 q2) fun r s' hq => ?_))
  cases r with
  | error e => exact hx pins σ H2 s2 e s' I2 hq
  | ok fl =>
    cases fl with
    | ret u => exact I2.after hq
    | next => exact False.elim hq
    | brk => exact False.elim hq
    | cont => exact False.elim hq
end
/-! ### repr(x), x an instance with an own __repr__ -/
def rReprO (C : Addr) (sp : Sp) (E : XK) : List V → Hp → VK → Prop := fun xs H Q => ∃ x, xs = [x] ∧ IsC H C x ∧ sp [x] H (fun v H' => ∃ z, v = .str z ∧ Q (.str z) H') E
section
variable {X : Cx} {CX : CXT} {C g : Addr} {k : Nat} {fd : FuncData} {ps : List Str} {sp : Sp} {E : XK}
theorem cr_reprO (o : Own X.K C "__repr__" g) (F : FnOk X.prog X.w X.K X.mg X.base CX k g fd ps sp) (hr : Room (k + 1) X.A) (hb : Binds X.K fd ps []) (hx : Passes CX X E) : CallR X (.builtin "repr") (rReprO C sp E) := by
  intro pins s σ H xs us Q I r h
  obtain ⟨x, rfl, ⟨a, dx, fs, rfl, ha⟩, hsp⟩ := h
  obtain ⟨u, rfl, ru⟩ := vals1 r
  cases ru
  obtain ⟨ox, od, J, _⟩ := inst_at I ha
  obtain ⟨m, hF⟩ := I.fr
  have hu : X.A.in1.units < cLine := Nat.lt_of_le_of_lt (Nat.add_le_add_left (by decide : 1 ≤ 64) _) hr.units
  refine PySem.W.repr_K hu hF I.ok.mod.kin J o.at_ o.fn (wpAny_mono (run1in F hr hb hx I (vr1 a) hsp) (fun v s' z => ?_) fun _ _ z => z)
  obtain ⟨w, H', I', rw', k', e, q⟩ := z
  subst e
  obtain ⟨t, rfl⟩ := rw'
  exact ⟨.str k', H', I', ⟨t, rfl⟩, q⟩
/-- two rules for one call -/
theorem CallR.or {f : Value} {r r' : List V → Hp → VK → Prop} (h : CallR X f r) (h' : CallR X f r') : CallR X f (fun xs H Q => r xs H Q ∨ r' xs H Q) := by
  intro pins s σ H xs us Q I rx q
  rcases q with q | q
  · exact h pins s σ H xs us Q I rx q
  · exact h' pins s σ H xs us Q I rx q
end
/-! ### isinstance(x, C) of an instance -/
structure TyC (K : PySem.W.Frag) (C : Addr) : Prop where
  ha : PySem.W.findIn K (.ref C) "__class__" = some (some (.builtin "object.__class__"))
  hn : PySem.W.specialIn K (.builtin "object.__class__") "__get__" = some (some (.builtin "getset_descriptor.__get__"))
  htk : PySem.W.takesIn K (.builtin "object.__class__") = some true
  hm : PySem.W.mroIn K C (.type "object") = some true
theorem kitSame {K : PySem.W.Frag} {C : Addr} : PySem.W.kitOne K (.ref C) (.ref C) = some true := by
  unfold PySem.W.kitOne
  rw [if_pos (beq_self_eq_true _)]
theorem tyOf {K : PySem.W.Frag} {H : Hp} {C a dx : Addr} {fs : List (Str × V)} (e : H a = some (.ins C dx fs)) (cl : Cls K C) (t : TyC K C) : TyX K H (.ref a) (.ref C) := .base (.ins e cl t.ha t.hn t.htk t.hm)
theorem isi_own {K : PySem.W.Frag} {H : Hp} {C a dx : Addr} {fs : List (Str × V)} {Q : VK} (e : H a = some (.ins C dx fs)) (cl : Cls K C) (t : TyC K C) (q : Q (.bl true) H) : rIsi K [.ref a, .ref C] H Q :=
  ⟨_, _, _, _, true, rfl, .own _, tyOf e cl t, kitSame, q⟩
end OW

set_option Elab.async false
set_option linter.all false
set_option maxRecDepth 100000
set_option maxHeartbeats 4000000
/-! TOx: o(..) and o.m(..) inside try; repr(x) of plain data or of an instance with an own repr. -/
namespace OW
open PySem PySem.Spec PyProof.Rows L2 TQ
def tCallIX (C : Addr) (sp : Sp) (W : WX) (tf : TE) (t : TA) : TE := fun σ H Q => tf σ H fun y H1 => ∃ a, y = .ref a ∧ t σ H1 fun vs H2 => IsC H2 C (.ref a) ∧ sp (.ref a :: vs) H2 Q fun cls d H3 => W cls d σ H3
def tMethX (C : Addr) (m : Str) (sp : Sp) (W : WX) (ta : TE) (t : TA) : TE := fun σ H Q => ta σ H fun x H1 => ∃ a dx fs, x = .ref a ∧ H1 a = some (.ins C dx fs) ∧ fs.lookup m = none ∧
  t σ H1 fun vs H2 => sp (x :: vs) H2 Q fun cls d H3 => W cls d σ H3
section
variable {X : Cx} {k : Nat} {C g f : Addr} {fd : FuncData} {ps : List Str} {sp : Sp} {W : WX} {fe e o : Expr} {es : List Expr} {pos apos : Pos} {ta tf : TE} {t : TA} {m : Str}
theorem pe_callIX (hf : PE X fe tf) (c : CallC X.K C g) (F : FnOk X.prog X.w X.K X.mg X.base (L2.CX X.prog X.w) k g fd ps sp) (tk : Takes X W) (hr : Room k X.A) (hb : Binds X.K fd ps []) (ha : PA X (e :: es) t)
    (ht : eval (.Call fe (e :: es) [] pos) X.env = (do callWith pos (← eval fe X.env) [] (backTo pos (starEach (e :: es) X.env)) (backToKw pos (keywordEach [] X.env))) := by rfl)
    (he : starEach (e :: es) X.env = (false, eval e X.env) :: starEach es X.env := by rfl) (hpl : (backTo pos (starEach es X.env)).any (·.1) = false := by rfl) : PE X (.Call fe (e :: es) [] pos) (tCallIX C sp W tf t) := by
  refine ⟨fun pins s σ H Q I h => ?_⟩
  refine Call_ (thn (hf.run pins s σ H _ I h) fun u s1 ⟨y, H1, I1, ry, a, ey, q⟩ => ?_) ht
  subst ey
  obtain rfl : u = Value.ref a := ry
  refine StX.callO_with (thn (ha.run pos pins s1 σ H1 _ I1 q) fun us s2 ⟨vs, H2, I2, r, ⟨b, dx, fs, eb, hi⟩, q2⟩ => ?_) he hpl
  cases eb
  obtain ⟨ox, od, J, hd⟩ := inst_at I2 hi
  refine ⟨⟨C, ox, some od, J, hd⟩, ?_⟩
  have r2 : Vals (V.ref a :: vs) (Value.ref a :: us) := .cons rfl r
  have hl : ((Value.ref a :: us) ++ []).length = ps.length := by rw [List.append_nil, ← r2.length]; exact F.len _ _ _ _ q2
  have b := hb s2 (Value.ref a :: us) I2.kIn hl
  rw [List.append_nil] at b
  refine wpAny_call (PySem.W.kco_code I2.kIn J hd c.at_ c.fn c.fi (codeAny_mono (F.run X.A X.stack s2 H2 ⟨Value.ref a :: us, []⟩ (Value.ref a :: us) (V.ref a :: vs) Q _ hr I2.env0 b r2 q2) fun r s' hq => ?_))
  cases r with
  | error e => exact tk e s' (XE.of_call I2 (fun cls d H' w => w) hq)
  | ok fl =>
    cases fl with
    | ret u => exact I2.after hq
    | next => exact False.elim hq
    | brk => exact False.elim hq
    | cont => exact False.elim hq
theorem pe_methX {pl : Sem Bool} (he : PE X o ta) (c : Cls X.K C) (hm : Meth X.K C m f) (F : FnOk X.prog X.w X.K X.mg X.base (L2.CX X.prog X.w) k f fd ps sp) (tk : Takes X W) (hr : Room k X.A) (hb : Binds X.K fd ps []) (ha : PA X (e :: es) t)
    (hst : starEach (e :: es) X.env = (false, eval e X.env) :: starEach es X.env := by rfl) (hpl : (backTo pos (starEach es X.env)).any (·.1) = false := by rfl)
    (ht : eval (.Call (.Attribute o m apos) (e :: es) [] pos) X.env = (do
      let ov ← eval o X.env
      standAt apos.atName
      let (f, first) ← holding [ov] (getMethod ov m pl)
      callWith pos f first (backTo pos (starEach (e :: es) X.env)) (backToKw pos (keywordEach [] X.env))) := by rfl) :
    PE X (.Call (.Attribute o m apos) (e :: es) [] pos) (tMethX C m sp W ta t) := by
  refine ⟨fun pins s σ H Q I h => ?_⟩
  refine PySem.W.methodCall_KW (pl := pl) (thn (he.run pins s σ H _ I h) fun u s1 ⟨x, H1, I1, rx, a, dx, fs, ex, ea, l, q⟩ => ?_) ht
  subst ex
  obtain rfl : u = Value.ref a := rx
  refine getmeth_ok I1 ea c hm l ?_
  refine PySem.W.callWith_K (first := [.ref a]) (h₀ := X.base) I.ok.mod.kin hm.kp (thn (ha.run pos pins s1 σ H1 _ I1 q) fun us s2 ⟨vs, H2, I2, r, q2⟩ => ⟨I2.kIn, ?_⟩) hst hpl
  exact run_fnX (ds := []) (dvs := []) (us := .ref a :: us) (vs := .ref a :: vs) F tk hr hb .nil I2 (.cons rfl r) (by rw [List.append_nil]; exact q2)
end
def rReprA (C : Addr) (sp : Sp) (E : XK) : List V → Hp → VK → Prop := fun xs H Q => rReprV xs H Q ∨ rReprO C sp E xs H Q
theorem cr_reprA {X : Cx} {CX : CXT} {C g : Addr} {k : Nat} {fd : FuncData} {ps : List Str} {sp : Sp} {E : XK} (hg : X.A.guards = some []) (hu : X.A.units + 64 < cLine) (o : Own X.K C "__repr__" g) (F : FnOk X.prog X.w X.K X.mg X.base CX k g fd ps sp) (hr : Room (k + 1) X.A) (hb : Binds X.K fd ps []) (hx : Passes CX X E) : CallR X (.builtin "repr") (rReprA C sp E) :=
  (cr_reprV hg hu).or (cr_reprO o F hr hb hx)
theorem kit_ref {K : PySem.W.Frag} {C : Addr} {T : String} {l : List Value} (h1 : PySem.W.selfFirst K C = true) (h2 : PySem.W.typeIn K (.ref C) = some (.type "type")) (hl : fastBuiltinMro T = some l) (hc : l.contains (Value.ref C) = false) : PySem.W.kitOne K (.type T) (.ref C) = some false := by
  have hs : (PySem.W.clsIn K C).isSome = true := by
    unfold PySem.W.selfFirst at h1
    cases e : PySem.W.clsIn K C with
    | none => rw [e] at h1; cases h1
    | some _ => rfl
  unfold PySem.W.kitOne
  rw [if_neg (by intro z; cases (beq_iff_eq.mp z))]
  show (if ((PySem.W.clsIn K C).isSome && PySem.W.typeIn K (.ref C) == some (.type "type")) = true then PySem.W.subIn K (.type T) (.ref C) else none) = _
  rw [if_pos (by rw [hs, h2]; simp)]
  show (fastBuiltinMro T).map (·.contains (Value.ref C)) = _
  rw [hl]
  show some (l.contains (Value.ref C)) = _
  rw [hc]
theorem kit_mro {K : PySem.W.Frag} {C : Addr} {T : String} (hm : PySem.W.kitMeta T = true) (h : PySem.W.mroIn K C (.type T) = some false) : PySem.W.kitOne K (.ref C) (.type T) = some false := by
  unfold PySem.W.kitOne
  rw [if_neg (by intro z; cases (beq_iff_eq.mp z))]
  show (if PySem.W.kitMeta T = true then PySem.W.subIn K (.ref C) (.type T) else none) = _
  rw [if_pos hm]
  exact h
end OW

set_option Elab.async false
set_option linter.all false
set_option maxRecDepth 100000
set_option maxHeartbeats 4000000
/-! TOy: an instance compared with any other value, the instance first. -/
namespace OW
open PySem PySem.Spec PyProof.Rows L2
def rOwnA (K : PySem.W.Frag) (C : Addr) (sp : Sp) (E : XK) : R2 := fun x y H Q => IsC H C x ∧ (∃ t, TyX K H y t ∧ PySem.W.notFirst K C t = true) ∧ sp [x, y] H Q E
section
variable {X : Cx} {CX : CXT} {C g : Addr} {k : Nat} {fd : FuncData} {ps : List Str} {sp : Sp} {E : XK}
theorem op_cmpA {op : CmpOp} (hu : X.A.units < cLine) (o : Own X.K C (cmpInfo op).2.1 g) (F : FnOk X.prog X.w X.K X.mg X.base CX k g fd ps sp) (hr : Room k X.A) (hb : Binds X.K fd ps []) (hx : Passes CX X E) : OpR X (richCompare op) (rOwnA X.K C sp E) := by
  intro pins s σ H x y v u Q I rx ry h
  obtain ⟨⟨a, dx, fs, rfl, ha⟩, ⟨t, ty, nf⟩, hsp⟩ := h
  cases rx
  obtain ⟨ox, od, J, _⟩ := inst_at I ha
  obtain ⟨P, Z, p, _⟩ := kit_of I ry ty
  obtain ⟨m, hF⟩ := I.fr
  have r2 : Vals [V.ref a, y] [Value.ref a, u] := .cons rfl (.cons ry .nil)
  exact PySem.W.cmp_K (tb := t) hu hF I.ok.mod.kin J (Z.ty _ _ I.kIn p) nf o.at_ o.fn (wpAny_mono (run1 F hr hb hx I r2 hsp) (fun v s' z => back z) fun _ _ z => z)
theorem op_eqA (hu : X.A.units < cLine) (o : Own X.K C "__eq__" g) (F : FnOk X.prog X.w X.K X.mg X.base CX k g fd ps sp) (hr : Room k X.A) (hb : Binds X.K fd ps []) (hx : Passes CX X E) : OpR X (compareOp .Eq) (rOwnA X.K C sp E) := op_cmpA (op := .Eq) hu o F hr hb hx
/-- what stands first of two of one kind, and of an instance and a built-in value -/
theorem first_ty {K : PySem.W.Frag} {T : String} {l : List Value} (hl : fastBuiltinMro T = some l) (hc : l.contains (Value.ref C) = false) : PySem.W.notFirst K C (.type T) = true := by
  unfold PySem.W.notFirst
  have e : PySem.W.subIn K (.type T) (.ref C) = some false := by
    show (fastBuiltinMro T).map (·.contains (Value.ref C)) = _
    rw [hl]
    show some (l.contains (Value.ref C)) = _
    rw [hc]
  rw [e]
  simp
end
end OW

set_option Elab.async false
set_option linter.all false
set_option maxRecDepth 100000
set_option maxHeartbeats 4000000
/-! TOz: a built-in value compared with an instance behind it. -/
namespace OW
open PySem PySem.SeqAt AutoSeq1 MeetsSeq
theorem int_decl (b : Int) (u : Tok) (l : Addr) (c : Value) (dd : Option Addr) (sl : Array (Option Value)) :
    Meets (Builtin.«int.__eq__» ⟨[.int b u, .ref l], []⟩) (fun _ R s => s.heap.get? l = some { cls := c, dict := dd, data := .plain, slots := sl } ∧ R (.ok (.ret .notImplemented)) s) :=
  .of_wp fun prog w A R s h => by obtain ⟨hp, g, d, tk, os⟩ := s; obtain ⟨hl, h⟩ := h; wp_walk using wpAny_loadPart' hl, wpAny_load hl; exact ⟨_, rfl, h⟩
theorem bool_decl (b : Bool) (l : Addr) (c : Value) (dd : Option Addr) (sl : Array (Option Value)) :
    Meets (Builtin.«int.__eq__» ⟨[.bool b, .ref l], []⟩) (fun _ R s => s.heap.get? l = some { cls := c, dict := dd, data := .plain, slots := sl } ∧ R (.ok (.ret .notImplemented)) s) :=
  .of_wp fun prog w A R s h => by obtain ⟨hp, g, d, tk, os⟩ := s; obtain ⟨hl, h⟩ := h; wp_walk using wpAny_loadPart' hl, wpAny_load hl; exact ⟨_, rfl, h⟩
theorem str_decl (b : Str) (u : Tok) (l : Addr) (c : Value) (dd : Option Addr) (sl : Array (Option Value)) :
    Meets (Builtin.«str.__eq__» ⟨[.str b u, .ref l], []⟩) (fun _ R s => s.heap.get? l = some { cls := c, dict := dd, data := .plain, slots := sl } ∧ R (.ok (.ret .notImplemented)) s) :=
  .of_wp fun prog w A R s h => by obtain ⟨hp, g, d, tk, os⟩ := s; obtain ⟨hl, h⟩ := h; wp_walk using wpAny_loadPart' hl, wpAny_load hl; exact ⟨_, rfl, h⟩
theorem list_decl {prog : Program} {w : World} {A : Around} {E : Value → Shared → Prop} {s : Shared} {Q : Fin → Shared → Prop} {l x : Addr} (hi : PySem.W.Looks (model prog w) s.heap (isInstance (.ref x) (.type "list")) false) (h : Q (.done (.ret .notImplemented)) s) :
    wpAny (model prog w) A (Builtin.«list.__eq__» ⟨[.ref l, .ref x], []⟩) Q E s := by
  wp_walk using hi.here
  exact h
theorem tuple_decl {prog : Program} {w : World} {A : Around} {E : Value → Shared → Prop} {s : Shared} {Q : Fin → Shared → Prop} {l x : Addr} (hi : PySem.W.Looks (model prog w) s.heap (isInstance (.ref x) (.type "tuple")) false) (h : Q (.done (.ret .notImplemented)) s) :
    wpAny (model prog w) A (Builtin.«tuple.__eq__» ⟨[.ref l, .ref x], []⟩) Q E s := by
  wp_walk using hi.here
  exact h
theorem dict_decl {prog : Program} {w : World} {A : Around} {E : Value → Shared → Prop} {s : Shared} {Q : Fin → Shared → Prop} {l x : Addr} (hi : PySem.W.Looks (model prog w) s.heap (isInstance (.ref x) (.type "dict")) false) (h : Q (.done (.ret .notImplemented)) s) :
    wpAny (model prog w) A (Builtin.«dict.__eq__» ⟨[.ref l, .ref x], []⟩) Q E s := by
  wp_walk using hi.here
  exact h
section
variable {prog : Program} {w : World} {A : Around} {E : Value → Shared → Prop} {s : Shared} {K : PySem.W.Frag} {x C f : Addr} {ox : Obj} {od : Option Obj}
theorem rc_decl {b : Value} {Tb id : String} {Q : Value → Shared → Prop} (hu : A.units < cLine) (hT : s.TypeIs b Tb) (X : K.In s.heap) (I : PySem.W.InstAt s.heap x ox C od) (sub : PySem.W.mroIn K C (.type Tb) = some false)
    (slot : Slot Tb (cmpInfo .Eq).2.1 id) (hc : ∀ Q' : Value → Shared → Prop, Q' .notImplemented s → wpAny (model prog w) A (call (.builtin id) [b, .ref x]) Q' E s)
    (hs : PySem.W.findIn K (.ref C) "__eq__" = some (some (.ref f))) (hf : PySem.W.isFn K (.ref f) = true)
    (h : wpAny (model prog w) A (call (.ref f) [.ref x, b]) (PySem.W.CmpBack Q) E s) : wpAny (model prog w) A (richCompare .Eq b (.ref x)) Q E s := by
  have one : wpAny (model prog w) A (tryCompare (.ref x) (cmpInfo .Eq).2.2 b) (fun r s' => ∃ v, r = some v ∧ Q v s') E s := by
    unfold tryCompare
    refine wpAny_bind (PySem.W.ifBound_K X I hs hf (wpAny_mono h (fun v s' hv => ?_) fun _ _ e => e))
    cases v <;> first | exact hv.elim | exact wpAny_pure ⟨_, rfl, hv⟩
  rcases hi : cmpInfo CmpOp.Eq with ⟨sym, g, r⟩
  rw [hi] at slot one
  simp only [richCompare, hi, hT.oneThing_none]
  try with_reducible refine wpAny_holding ?_
  refine wpAny_bind (wpAny_cRoomFor hu ?_)
  refine wpAny_bind (wpAny_typeOf hT (wpAny_bind (I.type.here ?_)))
  rw [show (Value.type Tb != Value.ref C) = true by simp]
  simp only [if_true]
  refine wpAny_bind ((PySem.W.looks_mroIn X sub).here ?_)
  simp only [Bool.false_eq_true, if_false, Bool.not_false, if_true]
  refine wpAny_bind (m := tryCompare b _ (.ref x)) (wpAny_tryCompare_declines hT slot (hc _ ⟨rfl, ?_⟩))
  refine wpAny_bind (m := tryCompare (.ref x) _ b) (wpAny_mono one (fun r s' z => ?_) fun _ _ e => e)
  obtain ⟨v, rfl, hq⟩ := z
  exact wpAny_pure hq
end
section
open PySem.Spec PyProof.Rows L2
/-- a plain value, told by its kind -/
inductive BasV (H : Hp) : V → String → Prop
  | non : BasV H .non "NoneType"
  | int (i : Int) : BasV H (.int i) "int"
  | bl (b : Bool) : BasV H (.bl b) "bool"
  | str (z : Str) : BasV H (.str z) "str"
  | tup {a : Addr} {xs : List V} : H a = some (.tup xs) → BasV H (.ref a) "tuple"
  | lst {a : Addr} {xs : List V} : H a = some (.lst xs) → BasV H (.ref a) "list"
  | dK {a : Addr} {kvs : List (Key × V)} : H a = some (.dK kvs) → BasV H (.ref a) "dict"
def rOwnB (K : PySem.W.Frag) (C : Addr) (sp : Sp) (E : XK) : R2 := fun x y H Q => IsC H C y ∧ (∃ T, BasV H x T ∧ PySem.W.mroIn K C (.type T) = some false) ∧ sp [y, x] H Q E
variable {X : Cx} {CX : CXT} {C g : Addr} {k : Nat} {fd : FuncData} {ps : List Str} {sp : Sp} {E : XK}
theorem op_eqB (hu : X.A.units < cLine) (o : Own X.K C "__eq__" g) (F : FnOk X.prog X.w X.K X.mg X.base CX k g fd ps sp) (hr : Room k X.A) (hb : Binds X.K fd ps []) (hx : Passes CX X E) : OpR X (compareOp .Eq) (rOwnB X.K C sp E) := by
  intro pins s σ H x y v u Q I rx ry h
  obtain ⟨⟨a, dx, fs, rfl, ha⟩, ⟨T, bt, sub⟩, hsp⟩ := h
  cases ry
  obtain ⟨ox, od, J, hd⟩ := inst_at I ha
  obtain ⟨cls, dd, data, sl⟩ := ox
  have hat := J.at_
  simp only at hd
  subst hd
  have r2 : Vals [V.ref a, x] [Value.ref a, v] := .cons rfl (.cons rx .nil)
  have hcall := wpAny_mono (run1 F hr hb hx I r2 hsp) (fun v s' z => back z) fun _ _ z => z
  have isi : ∀ T : String, PySem.W.mroIn X.K C (.type T) = some false → PySem.W.Looks (model X.prog X.w) s.heap (isInstance (.ref a) (.type T)) false := fun T e => (J.type).andThen (PySem.W.looks_mroIn I.kIn e)
  cases bt with
  | non =>
    cases rx
    exact rc_decl hu rfl I.kIn J sub PySem.F.slot_NoneType_eq (fun _ hq => call_gives PySem.F.slot_NoneType_eq rfl PySem.F.entry_NoneType_eq (PySem.F.args_NoneType_eq_2 _ _) (NoneType___eq___none_ref_0 a) hq) o.at_ o.fn hcall
  | int i =>
    obtain ⟨t, rfl⟩ := (show ∃ t, v = Value.int i t from rx)
    exact rc_decl hu (typeIs_int s i t) I.kIn J sub PySem.F.slot_int_eq (fun _ hq => call_meets PySem.F.slot_int_eq (typeIs_int s i t) PySem.F.entry_int_eq (PySem.F.args_int_eq_2 _ _) (int_decl i t a cls dd sl) ⟨hat, hq⟩) o.at_ o.fn hcall
  | bl b =>
    cases (show v = Value.bool b from rx)
    exact rc_decl hu rfl I.kIn J sub PySem.F.slot_bool_eq (fun _ hq => call_meets PySem.F.slot_bool_eq rfl PySem.F.entry_int_eq (PySem.F.args_int_eq_2 _ _) (bool_decl b a cls dd sl) ⟨hat, hq⟩) o.at_ o.fn hcall
  | str z =>
    obtain ⟨t, rfl⟩ := (show ∃ t, v = Value.str z t from rx)
    exact rc_decl hu (typeIs_str s z t) I.kIn J sub PySem.F.slot_str_eq (fun _ hq => call_meets PySem.F.slot_str_eq (typeIs_str s z t) PySem.F.entry_str_eq (PySem.F.args_str_eq_2 _ _) (str_decl z t a cls dd sl) ⟨hat, hq⟩) o.at_ o.fn hcall
  | tup hp =>
    rename_i p xs
    cases (show v = Value.ref p from rx)
    obtain ⟨its, _, tp, _⟩ := I.tuple (SqT.of (K := X.K) hp)
    obtain ⟨o1, g1, c1, _⟩ := tp
    exact rc_decl hu ⟨o1, g1, c1⟩ I.kIn J sub PySem.F.slot_tuple_eq (fun _ hq => wpAny_call (codeAny_call_builtin PySem.F.slot_tuple_eq.plain PySem.F.entry_tuple_eq (PySem.F.slot_tuple_eq.check _ _ _ _ _ _ _ _ ⟨o1, g1, c1⟩ (PySem.F.args_tuple_eq_2 _ _) (tuple_decl (isi _ sub) hq)))) o.at_ o.fn hcall
  | lst hp =>
    rename_i p xs
    cases (show v = Value.ref p from rx)
    obtain ⟨_, its, n, _, _, g1⟩ := I.lstM hp
    exact rc_decl hu ⟨_, g1, rfl⟩ I.kIn J sub PySem.F.slot_list_eq (fun _ hq => wpAny_call (codeAny_call_builtin PySem.F.slot_list_eq.plain PySem.F.entry_list_eq (PySem.F.slot_list_eq.check _ _ _ _ _ _ _ _ ⟨_, g1, rfl⟩ (PySem.F.args_list_eq_2 _ _) (list_decl (isi _ sub) hq)))) o.at_ o.fn hcall
  | dK hp =>
    rename_i p xs
    cases (show v = Value.ref p from rx)
    obtain ⟨_, _, vs, _, da⟩ := (show ObjOk X.prog X.w H s.heap p (.dK xs) from I.hok p _ hp)
    exact rc_decl hu da.typeIs I.kIn J sub PySem.F.slot_dict_eq (fun _ hq => wpAny_call (codeAny_call_builtin PySem.F.slot_dict_eq.plain PySem.F.entry_dict_eq (PySem.F.slot_dict_eq.check _ _ _ _ _ _ _ _ da.typeIs (PySem.F.args_dict_eq_2 _ _) (dict_decl (isi _ sub) hq)))) o.at_ o.fn hcall
end
section
variable {prog : Program} {w : World} {A : Around} {E : Value → Shared → Prop} {s : Shared} {K : PySem.W.Frag} {x C f : Addr} {ox : Obj} {od : Option Obj} {u tb : Value}
theorem ne_entryU {Q : Fin → Shared → Prop} (hu : A.units < cLine) (X : K.In s.heap) (I : PySem.W.InstAt s.heap x ox C od) (hs : PySem.W.findIn K (.ref C) "__eq__" = some (some (.ref f))) (hf : PySem.W.isFn K (.ref f) = true)
    (hcall : wpAny (model prog w) A (call (.ref f) [.ref x, u]) (fun v s' => ∃ b, v = .bool b ∧ Q (.done (.ret (.bool (!b)))) s') E s) : wpAny (model prog w) A (Builtin.«object.__ne__» ⟨[.ref x, u], []⟩) Q E s := by
  unfold Builtin.«object.__ne__»
  repeat (first
    | with_reducible refine wpAny_cRoomFor hu ?_
    | (refine wpAny_bind (m := callSpecialIfBound? (.ref x) (Str.ofString "__eq__") [u])
        (PySem.W.ifBound_K X I hs hf (wpAny_mono hcall (fun r s' hr => by
          obtain ⟨b, rfl, hq⟩ := hr
          repeat (first | exact hq | exact wpAny_pure hq | exact wpAny_truthy_bool hq | (refine wpAny_bind (m := truthy (.bool _)) (wpAny_truthy_bool ?_)) | wp_step)) fun _ _ e => e)))
    | wp_step)
theorem ne_ownU {Q : Value → Shared → Prop} (hu : A.units + 1 < cLine) (X : K.In s.heap) (I : PySem.W.InstAt s.heap x ox C od) (hy : PySem.W.Looks (model prog w) s.heap (typeOf u) tb) (hn0 : PySem.W.notFirst K C tb = true) (hob : PySem.W.mroIn K C (.type "object") = some true) (hn : PySem.W.findIn K (.ref C) "__ne__" = some (some (.builtin "object.__ne__")))
    (hs : PySem.W.findIn K (.ref C) "__eq__" = some (some (.ref f))) (hf : PySem.W.isFn K (.ref f) = true)
    (hcall : wpAny (model prog w) A.in1 (call (.ref f) [.ref x, u]) (fun v s' => ∃ b, v = .bool b ∧ Q (.bool (!b)) s') E s) : wpAny (model prog w) A (richCompare .NotEq (.ref x) u) Q E s := by
  unfold richCompare
  simp only [oneThing_ref]
  refine wpAny_holding (wpAny_bind (wpAny_cRoomFor (Nat.lt_of_succ_lt hu) ?_))
  rw [cmpInfo_NotEq]
  dsimp only
  refine wpAny_bind (I.type.here (wpAny_bind (hy.here ?_)))
  have one : wpAny (model prog w) A (tryCompare (.ref x) "__ne__" u) (fun r s' => ∃ b, r = some (.bool b) ∧ Q (.bool b) s') E s := by
    simp only [tryCompare]
    have isi : PySem.W.Looks (model prog w) s.heap (isInstance (.ref x) (.type "object")) true := (I.type).andThen (PySem.W.looks_mroIn X hob)
    refine wpAny_bind (ifBoundB X I hn ne_bind (wpAny_call (codeAny_call_builtin ne_plain F.cmpEntry_ne (PySem.W.check_slot F.cmpKind_ne F.cmpSplit_ne isi (F.cmpArgs_ne _ _) ?_))))
    refine ne_entryU (A := A.in1) hu X I hs hf (wpAny_mono hcall (fun v s' hv => ?_) fun _ _ e => e)
    obtain ⟨b, rfl, hq⟩ := hv
    exact ⟨b, rfl, wpAny_pure ⟨_, rfl, hq⟩⟩
  split
  · rename_i q
    have e : PySem.W.subIn K tb (.ref C) = some false := by
      rcases Bool.or_eq_true_iff.mp hn0 with e | e
      · rw [beq_iff_eq.mp e] at q; simp at q
      · exact beq_iff_eq.mp e
    refine wpAny_bind ((PySem.W.looks_subIn X e).here ?_)
    simp only [Bool.false_eq_true, if_false]
    refine wpAny_bind (wpAny_mono one (fun r s' z => ?_) fun _ _ e => e)
    obtain ⟨v, rfl, hq⟩ := z
    exact wpAny_pure hq
  · refine wpAny_bind (wpAny_pure ?_)
    simp only [Bool.false_eq_true, if_false]
    refine wpAny_bind (wpAny_mono one (fun r s' z => ?_) fun _ _ e => e)
    obtain ⟨v, rfl, hq⟩ := z
    exact wpAny_pure hq
end
section
open PySem.Spec PyProof.Rows L2
variable {X : Cx} {CX : CXT} {C g : Addr} {k : Nat} {fd : FuncData} {ps : List Str} {sp : Sp} {E : XK}
/-- x != y, y no instance -/
def rOwnNeA (K : PySem.W.Frag) (C : Addr) (sp : Sp) (E : XK) : R2 := fun x y H Q => IsC H C x ∧ (∃ t, TyX K H y t ∧ PySem.W.notFirst K C t = true) ∧ sp [x, y] H (fun v H' => ∃ b, v = .bl b ∧ Q (.bl (!b)) H') E
theorem op_neA (n : NeC X.K C) (o : Own X.K C "__eq__" g) (F : FnOk X.prog X.w X.K X.mg X.base CX k g fd ps sp) (hr : Room (k + 1) X.A) (hb : Binds X.K fd ps []) (hx : Passes CX X E) : OpR X (compareOp .NotEq) (rOwnNeA X.K C sp E) := by
  intro pins s σ H x y v u Q I rx ry h
  obtain ⟨⟨a, dx, fs, rfl, ha⟩, ⟨t, ty, nf⟩, hsp⟩ := h
  cases rx
  obtain ⟨ox, od, J, _⟩ := inst_at I ha
  obtain ⟨P, Z, p, _⟩ := kit_of I ry ty
  have hu : X.A.units + 1 < cLine := Nat.lt_of_le_of_lt (Nat.add_le_add_left (by decide : 1 ≤ 64) _) hr.units
  have r2 : Vals [V.ref a, y] [Value.ref a, u] := .cons rfl (.cons ry .nil)
  refine ne_ownU hu I.kIn J (Z.ty _ _ I.kIn p) nf n.ob n.ne o.at_ o.fn (wpAny_mono (run1in F hr hb hx I r2 hsp) (fun v s' z => ?_) fun _ _ z => z)
  obtain ⟨w, H', I', rw', k', e, q⟩ := z
  subst e
  cases rw'
  exact ⟨k', rfl, .bl (!k'), H', I', rfl, q⟩
/-- p: for each parameter behind the first one the place of its keyword -/
theorem kbn1 {K : PySem.W.Frag} {x qual : Str} {st : Stmt} {f : Addr} {fd : FuncData} {ps : List Str} (F : Fun K x qual st f fd) (ks : List Str) (p : List Nat)
    (h : ∀ (kV doc pm : Value) (an : Option Addr) (cdv ct : Value) (u : Value) (ws : List Value), ws.length = ks.length → bindArgs (PySem.W.fnOf x qual (defArgs st) (defBody st) (defScope st) .none kV doc pm an cdv ct) ⟨[u], ks.zip ws⟩ = pure (ps.zip (u :: p.map fun i => ws.getD i .none))) :
    KBn K fd ps 1 ks (fun us ws => us ++ p.map fun i => ws.getD i .none) (fun vs zs => vs ++ p.map fun i => zs.getD i .non) := by
  obtain ⟨oc, od, kV, doc, pm, an, cdv, ct, osl, rfl, lk, hcd⟩ := F.ex
  refine ⟨fun s us ws _ l1 l2 => ?_, fun r1 r => ?_⟩
  · obtain ⟨u, rfl⟩ := List.length_eq_one_iff.mp l1
    exact .of_eq (h kV doc pm an cdv ct u ws l2)
  · exact r1.append (TB.vals_perm r p)
/-- C.m(k = v, ..), m a static method -/
def tSMethK (C : Addr) (m : Nat) (sp : Sp) (gV : List V → List V → List V) (E : XK) (ta : TE) (tk : TA) : TE := fun σ H Q => ta σ H fun x H1 => x = .ref C ∧ tk σ H1 fun zs H2 => zs.length = m ∧ sp (gV [] zs) H2 Q E
theorem pe_smethK0 {p : Addr} {mc : Value} {ks : List Str} {o : Expr} {kws : List Keyword} {m : Str} {pos apos : Pos} {ta : TE} {tk : TA} {pl : Sem Bool} {gL : List Value → List Value → List Value} {gV : List V → List V → List V} (he : PE X o ta) (r : ClX.CRead X.K C mc) (c : SMet X.K C mc m p g)
    (F : FnOk X.prog X.w X.K X.mg X.base CX k g fd ps sp) (hr : Room k X.A) (hb : KBn X.K fd ps 0 ks gL gV) (hx : Passes CX X E) (hkw : PK X kws tk)
    (hall : (backToKw pos (keywordEach kws X.env)).all (·.1.isSome) = true := by rfl) (hks : (backToKw pos (keywordEach kws X.env)).filterMap (·.1) = ks := by rfl)
    (hpl : ((backTo pos (starEach [] X.env)).any (·.1) || (backToKw pos (keywordEach kws X.env)).any (·.1.isNone)) = false := by rfl)
    (ht : eval (.Call (.Attribute o m apos) [] kws pos) X.env = (do
      let ov ← eval o X.env
      standAt apos.atName
      let (f, first) ← holding [ov] (getMethod ov m pl)
      callWith pos f first (backTo pos (starEach [] X.env)) (backToKw pos (keywordEach kws X.env))) := by rfl) :
    PE X (.Call (.Attribute o m apos) [] kws pos) (tSMethK C ks.length sp gV E ta tk) := by
  refine ⟨fun pins s σ H Q I h => ?_⟩
  refine PySem.W.methodCall_KW (pl := pl) (thn (he.run pins s σ H _ I h) fun u s1 ⟨x, H1, I1, rx, ex, q⟩ => ?_) ht
  subst ex
  obtain rfl : u = Value.ref C := rx
  refine getsm I1 r c fun s2 I2 => ?_
  refine PySem.W.callWith_KW0 (first := []) (h₀ := X.base) I.ok.mod.kin c.kp hall ?_ hpl
  refine thn (hkw.run pos pins s2 σ H1 _ I2 q) fun ws s3 ⟨zs, H2, I3, rz, l2, q2⟩ => ⟨I3.kIn, ?_⟩
  rw [hks]
  exact run_fnN (us := []) (vs := []) F hr hb hx I3 .nil rz rfl l2 q2
end
/-! ### C(..) and C.m(..) inside try -/
section
open PySem.Spec PyProof.Rows L2 TQ
def tMakeX (C : Addr) (sp : Sp) (W : WX) (t : TA) : TE := fun σ H Q => t σ H fun vs H1 => ∀ x dx, H1 x = none → H1 dx = none → dx ≠ x →
  sp (.ref x :: vs) (upd (upd H1 dx (.own x)) x (.ins C dx [])) (fun v H2 => v = .non ∧ Q (.ref x) H2) fun cls d H3 => W cls d σ H3
def tSMethX (C : Addr) (sp : Sp) (W : WX) (ta : TE) (t : TA) : TE := fun σ H Q => ta σ H fun x H1 => x = .ref C ∧ t σ H1 fun vs H2 => sp vs H2 Q fun cls d H3 => W cls d σ H3
variable {X : Cx} {k : Nat} {C f p g : Addr} {mc : Value} {fd : FuncData} {ps : List Str} {sp : Sp} {W : WX} {x m : Str} {o e : Expr} {es : List Expr} {xp pos apos : Pos} {ta : TE} {t : TA}
theorem run_makeX {pins : List (Addr × Obj)} {σ : L2.St} {H : Hp} {s : Shared} {Q : VK} {us : List Value} {vs : List V} (M : Mk X.K C f) (F : FnOk X.prog X.w X.K X.mg X.base (L2.CX X.prog X.w) k f fd ps sp) (tk : Takes X W) (hr : Room (k + 1) X.A) (hb : Binds X.K fd ps [])
    (I : Inv X pins σ H s) (r : Vals vs us)
    (h : ∀ x dx, H x = none → H dx = none → dx ≠ x → sp (.ref x :: vs) (upd (upd H dx (.own x)) x (.ins C dx [])) (fun v H2 => v = .non ∧ Q (.ref x) H2) fun cls d H3 => W cls d σ H3) :
    wpAny (model X.prog X.w) X.A (call (.ref C) us) (EP X pins σ Q) X.xe s := by
  have hq := h (s.heap.objs.size + 1) s.heap.objs.size (I.hok.fresh (Nat.le_succ _)) (I.hok.fresh (Nat.le_refl _)) (Nat.ne_of_lt (Nat.lt_succ_self _))
  have I2 := Inv.made (C := C) I
  have r2 : Vals (V.ref (s.heap.objs.size + 1) :: vs) (Value.ref (s.heap.objs.size + 1) :: us) := .cons rfl r
  have hl : (Value.ref (s.heap.objs.size + 1) :: us ++ []).length = ps.length := by
    have e := r2.length
    rw [F.len _ _ _ _ hq] at e
    rw [List.append_nil]
    exact e.symm
  have b := hb _ (Value.ref (s.heap.objs.size + 1) :: us) I2.kIn hl
  rw [List.append_nil] at b
  refine wpAny_call (make_map (f := f) I.kIn M.makes M.init (beq_iff_eq.mp M.fn) (codeAny_mono (F.run _ X.stack _ _ ⟨Value.ref (s.heap.objs.size + 1) :: us, []⟩ (Value.ref (s.heap.objs.size + 1) :: us) _ _ _ (hr.make C us [])
    (I2.env0.make C us []) b r2 hq) fun r s' hq' => ?_))
  cases r with
  | error e => exact tk e s' (XE.of_call I2 (fun cls d H' w => w) hq')
  | ok fl =>
    cases fl with
    | ret u =>
      obtain ⟨v, H', I3, rv, ev, q3⟩ := I2.after hq'
      subst ev
      exact ⟨rv, ⟨V.ref (s.heap.objs.size + 1), H', I3, rfl, q3⟩⟩
    | next => exact False.elim hq'
    | brk => exact False.elim hq'
    | cont => exact False.elim hq'
theorem pe_makeX (M : Mk X.K C f) (F : FnOk X.prog X.w X.K X.mg X.base (L2.CX X.prog X.w) k f fd ps sp) (tk : Takes X W) (hr : Room (k + 1) X.A) (hg : Gl X x) (hm : X.mg x = some (.ref C)) (hb : Binds X.K fd ps [])
    (ha : PA X (e :: es) t) (hdb : (x == ("__debug__" : Str)) = false := by decide) (he : starEach (e :: es) X.env = (false, eval e X.env) :: starEach es X.env := by rfl) (hpl : (backTo pos (starEach es X.env)).any (·.1) = false := by rfl) :
    PE X (.Call (.Name x xp) (e :: es) [] pos) (tMakeX C sp W t) := by
  refine ⟨fun pins s σ H Q I h => ?_⟩
  refine wpAny_Call_Name_kw (ld_glob I hg hm ?_ hdb)
  refine PySem.W.callWith_K (h₀ := X.base) I.ok.mod.kin M.kp (thn (ha.run pos pins s σ H _ I h) fun us s1 ⟨vs, H1, I1, r, q⟩ => ⟨I1.kIn, ?_⟩) he hpl
  exact run_makeX M F tk hr hb I1 r q
theorem pe_smethX {pl : Sem Bool} (he : PE X o ta) (r : ClX.CRead X.K C mc) (c : SMet X.K C mc m p g) (F : FnOk X.prog X.w X.K X.mg X.base (L2.CX X.prog X.w) k g fd ps sp) (tk : Takes X W) (hr : Room k X.A) (hb : Binds X.K fd ps []) (ha : PA X (e :: es) t)
    (hst : starEach (e :: es) X.env = (false, eval e X.env) :: starEach es X.env := by rfl) (hpl : (backTo pos (starEach es X.env)).any (·.1) = false := by rfl)
    (ht : eval (.Call (.Attribute o m apos) (e :: es) [] pos) X.env = (do
      let ov ← eval o X.env
      standAt apos.atName
      let (f, first) ← holding [ov] (getMethod ov m pl)
      callWith pos f first (backTo pos (starEach (e :: es) X.env)) (backToKw pos (keywordEach [] X.env))) := by rfl) :
    PE X (.Call (.Attribute o m apos) (e :: es) [] pos) (tSMethX C sp W ta t) := by
  refine ⟨fun pins s σ H Q I h => ?_⟩
  refine PySem.W.methodCall_KW (pl := pl) (thn (he.run pins s σ H _ I h) fun u s1 ⟨x, H1, I1, rx, ex, q⟩ => ?_) ht
  subst ex
  obtain rfl : u = Value.ref C := rx
  refine getsm I1 r c fun s2 I2 => ?_
  refine PySem.W.callWith_K (first := []) (h₀ := X.base) I.ok.mod.kin c.kp (thn (ha.run pos pins s2 σ H1 _ I2 q) fun us s3 ⟨vs, H2, I3, rv, q2⟩ => ⟨I3.kIn, ?_⟩) hst hpl
  exact run_fnX (ds := []) (dvs := []) F tk hr hb .nil I3 rv (by rw [List.append_nil]; exact q2)
end
end OW

set_option Elab.async false
set_option linter.all false
set_option maxRecDepth 100000
set_option maxHeartbeats 4000000
/-! TMk: o.m(k = v, ..), m a method. -/
namespace OW
open PySem PySem.SeqAt AutoSeq1 MeetsSeq L2
def tMethK (C : Addr) (m : Str) (n : Nat) (sp : Sp) (gV : List V → List V → List V) (E : XK) (ta : TE) (tk : TA) : TE := fun σ H Q => ta σ H fun x H1 => ∃ a dx fs, x = .ref a ∧ H1 a = some (.ins C dx fs) ∧ fs.lookup m = none ∧
  tk σ H1 fun zs H2 => zs.length = n ∧ sp (gV [x] zs) H2 Q E
section
variable {X : Cx} {CX : CXT} {C f : Addr} {k : Nat} {fd : FuncData} {ps : List Str} {sp : Sp} {E : XK}
theorem pe_methK0 {ks : List Str} {o : Expr} {kws : List Keyword} {m : Str} {pos apos : Pos} {ta : TE} {tk : TA} {pl : Sem Bool} {gL : List Value → List Value → List Value} {gV : List V → List V → List V} (he : PE X o ta) (c : Cls X.K C) (hm : Meth X.K C m f)
    (F : FnOk X.prog X.w X.K X.mg X.base CX k f fd ps sp) (hr : Room k X.A) (hb : KBn X.K fd ps 1 ks gL gV) (hx : Passes CX X E) (hkw : PK X kws tk)
    (hall : (backToKw pos (keywordEach kws X.env)).all (·.1.isSome) = true := by rfl) (hks : (backToKw pos (keywordEach kws X.env)).filterMap (·.1) = ks := by rfl)
    (hpl : ((backTo pos (starEach [] X.env)).any (·.1) || (backToKw pos (keywordEach kws X.env)).any (·.1.isNone)) = false := by rfl)
    (ht : eval (.Call (.Attribute o m apos) [] kws pos) X.env = (do
      let ov ← eval o X.env
      standAt apos.atName
      let (f, first) ← holding [ov] (getMethod ov m pl)
      callWith pos f first (backTo pos (starEach [] X.env)) (backToKw pos (keywordEach kws X.env))) := by rfl) :
    PE X (.Call (.Attribute o m apos) [] kws pos) (tMethK C m ks.length sp gV E ta tk) := by
  refine ⟨fun pins s σ H Q I h => ?_⟩
  refine PySem.W.methodCall_KW (pl := pl) (thn (he.run pins s σ H _ I h) fun u s1 ⟨x, H1, I1, rx, a, dx, fs, ex, ea, l, q⟩ => ?_) ht
  subst ex
  obtain rfl : u = Value.ref a := rx
  refine getmeth_ok I1 ea c hm l ?_
  refine PySem.W.callWith_KW0 (first := [.ref a]) (h₀ := X.base) I.ok.mod.kin hm.kp hall ?_ hpl
  refine thn (hkw.run pos pins s1 σ H1 _ I1 q) fun ws s3 ⟨zs, H2, I3, rz, l2, q2⟩ => ⟨I3.kIn, ?_⟩
  rw [hks]
  exact run_fnN (us := [.ref a]) (vs := [.ref a]) F hr hb hx I3 (.cons rfl .nil) rz rfl l2 q2
end
end OW

set_option linter.all false
/-! TP: pairs of leaves, and the widest move's trees, plainly. -/
namespace TT
open Tr
/-! ### growing twice -/
def growL : List Tr → List Tr → List Tr
  | [], _ => []
  | y :: ys, xs => y.grow (xs.take y.lvs) :: growL ys (xs.drop y.lvs)
theorem growL_len : ∀ ys xs : List Tr, (growL ys xs).length = ys.length
  | [], xs => rfl
  | y :: ys, xs => by simp [growL, growL_len ys]
theorem growL_app : ∀ (ys zs us vs : List Tr), us.length = (ys.map lvs).sum → growL (ys ++ zs) (us ++ vs) = growL ys us ++ growL zs vs
  | [], zs, us, vs, h => by
    have : us = [] := List.length_eq_zero_iff.mp (by simpa using h)
    subst this; rfl
  | y :: ys, zs, us, vs, h => by
    simp only [List.map_cons, List.sum_cons] at h
    simp only [List.cons_append, growL]
    rw [List.take_append_of_le_length (by omega), List.drop_append_of_le_length (by omega), growL_app ys zs _ vs (by rw [List.length_drop]; omega)]
theorem grow_grow : ∀ (t : Tr) (ys xs : List Tr), ys.length = t.lvs → xs.length = (ys.map lvs).sum → (t.grow ys).grow xs = t.grow (growL ys xs)
  | .leaf, ys, xs, h1, h2 => by
    obtain ⟨y, rfl⟩ := List.length_eq_one_iff.mp h1
    have h2 : xs.length = y.lvs := by simpa using h2
    rw [grow_leaf1]
    show _ = Tr.leaf.grow [y.grow (xs.take y.lvs)]
    rw [grow_leaf1, ← h2, List.take_length]
  | .node l r, ys, xs, h1, h2 => by
    obtain ⟨a, b, rfl, ha, hb⟩ := split_len h1
    rw [List.map_append, List.sum_append] at h2
    have e1 := lvs_grow ha
    have e2 := lvs_grow hb
    obtain ⟨u, v, rfl, hu, hv⟩ : ∃ u v, xs = u ++ v ∧ u.length = (a.map lvs).sum ∧ v.length = (b.map lvs).sum :=
      ⟨xs.take (a.map lvs).sum, xs.drop (a.map lvs).sum, (List.take_append_drop _ _).symm, by rw [List.length_take]; omega, by rw [List.length_drop]; omega⟩
    rw [grow_node l r a b ha hb, grow_node _ _ u v (by omega) (by omega), growL_app _ _ _ _ hu, grow_node l r _ _ (by rw [growL_len]; exact ha) (by rw [growL_len]; exact hb), grow_grow l a u ha hu, grow_grow r b v hb hv]
/-- the second pair grows into the first by one list -/
def Gr (A B C D : Tr) : Prop := ∃ xs, xs.length = C.lvs ∧ C.lvs = D.lvs ∧ A = C.grow xs ∧ B = D.grow xs
theorem Gr.refl {A B : Tr} (h : A.lvs = B.lvs) : Gr A B A B := ⟨List.replicate A.lvs .leaf, by simp, h, (grow_leaves A).symm, by rw [h, grow_leaves]⟩
theorem Gr.lvs {A B C D : Tr} (g : Gr A B C D) : A.lvs = B.lvs := by
  obtain ⟨xs, h1, h2, rfl, rfl⟩ := g
  rw [lvs_grow h1, lvs_grow (h1.trans h2)]
theorem Gr.trans {A B C D E F : Tr} (g : Gr A B C D) (h : Gr C D E F) : Gr A B E F := by
  obtain ⟨xs, h1, h2, rfl, rfl⟩ := g
  obtain ⟨ys, h3, h4, rfl, rfl⟩ := h
  rw [lvs_grow h3] at h1
  exact ⟨growL ys xs, by rw [growL_len, h3], h4, grow_grow _ _ _ h3 h1, grow_grow _ _ _ (h3.trans h4) h1⟩
theorem Gr.swap {A B C D : Tr} (g : Gr A B C D) : Gr B A D C := by
  obtain ⟨xs, h1, h2, e, f⟩ := g
  exact ⟨xs, h1.trans h2, h2.symm, f, e⟩
theorem Gr.size {A B C D : Tr} (g : Gr A B C D) : C.size ≤ A.size := by
  obtain ⟨xs, h1, h2, e, f⟩ := g
  rw [e]; exact hang_size_le (by rw [hang_grow h1]; rfl)
/-! ### two leaves side by side -/
theorem app_inj1 {p q : List Nat} {c d : Nat} (h : p ++ [c] = q ++ [d]) : p = q ∧ c = d := by
  have := List.append_inj' h rfl
  exact ⟨this.1, by simpa using this.2⟩
theorem lvA_ne (t : Tr) (a : List Nat) : t.lvA a ≠ [] := fun z => by
  have h1 := lvA_length t a
  have h2 := lvs_pos t
  rw [z] at h1
  simp at h1
  omega
theorem lvA_self : ∀ (t : Tr) (a : List Nat), a ∈ t.lvA a → t = .leaf
  | .leaf, a, _ => rfl
  | .node l r, a, h => by
    rcases List.mem_append.mp h with h | h
    · have := (lvA_pre l _ _ h).length_le
      simp at this; omega
    · have := (lvA_pre r _ _ h).length_le
      simp at this; omega
theorem pre_two {a p : List Nat} {c d : Nat} (h : a ++ [c] <+: p) (h' : a ++ [d] <+: p) : c = d := by
  obtain ⟨m, e⟩ := h
  obtain ⟨n, f⟩ := h'
  rw [← f, List.append_assoc, List.append_assoc] at e
  have := List.append_cancel_left e
  simpa using (List.cons.inj this).1
theorem pre_snoc {a p : List Nat} {c d : Nat} (h : a ++ [c] <+: p ++ [d]) : (p = a ∧ c = d) ∨ a ++ [c] <+: p := by
  rcases Nat.lt_or_ge p.length (a ++ [c]).length with l | l
  · have h1 := h.length_le
    simp only [List.length_append, List.length_singleton] at l h1
    have := h.eq_of_length (by simp only [List.length_append, List.length_singleton]; omega)
    obtain ⟨e, f⟩ := app_inj1 this
    exact .inl ⟨e.symm, f⟩
  · exact .inr ((List.prefix_append_right_inj []).mp (List.prefix_of_prefix_length_le h (List.prefix_append p [d]) l))
theorem collapse : ∀ (A : Tr) (a p : List Nat) (X Y : List (List Nat)), A.lvA a = X ++ ((p ++ [108]) :: (p ++ [114]) :: Y) →
    ∃ A' : Tr, A'.lvA a = X ++ p :: Y ∧ A = A'.grow (List.replicate X.length .leaf ++ cherry :: List.replicate Y.length .leaf)
  | .leaf, a, p, X, Y, h => by
    have := congrArg List.length h
    simp [lvA] at this
    omega
  | .node l r, a, p, X, Y, h => by
    have h : l.lvA (a ++ [108]) ++ r.lvA (a ++ [114]) = X ++ ((p ++ [108]) :: (p ++ [114]) :: Y) := h
    have hl := lvA_length l (a ++ [108])
    have hr := lvA_length r (a ++ [114])
    have right : ∀ X' : List (List Nat), X = l.lvA (a ++ [108]) ++ X' → r.lvA (a ++ [114]) = X' ++ ((p ++ [108]) :: (p ++ [114]) :: Y) → ∃ A' : Tr, A'.lvA a = X ++ p :: Y ∧ Tr.node l r = A'.grow (List.replicate X.length .leaf ++ cherry :: List.replicate Y.length .leaf) := fun X' e1 e2 => by
      obtain ⟨R, g1, g2⟩ := collapse r _ p X' Y e2
      have hR := lvA_length R (a ++ [114])
      rw [g1] at hR
      simp only [List.length_append, List.length_cons] at hR
      refine ⟨.node l R, by show l.lvA _ ++ R.lvA _ = _; rw [g1, e1, List.append_assoc], ?_⟩
      rw [e1, List.length_append, hl, ← List.replicate_append_replicate, List.append_assoc, grow_node l R _ _ (by simp) (by simp; omega), grow_leaves, ← g2]
    rcases List.append_eq_append_iff.mp h with ⟨X', e1, e2⟩ | ⟨bs, e1, e2⟩
    · exact right X' e1 e2
    · match bs, e1, e2 with
      | [], e1, e2 => exact right [] (by rw [e1, List.append_nil, List.append_nil]) e2.symm
      | [b], e1, e2 =>
        obtain ⟨rfl, e3⟩ : p ++ [108] = b ∧ (p ++ [114]) :: Y = r.lvA (a ++ [114]) := by simpa using e2
        have m1 : p ++ [108] ∈ l.lvA (a ++ [108]) := by rw [e1]; simp
        have m2 : p ++ [114] ∈ r.lvA (a ++ [114]) := by rw [← e3]; simp
        have pa : p = a := by
          rcases pre_snoc (lvA_pre l _ _ m1) with ⟨e, _⟩ | q1
          · exact e
          · rcases pre_snoc (lvA_pre r _ _ m2) with ⟨e, _⟩ | q2
            · exact e
            · exact absurd (pre_two q1 q2) (by decide)
        subst pa
        have le := lvA_self l _ m1
        have re := lvA_self r _ m2
        subst le
        subst re
        have hX : X = [] := by
          have := congrArg List.length e1
          simp [lvA] at this
          exact this
        have hY : Y = [] := by
          have := congrArg List.length e3
          simp [lvA] at this
          exact this
        subst hX
        subst hY
        exact ⟨.leaf, rfl, rfl⟩
      | b :: c :: bs, e1, e2 =>
        obtain ⟨rfl, rfl, e3⟩ : p ++ [108] = b ∧ p ++ [114] = c ∧ Y = bs ++ r.lvA (a ++ [114]) := by simpa using e2
        obtain ⟨L, g1, g2⟩ := collapse l _ p X bs e1
        have hL := lvA_length L (a ++ [108])
        rw [g1] at hL
        simp only [List.length_append, List.length_cons] at hL
        refine ⟨.node L r, by show L.lvA _ ++ r.lvA _ = _; rw [g1, e3]; simp, ?_⟩
        rw [e3, List.length_append, hr, ← List.replicate_append_replicate]
        rw [show List.replicate X.length Tr.leaf ++ cherry :: (List.replicate bs.length Tr.leaf ++ List.replicate r.lvs Tr.leaf) = (List.replicate X.length Tr.leaf ++ cherry :: List.replicate bs.length Tr.leaf) ++ List.replicate r.lvs Tr.leaf by simp]
        rw [grow_node L r _ _ (by simp; omega) (by simp), grow_leaves, ← g2]
/-! ### what `paired` finds -/
abbrev AP := List Nat × List Nat
/-- the left part beside, for a right one -/
def lb (a : List Nat) : Option (List Nat) := if a.getLast? = some 114 then some (a.dropLast ++ [108]) else none
theorem lb_snoc (p : List Nat) : lb (p ++ [114]) = some (p ++ [108]) := by unfold lb; simp
theorem lb_some {a b : List Nat} (h : lb a = some b) : ∃ p, a = p ++ [114] ∧ b = p ++ [108] ∧ a.dropLast = p := by
  unfold lb at h
  split at h
  · rename_i e
    obtain ⟨p, rfl⟩ := List.getLast?_eq_some_iff.mp e
    exact ⟨p, rfl, by simpa using h.symm, by simp⟩
  · cases h
/-- the last two pairs are beside one another in both trees -/
def Bes (q p : AP) : Prop := lb p.1 = some q.1 ∧ lb p.2 = some q.2
instance (q p : AP) : Decidable (Bes q p) := inferInstanceAs (Decidable (_ ∧ _))
def pushP : List AP → AP → List AP
  | [], p => [p]
  | q :: st, p => if Bes q p then pushP st (p.1.dropLast, p.2.dropLast) else p :: q :: st
/-- the pairs, found from left to right -/
def prdR (L : List AP) : List AP := L.foldl pushP []
def zipA (A B : Tr) : List AP := List.zip (A.lvA []) (B.lvA [])
def prd (A B : Tr) : List AP := (prdR (zipA A B)).reverse
/-- a list of the pairs of the leaves of two trees into which A and B grow -/
def Of (A B : Tr) (L : List AP) (C D : Tr) : Prop := L.map (·.1) = C.lvA [] ∧ L.map (·.2) = D.lvA [] ∧ Gr A B C D
theorem push_of {A B : Tr} : ∀ (st : List AP) (p : AP) (Y : List AP) {C D : Tr}, Of A B (st.reverse ++ p :: Y) C D → ∃ C' D', Of A B ((pushP st p).reverse ++ Y) C' D'
  | [], p, Y, C, D, h => ⟨C, D, h⟩
  | q :: st, p, Y, C, D, h => by
    unfold pushP
    split
    · rename_i hb
      obtain ⟨e1, e2, g⟩ := h
      obtain ⟨a, ha, hqa, da⟩ := lb_some hb.1
      obtain ⟨b, hb', hqb, db⟩ := lb_some hb.2
      simp only [List.reverse_cons, List.append_assoc, List.singleton_append, List.map_append, List.map_cons, ha, hqa] at e1
      simp only [List.reverse_cons, List.append_assoc, List.singleton_append, List.map_append, List.map_cons, hb', hqb] at e2
      obtain ⟨C', c1, c2⟩ := collapse C [] a _ _ e1.symm
      obtain ⟨D', d1, d2⟩ := collapse D [] b _ _ e2.symm
      have l1 := lvA_length C' []
      have l2 := lvA_length D' []
      rw [c1] at l1
      rw [d1] at l2
      simp only [List.length_append, List.length_cons, List.length_map, List.length_reverse] at l1 l2 c2 d2
      refine push_of st _ Y (C := C') (D := D') ⟨?_, ?_, g.trans ⟨_, ?_, by omega, c2, d2⟩⟩
      · rw [c1]; simp [da]
      · rw [d1]; simp [db]
      · simp; omega
    · exact ⟨C, D, by simpa using h⟩
theorem prdR_of {A B : Tr} : ∀ (Y st : List AP) {C D : Tr}, Of A B (st.reverse ++ Y) C D → ∃ C' D', Of A B ((Y.foldl pushP st).reverse) C' D'
  | [], st, C, D, h => ⟨C, D, by rw [List.append_nil] at h; exact h⟩
  | p :: Y, st, C, D, h => by
    obtain ⟨C', D', h'⟩ := push_of st p Y h
    exact prdR_of Y _ h'
theorem zipA_of {A B : Tr} (h : A.lvs = B.lvs) : Of A B (zipA A B) A B := by
  have h1 := lvA_length A []
  have h2 := lvA_length B []
  exact ⟨List.map_fst_zip (by omega), List.map_snd_zip (by omega), .refl h⟩
theorem prd_of {A B : Tr} (h : A.lvs = B.lvs) : ∃ C D, Of A B (prd A B) C D := prdR_of _ [] (zipA_of h)
/-! the same the other way about -/
def swp (p : AP) : AP := (p.2, p.1)
theorem push_swap : ∀ (st : List AP) (p : AP), pushP (st.map swp) (swp p) = (pushP st p).map swp
  | [], p => rfl
  | q :: st, p => by
    have e : Bes (swp q) (swp p) ↔ Bes q p := And.comm
    simp only [List.map_cons, pushP, e]
    split
    · exact push_swap st (p.1.dropLast, p.2.dropLast)
    · rfl
theorem prdR_swap : ∀ (Y st : List AP), (Y.map swp).foldl pushP (st.map swp) = (Y.foldl pushP st).map swp
  | [], st => rfl
  | p :: Y, st => by
    simp only [List.map_cons, List.foldl_cons, push_swap]
    exact prdR_swap Y _
theorem zip_swap : ∀ xs ys : List (List Nat), List.zip ys xs = (List.zip xs ys).map swp
  | [], ys => by cases ys <;> rfl
  | x :: xs, [] => rfl
  | x :: xs, y :: ys => by simp [zip_swap xs ys, swp]
theorem prd_swap (A B : Tr) : prd B A = (prd A B).map swp := by
  unfold prd prdR zipA
  rw [zip_swap]
  have := prdR_swap (List.zip (A.lvA []) (B.lvA [])) []
  rw [List.map_nil] at this
  rw [this, List.map_reverse]
/-! ### the tree of its leaves' addresses -/
theorem lvA_inj : ∀ (t s : Tr) (a : List Nat) , t.lvA a = s.lvA a → t = s
  | .leaf, s, a, h => by
    have : a ∈ s.lvA a := by rw [← h]; simp [lvA]
    exact (lvA_self s a this).symm
  | .node l r, .leaf, a, h => by
    have : a ∈ (Tr.node l r).lvA a := by rw [h]; simp [lvA]
    exact absurd (lvA_self _ a this) (by simp)
  | .node l r, .node l' r', a, h => by
    have h : l.lvA (a ++ [108]) ++ r.lvA (a ++ [114]) = l'.lvA (a ++ [108]) ++ r'.lvA (a ++ [114]) := h
    have key : ∀ {x y : List (List Nat)} {u v : List (List Nat)}, (∀ z ∈ x, a ++ [108] <+: z) → (∀ z ∈ y, a ++ [108] <+: z) → (∀ z ∈ u, a ++ [114] <+: z) → (∀ z ∈ v, a ++ [114] <+: z) → x ++ u = y ++ v → x = y ∧ u = v := by
      intro x
      induction x with
      | nil =>
        intro y u v hx hy hu hv e
        cases y with
        | nil => exact ⟨rfl, e⟩
        | cons z zs =>
          rw [List.nil_append] at e
          exact absurd (pre_two (hy z (List.mem_cons_self ..)) (hu z (by rw [e]; simp))) (by decide)
      | cons z zs ih =>
        intro y u v hx hy hu hv e
        cases y with
        | nil =>
          rw [List.nil_append] at e
          exact absurd (pre_two (hx z (List.mem_cons_self ..)) (hv z (by rw [← e]; simp))) (by decide)
        | cons w ws =>
          obtain ⟨rfl, e'⟩ := List.cons.inj e
          obtain ⟨rfl, e2⟩ := ih (fun q hq => hx q (List.mem_cons_of_mem _ hq)) (fun q hq => hy q (List.mem_cons_of_mem _ hq)) hu hv e'
          exact ⟨rfl, e2⟩
    obtain ⟨e1, e2⟩ := key (lvA_pre l _) (lvA_pre l' _) (lvA_pre r _) (lvA_pre r' _) h
    rw [lvA_inj l l' _ e1, lvA_inj r r' _ e2]
/-- what is written for a leaf -/
def lfT (a : List Nat) : List Nat := List.replicate (trail 108 a) 40 ++ 46 :: List.replicate (trail 114 a) 41
theorem lfT_all : ∀ (t : Tr) (a : List Nat), (t.lvA a).flatMap lfT = List.replicate (trail 108 a) 40 ++ t.cs ++ List.replicate (trail 114 a) 41
  | .leaf, a => by simp [lvA, lfT, cs]
  | .node l r, a => by
    simp only [lvA, List.flatMap_append, lfT_all l, lfT_all r, trail_same, trail_other (show (108 : Nat) ≠ 114 by decide), trail_other (show (114 : Nat) ≠ 108 by decide), cs]
    rw [List.replicate_succ' (n := trail 108 a), List.replicate_succ (n := trail 114 a)]
    simp
theorem lfT_tree (t : Tr) : (t.lvA []).flatMap lfT = t.cs := by
  rw [lfT_all]
  simp [trail]
/-! ### the widest move -/
noncomputable def wdT (A B : Tr) : Tr × Tr := if h : A.lvs = B.lvs then (Classical.choose (prd_of h), Classical.choose (Classical.choose_spec (prd_of h))) else (A, B)
theorem wdT_of {A B : Tr} (h : A.lvs = B.lvs) : Of A B (prd A B) (wdT A B).1 (wdT A B).2 := by
  unfold wdT
  rw [dif_pos h]
  exact Classical.choose_spec (Classical.choose_spec (prd_of h))
theorem Of.fst {A B C D : Tr} {L : List AP} (o : Of A B L C D) {i : Nat} {p : AP} (h : L[i]? = some p) : (C.lvA [])[i]? = some p.1 ∧ (D.lvA [])[i]? = some p.2 := by
  rw [← o.1, ← o.2.1, List.getElem?_map, List.getElem?_map, h]
  exact ⟨rfl, rfl⟩
theorem Of.zip {A B C D : Tr} {L : List AP} (o : Of A B L C D) : L = zipA C D := by
  unfold zipA
  rw [← o.1, ← o.2.1]
  exact List.zip_of_prod rfl rfl
theorem Of.uniq {A B C D C' D' : Tr} {L : List AP} (o : Of A B L C D) (o' : Of A B L C' D') : C = C' ∧ D = D' := ⟨lvA_inj _ _ [] (o.1.symm.trans o'.1), lvA_inj _ _ [] (o.2.1.symm.trans o'.2.1)⟩
theorem wdT_swap {A B : Tr} (h : A.lvs = B.lvs) : wdT B A = ((wdT A B).2, (wdT A B).1) := by
  have o := wdT_of h
  have o' := wdT_of h.symm
  rw [prd_swap] at o'
  obtain ⟨e1, e2⟩ := Of.uniq o' (C' := (wdT A B).2) (D' := (wdT A B).1) ⟨by rw [← o.2.1, List.map_map]; rfl, by rw [← o.1, List.map_map]; rfl, o.2.2.swap⟩
  exact Prod.ext e1 e2
/-! ### what is carried -/
/-- the first pair by which an address is carried -/
def crr (L : List AP) (s : List Nat) : Option AP := L.find? fun p => p.1.isPrefixOf s
def cry (L : List AP) (s : List Nat) : Option (List Nat) := (crr L s).map fun p => p.2 ++ s.drop p.1.length
theorem hgt_grow_ge : ∀ (t : Tr) (xs : List Tr), xs.length = t.lvs → t.hgt ≤ (t.grow xs).hgt
  | .leaf, xs, _ => Nat.zero_le _
  | .node l r, xs, h => by
    obtain ⟨a, b, rfl, ha, hb⟩ := split_len h
    have h1 := hgt_grow_ge l a ha
    have h2 := hgt_grow_ge r b hb
    rw [grow_node l r a b ha hb]
    simp only [hgt]
    omega
theorem Gr.hgt {A B C D : Tr} (g : Gr A B C D) : C.hgt ≤ A.hgt := by
  obtain ⟨xs, h1, h2, e, f⟩ := g
  rw [e]; exact hgt_grow_ge C xs h1
def Inc (a b : List Nat) : Prop := ¬ a <+: b ∧ ¬ b <+: a
theorem lvA_inc : ∀ (t : Tr) (a : List Nat), (t.lvA a).Pairwise Inc
  | .leaf, a => List.pairwise_singleton _ _
  | .node l r, a => by
    refine List.pairwise_append.mpr ⟨lvA_inc l _, lvA_inc r _, fun x hx y hy => ⟨fun h => ?_, fun h => ?_⟩⟩
    · exact absurd (pre_two ((lvA_pre l _ x hx).trans h) (lvA_pre r _ y hy)) (by decide)
    · exact absurd (pre_two (lvA_pre l _ x hx) ((lvA_pre r _ y hy).trans h)) (by decide)
theorem find_anti : ∀ (L : List AP), (L.map (·.1)).Pairwise Inc → ∀ pr ∈ L, ∀ s, pr.1 <+: s → crr L s = some pr
  | [], _, pr, h, _, _ => nomatch h
  | q :: L, an, pr, h, s, hp => by
    obtain ⟨a1, a2⟩ := List.pairwise_cons.mp an
    unfold crr
    rw [List.find?_cons]
    by_cases hq : q.1.isPrefixOf s = true
    · rw [hq]
      rcases List.mem_cons.mp h with rfl | h
      · rfl
      · have hi := a1 pr.1 (List.mem_map_of_mem h)
        rcases List.prefix_or_prefix_of_prefix (List.isPrefixOf_iff_prefix.mp hq) hp with z | z
        · exact absurd z hi.1
        · exact absurd z hi.2
    · rw [Bool.eq_false_iff.mpr hq]
      rcases List.mem_cons.mp h with rfl | h
      · exact absurd (List.isPrefixOf_iff_prefix.mpr hp) hq
      · exact find_anti L a2 pr h s hp
theorem crr_some {L : List AP} {s : List Nat} {p : AP} (h : crr L s = some p) : p ∈ L ∧ p.1 <+: s := ⟨List.mem_of_find?_eq_some h, List.isPrefixOf_iff_prefix.mp (List.find?_some (p := fun q : AP => q.1.isPrefixOf s) (l := L) h)⟩
theorem cry_some {L : List AP} {s r : List Nat} (h : cry L s = some r) : ∃ p u, p ∈ L ∧ s = p.1 ++ u ∧ r = p.2 ++ u := by
  unfold cry at h
  obtain ⟨p, hp, rfl⟩ := Option.map_eq_some_iff.mp h
  obtain ⟨m, u, rfl⟩ := crr_some hp
  exact ⟨p, u, m, rfl, by rw [List.drop_left]⟩
theorem prd_inc {A B : Tr} (h : A.lvs = B.lvs) : ((prd A B).map (·.1)).Pairwise Inc := by
  rw [(wdT_of h).1]
  exact lvA_inc _ _
theorem cry_of {A B : Tr} (h : A.lvs = B.lvs) {p : AP} (hp : p ∈ prd A B) (u : List Nat) : cry (prd A B) (p.1 ++ u) = some (p.2 ++ u) := by
  unfold cry
  rw [find_anti _ (prd_inc h) p hp _ (List.prefix_append _ _)]
  simp
/-- and back -/
theorem cry_back {A B : Tr} (h : A.lvs = B.lvs) {s r : List Nat} (hc : cry (prd A B) s = some r) : cry (prd B A) r = some s := by
  obtain ⟨p, u, hp, rfl, rfl⟩ := cry_some hc
  have : swp p ∈ prd B A := by rw [prd_swap]; exact List.mem_map_of_mem hp
  exact cry_of h.symm this u
theorem tat_grow : ∀ (t : Tr) (b : List Nat) {i : Nat} {a : List Nat}, (t.lvA b)[i]? = some a → ∃ c, a = b ++ c ∧ ∀ xs : List Tr, xs.length = t.lvs → ∀ x, xs[i]? = some x → ∀ s, tat (t.grow xs) (c ++ s) = tat x s
  | .leaf, b, i, a, h => by
    have h : [b][i]? = some a := h
    cases i with
    | succ i => simp at h
    | zero =>
      have e : b = a := by simpa using h
      refine ⟨[], by rw [e, List.append_nil], fun xs hl x hx s => ?_⟩
      obtain ⟨y, rfl⟩ := List.length_eq_one_iff.mp hl
      have : y = x := by simpa using hx
      rw [this, grow_leaf1, List.nil_append]
  | .node l r, b, i, a, h => by
    have h : (l.lvA (b ++ [108]) ++ r.lvA (b ++ [114]))[i]? = some a := h
    have ll := lvA_length l (b ++ [108])
    by_cases hi : i < l.lvs
    · rw [List.getElem?_append_left (by omega)] at h
      obtain ⟨c, e, f⟩ := tat_grow l _ h
      refine ⟨108 :: c, by rw [e]; simp, fun xs hl x hx s => ?_⟩
      obtain ⟨ys, zs, rfl, h1, h2⟩ := split_len hl
      rw [grow_node l r ys zs h1 h2]
      rw [List.getElem?_append_left (by omega)] at hx
      exact f ys h1 x hx s
    · rw [List.getElem?_append_right (by omega)] at h
      obtain ⟨c, e, f⟩ := tat_grow r _ h
      refine ⟨114 :: c, by rw [e]; simp, fun xs hl x hx s => ?_⟩
      obtain ⟨ys, zs, rfl, h1, h2⟩ := split_len hl
      rw [grow_node l r ys zs h1 h2]
      rw [List.getElem?_append_right (by omega), h1, ← ll] at hx
      exact f zs h2 x hx s
/-- the part at an address of any tree is the part of the result at the address to which it is carried -/
theorem cry_part {A B : Tr} (h : A.lvs = B.lvs) {s r : List Nat} (hc : cry (prd A B) s = some r) {zs : List Tr} (hz : zs.length = A.lvs) : tat (A.grow zs) s = tat (B.grow zs) r := by
  obtain ⟨p, u, hp, rfl, rfl⟩ := cry_some hc
  have o := wdT_of h
  obtain ⟨i, hi⟩ := List.mem_iff_getElem?.mp hp
  obtain ⟨f1, f2⟩ := o.fst hi
  obtain ⟨_, _, xs, h1, h2, e1, e2⟩ := o
  generalize (wdT A B).1 = C at *
  generalize (wdT A B).2 = D at *
  subst e1
  subst e2
  rw [lvs_grow h1] at hz
  obtain ⟨c, ec, fc⟩ := tat_grow C [] f1
  obtain ⟨d, ed, fd⟩ := tat_grow D [] f2
  rw [List.nil_append] at ec ed
  subst ec
  subst ed
  rw [grow_grow C xs zs h1 hz, grow_grow D xs zs (h1.trans h2) hz]
  have gl := growL_len xs zs
  have cl := lvA_length C []
  have il : i < (growL xs zs).length := by
    have := (List.getElem?_eq_some_iff.mp f1).1
    omega
  rw [fc _ (gl.trans h1) _ (List.getElem?_eq_getElem il), fd _ ((gl.trans h1).trans h2) _ (List.getElem?_eq_getElem il)]
end TT

set_option linter.all false
set_option maxRecDepth 100000
/-! TLz: list(zip(x, y)) of two lists. -/
namespace TLz
open PySem PySem.W PySem.Calls PyProof.Rows PyProof.V PySem.Spec
theorem zip_no_len : typeLookup (.type "zip") "__len__" = pure none := by rw [typeLookup_type, builtinLookup_eq_fast]; kernel_rfl
theorem zip_no_hint : typeLookup (.type "zip") "__length_hint__" = pure none := by rw [typeLookup_type, builtinLookup_eq_fast]; kernel_rfl
/-- the addresses as hold the pairs, in order; they lie above lo and rise -/
structure ZG (xs ys : Array Value) (lo : Addr) (h : Heap) (as : List Addr) : Prop where
  rise : as.Pairwise (· < ·)
  above : ∀ a ∈ as, lo < a
  pairs : ∀ (j : Nat) (a : Addr), as[j]? = some a → ∃ x y, xs[j]? = some x ∧ ys[j]? = some y ∧ IsPair h a x y
theorem ZG.there {xs ys : Array Value} {lo : Addr} {h : Heap} {as : List Addr} (g : ZG xs ys lo h as) {a : Addr} (ha : a ∈ as) : a < h.objs.size := by
  obtain ⟨j, hj⟩ := List.mem_iff_getElem?.mp ha
  obtain ⟨_, _, _, _, e⟩ := g.pairs j a hj
  exact Heap.lt_size e
/-- a zip's state behind i turns; S: the list that grows -/
def ZSt (z TI TO i1 i2 l1 l2 : Addr) (xs ys : Array Value) (S : Addr) (i : Nat) (h : Heap) : Prop := IsPair h TI (.ref i1) (.ref i2) ∧ h.IsListIter i1 l1 i ∧ h.IsListIter i2 l2 i ∧ h.IsList l1 xs ∧ h.IsList l2 ys ∧
  ((IsZip h z TI TO .none ∧ ∃ a b, IsPair h TO a b) ∨ ∃ T f oT, IsZipHeld h z TI TO T f ∧ h.get? T = some oT ∧ T ≠ z ∧ T ≠ i1 ∧ T ≠ i2 ∧ T ≠ S)
/-- S is none of these -/
structure Off (z TI TO i1 i2 l1 l2 S : Addr) : Prop where
  z : S ≠ z
  TI : S ≠ TI
  TO : S ≠ TO
  i1 : S ≠ i1
  i2 : S ≠ i2
  l1 : S ≠ l1
  l2 : S ≠ l2
section
variable {z TI TO i1 i2 l1 l2 S : Addr} {xs ys : Array Value}
theorem ZSt.keep {i : Nat} {h h' : Heap} (st : ZSt z TI TO i1 i2 l1 l2 xs ys S i h) (F : Off z TI TO i1 i2 l1 l2 S) (hk : ∀ b o, b ≠ S → h.get? b = some o → h'.get? b = some o) : ZSt z TI TO i1 i2 l1 l2 xs ys S i h' := by
  obtain ⟨hTI, h1, h2, hl1, hl2, hz⟩ := st
  refine ⟨hk _ _ (Ne.symm F.TI) hTI, h1.at fun o e => hk _ o (Ne.symm F.i1) e, h2.at fun o e => hk _ o (Ne.symm F.i2) e, hl1.at fun o e => hk _ o (Ne.symm F.l1) e, hl2.at fun o e => hk _ o (Ne.symm F.l2) e, ?_⟩
  rcases hz with ⟨hz, a, b, hTO⟩ | ⟨T, f, oT, hz, hT, r1, r2, r3, r4⟩
  · exact .inl ⟨hk _ _ (Ne.symm F.z) hz, a, b, hk _ _ (Ne.symm F.TO) hTO⟩
  · exact .inr ⟨T, f, oT, hk _ _ (Ne.symm F.z) hz, hk _ _ r4 hT, r1, r2, r3, r4⟩
variable {prog : Program} {w : World} {A : Around} {E : Value → Shared → Prop} {s : Shared}
theorem zl_item {i : Nat} {Q : Option Value → Shared → Prop} (D : ZipApart z TI TO i1 i2 l1 l2) (st : ZSt z TI TO i1 i2 l1 l2 xs ys S i s.heap) (hS : S < s.heap.objs.size) (hlt : i < xs.size) (hsz : xs.size = ys.size)
    (hQ : ∀ h' x y, xs[i]? = some x → ys[i]? = some y → ZSt z TI TO i1 i2 l1 l2 xs ys S (i + 1) h' → IsPair h' s.heap.objs.size x y →
      (∀ b o, b ≠ z → b ≠ TO → b ≠ i1 → b ≠ i2 → s.heap.get? b = some o → h'.get? b = some o) → Q (some (.ref s.heap.objs.size)) { s with heap := h' }) :
    wpAny (model prog w) A (pyNext (.ref z)) Q E s := by
  obtain ⟨hTI, h1, h2, hl1, hl2, hz⟩ := st
  have ex := Array.getElem?_eq_getElem hlt
  have ey := Array.getElem?_eq_getElem (xs := ys) (i := i) (by omega)
  have lt : ∀ {c o}, s.heap.get? c = some o → s.heap.objs.size ≠ c := fun e => Nat.ne_of_gt (Heap.lt_size e)
  have n1 : s.heap.objs.size ≠ i1 := let ⟨_, e, _⟩ := h1; lt e
  have n2 : s.heap.objs.size ≠ i2 := let ⟨_, e, _⟩ := h2; lt e
  rcases hz with ⟨hz, a, b, hTO⟩ | ⟨T, f, oT, hz, hT, r1, r2, r3, r4⟩
  · refine wpAny_pyNext_zip_item D hz hTI hTO h1 h2 hl1 hl2 ex ey fun h' a1 a2 a3 a4 a5 a6 hk => ?_
    exact hQ h' _ _ ex ey ⟨hk _ _ D.TIz D.TITO D.TIi1 D.TIi2 hTI, a3, a4, hl1.at fun o e => hk _ o D.l1z D.l1TO D.l1i1 D.l1i2 e, hl2.at fun o e => hk _ o D.l2z D.l2TO D.l2i1 D.l2i2 e,
        .inr ⟨s.heap.objs.size, false, _, a1, a5, lt hz, n1, n2, Nat.ne_of_gt hS⟩⟩ a5 fun b o b1 b2 b3 b4 e => hk b o b1 b2 b3 b4 e
  · refine wpAny_pyNext_zip_item_held D hz hT hTI h1 h2 hl1 hl2 ex ey fun h' a1 a3 a4 a5 a6 hk => ?_
    exact hQ h' _ _ ex ey ⟨hk _ _ D.TIz D.TIi1 D.TIi2 hTI, a3, a4, hl1.at fun o e => hk _ o D.l1z D.l1i1 D.l1i2 e, hl2.at fun o e => hk _ o D.l2z D.l2i1 D.l2i2 e,
        .inr ⟨T, true, oT, a1, hk _ _ r1 r2 r3 hT, r1, r2, r3, r4⟩⟩ a5 fun b o b1 b2 b3 b4 e => hk b o b1 b3 b4 e
theorem zl_done {i : Nat} {Q : Option Value → Shared → Prop} (hh : A.handled = none) (D : ZipApart z TI TO i1 i2 l1 l2) (st : ZSt z TI TO i1 i2 l1 l2 xs ys S i s.heap) (hge : xs.size ≤ i)
    (hQ : ∀ h', (∀ b o, b ≠ z → b ≠ TO → b ≠ i1 → b ≠ i2 → s.heap.get? b = some o → h'.get? b = some o) → Q none { s with heap := h' }) : wpAny (model prog w) A (pyNext (.ref z)) Q E s := by
  obtain ⟨hTI, h1, h2, hl1, hl2, hz⟩ := st
  have hend : xs[i]? = none ∨ ys[i]? = none := .inl (Array.getElem?_eq_none hge)
  rcases hz with ⟨hz, a, b, hTO⟩ | ⟨T, f, oT, hz, hT, r1, r2, r3, r4⟩
  · exact wpAny_pyNext_zip_end hh D hz hTI hTO h1 h2 hl1 hl2 hend fun h' hk => hQ h' fun b o b1 b2 b3 b4 e => hk b o b1 b2 b3 b4 e
  · exact wpAny_pyNext_zip_end_held hh D hz hT hTI h1 h2 hl1 hl2 hend fun h' hk => hQ h' fun b o b1 b2 b3 b4 e => hk b o b1 b3 b4 e
end
/-- the cells that a zip writes -/
def Wr (z TO i1 i2 b : Addr) : Prop := b ≠ z ∧ b ≠ TO ∧ b ≠ i1 ∧ b ≠ i2
section
variable {z TI TO i1 i2 l1 l2 S : Addr} {xs ys : Array Value} {prog : Program} {w : World} {A : Around} {s : Shared} {R : Result → Shared → Prop}
theorem zl_loop (hh : A.handled = none) (D : ZipApart z TI TO i1 i2 l1 l2) (F : Off z TI TO i1 i2 l1 l2 S) (hsz : xs.size = ys.size) (hn : xs.size ≤ sizeLine) (res : Value) {lo : Addr} (hlo : z ≤ lo ∧ TO ≤ lo ∧ i1 ≤ lo ∧ i2 ≤ lo ∧ S ≤ lo) {h₁ : Heap}
    (hR : ∀ h' tk acc c as, (∀ b o, b ≠ S → Wr z TO i1 i2 b → h₁.get? b = some o → h'.get? b = some o) → h'.get? S = some { cls := .type "list", dict := none, data := .seq acc c, slots := #[] } → as.length = xs.size → ZG xs ys lo h' as →
      acc.toList = as.map Value.ref → R (.ok (.ret res)) { s with heap := h', toks := tk }) :
    ∀ (k i : Nat) (h : Heap) (tk c : Nat) (acc : Array Value) (as : List Addr), xs.size - i = k → i ≤ xs.size → ZSt z TI TO i1 i2 l1 l2 xs ys S i h → (∀ b o, b ≠ S → Wr z TO i1 i2 b → h₁.get? b = some o → h.get? b = some o) →
      h.get? S = some { cls := .type "list", dict := none, data := .seq acc c, slots := #[] } → acc.toList = as.map Value.ref → as.length = i → ZG xs ys lo h as → lo < h.objs.size →
      codeAny (model prog w) A (.builtin "list.extend.loop" ⟨[.ref S, .ref z, res], []⟩) R { s with heap := h, toks := tk } := by
  obtain ⟨lz, lTO, li1, li2, lS⟩ := hlo
  have hne : S ≠ z := F.z
  have off : ∀ a, lo < a → Wr z TO i1 i2 a := fun a ha => ⟨Nat.ne_of_gt (Nat.lt_of_le_of_lt lz ha), Nat.ne_of_gt (Nat.lt_of_le_of_lt lTO ha), Nat.ne_of_gt (Nat.lt_of_le_of_lt li1 ha), Nat.ne_of_gt (Nat.lt_of_le_of_lt li2 ha)⟩
  intro k
  induction k with
  | zero =>
    intro i h tk c acc as hk hi hst hkeep hS hacc hal hG hIs
    have hin : i = xs.size := by omega
    refine codeAny_builtin PySem.F.entry_extend_loop ?_
    rw [Around.under_plainId PySem.F.plain_extend_loop _]
    show wpAny _ A.in1 (pyNext (.ref z) >>= _) _ _ _
    refine wpAny_bind (zl_done (s := { s with heap := h, toks := tk }) (A := A.in1) hh D hst (by omega) fun h' he => ?_)
    refine wpAny_pure (hR h' tk acc c as (fun b o h1 h2 e => he b o h2.1 h2.2.1 h2.2.2.1 h2.2.2.2 (hkeep b o h1 h2 e)) (he S _ F.z F.TO F.i1 F.i2 hS) (by omega) ⟨hG.rise, hG.above, fun j a hj => ?_⟩ hacc)
    obtain ⟨x, y, e1, e2, e3⟩ := hG.pairs j a hj
    obtain ⟨q1, q2, q3, q4⟩ := off a (hG.above a (List.mem_of_getElem? hj))
    exact ⟨x, y, e1, e2, he a _ q1 q2 q3 q4 e3⟩
  | succ k ih =>
    intro i h tk c acc as hk hi hst hkeep hS hacc hal hG hIs
    have hlt : i < xs.size := by omega
    have hasz : acc.size = i := by rw [← Array.length_toList, hacc, List.length_map, hal]
    refine codeAny_builtin PySem.F.entry_extend_loop ?_
    rw [Around.under_plainId PySem.F.plain_extend_loop _]
    show wpAny _ A.in1 (pyNext (.ref z) >>= _) _ _ _
    refine wpAny_bind (zl_item (s := { s with heap := h, toks := tk }) (S := S) D hst (Heap.lt_size hS) hlt hsz fun h' x y ex ey hst' ht hkp => ?_)
    dsimp only at ht hkp ⊢
    have hS' := hkp S _ F.z F.TO F.i1 F.i2 hS
    have up : ∀ b o, b ≠ S → h'.get? b = some o → (h'.update S (Obj.mapSeq (·.push (Value.ref h.objs.size)))).get? b = some o := fun b o hb e => (Heap.get?_update_other _ _ (Ne.symm hb)).trans e
    have hSl : S < h.objs.size := Heap.lt_size hS
    show wpAny _ A.in1 (updateSeq S (·.push (Value.ref h.objs.size)) >>= _) _ _ _
    refine wpAny_bind ?_
    refine wpAny_updateSeq hS' rfl (wpAny_pure ⟨plainId_quiet PySem.F.plain_extend_loop _, ih (i + 1) _ tk _ (acc.push (Value.ref h.objs.size)) (as ++ [h.objs.size]) (by omega) hlt (hst'.keep F up)
      (fun b o h1 h2 e => up b o h1 (hkp b o h2.1 h2.2.1 h2.2.2.1 h2.2.2.2 (hkeep b o h1 h2 e))) (Heap.get?_update_self _ hS' rfl) (by rw [Array.toList_push, hacc, List.map_append]; rfl) (by rw [List.length_append, hal]; rfl) ⟨?_, ?_, ?_⟩ ?_⟩) (by rw [hasz]; omega) (by show (acc.push (Value.ref h.objs.size)).size ≤ sizeLine + 1; rw [Array.size_push, hasz]; omega)
    · refine List.pairwise_append.mpr ⟨hG.rise, List.pairwise_singleton _ _, fun a ha b hb => ?_⟩
      rw [List.mem_singleton.mp hb]
      exact hG.there ha
    · intro a ha
      rcases List.mem_append.mp ha with ha | ha
      · exact hG.above a ha
      · rw [List.mem_singleton.mp ha]; exact hIs
    · intro j b hj
      rcases Nat.lt_trichotomy j as.length with h1 | h1 | h1
      · rw [List.getElem?_append_left h1] at hj
        obtain ⟨x', y', e1, e2, e3⟩ := hG.pairs j b hj
        have hb := hG.above b (List.mem_of_getElem? hj)
        obtain ⟨q1, q2, q3, q4⟩ := off b hb
        exact ⟨x', y', e1, e2, up b _ (Nat.ne_of_gt (Nat.lt_of_le_of_lt lS hb)) (hkp b _ q1 q2 q3 q4 e3)⟩
      · subst h1
        have hb : h.objs.size = b := by simpa using hj
        subst hb
        exact ⟨x, y, by rw [hal]; exact ex, by rw [hal]; exact ey, up _ _ (Nat.ne_of_gt hSl) ht⟩
      · have hnone : (as ++ [h.objs.size])[j]? = none := List.getElem?_eq_none (by rw [List.length_append, List.length_singleton]; omega)
        rw [hnone] at hj; cases hj
    · have e : (h'.update S (Obj.mapSeq (·.push (Value.ref h.objs.size)))).get? h.objs.size = _ := up _ _ (Nat.ne_of_gt hSl) ht
      exact Nat.lt_trans hIs (Heap.lt_size e)
theorem zl_extend (hh : A.handled = none) (D : ZipApart z TI TO i1 i2 l1 l2) (F : Off z TI TO i1 i2 l1 l2 S) (hsz : xs.size = ys.size) (hn : xs.size ≤ sizeLine) (res : Value) {lo : Addr} (hlo : z ≤ lo ∧ TO ≤ lo ∧ i1 ≤ lo ∧ i2 ≤ lo ∧ S ≤ lo) (hls : lo < s.heap.objs.size)
    (hz0 : IsZip s.heap z TI TO .none) (st : ZSt z TI TO i1 i2 l1 l2 xs ys S 0 s.heap) (c₀ : Nat) (hS : s.heap.get? S = some { cls := .type "list", data := .seq #[] c₀ })
    (hR : ∀ h' tk acc c as, (∀ b o, b ≠ S → Wr z TO i1 i2 b → s.heap.get? b = some o → h'.get? b = some o) → h'.get? S = some { cls := .type "list", dict := none, data := .seq acc c, slots := #[] } → as.length = xs.size → ZG xs ys lo h' as →
      acc.toList = as.map Value.ref → R (.ok (.ret res)) { s with heap := h', toks := tk }) :
    wpAny (model prog w) A.in1 (Builtin.List.listExtendWith (.ref S) (.ref z) res)
      (fun fin s' => match fin with | .done f => R (.ok f) s' | .again c' => c'.quiet = true ∧ codeAny (model prog w) A c' R s') (fun e s' => R (.error e) s') s := by
  have hT : s.TypeIs (.ref z) "zip" := ⟨_, hz0, rfl⟩
  have key : ∀ (h : Heap) (c₁ tk : Nat), (∀ b o, b ≠ S → s.heap.get? b = some o → h.get? b = some o) → lo < h.objs.size →
      h.get? S = some { cls := .type "list", data := .seq #[] c₁ } → codeAny (model prog w) A (.builtin "list.extend.loop" ⟨[.ref S, .ref z, res], []⟩) R { s with heap := h, toks := tk } := by
    intro h c₁ tk hk hl hS₁
    exact zl_loop (s := s) (h₁ := s.heap) hh D F hsz hn res hlo hR xs.size 0 h tk c₁ #[] [] (Nat.sub_zero _) (Nat.zero_le _) (st.keep F hk) (fun b o hb _ e => hk b o hb e) hS₁ rfl rfl
      ⟨List.Pairwise.nil, (fun _ ha => nomatch ha), (fun j a hj => by simp at hj)⟩ hl
  unfold Builtin.List.listExtendWith
  refine wpAny_bind (wpAny_typeOf (T := "zip") hT ?_)
  have h1 : Builtin.List.listSameRef (.ref S) (.ref z) = false := by simp [Builtin.List.listSameRef, F.z]
  have h2 : (Value.type "zip" == Value.type "list") = false := by decide
  have h3 : (Value.type "zip" == Value.type "tuple") = false := by decide
  simp only [h1, h2, h3, Bool.or_false, Bool.false_eq_true, if_false]
  refine wpAny_bind (wpAny_pyIter_zip hz0 ?_)
  refine wpAny_bind (wpAny_holding ?_)
  unfold Builtin.List.listLengthHint
  refine wpAny_bind (wpAny_specialOf hT zip_no_len ?_)
  show wpAny _ A.in1 (specialOf (Value.ref z) (Str.ofString "__length_hint__") >>= _) _ _ _
  refine wpAny_bind (wpAny_specialOf hT zip_no_hint ?_)
  refine wpAny_pure ?_
  show wpAny _ A.in1 (rule "list.extend.makes-room" >>= fun _ => Builtin.List.listTouch (.ref S) >>= fun _ =>
    again (.builtin "list.extend.loop" ⟨[.ref S, .ref z, res], []⟩)) _ _ _
  refine wpAny_bind (wpAny_rule ?_)
  refine wpAny_bind ?_
  show wpAny _ A.in1 (updateSeq S (·.push .none) >>= fun _ => updateSeq S (·.pop)) _ _ _
  refine wpAny_bind (wpAny_updateSeq hS rfl ?_)
  have hS₂ := Heap.get?_update_self (Obj.mapSeq (·.push Value.none)) hS rfl
  refine wpAny_updateSeq (hz := by seq_fits) hS₂ rfl ?_
  have hS₃ := Heap.get?_update_self (Obj.mapSeq (·.pop)) hS₂ rfl
  have oth : ∀ b o, b ≠ S → s.heap.get? b = some o → ((s.heap.update S (Obj.mapSeq (·.push Value.none))).update S (Obj.mapSeq (·.pop))).get? b = some o :=
    fun b o hb e => (Heap.get?_update_other _ _ (Ne.symm hb)).trans ((Heap.get?_update_other _ _ (Ne.symm hb)).trans e)
  refine wpAny_pure ⟨plainId_quiet PySem.F.plain_extend_loop _, key _ _ _ oth ?_ hS₃⟩
  rw [Heap.size_update, Heap.size_update]
  exact hls
end
end TLz

set_option linter.all false
/-! TRp: a sign, or a short text, any number of times. -/
namespace TRp
open PySem L2 TT TU
def rRepS : R2 := fun x y H Q => ∃ (z : Str) (c n : Nat), x = .str z ∧ z = S [c] ∧ y = .int (n : Nat) ∧ n ≤ 100000 ∧ Q (.str (S (List.replicate n c))) H
def rRepA : R2 := fun x y H Q => ∃ (l : List Nat) (n : Nat), x = .str (S l) ∧ y = .int (n : Nat) ∧ n ≤ 100000 ∧ l.length ≤ 100 ∧ (1 ≤ l.length ∨ n ≤ 1) ∧ Q (.str (S (List.replicate n l).flatten)) H
theorem op_repA {X : Cx} : OpR X (binaryOp .Mult) rRepA := by
  intro pins s σ H x y v u Q I rx ry h
  obtain ⟨l, n, rfl, rfl, hn, hl, h1, q⟩ := h
  have sl : (S l).length = l.length := by simp [Str.length]
  by_cases h1' : n ≤ 1
  · refine TD.op_rep01 pins s σ H _ _ v u Q I rx ry ⟨S l, n, rfl, rfl, h1', by omega, ?_⟩
    rcases (show n = 0 ∨ n = 1 by omega) with rfl | rfl
    · exact q
    · have e : (List.replicate 1 l).flatten = l := by simp
      rw [e] at q
      exact q
  · refine op_rep_str pins s σ H _ _ v u Q I rx ry ⟨S l, n, rfl, rfl, by omega, hn, by omega, by omega, ?_⟩
    rw [show (S l).cps.toList = l by simp]
    exact q
theorem op_repS {X : Cx} : OpR X (binaryOp .Mult) rRepS := by
  intro pins s σ H x y v u Q I rx ry h
  obtain ⟨z, c, n, rfl, rfl, rfl, hn, q⟩ := h
  refine op_repA pins s σ H _ _ v u Q I rx ry ⟨[c], n, rfl, rfl, hn, (by show 1 ≤ 100; decide), .inl (Nat.le_refl 1), ?_⟩
  have e : (List.replicate n [c]).flatten = List.replicate n c := by
    clear q hn rx ry
    induction n with
    | zero => rfl
    | succ n ih => rw [List.replicate_succ, List.flatten_cons, ih]; rfl
  rw [e]
  exact q
end TRp

/-! TZp: the library's loops over zip. -/
namespace TZp
end TZp

set_option linter.all false
/-! TTm: powers of a move, plainly; binary digits. -/
namespace TT
open Tr
def powT (a : Tr × Tr) : Nat → Tr × Tr
  | 0 => (.leaf, .leaf)
  | n + 1 => mulT (powT a n) a
theorem bits_lt (i : Int) : i.natAbs < 2 ^ PySem.Builtin.Int.intBits i := by
  unfold PySem.Builtin.Int.intBits
  split
  · rename_i h
    have : i = 0 := by simpa using h
    subst this; decide
  · exact Nat.lt_log2_self
theorem bits_le {i : Int} {n : Nat} (h : i.natAbs < 2 ^ n) : PySem.Builtin.Int.intBits i ≤ n := by
  unfold PySem.Builtin.Int.intBits
  split
  · exact Nat.zero_le _
  · rename_i h0
    have h0 : i ≠ 0 := by simpa using h0
    have : i.natAbs.log2 < n := (Nat.log2_lt (by omega)).mpr h
    omega
theorem half_step (m k : Nat) : m / 2 ^ k = 2 * (m / 2 ^ (k + 1)) + (m / 2 ^ k) % 2 := by
  rw [Nat.pow_succ, ← Nat.div_div_eq_div_mul]
  omega
end TT

namespace Toy
open PySem L2 TT TX TR TQ TV TU TY CwR
def top (i : Nat) : Stmt := PySem.Challenge.pw_treeturns_k23_moves_done_often.main.body.getD i (.Pass ⟨0, 0, 0, 0⟩)
def ini : Stmt → Stmt
  | .ClassDef (body := b) .. => b.headD (.Pass ⟨0, 0, 0, 0⟩)
  | s => s
abbrev i_InvalidTree : Stmt := ini (top 3)
theorem si_InvalidTree : FnScope ["self", "value"] ["self", "value"] (defScope i_InvalidTree) := ⟨rfl, rfl, rfl, by decide +kernel, rfl, by decide +kernel, by decide +kernel⟩
abbrev i_InvalidList : Stmt := ini (top 5)
theorem si_InvalidList : FnScope ["self", "value"] ["self", "value"] (defScope i_InvalidList) := ⟨rfl, rfl, rfl, by decide +kernel, rfl, by decide +kernel, by decide +kernel⟩
abbrev i_InvalidNumber : Stmt := ini (top 4)
theorem si_InvalidNumber : FnScope ["self", "value"] ["self", "value"] (defScope i_InvalidNumber) := ⟨rfl, rfl, rfl, by decide +kernel, rfl, by decide +kernel, by decide +kernel⟩
abbrev i_InvalidScript : Stmt := ini (top 6)
theorem si_InvalidScript : FnScope ["self", "value"] ["self", "value"] (defScope i_InvalidScript) := ⟨rfl, rfl, rfl, by decide +kernel, rfl, by decide +kernel, by decide +kernel⟩
abbrev i_InvalidMove : Stmt := ini (top 7)
theorem si_InvalidMove : FnScope ["self", "value"] ["self", "value"] (defScope i_InvalidMove) := ⟨rfl, rfl, rfl, by decide +kernel, rfl, by decide +kernel, by decide +kernel⟩
abbrev i_CannotMove : Stmt := ini (top 8)
theorem si_CannotMove : FnScope ["self", "value"] ["self", "value"] (defScope i_CannotMove) := ⟨rfl, rfl, rfl, by decide +kernel, rfl, by decide +kernel, by decide +kernel⟩
abbrev s_is_tree : Stmt := top 10
abbrev nm_is_tree : List Str := ["value", "awaited", "sign", "want"]
theorem sc_is_tree : FnScope ["value", "awaited", "sign", "want"] ["value"] (defScope s_is_tree) := ⟨rfl, rfl, rfl, by decide +kernel, rfl, by decide +kernel, by decide +kernel⟩
abbrev s_is_address : Stmt := top 11
abbrev nm_is_address : List Str := ["value"]
theorem sc_is_address : FnScope ["value"] ["value"] (defScope s_is_address) := ⟨rfl, rfl, rfl, by decide +kernel, rfl, by decide +kernel, by decide +kernel⟩
abbrev s_check_tree : Stmt := top 12
abbrev nm_check_tree : List Str := ["value"]
theorem sc_check_tree : FnScope ["value"] ["value"] (defScope s_check_tree) := ⟨rfl, rfl, rfl, by decide +kernel, rfl, by decide +kernel, by decide +kernel⟩
abbrev s_ends : Stmt := top 13
abbrev nm_ends : List Str := ["tree", "behind", "begun", "at", "sign"]
theorem sc_ends : FnScope ["tree", "behind", "begun", "at", "sign"] ["tree"] (defScope s_ends) := ⟨rfl, rfl, rfl, by decide +kernel, rfl, by decide +kernel, by decide +kernel⟩
abbrev s_check_hung : Stmt := top 14
abbrev nm_check_hung : List Str := ["tree", "trees", "item"]
theorem sc_check_hung : FnScope ["tree", "trees", "item"] ["tree", "trees"] (defScope s_check_hung) := ⟨rfl, rfl, rfl, by decide +kernel, rfl, by decide +kernel, by decide +kernel⟩
abbrev s_grown : Stmt := top 15
abbrev nm_grown : List Str := ["tree", "hung", "texts", "item", "text"]
theorem sc_grown : FnScope ["tree", "hung", "texts", "item", "text"] ["tree", "hung"] (defScope s_grown) := ⟨rfl, rfl, rfl, by decide +kernel, rfl, by decide +kernel, by decide +kernel⟩
abbrev s_hung : Stmt := top 16
abbrev nm_hung : List Str := ["tree", "top", "behind", "found", "at", "sign"]
theorem sc_hung : FnScope ["tree", "top", "behind", "found", "at", "sign"] ["tree", "top"] (defScope s_hung) := ⟨rfl, rfl, rfl, by decide +kernel, rfl, by decide +kernel, by decide +kernel⟩
abbrev s_joined : Stmt := top 17
abbrev nm_joined : List Str := ["one", "other", "top", "mine", "its"]
theorem sc_joined : FnScope ["one", "other", "top", "mine", "its"] ["one", "other"] (defScope s_joined) := ⟨rfl, rfl, rfl, by decide +kernel, rfl, by decide +kernel, by decide +kernel⟩
abbrev s_shared : Stmt := top 18
abbrev nm_shared : List Str := ["one", "other", "behind_one", "behind_other", "signs", "at", "to"]
theorem sc_shared : FnScope ["one", "other", "behind_one", "behind_other", "signs", "at", "to"] ["one", "other"] (defScope s_shared) := ⟨rfl, rfl, rfl, by decide +kernel, rfl, by decide +kernel, by decide +kernel⟩
abbrev s_is_step : Stmt := top 21
abbrev nm_is_step : List Str := ["value"]
theorem sc_is_step : FnScope ["value"] ["value"] (defScope s_is_step) := ⟨rfl, rfl, rfl, by decide +kernel, rfl, by decide +kernel, by decide +kernel⟩
abbrev s_checked_script : Stmt := top 22
abbrev nm_checked_script : List Str := ["steps", "step", "word", "address"]
theorem sc_checked_script : FnScope ["steps", "step", "word", "address"] ["steps"] (defScope s_checked_script) := ⟨rfl, rfl, rfl, by decide +kernel, rfl, by decide +kernel, by decide +kernel⟩
abbrev s_written : Stmt := top 24
abbrev nm_written : List Str := ["pairs", "signs", "ahead", "number", "left", "right"]
theorem sc_written : FnScope ["pairs", "signs", "ahead", "number", "left", "right"] ["pairs"] (defScope s_written) := ⟨rfl, rfl, rfl, by decide +kernel, rfl, by decide +kernel, by decide +kernel⟩
abbrev s_pair_of : Stmt := top 25
abbrev nm_pair_of : List Str := ["steps", "growth", "word", "address"]
theorem sc_pair_of : FnScope ["steps", "growth", "word", "address"] ["steps"] (defScope s_pair_of) := ⟨rfl, rfl, rfl, by decide +kernel, rfl, by decide +kernel, by decide +kernel⟩
abbrev s_is_whole : Stmt := top 27
abbrev nm_is_whole : List Str := ["value"]
theorem sc_is_whole : FnScope ["value"] ["value"] (defScope s_is_whole) := ⟨rfl, rfl, rfl, by decide +kernel, rfl, by decide +kernel, by decide +kernel⟩
abbrev s_check_whole : Stmt := top 28
abbrev nm_check_whole : List Str := ["value"]
theorem sc_check_whole : FnScope ["value"] ["value"] (defScope s_check_whole) := ⟨rfl, rfl, rfl, by decide +kernel, rfl, by decide +kernel, by decide +kernel⟩
abbrev s_moved : Stmt := top 30
abbrev nm_moved : List Str := ["tree", "before", "after", "trees"]
theorem sc_moved : FnScope ["tree", "before", "after", "trees"] ["tree", "before", "after"] (defScope s_moved) := ⟨rfl, rfl, rfl, by decide +kernel, rfl, by decide +kernel, by decide +kernel⟩
abbrev s_law_cell : Stmt := top 33
abbrev nm_law_cell : List Str := ["_law_script", "_law_index"]
theorem sc_law_cell : FnScope ["_law_script", "_law_index"] ["_law_script", "_law_index"] (defScope s_law_cell) := ⟨rfl, rfl, rfl, by decide +kernel, rfl, by decide +kernel, by decide +kernel⟩
abbrev s_law_hash : Stmt := top 34
abbrev nm_law_hash : List Str := ["_law_seed", "_law_index", "_law_mixed"]
theorem sc_law_hash : FnScope ["_law_seed", "_law_index", "_law_mixed"] ["_law_seed", "_law_index"] (defScope s_law_hash) := ⟨rfl, rfl, rfl, by decide +kernel, rfl, by decide +kernel, by decide +kernel⟩
abbrev s_law_generator : Stmt := top 35
abbrev nm_law_generator : List Str := ["_law_script", "_law_index", "_law_seed"]
theorem sc_law_generator : FnScope ["_law_script", "_law_index", "_law_seed"] ["_law_script", "_law_index"] (defScope s_law_generator) := ⟨rfl, rfl, rfl, by decide +kernel, rfl, by decide +kernel, by decide +kernel⟩
abbrev s_law_address : Stmt := top 37
abbrev nm_law_address : List Str := ["_law_generator_here", "_law_longest", "_law_letters", "_law_step"]
theorem sc_law_address : FnScope ["_law_generator_here", "_law_longest", "_law_letters", "_law_step"] ["_law_generator_here", "_law_longest"] (defScope s_law_address) := ⟨rfl, rfl, rfl, by decide +kernel, rfl, by decide +kernel, by decide +kernel⟩
abbrev s_law_steps : Stmt := top 38
abbrev nm_law_steps : List Str := ["_law_generator_here", "_law_many", "_law_deep", "_law_found", "_law_step", "_law_word"]
theorem sc_law_steps : FnScope ["_law_generator_here", "_law_many", "_law_deep", "_law_found", "_law_step", "_law_word"] ["_law_generator_here", "_law_many", "_law_deep"] (defScope s_law_steps) := ⟨rfl, rfl, rfl, by decide +kernel, rfl, by decide +kernel, by decide +kernel⟩
abbrev s_law_random : Stmt := top 39
abbrev nm_law_random : List Str := ["_law_generator_here", "_law_bound", "_law_drawn", "_law_turn"]
theorem sc_law_random : FnScope ["_law_generator_here", "_law_bound", "_law_drawn", "_law_turn"] ["_law_generator_here", "_law_bound"] (defScope s_law_random) := ⟨rfl, rfl, rfl, by decide +kernel, rfl, by decide +kernel, by decide +kernel⟩
abbrev s_law_caught : Stmt := top 40
abbrev nm_law_caught : List Str := ["_law_move", "_law_often", "_law_caught_here", "error"]
theorem sc_law_caught : FnScope ["_law_move", "_law_often", "_law_caught_here", "error"] ["_law_move", "_law_often"] (defScope s_law_caught) := ⟨rfl, rfl, rfl, by decide +kernel, rfl, by decide +kernel, by decide +kernel⟩
abbrev s_law_product : Stmt := top 41
abbrev nm_law_product : List Str := ["_law_move", "_law_often", "_law_base", "_law_found", "_law_turn"]
theorem sc_law_product : FnScope ["_law_move", "_law_often", "_law_base", "_law_found", "_law_turn"] ["_law_move", "_law_often"] (defScope s_law_product) := ⟨rfl, rfl, rfl, by decide +kernel, rfl, by decide +kernel, by decide +kernel⟩
abbrev s_law_great_right : Stmt := top 42
abbrev nm_law_great_right : List Str := ["_law_generator_here", "_law_many", "_law_great", "_law_left", "_law_right", "_law_turn"]
theorem sc_law_great_right : FnScope ["_law_generator_here", "_law_many", "_law_great", "_law_left", "_law_right", "_law_turn"] ["_law_generator_here"] (defScope s_law_great_right) := ⟨rfl, rfl, rfl, by decide +kernel, rfl, by decide +kernel, by decide +kernel⟩
abbrev s_law : Stmt := top 43
abbrev nm_law : List Str := ["_law_script", "_law_index", "_law_generator_here", "_law_move", "_law_one", "_law_other", "_law_often", "_law_found", "_law_both", "_law_single", "_law_long", "_law_still", "_law_far", "_law_base", "_law_bad"]
theorem sc_law : FnScope ["_law_script", "_law_index", "_law_generator_here", "_law_move", "_law_one", "_law_other", "_law_often", "_law_found", "_law_both", "_law_single", "_law_long", "_law_still", "_law_far", "_law_base", "_law_bad"] ["_law_script"] (defScope s_law) := ⟨rfl, rfl, rfl, by decide +kernel, rfl, by decide +kernel, by decide +kernel⟩
abbrev s_Growth___init__ : Stmt := inClass (top 23) 0
abbrev nm_Growth___init__ : List Str := ["self"]
theorem sc_Growth___init__ : FnScope ["self"] ["self"] (defScope s_Growth___init__) := ⟨rfl, rfl, rfl, by decide +kernel, rfl, by decide +kernel, by decide +kernel⟩
abbrev s_Growth_unfold : Stmt := inClass (top 23) 1
abbrev nm_Growth_unfold : List Str := ["self", "number", "pair"]
theorem sc_Growth_unfold : FnScope ["self", "number", "pair"] ["self", "number"] (defScope s_Growth_unfold) := ⟨rfl, rfl, rfl, by decide +kernel, rfl, by decide +kernel, by decide +kernel⟩
abbrev s_Growth_sides : Stmt := inClass (top 23) 2
abbrev nm_Growth_sides : List Str := ["self", "number"]
theorem sc_Growth_sides : FnScope ["self", "number"] ["self", "number"] (defScope s_Growth_sides) := ⟨rfl, rfl, rfl, by decide +kernel, rfl, by decide +kernel, by decide +kernel⟩
abbrev s_Growth_turn : Stmt := inClass (top 23) 3
abbrev nm_Growth_turn : List Str := ["self", "word", "address", "top", "letter", "left", "right", "outer", "inner"]
theorem sc_Growth_turn : FnScope ["self", "word", "address", "top", "letter", "left", "right", "outer", "inner"] ["self", "word", "address"] (defScope s_Growth_turn) := ⟨rfl, rfl, rfl, by decide +kernel, rfl, by decide +kernel, by decide +kernel⟩
abbrev s_Move___init__ : Stmt := inClass (top 31) 0
abbrev nm_Move___init__ : List Str := ["self", "before", "after"]
theorem sc_Move___init__ : FnScope ["self", "before", "after"] ["self", "before", "after"] (defScope s_Move___init__) := ⟨rfl, rfl, rfl, by decide +kernel, rfl, by decide +kernel, by decide +kernel⟩
abbrev s_Move_of : Stmt := inClass (top 31) 1
abbrev nm_Move_of : List Str := ["steps", "before", "after"]
theorem sc_Move_of : FnScope ["steps", "before", "after"] ["steps"] (defScope s_Move_of) := ⟨rfl, rfl, rfl, by decide +kernel, rfl, by decide +kernel, by decide +kernel⟩
abbrev s_Move_before : Stmt := inClass (top 31) 2
abbrev nm_Move_before : List Str := ["self"]
theorem sc_Move_before : FnScope ["self"] ["self"] (defScope s_Move_before) := ⟨rfl, rfl, rfl, by decide +kernel, rfl, by decide +kernel, by decide +kernel⟩
abbrev s_Move_after : Stmt := inClass (top 31) 3
abbrev nm_Move_after : List Str := ["self"]
theorem sc_Move_after : FnScope ["self"] ["self"] (defScope s_Move_after) := ⟨rfl, rfl, rfl, by decide +kernel, rfl, by decide +kernel, by decide +kernel⟩
abbrev s_Move___call__ : Stmt := inClass (top 31) 4
abbrev nm_Move___call__ : List Str := ["self", "tree"]
theorem sc_Move___call__ : FnScope ["self", "tree"] ["self", "tree"] (defScope s_Move___call__) := ⟨rfl, rfl, rfl, by decide +kernel, rfl, by decide +kernel, by decide +kernel⟩
abbrev s_Move_can : Stmt := inClass (top 31) 5
abbrev nm_Move_can : List Str := ["self", "tree"]
theorem sc_Move_can : FnScope ["self", "tree"] ["self", "tree"] (defScope s_Move_can) := ⟨rfl, rfl, rfl, by decide +kernel, rfl, by decide +kernel, by decide +kernel⟩
abbrev s_Move___eq__ : Stmt := inClass (top 31) 6
abbrev nm_Move___eq__ : List Str := ["self", "other"]
theorem sc_Move___eq__ : FnScope ["self", "other"] ["self", "other"] (defScope s_Move___eq__) := ⟨rfl, rfl, rfl, by decide +kernel, rfl, by decide +kernel, by decide +kernel⟩
abbrev s_Move___repr__ : Stmt := inClass (top 31) 7
abbrev nm_Move___repr__ : List Str := ["self"]
theorem sc_Move___repr__ : FnScope ["self"] ["self"] (defScope s_Move___repr__) := ⟨rfl, rfl, rfl, by decide +kernel, rfl, by decide +kernel, by decide +kernel⟩
abbrev s_Move___mul__ : Stmt := inClass (top 31) 8
abbrev nm_Move___mul__ : List Str := ["self", "other", "middle", "before"]
theorem sc_Move___mul__ : FnScope ["self", "other", "middle", "before"] ["self", "other"] (defScope s_Move___mul__) := ⟨rfl, rfl, rfl, by decide +kernel, rfl, by decide +kernel, by decide +kernel⟩
abbrev s_Move___invert__ : Stmt := inClass (top 31) 9
abbrev nm_Move___invert__ : List Str := ["self"]
theorem sc_Move___invert__ : FnScope ["self"] ["self"] (defScope s_Move___invert__) := ⟨rfl, rfl, rfl, by decide +kernel, rfl, by decide +kernel, by decide +kernel⟩
abbrev s_Move_times : Stmt := inClass (top 31) 10
abbrev nm_Move_times : List Str := ["self", "count", "once", "done", "place"]
theorem sc_Move_times : FnScope ["self", "count", "once", "done", "place"] ["self", "count"] (defScope s_Move_times) := ⟨rfl, rfl, rfl, by decide +kernel, rfl, by decide +kernel, by decide +kernel⟩
abbrev s_Move___le__ : Stmt := inClass (top 31) 11
abbrev nm_Move___le__ : List Str := ["self", "other", "trees"]
theorem sc_Move___le__ : FnScope ["self", "other", "trees"] ["self", "other"] (defScope s_Move___le__) := ⟨rfl, rfl, rfl, by decide +kernel, rfl, by decide +kernel, by decide +kernel⟩
abbrev s_Move___lt__ : Stmt := inClass (top 31) 12
abbrev nm_Move___lt__ : List Str := ["self", "other"]
theorem sc_Move___lt__ : FnScope ["self", "other"] ["self", "other"] (defScope s_Move___lt__) := ⟨rfl, rfl, rfl, by decide +kernel, rfl, by decide +kernel, by decide +kernel⟩
abbrev s_Move___ge__ : Stmt := inClass (top 31) 13
abbrev nm_Move___ge__ : List Str := ["self", "other"]
theorem sc_Move___ge__ : FnScope ["self", "other"] ["self", "other"] (defScope s_Move___ge__) := ⟨rfl, rfl, rfl, by decide +kernel, rfl, by decide +kernel, by decide +kernel⟩
abbrev s_Move___gt__ : Stmt := inClass (top 31) 14
abbrev nm_Move___gt__ : List Str := ["self", "other"]
theorem sc_Move___gt__ : FnScope ["self", "other"] ["self", "other"] (defScope s_Move___gt__) := ⟨rfl, rfl, rfl, by decide +kernel, rfl, by decide +kernel, by decide +kernel⟩
abbrev veL : List Value := [.type "ValueError", .type "Exception", .type "BaseException", .type "object"]
abbrev kv_OTHER_WORD : List (Str × Str) := [("left", "right"), ("right", "left")]
structure Txt (w : World) (K : PySem.W.Frag) (mg : Str → Option Value) where
  c_TurnError : Addr
  g_TurnError : mg "TurnError" = some (.ref c_TurnError)
  e_TurnError : ErrC K c_TurnError (.ref c_TurnError :: veL)
  c_InvalidTree : Addr
  o_InvalidTree : OwnE K mg "InvalidTree" c_InvalidTree "value" "value"
  g_InvalidTree : mg "InvalidTree" = some (.ref c_InvalidTree)
  e_InvalidTree : ErrC K c_InvalidTree (.ref c_InvalidTree :: .ref c_TurnError :: veL)
  x_InvalidTree : XfC K c_InvalidTree
  n_InvalidTree : PySem.W.findIn K (.ref c_InvalidTree) "value" = some none
  c_InvalidList : Addr
  o_InvalidList : OwnE K mg "InvalidList" c_InvalidList "value" "value"
  g_InvalidList : mg "InvalidList" = some (.ref c_InvalidList)
  e_InvalidList : ErrC K c_InvalidList (.ref c_InvalidList :: .ref c_TurnError :: veL)
  x_InvalidList : XfC K c_InvalidList
  n_InvalidList : PySem.W.findIn K (.ref c_InvalidList) "value" = some none
  c_InvalidNumber : Addr
  o_InvalidNumber : OwnE K mg "InvalidNumber" c_InvalidNumber "value" "value"
  g_InvalidNumber : mg "InvalidNumber" = some (.ref c_InvalidNumber)
  e_InvalidNumber : ErrC K c_InvalidNumber (.ref c_InvalidNumber :: .ref c_TurnError :: veL)
  x_InvalidNumber : XfC K c_InvalidNumber
  n_InvalidNumber : PySem.W.findIn K (.ref c_InvalidNumber) "value" = some none
  c_InvalidScript : Addr
  o_InvalidScript : OwnE K mg "InvalidScript" c_InvalidScript "value" "value"
  g_InvalidScript : mg "InvalidScript" = some (.ref c_InvalidScript)
  e_InvalidScript : ErrC K c_InvalidScript (.ref c_InvalidScript :: .ref c_TurnError :: veL)
  x_InvalidScript : XfC K c_InvalidScript
  n_InvalidScript : PySem.W.findIn K (.ref c_InvalidScript) "value" = some none
  c_InvalidMove : Addr
  o_InvalidMove : OwnE K mg "InvalidMove" c_InvalidMove "value" "value"
  g_InvalidMove : mg "InvalidMove" = some (.ref c_InvalidMove)
  e_InvalidMove : ErrC K c_InvalidMove (.ref c_InvalidMove :: .ref c_TurnError :: veL)
  x_InvalidMove : XfC K c_InvalidMove
  n_InvalidMove : PySem.W.findIn K (.ref c_InvalidMove) "value" = some none
  c_CannotMove : Addr
  o_CannotMove : OwnE K mg "CannotMove" c_CannotMove "value" "value"
  g_CannotMove : mg "CannotMove" = some (.ref c_CannotMove)
  e_CannotMove : ErrC K c_CannotMove (.ref c_CannotMove :: .ref c_TurnError :: veL)
  x_CannotMove : XfC K c_CannotMove
  n_CannotMove : PySem.W.findIn K (.ref c_CannotMove) "value" = some none
  nd : [c_InvalidTree, c_InvalidList, c_InvalidNumber, c_InvalidScript, c_InvalidMove, c_CannotMove, c_TurnError].Nodup
  a_is_tree : Addr
  fd_is_tree : FuncData
  F_is_tree : Fun K "is_tree" "is_tree" s_is_tree a_is_tree fd_is_tree
  b_is_tree : Binds K fd_is_tree ["value"] []
  m_is_tree : mg "is_tree" = some (.ref a_is_tree)
  a_is_address : Addr
  fd_is_address : FuncData
  F_is_address : Fun K "is_address" "is_address" s_is_address a_is_address fd_is_address
  b_is_address : Binds K fd_is_address ["value"] []
  m_is_address : mg "is_address" = some (.ref a_is_address)
  a_check_tree : Addr
  fd_check_tree : FuncData
  F_check_tree : Fun K "check_tree" "check_tree" s_check_tree a_check_tree fd_check_tree
  b_check_tree : Binds K fd_check_tree ["value"] []
  m_check_tree : mg "check_tree" = some (.ref a_check_tree)
  a_ends : Addr
  fd_ends : FuncData
  F_ends : Fun K "ends" "ends" s_ends a_ends fd_ends
  b_ends : Binds K fd_ends ["tree"] []
  m_ends : mg "ends" = some (.ref a_ends)
  a_check_hung : Addr
  fd_check_hung : FuncData
  F_check_hung : Fun K "check_hung" "check_hung" s_check_hung a_check_hung fd_check_hung
  b_check_hung : Binds K fd_check_hung ["tree", "trees"] []
  m_check_hung : mg "check_hung" = some (.ref a_check_hung)
  a_grown : Addr
  fd_grown : FuncData
  F_grown : Fun K "grown" "grown" s_grown a_grown fd_grown
  b_grown : Binds K fd_grown ["tree", "hung"] []
  m_grown : mg "grown" = some (.ref a_grown)
  a_hung : Addr
  fd_hung : FuncData
  F_hung : Fun K "hung" "hung" s_hung a_hung fd_hung
  b_hung : Binds K fd_hung ["tree", "top"] []
  m_hung : mg "hung" = some (.ref a_hung)
  a_joined : Addr
  fd_joined : FuncData
  F_joined : Fun K "joined" "joined" s_joined a_joined fd_joined
  b_joined : Binds K fd_joined ["one", "other"] []
  m_joined : mg "joined" = some (.ref a_joined)
  a_shared : Addr
  fd_shared : FuncData
  F_shared : Fun K "shared" "shared" s_shared a_shared fd_shared
  b_shared : Binds K fd_shared ["one", "other"] []
  m_shared : mg "shared" = some (.ref a_shared)
  a_is_step : Addr
  fd_is_step : FuncData
  F_is_step : Fun K "is_step" "is_step" s_is_step a_is_step fd_is_step
  b_is_step : Binds K fd_is_step ["value"] []
  m_is_step : mg "is_step" = some (.ref a_is_step)
  a_checked_script : Addr
  fd_checked_script : FuncData
  F_checked_script : Fun K "checked_script" "checked_script" s_checked_script a_checked_script fd_checked_script
  b_checked_script : Binds K fd_checked_script ["steps"] []
  m_checked_script : mg "checked_script" = some (.ref a_checked_script)
  a_written : Addr
  fd_written : FuncData
  F_written : Fun K "written" "written" s_written a_written fd_written
  b_written : Binds K fd_written ["pairs"] []
  m_written : mg "written" = some (.ref a_written)
  a_pair_of : Addr
  fd_pair_of : FuncData
  F_pair_of : Fun K "pair_of" "pair_of" s_pair_of a_pair_of fd_pair_of
  b_pair_of : Binds K fd_pair_of ["steps"] []
  m_pair_of : mg "pair_of" = some (.ref a_pair_of)
  a_is_whole : Addr
  fd_is_whole : FuncData
  F_is_whole : Fun K "is_whole" "is_whole" s_is_whole a_is_whole fd_is_whole
  b_is_whole : Binds K fd_is_whole ["value"] []
  m_is_whole : mg "is_whole" = some (.ref a_is_whole)
  a_check_whole : Addr
  fd_check_whole : FuncData
  F_check_whole : Fun K "check_whole" "check_whole" s_check_whole a_check_whole fd_check_whole
  b_check_whole : Binds K fd_check_whole ["value"] []
  m_check_whole : mg "check_whole" = some (.ref a_check_whole)
  a_moved : Addr
  fd_moved : FuncData
  F_moved : Fun K "moved" "moved" s_moved a_moved fd_moved
  b_moved : Binds K fd_moved ["tree", "before", "after"] []
  m_moved : mg "moved" = some (.ref a_moved)
  a_law_cell : Addr
  fd_law_cell : FuncData
  F_law_cell : Fun K "_law_cell" "_law_cell" s_law_cell a_law_cell fd_law_cell
  b_law_cell : Binds K fd_law_cell ["_law_script", "_law_index"] []
  m_law_cell : mg "_law_cell" = some (.ref a_law_cell)
  a_law_hash : Addr
  fd_law_hash : FuncData
  F_law_hash : Fun K "_law_hash" "_law_hash" s_law_hash a_law_hash fd_law_hash
  b_law_hash : Binds K fd_law_hash ["_law_seed", "_law_index"] []
  m_law_hash : mg "_law_hash" = some (.ref a_law_hash)
  a_law_generator : Addr
  fd_law_generator : FuncData
  F_law_generator : Fun K "_law_generator" "_law_generator" s_law_generator a_law_generator fd_law_generator
  b_law_generator : Binds K fd_law_generator ["_law_script", "_law_index"] []
  m_law_generator : mg "_law_generator" = some (.ref a_law_generator)
  a_law_address : Addr
  fd_law_address : FuncData
  F_law_address : Fun K "_law_address" "_law_address" s_law_address a_law_address fd_law_address
  b_law_address : Binds K fd_law_address ["_law_generator_here", "_law_longest"] []
  m_law_address : mg "_law_address" = some (.ref a_law_address)
  a_law_steps : Addr
  fd_law_steps : FuncData
  F_law_steps : Fun K "_law_steps" "_law_steps" s_law_steps a_law_steps fd_law_steps
  b_law_steps : Binds K fd_law_steps ["_law_generator_here", "_law_many", "_law_deep"] []
  m_law_steps : mg "_law_steps" = some (.ref a_law_steps)
  a_law_random : Addr
  fd_law_random : FuncData
  F_law_random : Fun K "_law_random" "_law_random" s_law_random a_law_random fd_law_random
  b_law_random : Binds K fd_law_random ["_law_generator_here", "_law_bound"] []
  m_law_random : mg "_law_random" = some (.ref a_law_random)
  a_law_caught : Addr
  fd_law_caught : FuncData
  F_law_caught : Fun K "_law_caught" "_law_caught" s_law_caught a_law_caught fd_law_caught
  b_law_caught : Binds K fd_law_caught ["_law_move", "_law_often"] []
  m_law_caught : mg "_law_caught" = some (.ref a_law_caught)
  a_law_product : Addr
  fd_law_product : FuncData
  F_law_product : Fun K "_law_product" "_law_product" s_law_product a_law_product fd_law_product
  b_law_product : Binds K fd_law_product ["_law_move", "_law_often"] []
  m_law_product : mg "_law_product" = some (.ref a_law_product)
  a_law_great_right : Addr
  fd_law_great_right : FuncData
  F_law_great_right : Fun K "_law_great_right" "_law_great_right" s_law_great_right a_law_great_right fd_law_great_right
  b_law_great_right : Binds K fd_law_great_right ["_law_generator_here"] []
  m_law_great_right : mg "_law_great_right" = some (.ref a_law_great_right)
  a_law : Addr
  fd_law : FuncData
  F_law : Fun K "law" "law" s_law a_law fd_law
  b_law : Binds K fd_law ["_law_script"] []
  m_law : mg "law" = some (.ref a_law)
  z_isinstance : mg "isinstance" = none
  z_str : mg "str" = none
  z_len : mg "len" = none
  z_list : mg "list" = none
  z_int : mg "int" = none
  z_max : mg "max" = none
  z_range : mg "range" = none
  z_tuple : mg "tuple" = none
  z_all : mg "all" = none
  z_enumerate : mg "enumerate" = none
  z_zip : mg "zip" = none
  z_repr : mg "repr" = none
  z_reversed : mg "reversed" = none
  z_abs : mg "abs" = none
  z_bool : mg "bool" = none
  d_OTHER_WORD : Addr
  m_OTHER_WORD : mg "OTHER_WORD" = some (.ref d_OTHER_WORD)
  k_OTHER_WORD : TD.KD K w d_OTHER_WORD kv_OTHER_WORD
  c_Growth : Addr
  g_Growth : mg "Growth" = some (.ref c_Growth)
  l_Growth : Cls K c_Growth
  n_Growth_origin : NoAttr K c_Growth "origin"
  n_Growth_current : NoAttr K c_Growth "current"
  n_Growth_many : NoAttr K c_Growth "many"
  a_Growth___init__ : Addr
  fd_Growth___init__ : FuncData
  F_Growth___init__ : Fun K "__init__" "Growth.__init__" s_Growth___init__ a_Growth___init__ fd_Growth___init__
  b_Growth___init__ : Binds K fd_Growth___init__ ["self"] []
  k_Growth : Mk K c_Growth a_Growth___init__
  a_Growth_unfold : Addr
  fd_Growth_unfold : FuncData
  F_Growth_unfold : Fun K "unfold" "Growth.unfold" s_Growth_unfold a_Growth_unfold fd_Growth_unfold
  b_Growth_unfold : Binds K fd_Growth_unfold ["self", "number"] []
  t_Growth_unfold : Meth K c_Growth "unfold" a_Growth_unfold
  a_Growth_sides : Addr
  fd_Growth_sides : FuncData
  F_Growth_sides : Fun K "sides" "Growth.sides" s_Growth_sides a_Growth_sides fd_Growth_sides
  b_Growth_sides : Binds K fd_Growth_sides ["self", "number"] []
  t_Growth_sides : Meth K c_Growth "sides" a_Growth_sides
  a_Growth_turn : Addr
  fd_Growth_turn : FuncData
  F_Growth_turn : Fun K "turn" "Growth.turn" s_Growth_turn a_Growth_turn fd_Growth_turn
  b_Growth_turn : Binds K fd_Growth_turn ["self", "word", "address"] []
  t_Growth_turn : Meth K c_Growth "turn" a_Growth_turn
  c_Move : Addr
  g_Move : mg "Move" = some (.ref c_Move)
  l_Move : Cls K c_Move
  n_Move__before : NoAttr K c_Move "_before"
  n_Move__after : NoAttr K c_Move "_after"
  mc_Move : Value
  r_Move : ClX.CRead K c_Move mc_Move
  sf_Move : PySem.W.selfFirst K c_Move = true
  ne_Move : OW.NeC K c_Move
  y_Move : OW.TyC K c_Move
  ktint_Move : PySem.W.kitOne K (.ref c_Move) (.type "int") = some false
  ktbool_Move : PySem.W.kitOne K (.ref c_Move) (.type "bool") = some false
  ktstr_Move : PySem.W.kitOne K (.ref c_Move) (.type "str") = some false
  tt_Move : PySem.W.typeIn K (.ref c_Move) = some (.type "type")
  a_Move___init__ : Addr
  fd_Move___init__ : FuncData
  F_Move___init__ : Fun K "__init__" "Move.__init__" s_Move___init__ a_Move___init__ fd_Move___init__
  b_Move___init__ : Binds K fd_Move___init__ ["self", "before", "after"] []
  k_Move : Mk K c_Move a_Move___init__
  a_Move_of : Addr
  fd_Move_of : FuncData
  F_Move_of : Fun K "of" "Move.of" s_Move_of a_Move_of fd_Move_of
  b_Move_of : Binds K fd_Move_of ["steps"] []
  pa_Move_of : Addr
  s_Move_of : OW.SMet K c_Move mc_Move "of" pa_Move_of a_Move_of
  a_Move_before : Addr
  fd_Move_before : FuncData
  F_Move_before : Fun K "before" "Move.before" s_Move_before a_Move_before fd_Move_before
  b_Move_before : Binds K fd_Move_before ["self"] []
  pa_Move_before : Addr
  p_Move_before : PropOf K c_Move "before" pa_Move_before a_Move_before
  a_Move_after : Addr
  fd_Move_after : FuncData
  F_Move_after : Fun K "after" "Move.after" s_Move_after a_Move_after fd_Move_after
  b_Move_after : Binds K fd_Move_after ["self"] []
  pa_Move_after : Addr
  p_Move_after : PropOf K c_Move "after" pa_Move_after a_Move_after
  a_Move___call__ : Addr
  fd_Move___call__ : FuncData
  F_Move___call__ : Fun K "__call__" "Move.__call__" s_Move___call__ a_Move___call__ fd_Move___call__
  b_Move___call__ : Binds K fd_Move___call__ ["self", "tree"] []
  q_Move : OW.CallC K c_Move a_Move___call__
  a_Move_can : Addr
  fd_Move_can : FuncData
  F_Move_can : Fun K "can" "Move.can" s_Move_can a_Move_can fd_Move_can
  b_Move_can : Binds K fd_Move_can ["self", "tree"] []
  t_Move_can : Meth K c_Move "can" a_Move_can
  a_Move___eq__ : Addr
  fd_Move___eq__ : FuncData
  F_Move___eq__ : Fun K "__eq__" "Move.__eq__" s_Move___eq__ a_Move___eq__ fd_Move___eq__
  b_Move___eq__ : Binds K fd_Move___eq__ ["self", "other"] []
  o_Move___eq__ : OW.Own K c_Move "__eq__" a_Move___eq__
  a_Move___repr__ : Addr
  fd_Move___repr__ : FuncData
  F_Move___repr__ : Fun K "__repr__" "Move.__repr__" s_Move___repr__ a_Move___repr__ fd_Move___repr__
  b_Move___repr__ : Binds K fd_Move___repr__ ["self"] []
  o_Move___repr__ : OW.Own K c_Move "__repr__" a_Move___repr__
  a_Move___mul__ : Addr
  fd_Move___mul__ : FuncData
  F_Move___mul__ : Fun K "__mul__" "Move.__mul__" s_Move___mul__ a_Move___mul__ fd_Move___mul__
  b_Move___mul__ : Binds K fd_Move___mul__ ["self", "other"] []
  o_Move___mul__ : OW.Own K c_Move "__mul__" a_Move___mul__
  a_Move___invert__ : Addr
  fd_Move___invert__ : FuncData
  F_Move___invert__ : Fun K "__invert__" "Move.__invert__" s_Move___invert__ a_Move___invert__ fd_Move___invert__
  b_Move___invert__ : Binds K fd_Move___invert__ ["self"] []
  o_Move___invert__ : OW.Own K c_Move "__invert__" a_Move___invert__
  a_Move_times : Addr
  fd_Move_times : FuncData
  F_Move_times : Fun K "times" "Move.times" s_Move_times a_Move_times fd_Move_times
  b_Move_times : Binds K fd_Move_times ["self", "count"] []
  t_Move_times : Meth K c_Move "times" a_Move_times
  a_Move___le__ : Addr
  fd_Move___le__ : FuncData
  F_Move___le__ : Fun K "__le__" "Move.__le__" s_Move___le__ a_Move___le__ fd_Move___le__
  b_Move___le__ : Binds K fd_Move___le__ ["self", "other"] []
  o_Move___le__ : OW.Own K c_Move "__le__" a_Move___le__
  a_Move___lt__ : Addr
  fd_Move___lt__ : FuncData
  F_Move___lt__ : Fun K "__lt__" "Move.__lt__" s_Move___lt__ a_Move___lt__ fd_Move___lt__
  b_Move___lt__ : Binds K fd_Move___lt__ ["self", "other"] []
  o_Move___lt__ : OW.Own K c_Move "__lt__" a_Move___lt__
  a_Move___ge__ : Addr
  fd_Move___ge__ : FuncData
  F_Move___ge__ : Fun K "__ge__" "Move.__ge__" s_Move___ge__ a_Move___ge__ fd_Move___ge__
  b_Move___ge__ : Binds K fd_Move___ge__ ["self", "other"] []
  o_Move___ge__ : OW.Own K c_Move "__ge__" a_Move___ge__
  a_Move___gt__ : Addr
  fd_Move___gt__ : FuncData
  F_Move___gt__ : Fun K "__gt__" "Move.__gt__" s_Move___gt__ a_Move___gt__ fd_Move___gt__
  b_Move___gt__ : Binds K fd_Move___gt__ ["self", "other"] []
  o_Move___gt__ : OW.Own K c_Move "__gt__" a_Move___gt__
/-! ### words for trees -/
abbrev trV (t : Tr) : V := .str (S t.cs)
/-- all but what stands at g is as it was -/
def Keep (g : Addr) (H H' : Hp) : Prop := ∀ b o, b ≠ g → H b = some o → H' b = some o
/-- a generator: its third number is at most n -/
def GenAt (H : Hp) (g : Addr) (n : Nat) : Prop := ∃ a b c : Int, H g = some (.lst [.int a, .int b, .int c]) ∧ 0 ≤ c ∧ c ≤ (n : Int)
def NotStr (K : PySem.W.Frag) (H : Hp) (v : V) : Prop := ∃ t, TyX K H v t ∧ PySem.W.kitOne K t (.type "str") = some false
/-- how is_tree reads, its stack's top first -/
def isT : List Nat → List Str → Bool
  | [], st => st.isEmpty
  | c :: cs, st =>
    if st.headD "end" = "tree" ∧ S [c] = "(" then isT cs ("tree" :: "tree" :: ")" :: st.tail)
    else if st.headD "end" ≠ S [c] ∧ ¬ (st.headD "end" = "tree" ∧ S [c] = ".") then false
    else isT cs st.tail
def sp_is_tree (K : PySem.W.Frag) : Sp := fun vs H Q _ => ∃ v, vs = [v] ∧ ((∃ x : Str, v = .str x ∧ x.length ≤ 1000000 ∧ ∀ H', Same H H' → Q (.bl (isT x.cps.toList ["tree"])) H') ∨ (NotStr K H v ∧ Q (.bl false) H))
def sp_law_cell (K : PySem.W.Frag) : Sp := fun vs H Q _ => ∃ (a : Addr) (ns : List Int) (i : Nat), vs = [.ref a, .int i] ∧ SqL K H a (ns.map V.int) ∧ Q (.int (ns.getD i 0)) H
def sp_law_hash (K : PySem.W.Frag) : Sp := fun vs H Q _ => ∃ s i : Int, vs = [.int s, .int i] ∧ 0 ≤ i ∧ i ≤ 1000000000000000 ∧ ∀ r : Int, Q (.int r) H
def sp_law_generator (K : PySem.W.Frag) : Sp := fun vs H Q _ => ∃ (a : Addr) (ns : List Int) (i : Nat), vs = [.ref a, .int i] ∧ SqL K H a (ns.map V.int) ∧ ∀ g H', H g = none → Same H H' → GenAt H' g (1000 * i) → Q (.ref g) H'
def sp_law_random (K : PySem.W.Frag) : Sp := fun vs H Q _ => ∃ (g : Addr) (b : Int) (n : Nat), vs = [.ref g, .int b] ∧ GenAt H g n ∧ n ≤ 100000000000000 ∧ 1 ≤ b ∧ b < 1000000000000000 ∧
  ∀ (r : Int) H', 0 ≤ r → r < b → Keep g H H' → GenAt H' g (n + 3) → Q (.int r) H'
def sp_law_tree (K : PySem.W.Frag) (k : Nat) : Sp := fun vs H Q _ => ∃ (g : Addr) (m n : Nat), vs = [.ref g, .int m] ∧ m < k ∧ m ≤ 2000 ∧ GenAt H g n ∧ n + 6 * m ≤ 10000000000000 ∧
  ∀ (t : Tr) H', t.size = m → Keep g H H' → GenAt H' g (n + 6 * m) → Q (trV t) H'
theorem tyX_same {K : PySem.W.Frag} {H H' : Hp} {x : V} {t : Value} (h : TyX K H x t) (s : Same H H') : TyX K H' x t := by
  cases h with
  | base h =>
    cases h with
    | non => exact .base .non
    | bl b => exact .base (.bl b)
    | int i => exact .base (.int i)
    | str z => exact .base (.str z)
    | flt z => exact .base (.flt z)
    | lst e => exact .base (.lst (s _ _ e))
    | frz e => exact .base (.frz (s _ _ e))
    | tup e => exact .base (.tup (s _ _ e))
    | dK e => exact .base (.dK (s _ _ e))
    | dT e => exact .base (.dT (s _ _ e))
    | ins e cl a b c d => exact .base (.ins (s _ _ e) cl a b c d)
  | byt b => exact .byt b
  | set e => exact .set (s _ _ e)
  | kList e c => exact .kList e c
  | kTuple e c => exact .kTuple e c
  | kDict e c => exact .kDict e c
  | fTuple e => exact .fTuple (s _ _ e)
  | fDict e => exact .fDict (s _ _ e)

/-! ### what may be refused -/
def NotTree (K : PySem.W.Frag) (H : Hp) (v : V) : Prop := (∃ x : Str, v = .str x ∧ x.length ≤ 1000000 ∧ isT x.cps.toList ["tree"] = false) ∨ NotStr K H v
/-- an error of the class at C with the value v leaves -/
def Out (C : Addr) (v : V) (H : Hp) (E : XK) : Prop := ∀ d H', Same H H' → H d = none → H' d = some (.xd [("value", v)]) → E (.ref C) (some d) H'
def GoodL (H : Hp) (t : Tr) (v : V) (xs : List Tr) : Prop := ∃ a, v = .ref a ∧ H a = some (.lst (xs.map trV)) ∧ xs.length = t.lvs ∧ ∀ x ∈ xs, x.size ≤ 2000
def BadL (K : PySem.W.Frag) (H : Hp) (t : Tr) (v : V) : Prop := (∃ ty, TyX K H v ty ∧ PySem.W.kitOne K ty (.type "list") = some false) ∨
  ∃ a ws, v = .ref a ∧ H a = some (.lst ws) ∧ ws.length ≤ 100000 ∧ (ws.length ≠ t.lvs ∨ (∀ u ∈ ws, (∃ x : Tr, u = trV x ∧ x.size ≤ 2000) ∨ NotTree K H u) ∧ ∃ u ∈ ws, NotTree K H u)
theorem NotStr.same {K : PySem.W.Frag} {H H' : Hp} {v : V} (h : NotStr K H v) (s : Same H H') : NotStr K H' v := let ⟨t, a, b⟩ := h; ⟨t, tyX_same a s, b⟩
theorem NotTree.same {K : PySem.W.Frag} {H H' : Hp} {v : V} (h : NotTree K H v) (s : Same H H') : NotTree K H' v := h.imp id fun z => z.same s
theorem Out.same {C : Addr} {v : V} {H H' : Hp} {E : XK} (h : Out C v H E) (s : Same H H') : Out C v H' E := fun d H2 s2 n e => h d H2 (s.trans s2) (s.free n) e
theorem GoodL.same {H H' : Hp} {t : Tr} {v : V} {xs : List Tr} (h : GoodL H t v xs) (s : Same H H') : GoodL H' t v xs := let ⟨a, e, g, r⟩ := h; ⟨a, e, s _ _ g, r⟩
theorem BadL.same {K : PySem.W.Frag} {H H' : Hp} {t : Tr} {v : V} (h : BadL K H t v) (s : Same H H') : BadL K H' t v := by
  rcases h with ⟨ty, a, b⟩ | ⟨a, ws, e, g, l, r⟩
  · exact .inl ⟨ty, tyX_same a s, b⟩
  · refine .inr ⟨a, ws, e, s _ _ g, l, r.imp id fun ⟨al, u, hu, nu⟩ => ⟨fun z hz => (al z hz).imp id fun n => n.same s, u, hu, nu.same s⟩⟩

/-! ### trees as nested tuples -/
inductive PT (H : Hp) : V → Tr → Prop
  | leaf {p : Addr} : H p = some (.tup []) → PT H (.ref p) .leaf
  | node {p : Addr} {x y : V} {l r : Tr} : H p = some (.tup [x, y]) → PT H x l → PT H y r → PT H (.ref p) (.node l r)
theorem PT.same {H H' : Hp} (s : Same H H') : ∀ {v : V} {t : Tr}, PT H v t → PT H' v t
  | _, _, .leaf h => .leaf (s _ _ h)
  | _, _, .node h a b => .node (s _ _ h) (PT.same s a) (PT.same s b)
/-- all but what stands at g, which is a list -/
theorem PT.keep {H H' : Hp} {g : Addr} {ws : List V} (s : Keep g H H') (hg : H g = some (.lst ws)) : ∀ {v : V} {t : Tr}, PT H v t → PT H' v t
  | _, _, .leaf h => .leaf (s _ _ (ne_of h hg fun z => by cases z) h)
  | _, _, .node h a b => .node (s _ _ (ne_of h hg fun z => by cases z) h) (PT.keep s hg a) (PT.keep s hg b)
def tD : Tr → PyData
  | .leaf => .tuple []
  | .node l r => .tuple [tD l, tD r]
theorem PT.dp {K : PySem.W.Frag} {H : Hp} : ∀ {v : V} {t : Tr}, PT H v t → Dp K H v (tD t)
  | _, _, .leaf h => .tup (SqT.of h) .nil
  | _, _, .node h a b => .tup (SqT.of h) (.cons (PT.dp a) (.cons (PT.dp b) .nil))
theorem tD_depth : ∀ t : Tr, (tD t).depth = Tr.hgt t + 1
  | .leaf => by simp [tD, PyData.depth, PyData.depthAll, Tr.hgt]
  | .node l r => by
    have h1 := tD_depth l
    have h2 := tD_depth r
    simp only [tD, PyData.depth, PyData.depthAll, Tr.hgt, h1, h2]
    omega
theorem tD_lay : ∀ t : Tr, (tD t).canLay0 = true
  | .leaf => by simp [tD, PyData.canLay0, PyData.canLayAll0]
  | .node l r => by
    simp only [tD, PyData.canLay0, PyData.canLayAll0, tD_lay l, tD_lay r]
    rfl
theorem tD_shaped {t : Tr} (h : Tr.hgt t ≤ 62) : SeqAt.shaped (tD t) = true := by
  unfold SeqAt.shaped
  rw [tD_lay, tD_depth]
  simp
  omega
theorem tD_leaf : ∀ t : Tr, PyData.eqv (tD t) (.tuple []) = decide (t = .leaf)
  | .leaf => by simp [tD, PyData.eqv, PyData.eqvAll]
  | .node l r => by simp [tD, PyData.eqv, PyData.eqvAll]
/-- x == () -/
theorem eqLeaf {K : PySem.W.Frag} {H : Hp} {v : V} {t : Tr} {p : Addr} {Q : VK} (h : PT H v t) (ht : Tr.hgt t ≤ 62) (hp : H p = some (.tup [])) (q : Q (.bl (decide (t = .leaf))) H) : rEqD K v (.ref p) H Q :=
  ⟨tD t, .tuple [], h.dp, .tup (SqT.of hp) .nil, tD_shaped ht, by decide +kernel, by rw [tD_leaf]; exact q⟩
section
variable {w : World} {K : PySem.W.Frag} {mg : Str → Option Value}
def sp_law_parsed (K : PySem.W.Frag) : Sp := fun vs H Q _ => ∃ t : Tr, vs = [trV t] ∧ t.size ≤ 2000 ∧ ∀ v H', Same H H' → PT H' v t → Q v H'
end
inductive PTs (H : Hp) : List V → List Tr → Prop
  | nil : PTs H [] []
  | cons {v : V} {t : Tr} {vs : List V} {ts : List Tr} : PT H v t → PTs H vs ts → PTs H (v :: vs) (t :: ts)
theorem PTs.same {H H' : Hp} (s : Same H H') : ∀ {vs : List V} {ts : List Tr}, PTs H vs ts → PTs H' vs ts
  | _, _, .nil => .nil
  | _, _, .cons a b => .cons (a.same s) (PTs.same s b)
theorem PTs.keep {H H' : Hp} {g : Addr} {ws : List V} (s : Keep g H H') (hg : H g = some (.lst ws)) : ∀ {vs : List V} {ts : List Tr}, PTs H vs ts → PTs H' vs ts
  | _, _, .nil => .nil
  | _, _, .cons a b => .cons (a.keep s hg) (PTs.keep s hg b)
theorem PTs.length {H : Hp} : ∀ {vs : List V} {ts : List Tr}, PTs H vs ts → vs.length = ts.length
  | _, _, .nil => rfl
  | _, _, .cons _ b => congrArg Nat.succ (PTs.length b)
theorem PTs.append {H : Hp} : ∀ {vs : List V} {ts : List Tr} {us : List V} {rs : List Tr}, PTs H vs ts → PTs H us rs → PTs H (vs ++ us) (ts ++ rs)
  | _, _, _, _, .nil, b => b
  | _, _, _, _, .cons a c, b => .cons a (PTs.append c b)
section
variable {w : World} {K : PySem.W.Frag} {mg : Str → Option Value}
/-- a value that can be shown -/
structure Good (H : Hp) (y : V) (d : PyData) : Prop where
  dv : DV H d.hasDict y d
  sh : d.showable = true
  dp : d.depth ≤ 20
  ls : d.leavesShort 30 = true
  bk : d.bulk ≤ 200000
theorem Good.same {H H' : Hp} {y : V} {d : PyData} (g : Good H y d) (s : Same H H') : Good H' y d := ⟨g.dv.same s, g.sh, g.dp, g.ls, g.bk⟩
theorem Good.repr {H : Hp} {y : V} {d : PyData} {Q : VK} (g : Good H y d) (q : Q (.str d.shown) H) : rReprV [y] H Q := by
  have h1 := g.dp
  have h2 := PyData.shown_le_bulk 30 (by decide) d g.ls
  have h3 := g.bk
  have h4 : (30 + 2) * d.bulk ≤ (30 + 2) * 200000 := Nat.mul_le_mul_left _ h3
  exact ⟨y, d, d.hasDict, rfl, g.dv, id, g.sh, by omega, by rw [sizeLine_eq]; omega, q⟩
def sp_law (K : PySem.W.Frag) : Sp := fun vs H Q _ => ∃ (a : Addr) (ns : List Int), vs = [.ref a] ∧ SqL K H a (ns.map V.int) ∧ ns.length ≤ 63 ∧ ∀ H', Q (.bl true) H'
end

abbrev sV (a : List Nat) : V := .str (S a)
def isA (a : List Nat) : Bool := a.all fun c => c == 108 || c == 114
def NotAdr (K : PySem.W.Frag) (H : Hp) (v : V) : Prop := (∃ a : List Nat, v = sV a ∧ a.length ≤ 1000000 ∧ isA a = false) ∨ NotStr K H v
theorem Keep.trans {g : Addr} {H H1 H2 : Hp} (a : Keep g H H1) (b : Keep g H1 H2) : Keep g H H2 := fun p o hp ho => b p o hp (a p o hp ho)
theorem Keep.new {g p : Addr} {H H' : Hp} (a : Keep g H H') (hp : H p = none) (o : HO) : Keep g H (upd H' p o) := fun b u hb hu => by
  rw [upd_ne (ne_of_none hu hp)]; exact a b u hb hu
theorem Keep.of {g : Addr} {H H' : Hp} (a : Same H H') : Keep g H H' := fun p o _ ho => a p o ho
theorem GenAt.same {g : Addr} {H H' : Hp} {n : Nat} (h : GenAt H g n) (s : Same H H') : GenAt H' g n := by
  obtain ⟨a, b, c, h, x, y⟩ := h
  exact ⟨a, b, c, s _ _ h, x, y⟩
theorem GenAt.new {g p : Addr} {H : Hp} {n : Nat} {o : HO} (h : GenAt H g n) (hp : H p = none) : GenAt (upd H p o) g n := by
  obtain ⟨a, b, c, h, x, y⟩ := h
  exact ⟨a, b, c, by rw [upd_ne (ne_of_none h hp)]; exact h, x, y⟩
theorem GenAt.mono {g : Addr} {H : Hp} {n m : Nat} (h : GenAt H g n) (l : n ≤ m) : GenAt H g m := by
  obtain ⟨a, b, c, h, x, y⟩ := h
  exact ⟨a, b, c, h, x, by omega⟩
theorem GenAt.some {g : Addr} {H : Hp} {n : Nat} (h : GenAt H g n) : ∃ o, H g = some o := by
  obtain ⟨a, b, c, h, x, y⟩ := h
  exact ⟨_, h⟩
theorem Keep.free {g p : Addr} {H H' : Hp} (k : Keep g H H') (hg : ∃ o, H' g = some o) (h : H' p = none) (hgH : ∃ o, H g = some o) : H p = none := by
  cases e : H p with
  | none => rfl
  | some o =>
    obtain ⟨o', ho'⟩ := hg
    have : p ≠ g := fun z => by rw [z, ho'] at h; cases h
    rw [k p o this e] at h; cases h
theorem Keep.same {g : Addr} {H H' : Hp} (k : Keep g H H') (h : H g = none) : Same H H' := fun b o hb => k b o (ne_of_none hb h) hb
theorem Kept.keep {H H' : Hp} {g a C : Addr} {fs : List (Str × V)} {ws : List V} (x : Kept H a C fs) (k : Keep g H H') (hg : H g = some (.lst ws)) : Kept H' a C fs := by
  obtain ⟨d, h1, h2⟩ := x
  exact ⟨d, k _ _ (ne_of h1 hg fun z => by have z' : HO.ext _ = HO.lst _ := z; cases z') h1, k _ _ (ne_of h2 hg fun z => by cases z) h2⟩
theorem kitSelf {K : PySem.W.Frag} {C : Addr} : PySem.W.kitOne K (.ref C) (.ref C) = some true := by
  unfold PySem.W.kitOne
  rw [if_pos (beq_self_eq_true _)]
theorem okL (a : List Nat) (h : ∀ c ∈ a, c < 0x110000) : PyData.strOk (S a) = true := by
  unfold PyData.strOk
  rw [Array.all_eq_true_iff_forall_mem]
  intro c hc
  exact decide_eq_true (h c (by simpa using hc))
def Lr (xs : List (List Nat)) : Prop := ∀ a ∈ xs, ∀ c ∈ a, c < 0x110000
theorem dpL {K : PySem.W.Frag} {H : Hp} : ∀ xs : List (List Nat), DpAll K H (xs.map sV) (xs.map fun a => PyData.str (S a))
  | [] => .nil
  | x :: xs => .cons (.str _) (dpL xs)
theorem layL : ∀ xs : List (List Nat), Lr xs → PyData.canLayAll0 (xs.map fun a => PyData.str (S a)) = true
  | [], _ => by simp [PyData.canLayAll0]
  | x :: xs, h => by
    simp only [List.map_cons, PyData.canLayAll0, PyData.canLay0, layL xs fun y hy => h y (List.mem_cons_of_mem _ hy), okL x (h x (List.mem_cons_self ..))]
    rfl
theorem depL : ∀ xs : List (List Nat), PyData.depthAll (xs.map fun a => PyData.str (S a)) = 0
  | [] => by simp [PyData.depthAll]
  | x :: xs => by simp only [List.map_cons, PyData.depthAll, PyData.depth, depL xs]; rfl
theorem eqL0 : ∀ xs : List (List Nat), PyData.eqvAll (xs.map fun a => PyData.str (S a)) (xs.map fun a => PyData.str (S a)) = true
  | [] => by simp [PyData.eqvAll]
  | x :: xs => by simp only [List.map_cons, PyData.eqvAll, PyData.eqv, eqL0 xs, beq_self_eq_true]; rfl
theorem shL {xs : List (List Nat)} (h : Lr xs) : SeqAt.shaped (.list (xs.map fun a => PyData.str (S a))) = true := by
  unfold SeqAt.shaped
  simp only [PyData.canLay0, PyData.depth, layL xs h, depL]
  decide
/-- a list of texts beside an empty one -/
theorem neNil {K : PySem.W.Frag} {H : Hp} {a b : Addr} {xs : List (List Nat)} {Q : VK} (hx : Lr xs) (ha : H a = some (.lst (xs.map sV))) (hb : H b = some (.lst [])) (q : Q (.bl (!decide (xs = []))) H) : rNeD K (.ref a) (.ref b) H Q := by
  refine ⟨.list (xs.map fun a => PyData.str (S a)), .list [], .lst (SqL.of ha) (dpL xs), .lst (SqL.of hb) .nil, shL hx, by decide, ?_⟩
  have e : PyData.eqv (.list (xs.map fun a => PyData.str (S a))) (.list []) = decide (xs = []) := by
    cases xs with
    | nil => simp [PyData.eqv, PyData.eqvAll]
    | cons x xs => simp [PyData.eqv, PyData.eqvAll]
  rw [e]
  exact q
/-- two lists of the same texts -/
theorem neL1 {K : PySem.W.Frag} {H : Hp} {a b : Addr} {xs : List (List Nat)} {Q : VK} (hx : Lr xs) (ha : H a = some (.lst (xs.map sV))) (hb : H b = some (.lst (xs.map sV))) (q : Q (.bl false) H) : rNeD K (.ref a) (.ref b) H Q := by
  refine ⟨.list (xs.map fun a => PyData.str (S a)), .list (xs.map fun a => PyData.str (S a)), .lst (SqL.of ha) (dpL xs), .lst (SqL.of hb) (dpL xs), shL hx, shL hx, ?_⟩
  rw [show PyData.eqv (.list (xs.map fun a => PyData.str (S a))) (.list (xs.map fun a => PyData.str (S a))) = true by simp only [PyData.eqv, eqL0 xs]]
  exact q
/-- the heap but for one place -/
def off (g : Addr) (H : Hp) : Hp := fun b => if b = g then none else H b
theorem off_same {g : Addr} {H : Hp} : Same (off g H) H := fun b o e => by
  unfold off at e
  split at e
  · cases e
  · exact e
theorem off_at {g b : Addr} {H : Hp} {o : HO} (n : b ≠ g) (h : H b = some o) : off g H b = some o := by
  unfold off
  rw [if_neg n]
  exact h
theorem off_self {g : Addr} {H : Hp} : off g H g = none := by unfold off; rw [if_pos rfl]
theorem off_keep {g : Addr} {H H' : Hp} (k : Keep g H H') : Same (off g H) (off g H') := fun b o e => by
  unfold off at e ⊢
  split at e
  · cases e
  · rename_i n
    rw [if_neg n]
    exact k b o n e
theorem off_to {g : Addr} {H H' : Hp} (k : Keep g H H') : Same (off g H) H' := (off_keep k).trans off_same
theorem off_in {g : Addr} {H0 H : Hp} (s : Same H0 H) (n : H0 g = none) : Same H0 (off g H) := fun b o e => off_at (fun z => by rw [z, n] at e; cases e) (s b o e)

inductive Stps (H : Hp) : List V → List (Str × List Nat) → Prop
  | nil : Stps H [] []
  | cons {p : Addr} {x : Str × List Nat} {vs : List V} {xs : List (Str × List Nat)} : H p = some (.tup [.str x.1, sV x.2]) → Stps H vs xs → Stps H (.ref p :: vs) (x :: xs)
theorem Stps.mono {H H' : Hp} (f : ∀ b vs, H b = some (.tup vs) → H' b = some (.tup vs)) : ∀ {vs : List V} {xs : List (Str × List Nat)}, Stps H vs xs → Stps H' vs xs
  | _, _, .nil => .nil
  | _, _, .cons a b => .cons (f _ _ a) (Stps.mono f b)
theorem Stps.append {H : Hp} : ∀ {vs : List V} {xs : List (Str × List Nat)} {us : List V} {ys : List (Str × List Nat)}, Stps H vs xs → Stps H us ys → Stps H (vs ++ us) (xs ++ ys)
  | _, _, _, _, .nil, b => b
  | _, _, _, _, .cons a c, b => .cons a (Stps.append c b)
theorem Stps.length {H : Hp} : ∀ {vs : List V} {xs : List (Str × List Nat)}, Stps H vs xs → vs.length = xs.length
  | _, _, .nil => rfl
  | _, _, .cons _ b => congrArg Nat.succ (Stps.length b)
/-- a step with an address of at most n letters -/
def okSt (n : Nat) (x : Str × List Nat) : Prop := (x.1 = Str.ofString "left" ∨ x.1 = Str.ofString "right") ∧ isA x.2 = true ∧ x.2.length ≤ n
def IsStep (H : Hp) (v : V) : Prop := ∃ (p : Addr) (x : Str × List Nat), v = .ref p ∧ H p = some (.tup [.str x.1, sV x.2]) ∧ okSt 3000 x
def NotStep (K : PySem.W.Frag) (H : Hp) (v : V) : Prop := (∃ ty, TyX K H v ty ∧ PySem.W.kitOne K ty (.type "tuple") = some false) ∨
  (∃ p vs, v = .ref p ∧ H p = some (.tup vs) ∧ vs.length ≠ 2) ∨
  ∃ p x y, v = .ref p ∧ H p = some (.tup [x, y]) ∧ (NotStr K H x ∨ (∃ z : Str, x = .str z ∧ z ≠ Str.ofString "left" ∧ z ≠ Str.ofString "right") ∨ ((x = .str (Str.ofString "left") ∨ x = .str (Str.ofString "right")) ∧ NotAdr K H y))
def GoodS (H : Hp) (v : V) (xs : List (Str × List Nat)) : Prop := ∃ a ws, v = .ref a ∧ H a = some (.lst ws) ∧ Stps H ws xs ∧ ws.length ≤ 3000 ∧ ∀ x ∈ xs, okSt 3000 x
def BadS (K : PySem.W.Frag) (H : Hp) (v : V) : Prop := (∃ ty, TyX K H v ty ∧ PySem.W.kitOne K ty (.type "list") = some false) ∨
  ∃ a ws, v = .ref a ∧ H a = some (.lst ws) ∧ ws.length ≤ 3000 ∧ (∀ u ∈ ws, IsStep H u ∨ NotStep K H u) ∧ ∃ u ∈ ws, NotStep K H u
theorem Stps.same {H H' : Hp} (s : Same H H') {vs : List V} {xs : List (Str × List Nat)} (h : Stps H vs xs) : Stps H' vs xs := h.mono fun b vs e => s _ _ e
theorem IsStep.same {H H' : Hp} {v : V} (h : IsStep H v) (s : Same H H') : IsStep H' v := let ⟨p, x, e, g, o⟩ := h; ⟨p, x, e, s _ _ g, o⟩
theorem NotAdr.same {K : PySem.W.Frag} {H H' : Hp} {v : V} (h : NotAdr K H v) (s : Same H H') : NotAdr K H' v := h.imp id fun z => z.same s
theorem NotStep.same {K : PySem.W.Frag} {H H' : Hp} {v : V} (h : NotStep K H v) (s : Same H H') : NotStep K H' v := by
  rcases h with ⟨ty, a, b⟩ | ⟨p, vs, e, g, n⟩ | ⟨p, x, y, e, g, r⟩
  · exact .inl ⟨ty, tyX_same a s, b⟩
  · exact .inr (.inl ⟨p, vs, e, s _ _ g, n⟩)
  · exact .inr (.inr ⟨p, x, y, e, s _ _ g, r.imp (fun z => z.same s) fun z => z.imp id fun z => ⟨z.1, z.2.same s⟩⟩)
theorem GoodS.same {H H' : Hp} {v : V} {xs : List (Str × List Nat)} (h : GoodS H v xs) (s : Same H H') : GoodS H' v xs := let ⟨a, ws, e, g, t, r⟩ := h; ⟨a, ws, e, s _ _ g, t.same s, r⟩
theorem BadS.same {K : PySem.W.Frag} {H H' : Hp} {v : V} (h : BadS K H v) (s : Same H H') : BadS K H' v := by
  rcases h with ⟨ty, a, b⟩ | ⟨a, ws, e, g, l, al, u, hu, nu⟩
  · exact .inl ⟨ty, tyX_same a s, b⟩
  · exact .inr ⟨a, ws, e, s _ _ g, l, fun z hz => (al z hz).imp (fun n => n.same s) fun n => n.same s, u, hu, nu.same s⟩

/-! ### words of the program -/
section
variable {w : World} {K : PySem.W.Frag} {mg : Str → Option Value}
abbrev nV (n : Nat) : V := .int (n : Nat)
def OnTree (K : PySem.W.Frag) (C : Addr) (vs : List V) (H : Hp) (E : XK) (G : Tr → Prop) : Prop := ∃ v, vs = [v] ∧ ((∃ t : Tr, v = trV t ∧ t.size ≤ 2000 ∧ G t) ∨ (NotTree K H v ∧ Out C v H E))
def TwoTrees (K : PySem.W.Frag) (C : Addr) (vs : List V) (H : Hp) (E : XK) (G : Tr → Tr → Prop) : Prop := ∃ (u v : V), vs = [u, v] ∧ ((∃ a : Tr, u = trV a ∧ a.size ≤ 2000 ∧ ((∃ b : Tr, v = trV b ∧ b.size ≤ 2000 ∧ G a b) ∨ (NotTree K H v ∧ Out C v H E))) ∨ (NotTree K H u ∧ Out C u H E))
inductive Tups (H : Hp) : List V → List (List Nat × Nat) → Prop
  | nil : Tups H [] []
  | cons {p : Addr} {x : List Nat × Nat} {vs : List V} {xs : List (List Nat × Nat)} : H p = some (.tup [sV x.1, sV [x.2]]) → Tups H vs xs → Tups H (.ref p :: vs) (x :: xs)
def BadAdr (K : PySem.W.Frag) (H : Hp) (t : Tr) (v : V) : Prop := NotAdr K H v ∨ ∃ a : List Nat, v = sV a ∧ a.length ≤ 1000 ∧ isA a = true ∧ tat t a = none
def OutF (C : Addr) (f : Str) (v : V) (H : Hp) (E : XK) : Prop := ∀ d H', Same H H' → H d = none → H' d = some (.xd [(f, v)]) → E (.ref C) (some d) H'
def bxs (x : Str × List Nat) : Bool × List Nat := (decide (x.1 = Str.ofString "right"), x.2)
end
def oth (w : Str) : Str := if w = Str.ofString "left" then Str.ofString "right" else Str.ofString "left"
def sgn (w : Str) : Nat := if w = Str.ofString "left" then 60 else 62
def stT (x : Str × List Nat) : List Nat := sgn x.1 :: x.2
def textT (xs : List (Str × List Nat)) : List Nat := TL.joinL [32] (xs.map stT)
def rdPiece : List Nat → Option (Str × List Nat)
  | [] => none
  | c :: a => if isA a then (if c = 60 then some (Str.ofString "left", a) else if c = 62 then some (Str.ofString "right", a) else none) else none
def rdAll : List (List Nat) → Option (List (Str × List Nat))
  | [] => some []
  | p :: ps => (rdPiece p).bind fun x => (rdAll ps).map fun y => x :: y
def rdText (cs : List Nat) : Option (List (Str × List Nat)) := if cs = [] then some [] else rdAll (spl 32 cs)
def turnT (w : Str) : Tr → Option Tr
  | .leaf => none
  | .node l r => if w = Str.ofString "right" then turnR l r else if w = Str.ofString "left" then turnL l r else none
def stepT (w : Str) (a : List Nat) (t : Tr) : Option Tr := ((tat t a).bind (turnT w)).map (put t a)
def tops (t : Tr) : List (List Nat) := ((t.adrs []).filter fun x => x.2 == 40).map (·.1)
def stepsT (t : Tr) : List (Str × List Nat) := ((tops t).filter fun a => decide (a ++ [114] ∈ tops t)).map (fun a => (Str.ofString "left", a)) ++ ((tops t).filter fun a => decide (a ++ [108] ∈ tops t)).map (fun a => (Str.ofString "right", a))
def runT : Nat → List (Str × List Nat) → Tr → Tr ⊕ Nat
  | _, [], t => .inl t
  | i, x :: xs, t => match stepT x.1 x.2 t with
    | some s => runT (i + 1) xs s
    | none => .inr i
/-- a new list of steps -/
def NewS (H : Hp) (xs : List (Str × List Nat)) (Q : VK) : Prop := ∀ p ws H', H p = none → Same H H' → H' p = some (.lst ws) → Stps H' ws xs → Q (.ref p) H'

section
variable {w : World} {K : PySem.W.Frag} {mg : Str → Option Value}
def sp_check_tree (T : Txt w K mg) : Sp := fun vs H Q E => ∃ v, vs = [v] ∧ ((∃ t : Tr, v = trV t ∧ t.size ≤ 2000 ∧ ∀ H', Same H H' → Q .non H') ∨ (NotTree K H v ∧ Out T.c_InvalidTree v H E))
def sp_ends (K : PySem.W.Frag) : Sp := fun vs H Q _ => ∃ t : Tr, vs = [trV t] ∧ t.size ≤ 2000 ∧ ∀ p H', H p = none → Same H H' → H' p = some (.lst ((Tr.ends 0 t).map fun n => V.int (n : Nat))) → Q (.ref p) H'
def sp_check_hung (T : Txt w K mg) : Sp := fun vs H Q E => ∃ (t : Tr) (v : V), vs = [trV t, v] ∧ t.size ≤ 2000 ∧ ((∃ xs, GoodL H t v xs ∧ ∀ H', Same H H' → Q .non H') ∨ (BadL K H t v ∧ Out T.c_InvalidList v H E))
def sp_grown (T : Txt w K mg) : Sp := fun vs H Q E => ∃ (u v : V), vs = [u, v] ∧ ((∃ t : Tr, u = trV t ∧ t.size ≤ 2000 ∧ ((∃ xs, GoodL H t v xs ∧ ∀ H', Same H H' → Q (trV (t.grow xs)) H') ∨ (BadL K H t v ∧ Out T.c_InvalidList v H E))) ∨ (NotTree K H u ∧ Out T.c_InvalidTree u H E))
def sp_hung (T : Txt w K mg) : Sp := fun vs H Q E => TwoTrees K T.c_InvalidTree vs H E fun s c => (Tr.hang s c = none → ∀ H', Same H H' → Q .non H') ∧
  ∀ xs, Tr.hang s c = some xs → ∀ p H', H p = none → Same H H' → H' p = some (.lst (xs.map trV)) → Q (.ref p) H'
def sp_joined (T : Txt w K mg) : Sp := fun vs H Q E => TwoTrees K T.c_InvalidTree vs H E fun a b => ∀ H', Same H H' → Q (trV (Tr.join a b)) H'
def sp_shared (T : Txt w K mg) : Sp := fun vs H Q E => TwoTrees K T.c_InvalidTree vs H E fun a b => ∀ H', Same H H' → Q (trV (Tr.meet a b)) H'
def sp_is_address (K : PySem.W.Frag) : Sp := fun vs H Q _ => ∃ v, vs = [v] ∧ ((∃ a : List Nat, v = sV a ∧ a.length ≤ 1000000 ∧ Q (.bl (isA a)) H) ∨ (NotStr K H v ∧ Q (.bl false) H))
def sp_is_step (K : PySem.W.Frag) : Sp := fun vs H Q _ => ∃ v, vs = [v] ∧ ((IsStep H v ∧ Q (.bl true) H) ∨ (NotStep K H v ∧ Q (.bl false) H))
def sp_checked_script (T : Txt w K mg) : Sp := fun vs H Q E => ∃ v, vs = [v] ∧ ((∃ xs, GoodS H v xs ∧ NewS H xs Q) ∨ (BadS K H v ∧ Out T.c_InvalidScript v H E))
/-! ### the object that a script unfolds -/
def gf (lo lc : Addr) (m : Int) : List (Str × V) := [("origin", .ref lo), ("current", .ref lc), ("many", .int m)]
theorem gf_ne1 : ¬ (("origin" : Str) = "current") := by decide +kernel
theorem gf_ne2 : ¬ (("origin" : Str) = "many") := by decide +kernel
theorem gf_ne3 : ¬ (("current" : Str) = "many") := by decide +kernel
theorem gf_make (lo lc : Addr) (m : Int) : putF "many" (.int m) (putF "current" (.ref lc) (putF "origin" (.ref lo) [])) = gf lo lc m := by
  have e1 : putF "origin" (V.ref lo) [] = [(("origin" : Str), V.ref lo)] := rfl
  have e2 : putF "current" (V.ref lc) [(("origin" : Str), V.ref lo)] = [(("origin" : Str), V.ref lo), ("current", V.ref lc)] := by
    show (if ("origin" : Str) = "current" then _ else (("origin" : Str), V.ref lo) :: putF "current" (V.ref lc) []) = _
    rw [if_neg gf_ne1]; rfl
  rw [e1, e2]
  show (if ("origin" : Str) = "many" then _ else (("origin" : Str), V.ref lo) :: (if ("current" : Str) = "many" then _ else (("current" : Str), V.ref lc) :: putF "many" (V.int m) [])) = _
  rw [if_neg gf_ne2, if_neg gf_ne3]; rfl
theorem putF_len (x : Str) (v : V) : ∀ fs : List (Str × V), (putF x v fs).length ≤ fs.length + 1
  | [] => Nat.le_refl _
  | (y, u) :: fs => by
    show (if y = x then (y, v) :: fs else (y, u) :: putF x v fs).length ≤ _
    split
    · simp
    · have := putF_len x v fs
      simp only [List.length_cons]; omega
/-- behind the heap H0 such an object stands at p, with the dicts o and c and the number m -/
def GrowAt (C : Addr) (H0 H : Hp) (p : Addr) (o c : List (Key × V)) (m : Int) : Prop :=
  Same H0 H ∧ H0 p = none ∧ ∃ dx lo lc, H0 lo = none ∧ H0 lc = none ∧ lo ≠ lc ∧ H p = some (.ins C dx (gf lo lc m)) ∧ H lo = some (.dK o) ∧ H lc = some (.dK c)
section
variable {w : World} {K : PySem.W.Frag} {mg : Str → Option Value}
def sp_Growth___init__ (T : Txt w K mg) : Sp := fun vs H Q _ => ∃ (H0 : Hp) (p dx : Addr), vs = [.ref p] ∧ Same H0 H ∧ H0 p = none ∧ H p = some (.ins T.c_Growth dx []) ∧ ∀ H', GrowAt T.c_Growth H0 H' p [] [] 1 → Q .non H'
end
abbrev nK (n : Nat) : Key := .inl (n : Nat)
/-- what a dict from numbers to pairs of numbers holds -/
def DRep (H : Hp) (kvs : List (Key × V)) (f : Nat → Option (Nat × Nat)) : Prop := ∀ n : Nat, (f n = none → valV kvs (nK n) = none) ∧ ∀ x y, f n = some (x, y) → ∃ q, valV kvs (nK n) = some (.ref q) ∧ H q = some (.tup [nV x, nV y])
/-- at p, behind the heap H0, stands a growth that holds the two trees -/
def GrowS (C : Addr) (H0 H : Hp) (p : Addr) (O Cc : LT) (m : Nat) : Prop := ∃ o c, GrowAt C H0 H p o c (m : Nat) ∧ o.length < m ∧ c.length < m ∧ ∃ f g, DRep H o f ∧ DRep H c g ∧ LT.Sta f g m O Cc
def sp_Growth_unfold (T : Txt w K mg) : Sp := fun vs H Q _ => ∃ (H0 : Hp) (p : Addr) (O C s : LT) (m : Nat) (a : List Nat), vs = [.ref p, nV s.lab] ∧ GrowS T.c_Growth H0 H p O C m ∧ m ≤ 10000000 ∧ LT.lat C a = some s ∧
  ∀ H' O' C' m' l r, GrowS T.c_Growth H0 H' p O' C' m' → m' ≤ m + 2 → LT.lat C' a = some (.nd s.lab l r) → C'.shape = Tr.join C.shape (pth a cherry) → (∀ O0 C0, LT.Alike O0 C0 O C → LT.Alike O0 C0 O' C') → Q .non H'
def sp_Growth_sides (T : Txt w K mg) : Sp := fun vs H Q _ => ∃ (H0 : Hp) (p : Addr) (O C s : LT) (m : Nat) (a : List Nat), vs = [.ref p, nV s.lab] ∧ GrowS T.c_Growth H0 H p O C m ∧ m ≤ 10000000 ∧ LT.lat C a = some s ∧
  ∀ q H' O' C' m' l r, GrowS T.c_Growth H0 H' p O' C' m' → m' ≤ m + 2 → LT.lat C' a = some (.nd s.lab l r) → C'.shape = Tr.join C.shape (pth a cherry) → (∀ O0 C0, LT.Alike O0 C0 O C → LT.Alike O0 C0 O' C') → H' q = some (.tup [nV l.lab, nV r.lab]) → Q (.ref q) H'
def sp_Growth_turn (T : Txt w K mg) : Sp := fun vs H Q _ => ∃ (H0 : Hp) (p : Addr) (O C : LT) (m : Nat) (w : Str) (a : List Nat), vs = [.ref p, .str w, sV a] ∧ GrowS T.c_Growth H0 H p O C m ∧ a.length ≤ 100000 ∧ m + 2 * (a.length + 2) ≤ 10000000 ∧ (w = Str.ofString "left" ∨ w = Str.ofString "right") ∧
  ∀ H' O' C' m', GrowS T.c_Growth H0 H' p O' C' m' → m' ≤ m + 2 * (a.length + 2) → unf (O.shape, C.shape) (bxs (w, a)) = (O'.shape, C'.shape) → Q .non H'
def sp_written (K : PySem.W.Frag) : Sp := fun vs H Q _ => ∃ (d : Addr) (kvs : List (Key × V)) (f : Nat → Option (Nat × Nat)) (t : LT), vs = [.ref d] ∧ H d = some (.dK kvs) ∧ DRep H kvs f ∧ LT.Rep f t ∧ t.lab = 0 ∧ t.shape.size ≤ 2000 ∧ ∀ H', Same H H' → Q (trV t.shape) H'
/-- a script's trees, bounded -/
def PairB (xs : List (Str × List Nat)) : Prop := ∃ D, (∀ x ∈ xs, okSt D x) ∧ D ≤ 3000 ∧ (xs.length * (D + 2) ≤ 2000 ∨ (xs.length ≤ 2000 ∧ xs.length * (D + 2) ≤ 1000000 ∧ (pairT (xs.map bxs)).1.size ≤ 2000))
def sp_pair_of (T : Txt w K mg) : Sp := fun vs H Q E => ∃ (v : V) (xs : List (Str × List Nat)), vs = [v] ∧ GoodS H v xs ∧ PairB xs ∧ ∀ q H', H q = none → Same H H' → H' q = some (.tup [trV (pairT (xs.map bxs)).1, trV (pairT (xs.map bxs)).2]) → Q (.ref q) H'
def sp_law_steps (K : PySem.W.Frag) : Sp := fun vs H Q _ => ∃ (g : Addr) (m d n : Nat), vs = [.ref g, .int m, .int d] ∧ GenAt H g n ∧ m ≤ 100 ∧ 2 ≤ d ∧ d ≤ 200 ∧ n ≤ 1000000000000 ∧
  ∀ p ws xs H', H p = none → Keep g H H' → GenAt H' g (n + (9 + 3 * d) * m) → H' p = some (.lst ws) → Stps H' ws xs → xs.length = m → (∀ x ∈ xs, okSt d x) → Q (.ref p) H'
def sp_law_address (K : PySem.W.Frag) : Sp := fun vs H Q _ => ∃ (g : Addr) (m n : Nat), vs = [.ref g, .int m] ∧ GenAt H g n ∧ m ≤ 200 ∧ n ≤ 10000000000000 ∧ ∀ (a : List Nat) H', isA a = true → a.length ≤ m → Keep g H H' → GenAt H' g (n + 3 + 3 * m) → Q (sV a) H'
def sp_moved (T : Txt w K mg) : Sp := fun vs H Q E => ∃ (u : V) (A B : Tr), vs = [u, trV A, trV B] ∧ A.size ≤ 1000 ∧ A.size = B.size ∧ ((∃ t : Tr, u = trV t ∧ t.size ≤ 1000 ∧ (Tr.hang t A = none → Out T.c_CannotMove u H E) ∧ ∀ ts, Tr.hang t A = some ts → ∀ H', Same H H' → Q (trV (B.grow ts)) H') ∨ (NotTree K H u ∧ Out T.c_InvalidTree u H E))
def mf (A B : Tr) : List (Str × V) := [("_before", trV A), ("_after", trV B)]
/-- a move with these two trees -/
def Mv (C : Addr) (H : Hp) (v : V) (A B : Tr) : Prop := A.size = B.size ∧ ∃ p dx, v = .ref p ∧ H p = some (.ins C dx (mf A B))
def NewM (C : Addr) (H : Hp) (A B : Tr) (Q : VK) : Prop := ∀ p H', H p = none → Same H H' → Mv C H' (.ref p) A B → Q (.ref p) H'
theorem Mv.same {C : Addr} {H H' : Hp} {v : V} {A B : Tr} (h : Mv C H v A B) (s : Same H H') : Mv C H' v A B := let ⟨z, p, dx, e, g⟩ := h; ⟨z, p, dx, e, s _ _ g⟩
theorem Mv.isc {C : Addr} {H : Hp} {v : V} {A B : Tr} (h : Mv C H v A B) : OW.IsC H C v := let ⟨_, p, dx, e, g⟩ := h; ⟨p, dx, _, e, g⟩
def sp_Move___init__ (T : Txt w K mg) : Sp := fun vs H Q E => ∃ (H0 : Hp) (p dx : Addr) (u v : V), vs = [.ref p, u, v] ∧ Same H0 H ∧ H0 p = none ∧ H p = some (.ins T.c_Move dx []) ∧
  ((∃ A : Tr, u = trV A ∧ A.size ≤ 2000 ∧ ((∃ B : Tr, v = trV B ∧ B.size ≤ 2000 ∧ (A.size = B.size → ∀ H', Same H0 H' → H' p = some (.ins T.c_Move dx (mf A B)) → Q .non H') ∧
    (A.size ≠ B.size → ∀ q d H', Same H H' → H q = none → H' q = some (.tup [u, v]) → H' d = some (.xd [("value", .ref q)]) → H d = none → E (.ref T.c_InvalidMove) (some d) H')) ∨ (NotTree K H v ∧ Out T.c_InvalidTree v H E))) ∨ (NotTree K H u ∧ Out T.c_InvalidTree u H E))
def sp_Move_of (T : Txt w K mg) : Sp := fun vs H Q _ => ∃ (v : V) (xs : List (Str × List Nat)), vs = [v] ∧ GoodS H v xs ∧ PairB xs ∧ NewM T.c_Move H (pairT (xs.map bxs)).1 (pairT (xs.map bxs)).2 Q
def sp_Move_before (T : Txt w K mg) : Sp := fun vs H Q _ => ∃ (v : V) (A B : Tr), vs = [v] ∧ Mv T.c_Move H v A B ∧ Q (trV A) H
def sp_Move_after (T : Txt w K mg) : Sp := fun vs H Q _ => ∃ (v : V) (A B : Tr), vs = [v] ∧ Mv T.c_Move H v A B ∧ Q (trV B) H
def sp_Move___call__ (T : Txt w K mg) : Sp := fun vs H Q E => ∃ (v u : V) (A B : Tr), vs = [v, u] ∧ Mv T.c_Move H v A B ∧ A.size ≤ 1000 ∧ ((∃ t : Tr, u = trV t ∧ t.size ≤ 1000 ∧ (Tr.hang t A = none → Out T.c_CannotMove u H E) ∧ ∀ ts, Tr.hang t A = some ts → ∀ H', Same H H' → Q (trV (B.grow ts)) H') ∨ (NotTree K H u ∧ Out T.c_InvalidTree u H E))
def sp_Move_can (T : Txt w K mg) : Sp := fun vs H Q E => ∃ (v u : V) (A B : Tr), vs = [v, u] ∧ Mv T.c_Move H v A B ∧ A.size ≤ 1000 ∧ ((∃ t : Tr, u = trV t ∧ t.size ≤ 1000 ∧ ∀ H', Same H H' → Q (.bl (Tr.hang t A).isSome) H') ∨ (NotTree K H u ∧ Out T.c_InvalidTree u H E))
def sp_Move___eq__ (T : Txt w K mg) : Sp := fun vs H Q _ => ∃ (v u : V) (A B C D : Tr), vs = [v, u] ∧ Mv T.c_Move H v A B ∧ Mv T.c_Move H u C D ∧ Q (.bl (decide (A = C ∧ B = D))) H
def mvR (A B : Tr) : Str := Str.empty ++ Str.ofString "Move(" ++ reprText (S A.cs) ++ Str.ofString ", " ++ reprText (S B.cs) ++ Str.ofString ")"
def sp_Move___repr__ (T : Txt w K mg) : Sp := fun vs H Q _ => ∃ (v : V) (A B : Tr), vs = [v] ∧ Mv T.c_Move H v A B ∧ A.size ≤ 2000 ∧ Q (.str (mvR A B)) H
def sp_Move___invert__ (T : Txt w K mg) : Sp := fun vs H Q _ => ∃ (v : V) (A B : Tr), vs = [v] ∧ Mv T.c_Move H v A B ∧ A.size ≤ 1000 ∧ NewM T.c_Move H B A Q
def sp_Move___le__ (T : Txt w K mg) : Sp := fun vs H Q _ => ∃ (v u : V) (A B C D : Tr), vs = [v, u] ∧ Mv T.c_Move H v A B ∧ Mv T.c_Move H u C D ∧ A.size ≤ 2000 ∧ C.size ≤ 2000 ∧ ∀ H', Same H H' → Q (.bl (leT (A, B) (C, D))) H'
def sp_Move___lt__ (T : Txt w K mg) : Sp := fun vs H Q _ => ∃ (v u : V) (A B C D : Tr), vs = [v, u] ∧ Mv T.c_Move H v A B ∧ Mv T.c_Move H u C D ∧ A.size ≤ 2000 ∧ C.size ≤ 2000 ∧ ∀ H', Same H H' → Q (.bl (leT (A, B) (C, D) && !decide (A = C ∧ B = D))) H'
def sp_Move___ge__ (T : Txt w K mg) : Sp := fun vs H Q _ => ∃ (v u : V) (A B C D : Tr), vs = [v, u] ∧ Mv T.c_Move H v A B ∧ Mv T.c_Move H u C D ∧ A.size ≤ 2000 ∧ C.size ≤ 2000 ∧ ∀ H', Same H H' → Q (.bl (leT (C, D) (A, B))) H'
def sp_Move___gt__ (T : Txt w K mg) : Sp := fun vs H Q _ => ∃ (v u : V) (A B C D : Tr), vs = [v, u] ∧ Mv T.c_Move H v A B ∧ Mv T.c_Move H u C D ∧ A.size ≤ 2000 ∧ C.size ≤ 2000 ∧ ∀ H', Same H H' → Q (.bl (leT (C, D) (A, B) && !decide (A = C ∧ B = D))) H'
/-- no whole number -/
def NotWhole (K : PySem.W.Frag) (H : Hp) (v : V) : Prop := (∃ b, v = .bl b) ∨ ∃ ty, TyX K H v ty ∧ PySem.W.kitOne K ty (.type "int") = some false
theorem NotWhole.same {K : PySem.W.Frag} {H H' : Hp} {v : V} (h : NotWhole K H v) (s : Same H H') : NotWhole K H' v := h.imp id fun ⟨t, a, b⟩ => ⟨t, tyX_same a s, b⟩
def sp_is_whole (K : PySem.W.Frag) : Sp := fun vs H Q _ => ∃ v, vs = [v] ∧ ((∃ i : Int, v = .int i ∧ Q (.bl true) H) ∨ (∃ b, v = .bl b ∧ Q (.bl false) H) ∨ (∃ ty, TyX K H v ty ∧ PySem.W.kitOne K ty (.type "int") = some false) ∧ Q (.bl false) H)
def sp_check_whole (T : Txt w K mg) : Sp := fun vs H Q E => ∃ v, vs = [v] ∧ ((∃ i : Int, v = .int i ∧ Q .non H) ∨ (NotWhole K H v ∧ Out T.c_InvalidNumber v H E))
end

section
variable {w : World} {K : PySem.W.Frag} {mg : Str → Option Value}
def sp_Move___mul__ (T : Txt w K mg) : Sp := fun vs H Q _ => ∃ (v u : V) (A B C D : Tr), vs = [v, u] ∧ Mv T.c_Move H v A B ∧ Mv T.c_Move H u C D ∧ A.size ≤ 1000 ∧ C.size ≤ 1000 ∧ NewM T.c_Move H (mulT (A, B) (C, D)).1 (mulT (A, B) (C, D)).2 Q
def sp_Move_times (T : Txt w K mg) : Sp := fun vs H Q E => ∃ (v u : V) (A B : Tr), vs = [v, u] ∧ Mv T.c_Move H v A B ∧ A.size ≤ 1000 ∧ ((∃ i : Int, u = .int i ∧ (A = B ∨ i.natAbs ≤ 500 ∧ i.natAbs * A.size ≤ 1000) ∧ NewM T.c_Move H (powT (if 0 < i then (A, B) else (B, A)) i.natAbs).1 (powT (if 0 < i then (A, B) else (B, A)) i.natAbs).2 Q) ∨ (NotWhole K H u ∧ Out T.c_InvalidNumber u H E))
/-- a greater bound -/
def sp_law_randomW (K : PySem.W.Frag) : Sp := fun vs H Q _ => ∃ (g : Addr) (b : Int) (n : Nat), vs = [.ref g, .int b] ∧ GenAt H g n ∧ n ≤ 100000000000000 ∧ 1 ≤ b ∧ b ≤ 10 ^ 60 ∧
  ∀ (r : Int) H', 0 ≤ r → r < b → Keep g H H' → GenAt H' g (n + 10) → Q (.int r) H'
/-- no move: its kind is told, and is not Move -/
def NotMove (T : Txt w K mg) (H : Hp) (v : V) : Prop := ∃ ty, TyX K H v ty ∧ PySem.W.kitOne K ty (.ref T.c_Move) = some false
/-- a value that can be shown: plain data, or a move -/
def Shown (T : Txt w K mg) (H : Hp) (u : V) (z : Str) : Prop := (∃ d, Good H u d ∧ z = d.shown) ∨ ∃ A B, Mv T.c_Move H u A B ∧ A.size ≤ 2000 ∧ z = mvR A B
theorem Shown.same {T : Txt w K mg} {H H' : Hp} {u : V} {z : Str} (h : Shown T H u z) (s : Same H H') : Shown T H' u z := by
  rcases h with ⟨d, g, e⟩ | ⟨A, B, m, l, e⟩
  · exact .inl ⟨d, g.same s, e⟩
  · exact .inr ⟨A, B, m.same s, l, e⟩
theorem Shown.repr {T : Txt w K mg} {H : Hp} {u : V} {z : Str} {Q : VK} (h : Shown T H u z) (q : Q (.str z) H) : OW.rReprA T.c_Move (sp_Move___repr__ T) E0 [u] H Q := by
  rcases h with ⟨d, g, rfl⟩ | ⟨A, B, m, l, rfl⟩
  · exact .inl (g.repr q)
  · exact .inr ⟨u, rfl, m.isc, u, A, B, rfl, m, l, _, rfl, q⟩
def sp_law_caught (T : Txt w K mg) : Sp := fun vs H Q _ => ∃ (v u : V) (A B : Tr) (z : Str), vs = [v, u] ∧ Mv T.c_Move H v A B ∧ A.size ≤ 1000 ∧ NotWhole K H u ∧ Shown T H u z ∧ ∀ H', Same H H' → Q (.bl true) H'
def sp_law_product (T : Txt w K mg) : Sp := fun vs H Q _ => ∃ (v : V) (i : Int) (A B : Tr), vs = [v, .int i] ∧ Mv T.c_Move H v A B ∧ i.natAbs ≤ 500 ∧ A.size ≤ 1000 ∧ i.natAbs * A.size ≤ 1000 ∧ NewM T.c_Move H (powT (if 0 < i then (A, B) else (B, A)) i.natAbs).1 (powT (if 0 < i then (A, B) else (B, A)) i.natAbs).2 Q
def sp_law_great_right (T : Txt w K mg) : Sp := fun vs H Q _ => ∃ (g : Addr) (n : Nat), vs = [.ref g] ∧ GenAt H g n ∧ n ≤ 100000 ∧ ∀ H', Keep g H H' → Q (.bl true) H'
end

section
variable {P : Program} {w : World} {K : PySem.W.Frag} {mg : Str → Option Value} {base : Heap}

theorem hang_eq : ∀ {s c : Tr}, (Tr.hang s c).isSome = true → s.size ≤ c.size → s = c
  | .leaf, .leaf, _, _ => rfl
  | .node a b, .leaf, _, h => by
    have h : a.size + b.size + 1 ≤ 0 := h
    omega
  | .leaf, .node c d, h, _ => by cases h
  | .node a b, .node c d, h, l => by
    have l : a.size + b.size + 1 ≤ c.size + d.size + 1 := l
    have h : ((Tr.hang a c).bind fun x => (Tr.hang b d).map fun y => x ++ y).isSome = true := h
    cases e1 : Tr.hang a c with
    | none => rw [e1] at h; cases h
    | some x =>
      cases e2 : Tr.hang b d with
      | none => rw [e1, e2] at h; cases h
      | some y =>
        have s1 := hang_size_le (s := a) (c := c) (by rw [e1]; rfl)
        have s2 := hang_size_le (s := b) (c := d) (by rw [e2]; rfl)
        rw [hang_eq (s := a) (c := c) (by rw [e1]; rfl) (by omega), hang_eq (s := b) (c := d) (by rw [e2]; rfl) (by omega)]
theorem leT_iff {A B C D : Tr} : leT (A, B) (C, D) = true ↔ ∃ xs, Tr.hang A C = some xs ∧ Tr.hang B D = some xs := by
  unfold leT
  constructor
  · intro h
    rw [Bool.and_eq_true] at h
    obtain ⟨xs, hx⟩ := Option.isSome_iff_exists.mp h.1
    exact ⟨xs, hx, (of_decide_eq_true h.2).symm.trans hx⟩
  · rintro ⟨xs, h1, h2⟩
    show ((Tr.hang A C).isSome && decide (Tr.hang A C = Tr.hang B D)) = true
    rw [h1, h2]; simp
theorem leT_anti {A B C D : Tr} (h1 : A.size = B.size) (h2 : C.size = D.size) : (leT (A, B) (C, D) && leT (C, D) (A, B)) = decide (A = C ∧ B = D) := by
  by_cases e : A = C ∧ B = D
  · obtain ⟨rfl, rfl⟩ := e
    have l : A.lvs = B.lvs := by rw [Tr.lvs_size, Tr.lvs_size, h1]
    have : leT (A, B) (A, B) = true := leT_iff.mpr ⟨_, hang_self A, by rw [l]; exact hang_self B⟩
    rw [this, decide_eq_true ⟨rfl, rfl⟩]; rfl
  · rw [decide_eq_false e]
    cases ha : leT (A, B) (C, D) with
    | false => rfl
    | true =>
      cases hb : leT (C, D) (A, B) with
      | false => rfl
      | true =>
        obtain ⟨xs, x1, x2⟩ := leT_iff.mp ha
        obtain ⟨ys, y1, y2⟩ := leT_iff.mp hb
        have s1 := hang_size_le (s := A) (c := C) (by rw [x1]; rfl)
        have s2 := hang_size_le (s := C) (c := A) (by rw [y1]; rfl)
        exact absurd ⟨hang_eq (by rw [x1]; rfl) (by omega), hang_eq (by rw [x2]; rfl) (by omega)⟩ e
theorem leT_self {A B : Tr} (h1 : A.size = B.size) : leT (A, B) (A, B) = true := by
  have l : A.lvs = B.lvs := by rw [Tr.lvs_size, Tr.lvs_size, h1]
  exact leT_iff.mpr ⟨_, hang_self A, by rw [l]; exact hang_self B⟩
theorem leT_grow {A B : Tr} {xs : List Tr} (h1 : xs.length = A.lvs) (h2 : xs.length = B.lvs) : leT (A.grow xs, B.grow xs) (A, B) = true :=
  leT_iff.mpr ⟨xs, Tr.hang_grow h1, Tr.hang_grow h2⟩
theorem leT_incl {A B C D : Tr} (hl : A.lvs = B.lvs) (hl2 : C.lvs = D.lvs) : leT (A, B) (C, D) = true ↔ ∀ p s, mvF A B p = some s → mvF C D p = some s := by
  constructor
  · intro h p s hp
    obtain ⟨xs, x1, x2⟩ := leT_iff.mp h
    obtain ⟨ts, ht, rfl⟩ : ∃ ts, Tr.hang p A = some ts ∧ B.grow ts = s := by
      unfold mvF at hp
      cases e : Tr.hang p A with
      | none => rw [e] at hp; cases hp
      | some ts => rw [e] at hp; exact ⟨ts, rfl, Option.some.inj hp⟩
    have l1 := Tr.hang_len _ _ _ x1
    have l2 := Tr.hang_len _ _ _ ht
    have g1 := Tr.grow_hang x1
    have g2 := Tr.grow_hang x2
    have hs : (Tr.hang p C).isSome = true := hang_trans (b := A) (by rw [ht]; rfl) (by rw [x1]; rfl)
    obtain ⟨zs, hz⟩ := Option.isSome_iff_exists.mp hs
    have lz := Tr.hang_len _ _ _ hz
    have gz := Tr.grow_hang hz
    have e1 : Tr.hang p A = hangL zs xs := by rw [← gz, ← g1, hang_grows lz l1]
    have e2 : Tr.hang (D.grow zs) B = hangL zs xs := by rw [← g2, hang_grows (by omega) (by omega)]
    have e3 := Tr.grow_hang (e2.trans (e1.symm.trans ht))
    unfold mvF
    rw [hz, e3]; rfl
  · intro h
    have h0 : mvF A B A = some B := by
      unfold mvF
      rw [hang_self]
      show some _ = _
      rw [grow_replicate_self hl]
    have h1 := h _ _ h0
    unfold mvF at h1
    cases e : Tr.hang A C with
    | none => rw [e] at h1; cases h1
    | some zs =>
      rw [e] at h1
      have h1 : D.grow zs = B := Option.some.inj h1
      have lz := Tr.hang_len _ _ _ e
      exact leT_iff.mpr ⟨zs, e, by rw [← h1]; exact Tr.hang_grow (by omega)⟩
theorem mul_mono {A B C D A1 B1 C1 D1 : Tr} (h1 : A.lvs = B.lvs) (h2 : C.lvs = D.lvs) (h3 : A1.lvs = B1.lvs) (h4 : C1.lvs = D1.lvs) (l1 : leT (A, B) (A1, B1) = true) (l2 : leT (C, D) (C1, D1) = true) :
    leT ((mulT (A, B) (C, D)).1, (mulT (A, B) (C, D)).2) ((mulT (A1, B1) (C1, D1)).1, (mulT (A1, B1) (C1, D1)).2) = true := by
  have t1 := mul_tells h1 h2
  have t2 := mul_tells h3 h4
  rw [leT_incl h1 h3] at l1
  rw [leT_incl h2 h4] at l2
  refine (leT_incl t1.1 t2.1).mpr fun p s hp => ?_
  have e1 : (mvF A B p).bind (mvF C D) = some s := (t1.2 p).trans hp
  have e2 : (mvF A1 B1 p).bind (mvF C1 D1) = some s := by
    cases e : mvF A B p with
    | none => rw [e] at e1; cases e1
    | some r =>
      rw [e] at e1
      rw [l1 _ _ e]
      exact l2 _ _ e1
  exact (t2.2 p).symm.trans e2
theorem leT_leaf (A : Tr) : leT (A, A) (.leaf, .leaf) = true := leT_iff.mpr ⟨[A], by cases A <;> rfl, by cases A <;> rfl⟩

/-! products, opposites, lowered moves, plainly -/
theorem lvs_of {A B : Tr} (h : A.size = B.size) : A.lvs = B.lvs := by rw [Tr.lvs_size, Tr.lvs_size, h]
theorem hang_leaves (t : Tr) : Tr.hang t t = some (List.replicate t.lvs .leaf) := by
  have h := Tr.hang_grow (c := t) (xs := List.replicate t.lvs .leaf) (by simp)
  rw [grow_leaves] at h
  exact h
theorem mvF_mul {A B C D : Tr} (h1 : A.lvs = B.lvs) (h2 : C.lvs = D.lvs) (p : Tr) : mvF (mulT (A, B) (C, D)).1 (mulT (A, B) (C, D)).2 p = (mvF A B p).bind (mvF C D) := ((mul_tells h1 h2).2 p).symm
theorem mul_lvs {A B C D : Tr} (h1 : A.lvs = B.lvs) (h2 : C.lvs = D.lvs) : (mulT (A, B) (C, D)).1.lvs = (mulT (A, B) (C, D)).2.lvs := (mul_tells h1 h2).1
/-- a move is what it does -/
theorem mvF_inj {A B C D : Tr} (h1 : A.lvs = B.lvs) (h2 : C.lvs = D.lvs) (h : ∀ p, mvF A B p = mvF C D p) : A = C ∧ B = D := by
  have l1 : leT (A, B) (C, D) = true := (leT_incl h1 h2).mpr fun p s e => (h p) ▸ e
  have l2 : leT (C, D) (A, B) = true := (leT_incl h2 h1).mpr fun p s e => (h p).symm ▸ e
  have s1 : A.size = B.size := by rw [Tr.lvs_size, Tr.lvs_size] at h1; omega
  have s2 : C.size = D.size := by rw [Tr.lvs_size, Tr.lvs_size] at h2; omega
  have := leT_anti s1 s2
  rw [l1, l2] at this
  exact of_decide_eq_true this.symm
theorem mul_assoc {A B C D E F : Tr} (h1 : A.lvs = B.lvs) (h2 : C.lvs = D.lvs) (h3 : E.lvs = F.lvs) : mulT (mulT (A, B) (C, D)) (E, F) = mulT (A, B) (mulT (C, D) (E, F)) := by
  obtain ⟨e1, e2⟩ := mvF_inj (mul_lvs (A := (mulT (A, B) (C, D)).1) (B := (mulT (A, B) (C, D)).2) (mul_lvs h1 h2) h3) (mul_lvs (C := (mulT (C, D) (E, F)).1) (D := (mulT (C, D) (E, F)).2) h1 (mul_lvs h2 h3)) fun p => by
    rw [mvF_mul (mul_lvs h1 h2) h3, mvF_mul h1 h2, mvF_mul h1 (mul_lvs h2 h3)]
    cases mvF A B p with
    | none => rfl
    | some q => exact (mvF_mul h2 h3 q).symm
  exact Prod.ext e1 e2
theorem mul_mid (A B C : Tr) (h1 : A.lvs = B.lvs) (h2 : B.lvs = C.lvs) : mulT (A, B) (B, C) = (A, C) := by
  unfold mulT
  rw [Tr.join_self, hang_leaves]
  show (A.grow (List.replicate B.lvs .leaf), C.grow (List.replicate B.lvs .leaf)) = _
  rw [← h1, grow_leaves, h1, h2, grow_leaves]
theorem grow_one (t : Tr) : Tr.leaf.grow [t] = t := grow_leaf1 t
theorem mul_leaf (A B : Tr) (h : A.lvs = B.lvs) : mulT (A, B) (.leaf, .leaf) = (A, B) := by
  unfold mulT
  rw [Tr.join_leaf, hang_leaves]
  show (A.grow (List.replicate B.lvs .leaf), Tr.leaf.grow ((Tr.hang B .leaf).getD [])) = _
  rw [← h, grow_leaves]
  cases B <;> exact congrArg (Prod.mk A) (grow_one _)
theorem leaf_mul (A B : Tr) (h : A.lvs = B.lvs) : mulT (.leaf, .leaf) (A, B) = (A, B) := by
  unfold mulT
  rw [Tr.leaf_join, hang_leaves]
  show (Tr.leaf.grow ((Tr.hang A .leaf).getD []), B.grow (List.replicate A.lvs .leaf)) = _
  rw [h, grow_leaves]
  cases A <;> exact congrArg (fun x => Prod.mk x B) (grow_one _)
theorem mul_swap (A B C D : Tr) : mulT (D, C) (B, A) = ((mulT (A, B) (C, D)).2, (mulT (A, B) (C, D)).1) := by
  unfold mulT
  rw [Tr.join_comm C B]
theorem mul_still (A C : Tr) : mulT (A, A) (C, C) = (Tr.join A C, Tr.join A C) := by
  obtain ⟨us, ws, hus, hws, l1, l2, l3, l4, e, j1, j2⟩ := mul_parts (A := A) (B := A) (C := C) (D := C) rfl rfl
  rw [e, ← j1, ← j2]
/-! node by node -/
theorem node_mul {A B C D A' B' C' D' : Tr} (h1 : A.lvs = B.lvs) (h2 : C.lvs = D.lvs) (h3 : A'.lvs = B'.lvs) (h4 : C'.lvs = D'.lvs) :
    mulT (.node A A', .node B B') (.node C C', .node D D') = (.node (mulT (A, B) (C, D)).1 (mulT (A', B') (C', D')).1, .node (mulT (A, B) (C, D)).2 (mulT (A', B') (C', D')).2) := by
  obtain ⟨us, ws, hus, hws, l1, l2, l3, l4, e, j1, j2⟩ := mul_parts (A := A) (B := B) (C := C) (D := D) h1 h2
  obtain ⟨us', ws', hus', hws', l1', l2', l3', l4', e', j1', j2'⟩ := mul_parts (A := A') (B := B') (C := C') (D := D') h3 h4
  rw [e, e']
  unfold mulT
  have g1 : Tr.hang (Tr.join (.node B B') (.node C C')) (.node B B') = some (us ++ us') := by
    show (Tr.hang (Tr.join B C) B).bind _ = _
    rw [hus, Option.bind_some, hus']
    rfl
  have g2 : Tr.hang (Tr.join (.node B B') (.node C C')) (.node C C') = some (ws ++ ws') := by
    show (Tr.hang (Tr.join B C) C).bind _ = _
    rw [hws, Option.bind_some, hws']
    rfl
  rw [g1, g2]
  show ((Tr.node A A').grow (us ++ us'), (Tr.node D D').grow (ws ++ ws')) = _
  rw [grow_node A A' us us' l1 l1', grow_node D D' ws ws' l4 l4']
theorem pth_lvs (a : List Nat) {A B : Tr} (h : A.lvs = B.lvs) : (pth a A).lvs = (pth a B).lvs := by
  rw [Tr.lvs_size, Tr.lvs_size, pth_size, pth_size]
  rw [Tr.lvs_size, Tr.lvs_size] at h
  omega
theorem pth_mul : ∀ (a : List Nat) {A B C D : Tr}, A.lvs = B.lvs → C.lvs = D.lvs → mulT (pth a A, pth a B) (pth a C, pth a D) = (pth a (mulT (A, B) (C, D)).1, pth a (mulT (A, B) (C, D)).2)
  | [], A, B, C, D, _, _ => rfl
  | c :: a, A, B, C, D, h1, h2 => by
    have e : mulT (.leaf, .leaf) (.leaf, .leaf) = ((.leaf, .leaf) : Tr × Tr) := mul_leaf _ _ rfl
    simp only [pth_cons]
    by_cases hc : c = 108
    · simp only [if_pos hc]
      rw [node_mul (pth_lvs a h1) (pth_lvs a h2) rfl rfl, pth_mul a h1 h2, e]
    · simp only [if_neg hc]
      rw [node_mul rfl rfl (pth_lvs a h1) (pth_lvs a h2), pth_mul a h1 h2, e]
theorem apart_mul {A B C D : Tr} (h1 : A.lvs = B.lvs) (h2 : C.lvs = D.lvs) : mulT (.node A .leaf, .node B .leaf) (.node .leaf C, .node .leaf D) = (.node A C, .node B D) := by
  rw [node_mul h1 rfl rfl h2, mul_leaf _ _ h1, leaf_mul _ _ h2]
theorem apart_mul' {A B C D : Tr} (h1 : A.lvs = B.lvs) (h2 : C.lvs = D.lvs) : mulT (.node .leaf C, .node .leaf D) (.node A .leaf, .node B .leaf) = (.node A C, .node B D) := by
  rw [node_mul rfl h1 h2 rfl, leaf_mul _ _ h1, mul_leaf _ _ h2]
/-- below two addresses that part, moves can be exchanged -/
theorem pth_comm (a : List Nat) {A B C D : Tr} (h1 : A.lvs = B.lvs) (h2 : C.lvs = D.lvs) :
    mulT (pth (a ++ [108]) A, pth (a ++ [108]) B) (pth (a ++ [114]) C, pth (a ++ [114]) D) = mulT (pth (a ++ [114]) C, pth (a ++ [114]) D) (pth (a ++ [108]) A, pth (a ++ [108]) B) := by
  have l : ∀ X : Tr, pth (a ++ [108]) X = pth a (.node X .leaf) := fun X => by rw [pth_app]; rfl
  have r : ∀ X : Tr, pth (a ++ [114]) X = pth a (.node .leaf X) := fun X => by rw [pth_app]; rfl
  have l1 : (Tr.node A .leaf).lvs = (Tr.node B .leaf).lvs := by show A.lvs + _ = B.lvs + _; rw [h1]
  have l2 : (Tr.node .leaf C).lvs = (Tr.node .leaf D).lvs := by show _ + C.lvs = _ + D.lvs; rw [h2]
  rw [l, l, r, r, pth_mul a l1 l2, pth_mul a l2 l1, apart_mul h1 h2, apart_mul' h1 h2]

theorem cutHt {G : Prop} {U : Hp → Prop} {C : Hp → Nat → Prop} (use : (∀ H n, C H n → U H) → G) (key : ∀ H n, C H n → U H) : G := use key
theorem cutRt {G : Prop} {U : V → Hp → Prop} {C : V → Hp → Prop} (use : (∀ v H, C v H → U v H) → G) (key : ∀ v H, C v H → U v H) : G := use key
theorem cutPt {G P c : Prop} (use : (c → P) → G) (key : c → P) : G := use key

theorem tr_len {t : Tr} (h : t.size ≤ 2000) : t.cs.length ≤ 6001 := by rw [Tr.cs_length, Tr.len_size]; omega
abbrev sgV (c : Nat) : V := .str (S [c])
theorem hgt_size : ∀ t : Tr, Tr.hgt t ≤ t.size
  | .leaf => Nat.le_refl _
  | .node l r => by
    have h1 := hgt_size l
    have h2 := hgt_size r
    show max (Tr.hgt l) (Tr.hgt r) + 1 ≤ l.size + r.size + 1
    omega
theorem GenAt.upd {g p : Addr} {H : Hp} {n : Nat} {o : HO} (h : GenAt H g n) (ne : p ≠ g) : GenAt (L2.upd H p o) g n := by
  obtain ⟨a, b, c, h, x, y⟩ := h
  exact ⟨a, b, c, by rw [upd_ne ne.symm]; exact h, x, y⟩
theorem GenAt.keep {g l : Addr} {H H' : Hp} {n : Nat} (h : GenAt H g n) (k : Keep l H H') (ne : g ≠ l) : GenAt H' g n := by
  obtain ⟨a, b, c, h, x, y⟩ := h
  exact ⟨a, b, c, k _ _ ne h, x, y⟩
theorem off_keepg {g : Addr} {H : Hp} : Keep g H (off g H) := fun b o n e => off_at n e
theorem PTs.off {H : Hp} {g : Addr} {y : List V} (hg : H g = some (.lst y)) {vs : List V} {ts : List Tr} (h : PTs H vs ts) : PTs (off g H) vs ts := h.keep (fun b o n e => off_at n e) hg
theorem put_size : ∀ (t : Tr) (a : List Nat) (p u : Tr), tat t a = some p → (put t a u).size + p.size = t.size + u.size
  | t, [], p, u, h => by
    rw [tat_nil] at h
    cases h
    rw [put_nil]; omega
  | .leaf, c :: a, p, u, h => by cases h
  | .node l r, c :: a, p, u, h => by
    have h : (if c = 108 then tat l a else tat r a) = some p := h
    show (if c = 108 then Tr.node (put l a u) r else Tr.node l (put r a u)).size + _ = _
    by_cases hc : c = 108
    · rw [if_pos hc] at h ⊢
      have := put_size l a p u h
      show (put l a u).size + r.size + 1 + p.size = l.size + r.size + 1 + u.size
      omega
    · rw [if_neg hc] at h ⊢
      have := put_size r a p u h
      show l.size + (put r a u).size + 1 + p.size = l.size + r.size + 1 + u.size
      omega
theorem cutAll (z : Str) : cutS z none none = z := by
  unfold cutS
  have e1 : HT.sIx z.length 0 none = 0 := rfl
  have e2 : HT.sIx z.length z.length none = z.length := rfl
  rw [e1, e2]
  cases z with
  | mk c =>
    show (⟨(List.take c.size c.toList).toArray⟩ : Str) = ⟨c⟩
    rw [List.take_of_length_le (by simp)]

theorem isT_nil (st : List Str) : isT [] st = st.isEmpty := rfl
theorem isT_open {c : Nat} {cs : List Nat} {st : List Str} {wd : Str} {st' : List Str} (hw : st.headD "end" = wd) (ht : st.tail = st') (h : wd = "tree" ∧ S [c] = "(") : isT (c :: cs) st = isT cs ("tree" :: "tree" :: ")" :: st') := by
  subst hw; subst ht
  show (if _ then _ else _) = _
  rw [if_pos h]
theorem isT_bad {c : Nat} {cs : List Nat} {st : List Str} {wd : Str} (hw : st.headD "end" = wd) (h : ¬ (wd = "tree" ∧ S [c] = "(")) (h2 : wd ≠ S [c] ∧ ¬ (wd = "tree" ∧ S [c] = ".")) : isT (c :: cs) st = false := by
  subst hw
  show (if _ then _ else _) = _
  rw [if_neg h, if_pos h2]
theorem isT_on {c : Nat} {cs : List Nat} {st : List Str} {wd : Str} {st' : List Str} (hw : st.headD "end" = wd) (ht : st.tail = st') (h : ¬ (wd = "tree" ∧ S [c] = "(")) (h2 : ¬ (wd ≠ S [c] ∧ ¬ (wd = "tree" ∧ S [c] = "."))) : isT (c :: cs) st = isT cs st' := by
  subst hw; subst ht
  show (if _ then _ else _) = _
  rw [if_neg h, if_neg h2]
theorem ok_is_tree (T : Txt w K mg) : FnOk P w K mg base CX0 1 T.a_is_tree T.fd_is_tree ["value"] (sp_is_tree K) := by
  refine T.F_is_tree.ok sc_is_tree (fun vs H Q E h => ?_) (fun cdv A outer s H vs Q E hr h => ?_)
  · obtain ⟨v, rfl, _⟩ := h; rfl
  obtain ⟨v, rfl, h⟩ := h
  refine ⟨_, (pss_cons (ps_if (pt_not (pt_val (pe_callB call_isi (by rfl) T.z_isinstance (by decide +kernel) (pa_cons (pv 0) (pa_cons (pe_bltn (v := .ty "str") (by rfl) T.z_str (by decide +kernel) rfl) pa_nil))))) (pss_one (ps_ret pe_bl)) pss_nil)
    (pss_cons (ps_set (i := 1) sc_is_tree.nd rfl (by first | exact Or.inl rfl | exact Or.inr rfl) (pe_lst (pa_cons pe_str pa_nil)))
    (pss_cons (ps_for PassesOwn.never rfl (pi_str (pv 0)) (pg_name (i := 2) sc_is_tree.nd rfl (by first | exact Or.inl rfl | exact Or.inr rfl)) (pss_cons (ps_set (i := 3) sc_is_tree.nd rfl (by first | exact Or.inl rfl | exact Or.inr rfl) (pe_ifExp (pt_truth (pv 1) (fun _ => rfl)) (pe_bm0 PySem.F.plainAttrs_list PySem.F.slot_list_pop PySem.F.type_list_pop mt_pop (pv 1)) pe_str))
    (pss_one (ps_if (pw_and (pt_cmpR op_eq (pv 3) pe_str (nomark _)) (pw_and1 (pt_cmpR op_eq (pv 2) pe_str (nomark _)))).pt (pss_one (ps_expr (pe_bm PySem.F.plainAttrs_list PySem.F.slot_list_extend PySem.F.type_list_extend mt_extend (pv 1) (pa_cons (pe_lst (pa_cons pe_str (pa_cons pe_str (pa_cons pe_str pa_nil)))) pa_nil)))) (pss_one (ps_if (pw_and (pt_cmpR op_ne (pv 3) (pv 2) (nomark _)) (pw_and1 (pt_not (pw_and (pt_cmpR op_eq (pv 3) pe_str (nomark _)) (pw_and1 (pt_cmpR op_eq (pv 2) pe_str (nomark _)))).pt))).pt (pss_one (ps_ret pe_bl)) pss_nil))))))
    (pss_one (ps_ret (pe_notT (pv 1))))))), ?_⟩
  rcases h with ⟨x, rfl, hx, q⟩ | ⟨⟨t, ht, hk⟩, q⟩
  · simp only [cxOf_K, tAsg2, tYes, wipe, tSeq, tIfS, tNot, tB, tCB, tCons, tNil, tVar, tC, tTest, tOp, tAnd, tOr, tAsg, gName, tRet, tRetN, tDrop, tNext, tIf, tCall, tTup, tLst, tNotV, tAndV, tOrV, tUn, rI0, rI, rU, rEq, rNe, tM1, tM0, tBM, tBM0, tSl, tPart, tNoPart, iStr, iEnumS, iRng1, iRng2, iList, gSub, tBits, tAug, tPar, L2.start, List.map_cons, List.map_nil, List.length_cons, List.length_nil, List.getElem?_cons_zero, List.getElem?_cons_succ, List.cons_append, List.nil_append, List.append_nil, List.set_cons_zero, List.set_cons_succ, List.replicate_succ, List.replicate_zero, Option.some.injEq, exists_eq_left', V.int.injEq, V.str.injEq, V.ref.injEq, V.bl.injEq, exists_and_left, exists_eq_left, List.cons.injEq, and_true, true_and, tCallX, tRs]
    refine ⟨_, _, _, _, true, rfl, .ty _, .base (.str x), kit_ty (by decide +kernel), _, rfl, ?_⟩
    refine ⟨by decide, fun p hp => ⟨_, rfl, x, rfl, for_str (fun i σ H' => ∃ (st : List Str) (a2 a3 : Option V), σ = [some (.str x), some (.ref p), a2, a3] ∧ Same H H' ∧ H' p = some (.lst (st.reverse.map V.str)) ∧
      isT (x.cps.toList.drop i) st = isT x.cps.toList ["tree"] ∧ st.length ≤ 1 + 2 * i) ⟨_, none, none, rfl, (L2.Same.refl H).new hp _, upd_same, rfl, by decide⟩ ?_ ?_⟩⟩
    · rintro i c σ H' hc ⟨st, a2, a3, rfl, s0, hl, he, hn⟩
      have hi : i < x.cps.size := (Array.getElem?_eq_some_iff.mp hc).1
      have hxl : x.cps.size = x.length := rfl
      have hd : x.cps.toList.drop i = c :: x.cps.toList.drop (i + 1) := by
        rw [List.drop_eq_getElem_cons (by simpa using hi)]
        congr 1
        have := (Array.getElem?_eq_some_iff.mp hc).2
        simpa using this
      rw [hd] at he
      simp only [cxOf_K, tAsg2, tYes, wipe, tSeq, tIfS, tNot, tB, tCB, tCons, tNil, tVar, tC, tTest, tOp, tAnd, tOr, tAsg, gName, tRet, tRetN, tDrop, tNext, tIf, tCall, tTup, tLst, tNotV, tAndV, tOrV, tUn, rI0, rI, rU, rEq, rNe, tM1, tM0, tBM, tBM0, tSl, tPart, tNoPart, iStr, iEnumS, iRng1, iRng2, iList, gSub, tBits, tAug, tPar, L2.start, List.map_cons, List.map_nil, List.length_cons, List.length_nil, List.getElem?_cons_zero, List.getElem?_cons_succ, List.cons_append, List.nil_append, List.append_nil, List.set_cons_zero, List.set_cons_succ, List.replicate_succ, List.replicate_zero, Option.some.injEq, exists_eq_left', V.int.injEq, V.str.injEq, V.ref.injEq, V.bl.injEq, exists_and_left, exists_eq_left, List.cons.injEq, and_true, true_and, tCallX, tRs]
      have hS : ({ cps := #[c] } : Str) = S [c] := rfl
      rcases st with _ | ⟨w0, st⟩
      · refine ⟨false, .inl ⟨_, SqL.of hl, rfl⟩, ?_⟩
        rw [if_neg Bool.false_ne_true]
        obtain ⟨st0, hst0⟩ : ∃ st0 : List Str, st0 = [] := ⟨_, rfl⟩
        replace he : isT (c :: x.cps.toList.drop (i + 1)) st0 = isT x.cps.toList ["tree"] := by rw [hst0]; exact he
        obtain ⟨wd, hwd⟩ : ∃ wd, wd = Str.ofString "end" := ⟨_, rfl⟩
        rw [← hwd]
        obtain ⟨st', hst'⟩ : ∃ st' : List Str, st' = [] := ⟨_, rfl⟩
        have hw : st0.headD "end" = wd := by rw [hst0, hwd]; rfl
        have ht : st0.tail = st' := by rw [hst0, hst']; rfl
        have hn' : st'.length ≤ 2 * i := by rw [hst']; exact Nat.zero_le _
        rw [← hst'] at hl
        try simp only [V.str.injEq]
        refine ⟨rfl, ?_⟩
        have yes : wd = "tree" → S [c] = "(" → ∀ l, H' l = none → ∃ st2 a2 a3, (some (V.str ⟨#[c]⟩) = a2 ∧ some (V.str wd) = a3) ∧ Same H (upd (upd H' l (.lst [.str ")", .str "tree", .str "tree"])) p (.lst (st'.reverse.map V.str ++ [.str ")", .str "tree", .str "tree"]))) ∧
            upd (upd H' l (.lst [.str ")", .str "tree", .str "tree"])) p (.lst (st'.reverse.map V.str ++ [.str ")", .str "tree", .str "tree"])) p = some (.lst (List.map V.str st2.reverse)) ∧ isT (x.cps.toList.drop (i + 1)) st2 = isT x.cps.toList ["tree"] ∧ st2.length ≤ 1 + 2 * (i + 1) := fun h1 h2 l hl' => by
          refine ⟨"tree" :: "tree" :: ")" :: st', _, _, ⟨rfl, rfl⟩, ((s0.new (s0.free hl') _).new hp _), ?_, ?_, ?_⟩
          · rw [upd_same]; simp
          · rw [← he, isT_open hw ht ⟨h1, h2⟩]
          · simp only [List.length_cons]; omega
        have no : ¬ (wd = "tree" ∧ S [c] = "(") → (if (!decide (wd = S [c])) = true then scal (V.str wd) (V.str "tree") = true ∧ (if decide (wd = "tree") = true then scal (V.str (S [c])) (V.str ".") = true ∧ (if (!decide (S [c] = ".")) = true then Q (V.bl false) H' else
              ∃ st2 a2 a3, (some (V.str ⟨#[c]⟩) = a2 ∧ some (V.str wd) = a3) ∧ Same H H' ∧ H' p = some (.lst (List.map V.str st2.reverse)) ∧ isT (x.cps.toList.drop (i + 1)) st2 = isT x.cps.toList ["tree"] ∧ st2.length ≤ 1 + 2 * (i + 1))
              else if (!false) = true then Q (V.bl false) H' else ∃ st2 a2 a3, (some (V.str ⟨#[c]⟩) = a2 ∧ some (V.str wd) = a3) ∧ Same H H' ∧ H' p = some (.lst (List.map V.str st2.reverse)) ∧ isT (x.cps.toList.drop (i + 1)) st2 = isT x.cps.toList ["tree"] ∧ st2.length ≤ 1 + 2 * (i + 1))
            else if false = true then Q (V.bl false) H' else ∃ st2 a2 a3, (some (V.str ⟨#[c]⟩) = a2 ∧ some (V.str wd) = a3) ∧ Same H H' ∧ H' p = some (.lst (List.map V.str st2.reverse)) ∧ isT (x.cps.toList.drop (i + 1)) st2 = isT x.cps.toList ["tree"] ∧ st2.length ≤ 1 + 2 * (i + 1)) := fun hno => by
          have bad : wd ≠ S [c] → ¬ (wd = "tree" ∧ S [c] = ".") → Q (V.bl false) H' := fun h1 h2 => by
            rw [isT_bad hw hno ⟨h1, h2⟩] at he
            rw [he]; exact q _ s0
          have good : ¬ (wd ≠ S [c] ∧ ¬ (wd = "tree" ∧ S [c] = ".")) → ∃ st2 a2 a3, (some (V.str ⟨#[c]⟩) = a2 ∧ some (V.str wd) = a3) ∧ Same H H' ∧ H' p = some (.lst (List.map V.str st2.reverse)) ∧ isT (x.cps.toList.drop (i + 1)) st2 = isT x.cps.toList ["tree"] ∧ st2.length ≤ 1 + 2 * (i + 1) := fun h => by
            rw [isT_on hw ht hno h] at he
            exact ⟨st', _, _, ⟨rfl, rfl⟩, s0, hl, he, by omega⟩
          by_cases e1 : wd = S [c]
          · rw [if_neg (by simp [e1]), if_neg Bool.false_ne_true]
            exact good (fun h => h.1 e1)
          · rw [if_pos (by simp [e1])]
            refine ⟨rfl, ?_⟩
            by_cases e2 : wd = "tree"
            · rw [if_pos (decide_eq_true e2)]
              refine ⟨rfl, ?_⟩
              by_cases e3 : S [c] = "."
              · rw [if_neg (by simp [e3])]
                exact good (fun h => h.2 ⟨e2, e3⟩)
              · rw [if_pos (by simp [e3])]
                exact bad e1 (fun h => e3 h.2)
            · rw [if_neg (by simp [e2]), if_pos (show (!false) = true from rfl)]
              exact bad e1 (fun h => e2 h.1)
        by_cases h1 : wd = "tree"
        · rw [if_pos (decide_eq_true h1)]
          refine ⟨rfl, ?_⟩
          by_cases h2 : S [c] = "("
          · rw [if_pos (decide_eq_true h2)]
            refine ⟨tyV_lst hl, by decide, fun l hl' => ⟨p, l, st'.reverse.map V.str, _, rfl, rfl, ?_, upd_same, ?_, ?_⟩⟩
            · rw [upd_ne (ne_of_none hl hl')]; exact hl
            · simp only [List.length_map, List.length_reverse, List.length_cons, List.length_nil]
              exact small5 (by omega)
            · exact yes h1 h2 l hl'
          · rw [if_neg (by simp only [decide_eq_true_eq]; exact h2)]
            exact ⟨rfl, no (fun h => h2 h.2)⟩
        · rw [if_neg (by simp only [decide_eq_true_eq]; exact h1), if_neg Bool.false_ne_true]
          exact ⟨rfl, no (fun h => h1 h.1)⟩
      · refine ⟨true, .inl ⟨_, SqL.of hl, by simp⟩, ?_⟩
        rw [if_pos rfl]
        refine ⟨tyV_lst hl, p, _, .str w0, rfl, rfl, hl, by simp, ?_⟩
        have hl' : (upd H' p (.lst ((List.map V.str (w0 :: st).reverse).dropLast))) p = some (.lst (st.reverse.map V.str)) := by
          rw [upd_same]; simp
        have s0' := s0.new hp (.lst ((List.map V.str (w0 :: st).reverse).dropLast))
        generalize upd H' p (.lst ((List.map V.str (w0 :: st).reverse).dropLast)) = H' at hl' s0' ⊢
        replace hl := hl'
        replace s0 := s0'
        have hn' : st.length ≤ 2 * i := by simp only [List.length_cons] at hn; omega
        obtain ⟨st0, hst0⟩ : ∃ st0 : List Str, st0 = w0 :: st := ⟨_, rfl⟩
        rw [← hst0] at he
        have hw : st0.headD "end" = w0 := by rw [hst0]; rfl
        have ht : st0.tail = st := by rw [hst0]; rfl
        obtain ⟨wd, hwd⟩ : ∃ wd, wd = w0 := ⟨_, rfl⟩
        rw [← hwd] at hw ⊢
        obtain ⟨st', hst'⟩ : ∃ st' : List Str, st' = st := ⟨_, rfl⟩
        rw [← hst'] at ht hl hn'
        try simp only [V.str.injEq]
        refine ⟨rfl, ?_⟩
        have yes : wd = "tree" → S [c] = "(" → ∀ l, H' l = none → ∃ st2 a2 a3, (some (V.str ⟨#[c]⟩) = a2 ∧ some (V.str wd) = a3) ∧ Same H (upd (upd H' l (.lst [.str ")", .str "tree", .str "tree"])) p (.lst (st'.reverse.map V.str ++ [.str ")", .str "tree", .str "tree"]))) ∧
            upd (upd H' l (.lst [.str ")", .str "tree", .str "tree"])) p (.lst (st'.reverse.map V.str ++ [.str ")", .str "tree", .str "tree"])) p = some (.lst (List.map V.str st2.reverse)) ∧ isT (x.cps.toList.drop (i + 1)) st2 = isT x.cps.toList ["tree"] ∧ st2.length ≤ 1 + 2 * (i + 1) := fun h1 h2 l hl' => by
          refine ⟨"tree" :: "tree" :: ")" :: st', _, _, ⟨rfl, rfl⟩, ((s0.new (s0.free hl') _).new hp _), ?_, ?_, ?_⟩
          · rw [upd_same]; simp
          · rw [← he, isT_open hw ht ⟨h1, h2⟩]
          · simp only [List.length_cons]; omega
        have no : ¬ (wd = "tree" ∧ S [c] = "(") → (if (!decide (wd = S [c])) = true then scal (V.str wd) (V.str "tree") = true ∧ (if decide (wd = "tree") = true then scal (V.str (S [c])) (V.str ".") = true ∧ (if (!decide (S [c] = ".")) = true then Q (V.bl false) H' else
              ∃ st2 a2 a3, (some (V.str ⟨#[c]⟩) = a2 ∧ some (V.str wd) = a3) ∧ Same H H' ∧ H' p = some (.lst (List.map V.str st2.reverse)) ∧ isT (x.cps.toList.drop (i + 1)) st2 = isT x.cps.toList ["tree"] ∧ st2.length ≤ 1 + 2 * (i + 1))
              else if (!false) = true then Q (V.bl false) H' else ∃ st2 a2 a3, (some (V.str ⟨#[c]⟩) = a2 ∧ some (V.str wd) = a3) ∧ Same H H' ∧ H' p = some (.lst (List.map V.str st2.reverse)) ∧ isT (x.cps.toList.drop (i + 1)) st2 = isT x.cps.toList ["tree"] ∧ st2.length ≤ 1 + 2 * (i + 1))
            else if false = true then Q (V.bl false) H' else ∃ st2 a2 a3, (some (V.str ⟨#[c]⟩) = a2 ∧ some (V.str wd) = a3) ∧ Same H H' ∧ H' p = some (.lst (List.map V.str st2.reverse)) ∧ isT (x.cps.toList.drop (i + 1)) st2 = isT x.cps.toList ["tree"] ∧ st2.length ≤ 1 + 2 * (i + 1)) := fun hno => by
          have bad : wd ≠ S [c] → ¬ (wd = "tree" ∧ S [c] = ".") → Q (V.bl false) H' := fun h1 h2 => by
            rw [isT_bad hw hno ⟨h1, h2⟩] at he
            rw [he]; exact q _ s0
          have good : ¬ (wd ≠ S [c] ∧ ¬ (wd = "tree" ∧ S [c] = ".")) → ∃ st2 a2 a3, (some (V.str ⟨#[c]⟩) = a2 ∧ some (V.str wd) = a3) ∧ Same H H' ∧ H' p = some (.lst (List.map V.str st2.reverse)) ∧ isT (x.cps.toList.drop (i + 1)) st2 = isT x.cps.toList ["tree"] ∧ st2.length ≤ 1 + 2 * (i + 1) := fun h => by
            rw [isT_on hw ht hno h] at he
            exact ⟨st', _, _, ⟨rfl, rfl⟩, s0, hl, he, by omega⟩
          by_cases e1 : wd = S [c]
          · rw [if_neg (by simp [e1]), if_neg Bool.false_ne_true]
            exact good (fun h => h.1 e1)
          · rw [if_pos (by simp [e1])]
            refine ⟨rfl, ?_⟩
            by_cases e2 : wd = "tree"
            · rw [if_pos (decide_eq_true e2)]
              refine ⟨rfl, ?_⟩
              by_cases e3 : S [c] = "."
              · rw [if_neg (by simp [e3])]
                exact good (fun h => h.2 ⟨e2, e3⟩)
              · rw [if_pos (by simp [e3])]
                exact bad e1 (fun h => e3 h.2)
            · rw [if_neg (by simp [e2]), if_pos (show (!false) = true from rfl)]
              exact bad e1 (fun h => e2 h.1)
        by_cases h1 : wd = "tree"
        · rw [if_pos (decide_eq_true h1)]
          refine ⟨rfl, ?_⟩
          by_cases h2 : S [c] = "("
          · rw [if_pos (decide_eq_true h2)]
            refine ⟨tyV_lst hl, by decide, fun l hl' => ⟨p, l, st'.reverse.map V.str, _, rfl, rfl, ?_, upd_same, ?_, ?_⟩⟩
            · rw [upd_ne (ne_of_none hl hl')]; exact hl
            · simp only [List.length_map, List.length_reverse, List.length_cons, List.length_nil]
              exact small5 (by omega)
            · exact yes h1 h2 l hl'
          · rw [if_neg (by simp only [decide_eq_true_eq]; exact h2)]
            exact ⟨rfl, no (fun h => h2 h.2)⟩
        · rw [if_neg (by simp only [decide_eq_true_eq]; exact h1), if_neg Bool.false_ne_true]
          exact ⟨rfl, no (fun h => h1 h.1)⟩
    · rintro σ H' ⟨st, a2, a3, rfl, s0, hl, he, hn⟩
      have : x.cps.toList.drop x.cps.size = [] := List.drop_eq_nil_of_le (by simp)
      rw [this, isT_nil] at he
      simp only [cxOf_K, tAsg2, tYes, wipe, tSeq, tIfS, tNot, tB, tCB, tCons, tNil, tVar, tC, tTest, tOp, tAnd, tOr, tAsg, gName, tRet, tRetN, tDrop, tNext, tIf, tCall, tTup, tLst, tNotV, tAndV, tOrV, tUn, rI0, rI, rU, rEq, rNe, tM1, tM0, tBM, tBM0, tSl, tPart, tNoPart, iStr, iEnumS, iRng1, iRng2, iList, gSub, tBits, tAug, tPar, L2.start, List.map_cons, List.map_nil, List.length_cons, List.length_nil, List.getElem?_cons_zero, List.getElem?_cons_succ, List.cons_append, List.nil_append, List.append_nil, List.set_cons_zero, List.set_cons_succ, List.replicate_succ, List.replicate_zero, Option.some.injEq, exists_eq_left', V.int.injEq, V.str.injEq, V.ref.injEq, V.bl.injEq, exists_and_left, exists_eq_left, List.cons.injEq, and_true, true_and, tCallX, tRs, tNotT]
      refine ⟨!st.isEmpty, .inl ⟨_, SqL.of hl, by simp⟩, ?_⟩
      rw [Bool.not_not, he]
      exact q _ s0
  · simp only [cxOf_K, tAsg2, tYes, wipe, tSeq, tIfS, tNot, tB, tCB, tCons, tNil, tVar, tC, tTest, tOp, tAnd, tOr, tAsg, gName, tRet, tRetN, tDrop, tNext, tIf, tCall, tTup, tLst, tNotV, tAndV, tOrV, tUn, rI0, rI, rU, rEq, rNe, tM1, tM0, tBM, tBM0, tSl, tPart, tNoPart, iStr, iEnumS, iRng1, iRng2, iList, gSub, tBits, tAug, tPar, L2.start, List.map_cons, List.map_nil, List.length_cons, List.length_nil, List.getElem?_cons_zero, List.getElem?_cons_succ, List.cons_append, List.nil_append, List.append_nil, List.set_cons_zero, List.set_cons_succ, List.replicate_succ, List.replicate_zero, Option.some.injEq, exists_eq_left', V.int.injEq, V.str.injEq, V.ref.injEq, V.bl.injEq, exists_and_left, exists_eq_left, List.cons.injEq, and_true, true_and, tCallX, tRs]
    exact ⟨_, _, _, _, false, rfl, .ty _, ht, hk, _, rfl, q⟩

theorem lit_ne (c : Nat) : ("tree" : Str) ≠ S [c] := by
  intro h
  rw [lit_tree] at h
  have := S_inj h
  simp at this
theorem isT_tree : ∀ (t : Tr) (rest : List Nat) (st : List Str), isT (t.cs ++ rest) ("tree" :: st) = isT rest st
  | .leaf, rest, st => by
    show isT (46 :: rest) ("tree" :: st) = _
    refine isT_on (st := "tree" :: st) (wd := "tree") rfl rfl (fun h => ?_) (fun h => h.2 ⟨rfl, lit_dot.symm⟩)
    have := h.2
    rw [lit_open] at this
    have := S_inj this
    simp at this
  | .node l r, rest, st => by
    show isT (40 :: ((l.cs ++ (r.cs ++ [41])) ++ rest)) ("tree" :: st) = _
    rw [isT_open (st := "tree" :: st) (wd := "tree") (st' := st) rfl rfl ⟨rfl, lit_open.symm⟩, List.append_assoc, isT_tree l, List.append_assoc, isT_tree r]
    show isT (41 :: ([] ++ rest)) (")" :: st) = _
    rw [isT_on (st := ")" :: st) (wd := ")") (st' := st) rfl rfl]
    · rfl
    · intro h; exact absurd h.1 (by decide +kernel)
    · intro h; exact h.1 lit_close
theorem isT_text (t : Tr) : isT t.cs ["tree"] = true := by
  have := isT_tree t [] []
  rw [List.append_nil] at this
  rw [this]; rfl
theorem ok_check_tree (T : Txt w K mg) : FnOk P w K mg base (L2.CX P w) 3 T.a_check_tree T.fd_check_tree ["value"] (sp_check_tree T) := by
  refine T.F_check_tree.okX sc_check_tree (fun vs H Q E h => ?_) (fun cdv A outer s H vs Q E hr h => ?_)
  · obtain ⟨v, rfl, _⟩ := h; rfl
  obtain ⟨v, rfl, h⟩ := h
  refine ⟨_, (pss_one (ps_if (pt_not (pt_val (pe_call (ok_is_tree T) (hr.mono (by first | decide | omega)) (by rfl) T.m_is_tree T.F_is_tree.kp T.b_is_tree .nil pass0 (pa_cons (pv 0) pa_nil)))) (pss_one (ps_raise rfl (takes_of rfl rfl rfl rfl) (pmk_err T.o_InvalidTree (hr.mono (by first | decide | omega)) (by rfl) (pv 0)))) pss_nil)), ?_⟩
  simp only [cxOf_K, tAsg2, tYes, wipe, tSeq, tIfS, tNot, tB, tCB, tCons, tNil, tVar, tC, tTest, tOp, tAnd, tOr, tAsg, gName, tRet, tRetN, tDrop, tNext, tIf, tCall, tTup, tLst, tNotV, tAndV, tOrV, tUn, rI0, rI, rU, rEq, rNe, tM1, tM0, tBM, tBM0, tSl, tPart, tNoPart, iStr, iEnumS, iRng1, iRng2, iList, gSub, tBits, tAug, tPar, L2.start, List.map_cons, List.map_nil, List.length_cons, List.length_nil, List.getElem?_cons_zero, List.getElem?_cons_succ, List.cons_append, List.nil_append, List.append_nil, List.set_cons_zero, List.set_cons_succ, List.replicate_succ, List.replicate_zero, Option.some.injEq, exists_eq_left', V.int.injEq, V.str.injEq, V.ref.injEq, V.bl.injEq, exists_and_left, exists_eq_left, List.cons.injEq, and_true, true_and, tCallX, tRs]
  rcases h with ⟨t, rfl, ht, q⟩ | ⟨nt, out⟩
  · refine ⟨_, rfl, .inl ⟨_, rfl, by rw [S_len]; have := tr_len ht; omega, fun H' s0 => ?_⟩⟩
    refine ⟨true, by rw [← isT_text t], ?_⟩
    exact iteF (q _ s0)
  · rcases nt with ⟨x, rfl, hx, e⟩ | ns
    · refine ⟨_, rfl, .inl ⟨x, rfl, hx, fun H' s0 => ⟨false, by rw [e], ?_⟩⟩⟩
      rw [if_pos (show (!false) = true from rfl)]
      exact fun d H2 s2 n e2 => out d H2 (s0.trans s2) (s0.free n) e2
    · refine ⟨v, rfl, .inr ⟨ns, false, rfl, ?_⟩⟩
      rw [if_pos (show (!false) = true from rfl)]
      exact out

theorem mf_b (A B : Tr) : List.lookup (Str.ofString "_before") (mf A B) = some (trV A) := rfl
theorem mf_a (A B : Tr) : List.lookup (Str.ofString "_after") (mf A B) = some (trV B) := by
  unfold mf
  rw [List.lookup_cons, show (Str.ofString "_after" == Str.ofString "_before") = false by decide +kernel]
  rfl
theorem ok_Move_before (T : Txt w K mg) : FnOk P w K mg base CX0 1 T.a_Move_before T.fd_Move_before ["self"] (sp_Move_before T) := by
  refine T.F_Move_before.ok sc_Move_before (fun vs H Q E h => ?_) (fun cdv A outer s H vs Q E hr h => ?_)
  · obtain ⟨_, _, _, rfl, _⟩ := h; rfl
  obtain ⟨v, A', B', rfl, ⟨ab, p, dx, rfl, hp⟩, q⟩ := h
  refine ⟨_, (pss_one (ps_ret (pe_fld (pv 0) rfl))), ?_⟩
  simp only [cxOf_K, tAsg2, tYes, wipe, tSeq, tIfS, tNot, tB, tCB, tCons, tNil, tVar, tC, tTest, tOp, tAnd, tOr, tAsg, gName, tRet, tRetN, tDrop, tNext, tIf, tCall, tTup, tLst, tNotV, tAndV, tOrV, tUn, rI0, rI, rU, rEq, rNe, tM1, tM0, tBM, tBM0, tSl, tPart, tNoPart, iStr, iEnumS, iRng1, iRng2, iList, gSub, tBits, tAug, tPar, L2.start, List.map_cons, List.map_nil, List.length_cons, List.length_nil, List.getElem?_cons_zero, List.getElem?_cons_succ, List.cons_append, List.nil_append, List.append_nil, List.set_cons_zero, List.set_cons_succ, List.replicate_succ, List.replicate_zero, Option.some.injEq, exists_eq_left', V.int.injEq, V.str.injEq, V.ref.injEq, V.bl.injEq, exists_and_left, exists_eq_left, List.cons.injEq, and_true, true_and, tCallX, tRs, tProp, OW.tSMeth, OW.tCallI, Nat.sub_self, List.replicate_zero, tFld, sFld, sFldAug, tDGet, tDIn, tDNotIn, sDPut, tMeth, tMake, tDNewK]
  exact ⟨_, _, _, hp, T.l_Move, T.n_Move__before, _, mf_b _ _, q⟩

theorem mf_put (A B : Tr) : putF (Str.ofString "_after") (trV B) (putF (Str.ofString "_before") (trV A) []) = mf A B := by
  have n : ¬ (Str.ofString "_before" = Str.ofString "_after") := by decide +kernel
  show (if Str.ofString "_before" = Str.ofString "_after" then _ else (Str.ofString "_before", trV A) :: putF (Str.ofString "_after") (trV B) []) = _
  rw [if_neg n]; rfl
theorem ok_Move___init__ (T : Txt w K mg) : FnOk P w K mg base (L2.CX P w) 4 T.a_Move___init__ T.fd_Move___init__ ["self", "before", "after"] (sp_Move___init__ T) := by
  refine T.F_Move___init__.okX sc_Move___init__ (fun vs H Q E h => ?_) (fun cdv A outer s H vs Q E hr h => ?_)
  · obtain ⟨_, _, _, _, _, rfl, _⟩ := h; rfl
  obtain ⟨H0, p, dx, u, v, rfl, s0, np, hp, h⟩ := h
  refine ⟨_, (pss_cons (ps_expr (pe_callX (ok_check_tree T) (takes_of rfl rfl rfl rfl) (hr.mono (by first | decide | omega)) (by rfl) T.m_check_tree T.F_check_tree.kp T.b_check_tree .nil (pa_cons (pv 1) pa_nil)))
    (pss_cons (ps_expr (pe_callX (ok_check_tree T) (takes_of rfl rfl rfl rfl) (hr.mono (by first | decide | omega)) (by rfl) T.m_check_tree T.F_check_tree.kp T.b_check_tree .nil (pa_cons (pv 2) pa_nil)))
    (pss_cons (ps_if (pt_cmpR op_ne (pe_m1 PySem.F.slot_str_count PySem.F.type_str_count mt_count (pv 1) pe_str) (pe_m1 PySem.F.slot_str_count PySem.F.type_str_count mt_count (pv 2) pe_str) (nomark _)) (pss_one (ps_raise rfl (takes_of rfl rfl rfl rfl) (pmk_err T.o_InvalidMove (hr.mono (by first | decide | omega)) (by rfl) (pe_tup (pa_cons (pv 1) (pa_cons (pv 2) pa_nil)))))) pss_nil)
    (pss_cons (ps_fld (pv 0) (pe_slice sl_str (pv 1) po_none po_none) rfl)
    (pss_one (ps_fld (pv 0) (pe_slice sl_str (pv 2) po_none po_none) rfl)))))), ?_⟩
  simp only [cxOf_K, tAsg2, tYes, wipe, tSeq, tIfS, tNot, tB, tCB, tCons, tNil, tVar, tC, tTest, tOp, tAnd, tOr, tAsg, gName, tRet, tRetN, tDrop, tNext, tIf, tCall, tTup, tLst, tNotV, tAndV, tOrV, tUn, rI0, rI, rU, rEq, rNe, tM1, tM0, tBM, tBM0, tSl, tPart, tNoPart, iStr, iEnumS, iRng1, iRng2, iList, gSub, tBits, tAug, tPar, L2.start, List.map_cons, List.map_nil, List.length_cons, List.length_nil, List.getElem?_cons_zero, List.getElem?_cons_succ, List.cons_append, List.nil_append, List.append_nil, List.set_cons_zero, List.set_cons_succ, List.replicate_succ, List.replicate_zero, Option.some.injEq, exists_eq_left', V.int.injEq, V.str.injEq, V.ref.injEq, V.bl.injEq, exists_and_left, exists_eq_left, List.cons.injEq, and_true, true_and, tCallX, tRs, tProp, OW.tSMeth, OW.tCallI, Nat.sub_self, List.replicate_zero, tFld, sFld, sFldAug, tDGet, tDIn, tDNotIn, sDPut, tMeth, tMake, tDNewK]
  rcases h with ⟨A', rfl, a2, h⟩ | ⟨nt, out⟩
  case inr => exact ⟨u, rfl, .inr ⟨nt, out⟩⟩
  refine ⟨trV A', rfl, .inl ⟨A', rfl, a2, fun H1 s1 => ?_⟩⟩
  rcases h with ⟨B', rfl, b2, good, bad⟩ | ⟨nt, out⟩
  case inr => exact ⟨v, rfl, .inr ⟨nt.same s1, out.same s1⟩⟩
  refine ⟨trV B', rfl, .inl ⟨B', rfl, b2, fun H2 s2 => ?_⟩⟩
  have s12 := s1.trans s2
  refine ⟨⟨_, rfl⟩, S A'.cs, rfl, ⟨_, rfl⟩, S B'.cs, rfl, ?_⟩
  rw [lit_open, count_S, count_S, count_open, count_open]
  refine ⟨rfl, ?_⟩
  by_cases e : A'.size = B'.size
  · rw [if_neg (by simp [e])]
    have la := tr_len a2
    have lb := tr_len b2
    have hp2 := s12 _ _ hp
    refine ⟨_, rfl, by rw [S_len]; exact small5 (by omega), ?_⟩
    rw [cutAll]
    refine ⟨_, _, _, hp2, T.l_Move, T.n_Move__before, by show 0 < 1000; decide, ?_⟩
    refine ⟨_, rfl, by rw [S_len]; exact small5 (by omega), ?_⟩
    rw [cutAll]
    refine ⟨_, _, _, upd_same, T.l_Move, T.n_Move__after, by show 1 < 1000; decide, ?_⟩
    refine good e _ ?_ ?_
    · exact ((s0.trans s12).new np _).new np _
    · rw [upd_same, mf_put]
  · rw [if_pos (by simp only [Bool.not_eq_true', decide_eq_false_iff_not]; omega)]
    refine ⟨by decide, fun q nq d H3 s3 nd hd => ?_⟩
    have s4 := (s12.new (s12.free nq) (.tup [trV A', trV B']))
    exact bad e q d H3 (s4.trans s3) (s12.free nq) (s3 _ _ upd_same) hd (s4.free nd)

theorem make_mv (T : Txt w K mg) {H : Hp} {Q : VK} {E : XK} {A B : Tr} (hA : A.size ≤ 2000) (e : A.size = B.size) (q : NewM T.c_Move H A B Q) : ∀ x dx, H x = none → H dx = none → dx ≠ x → sp_Move___init__ T [.ref x, trV A, trV B] (upd (upd H dx (.own x)) x (.ins T.c_Move dx [])) (fun v H2 => v = .non ∧ Q (.ref x) H2) E := by
  intro x dx nx ndx nex
  have s0 : Same H (upd (upd H dx (.own x)) x (.ins T.c_Move dx [])) := ((L2.Same.refl H).new ndx _).new nx _
  refine ⟨H, x, dx, trV A, trV B, rfl, s0, nx, upd_same, .inl ⟨A, rfl, hA, .inl ⟨B, rfl, by omega, fun _ H' s h => ⟨rfl, q x H' nx s ⟨e, x, dx, rfl, h⟩⟩, fun n => absurd e n⟩⟩⟩

theorem getV {xs : List Tr} {i : Nat} {x : V} (h : (xs.map trV)[i]? = some x) : ∃ t, xs[i]? = some t ∧ x = trV t ∧ t ∈ xs := by
  rw [List.getElem?_map] at h
  cases e : xs[i]? with
  | none => rw [e] at h; cases h
  | some t => rw [e] at h; exact ⟨t, rfl, (Option.some.inj h).symm, List.mem_of_getElem? e⟩
theorem ok_check_hung (T : Txt w K mg) : FnOk P w K mg base (L2.CX P w) 3 T.a_check_hung T.fd_check_hung ["tree", "trees"] (sp_check_hung T) := by
  refine T.F_check_hung.okX sc_check_hung (fun vs H Q E h => ?_) (fun cdv A outer s H vs Q E hr h => ?_)
  · obtain ⟨t, v, rfl, _⟩ := h; rfl
  obtain ⟨t, v, rfl, ht, h⟩ := h
  have hlv : t.lvs ≤ 2001 := by rw [Tr.lvs_size]; omega
  refine ⟨_, (pss_cons (ps_if (pw_or (pt_not (pt_val (pe_callB call_isi (by rfl) T.z_isinstance (by decide +kernel) (pa_cons (pv 1) (pa_cons (pe_bltn (v := .ty "list") (by rfl) T.z_list (by decide +kernel) rfl) pa_nil))))) (pw_or1 (pt_cmpR op_ne (pe_callB call_len_seq (by rfl) T.z_len PySem.boot_len (pa_cons (pv 1) pa_nil)) (pe_m1 PySem.F.slot_str_count PySem.F.type_str_count mt_count (pv 0) pe_str) (nomark _)))).pt (pss_one (ps_raise rfl (takes_of rfl rfl rfl rfl) (pmk_err T.o_InvalidList (hr.mono (by first | decide | omega)) (by rfl) (pv 1)))) pss_nil)
    (pss_one (ps_if (pt_not (pt_val (pe_callB (cr_all rfl) (by rfl) T.z_all (by decide +kernel) (pa_cons (pe_lc (own := [("item", 2)]) rfl sc_check_hung.nd (pi_list (pv 1)) (blkOk_by (own := [("item", 2)]) (N := nm_check_hung) (sc := defScope s_check_hung) (by decide +kernel)) (fun _ _ _ _ _ => by exact (pg_name (i := 2) sc_check_hung.nd rfl (by first | exact Or.inl rfl | exact Or.inr rfl))) (fun _ _ _ _ _ => by exact pts_nil) (fun _ _ _ _ _ => by exact (pe_call (ok_is_tree T) (hr.mono (by first | decide | omega)) (by rfl) T.m_is_tree T.F_is_tree.kp T.b_is_tree .nil pass0 (pa_cons (pv 2) pa_nil)))) pa_nil)))) (pss_one (ps_raise rfl (takes_of rfl rfl rfl rfl) (pmk_err T.o_InvalidList (hr.mono (by first | decide | omega)) (by rfl) (pv 1)))) pss_nil))), ?_⟩
  simp only [cxOf_K, tAsg2, tYes, wipe, tSeq, tIfS, tNot, tB, tCB, tCons, tNil, tVar, tC, tTest, tOp, tAnd, tOr, tAsg, gName, tRet, tRetN, tDrop, tNext, tIf, tCall, tTup, tLst, tNotV, tAndV, tOrV, tUn, rI0, rI, rU, rEq, rNe, tM1, tM0, tBM, tBM0, tSl, tPart, tNoPart, iStr, iEnumS, iRng1, iRng2, iList, gSub, tBits, tAug, tPar, L2.start, List.map_cons, List.map_nil, List.length_cons, List.length_nil, List.getElem?_cons_zero, List.getElem?_cons_succ, List.cons_append, List.nil_append, List.append_nil, List.set_cons_zero, List.set_cons_succ, List.replicate_succ, List.replicate_zero, Option.some.injEq, exists_eq_left', V.int.injEq, V.str.injEq, V.ref.injEq, V.bl.injEq, exists_and_left, exists_eq_left, List.cons.injEq, and_true, true_and, tCallX, tRs]
  rcases h with ⟨xs, ⟨a, rfl, ha, hl, hx⟩, q⟩ | ⟨⟨ty, h1, h2⟩ | ⟨a, ws, rfl, ha, hw, bad⟩, out⟩
  · refine ⟨_, _, _, _, true, rfl, .ty _, .base (.lst ha), kit_ty (by decide +kernel), true, rfl, ?_⟩
    rw [if_neg (by decide)]
    refine ⟨_, rfl, _, .inl (SqL.of ha), ⟨_, rfl⟩, rfl, ?_⟩
    rw [lit_dot, count_S, count_tree, List.length_map, hl]
    refine ifnF rfl ?_
    refine ⟨_, rfl, a, rfl, ⟨_, SqL.of ha⟩, fun D hD => ?_⟩
    refine lc_list (K := K) (a := a) (xs := xs.map trV) (fun i H' => Same H H' ∧ H' D = some (.lst ((List.replicate i true).map V.bl))) ⟨(L2.Same.refl H).new hD _, upd_same⟩ (fun i H' _ hp => SqL.of (hp.1 _ _ ha)) ?_ ?_
    · rintro i x H' hi ⟨s0, hd⟩
      obtain ⟨u, hu, rfl, hm⟩ := getV hi
      have hil : i < xs.length := (List.getElem?_eq_some_iff.mp hu).1
      simp only [cxOf_K, tAsg2, tYes, wipe, tSeq, tIfS, tNot, tB, tCB, tCons, tNil, tVar, tC, tTest, tOp, tAnd, tOr, tAsg, gName, tRet, tRetN, tDrop, tNext, tIf, tCall, tTup, tLst, tNotV, tAndV, tOrV, tUn, rI0, rI, rU, rEq, rNe, tM1, tM0, tBM, tBM0, tSl, tPart, tNoPart, iStr, iEnumS, iRng1, iRng2, iList, gSub, tBits, tAug, tPar, L2.start, List.map_cons, List.map_nil, List.length_cons, List.length_nil, List.getElem?_cons_zero, List.getElem?_cons_succ, List.cons_append, List.nil_append, List.append_nil, List.set_cons_zero, List.set_cons_succ, List.replicate_succ, List.replicate_zero, Option.some.injEq, exists_eq_left', V.int.injEq, V.str.injEq, V.ref.injEq, V.bl.injEq, exists_and_left, exists_eq_left, List.cons.injEq, and_true, true_and, tCallX, tRs]
      rw [if_pos True.intro]
      refine ⟨_, rfl, .inl ⟨_, rfl, by rw [S_len]; have := tr_len (hx u hm); omega, fun H2 s1 => ?_⟩⟩
      refine ⟨_, s1 _ _ hd, by simp; exact small5' (by omega), ((s0.trans s1).new hD _), ?_⟩
      rw [upd_same]
      have : isT (S u.cs).cps.toList ["tree"] = true := isT_text u
      rw [this]
      show _ = some (HO.lst ((List.replicate (i + 1) true).map V.bl))
      rw [List.replicate_succ', List.map_append]; rfl
    · rintro H' ⟨s0, hd⟩
      refine ⟨D, List.replicate (xs.map trV).length true, rfl, SqL.of hd, true, by simp, ?_⟩
      exact iteF (q _ s0)
  · refine ⟨v, _, ty, _, false, rfl, .ty _, h1, h2, false, rfl, ?_⟩
    rw [if_pos (show (!false) = true from rfl), if_pos True.intro]
    exact out
  · refine ⟨_, _, _, _, true, rfl, .ty _, .base (.lst ha), kit_ty (by decide +kernel), true, rfl, ?_⟩
    rw [if_neg (by decide)]
    refine ⟨_, rfl, _, .inl (SqL.of ha), ⟨_, rfl⟩, rfl, ?_⟩
    rw [lit_dot, count_S, count_tree]
    by_cases e : ws.length = t.lvs
    · refine ifnF (by rw [e]) ?_
      obtain ⟨all, u0, hu0, nu0⟩ : (∀ u ∈ ws, (∃ x : Tr, u = trV x ∧ x.size ≤ 2000) ∨ NotTree K H u) ∧ ∃ u ∈ ws, NotTree K H u := bad.resolve_left fun z => z e
      refine ⟨_, rfl, a, rfl, ⟨_, SqL.of ha⟩, fun D hD => ?_⟩
      refine lc_list (K := K) (a := a) (xs := ws) (fun i H' => Same H H' ∧ ∃ bs : List Bool, bs.length = i ∧ H' D = some (.lst (bs.map V.bl)) ∧ ∀ k u, k < i → ws[k]? = some u → NotTree K H u → bs[k]? = some false) ⟨(L2.Same.refl H).new hD _, [], rfl, upd_same, fun k u h => by omega⟩ (fun i H' _ hp => SqL.of (hp.1 _ _ ha)) ?_ ?_
      · rintro i x H' hi ⟨s0, bs, hb, hd, no⟩
        have hil : i < ws.length := (List.getElem?_eq_some_iff.mp hi).1
        have fin : ∀ (b : Bool) (H2 : Hp), Same H' H2 → (NotTree K H x → b = false) → ∃ acc, H2 D = some (.lst acc) ∧ acc.length < sizeLine ∧ Same H (upd H2 D (.lst (acc ++ [V.bl b]))) ∧
            ∃ bs : List Bool, bs.length = i + 1 ∧ upd H2 D (.lst (acc ++ [V.bl b])) D = some (.lst (bs.map V.bl)) ∧ ∀ k u, k < i + 1 → ws[k]? = some u → NotTree K H u → bs[k]? = some false := fun b H2 s1 nb => by
          refine ⟨_, s1 _ _ hd, by rw [List.length_map]; exact small5' (by omega), (s0.trans s1).new hD _, bs ++ [b], by simp [hb], by rw [upd_same]; simp, fun k u hk hu nu => ?_⟩
          by_cases l : k < i
          · rw [List.getElem?_append_left (by omega)]
            exact no k u l hu nu
          · have ek : k = i := by omega
            subst ek
            rw [hi] at hu
            cases hu
            rw [nb nu, List.getElem?_append_right (by omega), hb, Nat.sub_self]
            rfl
        simp only [cxOf_K, tAsg2, tYes, wipe, tSeq, tIfS, tNot, tB, tCB, tCons, tNil, tVar, tC, tTest, tOp, tAnd, tOr, tAsg, gName, tRet, tRetN, tDrop, tNext, tIf, tCall, tTup, tLst, tNotV, tAndV, tOrV, tUn, rI0, rI, rU, rEq, rNe, tM1, tM0, tBM, tBM0, tSl, tPart, tNoPart, iStr, iEnumS, iRng1, iRng2, iList, gSub, tBits, tAug, tPar, L2.start, List.map_cons, List.map_nil, List.length_cons, List.length_nil, List.getElem?_cons_zero, List.getElem?_cons_succ, List.cons_append, List.nil_append, List.append_nil, List.set_cons_zero, List.set_cons_succ, List.replicate_succ, List.replicate_zero, Option.some.injEq, exists_eq_left', V.int.injEq, V.str.injEq, V.ref.injEq, V.bl.injEq, exists_and_left, exists_eq_left, List.cons.injEq, and_true, true_and, tCallX, tRs]
        rw [if_pos True.intro]
        rcases all x (List.mem_of_getElem? hi) with ⟨z, rfl, hz⟩ | nt
        · refine ⟨_, rfl, .inl ⟨_, rfl, by rw [S_len]; have := tr_len hz; omega, fun H2 s1 => fin _ H2 s1 fun nt => ?_⟩⟩
          rcases nt with ⟨y, ey, _, f⟩ | ns
          · cases ey
            exact f
          · obtain ⟨t0, ty0, k0⟩ := ns
            cases ty0 with
            | base b =>
              cases b
              have : PySem.W.kitOne K (.type "str") (.type "str") = some true := by unfold PySem.W.kitOne; rw [if_pos (beq_self_eq_true _)]
              rw [this] at k0
              cases k0
        · rcases nt with ⟨y, rfl, hy, f⟩ | ns
          · exact ⟨_, rfl, .inl ⟨y, rfl, hy, fun H2 s1 => fin _ H2 s1 fun _ => f⟩⟩
          · exact ⟨_, rfl, .inr ⟨ns.same s0, fin false H' (L2.Same.refl H') fun _ => rfl⟩⟩
      · rintro H' ⟨s0, bs, hb, hd, no⟩
        obtain ⟨k, hk⟩ := List.getElem?_of_mem hu0
        have z := no k u0 (List.getElem?_eq_some_iff.mp hk).1 hk nu0
        refine ⟨D, bs, rfl, SqL.of hd, false, ?_, ?_⟩
        · have : false ∈ bs := List.mem_of_getElem? z
          rw [show bs.all id = false from List.all_eq_false.mpr ⟨false, this, by simp⟩]
        · rw [if_pos (show (!false) = true from rfl)]
          exact fun d H2 s2 n e2 => out d H2 (s0.trans s2) (s0.free n) e2
    · have : (!decide ((ws.length : Int) = ((t.lvs : Nat) : Int))) = true := by simp; omega
      rw [if_pos this]
      exact out

theorem getS {xs : List (List Nat)} {i : Nat} {x : V} (h : ((xs.map S).map V.str)[i]? = some x) : ∃ u, xs[i]? = some u ∧ x = .str (S u) := by
  rw [List.getElem?_map, List.getElem?_map] at h
  cases e : xs[i]? with
  | none => rw [e] at h; cases h
  | some t => rw [e] at h; exact ⟨t, rfl, (Option.some.inj h).symm⟩
theorem ok_grown (T : Txt w K mg) : FnOk P w K mg base (L2.CX P w) 4 T.a_grown T.fd_grown ["tree", "hung"] (sp_grown T) := by
  refine T.F_grown.okX sc_grown (fun vs H Q E h => ?_) (fun cdv A outer s H vs Q E hr h => ?_)
  · obtain ⟨u, v, rfl, _⟩ := h; rfl
  obtain ⟨u, v, rfl, h⟩ := h
  refine ⟨_, (pss_cons (ps_expr (pe_callX (ok_check_tree T) (takes_of rfl rfl rfl rfl) (hr.mono (by first | decide | omega)) (by rfl) T.m_check_tree T.F_check_tree.kp T.b_check_tree .nil (pa_cons (pv 0) pa_nil)))
    (pss_cons (ps_expr (pe_callX (ok_check_hung T) (takes_of rfl rfl rfl rfl) (hr.mono (by first | decide | omega)) (by rfl) T.m_check_hung T.F_check_hung.kp T.b_check_hung .nil (pa_cons (pv 0) (pa_cons (pv 1) pa_nil))))
    (pss_cons (ps_set (i := 2) sc_grown.nd rfl (by first | exact Or.inl rfl | exact Or.inr rfl) (pe_split (pv 0) pe_str))
    (pss_one (ps_ret (pe_op op_add_str (pe_ix ix_list (pv 2) pe_int (fun _ _ => rfl)) (pe_join pe_str (pe_lc (own := [("item", 3), ("text", 4)]) rfl sc_grown.nd (pi_zip (by rfl) T.z_zip (pa_cons (pv 1) (pa_cons (pe_slice sl_list (pv 2) (po_some pe_int) po_none) pa_nil))) (blkOk_by (own := [("item", 3), ("text", 4)]) (N := nm_grown) (sc := defScope s_grown) (by decide +kernel)) (fun _ _ _ _ _ => by exact (show L2.PG _ _ (gTup K 2 _) from (pg_tup rfl (pgs_cons (pg_name (i := 3) sc_grown.nd rfl (by first | exact Or.inl rfl | exact Or.inr rfl)) (pgs_cons (pg_name (i := 4) sc_grown.nd rfl (by first | exact Or.inl rfl | exact Or.inr rfl)) pgs_nil))))) (fun _ _ _ _ _ => by exact pts_nil) (fun _ _ _ _ _ => by exact (pe_op op_add_str (pv 3) (pv 4))))))))))), ?_⟩
  simp only [cxOf_K, tAsg2, tYes, wipe, tSeq, tIfS, tNot, tB, tCB, tCons, tNil, tVar, tC, tTest, tOp, tAnd, tOr, tAsg, gName, tRet, tRetN, tDrop, tNext, tIf, tCall, tTup, tLst, tNotV, tAndV, tOrV, tUn, rI0, rI, rU, rEq, rNe, tM1, tM0, tBM, tBM0, tSl, tPart, tNoPart, iStr, iEnumS, iRng1, iRng2, iList, gSub, tBits, tAug, tPar, L2.start, List.map_cons, List.map_nil, List.length_cons, List.length_nil, List.getElem?_cons_zero, List.getElem?_cons_succ, List.cons_append, List.nil_append, List.append_nil, List.set_cons_zero, List.set_cons_succ, List.replicate_succ, List.replicate_zero, Option.some.injEq, exists_eq_left', V.int.injEq, V.str.injEq, V.ref.injEq, V.bl.injEq, exists_and_left, exists_eq_left, List.cons.injEq, and_true, true_and, tCallX, tRs]
  rcases h with ⟨t, rfl, ht, h⟩ | ⟨nt, out⟩
  case inr => exact ⟨u, rfl, .inr ⟨nt, out⟩⟩
  refine ⟨_, rfl, .inl ⟨t, rfl, ht, fun H1 s1 => ?_⟩⟩
  simp only [cxOf_K, tAsg2, tYes, wipe, tSeq, tIfS, tNot, tB, tCB, tCons, tNil, tVar, tC, tTest, tOp, tAnd, tOr, tAsg, gName, tRet, tRetN, tDrop, tNext, tIf, tCall, tTup, tLst, tNotV, tAndV, tOrV, tUn, rI0, rI, rU, rEq, rNe, tM1, tM0, tBM, tBM0, tSl, tPart, tNoPart, iStr, iEnumS, iRng1, iRng2, iList, gSub, tBits, tAug, tPar, L2.start, List.map_cons, List.map_nil, List.length_cons, List.length_nil, List.getElem?_cons_zero, List.getElem?_cons_succ, List.cons_append, List.nil_append, List.append_nil, List.set_cons_zero, List.set_cons_succ, List.replicate_succ, List.replicate_zero, Option.some.injEq, exists_eq_left', V.int.injEq, V.str.injEq, V.ref.injEq, V.bl.injEq, exists_and_left, exists_eq_left, List.cons.injEq, and_true, true_and, tCallX, tRs]
  rcases h with ⟨xs, gl, q⟩ | ⟨bl, out⟩
  case inr => exact ⟨t, v, rfl, ht, .inr ⟨bl.same s1, out.same s1⟩⟩
  obtain ⟨a, rfl, ha, hl, hx⟩ := id gl
  have hlv : t.lvs ≤ 2001 := by rw [Tr.lvs_size]; omega
  have hcl := tr_len ht
  refine ⟨t, _, rfl, ht, .inl ⟨xs, gl.same s1, fun H2 s2 => ?_⟩⟩
  have s2 := s1.trans s2
  simp only [cxOf_K, tAsg2, tYes, wipe, tSeq, tIfS, tNot, tB, tCB, tCons, tNil, tVar, tC, tTest, tOp, tAnd, tOr, tAsg, gName, tRet, tRetN, tDrop, tNext, tIf, tCall, tTup, tLst, tNotV, tAndV, tOrV, tUn, rI0, rI, rU, rEq, rNe, tM1, tM0, tBM, tBM0, tSl, tPart, tNoPart, iStr, iEnumS, iRng1, iRng2, iList, gSub, tBits, tAug, tPar, L2.start, List.map_cons, List.map_nil, List.length_cons, List.length_nil, List.getElem?_cons_zero, List.getElem?_cons_succ, List.cons_append, List.nil_append, List.append_nil, List.set_cons_zero, List.set_cons_succ, List.replicate_succ, List.replicate_zero, Option.some.injEq, exists_eq_left', V.int.injEq, V.str.injEq, V.ref.injEq, V.bl.injEq, exists_and_left, exists_eq_left, List.cons.injEq, and_true, true_and, tCallX, tRs]
  refine ⟨⟨_, rfl⟩, by decide +kernel, by rw [S_len]; exact small5 (by omega), fun z hz => ?_⟩
  rw [lit_dot, split_S _ _ (by decide)]
  have hsp := spl_length 46 t.cs
  rw [count_tree] at hsp
  have hsh := spl_eq 46 t.cs
  have haz : a ≠ z := ne_of_none (s2 _ _ ha) hz
  refine ⟨z, _, 0, .str (S ((spl 46 t.cs).headD [])), rfl, rfl, SqL.of upd_same, ?_, ⟨_, rfl⟩, ?_⟩
  · exact atI_nat (j := 0) (by rw [hsh]; rfl)
  have s3 := s2.new (s2.free hz) (.lst (List.map V.str (List.map S (spl 46 t.cs))))
  have hz3 : upd H2 z (.lst (List.map V.str (List.map S (spl 46 t.cs)))) z = some (.lst (((spl 46 t.cs).map S).map V.str)) := upd_same
  generalize upd H2 z (.lst (List.map V.str (List.map S (spl 46 t.cs)))) = H3 at s3 hz3 ⊢
  refine ⟨_, rfl, _, rfl, 1, rfl, z, _, rfl, SqL.of hz3, fun y hy => ?_⟩
  have hcut : cutV (((spl 46 t.cs).map S).map V.str) (some 1) none = ((spl 46 t.cs).tail.map S).map V.str := by
    unfold cutV
    have e0 : HT.sIx ((((spl 46 t.cs).map S).map V.str)).length 0 (some 1) = 1 := by
      rw [show (some (1 : Int)) = some ((1 : Nat) : Int) from rfl, HT.sIx_nat]; simp [hsp]
    rw [e0, HT.sIx_none, hsh]
    simp only [List.map_cons, List.drop_succ_cons, List.drop_zero, List.length_cons, Nat.add_sub_cancel]
    rw [List.take_of_length_le (Nat.le_refl _)]
    simp
  rw [hcut]
  have hay : a ≠ y := ne_of_none (s3 _ _ ha) hy
  have s4 := s3.new (s3.free hy) (.lst (((spl 46 t.cs).tail.map S).map V.str))
  have hy4 : upd H3 y (.lst (((spl 46 t.cs).tail.map S).map V.str)) y = some (.lst (((spl 46 t.cs).tail.map S).map V.str)) := upd_same
  generalize upd H3 y (.lst (((spl 46 t.cs).tail.map S).map V.str)) = H4 at s4 hy4 ⊢
  refine ⟨a, y, xs.map trV, _, rfl, SqL.of (s4 _ _ ha), SqL.of hy4, fun D hD => ?_⟩
  have htl : (spl 46 t.cs).tail.length = xs.length := by rw [hl, List.length_tail, hsp]; rfl
  have hyD : y ≠ D := ne_of_none hy4 hD
  refine lc_zip (K := K) (fun i H' => Same H H' ∧ H' y = some (.lst (((spl 46 t.cs).tail.map S).map V.str)) ∧ H' D = some (.lst ((((List.zipWith (fun i p => i ++ p) (xs.map Tr.cs) (spl 46 t.cs).tail).take i).map S).map V.str)))
    ⟨s4.new (s4.free hD) _, by rw [upd_ne hyD]; exact hy4, upd_same⟩ (fun i H' hp => ⟨SqL.of (hp.1 _ _ ha), SqL.of hp.2.1⟩) ?_ ?_
  · rintro i u v H' d hu hv ⟨s5, h5, h6⟩ hd
    obtain ⟨u, hu1, rfl, hm⟩ := getV hu
    obtain ⟨v, hv1, rfl⟩ := getS hv
    have hyd : y ≠ d := ne_of_none h5 hd
    have hDd : D ≠ d := ne_of_none h6 hd
    have hil : i < xs.length := (List.getElem?_eq_some_iff.mp hu1).1
    refine ⟨d, _, rfl, SqT.of upd_same, rfl, _, _, rfl, _, _, rfl, rfl, rfl, ?_⟩
    simp only [cxOf_K, tAsg2, tYes, wipe, tSeq, tIfS, tNot, tB, tCB, tCons, tNil, tVar, tC, tTest, tOp, tAnd, tOr, tAsg, gName, tRet, tRetN, tDrop, tNext, tIf, tCall, tTup, tLst, tNotV, tAndV, tOrV, tUn, rI0, rI, rU, rEq, rNe, tM1, tM0, tBM, tBM0, tSl, tPart, tNoPart, iStr, iEnumS, iRng1, iRng2, iList, gSub, tBits, tAug, tPar, L2.start, List.map_cons, List.map_nil, List.length_cons, List.length_nil, List.getElem?_cons_zero, List.getElem?_cons_succ, List.cons_append, List.nil_append, List.append_nil, List.set_cons_zero, List.set_cons_succ, List.replicate_succ, List.replicate_zero, Option.some.injEq, exists_eq_left', V.int.injEq, V.str.injEq, V.ref.injEq, V.bl.injEq, exists_and_left, exists_eq_left, List.cons.injEq, and_true, true_and, tCallX, tRs]
    rw [if_pos True.intro]
    have hvl : v.length ≤ t.cs.length := spl_le 46 t.cs v (List.mem_of_mem_tail (List.mem_of_getElem? hv1))
    have hul := tr_len (hx u hm)
    refine ⟨by rw [S_len, S_len]; exact small5 (by omega), _, by rw [upd_ne hDd]; exact h6, ?_, ?_, ?_, ?_⟩
    · simp only [List.length_map, List.length_take]; exact small5' (by omega)
    · exact (s5.new (s5.free hd) _).new (s4.free hD) _
    · rw [upd_ne hyD, upd_ne hyd]; exact h5
    · rw [upd_same, S_app]
      have : (List.zipWith (fun i p => i ++ p) (xs.map Tr.cs) (spl 46 t.cs).tail)[i]? = some (u.cs ++ v) := by
        rw [List.getElem?_zipWith, List.getElem?_map, hu1, hv1]; rfl
      rw [List.take_add_one, this]
      simp
  · rintro H' ⟨s5, h5, h6⟩
    have hmin : min (xs.map trV).length (((spl 46 t.cs).tail.map S).map V.str).length = xs.length := by rw [List.length_map, List.length_map, List.length_map, htl, Nat.min_self]
    rw [hmin] at h6
    have hall : (List.zipWith (fun i p => i ++ p) (xs.map Tr.cs) (spl 46 t.cs).tail).take xs.length = List.zipWith (fun i p => i ++ p) (xs.map Tr.cs) (spl 46 t.cs).tail := List.take_of_length_le (by rw [List.length_zipWith, List.length_map, htl, Nat.min_self]; exact Nat.le_refl _)
    rw [hall] at h6
    simp only [cxOf_K, tAsg2, tYes, wipe, tSeq, tIfS, tNot, tB, tCB, tCons, tNil, tVar, tC, tTest, tOp, tAnd, tOr, tAsg, gName, tRet, tRetN, tDrop, tNext, tIf, tCall, tTup, tLst, tNotV, tAndV, tOrV, tUn, rI0, rI, rU, rEq, rNe, tM1, tM0, tBM, tBM0, tSl, tPart, tNoPart, iStr, iEnumS, iRng1, iRng2, iList, gSub, tBits, tAug, tPar, L2.start, List.map_cons, List.map_nil, List.length_cons, List.length_nil, List.getElem?_cons_zero, List.getElem?_cons_succ, List.cons_append, List.nil_append, List.append_nil, List.set_cons_zero, List.set_cons_succ, List.replicate_succ, List.replicate_zero, Option.some.injEq, exists_eq_left', V.int.injEq, V.str.injEq, V.ref.injEq, V.bl.injEq, exists_and_left, exists_eq_left, List.cons.injEq, and_true, true_and, tCallX, tRs]
    have hg := grown_text t xs hl
    have hgl := congrArg List.length hg
    rw [List.length_append] at hgl
    have hgs := grow_size t xs hx
    have hgc : (t.grow xs).cs.length = 3 * (t.grow xs).size + 1 := by rw [Tr.cs_length, Tr.len_size]
    have hmul : t.lvs * 2000 ≤ 2001 * 2000 := Nat.mul_le_mul_right _ hlv
    refine ⟨(List.zipWith (fun i p => i ++ p) (xs.map Tr.cs) (spl 46 t.cs).tail).map S, .inl (SqL.of h6), ?_, ?_⟩
    · rw [sumlen_S, lit_empty, S_len]
      simp only [List.length_nil, Nat.mul_zero]
      omega
    · rw [lit_empty, join_S, S_app, S_len, S_len, grown_text t xs hl]
      exact ⟨small5 (by omega), q _ s5⟩

theorem ok_ends (T : Txt w K mg) : FnOk P w K mg base CX0 1 T.a_ends T.fd_ends ["tree"] (sp_ends K) := by
  refine T.F_ends.ok sc_ends (fun vs H Q E h => ?_) (fun cdv A outer s H vs Q E hr h => ?_)
  · obtain ⟨t, rfl, _⟩ := h; rfl
  obtain ⟨t, rfl, ht, q⟩ := h
  have hcl := tr_len ht
  have hS : (S t.cs).length = t.len := by rw [S_len, Tr.cs_length]
  have hsz : (S t.cs).cps.size = t.len := hS
  have htl : t.len ≤ 6001 := by rw [← Tr.cs_length]; exact hcl
  refine ⟨_, (pss_cons (ps_set (i := 1) sc_ends.nd rfl (by first | exact Or.inl rfl | exact Or.inr rfl) (pe_op op_rep (pe_lst (pa_cons pe_int pa_nil)) (pe_callB call_len_str (by rfl) T.z_len PySem.boot_len (pa_cons (pv 0) pa_nil))))
    (pss_cons (ps_set (i := 2) sc_ends.nd rfl (by first | exact Or.inl rfl | exact Or.inr rfl) (pe_lst pa_nil))
    (pss_cons (ps_for PassesOwn.never rfl (pi_enumS (by rfl) T.z_enumerate (pa_cons (pv 0) pa_nil)) (pg_tup rfl (pgs_cons (pg_name (i := 3) sc_ends.nd rfl (by first | exact Or.inl rfl | exact Or.inr rfl)) (pgs_cons (pg_name (i := 4) sc_ends.nd rfl (by first | exact Or.inl rfl | exact Or.inr rfl)) pgs_nil))) (pss_one (ps_if (pt_cmpR op_eq (pv 4) pe_str (nomark _)) (pss_one (ps_expr (pe_bm PySem.F.plainAttrs_list PySem.F.slot_list_append PySem.F.type_list_append mt_append (pv 2) (pa_cons (pv 3) pa_nil)))) (pss_one (ps_if (pt_cmpR op_eq (pv 4) pe_str (nomark _)) (pss_one (ps_asg (pe_op op_add (pv 3) pe_int) (pg_sub (pv 1) (pe_bm0 PySem.F.plainAttrs_list PySem.F.slot_list_pop PySem.F.type_list_pop mt_pop (pv 2)) set_list))) (pss_one (ps_asg (pe_op op_add (pv 3) pe_int) (pg_sub (pv 1) (pv 3) set_list))))))))
    (pss_one (ps_ret (pv 1)))))), ?_⟩
  simp only [cxOf_K, tAsg2, tYes, wipe, tSeq, tIfS, tNot, tB, tCB, tCons, tNil, tVar, tC, tTest, tOp, tAnd, tOr, tAsg, gName, tRet, tRetN, tDrop, tNext, tIf, tCall, tTup, tLst, tNotV, tAndV, tOrV, tUn, rI0, rI, rU, rEq, rNe, tM1, tM0, tBM, tBM0, tSl, tPart, tNoPart, iStr, iEnumS, iRng1, iRng2, iList, gSub, tBits, tAug, tPar, L2.start, List.map_cons, List.map_nil, List.length_cons, List.length_nil, List.getElem?_cons_zero, List.getElem?_cons_succ, List.cons_append, List.nil_append, List.append_nil, List.set_cons_zero, List.set_cons_succ, List.replicate_succ, List.replicate_zero, Option.some.injEq, exists_eq_left', V.int.injEq, V.str.injEq, V.ref.injEq, V.bl.injEq, exists_and_left, exists_eq_left, List.cons.injEq, and_true, true_and, tCallX, tRs]
  refine ⟨by decide, fun z hz => ?_⟩
  refine ⟨by rw [hS]; exact small5 (by omega), z, _, [.int 0], rfl, rfl, upd_same, by omega, by rw [hS]; omega, by rw [hS]; simp; exact small5 (by omega), fun p hp => ?_⟩
  refine ⟨by decide, fun g hg => ?_⟩
  have npz : p ≠ z := fun e => by rw [e, upd_same] at hp; cases hp
  have hp0 : H p = none := by rw [upd_ne npz] at hp; exact hp
  have ngp : g ≠ p := fun e => by rw [e, upd_same] at hg; cases hg
  have hg0 : H g = none := by
    rw [upd_ne ngp] at hg
    by_cases e : g = z
    · rw [e]; exact hz
    · rw [upd_ne e] at hg; exact hg
  have hb : (List.replicate ((S t.cs).length : Int).toNat [V.int 0]).flatten = (List.replicate t.len 0).map nV := by
    rw [hS, Int.toNat_natCast]
    induction t.len with
    | zero => rfl
    | succ n ih => rw [List.replicate_succ, List.flatten_cons, ih, List.replicate_succ, List.map_cons]; rfl
  rw [hb]
  refine ⟨_, rfl, _, rfl, for_enumS (fun i σ H' => ∃ (b st : List Nat) (a3 a4 : Option V), σ = [some (trV t), some (.ref p), some (.ref g), a3, a4] ∧ Same H H' ∧ H' p = some (.lst (b.map nV)) ∧ H' g = some (.lst (st.reverse.map nV)) ∧
      endsRun (t.cs.drop i) i b st = some (Tr.ends 0 t) ∧ b.length = t.len ∧ st.length ≤ i) ⟨List.replicate t.len 0, [], none, none, rfl, (((L2.Same.refl H).new hz _).new hp0 _).new hg0 _, ?_, upd_same, ?_, ?_, ?_⟩ ?_ ?_⟩
  · rw [upd_ne ngp.symm, upd_same]
  · rw [List.drop_zero]; exact endsRun_text t
  · simp
  · simp
  · rintro i c σ H' d hc ⟨b, st, a3, a4, rfl, s0, h1, h2, he, hbl, hst⟩ hd
    have hi : i < t.len := by rw [← hsz]; exact (Array.getElem?_eq_some_iff.mp hc).1
    have hd' : t.cs.drop i = c :: t.cs.drop (i + 1) := by
      rw [List.drop_eq_getElem_cons (by rw [Tr.cs_length]; exact hi)]
      congr 1
      have := (Array.getElem?_eq_some_iff.mp hc).2
      simpa using this
    rw [hd'] at he
    have n1 : p ≠ d := ne_of_none h1 hd
    have n2 : g ≠ d := ne_of_none h2 hd
    have h1' : upd H' d (.tup [.int (i : Nat), .str ⟨#[c]⟩]) p = some (.lst (b.map nV)) := by rw [upd_ne n1]; exact h1
    have h2' : upd H' d (.tup [.int (i : Nat), .str ⟨#[c]⟩]) g = some (.lst (st.reverse.map nV)) := by rw [upd_ne n2]; exact h2
    refine ⟨d, _, rfl, SqT.of upd_same, rfl, _, _, rfl, _, _, rfl, rfl, ?_⟩
    have s1 := s0.new (s0.free hd) (.tup [.int (i : Nat), .str ⟨#[c]⟩])
    generalize upd H' d (.tup [.int (i : Nat), .str ⟨#[c]⟩]) = H' at h1' h2' s1 ⊢
    simp only [cxOf_K, tAsg2, tYes, wipe, tSeq, tIfS, tNot, tB, tCB, tCons, tNil, tVar, tC, tTest, tOp, tAnd, tOr, tAsg, gName, tRet, tRetN, tDrop, tNext, tIf, tCall, tTup, tLst, tNotV, tAndV, tOrV, tUn, rI0, rI, rU, rEq, rNe, tM1, tM0, tBM, tBM0, tSl, tPart, tNoPart, iStr, iEnumS, iRng1, iRng2, iList, gSub, tBits, tAug, tPar, L2.start, List.map_cons, List.map_nil, List.length_cons, List.length_nil, List.getElem?_cons_zero, List.getElem?_cons_succ, List.cons_append, List.nil_append, List.append_nil, List.set_cons_zero, List.set_cons_succ, List.replicate_succ, List.replicate_zero, Option.some.injEq, exists_eq_left', V.int.injEq, V.str.injEq, V.ref.injEq, V.bl.injEq, exists_and_left, exists_eq_left, List.cons.injEq, and_true, true_and, tCallX, tRs]
    refine ⟨rfl, ?_⟩
    rcases endsRun_step he with ⟨rfl, he'⟩ | ⟨rfl, o, st', rfl, ho, he'⟩ | ⟨c1, c2, hk, he'⟩
    · refine ifdT (sg_eq lit_open) ?_
      refine ⟨tyV_lst h2', g, _, _, rfl, rfl, h2', by simp; exact small5' (by omega), ?_⟩
      refine ⟨b, i :: st, _, _, ⟨rfl, rfl⟩, s1.new hg0 _, ?_, ?_, he', hbl, by simp; omega⟩
      · rw [upd_ne ngp.symm]; exact h1'
      · rw [upd_same]; simp
    · refine ifdF (sg_ne lit_open (by decide)) ?_
      refine ⟨rfl, ?_⟩
      refine ifdT (sg_eq lit_close) ?_
      refine ⟨tyV_lst h2', g, _, nV o, rfl, rfl, h2', by simp, ?_⟩
      have hdl : (List.map nV (o :: st').reverse).dropLast = st'.reverse.map nV := by simp
      rw [hdl]
      refine ⟨p, b.map nV, (o : Int), o, rfl, rfl, by rw [upd_ne ngp.symm]; exact h1', by rw [List.length_map]; exact ixN_nat ho, ?_⟩
      refine ⟨b.set o (i + 1), st', _, _, ⟨rfl, rfl⟩, (s1.new hg0 _).new hp0 _, ?_, ?_, he', by rw [List.length_set]; exact hbl, by simp at hst; omega⟩
      · rw [upd_same, List.map_set]; rfl
      · rw [upd_ne ngp, upd_same]
    · refine ifdF (sg_ne lit_open c1) ?_
      refine ⟨rfl, ?_⟩
      refine ifdF (sg_ne lit_close c2) ?_
      refine ⟨p, b.map nV, (i : Int), i, rfl, rfl, h1', by rw [List.length_map]; exact ixN_nat hk, ?_⟩
      refine ⟨b.set i (i + 1), st, _, _, ⟨rfl, rfl⟩, s1.new hp0 _, ?_, ?_, he', by rw [List.length_set]; exact hbl, by omega⟩
      · rw [upd_same, List.map_set]; rfl
      · rw [upd_ne ngp]; exact h2'
  · rintro σ H' ⟨b, st, a3, a4, rfl, s0, h1, h2, he, hbl, hst⟩
    rw [hsz, List.drop_eq_nil_of_le (by rw [Tr.cs_length]; exact Nat.le_refl _)] at he
    have he : (if st = [] then some b else none) = some (Tr.ends 0 t) := he
    simp only [cxOf_K, tAsg2, tYes, wipe, tSeq, tIfS, tNot, tB, tCB, tCons, tNil, tVar, tC, tTest, tOp, tAnd, tOr, tAsg, gName, tRet, tRetN, tDrop, tNext, tIf, tCall, tTup, tLst, tNotV, tAndV, tOrV, tUn, rI0, rI, rU, rEq, rNe, tM1, tM0, tBM, tBM0, tSl, tPart, tNoPart, iStr, iEnumS, iRng1, iRng2, iList, gSub, tBits, tAug, tPar, L2.start, List.map_cons, List.map_nil, List.length_cons, List.length_nil, List.getElem?_cons_zero, List.getElem?_cons_succ, List.cons_append, List.nil_append, List.append_nil, List.set_cons_zero, List.set_cons_succ, List.replicate_succ, List.replicate_zero, Option.some.injEq, exists_eq_left', V.int.injEq, V.str.injEq, V.ref.injEq, V.bl.injEq, exists_and_left, exists_eq_left, List.cons.injEq, and_true, true_and, tCallX, tRs]
    by_cases hs : st = []
    · rw [if_pos hs] at he
      have : b = Tr.ends 0 t := Option.some.inj he
      subst this
      exact q p H' hp0 s0 h1
    · rw [if_neg hs] at he; cases he

theorem cut_part {T s : Tr} {k : Nat} {r : List Nat} (h : T.cs.drop k = s.cs ++ r) (hk : k + s.len ≤ T.len) : cutS (S T.cs) (some (k : Int)) (some ((k + s.len : Nat) : Int)) = S s.cs := by
  unfold cutS
  have e : (S T.cs).length = T.len := by rw [S_len, Tr.cs_length]
  rw [e, HT.sIx_nat, HT.sIx_nat, Nat.min_eq_left (show k ≤ T.len by omega), Nat.min_eq_left hk]
  show S _ = S _
  have e2 : (S T.cs).cps.toList = T.cs := by simp
  rw [e2, h, Nat.add_sub_cancel_left, ← Tr.cs_length, List.take_left]
theorem ok_hung (T : Txt w K mg) : FnOk P w K mg base (L2.CX P w) 4 T.a_hung T.fd_hung ["tree", "top"] (sp_hung T) := by
  refine T.F_hung.okX sc_hung (fun vs H Q E h => ?_) (fun cdv A outer s H vs Q E hr h => ?_)
  · obtain ⟨u, v, rfl, _⟩ := h; rfl
  obtain ⟨u, v, rfl, h⟩ := h
  refine ⟨_, (pss_cons (ps_expr (pe_callX (ok_check_tree T) (takes_of rfl rfl rfl rfl) (hr.mono (by first | decide | omega)) (by rfl) T.m_check_tree T.F_check_tree.kp T.b_check_tree .nil (pa_cons (pv 0) pa_nil)))
    (pss_cons (ps_expr (pe_callX (ok_check_tree T) (takes_of rfl rfl rfl rfl) (hr.mono (by first | decide | omega)) (by rfl) T.m_check_tree T.F_check_tree.kp T.b_check_tree .nil (pa_cons (pv 1) pa_nil)))
    (pss_cons (ps_set (i := 2) sc_hung.nd rfl (by first | exact Or.inl rfl | exact Or.inr rfl) (pe_call (ok_ends T) (hr.mono (by first | decide | omega)) (by rfl) T.m_ends T.F_ends.kp T.b_ends .nil pass0 (pa_cons (pv 0) pa_nil)))
    (pss_cons (ps_set (i := 3) sc_hung.nd rfl (by first | exact Or.inl rfl | exact Or.inr rfl) (pe_lst pa_nil))
    (pss_cons (ps_set (i := 4) sc_hung.nd rfl (by first | exact Or.inl rfl | exact Or.inr rfl) pe_int)
    (pss_cons (ps_for (passes_of rfl) rfl (pi_str (pv 1)) (pg_name (i := 5) sc_hung.nd rfl (by first | exact Or.inl rfl | exact Or.inr rfl)) (pss_one (ps_if (pt_cmpR op_eq (pv 5) pe_str (nomark _)) (pss_cons (ps_expr (pe_bm PySem.F.plainAttrs_list PySem.F.slot_list_append PySem.F.type_list_append mt_append (pv 3) (pa_cons (pe_slice sl_str (pv 0) (po_some (pv 4)) (po_some (pe_ix ix_list (pv 2) (pv 4) (fun _ _ => rfl)))) pa_nil)))
    (pss_one (ps_set (i := 4) sc_hung.nd rfl (by first | exact Or.inl rfl | exact Or.inr rfl) (pe_ix ix_list (pv 2) (pv 4) (fun _ _ => rfl))))) (pss_one (ps_if (pt_cmpR op_eq (pv 5) (pe_ix ix_str (pv 0) (pv 4) (fun _ _ => rfl)) (nomark _)) (pss_one (ps_aug (i := 4) sc_hung.nd rfl (by first | exact Or.inl rfl | exact Or.inr rfl) pe_int iop_add)) (pss_one (ps_ret pe_non)))))))
    (pss_one (ps_ret (pv 3))))))))), ?_⟩
  simp only [cxOf_K, tAsg2, tYes, wipe, tSeq, tIfS, tNot, tB, tCB, tCons, tNil, tVar, tC, tTest, tOp, tAnd, tOr, tAsg, gName, tRet, tRetN, tDrop, tNext, tIf, tCall, tTup, tLst, tNotV, tAndV, tOrV, tUn, rI0, rI, rU, rEq, rNe, tM1, tM0, tBM, tBM0, tSl, tPart, tNoPart, iStr, iEnumS, iRng1, iRng2, iList, gSub, tBits, tAug, tPar, L2.start, List.map_cons, List.map_nil, List.length_cons, List.length_nil, List.getElem?_cons_zero, List.getElem?_cons_succ, List.cons_append, List.nil_append, List.append_nil, List.set_cons_zero, List.set_cons_succ, List.replicate_succ, List.replicate_zero, Option.some.injEq, exists_eq_left', V.int.injEq, V.str.injEq, V.ref.injEq, V.bl.injEq, exists_and_left, exists_eq_left, List.cons.injEq, and_true, true_and, tCallX, tRs]
  rcases h with ⟨t, rfl, ht, h⟩ | ⟨nt, out⟩
  case inr => exact ⟨u, rfl, .inr ⟨nt, out⟩⟩
  refine ⟨_, rfl, .inl ⟨t, rfl, ht, fun H1 s1 => ?_⟩⟩
  simp only [cxOf_K, tAsg2, tYes, wipe, tSeq, tIfS, tNot, tB, tCB, tCons, tNil, tVar, tC, tTest, tOp, tAnd, tOr, tAsg, gName, tRet, tRetN, tDrop, tNext, tIf, tCall, tTup, tLst, tNotV, tAndV, tOrV, tUn, rI0, rI, rU, rEq, rNe, tM1, tM0, tBM, tBM0, tSl, tPart, tNoPart, iStr, iEnumS, iRng1, iRng2, iList, gSub, tBits, tAug, tPar, L2.start, List.map_cons, List.map_nil, List.length_cons, List.length_nil, List.getElem?_cons_zero, List.getElem?_cons_succ, List.cons_append, List.nil_append, List.append_nil, List.set_cons_zero, List.set_cons_succ, List.replicate_succ, List.replicate_zero, Option.some.injEq, exists_eq_left', V.int.injEq, V.str.injEq, V.ref.injEq, V.bl.injEq, exists_and_left, exists_eq_left, List.cons.injEq, and_true, true_and, tCallX, tRs]
  rcases h with ⟨c, rfl, hc, qn, qs⟩ | ⟨nt, out⟩
  case inr => exact ⟨v, rfl, .inr ⟨nt.same s1, out.same s1⟩⟩
  have hcl := tr_len ht
  have hcc := tr_len hc
  have hS : (S t.cs).length = t.len := by rw [S_len, Tr.cs_length]
  have htl : t.len ≤ 6001 := by rw [← Tr.cs_length]; exact hcl
  have hts : (S t.cs).cps.toList = t.cs := by simp
  refine ⟨_, rfl, .inl ⟨c, rfl, hc, fun H2 s2 => ?_⟩⟩
  have s2 := s1.trans s2
  simp only [cxOf_K, tAsg2, tYes, wipe, tSeq, tIfS, tNot, tB, tCB, tCons, tNil, tVar, tC, tTest, tOp, tAnd, tOr, tAsg, gName, tRet, tRetN, tDrop, tNext, tIf, tCall, tTup, tLst, tNotV, tAndV, tOrV, tUn, rI0, rI, rU, rEq, rNe, tM1, tM0, tBM, tBM0, tSl, tPart, tNoPart, iStr, iEnumS, iRng1, iRng2, iList, gSub, tBits, tAug, tPar, L2.start, List.map_cons, List.map_nil, List.length_cons, List.length_nil, List.getElem?_cons_zero, List.getElem?_cons_succ, List.cons_append, List.nil_append, List.append_nil, List.set_cons_zero, List.set_cons_succ, List.replicate_succ, List.replicate_zero, Option.some.injEq, exists_eq_left', V.int.injEq, V.str.injEq, V.ref.injEq, V.bl.injEq, exists_and_left, exists_eq_left, List.cons.injEq, and_true, true_and, tCallX, tRs]
  refine ⟨t, rfl, ht, fun z H3 hz s3 hz3 => ?_⟩
  have s3 := s2.trans s3
  simp only [cxOf_K, tAsg2, tYes, wipe, tSeq, tIfS, tNot, tB, tCB, tCons, tNil, tVar, tC, tTest, tOp, tAnd, tOr, tAsg, gName, tRet, tRetN, tDrop, tNext, tIf, tCall, tTup, tLst, tNotV, tAndV, tOrV, tUn, rI0, rI, rU, rEq, rNe, tM1, tM0, tBM, tBM0, tSl, tPart, tNoPart, iStr, iEnumS, iRng1, iRng2, iList, gSub, tBits, tAug, tPar, L2.start, List.map_cons, List.map_nil, List.length_cons, List.length_nil, List.getElem?_cons_zero, List.getElem?_cons_succ, List.cons_append, List.nil_append, List.append_nil, List.set_cons_zero, List.set_cons_succ, List.replicate_succ, List.replicate_zero, Option.some.injEq, exists_eq_left', V.int.injEq, V.str.injEq, V.ref.injEq, V.bl.injEq, exists_and_left, exists_eq_left, List.cons.injEq, and_true, true_and, tCallX, tRs]
  refine ⟨by decide, fun f hf => ?_⟩
  have nzf : z ≠ f := ne_of_none hz3 hf
  have hz0 := s2.free hz
  have hf0 := s3.free hf
  refine ⟨_, rfl, _, rfl, for_str (fun i σ H' => ∃ (ag : Ag) (k : Nat) (found : List Tr) (a5 : Option V), σ = [some (trV t), some (trV c), some (.ref z), some (.ref f), some (nV k), a5] ∧ Same H H' ∧ H' z = some (.lst ((Tr.ends 0 t).map nV)) ∧ H' f = some (.lst (found.map trV)) ∧
      t.cs.drop k = ag.tl ∧ c.cs.drop i = ag.tr ∧ ag.AtL t k ∧ Tr.hang t c = ag.hangs.map (fun y => found ++ y) ∧ found.length ≤ i) ?_ ?_ ?_⟩
  · refine ⟨[some (t, c)], 0, [], none, rfl, s3.new hf0 _, by rw [upd_ne nzf]; exact hz3, upd_same, ?_, ?_, ⟨.root, True.intro⟩, ?_, Nat.le_refl _⟩
    · simp [Ag.tl]
    · simp [Ag.tr]
    · simp only [Ag.hangs]; cases Tr.hang t c <;> simp
  · rintro i d σ H' hi ⟨ag, k, found, a5, rfl, s0, h1, h2, e1, e2, e3, e4, e5⟩
    have hil : i < c.len := by rw [← Tr.cs_length, ← S_len]; exact (Array.getElem?_eq_some_iff.mp hi).1
    have hcl2 : c.len ≤ 6001 := by rw [← Tr.cs_length]; exact hcc
    have hd : c.cs[i]? = some d := by
      have := (Array.getElem?_eq_some_iff.mp hi).2
      rw [List.getElem?_eq_some_iff]
      refine ⟨by rw [Tr.cs_length]; exact hil, ?_⟩
      simpa using this
    simp only [cxOf_K, tAsg2, tYes, wipe, tSeq, tIfS, tNot, tB, tCB, tCons, tNil, tVar, tC, tTest, tOp, tAnd, tOr, tAsg, gName, tRet, tRetN, tDrop, tNext, tIf, tCall, tTup, tLst, tNotV, tAndV, tOrV, tUn, rI0, rI, rU, rEq, rNe, tM1, tM0, tBM, tBM0, tSl, tPart, tNoPart, iStr, iEnumS, iRng1, iRng2, iList, gSub, tBits, tAug, tPar, L2.start, List.map_cons, List.map_nil, List.length_cons, List.length_nil, List.getElem?_cons_zero, List.getElem?_cons_succ, List.cons_append, List.nil_append, List.append_nil, List.set_cons_zero, List.set_cons_succ, List.replicate_succ, List.replicate_zero, Option.some.injEq, exists_eq_left', V.int.injEq, V.str.injEq, V.ref.injEq, V.bl.injEq, exists_and_left, exists_eq_left, List.cons.injEq, and_true, true_and, tCallX, tRs]
    refine ⟨rfl, ?_⟩
    match ag, e1, e2, e3, e4 with
    | [], e1, e2, e3, e4 =>
      have : c.cs.length ≤ i := List.drop_eq_nil_iff.mp e2
      rw [Tr.cs_length] at this
      omega
    | none :: r, e1, e2, e3, e4 =>
      obtain ⟨g1, g2, g3⟩ := drop_cons e1
      obtain ⟨g4, g5, g6⟩ := drop_cons e2
      rw [g4] at hd
      obtain rfl : 41 = d := Option.some.inj hd
      refine ifdF (sg_ne lit_dot (by decide)) ?_
      refine rixs (by omega) g1 ⟨rfl, ifdT rfl ?_⟩
      exact ⟨r, k + 1, found, _, ⟨rfl, rfl⟩, s0, h1, h2, g3, g6, e3, e4, by omega⟩
    | some (s', .leaf) :: r, e1, e2, e3, e4 =>
      obtain ⟨g4, g5, g6⟩ := drop_cons (x := 46) (r := Ag.tr r) e2
      rw [g4] at hd
      obtain rfl : 46 = d := Option.some.inj hd
      obtain ⟨e3, e3'⟩ := e3
      refine ifdT (sg_eq lit_dot) ⟨tyV_lst h2, rixl h1 (x := nV (k + s'.len)) (by rw [List.getElem?_map, e3.end_get]; rfl) ?_⟩
      have hle := e3.le
      refine ⟨((k + s'.len : Nat) : Int), rfl, _, rfl, by rw [hS]; exact small5 (by omega), ?_⟩
      rw [cut_part (r := Ag.tl r) e1 hle]
      refine ⟨f, _, _, rfl, rfl, h2, by rw [List.length_map]; exact small5' (by omega), ?_⟩
      have nfz : z ≠ f := nzf
      refine rixl (x := nV (k + s'.len)) (xs := (Tr.ends 0 t).map nV) (by rw [upd_ne nzf]; exact h1) (by rw [List.getElem?_map, e3.end_get]; rfl) ?_
      refine ⟨r, k + s'.len, found ++ [s'], _, ⟨rfl, rfl⟩, s0.new hf0 _, by rw [upd_ne nzf]; exact h1, by rw [upd_same]; simp, ?_, g6, e3', ?_, by simp; omega⟩
      · have := drop_app (a := s'.cs) (r := Ag.tl r) e1
        rw [Tr.cs_length] at this; exact this
      · rw [e4]; simp only [Ag.hangs, Tr.hang, Option.bind_some, Option.map_map]
        congr 1; funext y; simp
    | some (.leaf, .node c1 c2) :: r, e1, e2, e3, e4 =>
      obtain ⟨g1, g2, g3⟩ := drop_cons (x := 46) (r := Ag.tl r) e1
      obtain ⟨g4, g5, g6⟩ := drop_cons (x := 40) (r := (c1.cs ++ (c2.cs ++ [41])) ++ Ag.tr r) e2
      rw [g4] at hd
      obtain rfl : 40 = d := Option.some.inj hd
      refine ifdF (sg_ne lit_dot (by decide)) (rixs (by omega) g1 ⟨rfl, ifdF (by decide) ?_⟩)
      exact qn (by rw [e4]; rfl) _ s0
    | some (.node a b, .node c1 c2) :: r, e1, e2, e3, e4 =>
      obtain ⟨g1, g2, g3⟩ := drop_cons (x := 40) (r := (a.cs ++ (b.cs ++ [41])) ++ Ag.tl r) e1
      obtain ⟨g4, g5, g6⟩ := drop_cons (x := 40) (r := (c1.cs ++ (c2.cs ++ [41])) ++ Ag.tr r) e2
      rw [g4] at hd
      obtain rfl : 40 = d := Option.some.inj hd
      obtain ⟨e3, e3'⟩ := e3
      refine ifdF (sg_ne lit_dot (by decide)) (rixs (by omega) g1 ⟨rfl, ifdT rfl ?_⟩)
      refine ⟨some (a, c1) :: some (b, c2) :: none :: r, k + 1, found, _, ⟨rfl, rfl⟩, s0, h1, h2, ?_, ?_, ⟨e3.left, e3.right, ?_⟩, ?_, by omega⟩
      · rw [g3]; simp [Ag.tl]
      · rw [g6]; simp [Ag.tr]
      · have : k + 1 + a.len + b.len + 1 = k + (Tr.node a b).len := by show _ = k + (a.len + b.len + 2); omega
        show Ag.AtL t (k + 1 + a.len + b.len + 1) r
        rw [this]; exact e3'
      · rw [e4]; simp only [Ag.hangs, Tr.hang]
        cases Tr.hang a c1 with
        | none => rfl
        | some x =>
          cases Tr.hang b c2 with
          | none => rfl
          | some y => cases Ag.hangs r <;> simp
  · rintro σ H' ⟨ag, k, found, a5, rfl, s0, h1, h2, e1, e2, e3, e4, e5⟩
    simp only [cxOf_K, tAsg2, tYes, wipe, tSeq, tIfS, tNot, tB, tCB, tCons, tNil, tVar, tC, tTest, tOp, tAnd, tOr, tAsg, gName, tRet, tRetN, tDrop, tNext, tIf, tCall, tTup, tLst, tNotV, tAndV, tOrV, tUn, rI0, rI, rU, rEq, rNe, tM1, tM0, tBM, tBM0, tSl, tPart, tNoPart, iStr, iEnumS, iRng1, iRng2, iList, gSub, tBits, tAug, tPar, L2.start, List.map_cons, List.map_nil, List.length_cons, List.length_nil, List.getElem?_cons_zero, List.getElem?_cons_succ, List.cons_append, List.nil_append, List.append_nil, List.set_cons_zero, List.set_cons_succ, List.replicate_succ, List.replicate_zero, Option.some.injEq, exists_eq_left', V.int.injEq, V.str.injEq, V.ref.injEq, V.bl.injEq, exists_and_left, exists_eq_left, List.cons.injEq, and_true, true_and, tCallX, tRs]
    have : (S c.cs).cps.size = c.cs.length := by simp
    rw [this, List.drop_length] at e2
    have := Ag.tr_nil e2.symm
    subst this
    refine qs found ?_ f H' hf0 s0 h2
    rw [e4]; simp [Ag.hangs]

theorem ok_shared (T : Txt w K mg) : FnOk P w K mg base (L2.CX P w) 4 T.a_shared T.fd_shared ["one", "other"] (sp_shared T) := by
  refine T.F_shared.okX sc_shared (fun vs H Q E h => ?_) (fun cdv A outer s H vs Q E hr h => ?_)
  · obtain ⟨u, v, rfl, _⟩ := h; rfl
  obtain ⟨u, v, rfl, h⟩ := h
  refine ⟨_, (pss_cons (ps_expr (pe_callX (ok_check_tree T) (takes_of rfl rfl rfl rfl) (hr.mono (by first | decide | omega)) (by rfl) T.m_check_tree T.F_check_tree.kp T.b_check_tree .nil (pa_cons (pv 0) pa_nil)))
    (pss_cons (ps_expr (pe_callX (ok_check_tree T) (takes_of rfl rfl rfl rfl) (hr.mono (by first | decide | omega)) (by rfl) T.m_check_tree T.F_check_tree.kp T.b_check_tree .nil (pa_cons (pv 1) pa_nil)))
    (pss_cons (ps_par (i := 2) (j := 3) rfl sc_shared.nd rfl rfl (by decide) rfl rfl (pa_cons (pe_call (ok_ends T) (hr.mono (by first | decide | omega)) (by rfl) T.m_ends T.F_ends.kp T.b_ends .nil pass0 (pa_cons (pv 0) pa_nil)) (pa_cons (pe_call (ok_ends T) (hr.mono (by first | decide | omega)) (by rfl) T.m_ends T.F_ends.kp T.b_ends .nil pass0 (pa_cons (pv 1) pa_nil)) pa_nil)) rfl)
    (pss_cons (ps_set (i := 4) sc_shared.nd rfl (by first | exact Or.inl rfl | exact Or.inr rfl) (pe_lst pa_nil))
    (pss_cons (ps_asg2 pe_int (pg_name (i := 5) sc_shared.nd rfl (by first | exact Or.inl rfl | exact Or.inr rfl)) (pg_name (i := 6) sc_shared.nd rfl (by first | exact Or.inl rfl | exact Or.inr rfl)))
    (pss_cons (ps_while (passes_of rfl) (pt_cmpR op_lt (pv 5) (pe_callB call_len_str (by rfl) T.z_len PySem.boot_len (pa_cons (pv 0) pa_nil)) (nomark _)) (pss_one (ps_if (pt_cmpR op_eq (pe_ix ix_str (pv 0) (pv 5) (fun _ _ => rfl)) (pe_ix ix_str (pv 1) (pv 6) (fun _ _ => rfl)) (nomark _)) (pss_cons (ps_expr (pe_bm PySem.F.plainAttrs_list PySem.F.slot_list_append PySem.F.type_list_append mt_append (pv 4) (pa_cons (pe_ix ix_str (pv 0) (pv 5) (fun _ _ => rfl)) pa_nil)))
    (pss_cons (ps_aug (i := 5) sc_shared.nd rfl (by first | exact Or.inl rfl | exact Or.inr rfl) pe_int iop_add)
    (pss_one (ps_aug (i := 6) sc_shared.nd rfl (by first | exact Or.inl rfl | exact Or.inr rfl) pe_int iop_add)))) (pss_cons (ps_expr (pe_bm PySem.F.plainAttrs_list PySem.F.slot_list_append PySem.F.type_list_append mt_append (pv 4) (pa_cons pe_str pa_nil)))
    (pss_cons (ps_set (i := 5) sc_shared.nd rfl (by first | exact Or.inl rfl | exact Or.inr rfl) (pe_ix ix_list (pv 2) (pv 5) (fun _ _ => rfl)))
    (pss_one (ps_set (i := 6) sc_shared.nd rfl (by first | exact Or.inl rfl | exact Or.inr rfl) (pe_ix ix_list (pv 3) (pv 6) (fun _ _ => rfl)))))))))
    (pss_one (ps_ret (pe_join pe_str (pv 4)))))))))), ?_⟩
  simp only [cxOf_K, tAsg2, tYes, wipe, tSeq, tIfS, tNot, tB, tCB, tCons, tNil, tVar, tC, tTest, tOp, tAnd, tOr, tAsg, gName, tRet, tRetN, tDrop, tNext, tIf, tCall, tTup, tLst, tNotV, tAndV, tOrV, tUn, rI0, rI, rU, rEq, rNe, tM1, tM0, tBM, tBM0, tSl, tPart, tNoPart, iStr, iEnumS, iRng1, iRng2, iList, gSub, tBits, tAug, tPar, L2.start, List.map_cons, List.map_nil, List.length_cons, List.length_nil, List.getElem?_cons_zero, List.getElem?_cons_succ, List.cons_append, List.nil_append, List.append_nil, List.set_cons_zero, List.set_cons_succ, List.replicate_succ, List.replicate_zero, Option.some.injEq, exists_eq_left', V.int.injEq, V.str.injEq, V.ref.injEq, V.bl.injEq, exists_and_left, exists_eq_left, List.cons.injEq, and_true, true_and, tCallX, tRs]
  rcases h with ⟨a, rfl, ha, h⟩ | ⟨nt, out⟩
  case inr => exact ⟨u, rfl, .inr ⟨nt, out⟩⟩
  refine ⟨_, rfl, .inl ⟨a, rfl, ha, fun H1 s1 => ?_⟩⟩
  simp only [cxOf_K, tAsg2, tYes, wipe, tSeq, tIfS, tNot, tB, tCB, tCons, tNil, tVar, tC, tTest, tOp, tAnd, tOr, tAsg, gName, tRet, tRetN, tDrop, tNext, tIf, tCall, tTup, tLst, tNotV, tAndV, tOrV, tUn, rI0, rI, rU, rEq, rNe, tM1, tM0, tBM, tBM0, tSl, tPart, tNoPart, iStr, iEnumS, iRng1, iRng2, iList, gSub, tBits, tAug, tPar, L2.start, List.map_cons, List.map_nil, List.length_cons, List.length_nil, List.getElem?_cons_zero, List.getElem?_cons_succ, List.cons_append, List.nil_append, List.append_nil, List.set_cons_zero, List.set_cons_succ, List.replicate_succ, List.replicate_zero, Option.some.injEq, exists_eq_left', V.int.injEq, V.str.injEq, V.ref.injEq, V.bl.injEq, exists_and_left, exists_eq_left, List.cons.injEq, and_true, true_and, tCallX, tRs]
  rcases h with ⟨b, rfl, hb, q⟩ | ⟨nt, out⟩
  case inr => exact ⟨v, rfl, .inr ⟨nt.same s1, out.same s1⟩⟩
  have hal := tr_len ha
  have hbl := tr_len hb
  have hS : (S a.cs).length = a.len := by rw [S_len, Tr.cs_length]
  have hal2 : a.len ≤ 6001 := by rw [← Tr.cs_length]; exact hal
  refine ⟨_, rfl, .inl ⟨b, rfl, hb, fun H2 s2 => ?_⟩⟩
  have s2 := s1.trans s2
  simp only [cxOf_K, tAsg2, tYes, wipe, tSeq, tIfS, tNot, tB, tCB, tCons, tNil, tVar, tC, tTest, tOp, tAnd, tOr, tAsg, gName, tRet, tRetN, tDrop, tNext, tIf, tCall, tTup, tLst, tNotV, tAndV, tOrV, tUn, rI0, rI, rU, rEq, rNe, tM1, tM0, tBM, tBM0, tSl, tPart, tNoPart, iStr, iEnumS, iRng1, iRng2, iList, gSub, tBits, tAug, tPar, L2.start, List.map_cons, List.map_nil, List.length_cons, List.length_nil, List.getElem?_cons_zero, List.getElem?_cons_succ, List.cons_append, List.nil_append, List.append_nil, List.set_cons_zero, List.set_cons_succ, List.replicate_succ, List.replicate_zero, Option.some.injEq, exists_eq_left', V.int.injEq, V.str.injEq, V.ref.injEq, V.bl.injEq, exists_and_left, exists_eq_left, List.cons.injEq, and_true, true_and, tCallX, tRs]
  refine ⟨a, rfl, ha, fun y H3 hy s3 hy3 => ?_⟩
  simp only [cxOf_K, tAsg2, tYes, wipe, tSeq, tIfS, tNot, tB, tCB, tCons, tNil, tVar, tC, tTest, tOp, tAnd, tOr, tAsg, gName, tRet, tRetN, tDrop, tNext, tIf, tCall, tTup, tLst, tNotV, tAndV, tOrV, tUn, rI0, rI, rU, rEq, rNe, tM1, tM0, tBM, tBM0, tSl, tPart, tNoPart, iStr, iEnumS, iRng1, iRng2, iList, gSub, tBits, tAug, tPar, L2.start, List.map_cons, List.map_nil, List.length_cons, List.length_nil, List.getElem?_cons_zero, List.getElem?_cons_succ, List.cons_append, List.nil_append, List.append_nil, List.set_cons_zero, List.set_cons_succ, List.replicate_succ, List.replicate_zero, Option.some.injEq, exists_eq_left', V.int.injEq, V.str.injEq, V.ref.injEq, V.bl.injEq, exists_and_left, exists_eq_left, List.cons.injEq, and_true, true_and, tCallX, tRs]
  have s3' := s2.trans s3
  refine ⟨b, rfl, hb, fun z H4 hz s4 hz4 => ?_⟩
  have hy4 := s4 _ _ hy3
  have s4 := s3'.trans s4
  have hy0 := s2.free hy
  have hz0 := s3'.free hz
  simp only [cxOf_K, tAsg2, tYes, wipe, tSeq, tIfS, tNot, tB, tCB, tCons, tNil, tVar, tC, tTest, tOp, tAnd, tOr, tAsg, gName, tRet, tRetN, tDrop, tNext, tIf, tCall, tTup, tLst, tNotV, tAndV, tOrV, tUn, rI0, rI, rU, rEq, rNe, tM1, tM0, tBM, tBM0, tSl, tPart, tNoPart, iStr, iEnumS, iRng1, iRng2, iList, gSub, tBits, tAug, tPar, L2.start, List.map_cons, List.map_nil, List.length_cons, List.length_nil, List.getElem?_cons_zero, List.getElem?_cons_succ, List.cons_append, List.nil_append, List.append_nil, List.set_cons_zero, List.set_cons_succ, List.replicate_succ, List.replicate_zero, Option.some.injEq, exists_eq_left', V.int.injEq, V.str.injEq, V.ref.injEq, V.bl.injEq, exists_and_left, exists_eq_left, List.cons.injEq, and_true, true_and, tCallX, tRs]
  refine ⟨_, _, ⟨rfl, rfl⟩, by decide, fun f hf => ?_⟩
  have nyf : y ≠ f := ne_of_none hy4 hf
  have nzf : z ≠ f := ne_of_none hz4 hf
  have hf0 := s4.free hf
  have hbl2 : b.len ≤ 6001 := by rw [← Tr.cs_length]; exact hbl
  refine ⟨fun mm σ H' => ∃ (ag : Ag) (k m : Nat) (out : List Nat), mm = a.len - k ∧ σ = [some (trV a), some (trV b), some (.ref y), some (.ref z), some (.ref f), some (nV k), some (nV m)] ∧ Same H H' ∧
      H' y = some (.lst ((Tr.ends 0 a).map nV)) ∧ H' z = some (.lst ((Tr.ends 0 b).map nV)) ∧ H' f = some (.lst (out.map sgV)) ∧
      a.cs.drop k = ag.tl ∧ b.cs.drop m = ag.tr ∧ ag.AtL a k ∧ ag.AtR b m ∧ (Tr.meet a b).cs = out ++ ag.outs ∧ out.length ≤ k, ?_, ?_⟩
  · refine ⟨_, [some (a, b)], 0, 0, [], rfl, rfl, s4.new hf0 _, by rw [upd_ne nyf]; exact hy4, by rw [upd_ne nzf]; exact hz4, upd_same, ?_, ?_, ⟨.root, True.intro⟩, ⟨.root, True.intro⟩, ?_, Nat.le_refl _⟩
    · simp [Ag.tl]
    · simp [Ag.tr]
    · simp [Ag.outs]
  · rintro mm σ H' ⟨ag, k, m, out, rfl, rfl, s0, h1, h2, h3, e1, e2, e3, e4, e5, e6⟩
    simp only [cxOf_K, tAsg2, tYes, wipe, tSeq, tIfS, tNot, tB, tCB, tCons, tNil, tVar, tC, tTest, tOp, tAnd, tOr, tAsg, gName, tRet, tRetN, tDrop, tNext, tIf, tCall, tTup, tLst, tNotV, tAndV, tOrV, tUn, rI0, rI, rU, rEq, rNe, tM1, tM0, tBM, tBM0, tSl, tPart, tNoPart, iStr, iEnumS, iRng1, iRng2, iList, gSub, tBits, tAug, tPar, L2.start, List.map_cons, List.map_nil, List.length_cons, List.length_nil, List.getElem?_cons_zero, List.getElem?_cons_succ, List.cons_append, List.nil_append, List.append_nil, List.set_cons_zero, List.set_cons_succ, List.replicate_succ, List.replicate_zero, Option.some.injEq, exists_eq_left', V.int.injEq, V.str.injEq, V.ref.injEq, V.bl.injEq, exists_and_left, exists_eq_left, List.cons.injEq, and_true, true_and, tCallX, tRs]
    refine ⟨by rw [hS]; exact small5 (by omega), ?_⟩
    rw [hS]
    by_cases hk : (k : Int) < (a.len : Int)
    · refine ifdT hk ?_
      match ag, e1, e2, e3, e4, e5 with
      | [], e1, e2, e3, e4, e5 =>
        have : a.cs.length ≤ k := List.drop_eq_nil_iff.mp e1
        rw [Tr.cs_length] at this
        omega
      | none :: r, e1, e2, e3, e4, e5 =>
        obtain ⟨g1, g2, g3⟩ := drop_cons e1
        obtain ⟨g4, g5, g6⟩ := drop_cons e2
        refine ⟨_, fun _ _ n => n, rixs (by omega) g1 (rixs (by omega) g4 ⟨rfl, ifdT rfl ⟨tyV_lst h3, rixs (by omega) g1 ⟨f, _, _, rfl, rfl, h3, by rw [List.length_map]; exact small5' (by omega), ?_⟩⟩⟩)⟩
        exact ⟨a.len - (k + 1), by omega, r, k + 1, rfl, m + 1, rfl, s0.new hf0 _, by rw [upd_ne nyf]; exact h1, by rw [upd_ne nzf]; exact h2, out ++ [41], by rw [upd_same]; simp, g3, g6, e3, e4, by rw [e5]; simp [Ag.outs], by simp; omega⟩
      | some (.leaf, .leaf) :: r, e1, e2, e3, e4, e5 =>
        obtain ⟨g1, g2, g3⟩ := drop_cons (x := 46) (r := Ag.tl r) e1
        obtain ⟨g4, g5, g6⟩ := drop_cons (x := 46) (r := Ag.tr r) e2
        refine ⟨_, fun _ _ n => n, rixs (by omega) g1 (rixs (by omega) g4 ⟨rfl, ifdT rfl ⟨tyV_lst h3, rixs (by omega) g1 ⟨f, _, _, rfl, rfl, h3, by rw [List.length_map]; exact small5' (by omega), ?_⟩⟩⟩)⟩
        exact ⟨a.len - (k + 1), by omega, r, k + 1, rfl, m + 1, rfl, s0.new hf0 _, by rw [upd_ne nyf]; exact h1, by rw [upd_ne nzf]; exact h2, out ++ [46], by rw [upd_same]; simp, g3, g6, e3.2, e4.2, by rw [e5]; simp [Ag.outs, Tr.meet, Tr.cs], by simp; omega⟩
      | some (.node a1 a2, .node b1 b2) :: r, e1, e2, e3, e4, e5 =>
        obtain ⟨g1, g2, g3⟩ := drop_cons (x := 40) (r := (a1.cs ++ (a2.cs ++ [41])) ++ Ag.tl r) e1
        obtain ⟨g4, g5, g6⟩ := drop_cons (x := 40) (r := (b1.cs ++ (b2.cs ++ [41])) ++ Ag.tr r) e2
        obtain ⟨e3, e3'⟩ := e3
        obtain ⟨e4, e4'⟩ := e4
        refine ⟨_, fun _ _ n => n, rixs (by omega) g1 (rixs (by omega) g4 ⟨rfl, ifdT rfl ⟨tyV_lst h3, rixs (by omega) g1 ⟨f, _, _, rfl, rfl, h3, by rw [List.length_map]; exact small5' (by omega), ?_⟩⟩⟩)⟩
        refine ⟨a.len - (k + 1), by omega, some (a1, b1) :: some (a2, b2) :: none :: r, k + 1, rfl, m + 1, rfl, s0.new hf0 _, by rw [upd_ne nyf]; exact h1, by rw [upd_ne nzf]; exact h2, out ++ [40], by rw [upd_same]; simp, ?_, ?_, ⟨e3.left, e3.right, ?_⟩, ⟨e4.left, e4.right, ?_⟩, by rw [e5]; simp [Ag.outs, Tr.meet, Tr.cs], by simp; omega⟩
        · rw [g3]; simp [Ag.tl]
        · rw [g6]; simp [Ag.tr]
        · have : k + 1 + a1.len + a2.len + 1 = k + (Tr.node a1 a2).len := by show _ = k + (a1.len + a2.len + 2); omega
          show Ag.AtL a (k + 1 + a1.len + a2.len + 1) r
          rw [this]; exact e3'
        · have : m + 1 + b1.len + b2.len + 1 = m + (Tr.node b1 b2).len := by show _ = m + (b1.len + b2.len + 2); omega
          show Ag.AtR b (m + 1 + b1.len + b2.len + 1) r
          rw [this]; exact e4'
      | some (.leaf, .node b1 b2) :: r, e1, e2, e3, e4, e5 =>
        obtain ⟨g1, g2, g3⟩ := drop_cons (x := 46) (r := Ag.tl r) e1
        obtain ⟨g4, g5, g6⟩ := drop_cons (x := 40) (r := (b1.cs ++ (b2.cs ++ [41])) ++ Ag.tr r) e2
        refine ⟨_, fun _ _ n => n, rixs (by omega) g1 (rixs (by omega) g4 ⟨rfl, ifdF (by decide) ⟨tyV_lst h3, f, _, _, rfl, rfl, h3, by rw [List.length_map]; exact small5' (by omega), ?_⟩⟩)⟩
        refine rixl (x := nV (k + Tr.leaf.len)) (xs := (Tr.ends 0 a).map nV) (by rw [upd_ne nyf]; exact h1) (by rw [List.getElem?_map, e3.1.end_get]; rfl) ?_
        refine rixl (x := nV (m + (Tr.node b1 b2).len)) (xs := (Tr.ends 0 b).map nV) (by rw [upd_ne nzf]; exact h2) (by rw [List.getElem?_map, e4.1.end_get]; rfl) ?_
        refine ⟨a.len - (k + 1), by omega, r, k + 1, rfl, m + (Tr.node b1 b2).len, rfl, s0.new hf0 _, by rw [upd_ne nyf]; exact h1, by rw [upd_ne nzf]; exact h2, out ++ [46], by rw [upd_same, lit_dot]; simp, g3, ?_, e3.2, e4.2, by rw [e5]; simp [Ag.outs, Tr.meet, Tr.cs], by simp; omega⟩
        have := drop_app (a := (Tr.node b1 b2).cs) (r := Ag.tr r) e2
        rw [Tr.cs_length] at this; exact this
      | some (.node a1 a2, .leaf) :: r, e1, e2, e3, e4, e5 =>
        obtain ⟨g1, g2, g3⟩ := drop_cons (x := 40) (r := (a1.cs ++ (a2.cs ++ [41])) ++ Ag.tl r) e1
        obtain ⟨g4, g5, g6⟩ := drop_cons (x := 46) (r := Ag.tr r) e2
        have hle := e3.1.le
        have hpos := (Tr.node a1 a2).len_pos
        refine ⟨_, fun _ _ n => n, rixs (by omega) g1 (rixs (by omega) g4 ⟨rfl, ifdF (by decide) ⟨tyV_lst h3, f, _, _, rfl, rfl, h3, by rw [List.length_map]; exact small5' (by omega), ?_⟩⟩)⟩
        refine rixl (x := nV (k + (Tr.node a1 a2).len)) (xs := (Tr.ends 0 a).map nV) (by rw [upd_ne nyf]; exact h1) (by rw [List.getElem?_map, e3.1.end_get]; rfl) ?_
        refine rixl (x := nV (m + Tr.leaf.len)) (xs := (Tr.ends 0 b).map nV) (by rw [upd_ne nzf]; exact h2) (by rw [List.getElem?_map, e4.1.end_get]; rfl) ?_
        refine ⟨a.len - (k + (Tr.node a1 a2).len), by omega, r, k + (Tr.node a1 a2).len, rfl, m + 1, rfl, s0.new hf0 _, by rw [upd_ne nyf]; exact h1, by rw [upd_ne nzf]; exact h2, out ++ [46], by rw [upd_same, lit_dot]; simp, ?_, g6, e3.2, e4.2, by rw [e5]; simp [Ag.outs, Tr.meet, Tr.cs], by simp; omega⟩
        have := drop_app (a := (Tr.node a1 a2).cs) (r := Ag.tl r) e1
        rw [Tr.cs_length] at this; exact this
    · refine ifdF hk ?_
      have : a.cs.drop k = [] := List.drop_eq_nil_of_le (by rw [Tr.cs_length]; omega)
      rw [this] at e1
      have := Ag.tl_nil e1.symm
      subst this
      simp only [Ag.outs, List.append_nil] at e5
      have hol : out.length = (Tr.meet a b).cs.length := by rw [e5]
      refine ⟨⟨_, rfl⟩, out.map (fun c => S [c]), .inl (SqL.of (by rw [h3, List.map_map]; rfl)), ?_, ?_⟩
      · rw [signs_sum, lit_empty, S_len, hol, Tr.cs_length, Tr.len_size]
        have := Tr.size_meet_le a b
        simp only [List.length_nil, Nat.mul_zero]
        omega
      · rw [lit_empty, signs_join, ← e5]; exact q _ s0

theorem pick_V (x y : Tr) : (if trV x = V.str "." then trV y else trV x) = trV (Tr.pick x y) := by
  unfold Tr.pick
  by_cases h : x = .leaf
  · subst h
    rw [if_pos rfl, if_pos (show trV .leaf = V.str "." from congrArg V.str lit_dot.symm)]
  · rw [if_neg h, if_neg]
    intro e
    exact h (Tr.cs_inj (t := .leaf) (S_inj ((V.str.inj e).trans lit_dot)))
theorem ok_joined (T : Txt w K mg) : FnOk P w K mg base (L2.CX P w) 5 T.a_joined T.fd_joined ["one", "other"] (sp_joined T) := by
  refine T.F_joined.okX sc_joined (fun vs H Q E h => ?_) (fun cdv A outer s H vs Q E hr h => ?_)
  · obtain ⟨u, v, rfl, _⟩ := h; rfl
  obtain ⟨u, v, rfl, h⟩ := h
  refine ⟨_, (pss_cons (ps_set (i := 2) sc_joined.nd rfl (by first | exact Or.inl rfl | exact Or.inr rfl) (pe_callX (ok_shared T) (takes_of rfl rfl rfl rfl) (hr.mono (by first | decide | omega)) (by rfl) T.m_shared T.F_shared.kp T.b_shared .nil (pa_cons (pv 0) (pa_cons (pv 1) pa_nil))))
    (pss_one (ps_ret (pe_callX (ok_grown T) (takes_of rfl rfl rfl rfl) (hr.mono (by first | decide | omega)) (by rfl) T.m_grown T.F_grown.kp T.b_grown .nil (pa_cons (pv 2) (pa_cons (pe_lc (own := [("mine", 3), ("its", 4)]) rfl sc_joined.nd (pi_zip (by rfl) T.z_zip (pa_cons (pe_callX (ok_hung T) (takes_of rfl rfl rfl rfl) (hr.mono (by first | decide | omega)) (by rfl) T.m_hung T.F_hung.kp T.b_hung .nil (pa_cons (pv 0) (pa_cons (pv 2) pa_nil))) (pa_cons (pe_callX (ok_hung T) (takes_of rfl rfl rfl rfl) (hr.mono (by first | decide | omega)) (by rfl) T.m_hung T.F_hung.kp T.b_hung .nil (pa_cons (pv 1) (pa_cons (pv 2) pa_nil))) pa_nil))) (blkOk_by (own := [("mine", 3), ("its", 4)]) (N := nm_joined) (sc := defScope s_joined) (by decide +kernel)) (fun _ _ _ _ _ => by exact (show L2.PG _ _ (gTup K 2 _) from (pg_tup rfl (pgs_cons (pg_name (i := 3) sc_joined.nd rfl (by first | exact Or.inl rfl | exact Or.inr rfl)) (pgs_cons (pg_name (i := 4) sc_joined.nd rfl (by first | exact Or.inl rfl | exact Or.inr rfl)) pgs_nil))))) (fun _ _ _ _ _ => by exact pts_nil) (fun _ _ _ _ _ => by exact (pe_ifExp (pt_cmpR op_eq (pv 3) pe_str (nomark _)) (pv 4) (pv 3)))) pa_nil)))))), ?_⟩
  simp only [cxOf_K, tAsg2, tYes, wipe, tSeq, tIfS, tNot, tB, tCB, tCons, tNil, tVar, tC, tTest, tOp, tAnd, tOr, tAsg, gName, tRet, tRetN, tDrop, tNext, tIf, tCall, tTup, tLst, tNotV, tAndV, tOrV, tUn, rI0, rI, rU, rEq, rNe, tM1, tM0, tBM, tBM0, tSl, tPart, tNoPart, iStr, iEnumS, iRng1, iRng2, iList, gSub, tBits, tAug, tPar, L2.start, List.map_cons, List.map_nil, List.length_cons, List.length_nil, List.getElem?_cons_zero, List.getElem?_cons_succ, List.cons_append, List.nil_append, List.append_nil, List.set_cons_zero, List.set_cons_succ, List.replicate_succ, List.replicate_zero, Option.some.injEq, exists_eq_left', V.int.injEq, V.str.injEq, V.ref.injEq, V.bl.injEq, exists_and_left, exists_eq_left, List.cons.injEq, and_true, true_and, tCallX, tRs]
  rcases h with ⟨a, rfl, ha, h⟩ | ⟨nt, out⟩
  case inr => exact ⟨u, v, rfl, .inr ⟨nt, out⟩⟩
  rcases h with ⟨b, rfl, hb, q⟩ | ⟨nt, out⟩
  case inr => exact ⟨_, v, rfl, .inl ⟨a, rfl, ha, .inr ⟨nt, out⟩⟩⟩
  obtain ⟨xs, hxs⟩ := Tr.hang_meet a b
  obtain ⟨ys, hys⟩ := Tr.hang_meet' a b
  have hm : (Tr.meet a b).size ≤ 2000 := Nat.le_trans (Tr.size_meet_le a b) ha
  refine ⟨_, _, rfl, .inl ⟨a, rfl, ha, .inl ⟨b, rfl, hb, fun H1 s1 => ?_⟩⟩⟩
  simp only [cxOf_K, tAsg2, tYes, wipe, tSeq, tIfS, tNot, tB, tCB, tCons, tNil, tVar, tC, tTest, tOp, tAnd, tOr, tAsg, gName, tRet, tRetN, tDrop, tNext, tIf, tCall, tTup, tLst, tNotV, tAndV, tOrV, tUn, rI0, rI, rU, rEq, rNe, tM1, tM0, tBM, tBM0, tSl, tPart, tNoPart, iStr, iEnumS, iRng1, iRng2, iList, gSub, tBits, tAug, tPar, L2.start, List.map_cons, List.map_nil, List.length_cons, List.length_nil, List.getElem?_cons_zero, List.getElem?_cons_succ, List.cons_append, List.nil_append, List.append_nil, List.set_cons_zero, List.set_cons_succ, List.replicate_succ, List.replicate_zero, Option.some.injEq, exists_eq_left', V.int.injEq, V.str.injEq, V.ref.injEq, V.bl.injEq, exists_and_left, exists_eq_left, List.cons.injEq, and_true, true_and, tCallX, tRs]
  refine ⟨_, rfl, _, rfl, _, _, rfl, .inl ⟨a, rfl, ha, .inl ⟨Tr.meet a b, rfl, hm, fun e => (by rw [hxs] at e; cases e), fun xs' hxs' y H2 hy s2 hy2 => ?_⟩⟩⟩
  rw [hxs] at hxs'; obtain rfl : xs = xs' := Option.some.inj hxs'
  have s2 := s1.trans s2
  refine ⟨_, rfl, _, rfl, _, _, rfl, .inl ⟨b, rfl, hb, .inl ⟨Tr.meet a b, rfl, hm, fun e => (by rw [hys] at e; cases e), fun ys' hys' z H3 hz s3 hz3 => ?_⟩⟩⟩
  rw [hys] at hys'; obtain rfl : ys = ys' := Option.some.inj hys'
  have hy3 := s3 _ _ hy2
  have s3 := s2.trans s3
  refine ⟨y, z, _, _, rfl, SqL.of hy3, SqL.of hz3, fun D hD => ?_⟩
  have nyD : y ≠ D := ne_of_none hy3 hD
  have nzD : z ≠ D := ne_of_none hz3 hD
  have hl1 := Tr.hang_len _ _ _ hxs
  have hl2 := Tr.hang_len _ _ _ hys
  have hlv : (Tr.meet a b).lvs ≤ 2001 := by rw [Tr.lvs_size]; omega
  refine lc_zip (K := K) (fun i H' => Same H H' ∧ H' y = some (.lst (xs.map trV)) ∧ H' z = some (.lst (ys.map trV)) ∧ H' D = some (.lst (((List.zipWith Tr.pick xs ys).take i).map trV)))
    ⟨s3.new (s3.free hD) _, by rw [upd_ne nyD]; exact hy3, by rw [upd_ne nzD]; exact hz3, upd_same⟩ (fun i H' hp => ⟨SqL.of hp.2.1, SqL.of hp.2.2.1⟩) ?_ ?_
  · rintro i u v H' d hu hv ⟨s5, h5, h6, h7⟩ hd
    obtain ⟨u, hu1, rfl, _⟩ := getV hu
    obtain ⟨v, hv1, rfl, _⟩ := getV hv
    have nyd : y ≠ d := ne_of_none h5 hd
    have nzd : z ≠ d := ne_of_none h6 hd
    have nDd : D ≠ d := ne_of_none h7 hd
    have hil : i < xs.length := (List.getElem?_eq_some_iff.mp hu1).1
    refine ⟨d, _, rfl, SqT.of upd_same, rfl, _, _, rfl, _, _, rfl, rfl, rfl, ?_⟩
    simp only [cxOf_K, tAsg2, tYes, wipe, tSeq, tIfS, tNot, tB, tCB, tCons, tNil, tVar, tC, tTest, tOp, tAnd, tOr, tAsg, gName, tRet, tRetN, tDrop, tNext, tIf, tCall, tTup, tLst, tNotV, tAndV, tOrV, tUn, rI0, rI, rU, rEq, rNe, tM1, tM0, tBM, tBM0, tSl, tPart, tNoPart, iStr, iEnumS, iRng1, iRng2, iList, gSub, tBits, tAug, tPar, L2.start, List.map_cons, List.map_nil, List.length_cons, List.length_nil, List.getElem?_cons_zero, List.getElem?_cons_succ, List.cons_append, List.nil_append, List.append_nil, List.set_cons_zero, List.set_cons_succ, List.replicate_succ, List.replicate_zero, Option.some.injEq, exists_eq_left', V.int.injEq, V.str.injEq, V.ref.injEq, V.bl.injEq, exists_and_left, exists_eq_left, List.cons.injEq, and_true, true_and, tCallX, tRs]
    rw [if_pos True.intro]
    refine ⟨rfl, ?_⟩
    have fin : ∃ acc, upd H' d (.tup [trV u, trV v]) D = some (.lst acc) ∧ acc.length < sizeLine ∧ Same H (upd (upd H' d (.tup [trV u, trV v])) D (.lst (acc ++ [trV (Tr.pick u v)]))) ∧
        upd (upd H' d (.tup [trV u, trV v])) D (.lst (acc ++ [trV (Tr.pick u v)])) y = some (.lst (xs.map trV)) ∧ upd (upd H' d (.tup [trV u, trV v])) D (.lst (acc ++ [trV (Tr.pick u v)])) z = some (.lst (ys.map trV)) ∧
        upd (upd H' d (.tup [trV u, trV v])) D (.lst (acc ++ [trV (Tr.pick u v)])) D = some (.lst (((List.zipWith Tr.pick xs ys).take (i + 1)).map trV)) := by
      refine ⟨_, by rw [upd_ne nDd]; exact h7, ?_, (s5.new (s5.free hd) _).new (s3.free hD) _, by rw [upd_ne nyD, upd_ne nyd]; exact h5, by rw [upd_ne nzD, upd_ne nzd]; exact h6, ?_⟩
      · simp only [List.length_map, List.length_take]; exact small5' (by omega)
      · have : (List.zipWith Tr.pick xs ys)[i]? = some (Tr.pick u v) := by rw [List.getElem?_zipWith, hu1, hv1]
        rw [upd_same, List.take_add_one, this]; simp
    rw [← pick_V] at fin
    by_cases hdot : trV u = V.str "."
    · rw [if_pos hdot] at fin
      exact ifdT (V.str.inj hdot) fin
    · rw [if_neg hdot] at fin
      exact ifdF (fun e => hdot (congrArg V.str e)) fin
  · rintro H' ⟨s5, h5, h6, h7⟩
    have hmin : min (xs.map trV).length (ys.map trV).length = xs.length := by rw [List.length_map, List.length_map, hl1, hl2, Nat.min_self]
    rw [hmin, List.take_of_length_le (by rw [List.length_zipWith]; omega)] at h7
    refine ⟨_, _, rfl, .inl ⟨Tr.meet a b, rfl, hm, .inl ⟨_, ⟨D, rfl, h7, by rw [List.length_zipWith]; omega, ?_⟩, fun H6 s6 => ?_⟩⟩⟩
    · intro x hx
      rcases mem_pick xs ys x hx with hx | hx
      · exact Nat.le_trans (hang_size _ _ _ hxs x hx) ha
      · exact Nat.le_trans (hang_size _ _ _ hys x hx) hb
    · rw [Tr.grow_pick hxs hys]
      exact q _ (s5.trans s6)

theorem ok_Move___mul__ (T : Txt w K mg) : FnOk P w K mg base CX0 10 T.a_Move___mul__ T.fd_Move___mul__ ["self", "other"] (sp_Move___mul__ T) := by
  refine T.F_Move___mul__.ok sc_Move___mul__ (fun vs H Q E h => ?_) (fun cdv A outer s H vs Q E hr h => ?_)
  · obtain ⟨_, _, _, _, _, _, rfl, _⟩ := h; rfl
  obtain ⟨v, u, A', B', C', D', rfl, ⟨ab, p, dx, rfl, hp⟩, ⟨cd, p2, dx2, rfl, hp2⟩, a1, c1, q⟩ := h
  refine ⟨_, (pss_cons (ps_if (pt_not (pt_val (pe_callB call_isi (by rfl) T.z_isinstance (by decide +kernel) (pa_cons (pv 1) (pa_cons (pe_glob (v := .ref T.c_Move) (by rfl) T.g_Move rfl) pa_nil))))) (pss_one ps_never) pss_nil)
    (pss_cons (ps_set (i := 2) sc_Move___mul__.nd rfl (by first | exact Or.inl rfl | exact Or.inr rfl) (pe_call (ok_joined T) (hr.mono (by first | decide | omega)) (by rfl) T.m_joined T.F_joined.kp T.b_joined .nil passL (pa_cons (pe_fld (pv 0) rfl) (pa_cons (pe_fld (pv 1) rfl) pa_nil))))
    (pss_cons (ps_set (i := 3) sc_Move___mul__.nd rfl (by first | exact Or.inl rfl | exact Or.inr rfl) (pe_call (ok_grown T) (hr.mono (by first | decide | omega)) (by rfl) T.m_grown T.F_grown.kp T.b_grown .nil passL (pa_cons (pe_fld (pv 0) rfl) (pa_cons (pe_call (ok_hung T) (hr.mono (by first | decide | omega)) (by rfl) T.m_hung T.F_hung.kp T.b_hung .nil passL (pa_cons (pv 2) (pa_cons (pe_fld (pv 0) rfl) pa_nil))) pa_nil))))
    (pss_one (ps_ret (pe_make T.k_Move (ok_Move___init__ T) (hr.mono (by first | decide | omega)) (by rfl) T.g_Move T.b_Move___init__ .nil passL (pa_cons (pv 3) (pa_cons (pe_call (ok_grown T) (hr.mono (by first | decide | omega)) (by rfl) T.m_grown T.F_grown.kp T.b_grown .nil passL (pa_cons (pe_fld (pv 1) rfl) (pa_cons (pe_call (ok_hung T) (hr.mono (by first | decide | omega)) (by rfl) T.m_hung T.F_hung.kp T.b_hung .nil passL (pa_cons (pv 2) (pa_cons (pe_fld (pv 1) rfl) pa_nil))) pa_nil))) pa_nil)))))))), ?_⟩
  simp only [cxOf_K, tAsg2, tYes, wipe, tSeq, tIfS, tNot, tB, tCB, tCons, tNil, tVar, tC, tTest, tOp, tAnd, tOr, tAsg, gName, tRet, tRetN, tDrop, tNext, tIf, tCall, tTup, tLst, tNotV, tAndV, tOrV, tUn, rI0, rI, rU, rEq, rNe, tM1, tM0, tBM, tBM0, tSl, tPart, tNoPart, iStr, iEnumS, iRng1, iRng2, iList, gSub, tBits, tAug, tPar, L2.start, List.map_cons, List.map_nil, List.length_cons, List.length_nil, List.getElem?_cons_zero, List.getElem?_cons_succ, List.cons_append, List.nil_append, List.append_nil, List.set_cons_zero, List.set_cons_succ, List.replicate_succ, List.replicate_zero, Option.some.injEq, exists_eq_left', V.int.injEq, V.str.injEq, V.ref.injEq, V.bl.injEq, exists_and_left, exists_eq_left, List.cons.injEq, and_true, true_and, tCallX, tRs, tProp, OW.tSMeth, OW.tCallI, Nat.sub_self, List.replicate_zero, tFld, sFld, sFldAug, tDGet, tDIn, tDNotIn, sDPut, tMeth, tMake, tDNewK]
  refine OW.isi_own hp2 T.l_Move T.y_Move ⟨_, rfl, ?_⟩
  rw [if_neg (by decide)]
  have v1 := Tr.lvs_size A'
  have v2 := Tr.lvs_size B'
  have v3 := Tr.lvs_size C'
  have v4 := Tr.lvs_size D'
  obtain ⟨us, ws, hus, hws, l1, l2, l3, l4, e, j1, j2⟩ := mul_parts (A := A') (B := B') (C := C') (D := D') (by omega) (by omega)
  have mb := mul_bounds (A := A') (B := B') (C := C') (D := D') (by omega) (by omega)
  rw [e] at q mb
  have mb1 : (A'.grow us).size ≤ A'.size + C'.size := mb.1
  have mb2 : (D'.grow ws).size = (A'.grow us).size := mb.2.1
  have js := Tr.size_join_le B' C'
  refine ⟨_, _, _, hp, T.l_Move, T.n_Move__after, _, mf_a _ _, ?_⟩
  refine ⟨_, _, _, hp2, T.l_Move, T.n_Move__before, _, mf_b _ _, ?_⟩
  refine ⟨trV B', trV C', rfl, .inl ⟨B', rfl, by omega, .inl ⟨C', rfl, by omega, fun H1 s1 => ?_⟩⟩⟩
  refine ⟨_, _, _, s1 _ _ hp, T.l_Move, T.n_Move__before, _, mf_b _ _, ?_⟩
  refine ⟨_, _, _, s1 _ _ hp, T.l_Move, T.n_Move__after, _, mf_a _ _, ?_⟩
  refine ⟨trV (Tr.join B' C'), trV B', rfl, .inl ⟨_, rfl, by omega, .inl ⟨B', rfl, by omega, fun e' => absurd (hus.symm.trans e') (by simp), fun ts e' r H2 n2 s2 h2 => ?_⟩⟩⟩
  rw [hus] at e'
  cases e'
  refine ⟨trV A', .ref r, rfl, .inl ⟨A', rfl, by omega, .inl ⟨us, ⟨r, rfl, h2, by omega, fun x hx => Nat.le_trans (hang_size _ _ _ hus x hx) (by omega)⟩, fun H3 s3 => ?_⟩⟩⟩
  have s13 := s1.trans (s2.trans s3)
  refine ⟨_, _, _, s13 _ _ hp2, T.l_Move, T.n_Move__after, _, mf_a _ _, ?_⟩
  refine ⟨_, _, _, s13 _ _ hp2, T.l_Move, T.n_Move__before, _, mf_b _ _, ?_⟩
  refine ⟨trV (Tr.join B' C'), trV C', rfl, .inl ⟨_, rfl, by omega, .inl ⟨C', rfl, by omega, fun e' => absurd (hws.symm.trans e') (by simp), fun ts e' r2 H4 n4 s4 h4 => ?_⟩⟩⟩
  rw [hws] at e'
  cases e'
  refine ⟨trV D', .ref r2, rfl, .inl ⟨D', rfl, by omega, .inl ⟨ws, ⟨r2, rfl, h4, by omega, fun x hx => Nat.le_trans (hang_size _ _ _ hws x hx) (by omega)⟩, fun H5 s5 => ?_⟩⟩⟩
  have s15 := s13.trans (s4.trans s5)
  exact make_mv T (by omega) mb2.symm fun p' H' np s' m => q p' H' (s15.free np) (s15.trans s') m

theorem ok_Move___invert__ (T : Txt w K mg) : FnOk P w K mg base CX0 6 T.a_Move___invert__ T.fd_Move___invert__ ["self"] (sp_Move___invert__ T) := by
  refine T.F_Move___invert__.ok sc_Move___invert__ (fun vs H Q E h => ?_) (fun cdv A outer s H vs Q E hr h => ?_)
  · obtain ⟨_, _, _, rfl, _⟩ := h; rfl
  obtain ⟨v, A', B', rfl, ⟨ab, p, dx, rfl, hp⟩, a1, q⟩ := h
  refine ⟨_, (pss_one (ps_ret (pe_make T.k_Move (ok_Move___init__ T) (hr.mono (by first | decide | omega)) (by rfl) T.g_Move T.b_Move___init__ .nil passL (pa_cons (pe_fld (pv 0) rfl) (pa_cons (pe_fld (pv 0) rfl) pa_nil))))), ?_⟩
  simp only [cxOf_K, tAsg2, tYes, wipe, tSeq, tIfS, tNot, tB, tCB, tCons, tNil, tVar, tC, tTest, tOp, tAnd, tOr, tAsg, gName, tRet, tRetN, tDrop, tNext, tIf, tCall, tTup, tLst, tNotV, tAndV, tOrV, tUn, rI0, rI, rU, rEq, rNe, tM1, tM0, tBM, tBM0, tSl, tPart, tNoPart, iStr, iEnumS, iRng1, iRng2, iList, gSub, tBits, tAug, tPar, L2.start, List.map_cons, List.map_nil, List.length_cons, List.length_nil, List.getElem?_cons_zero, List.getElem?_cons_succ, List.cons_append, List.nil_append, List.append_nil, List.set_cons_zero, List.set_cons_succ, List.replicate_succ, List.replicate_zero, Option.some.injEq, exists_eq_left', V.int.injEq, V.str.injEq, V.ref.injEq, V.bl.injEq, exists_and_left, exists_eq_left, List.cons.injEq, and_true, true_and, tCallX, tRs, tProp, OW.tSMeth, OW.tCallI, Nat.sub_self, List.replicate_zero, tFld, sFld, sFldAug, tDGet, tDIn, tDNotIn, sDPut, tMeth, tMake, tDNewK]
  refine ⟨_, _, _, hp, T.l_Move, T.n_Move__after, _, mf_a _ _, ?_⟩
  refine ⟨_, _, _, hp, T.l_Move, T.n_Move__before, _, mf_b _ _, ?_⟩
  exact make_mv T (by omega) ab.symm q

theorem trV_iff {a b : Tr} : trV a = trV b ↔ a = b := ⟨fun z => Tr.cs_inj (S_inj (V.str.inj z)), fun z => by rw [z]⟩
theorem ok_Move___eq__ (T : Txt w K mg) : FnOk P w K mg base CX0 2 T.a_Move___eq__ T.fd_Move___eq__ ["self", "other"] (sp_Move___eq__ T) := by
  refine T.F_Move___eq__.ok sc_Move___eq__ (fun vs H Q E h => ?_) (fun cdv A outer s H vs Q E hr h => ?_)
  · obtain ⟨_, _, _, _, _, _, rfl, _⟩ := h; rfl
  obtain ⟨v, u, A', B', C', D', rfl, ⟨ab, p, dx, rfl, hp⟩, ⟨cd, p2, dx2, rfl, hp2⟩, q⟩ := h
  refine ⟨_, (pss_one (ps_ret (pe_and (pe_callB call_isi (by rfl) T.z_isinstance (by decide +kernel) (pa_cons (pv 1) (pa_cons (pe_glob (v := .ref T.c_Move) (by rfl) T.g_Move rfl) pa_nil))) (pe_and (pe_cmpR op_eq (pe_fld (pv 0) rfl) (pe_fld (pv 1) rfl) (nomark _)) (pe_one (pe_cmpR op_eq (pe_fld (pv 0) rfl) (pe_fld (pv 1) rfl) (nomark _))))))), ?_⟩
  simp only [cxOf_K, tAsg2, tYes, wipe, tSeq, tIfS, tNot, tB, tCB, tCons, tNil, tVar, tC, tTest, tOp, tAnd, tOr, tAsg, gName, tRet, tRetN, tDrop, tNext, tIf, tCall, tTup, tLst, tNotV, tAndV, tOrV, tUn, rI0, rI, rU, rEq, rNe, tM1, tM0, tBM, tBM0, tSl, tPart, tNoPart, iStr, iEnumS, iRng1, iRng2, iList, gSub, tBits, tAug, tPar, L2.start, List.map_cons, List.map_nil, List.length_cons, List.length_nil, List.getElem?_cons_zero, List.getElem?_cons_succ, List.cons_append, List.nil_append, List.append_nil, List.set_cons_zero, List.set_cons_succ, List.replicate_succ, List.replicate_zero, Option.some.injEq, exists_eq_left', V.int.injEq, V.str.injEq, V.ref.injEq, V.bl.injEq, exists_and_left, exists_eq_left, List.cons.injEq, and_true, true_and, tCallX, tRs, tProp, OW.tSMeth, OW.tCallI, Nat.sub_self, List.replicate_zero, tFld, sFld, sFldAug, tDGet, tDIn, tDNotIn, sDPut, tMeth, tMake, tDNewK]
  refine OW.isi_own hp2 T.l_Move T.y_Move ⟨_, rfl, ?_⟩
  rw [if_pos rfl]
  refine ⟨_, _, _, hp, T.l_Move, T.n_Move__before, _, mf_b _ _, ?_⟩
  refine ⟨_, _, _, hp2, T.l_Move, T.n_Move__before, _, mf_b _ _, rfl, ?_⟩
  by_cases e : A' = C'
  · refine ifdT (trV_iff.mpr e) ?_
    refine ⟨_, _, _, hp, T.l_Move, T.n_Move__after, _, mf_a _ _, ?_⟩
    refine ⟨_, _, _, hp2, T.l_Move, T.n_Move__after, _, mf_a _ _, rfl, ?_⟩
    rw [show decide (trV B' = trV D') = decide (A' = C' ∧ B' = D') from decide_eq_decide.mpr ⟨fun z => ⟨e, trV_iff.mp z⟩, fun z => trV_iff.mpr z.2⟩]
    exact q
  · refine ifdF (fun z => e (trV_iff.mp z)) ?_
    rw [decide_eq_false (fun z : A' = C' ∧ B' = D' => e z.1)] at q
    exact q

theorem tr_chars : ∀ (t : Tr), ∀ c ∈ t.cs, c < 0x110000
  | .leaf, c, h => by
    have : c = 46 := by simpa [Tr.cs] using h
    omega
  | .node l r, c, h => by
    have h : c ∈ 40 :: (l.cs ++ r.cs ++ [41]) := by simpa [Tr.cs] using h
    simp only [List.mem_cons, List.mem_append, List.not_mem_nil, or_false] at h
    rcases h with h | (h | h) | h
    · omega
    · exact tr_chars l c h
    · exact tr_chars r c h
    · omega
theorem eqTsD : ∀ xs ys : List Tr, PyData.eqvAll (xs.map fun t => PyData.str (S t.cs)) (ys.map fun t => PyData.str (S t.cs)) = decide (xs = ys)
  | [], [] => by simp [PyData.eqvAll]
  | [], _ :: _ => by simp [PyData.eqvAll]
  | _ :: _, [] => by simp [PyData.eqvAll]
  | x :: xs, y :: ys => by
    have e : PyData.eqv (.str (S x.cs)) (.str (S y.cs)) = decide (x = y) := by
      simp only [PyData.eqv]
      by_cases h : x = y
      · subst h; simp
      · have : S x.cs ≠ S y.cs := fun z => h (Tr.cs_inj (S_inj z))
        simp [h, this]
    simp only [List.map_cons, PyData.eqvAll, e, eqTsD xs ys, List.cons.injEq]
    by_cases h1 : x = y <;> by_cases h2 : xs = ys <;> simp [h1, h2]
theorem eqTs {H : Hp} {a b : Addr} {xs ys : List Tr} {Q : VK} (ha : H a = some (.lst (xs.map trV))) (hb : H b = some (.lst (ys.map trV))) (q : Q (.bl (decide (xs = ys))) H) : rEqD K (.ref a) (.ref b) H Q := by
  have e : ∀ zs : List Tr, zs.map trV = (zs.map Tr.cs).map sV := fun zs => by rw [List.map_map]; rfl
  have lr : ∀ zs : List Tr, Lr (zs.map Tr.cs) := fun zs x hx => by
    obtain ⟨t, _, rfl⟩ := List.mem_map.mp hx
    exact tr_chars t
  have m : ∀ zs : List Tr, ((zs.map Tr.cs).map fun a => PyData.str (S a)) = zs.map fun t => PyData.str (S t.cs) := fun zs => by rw [List.map_map]; rfl
  rw [e] at ha hb
  refine ⟨.list ((xs.map Tr.cs).map fun a => PyData.str (S a)), .list ((ys.map Tr.cs).map fun a => PyData.str (S a)), .lst (SqL.of ha) (dpL _), .lst (SqL.of hb) (dpL _), shL (lr xs), shL (lr ys), ?_⟩
  rw [show PyData.eqv (.list ((xs.map Tr.cs).map fun a => PyData.str (S a))) (.list ((ys.map Tr.cs).map fun a => PyData.str (S a))) = decide (xs = ys) by simp only [PyData.eqv, m, eqTsD]]
  exact q
theorem eqTsN {H : Hp} {a : Addr} {xs : List Tr} {Q : VK} (ha : H a = some (.lst (xs.map trV))) (q : Q (.bl false) H) : rEqD K (.ref a) .non H Q := by
  have e : ∀ zs : List Tr, zs.map trV = (zs.map Tr.cs).map sV := fun zs => by rw [List.map_map]; rfl
  have lr : ∀ zs : List Tr, Lr (zs.map Tr.cs) := fun zs x hx => by
    obtain ⟨t, _, rfl⟩ := List.mem_map.mp hx
    exact tr_chars t
  rw [e] at ha
  refine ⟨.list ((xs.map Tr.cs).map fun a => PyData.str (S a)), .none, .lst (SqL.of ha) (dpL _), .non, shL (lr xs), by decide, ?_⟩
  rw [show PyData.eqv (.list ((xs.map Tr.cs).map fun a => PyData.str (S a))) .none = false by simp [PyData.eqv]]
  exact q

theorem ok_Move___le__ (T : Txt w K mg) : FnOk P w K mg base CX0 7 T.a_Move___le__ T.fd_Move___le__ ["self", "other"] (sp_Move___le__ T) := by
  refine T.F_Move___le__.ok sc_Move___le__ (fun vs H Q E h => ?_) (fun cdv A outer s H vs Q E hr h => ?_)
  · obtain ⟨_, _, _, _, _, _, rfl, _⟩ := h; rfl
  obtain ⟨v, u, A', B', C', D', rfl, ⟨ab, p, dx, rfl, hp⟩, ⟨cd, p2, dx2, rfl, hp2⟩, a1, c1, q⟩ := h
  have hru := hr.units
  refine ⟨_, (pss_cons (ps_if (pt_not (pt_val (pe_callB call_isi (by rfl) T.z_isinstance (by decide +kernel) (pa_cons (pv 1) (pa_cons (pe_glob (v := .ref T.c_Move) (by rfl) T.g_Move rfl) pa_nil))))) (pss_one ps_never) pss_nil)
    (pss_cons (ps_set (i := 2) sc_Move___le__.nd rfl (by first | exact Or.inl rfl | exact Or.inr rfl) (pe_call (ok_hung T) (hr.mono (by first | decide | omega)) (by rfl) T.m_hung T.F_hung.kp T.b_hung .nil passL (pa_cons (pe_fld (pv 0) rfl) (pa_cons (pe_fld (pv 1) rfl) pa_nil))))
    (pss_one (ps_ret (pe_and (pe_cmpR op_notN (pv 2) pe_non (nomark _)) (pe_one (pe_cmpR (op_eqD hru) (pv 2) (pe_call (ok_hung T) (hr.mono (by first | decide | omega)) (by rfl) T.m_hung T.F_hung.kp T.b_hung .nil passL (pa_cons (pe_fld (pv 0) rfl) (pa_cons (pe_fld (pv 1) rfl) pa_nil))) (nomark _)))))))), ?_⟩
  simp only [cxOf_K, tAsg2, tYes, wipe, tSeq, tIfS, tNot, tB, tCB, tCons, tNil, tVar, tC, tTest, tOp, tAnd, tOr, tAsg, gName, tRet, tRetN, tDrop, tNext, tIf, tCall, tTup, tLst, tNotV, tAndV, tOrV, tUn, rI0, rI, rU, rEq, rNe, tM1, tM0, tBM, tBM0, tSl, tPart, tNoPart, iStr, iEnumS, iRng1, iRng2, iList, gSub, tBits, tAug, tPar, L2.start, List.map_cons, List.map_nil, List.length_cons, List.length_nil, List.getElem?_cons_zero, List.getElem?_cons_succ, List.cons_append, List.nil_append, List.append_nil, List.set_cons_zero, List.set_cons_succ, List.replicate_succ, List.replicate_zero, Option.some.injEq, exists_eq_left', V.int.injEq, V.str.injEq, V.ref.injEq, V.bl.injEq, exists_and_left, exists_eq_left, List.cons.injEq, and_true, true_and, tCallX, tRs, tProp, OW.tSMeth, OW.tCallI, Nat.sub_self, List.replicate_zero, tFld, sFld, sFldAug, tDGet, tDIn, tDNotIn, sDPut, tMeth, tMake, tDNewK]
  refine OW.isi_own hp2 T.l_Move T.y_Move ⟨_, rfl, ?_⟩
  rw [if_neg (by decide)]
  refine ⟨_, _, _, hp, T.l_Move, T.n_Move__before, _, mf_b _ _, ?_⟩
  refine ⟨_, _, _, hp2, T.l_Move, T.n_Move__before, _, mf_b _ _, ?_⟩
  refine ⟨trV A', trV C', rfl, .inl ⟨A', rfl, a1, .inl ⟨C', rfl, c1, fun e H1 s1 => ?_, fun ts e l H1 n1 s1 h1 => ?_⟩⟩⟩
  · refine ifnF rfl ?_
    have := q H1 s1
    unfold leT at this
    rw [show Tr.hang (A', B').1 (C', D').1 = none from e] at this
    exact this
  · refine ifnT (fun z => by cases z) ?_
    refine ⟨_, _, _, s1 _ _ hp, T.l_Move, T.n_Move__after, _, mf_a _ _, ?_⟩
    refine ⟨_, _, _, s1 _ _ hp2, T.l_Move, T.n_Move__after, _, mf_a _ _, ?_⟩
    refine ⟨trV B', trV D', rfl, .inl ⟨B', rfl, by omega, .inl ⟨D', rfl, by omega, fun e2 H2 s2 => ?_, fun us e2 l2 H2 n2 s2 h2 => ?_⟩⟩⟩
    · refine eqTsN (s2 _ _ h1) ?_
      have := q H2 (s1.trans s2)
      unfold leT at this
      rw [show Tr.hang (A', B').1 (C', D').1 = some ts from e, show Tr.hang (A', B').2 (C', D').2 = none from e2] at this
      exact this
    · refine eqTs (s2 _ _ h1) h2 ?_
      have := q H2 (s1.trans s2)
      unfold leT at this
      rw [show Tr.hang (A', B').1 (C', D').1 = some ts from e, show Tr.hang (A', B').2 (C', D').2 = some us from e2] at this
      rw [show decide (ts = us) = ((some ts).isSome && decide (some ts = some us)) by simp]
      exact this

theorem ok_Move_after (T : Txt w K mg) : FnOk P w K mg base CX0 1 T.a_Move_after T.fd_Move_after ["self"] (sp_Move_after T) := by
  refine T.F_Move_after.ok sc_Move_after (fun vs H Q E h => ?_) (fun cdv A outer s H vs Q E hr h => ?_)
  · obtain ⟨_, _, _, rfl, _⟩ := h; rfl
  obtain ⟨v, A', B', rfl, ⟨ab, p, dx, rfl, hp⟩, q⟩ := h
  refine ⟨_, (pss_one (ps_ret (pe_fld (pv 0) rfl))), ?_⟩
  simp only [cxOf_K, tAsg2, tYes, wipe, tSeq, tIfS, tNot, tB, tCB, tCons, tNil, tVar, tC, tTest, tOp, tAnd, tOr, tAsg, gName, tRet, tRetN, tDrop, tNext, tIf, tCall, tTup, tLst, tNotV, tAndV, tOrV, tUn, rI0, rI, rU, rEq, rNe, tM1, tM0, tBM, tBM0, tSl, tPart, tNoPart, iStr, iEnumS, iRng1, iRng2, iList, gSub, tBits, tAug, tPar, L2.start, List.map_cons, List.map_nil, List.length_cons, List.length_nil, List.getElem?_cons_zero, List.getElem?_cons_succ, List.cons_append, List.nil_append, List.append_nil, List.set_cons_zero, List.set_cons_succ, List.replicate_succ, List.replicate_zero, Option.some.injEq, exists_eq_left', V.int.injEq, V.str.injEq, V.ref.injEq, V.bl.injEq, exists_and_left, exists_eq_left, List.cons.injEq, and_true, true_and, tCallX, tRs, tProp, OW.tSMeth, OW.tCallI, Nat.sub_self, List.replicate_zero, tFld, sFld, sFldAug, tDGet, tDIn, tDNotIn, sDPut, tMeth, tMake, tDNewK]
  exact ⟨_, _, _, hp, T.l_Move, T.n_Move__after, _, mf_a _ _, q⟩

theorem Mv.bef (T : Txt w K mg) {H : Hp} {v : V} {A B : Tr} {Q : VK} {E : XK} (m : Mv T.c_Move H v A B) (q : Q (trV A) H) : ∃ a, v = V.ref a ∧ ∃ x y, H a = some (.ins T.c_Move x y) ∧ sp_Move_before T [.ref a] H Q E := by
  have m' := m
  obtain ⟨ab, p, dx, rfl, h⟩ := m'
  exact ⟨p, rfl, _, _, h, _, A, B, rfl, m, q⟩
theorem Mv.aft (T : Txt w K mg) {H : Hp} {v : V} {A B : Tr} {Q : VK} {E : XK} (m : Mv T.c_Move H v A B) (q : Q (trV B) H) : ∃ a, v = V.ref a ∧ ∃ x y, H a = some (.ins T.c_Move x y) ∧ sp_Move_after T [.ref a] H Q E := by
  have m' := m
  obtain ⟨ab, p, dx, rfl, h⟩ := m'
  exact ⟨p, rfl, _, _, h, _, A, B, rfl, m, q⟩
theorem Mv.keep {C : Addr} {H H' : Hp} {v : V} {A B : Tr} {g : Addr} {ws : List V} (m : Mv C H v A B) (hg : H g = some (.lst ws)) (k : Keep g H H') : Mv C H' v A B := by
  obtain ⟨ab, p, dx, e, h⟩ := m
  exact ⟨ab, p, dx, e, k _ _ (ne_of h hg fun z => by cases z) h⟩
theorem keepU {p : Addr} {H : Hp} {o : HO} : Keep p H (upd H p o) := fun b u hb hu => by rw [upd_ne hb]; exact hu
theorem genL {H : Hp} {g : Addr} {n : Nat} (h : GenAt H g n) : ∃ ws : List V, H g = some (HO.lst ws) := by
  obtain ⟨a, b, c, h, _⟩ := h
  exact ⟨_, h⟩
theorem Mv.lvs {C : Addr} {H : Hp} {v : V} {A B : Tr} (m : Mv C H v A B) : A.lvs = B.lvs := by
  have := m.1
  have := Tr.lvs_size A
  have := Tr.lvs_size B
  omega

/-! one step with moves each -/
section
variable {H : Hp} {x y : V} {A B C D : Tr} {Q : VK} {E : XK}
theorem Mv.eq {c : Addr} {p : Tr × Tr} (m : Mv c H x p.1 p.2) (e : p = (A, B)) : Mv c H x A B := by subst e; exact m
theorem mulS (T : Txt w K mg) (m1 : Mv T.c_Move H x A B) (m2 : Mv T.c_Move H y C D) (a : A.size ≤ 1000) (c : C.size ≤ 1000) (q : ∀ p H', H p = none → Same H H' → Mv T.c_Move H' (.ref p) (mulT (A, B) (C, D)).1 (mulT (A, B) (C, D)).2 → Q (.ref p) H') : OW.rOwn2 T.c_Move (sp_Move___mul__ T) E x y H Q :=
  ⟨m1.isc, m2.isc, x, y, A, B, C, D, rfl, m1, m2, a, c, q⟩
theorem invS (T : Txt w K mg) (m1 : Mv T.c_Move H x A B) (a : A.size ≤ 1000) (q : ∀ p H', H p = none → Same H H' → Mv T.c_Move H' (.ref p) B A → Q (.ref p) H') : OW.IsC H T.c_Move x ∧ sp_Move___invert__ T [x] H Q E :=
  ⟨m1.isc, x, A, B, rfl, m1, a, q⟩
/-- x != y, which are equal -/
theorem neS (T : Txt w K mg) (m1 : Mv T.c_Move H x A B) (m2 : Mv T.c_Move H y A B) (q : Q (.bl false) H) : OW.rOwnNe T.c_Move (sp_Move___eq__ T) E x y H Q :=
  ⟨m1.isc, m2.isc, x, y, A, B, A, B, rfl, m1, m2, true, by simp, q⟩
/-- x == y, which are equal -/
theorem eqS (T : Txt w K mg) (m1 : Mv T.c_Move H x A B) (m2 : Mv T.c_Move H y A B) (q : Q (.bl true) H) : OW.rOwn2 T.c_Move (sp_Move___eq__ T) E x y H Q :=
  ⟨m1.isc, m2.isc, x, y, A, B, A, B, rfl, m1, m2, by simpa using q⟩
theorem leS (T : Txt w K mg) (m1 : Mv T.c_Move H x A B) (m2 : Mv T.c_Move H y C D) (a : A.size ≤ 2000) (c : C.size ≤ 2000) (l : leT (A, B) (C, D) = true) (q : ∀ H', Same H H' → Q (.bl true) H') : OW.rOwn2 T.c_Move (sp_Move___le__ T) E x y H Q :=
  ⟨m1.isc, m2.isc, x, y, A, B, C, D, rfl, m1, m2, a, c, l ▸ q⟩
end
theorem make_mv3 (T : Txt w K mg) {H : Hp} {Q : Addr → Hp → Prop} {E : XK} {A B : Tr} (hA : A.size ≤ 2000) (e : A.size = B.size) (q : ∀ p H', H p = none → Same H H' → Mv T.c_Move H' (.ref p) A B → Q p H') : ∀ x dx, H x = none → H dx = none → dx ≠ x → sp_Move___init__ T [.ref x, trV A, trV B] (upd (upd H dx (.own x)) x (.ins T.c_Move dx [])) (fun v H2 => v = .non ∧ Q x H2) E := by
  intro x dx nx ndx nex
  have s0 : Same H (upd (upd H dx (.own x)) x (.ins T.c_Move dx [])) := ((L2.Same.refl H).new ndx _).new nx _
  refine ⟨H, x, dx, trV A, trV B, rfl, s0, nx, upd_same, .inl ⟨A, rfl, hA, .inl ⟨B, rfl, by omega, fun _ H' s h => ⟨rfl, q x H' nx s ⟨e, x, dx, rfl, h⟩⟩, fun n => absurd e n⟩⟩⟩

theorem ok_is_whole (T : Txt w K mg) : FnOk P w K mg base CX0 1 T.a_is_whole T.fd_is_whole ["value"] (sp_is_whole K) := by
  refine T.F_is_whole.ok sc_is_whole (fun vs H Q E h => ?_) (fun cdv A outer s H vs Q E hr h => ?_)
  · obtain ⟨v, rfl, _⟩ := h; rfl
  obtain ⟨v, rfl, h⟩ := h
  refine ⟨_, (pss_one (ps_ret (pe_and (pe_callB call_isi (by rfl) T.z_isinstance (by decide +kernel) (pa_cons (pv 0) (pa_cons (pe_bltn (v := .ty "int") (by rfl) T.z_int (by decide +kernel) rfl) pa_nil))) (pe_one (pe_not (pe_callB call_isi (by rfl) T.z_isinstance (by decide +kernel) (pa_cons (pv 0) (pa_cons (pe_bltn (v := .ty "bool") (by rfl) T.z_bool (by decide +kernel) rfl) pa_nil)))))))), ?_⟩
  simp only [cxOf_K, tAsg2, tYes, wipe, tSeq, tIfS, tNot, tB, tCB, tCons, tNil, tVar, tC, tTest, tOp, tAnd, tOr, tAsg, gName, tRet, tRetN, tDrop, tNext, tIf, tCall, tTup, tLst, tNotV, tAndV, tOrV, tUn, rI0, rI, rU, rEq, rNe, tM1, tM0, tBM, tBM0, tSl, tPart, tNoPart, iStr, iEnumS, iRng1, iRng2, iList, gSub, tBits, tAug, tPar, L2.start, List.map_cons, List.map_nil, List.length_cons, List.length_nil, List.getElem?_cons_zero, List.getElem?_cons_succ, List.cons_append, List.nil_append, List.append_nil, List.set_cons_zero, List.set_cons_succ, List.replicate_succ, List.replicate_zero, Option.some.injEq, exists_eq_left', V.int.injEq, V.str.injEq, V.ref.injEq, V.bl.injEq, exists_and_left, exists_eq_left, List.cons.injEq, and_true, true_and, tCallX, tRs]
  rcases h with ⟨i, rfl, q⟩ | ⟨b, rfl, q⟩ | ⟨⟨ty, h1, h2⟩, q⟩
  · refine ⟨_, _, _, _, true, rfl, .ty _, .base (.int _), kit_ty (by decide +kernel), true, rfl, ?_⟩
    rw [if_pos rfl]
    exact ⟨_, _, _, _, false, rfl, .ty _, .base (.int _), kit_ty (by decide +kernel), false, rfl, q⟩
  · refine ⟨_, _, _, _, true, rfl, .ty _, .base (.bl _), kit_ty (by decide +kernel), true, rfl, ?_⟩
    rw [if_pos rfl]
    exact ⟨_, _, _, _, true, rfl, .ty _, .base (.bl _), kit_ty (by decide +kernel), true, rfl, q⟩
  · refine ⟨v, _, ty, _, false, rfl, .ty _, h1, h2, false, rfl, ?_⟩
    rw [if_neg (by decide)]
    exact q

theorem ok_check_whole (T : Txt w K mg) : FnOk P w K mg base (L2.CX P w) 3 T.a_check_whole T.fd_check_whole ["value"] (sp_check_whole T) := by
  refine T.F_check_whole.okX sc_check_whole (fun vs H Q E h => ?_) (fun cdv A outer s H vs Q E hr h => ?_)
  · obtain ⟨v, rfl, _⟩ := h; rfl
  obtain ⟨v, rfl, h⟩ := h
  refine ⟨_, (pss_one (ps_if (pt_not (pt_val (pe_call (ok_is_whole T) (hr.mono (by first | decide | omega)) (by rfl) T.m_is_whole T.F_is_whole.kp T.b_is_whole .nil pass0 (pa_cons (pv 0) pa_nil)))) (pss_one (ps_raise rfl (takes_of rfl rfl rfl rfl) (pmk_err T.o_InvalidNumber (hr.mono (by first | decide | omega)) (by rfl) (pv 0)))) pss_nil)), ?_⟩
  simp only [cxOf_K, tAsg2, tYes, wipe, tSeq, tIfS, tNot, tB, tCB, tCons, tNil, tVar, tC, tTest, tOp, tAnd, tOr, tAsg, gName, tRet, tRetN, tDrop, tNext, tIf, tCall, tTup, tLst, tNotV, tAndV, tOrV, tUn, rI0, rI, rU, rEq, rNe, tM1, tM0, tBM, tBM0, tSl, tPart, tNoPart, iStr, iEnumS, iRng1, iRng2, iList, gSub, tBits, tAug, tPar, L2.start, List.map_cons, List.map_nil, List.length_cons, List.length_nil, List.getElem?_cons_zero, List.getElem?_cons_succ, List.cons_append, List.nil_append, List.append_nil, List.set_cons_zero, List.set_cons_succ, List.replicate_succ, List.replicate_zero, Option.some.injEq, exists_eq_left', V.int.injEq, V.str.injEq, V.ref.injEq, V.bl.injEq, exists_and_left, exists_eq_left, List.cons.injEq, and_true, true_and, tCallX, tRs]
  rcases h with ⟨i, rfl, q⟩ | ⟨nw, out⟩
  · refine ⟨_, rfl, .inl ⟨i, rfl, true, rfl, ?_⟩⟩
    rw [if_neg (by decide)]
    exact q
  · rcases nw with ⟨b, rfl⟩ | n
    · refine ⟨_, rfl, .inr (.inl ⟨b, rfl, false, rfl, ?_⟩)⟩
      rw [if_pos (by decide)]
      exact out
    · refine ⟨v, rfl, .inr (.inr ⟨n, false, rfl, ?_⟩)⟩
      rw [if_pos (by decide)]
      exact out

theorem pow_ok {A B : Tr} (h : A.lvs = B.lvs) : ∀ n : Nat, (powT (A, B) n).1.lvs = (powT (A, B) n).2.lvs ∧ (powT (A, B) n).1.size ≤ n * A.size
  | 0 => ⟨rfl, Nat.zero_le _⟩
  | n + 1 => by
    obtain ⟨h1, h2⟩ := pow_ok h n
    have m := mul_lvs (A := (powT (A, B) n).1) (B := (powT (A, B) n).2) h1 h
    have b := (mul_bounds (A := (powT (A, B) n).1) (B := (powT (A, B) n).2) h1 h).1
    refine ⟨m, Nat.le_trans b ?_⟩
    rw [Nat.add_mul, Nat.one_mul]; omega
theorem pow_add {A B : Tr} (h : A.lvs = B.lvs) (m : Nat) : ∀ n : Nat, mulT (powT (A, B) m) (powT (A, B) n) = powT (A, B) (m + n)
  | 0 => mul_leaf _ _ (pow_ok h m).1
  | n + 1 => by
    have e : mulT (powT (A, B) m) (mulT (powT (A, B) n) (A, B)) = mulT (mulT (powT (A, B) m) (powT (A, B) n)) (A, B) :=
      (mul_assoc (A := (powT (A, B) m).1) (B := (powT (A, B) m).2) (C := (powT (A, B) n).1) (D := (powT (A, B) n).2) (pow_ok h m).1 (pow_ok h n).1 h).symm
    show mulT _ (mulT _ _) = mulT (powT (A, B) (m + n)) (A, B)
    rw [e, pow_add h m n]
theorem pow_same (A : Tr) : ∀ n : Nat, 0 < n → powT (A, A) n = (A, A)
  | 1, _ => leaf_mul A A rfl
  | n + 2, _ => by
    show mulT (powT (A, A) (n + 1)) (A, A) = _
    rw [pow_same A (n + 1) (Nat.succ_pos n)]
    exact mul_mid A A A rfl rfl
theorem pow_one {A B : Tr} (h : A.lvs = B.lvs) : powT (A, B) 1 = (A, B) := leaf_mul A B h
theorem ok_Move_times (T : Txt w K mg) : FnOk P w K mg base (L2.CX P w) 13 T.a_Move_times T.fd_Move_times ["self", "count"] (sp_Move_times T) := by
  refine T.F_Move_times.okX sc_Move_times (fun vs H Q E h => ?_) (fun cdv A outer s H vs Q E hr h => ?_)
  · obtain ⟨_, _, _, _, rfl, _⟩ := h; rfl
  obtain ⟨v, u, A', B', rfl, m, aS, h⟩ := h
  refine ⟨_, (pss_cons (ps_expr (pe_callX (ok_check_whole T) (takes_of rfl rfl rfl rfl) (hr.mono (by first | decide | omega)) (by rfl) T.m_check_whole T.F_check_whole.kp T.b_check_whole .nil (pa_cons (pv 1) pa_nil)))
    (pss_cons (ps_if (pw_and (pt_cmpR op_ne (pv 1) pe_int (nomark _)) (pw_and1 (pt_cmpR op_eq (pe_fld (pv 0) rfl) (pe_fld (pv 0) rfl) (nomark _)))).pt (pss_one (ps_ret (pe_make T.k_Move (ok_Move___init__ T) (hr.mono (by first | decide | omega)) (by rfl) T.g_Move T.b_Move___init__ .nil passL (pa_cons (pe_fld (pv 0) rfl) (pa_cons (pe_fld (pv 0) rfl) pa_nil))))) pss_nil)
    (pss_cons (ps_set (i := 2) sc_Move_times.nd rfl (by first | exact Or.inl rfl | exact Or.inr rfl) (pe_ifExp (pt_cmpR op_gt (pv 1) pe_int (nomark _)) (pv 0) (pe_un (OW.un_inv1 T.o_Move___invert__ (ok_Move___invert__ T) (hr.mono (by first | decide | omega)) T.b_Move___invert__ pass0) (pv 0))))
    (pss_cons (ps_set (i := 3) sc_Move_times.nd rfl (by first | exact Or.inl rfl | exact Or.inr rfl) (pe_make T.k_Move (ok_Move___init__ T) (hr.mono (by first | decide | omega)) (by rfl) T.g_Move T.b_Move___init__ .nil passL (pa_cons pe_str (pa_cons pe_str pa_nil))))
    (pss_cons (ps_for (passes_of rfl) rfl (pi_revR (by rfl) T.z_reversed (prg_1 (by rfl) T.z_range (pe_bits (pv 1)))) (pg_name (i := 4) sc_Move_times.nd rfl (by first | exact Or.inl rfl | exact Or.inr rfl)) (pss_cons (ps_set (i := 3) sc_Move_times.nd rfl (by first | exact Or.inl rfl | exact Or.inr rfl) (pe_op (OW.op_own2 T.sf_Move T.o_Move___mul__ (ok_Move___mul__ T) (hr.mono (by first | decide | omega)) T.b_Move___mul__ pass0) (pv 3) (pv 3)))
    (pss_one (ps_if (pt_truth (pe_op op_odd (pe_op op_shrN (pe_callB call_abs (by rfl) T.z_abs (by decide +kernel) (pa_cons (pv 1) pa_nil)) (pv 4)) pe_int) (fun _ => rfl)) (pss_one (ps_set (i := 3) sc_Move_times.nd rfl (by first | exact Or.inl rfl | exact Or.inr rfl) (pe_op (OW.op_own2 T.sf_Move T.o_Move___mul__ (ok_Move___mul__ T) (hr.mono (by first | decide | omega)) T.b_Move___mul__ pass0) (pv 3) (pv 2)))) pss_nil))))
    (pss_one (ps_ret (pv 3)))))))), ?_⟩
  simp only [cxOf_K, tAsg2, tYes, wipe, tSeq, tIfS, tNot, tB, tCB, tCons, tNil, tVar, tC, tTest, tOp, tAnd, tOr, tAsg, gName, tRet, tRetN, tDrop, tNext, tIf, tCall, tTup, tLst, tNotV, tAndV, tOrV, tUn, rI0, rI, rU, rEq, rNe, tM1, tM0, tBM, tBM0, tSl, tPart, tNoPart, iStr, iEnumS, iRng1, iRng2, iList, gSub, tBits, tAug, tPar, L2.start, List.map_cons, List.map_nil, List.length_cons, List.length_nil, List.getElem?_cons_zero, List.getElem?_cons_succ, List.cons_append, List.nil_append, List.append_nil, List.set_cons_zero, List.set_cons_succ, List.replicate_succ, List.replicate_zero, Option.some.injEq, exists_eq_left', V.int.injEq, V.str.injEq, V.ref.injEq, V.bl.injEq, exists_and_left, exists_eq_left, List.cons.injEq, and_true, true_and, tCallX, tRs, tProp, OW.tSMeth, OW.tCallI, Nat.sub_self, List.replicate_zero, tFld, sFld, sFldAug, tDGet, tDIn, tDNotIn, sDPut, tMeth, tMake, tDNewK]
  rcases h with ⟨i, rfl, hs, q⟩ | o
  case inr => exact ⟨u, rfl, .inr o⟩
  have lv := m.lvs
  have zz := m.1
  obtain ⟨p0, dx0, ev, hp⟩ := m.2
  refine' cutRt (C := fun w' H' => (i = 0 ∨ A' ≠ B') ∧ Same H H' ∧ ∃ X Y : Tr, Mv T.c_Move H' w' X Y ∧ (X, Y) = (if 0 < i then (A', B') else (B', A'))) _ _
  rotate_left
  · intro key
    refine ⟨_, rfl, .inl ⟨i, rfl, ?_⟩⟩
    refine ⟨rfl, ?_⟩
    refine' cutPt (c := i = 0 ∨ A' ≠ B') _ _
    rotate_left
    · intro step
      by_cases hz : i = 0
      · rw [if_neg (by simp [hz])]
        exact step (.inl hz)
      · rw [if_pos (by simp [hz])]
        refine ⟨p0, ev, _, _, _, hp, T.l_Move, T.n_Move__before, _, mf_b _ _, p0, ev, _, _, _, hp, T.l_Move, T.n_Move__after, _, mf_a _ _, rfl, ?_⟩
        by_cases he : A' = B'
        · rw [if_pos (by rw [he]; simp)]
          refine ⟨p0, ev, _, _, _, hp, T.l_Move, T.n_Move__before, _, mf_b _ _, p0, ev, _, _, _, hp, T.l_Move, T.n_Move__after, _, mf_a _ _, ?_⟩
          refine make_mv T (by omega) zz ?_
          subst he
          have e : powT (if 0 < i then (A', A') else (A', A')) i.natAbs = (A', A') := by rw [ite_self]; exact pow_same A' _ (by omega)
          rw [e] at q
          exact q
        · rw [if_neg (by simpa using fun z => he (Tr.cs_inj (S_inj (V.str.inj z))))]
          exact step (.inr he)
    · intro c0
      by_cases hp' : ¬ 0 < i
      · refine ⟨i, rfl, ifdF hp' ⟨m.isc, v, A', B', rfl, m, by omega, fun p1 H1 n1 s1 m1 => ?_⟩⟩
        generalize hw : V.ref p1 = w' at m1 ⊢
        exact key w' H1 ⟨c0, s1, B', A', m1, by rw [if_neg hp']⟩
      · have hp' : 0 < i := Decidable.not_not.mp hp'
        refine ⟨i, rfl, ifdT hp' ?_⟩
        exact key v H ⟨c0, L2.Same.refl H, A', B', m, by rw [if_pos hp']⟩
  · rintro w' H1 ⟨c0, s1, X, Y, m1, eXY⟩
    rw [← eXY] at q
    have xl := m1.lvs
    have xs : i.natAbs * X.size ≤ 1000 ∧ i.natAbs ≤ 500 := by
      have e : X.size = A'.size := by
        by_cases hp' : 0 < i
        · rw [if_pos hp'] at eXY; cases eXY; rfl
        · rw [if_neg hp'] at eXY; cases eXY; exact zz.symm
      rw [e]
      rcases c0 with rfl | ne
      · simp
      · exact (hs.resolve_left ne).symm
    obtain ⟨xs, hi⟩ := xs
    have pw : ∀ k, k ≤ i.natAbs → (powT (X, Y) k).1.size ≤ 1000 := fun k hk => Nat.le_trans (pow_ok xl k).2 (Nat.le_trans (Nat.mul_le_mul_right _ hk) xs)
    have xs1 : 0 < i.natAbs → X.size ≤ 1000 := fun h => Nat.le_trans (by have := Nat.mul_le_mul_right X.size h; rw [Nat.one_mul] at this; exact this) xs
    have hN := bits_lt i
    have hN9 := bits_le (i := i) (n := 9) (by omega)
    obtain ⟨N, eN⟩ : ∃ N, N = PySem.Builtin.Int.intBits i := ⟨_, rfl⟩
    rw [← eN] at hN hN9
    refine make_mv3 T (A := .leaf) (B := .leaf) (by decide) rfl fun pd H2 n2 s2 m2 => ?_
    have tN : ((N : Int) - 0).toNat = N := by omega
    refine ⟨_, rfl, i, rfl, (N : Int), by rw [eN], by decide, by decide, by omega, by omega, for_rangeC (lo := 0 + ((((N : Int) - 0).toNat : Nat) : Int) - 1) (c := -1) (n := ((N : Int) - 0).toNat) (fun j σ H' => ∃ pz a4, σ = [some v, some (.int i), some w', some (V.ref pz), a4] ∧ H1 pz = none ∧ Same H1 H' ∧ Mv T.c_Move H' (.ref pz) (powT (X, Y) (i.natAbs / 2 ^ (N - j))).1 (powT (X, Y) (i.natAbs / 2 ^ (N - j))).2)
      ⟨_, _, rfl, n2, s2, by rw [Nat.sub_zero, Nat.div_eq_of_lt hN]; exact m2⟩ ?_ ?_⟩
    · rintro j σ H3 hj ⟨pz, a4, rfl, nz, s3, m3⟩
      rw [tN] at hj
      have ho := half_step i.natAbs (N - (j + 1))
      rw [show N - (j + 1) + 1 = N - j by omega] at ho
      have hle : i.natAbs / 2 ^ (N - j) ≤ i.natAbs := Nat.div_le_self _ _
      have hle2 : i.natAbs / 2 ^ (N - (j + 1)) ≤ i.natAbs := Nat.div_le_self _ _
      generalize hm : i.natAbs / 2 ^ (N - j) = k at m3 ho hle
      simp only [cxOf_K, tAsg2, tYes, wipe, tSeq, tIfS, tNot, tB, tCB, tCons, tNil, tVar, tC, tTest, tOp, tAnd, tOr, tAsg, gName, tRet, tRetN, tDrop, tNext, tIf, tCall, tTup, tLst, tNotV, tAndV, tOrV, tUn, rI0, rI, rU, rEq, rNe, tM1, tM0, tBM, tBM0, tSl, tPart, tNoPart, iStr, iEnumS, iRng1, iRng2, iList, gSub, tBits, tAug, tPar, L2.start, List.map_cons, List.map_nil, List.length_cons, List.length_nil, List.getElem?_cons_zero, List.getElem?_cons_succ, List.cons_append, List.nil_append, List.append_nil, List.set_cons_zero, List.set_cons_succ, List.replicate_succ, List.replicate_zero, Option.some.injEq, exists_eq_left', V.int.injEq, V.str.injEq, V.ref.injEq, V.bl.injEq, exists_and_left, exists_eq_left, List.cons.injEq, and_true, true_and, tCallX, tRs, tProp, OW.tSMeth, OW.tCallI, Nat.sub_self, List.replicate_zero, tFld, sFld, sFldAug, tDGet, tDIn, tDNotIn, sDPut, tMeth, tMake, tDNewK]
      refine mulS T m3 m3 (pw k hle) (pw k hle) fun p4 H4 n4 s4 m4 => ?_
      have m4 := m4.eq (pow_add xl k k)
      have n4 := s3.free n4
      have s4 := s3.trans s4
      refine ⟨N - (j + 1), by omega, i.natAbs / 2 ^ (N - (j + 1)), ?_, ?_⟩
      · have e : (if i < 0 then -i else i) = ((i.natAbs : Nat) : Int) := by split <;> omega
        rw [e]
        exact (Int.natCast_ediv _ _).symm.trans (by simp) |>.symm
      generalize i.natAbs / 2 ^ (N - (j + 1)) = k2 at ho hle2 ⊢
      refine ⟨_, rfl, ?_⟩
      by_cases hb : k2 % 2 = 1
      · rw [if_pos (by rw [hb]; decide)]
        refine mulS T m4 (m1.same s4) (pw _ (by omega)) (xs1 (by omega)) fun p5 H5 n5 s5 m5 => ⟨p5, _, ⟨rfl, rfl⟩, s4.free n5, s4.trans s5, ?_⟩
        have e : k2 = k + k + 1 := by omega
        rw [e]
        exact m5
      · have hb : k2 % 2 = 0 := by omega
        rw [if_neg (by rw [hb]; decide)]
        have e : k2 = k + k := by omega
        rw [e]
        exact ⟨p4, _, ⟨rfl, rfl⟩, n4, s4, m4⟩
    · rintro σ H3 ⟨pz, a4, rfl, nz, s3, m3⟩
      rw [tN, Nat.sub_self, Nat.pow_zero, Nat.div_one] at m3
      simp only [cxOf_K, tAsg2, tYes, wipe, tSeq, tIfS, tNot, tB, tCB, tCons, tNil, tVar, tC, tTest, tOp, tAnd, tOr, tAsg, gName, tRet, tRetN, tDrop, tNext, tIf, tCall, tTup, tLst, tNotV, tAndV, tOrV, tUn, rI0, rI, rU, rEq, rNe, tM1, tM0, tBM, tBM0, tSl, tPart, tNoPart, iStr, iEnumS, iRng1, iRng2, iList, gSub, tBits, tAug, tPar, L2.start, List.map_cons, List.map_nil, List.length_cons, List.length_nil, List.getElem?_cons_zero, List.getElem?_cons_succ, List.cons_append, List.nil_append, List.append_nil, List.set_cons_zero, List.set_cons_succ, List.replicate_succ, List.replicate_zero, Option.some.injEq, exists_eq_left', V.int.injEq, V.str.injEq, V.ref.injEq, V.bl.injEq, exists_and_left, exists_eq_left, List.cons.injEq, and_true, true_and, tCallX, tRs, tProp, OW.tSMeth, OW.tCallI, Nat.sub_self, List.replicate_zero, tFld, sFld, sFldAug, tDGet, tDIn, tDNotIn, sDPut, tMeth, tMake, tDNewK]
      exact q pz H3 (s1.free nz) (s1.trans s3) m3
theorem mf_times (A B : Tr) : List.lookup (Str.ofString "times") (mf A B) = none := by
  unfold mf
  rw [List.lookup_cons, show (Str.ofString "times" == Str.ofString "_before") = false by decide +kernel]
  show List.lookup (Str.ofString "times") [(Str.ofString "_after", trV B)] = none
  rw [List.lookup_cons, show (Str.ofString "times" == Str.ofString "_after") = false by decide +kernel]
  rfl
theorem timS (T : Txt w K mg) {H : Hp} {x : V} {A B : Tr} {Q : VK} {E : XK} {i : Int} (m : Mv T.c_Move H x A B) (a1 : A.size ≤ 1000) (hs : A = B ∨ i.natAbs ≤ 500 ∧ i.natAbs * A.size ≤ 1000) (q : ∀ p H', H p = none → Same H H' → Mv T.c_Move H' (.ref p) (powT (if 0 < i then (A, B) else (B, A)) i.natAbs).1 (powT (if 0 < i then (A, B) else (B, A)) i.natAbs).2 → Q (.ref p) H') :
    ∃ r, x = V.ref r ∧ ∃ y z, H r = some (.ins T.c_Move y z) ∧ List.lookup (Str.ofString "times") z = none ∧ sp_Move_times T [x, .int i] H Q E := by
  obtain ⟨e, p, dx, rfl, hp⟩ := m
  exact ⟨p, rfl, dx, _, hp, mf_times A B, _, _, A, B, rfl, ⟨e, p, dx, rfl, hp⟩, a1, .inl ⟨i, rfl, hs, q⟩⟩

/-! growing does not change the widest move -/
theorem bes_lr (c d : List Nat) : Bes (c ++ [108], d ++ [108]) (c ++ [114], d ++ [114]) := ⟨lb_snoc c, lb_snoc d⟩
theorem lb_l (c : List Nat) : lb (c ++ [108]) = none := by unfold lb; simp
theorem push_l (st : List AP) (c d : List Nat) : pushP st (c ++ [108], d ++ [108]) = (c ++ [108], d ++ [108]) :: st := by
  cases st with
  | nil => rfl
  | cons q st =>
    unfold pushP
    rw [if_neg (fun z => by have := z.1; rw [show lb (c ++ [108]) = none from lb_l c] at this; cases this)]
theorem push_tree : ∀ (x : Tr) (st : List AP) (c d : List Nat), (List.zip (x.lvA c) (x.lvA d)).foldl pushP st = pushP st (c, d)
  | .leaf, st, c, d => rfl
  | .node l r, st, c, d => by
    show (List.zip (l.lvA (c ++ [108]) ++ r.lvA (c ++ [114])) (l.lvA (d ++ [108]) ++ r.lvA (d ++ [114]))).foldl pushP st = _
    rw [List.zip_append (by rw [Tr.lvA_length, Tr.lvA_length]), List.foldl_append, push_tree l, push_tree r, push_l]
    show (if Bes (c ++ [108], d ++ [108]) (c ++ [114], d ++ [114]) then pushP st ((c ++ [114]).dropLast, (d ++ [114]).dropLast) else _) = _
    rw [if_pos (bes_lr c d)]
    simp
/-- the leaves of a grown tree -/
theorem lvA_grow : ∀ (t : Tr) (a : List Nat) (xs : List Tr), xs.length = t.lvs → (t.grow xs).lvA a = (List.zipWith (fun x c => x.lvA c) xs (t.lvA a)).flatten
  | .leaf, a, xs, h => by
    obtain ⟨y, rfl⟩ := List.length_eq_one_iff.mp h
    rw [grow_leaf1]
    simp [Tr.lvA]
  | .node l r, a, xs, h => by
    obtain ⟨ys, zs, rfl, h1, h2⟩ := split_len h
    rw [grow_node l r ys zs h1 h2]
    show (l.grow ys).lvA _ ++ (r.grow zs).lvA _ = (List.zipWith _ (ys ++ zs) (l.lvA (a ++ [108]) ++ r.lvA (a ++ [114]))).flatten
    rw [List.zipWith_append (by rw [Tr.lvA_length]; exact h1), List.flatten_append, lvA_grow l _ ys h1, lvA_grow r _ zs h2]
theorem push_trees : ∀ (xs : List Tr) (cs ds : List (List Nat)) (st : List AP), xs.length = cs.length → cs.length = ds.length →
    (List.zip (List.zipWith (fun x c => x.lvA c) xs cs).flatten (List.zipWith (fun x c => x.lvA c) xs ds).flatten).foldl pushP st = (List.zip cs ds).foldl pushP st
  | [], cs, ds, st, h1, h2 => by
    have e1 : cs = [] := List.length_eq_zero_iff.mp h1.symm
    subst e1
    have e2 : ds = [] := List.length_eq_zero_iff.mp h2.symm
    subst e2
    rfl
  | x :: xs, [], ds, st, h1, h2 => by simp at h1
  | x :: xs, c :: cs, [], st, h1, h2 => by simp at h2
  | x :: xs, c :: cs, d :: ds, st, h1, h2 => by
    simp only [List.zipWith_cons_cons, List.flatten_cons, List.zip_cons_cons, List.foldl_cons]
    rw [List.zip_append (by rw [Tr.lvA_length, Tr.lvA_length]), List.foldl_append, push_tree, push_trees xs cs ds _ (by simpa using h1) (by simpa using h2)]
theorem prd_gr {A B C D : Tr} (g : Gr A B C D) : prd A B = prd C D := by
  obtain ⟨xs, h1, h2, rfl, rfl⟩ := g
  unfold prd prdR zipA
  rw [lvA_grow C _ xs h1, lvA_grow D _ xs (h1.trans h2), push_trees xs _ _ _ (by rw [Tr.lvA_length]; exact h1) (by rw [Tr.lvA_length, Tr.lvA_length]; exact h2)]
theorem wdT_uniq {A B C D : Tr} (h1 : A.lvs = B.lvs) (h2 : C.lvs = D.lvs) (h : prd A B = prd C D) : wdT A B = wdT C D := by
  obtain ⟨e1, e2, _⟩ := wdT_of h1
  obtain ⟨f1, f2, _⟩ := wdT_of h2
  rw [h] at e1 e2
  exact Prod.ext (lvA_inj _ _ [] (e1.symm.trans f1)) (lvA_inj _ _ [] (e2.symm.trans f2))
theorem wdT_gr {A B C D : Tr} (g : Gr A B C D) : wdT A B = wdT C D := wdT_uniq g.lvs (by obtain ⟨_, _, h, _⟩ := g; exact h) (prd_gr g)
theorem wdT_Gr {A B : Tr} (h : A.lvs = B.lvs) : Gr A B (wdT A B).1 (wdT A B).2 := (wdT_of h).2.2
theorem leT_Gr {A B C D : Tr} (h : C.lvs = D.lvs) : leT (A, B) (C, D) = true ↔ Gr A B C D := by
  constructor
  · intro l
    obtain ⟨xs, e1, e2⟩ := leT_iff.mp l
    exact ⟨xs, Tr.hang_len _ _ _ e1, h, (Tr.grow_hang e1).symm, (Tr.grow_hang e2).symm⟩
  · rintro ⟨xs, h1, h2, rfl, rfl⟩
    exact leT_grow h1 (h1.trans h2)
theorem _root_.TT.Gr.right {A B C D : Tr} (g : Gr A B C D) : C.lvs = D.lvs := by obtain ⟨_, _, h, _⟩ := g; exact h
theorem mul_Gr {A B C D A1 B1 C1 D1 : Tr} (g1 : Gr A B A1 B1) (g2 : Gr C D C1 D1) : Gr (mulT (A, B) (C, D)).1 (mulT (A, B) (C, D)).2 (mulT (A1, B1) (C1, D1)).1 (mulT (A1, B1) (C1, D1)).2 :=
  (leT_Gr (mul_lvs g1.right g2.right)).mp (mul_mono g1.lvs g2.lvs g1.right g2.right ((leT_Gr g1.right).mpr g1) ((leT_Gr g2.right).mpr g2))
theorem _root_.TT.Gr.node {A B C D A' B' C' D' : Tr} (g : Gr A B C D) (g' : Gr A' B' C' D') : Gr (.node A A') (.node B B') (.node C C') (.node D D') := by
  obtain ⟨xs, h1, h2, rfl, rfl⟩ := g
  obtain ⟨ys, h3, h4, rfl, rfl⟩ := g'
  refine ⟨xs ++ ys, by rw [List.length_append, h1, h3]; rfl, by show C.lvs + C'.lvs = D.lvs + D'.lvs; omega, ?_, ?_⟩
  · rw [grow_node C C' xs ys h1 h3]
  · rw [grow_node D D' xs ys (h1.trans h2) (h3.trans h4)]
theorem pth_Gr : ∀ (a : List Nat) {A B C D : Tr}, Gr A B C D → Gr (pth a A) (pth a B) (pth a C) (pth a D)
  | [], _, _, _, _, g => g
  | c :: a, A, B, C, D, g => by
    have ih := pth_Gr a g
    have z : Gr .leaf .leaf .leaf .leaf := .refl rfl
    simp only [pth_cons]
    by_cases hc : c = 108
    · simp only [if_pos hc]; exact ih.node z
    · simp only [if_neg hc]; exact z.node ih
theorem _root_.TT.Gr.fun {A B B' W W' : Tr} (g : Gr A B W W') (g' : Gr A B' W W') : B = B' := by
  obtain ⟨xs, h1, h2, e1, e2⟩ := g
  obtain ⟨ys, h3, h4, e3, e4⟩ := g'
  have : xs = ys := by
    have a := Tr.hang_grow h1
    have b := Tr.hang_grow h3
    rw [← e1] at a
    rw [← e3] at b
    exact Option.some.inj (a.symm.trans b)
  rw [e2, e4, this]
theorem Gr_leaf (A : Tr) : Gr A A .leaf .leaf := ⟨[A], rfl, rfl, (grow_one A).symm, (grow_one A).symm⟩
theorem wdT_still (A : Tr) : wdT A A = wdT .leaf .leaf := wdT_gr (Gr_leaf A)
theorem _root_.TT.Gr.antisymm {A B C D : Tr} (g : Gr A B C D) (h : Gr C D A B) : A = C ∧ B = D := by
  have l1 := (leT_Gr g.right).mpr g
  have l2 := (leT_Gr h.right).mpr h
  have s1 : A.size = B.size := by have := g.lvs; rw [Tr.lvs_size, Tr.lvs_size] at this; omega
  have s2 : C.size = D.size := by have := g.right; rw [Tr.lvs_size, Tr.lvs_size] at this; omega
  have := leT_anti s1 s2
  rw [l1, l2] at this
  exact of_decide_eq_true this.symm
theorem wdT_wdT {A B : Tr} (h : A.lvs = B.lvs) : wdT (wdT A B).1 (wdT A B).2 = wdT A B := (wdT_gr (wdT_Gr h)).symm
theorem wdT_mul {A B C D : Tr} (h1 : A.lvs = B.lvs) (h2 : C.lvs = D.lvs) : wdT (mulT (A, B) (C, D)).1 (mulT (A, B) (C, D)).2 = wdT (mulT (wdT A B) (wdT C D)).1 (mulT (wdT A B) (wdT C D)).2 :=
  wdT_gr (mul_Gr (wdT_Gr h1) (wdT_Gr h2))
theorem mul_back {A B C D : Tr} (h1 : A.lvs = B.lvs) (h2 : C.lvs = D.lvs) : Gr (mulT (mulT (A, B) (C, D)) (D, C)).1 (mulT (mulT (A, B) (C, D)) (D, C)).2 A B := by
  rw [show mulT (mulT (A, B) (C, D)) (D, C) = mulT (A, B) (mulT (C, D) (D, C)) from mul_assoc h1 h2 h2.symm, mul_mid C D C h2 h2.symm]
  obtain ⟨us, ws, hus, hws, l1, l2, l3, l4, e, j1, j2⟩ := mul_parts (A := A) (B := B) (C := C) (D := C) h1 rfl
  rw [e]
  exact ⟨us, l1, h1, rfl, by show C.grow ws = _; rw [← j2, j1]⟩

theorem pow_swap {A B : Tr} (h : A.lvs = B.lvs) : ∀ n, powT (B, A) n = ((powT (A, B) n).2, (powT (A, B) n).1)
  | 0 => rfl
  | n + 1 => by
    have e : powT (A, B) (n + 1) = mulT (A, B) (powT (A, B) n) := by
      have := pow_add h 1 n
      rw [pow_one h] at this
      rw [this, Nat.add_comm]
    rw [e]
    show mulT (powT (B, A) n) (B, A) = _
    rw [pow_swap h n]
    exact mul_swap A B (powT (A, B) n).1 (powT (A, B) n).2
theorem Gr_rfl {A B : Tr} (h : A.lvs = B.lvs) : Gr A B A B := ⟨List.replicate A.lvs .leaf, by rw [List.length_replicate], h, (grow_leaves A).symm, (grow_replicate_self h).symm⟩
/-- so often there, so often back -/
theorem pow_back {A B : Tr} (h : A.lvs = B.lvs) (a b : Nat) : Gr (mulT (powT (A, B) a) (powT (B, A) b)).1 (mulT (powT (A, B) a) (powT (B, A) b)).2 (if b ≤ a then powT (A, B) (a - b) else powT (B, A) (b - a)).1 (if b ≤ a then powT (A, B) (a - b) else powT (B, A) (b - a)).2 := by
  by_cases c : b ≤ a
  · rw [if_pos c]
    have e := pow_add h (a - b) b
    rw [Nat.sub_add_cancel c] at e
    rw [← e, pow_swap h b]
    exact mul_back (pow_ok h (a - b)).1 (pow_ok h b).1
  · rw [if_neg c]
    have e := pow_add h.symm a (b - a)
    rw [show a + (b - a) = b by omega] at e
    have l1 := (pow_ok h a).1
    have l2 := (pow_ok h.symm (b - a)).1
    rw [← e, pow_swap h a]
    have as := mul_assoc (A := (powT (A, B) a).1) (B := (powT (A, B) a).2) (C := (powT (A, B) a).2) (D := (powT (A, B) a).1) (E := (powT (B, A) (b - a)).1) (F := (powT (B, A) (b - a)).2) l1 l1.symm l2
    rw [mul_mid _ _ _ l1 l1.symm] at as
    have as' : mulT (powT (A, B) a) (mulT ((powT (A, B) a).2, (powT (A, B) a).1) (powT (B, A) (b - a))) = mulT ((powT (A, B) a).1, (powT (A, B) a).1) (powT (B, A) (b - a)) := as.symm
    rw [as']
    have g := mul_Gr (Gr_leaf (powT (A, B) a).1) (Gr_rfl l2)
    rw [leaf_mul _ _ l2] at g
    exact g
/-- a move i times -/
def pwT (A B : Tr) (i : Int) : Tr × Tr := powT (if 0 < i then (A, B) else (B, A)) i.natAbs
theorem pwT_ok {A B : Tr} (h : A.size = B.size) (i : Int) : (pwT A B i).1.size = (pwT A B i).2.size ∧ (pwT A B i).1.size ≤ i.natAbs * A.size := by
  have l := lvs_of h
  unfold pwT
  by_cases c : 0 < i
  · rw [if_pos c]
    obtain ⟨a, b⟩ := pow_ok l i.natAbs
    refine ⟨?_, b⟩
    rw [Tr.lvs_size, Tr.lvs_size] at a; omega
  · rw [if_neg c]
    obtain ⟨a, b⟩ := pow_ok l.symm i.natAbs
    refine ⟨?_, by rw [h]; exact b⟩
    rw [Tr.lvs_size, Tr.lvs_size] at a; omega
theorem pwT_neg {A B : Tr} (h : A.lvs = B.lvs) (i : Int) : pwT A B (0 - i) = ((pwT A B i).2, (pwT A B i).1) := by
  unfold pwT
  rw [show (0 - i).natAbs = i.natAbs by omega]
  by_cases c : 0 < i
  · rw [if_pos c, if_neg (by omega)]; exact pow_swap h _
  · by_cases z : i = 0
    · subst z; rfl
    · rw [if_neg c, if_pos (by omega)]; exact pow_swap h.symm _
theorem pwT_still (A : Tr) {i : Int} (h : i ≠ 0) : pwT A A i = (A, A) := by
  unfold pwT
  rw [ite_self]
  exact pow_same A _ (by omega)
theorem pwT_le {A B : Tr} (h : A.lvs = B.lvs) (i j : Int) : Gr (mulT (pwT A B i) (pwT A B j)).1 (mulT (pwT A B i) (pwT A B j)).2 (pwT A B (i + j)).1 (pwT A B (i + j)).2 ∧ (0 ≤ i * j → mulT (pwT A B i) (pwT A B j) = pwT A B (i + j)) := by
  have eqs : mulT (pwT A B i) (pwT A B j) = pwT A B (i + j) → Gr (mulT (pwT A B i) (pwT A B j)).1 (mulT (pwT A B i) (pwT A B j)).2 (pwT A B (i + j)).1 (pwT A B (i + j)).2 := fun e => by
    rw [e]
    refine Gr_rfl ?_
    unfold pwT
    by_cases c : 0 < i + j
    · rw [if_pos c]; exact (pow_ok h _).1
    · rw [if_neg c]; exact (pow_ok h.symm _).1
  by_cases ci : 0 < i
  · by_cases cj : j < 0
    · refine ⟨?_, fun z => absurd z (by have := Int.mul_neg_of_pos_of_neg ci cj; omega)⟩
      have g := pow_back h i.natAbs j.natAbs
      unfold pwT
      rw [if_pos ci, if_neg (by omega : ¬ 0 < j)]
      by_cases c : 0 < i + j
      · rw [if_pos c, show (i + j).natAbs = i.natAbs - j.natAbs by omega]
        rw [if_pos (by omega)] at g; exact g
      · rw [if_neg c, show (i + j).natAbs = j.natAbs - i.natAbs by omega]
        by_cases c2 : j.natAbs ≤ i.natAbs
        · rw [if_pos c2, show i.natAbs - j.natAbs = 0 by omega] at g
          rw [show j.natAbs - i.natAbs = 0 by omega]
          exact g
        · rw [if_neg c2] at g; exact g
    · have e : mulT (pwT A B i) (pwT A B j) = pwT A B (i + j) := by
        unfold pwT
        rw [if_pos ci, if_pos (by omega : 0 < i + j), show (i + j).natAbs = i.natAbs + j.natAbs by omega]
        by_cases z : j = 0
        · subst z; exact mul_leaf _ _ (pow_ok h _).1
        · rw [if_pos (by omega : 0 < j)]; exact pow_add h _ _
      exact ⟨eqs e, fun _ => e⟩
  · by_cases z : i = 0
    · subst z
      have e : mulT (pwT A B 0) (pwT A B j) = pwT A B (0 + j) := by
        rw [Int.zero_add]
        refine leaf_mul _ _ ?_
        show (powT (if 0 < j then (A, B) else (B, A)) j.natAbs).fst.lvs = (powT (if 0 < j then (A, B) else (B, A)) j.natAbs).snd.lvs
        by_cases c : 0 < j
        · rw [if_pos c]; exact (pow_ok h _).1
        · rw [if_neg c]; exact (pow_ok h.symm _).1
      exact ⟨eqs e, fun _ => e⟩
    · by_cases cj : 0 < j
      · refine ⟨?_, fun z2 => absurd z2 (by have := Int.mul_neg_of_neg_of_pos (by omega : i < 0) cj; omega)⟩
        have g := pow_back h.symm i.natAbs j.natAbs
        unfold pwT
        rw [if_neg ci, if_pos cj]
        by_cases c : 0 < i + j
        · rw [if_pos c, show (i + j).natAbs = j.natAbs - i.natAbs by omega]
          rw [if_neg (by omega)] at g; exact g
        · rw [if_neg c, show (i + j).natAbs = i.natAbs - j.natAbs by omega]
          rw [if_pos (by omega)] at g; exact g
      · have e : mulT (pwT A B i) (pwT A B j) = pwT A B (i + j) := by
          unfold pwT
          rw [if_neg ci, if_neg cj, if_neg (by omega : ¬ 0 < i + j), show (i + j).natAbs = i.natAbs + j.natAbs by omega]
          exact pow_add h.symm _ _
        exact ⟨eqs e, fun _ => e⟩

/-- left and right combs -/
def gL : Nat → Tr
  | 0 => .leaf
  | n + 1 => .node (gL n) .leaf
def gR : Nat → Tr
  | 0 => .leaf
  | n + 1 => .node .leaf (gR n)
theorem gL_size : ∀ n, (gL n).size = n
  | 0 => rfl
  | n + 1 => by show (gL n).size + 0 + 1 = _; rw [gL_size n]
theorem gR_size : ∀ n, (gR n).size = n
  | 0 => rfl
  | n + 1 => by show 0 + (gR n).size + 1 = _; rw [gR_size n]; omega
theorem gLR_lvs (n : Nat) : (gL n).lvs = (gR n).lvs := by rw [Tr.lvs_size, Tr.lvs_size, gL_size, gR_size]
theorem gL_grow : ∀ n, (gL n).grow (.node .leaf .leaf :: List.replicate n .leaf) = gL (n + 1)
  | 0 => grow_leaf1 _
  | n + 1 => by
    have e : (Tr.node .leaf .leaf :: List.replicate (n + 1) Tr.leaf) = (Tr.node .leaf .leaf :: List.replicate n .leaf) ++ [.leaf] := by
      rw [List.replicate_succ']; rfl
    rw [e]
    show (Tr.node (gL n) .leaf).grow _ = .node (gL (n + 1)) .leaf
    rw [grow_node (gL n) .leaf _ _ (by rw [List.length_cons, List.length_replicate, Tr.lvs_size, gL_size]) rfl, gL_grow n, grow_leaf1]
theorem gLR_mul (n : Nat) : mulT (gL (n + 2), gR (n + 2)) (gL 2, gR 2) = (gL (n + 3), gR (n + 3)) := by
  obtain ⟨us, ws, hus, hws, l1, l2, l3, l4, e, j1, j2⟩ := mul_parts (A := gL (n + 2)) (B := gR (n + 2)) (C := gL 2) (D := gR 2) (gLR_lvs _) (gLR_lvs _)
  have ej : Tr.join (gR (n + 2)) (gL 2) = .node (.node .leaf .leaf) (gR (n + 1)) := rfl
  rw [ej] at hus hws
  have h1 : Tr.hang (.node (.node .leaf .leaf) (gR (n + 1))) (gR (n + 2)) = some (Tr.node .leaf .leaf :: List.replicate (n + 2) .leaf) := by
    show Tr.hang (.node (.node .leaf .leaf) (gR (n + 1))) (.node .leaf (gR (n + 1))) = _
    have e2 := hang_leaves (gR (n + 1))
    have e3 : (gR (n + 1)).lvs = n + 2 := by rw [Tr.lvs_size, gR_size]
    rw [e3] at e2
    simp only [Tr.hang, e2]
    rfl
  have h2 : Tr.hang (.node (.node .leaf .leaf) (gR (n + 1))) (gL 2) = some [.leaf, .leaf, gR (n + 1)] := rfl
  rw [h1] at hus
  rw [h2] at hws
  cases hus
  cases hws
  rw [e, gL_grow]
  rfl
theorem gLR_pow : ∀ n, powT (gL 2, gR 2) (n + 1) = (gL (n + 2), gR (n + 2))
  | 0 => leaf_mul _ _ rfl
  | n + 1 => by
    show mulT (powT (gL 2, gR 2) (n + 1)) (gL 2, gR 2) = _
    rw [gLR_pow n]
    exact gLR_mul n

/-! scripts and their moves, plainly -/
theorem runO_app (ys : List (Bool × List Nat)) : ∀ (xs : List (Bool × List Nat)) (t : Tr), runO (xs ++ ys) t = (runO xs t).bind (runO ys)
  | [], t => rfl
  | x :: xs, t => by
    show (stepB x.1 x.2 t).bind (runO (xs ++ ys)) = ((stepB x.1 x.2 t).bind (runO xs)).bind _
    cases stepB x.1 x.2 t with
    | none => rfl
    | some s => exact runO_app ys xs s
theorem pair_lvs (xs : List (Bool × List Nat)) : (pairT xs).1.lvs = (pairT xs).2.lvs := (pairT_tells xs).1
theorem mvF_pair (xs : List (Bool × List Nat)) (p : Tr) : mvF (pairT xs).1 (pairT xs).2 p = runO xs p := ((pairT_tells xs).2 p).symm
theorem pair_app (xs ys : List (Bool × List Nat)) : pairT (xs ++ ys) = mulT (pairT xs) (pairT ys) := by
  obtain ⟨e1, e2⟩ := mvF_inj (pair_lvs (xs ++ ys)) (mul_lvs (pair_lvs xs) (pair_lvs ys)) fun p => by
    rw [mvF_pair, runO_app, mvF_mul (pair_lvs xs) (pair_lvs ys), mvF_pair]
    cases runO xs p with
    | none => rfl
    | some q => exact (mvF_pair ys q).symm
  exact Prod.ext e1 e2
theorem turn_back {r : Bool} {t s : Tr} (h : turnB r t = some s) : turnB (!r) s = some t := by
  cases t with
  | leaf => cases h
  | node x y =>
    cases r with
    | true =>
      cases x with
      | leaf => cases h
      | node a b => cases h; rfl
    | false =>
      cases y with
      | leaf => cases h
      | node a b => cases h; rfl
theorem step_back (r : Bool) : ∀ (a : List Nat) (t s : Tr), stepB r a t = some s → stepB (!r) a s = some t
  | [], t, s, h => by
    rw [stepB_nil] at h ⊢
    exact turn_back h
  | c :: cs, .leaf, s, h => by rw [stepB_leaf] at h; cases h
  | c :: cs, .node x y, s, h => by
    rw [stepB_cons] at h
    by_cases hc : c = 108
    · rw [if_pos hc] at h
      obtain ⟨z, hz, rfl⟩ := Option.map_eq_some_iff.mp h
      rw [stepB_cons, if_pos hc, step_back r cs x z hz]; rfl
    · rw [if_neg hc] at h
      obtain ⟨z, hz, rfl⟩ := Option.map_eq_some_iff.mp h
      rw [stepB_cons, if_neg hc, step_back r cs y z hz]; rfl
def invX (xs : List (Bool × List Nat)) : List (Bool × List Nat) := xs.reverse.map fun x => (!x.1, x.2)
theorem run_back : ∀ (xs : List (Bool × List Nat)) (t s : Tr), runO xs t = some s → runO (invX xs) s = some t
  | [], t, s, h => by cases h; rfl
  | x :: xs, t, s, h => by
    obtain ⟨u, hu, h2⟩ := Option.bind_eq_some_iff.mp (show (stepB x.1 x.2 t).bind (runO xs) = some s from h)
    have e : invX (x :: xs) = invX xs ++ [(!x.1, x.2)] := by simp [invX]
    rw [e, runO_app, run_back xs u s h2]
    show (stepB (!x.1) x.2 u).bind _ = _
    rw [step_back x.1 x.2 t u hu]; rfl
theorem invX_inv (xs : List (Bool × List Nat)) : invX (invX xs) = xs := by
  simp only [invX, List.map_reverse, List.reverse_reverse, List.map_map]
  refine (List.map_congr_left fun x _ => ?_).trans (List.map_id xs)
  obtain ⟨b, a⟩ := x
  simp
theorem mvF_back {A B p s : Tr} (h : A.lvs = B.lvs) (e : mvF A B p = some s) : mvF B A s = some p := by
  obtain ⟨ts, h1, rfl⟩ := Option.map_eq_some_iff.mp (show (Tr.hang p A).map B.grow = some s from e)
  have l := Tr.hang_len _ _ _ h1
  unfold mvF
  rw [Tr.hang_grow (by omega)]
  exact congrArg some (Tr.grow_hang h1)
theorem pair_opp (xs : List (Bool × List Nat)) : pairT (invX xs) = ((pairT xs).2, (pairT xs).1) := by
  obtain ⟨e1, e2⟩ := mvF_inj (pair_lvs (invX xs)) (pair_lvs xs).symm fun p => by
    refine Option.ext fun q => ⟨fun h => ?_, fun h => ?_⟩
    · rw [mvF_pair] at h
      have h2 := run_back _ _ _ h
      rw [invX_inv, ← mvF_pair] at h2
      exact mvF_back (pair_lvs xs) h2
    · have h2 := mvF_back (pair_lvs xs).symm h
      rw [mvF_pair] at h2
      rw [mvF_pair]
      exact run_back _ _ _ h2
  exact Prod.ext e1 e2
theorem stepB_pth (r : Bool) (b : List Nat) : ∀ (a : List Nat) (t : Tr), stepB r (a ++ b) (pth a t) = (stepB r b t).map (pth a)
  | [], t => by
    show stepB r b t = (stepB r b t).map (fun x => x)
    cases stepB r b t <;> rfl
  | c :: a, t => by
    rw [pth_cons]
    by_cases hc : c = 108
    · rw [if_pos hc, List.cons_append, stepB_cons, if_pos hc, stepB_pth r b a t]
      cases stepB r b t with
      | none => rfl
      | some s => simp [pth_cons, hc]
    · rw [if_neg hc, List.cons_append, stepB_cons, if_neg hc, stepB_pth r b a t]
      cases stepB r b t with
      | none => rfl
      | some s => simp [pth_cons, hc]
theorem pair_one (r : Bool) (a : List Nat) : pairT [(r, a)] = (pth a (ttop r), pth a (ttop (!r))) := by
  show unf (.leaf, .leaf) (r, a) = _
  unfold unf
  have e : stepB r a (stp r a) = some (pth a (ttop (!r))) := by
    have := stepB_pth r [] a (ttop r)
    rw [List.append_nil, stepB_nil] at this
    show stepB r a (pth a (ttop r)) = _
    rw [this]
    cases r <;> rfl
  show (Tr.leaf.grow ((Tr.hang (Tr.join .leaf (stp r a)) .leaf).getD []), (stepB r a (Tr.join .leaf (stp r a))).getD .leaf) = _
  rw [Tr.leaf_join, e]
  have h : Tr.hang (stp r a) .leaf = some [stp r a] := by cases stp r a <;> rfl
  rw [h]
  exact Prod.ext (grow_one _) rfl
theorem pair_low1 (a : List Nat) (x : Bool × List Nat) : pairT [(x.1, a ++ x.2)] = (pth a (pairT [x]).1, pth a (pairT [x]).2) := by
  rw [pair_one, show [x] = [(x.1, x.2)] from rfl, pair_one, pth_app, pth_app]
theorem pair_low (a : List Nat) : ∀ (ys : List (Bool × List Nat)) (x : Bool × List Nat), pairT ((x :: ys).map fun x => (x.1, a ++ x.2)) = (pth a (pairT (x :: ys)).1, pth a (pairT (x :: ys)).2)
  | [], x => pair_low1 a x
  | y :: ys, x => by
    have ih := pair_low a ys y
    rw [List.map_cons, show ((x.1, a ++ x.2) :: (y :: ys).map fun x => (x.1, a ++ x.2)) = [(x.1, a ++ x.2)] ++ (y :: ys).map fun x => (x.1, a ++ x.2) from rfl, pair_app, ih, pair_low1, pth_mul a (pair_lvs [x]) (pair_lvs (y :: ys)),
      show x :: y :: ys = [x] ++ (y :: ys) from rfl, pair_app]
/-! steps on the right arm -/
abbrev armT (i : Nat) : Tr × Tr := pairT [(true, List.replicate i 114)]
theorem arm_tree (i : Nat) : armT i = (pth (List.replicate i 114) (ttop true), pth (List.replicate i 114) (ttop false)) := pair_one _ _
theorem arm_plus (p k : Nat) : armT (p + k) = (pth (List.replicate p 114) (armT k).1, pth (List.replicate p 114) (armT k).2) := by
  rw [arm_tree, arm_tree, ← List.replicate_append_replicate, pth_app, pth_app]
theorem arm_succ (k : Nat) : armT (k + 1) = (.node .leaf (armT k).1, .node .leaf (armT k).2) := by
  rw [Nat.add_comm, arm_plus]; rfl
theorem hang_at_leaf (x : Tr) : Tr.hang x .leaf = some [x] := by cases x <;> rfl
theorem hang_node {a b c d : Tr} {x y : List Tr} (h1 : Tr.hang a c = some x) (h2 : Tr.hang b d = some y) : Tr.hang (.node a b) (.node c d) = some (x ++ y) := by
  show (Tr.hang a c).bind _ = _
  rw [h1, Option.bind_some, h2]; rfl
theorem arm_claim1 {X Y : Tr} (h : X.lvs = Y.lvs) : mulT (.node .leaf X, .node .leaf Y) (ttop true, ttop false) = (.node (.node .leaf .leaf) X, .node .leaf (.node .leaf Y)) := by
  unfold mulT
  have j : Tr.join (Tr.node .leaf Y) (ttop true) = .node (.node .leaf .leaf) Y := by show Tr.node _ (Tr.join Y .leaf) = _; rw [Tr.join_leaf]; rfl
  have h1 : Tr.hang (.node (.node .leaf .leaf) Y) (.node .leaf Y) = some ([.node .leaf .leaf] ++ List.replicate Y.lvs .leaf) := hang_node (hang_at_leaf _) (hang_leaves Y)
  have h2 : Tr.hang (.node (.node .leaf .leaf) Y) (ttop true) = some ([.leaf, .leaf] ++ [Y]) := hang_node (a := .node .leaf .leaf) (c := .node .leaf .leaf) rfl (hang_at_leaf Y)
  show ((Tr.node .leaf X).grow ((Tr.hang (Tr.join (Tr.node .leaf Y) (ttop true)) (.node .leaf Y)).getD []), (ttop false).grow ((Tr.hang (Tr.join (Tr.node .leaf Y) (ttop true)) (ttop true)).getD [])) = _
  rw [j, h1, h2]
  refine Prod.ext ?_ ?_
  · show (Tr.node .leaf X).grow ([.node .leaf .leaf] ++ List.replicate Y.lvs .leaf) = _
    rw [grow_node _ _ _ _ rfl (by simp [h]), ← h, grow_leaves, grow_one]
  · rfl
theorem arm_claim2 {X Y : Tr} (h : X.lvs = Y.lvs) : mulT (ttop true, ttop false) (.node .leaf (.node .leaf X), .node .leaf (.node .leaf Y)) = (.node (.node .leaf .leaf) X, .node .leaf (.node .leaf Y)) := by
  unfold mulT
  have j : Tr.join (ttop false) (Tr.node .leaf (.node .leaf X)) = .node .leaf (.node .leaf X) := rfl
  have h1 : Tr.hang (.node .leaf (.node .leaf X)) (ttop false) = some ([.leaf] ++ ([.leaf] ++ [X])) := hang_node (a := .leaf) (c := .leaf) rfl (hang_node (a := .leaf) (c := .leaf) rfl (hang_at_leaf X))
  have h2 : Tr.hang (Tr.node .leaf (.node .leaf X)) (Tr.node .leaf (.node .leaf X)) = _ := hang_leaves _
  show ((ttop true).grow ((Tr.hang (Tr.join (ttop false) (Tr.node .leaf (.node .leaf X))) (ttop false)).getD []), (Tr.node .leaf (.node .leaf Y)).grow ((Tr.hang (Tr.join (ttop false) (Tr.node .leaf (.node .leaf X))) (Tr.node .leaf (.node .leaf X))).getD [])) = _
  rw [j, h1, h2]
  refine Prod.ext rfl ?_
  have e : (Tr.node .leaf (.node .leaf X)).lvs = (Tr.node .leaf (.node .leaf Y)).lvs := by show 1 + (1 + X.lvs) = 1 + (1 + Y.lvs); rw [h]
  show (Tr.node .leaf (.node .leaf Y)).grow (List.replicate (Tr.node .leaf (.node .leaf X)).lvs .leaf) = _
  rw [e, grow_leaves]
theorem arm_lvs (k : Nat) : (armT k).1.lvs = (armT k).2.lvs := pair_lvs _
theorem arm_comm (p d : Nat) : mulT (armT (p + (d + 1))) (armT p) = mulT (armT p) (armT (p + (d + 1) + 1)) := by
  have e0 : armT p = (pth (List.replicate p 114) (ttop true), pth (List.replicate p 114) (ttop false)) := arm_tree p
  have l0 : (ttop true).lvs = (ttop false).lvs := rfl
  rw [Nat.add_assoc p (d + 1) 1, arm_plus p (d + 1), arm_plus p (d + 1 + 1), e0, pth_mul _ (arm_lvs _) l0, pth_mul _ l0 (arm_lvs _)]
  have c1 : mulT ((armT (d + 1)).1, (armT (d + 1)).2) (ttop true, ttop false) = mulT (ttop true, ttop false) ((armT (d + 1 + 1)).1, (armT (d + 1 + 1)).2) := by
    rw [arm_succ (d + 1), arm_succ d]
    exact (arm_claim1 (arm_lvs d)).trans (arm_claim2 (arm_lvs d)).symm
  rw [c1]
theorem mul_fst {A B C D : Tr} (h1 : A.lvs = B.lvs) (h2 : C.lvs = D.lvs) : (Tr.hang (mulT (A, B) (C, D)).1 A).isSome = true := by
  obtain ⟨us, ws, hus, hws, l1, l2, l3, l4, e, j1, j2⟩ := mul_parts (A := A) (B := B) (C := C) (D := D) h1 h2
  rw [e]
  show (Tr.hang (A.grow us) A).isSome = true
  rw [Tr.hang_grow l1]; rfl
theorem hang_pth : ∀ (a : List Nat) (x y : Tr), (Tr.hang (pth a x) (pth a y)).isSome = (Tr.hang x y).isSome
  | [], x, y => rfl
  | c :: a, x, y => by
    have ih := hang_pth a x y
    rw [pth_cons, pth_cons]
    by_cases hc : c = 108
    · rw [if_pos hc, if_pos hc, ← ih]
      show ((Tr.hang (pth a x) (pth a y)).bind fun u => (Tr.hang .leaf .leaf).map fun v => u ++ v).isSome = _
      cases Tr.hang (pth a x) (pth a y) <;> rfl
    · rw [if_neg hc, if_neg hc, ← ih]
      show ((Tr.hang .leaf .leaf).bind fun u => (Tr.hang (pth a x) (pth a y)).map fun v => u ++ v).isSome = _
      cases Tr.hang (pth a x) (pth a y) <;> rfl
theorem arm_ne (p d : Nat) (x : Tr × Tr) (hx : x.1.lvs = x.2.lvs) : (mulT (mulT (armT p) (armT (p + (d + 1)))) x).1 ≠ (armT (p + (d + 1))).1 := by
  intro e
  have m1 := mul_lvs (arm_lvs p) (arm_lvs (p + (d + 1)))
  have h1 := mul_fst (A := (mulT (armT p) (armT (p + (d + 1)))).1) (B := (mulT (armT p) (armT (p + (d + 1)))).2) (C := x.1) (D := x.2) m1 hx
  have h2 := mul_fst (A := (armT p).1) (B := (armT p).2) (C := (armT (p + (d + 1))).1) (D := (armT (p + (d + 1))).2) (arm_lvs p) (arm_lvs _)
  have h3 := hang_trans h1 h2
  rw [show mulT ((mulT (armT p) (armT (p + (d + 1)))).1, (mulT (armT p) (armT (p + (d + 1)))).2) (x.1, x.2) = mulT (mulT (armT p) (armT (p + (d + 1)))) x from rfl, e, arm_plus, arm_tree p, hang_pth, arm_succ] at h3
  cases h3
/-! the steps' words -/
theorem bxs_oth {x : Str × List Nat} (h : x.1 = Str.ofString "left" ∨ x.1 = Str.ofString "right") : bxs (oth x.1, x.2) = (!(bxs x).1, (bxs x).2) := by
  have e : ¬ (Str.ofString "left" = Str.ofString "right") := by decide +kernel
  obtain ⟨w, a⟩ := x
  have h : w = Str.ofString "left" ∨ w = Str.ofString "right" := h
  show bxs (oth w, a) = (!decide (w = Str.ofString "right"), a)
  rcases h with rfl | rfl
  · show (decide (oth (Str.ofString "left") = Str.ofString "right"), a) = _
    rw [oth, if_pos rfl, decide_eq_true rfl, decide_eq_false e]; rfl
  · show (decide (oth (Str.ofString "right") = Str.ofString "right"), a) = _
    rw [oth, if_neg (fun z => e z.symm), decide_eq_false e, decide_eq_true rfl]; rfl
theorem bxs_opp (xs : List (Str × List Nat)) (h : ∀ x ∈ xs, x.1 = Str.ofString "left" ∨ x.1 = Str.ofString "right") : (xs.reverse.map fun x => (oth x.1, x.2)).map bxs = invX (xs.map bxs) := by
  unfold invX
  rw [← List.map_reverse, List.map_map, List.map_map]
  exact List.map_congr_left fun x hx => bxs_oth (h x (List.mem_reverse.mp hx))
theorem bxs_low (a : List Nat) (xs : List (Str × List Nat)) : (xs.map fun x => (x.1, a ++ x.2)).map bxs = (xs.map bxs).map fun x => (x.1, a ++ x.2) := by
  rw [List.map_map, List.map_map]; rfl

theorem chars_tr : ∀ (t : Tr), ∀ c ∈ t.cs, c < 16 ^ 8
  | .leaf, c, h => by
    have : c = 46 := by simpa [Tr.cs] using h
    omega
  | .node l r, c, h => by
    have h : c ∈ 40 :: (l.cs ++ r.cs ++ [41]) := by simpa [Tr.cs] using h
    simp only [List.mem_cons, List.mem_append, List.not_mem_nil, or_false] at h
    rcases h with h | (h | h) | h
    · omega
    · exact chars_tr l c h
    · exact chars_tr r c h
    · omega
theorem repr_tr {t : Tr} (h : t.size ≤ 2000) : (reprText (S t.cs)).length ≤ 60012 := by
  have := PySem.StrLaws.reprText_len (S t.cs) (fun c hc => chars_tr t c (by simpa using hc))
  have l := tr_len h
  have e : (S t.cs).length = t.cs.length := S_len _
  omega
theorem apLen (a b : Str) : (a ++ b).length = a.length + b.length := PySem.Str.length_append a b
theorem ok_Move___repr__ (T : Txt w K mg) : FnOk P w K mg base CX0 2 T.a_Move___repr__ T.fd_Move___repr__ ["self"] (sp_Move___repr__ T) := by
  refine T.F_Move___repr__.ok sc_Move___repr__ (fun vs H Q E h => ?_) (fun cdv A outer s H vs Q E hr h => ?_)
  · obtain ⟨_, _, _, rfl, _⟩ := h; rfl
  obtain ⟨v, A', B', rfl, ⟨ab, p, dx, rfl, hp⟩, a1, q⟩ := h
  refine ⟨_, (pss_one (ps_ret (pe_joined (.cons pe_str (.cons (pe_fmtR (pe_fld (pv 0) rfl)) (.cons pe_str (.cons (pe_fmtR (pe_fld (pv 0) rfl)) (.cons pe_str .nil)))))))), ?_⟩
  simp only [tJs, tFmtR, cxOf_K, tAsg2, tYes, wipe, tSeq, tIfS, tNot, tB, tCB, tCons, tNil, tVar, tC, tTest, tOp, tAnd, tOr, tAsg, gName, tRet, tRetN, tDrop, tNext, tIf, tCall, tTup, tLst, tNotV, tAndV, tOrV, tUn, rI0, rI, rU, rEq, rNe, tM1, tM0, tBM, tBM0, tSl, tPart, tNoPart, iStr, iEnumS, iRng1, iRng2, iList, gSub, tBits, tAug, tPar, L2.start, List.map_cons, List.map_nil, List.length_cons, List.length_nil, List.getElem?_cons_zero, List.getElem?_cons_succ, List.cons_append, List.nil_append, List.append_nil, List.set_cons_zero, List.set_cons_succ, List.replicate_succ, List.replicate_zero, Option.some.injEq, exists_eq_left', V.int.injEq, V.str.injEq, V.ref.injEq, V.bl.injEq, exists_and_left, exists_eq_left, List.cons.injEq, and_true, true_and, tCallX, tRs, tProp, OW.tSMeth, OW.tCallI, Nat.sub_self, List.replicate_zero, tFld, sFld, sFldAug, tDGet, tDIn, tDNotIn, sDPut, tMeth, tMake, tDNewK]
  have r1 := repr_tr (t := A') (by omega)
  have r2 := repr_tr (t := B') (by omega)
  have e0 : Str.empty.length = 0 := rfl
  have e1 : (Str.ofString "Move(").length = 5 := rfl
  have e2 : (Str.ofString ", ").length = 2 := rfl
  have e3 : (Str.ofString ")").length = 1 := rfl
  refine ⟨by simp only [apLen, e0, e1]; exact small5 (by omega), ?_⟩
  refine ⟨_, _, _, hp, T.l_Move, T.n_Move__before, _, mf_b _ _, .inl ⟨_, rfl, small5 (by omega), by simp only [apLen, e0, e1]; exact small5 (by omega), by simp only [apLen, e0, e1, e2]; exact small5 (by omega), ?_⟩⟩
  exact ⟨_, _, _, hp, T.l_Move, T.n_Move__after, _, mf_a _ _, .inl ⟨_, rfl, small5 (by omega), by simp only [apLen, e0, e1, e2]; exact small5 (by omega), by simp only [apLen, e0, e1, e2, e3]; exact small5 (by omega), q⟩⟩

theorem cs_set : ∀ (t : Tr), ∀ c ∈ t.cs, c = 40 ∨ c = 41 ∨ c = 46
  | .leaf, c, h => .inr (.inr (by simpa [Tr.cs] using h))
  | .node l r, c, h => by
    have h : c ∈ 40 :: (l.cs ++ r.cs ++ [41]) := by simpa [Tr.cs] using h
    simp only [List.mem_cons, List.mem_append, List.not_mem_nil, or_false] at h
    rcases h with h | (h | h) | h
    · exact .inl h
    · exact cs_set l c h
    · exact cs_set r c h
    · exact .inr (.inl h)
theorem foldl_plain : ∀ (l : List Nat) (acc : Array Nat), (∀ c ∈ l, c = 40 ∨ c = 41 ∨ c = 46) → l.foldl (fun out c => out ++ (PySem.Builtin.Str.reprChar 39 c).toArray) acc = acc ++ l.toArray
  | [], acc, _ => by simp
  | c :: l, acc, h => by
    have e : PySem.Builtin.Str.reprChar 39 c = [c] := by
      rcases h c (List.mem_cons_self ..) with rfl | rfl | rfl <;> decide +kernel
    rw [List.foldl_cons, e, foldl_plain l _ fun d hd => h d (List.mem_cons_of_mem _ hd)]
    apply Array.ext'
    simp
theorem repr_plain (t : Tr) : reprText (S t.cs) = S (39 :: (t.cs ++ [39])) := by
  have q : reprQuote (S t.cs) = 39 := by
    unfold reprQuote
    rw [if_neg]
    intro h
    rw [Bool.and_eq_true] at h
    have h := h.1
    have h : 39 ∈ t.cs := by simpa using h
    rcases cs_set t 39 h with h | h | h <;> omega
  have e : (S t.cs).cps = t.cs.toArray := by apply Array.ext'; simp
  unfold reprText
  rw [q, e, ← Array.foldl_toList, foldl_plain _ _ (by simpa using cs_set t)]
  unfold S
  congr 1
  apply Array.ext'
  simp
theorem split39 : ∀ (a c r1 r2 : List Nat), 39 ∉ a → 39 ∉ c → a ++ 39 :: r1 = c ++ 39 :: r2 → a = c ∧ r1 = r2
  | [], [], r1, r2, _, _, h => ⟨rfl, by simpa using h⟩
  | [], y :: c, r1, r2, _, hc, h => by
    rw [List.nil_append, List.cons_append] at h
    exact absurd (List.cons.inj h).1 (fun z => hc (by rw [z]; exact List.mem_cons_self ..))
  | x :: a, [], r1, r2, ha, _, h => by
    rw [List.nil_append, List.cons_append] at h
    exact absurd (List.cons.inj h).1.symm (fun z => ha (by rw [z]; exact List.mem_cons_self ..))
  | x :: a, y :: c, r1, r2, ha, hc, h => by
    rw [List.cons_append, List.cons_append] at h
    obtain ⟨e, h⟩ := List.cons.inj h
    obtain ⟨e2, h2⟩ := split39 a c r1 r2 (fun z => ha (List.mem_cons_of_mem _ z)) (fun z => hc (List.mem_cons_of_mem _ z)) h
    exact ⟨by rw [e, e2], h2⟩
theorem no39 (t : Tr) : 39 ∉ t.cs := fun h => by rcases cs_set t 39 h with h | h | h <;> omega
theorem mvR_list (A B : Tr) : (mvR A B).cps.toList = [77, 111, 118, 101, 40, 39] ++ (A.cs ++ 39 :: ([44, 32, 39] ++ (B.cs ++ [39, 41]))) := by
  unfold mvR
  rw [repr_plain, repr_plain]
  have e1 : (Str.ofString "Move(") = S [77, 111, 118, 101, 40] := by decide +kernel
  have e2 : (Str.ofString ", ") = S [44, 32] := by decide +kernel
  have e3 : (Str.ofString ")") = S [41] := by decide +kernel
  have e0 : Str.empty = S [] := by decide +kernel
  rw [e0, e1, e2, e3]
  have ap : ∀ a b : Str, (a ++ b).cps.toList = a.cps.toList ++ b.cps.toList := fun a b => by
    show (a.cps ++ b.cps).toList = _
    simp
  simp only [ap]
  simp
theorem mvR_inj {A B C D : Tr} : mvR A B = mvR C D ↔ A = C ∧ B = D := by
  refine ⟨fun h => ?_, fun h => by rw [h.1, h.2]⟩
  have h := congrArg (fun z : Str => z.cps.toList) h
  simp only [mvR_list] at h
  have h := List.append_cancel_left h
  obtain ⟨e1, h⟩ := split39 _ _ _ _ (no39 A) (no39 C) h
  have h := List.append_cancel_left h
  have h := List.append_cancel_right h
  exact ⟨Tr.cs_inj e1, Tr.cs_inj h⟩

theorem goodStr1 {H : Hp} (z : Str) (l : z.length ≤ 100000) (hz : ∀ c ∈ z.cps.toList, c < 16 ^ 8) : Good H (.str z) (.str z) := by
  refine ⟨.str _, by simp [PyData.showable], by simp [PyData.depth], ?_, ?_⟩
  · simp only [PyData.leavesShort, List.all_eq_true, decide_eq_true_eq]; exact hz
  · simp only [PyData.bulk]
    have : z.cps.size = z.length := rfl
    omega
theorem goodNon {H : Hp} : Good H .non .none := ⟨.non, by decide +kernel, by decide +kernel, by decide +kernel, by decide +kernel⟩
theorem goodBl {H : Hp} (b : Bool) : Good H (.bl b) (.bool b) := ⟨.bl b, by simp [PyData.showable], by simp [PyData.depth], by simp [PyData.leavesShort], by simp [PyData.bulk]⟩
theorem goodInt5 {H : Hp} : Good H (.int 5) (.int 5) := ⟨.int 5, by decide +kernel, by decide +kernel, by decide +kernel, by decide +kernel⟩
theorem goodTr {H : Hp} {t : Tr} (h : t.size ≤ 2000) : Good H (trV t) (.str (S t.cs)) :=
  goodStr1 _ (by rw [S_len]; have := tr_len h; omega) fun c hc => chars_tr t c (by simpa using hc)
theorem goodL1 {H : Hp} {p : Addr} {z : Str} (h : H p = some (.lst [V.str z])) (l : z.length ≤ 100000) (hz : ∀ c ∈ z.cps.toList, c < 16 ^ 8) : Good H (.ref p) (.list [.str z]) := by
  have e : (PyData.list [PyData.str z]).hasDict = false := by simp [PyData.hasDict, PyData.hasDictAll]
  have b := goodStr1 (H := H) z l hz
  refine ⟨?_, by simp [PyData.showable, PyData.showableAll], by simp [PyData.depth, PyData.depthAll], ?_, ?_⟩
  · rw [e]; exact .lst (fun z => by cases z) h (.cons (.str _) .nil)
  · have := b.ls
    simp only [PyData.leavesShort, PyData.leavesShortAll, Bool.and_true] at this ⊢
    exact this
  · have := b.bk
    have e : z.cps.size = z.length := rfl
    simp only [PyData.bulk, PyData.bulkAll] at this ⊢
    omega
/-- two lists of two Booleans and a tree's repr -/
theorem eqB3 {H : Hp} {p r : Addr} {a b : Bool} {t : Tr} {Q : VK} (h : H p = some (.lst [V.bl a, .bl b, .str (PyData.str (S t.cs)).shown])) (h2 : H r = some (.lst [V.bl a, .bl b, .str (PyData.str (S t.cs)).shown])) (q : Q (.bl true) H) : rEqD K (.ref p) (.ref r) H Q := by
  have e : (PyData.str (S t.cs)).shown = S (39 :: (t.cs ++ [39])) := by rw [PyData.shown_str, repr_plain]
  rw [e] at h h2
  have ok : PyData.strOk (S (39 :: (t.cs ++ [39]))) = true := okL _ fun c hc => by
    simp only [List.mem_cons, List.mem_append, List.not_mem_nil, or_false] at hc
    rcases hc with rfl | hc | rfl
    · omega
    · rcases cs_set t c hc with rfl | rfl | rfl <;> omega
    · omega
  have sh : SeqAt.shaped (PyData.list [.bool a, .bool b, .str (S (39 :: (t.cs ++ [39])))]) = true := by
    unfold SeqAt.shaped
    simp only [PyData.canLay0, PyData.canLayAll0, PyData.depth, PyData.depthAll, ok]
    rfl
  refine ⟨.list [.bool a, .bool b, .str (S (39 :: (t.cs ++ [39])))], .list [.bool a, .bool b, .str (S (39 :: (t.cs ++ [39])))], .lst (SqL.of h) (.cons (.bl _) (.cons (.bl _) (.cons (.str _) .nil))), .lst (SqL.of h2) (.cons (.bl _) (.cons (.bl _) (.cons (.str _) .nil))), sh, sh, ?_⟩
  rw [show PyData.eqv (PyData.list [.bool a, .bool b, .str (S (39 :: (t.cs ++ [39])))]) (.list [.bool a, .bool b, .str (S (39 :: (t.cs ++ [39])))]) = true by simp [PyData.eqv, PyData.eqvAll]]
  exact q

theorem goodDict {H : Hp} {p : Addr} (h : H p = some (.dK [])) : Good H (.ref p) (.dict []) := ⟨.dic h .nil, by decide +kernel, by decide +kernel, by decide +kernel, by decide +kernel⟩
theorem goodT1 {H : Hp} {p : Addr} {z : Str} (h : H p = some (.tup [V.str z])) (l : z.length ≤ 100000) (hz : ∀ c ∈ z.cps.toList, c < 16 ^ 8) : Good H (.ref p) (.tuple [.str z]) := by
  have e : (PyData.tuple [PyData.str z]).hasDict = false := by simp [PyData.hasDict, PyData.hasDictAll]
  have b := goodStr1 (H := H) z l hz
  refine ⟨?_, by simp [PyData.showable, PyData.showableAll], by simp [PyData.depth, PyData.depthAll], ?_, ?_⟩
  · rw [e]; exact .tup h (.cons (.str _) .nil)
  · have := b.ls
    simp only [PyData.leavesShort, PyData.leavesShortAll, Bool.and_true] at this ⊢
    exact this
  · have := b.bk
    have e : z.cps.size = z.length := rfl
    simp only [PyData.bulk, PyData.bulkAll] at this ⊢
    omega

theorem exmT (T : Txt w K mg) {C : Addr} {l : List Value} (e : ErrC K C (.ref C :: .ref T.c_TurnError :: l)) : PySem.W.exmOne K (.ref C) (.ref T.c_TurnError) = some true := by
  refine PySem.W.exm_ref T.e_TurnError.ec.hs T.e_TurnError.ec.hd T.e_TurnError.ty ?_
  rw [e.sub rfl, List.contains_cons, List.contains_cons, show ((Value.ref T.c_TurnError) == (Value.ref T.c_TurnError)) = true from beq_self_eq_true _, Bool.true_or, Bool.or_true]
theorem kitFalse (T : Txt w K mg) {C D : Addr} (x : ErrC K C (.ref C :: .ref T.c_TurnError :: veL)) (y : ErrC K D (.ref D :: .ref T.c_TurnError :: veL)) (h1 : C ≠ D) (h2 : D ≠ T.c_TurnError) : PySem.W.kitOne K (.ref C) (.ref D) = some false := by
  rw [kit_own x y, decide_eq_false h1, Bool.false_or]
  have e : ((Value.ref D) == (Value.ref T.c_TurnError)) = false := beq_eq_false_iff_ne.mpr fun z => h2 (Value.ref.inj z)
  have ve : veL.contains (Value.ref D) = false := rfl
  rw [List.contains_cons, e, ve]
  rfl

/-- an error that is caught and kept (slots i, j) -/
theorem out_keep (T : Txt w K mg) {C : Addr} {f : Str} {u : V} {H : Hp} {i j : Nat} {D : Ends} {σ : L2.St} (eC : ErrC K C (.ref C :: .ref T.c_TurnError :: veL))
    (go : ∀ H4, Same H H4 → ∀ a, Kept H4 a C [(f, u)] → D.nx (((σ.set i (some (.ref a))).set j (some (.ref a))).set i none) H4) :
    OutF C f u H fun cls d H3 => wKeep K (.ref T.c_TurnError) i j (fun _ _ _ _ => False) D cls d σ H3 := fun d' H2 s2 nd hd => by
  refine ⟨C, true, rfl, exmT T eC, fun _ a na => ?_, fun z => by cases z⟩
  have da : d' ≠ a := fun z => by rw [z, na] at hd; cases hd
  exact go _ (s2.new (s2.free na) (kxo a C (some d'))) a ⟨d', upd_same, by rw [upd_ne da]; exact hd⟩
theorem NotMove.same {T : Txt w K mg} {H H' : Hp} {v : V} (h : NotMove T H v) (s : Same H H') : NotMove T H' v := let ⟨t, a, b⟩ := h; ⟨t, tyX_same a s, b⟩

theorem ok_law_caught (T : Txt w K mg) : FnG P w K mg base CX0 16 T.a_law_caught T.fd_law_caught ["_law_move", "_law_often"] (sp_law_caught T) := by
  refine okG T.F_law_caught sc_law_caught (fun vs H Q E h => ?_) (fun cdv A outer s H vs Q E hG hr h => ?_)
  · obtain ⟨_, _, _, _, _, rfl, _⟩ := h; rfl
  obtain ⟨v, u, A', B', z, rfl, m, za, nw, sh, q⟩ := h
  have hru := hr.units
  refine ⟨_, (pss_cons (ps_set (i := 2) sc_law_caught.nd rfl (by first | exact Or.inl rfl | exact Or.inr rfl) pe_non)
    (pss_cons (ps_try_keep (i := 3) (j := 2) rfl rfl rfl sc_law_caught.nd rfl rfl rfl rfl (by decide) ⟨by rfl, by decide, .inl T.g_TurnError⟩ takes0 (fun W pn xe tk po => (pss_one (ps_expr (OW.pe_methX (pv 0) T.l_Move T.t_Move_times (ok_Move_times T) tk (hr.mono (by first | decide | omega)) T.b_Move_times (pa_cons (pv 1) pa_nil))))) (fun a pn => pss_one (ps_set (i := 2) sc_law_caught.nd rfl (by first | exact Or.inl rfl | exact Or.inr rfl) (pv 3))))
    (pss_one (ps_ret (pe_and (pe_callB call_isQ (by rfl) T.z_isinstance (by decide +kernel) (pa_cons (pv 2) (pa_cons (pe_glob (v := .ref T.c_InvalidNumber) (by rfl) T.g_InvalidNumber rfl) pa_nil))) (pe_one (pe_cmpR op_eq (pe_callB (OW.cr_reprA hG hru T.o_Move___repr__ (ok_Move___repr__ T) (hr.mono (by first | decide | omega)) T.b_Move___repr__ pass0) (by rfl) T.z_repr (by decide +kernel) (pa_cons (pe_qx (pv 2)) pa_nil)) (pe_callB (OW.cr_reprA hG hru T.o_Move___repr__ (ok_Move___repr__ T) (hr.mono (by first | decide | omega)) T.b_Move___repr__ pass0) (by rfl) T.z_repr (by decide +kernel) (pa_cons (pv 1) pa_nil)) (nomark _)))))))), ?_⟩
  simp only [cxOf_K, tAsg2, tYes, wipe, tSeq, tIfS, tNot, tB, tCB, tCons, tNil, tVar, tC, tTest, tOp, tAnd, tOr, tAsg, gName, tRet, tRetN, tDrop, tNext, tIf, tCall, tTup, tLst, tNotV, tAndV, tOrV, tUn, rI0, rI, rU, rEq, rNe, tM1, tM0, tBM, tBM0, tSl, tPart, tNoPart, iStr, iEnumS, iRng1, iRng2, iList, gSub, tBits, tAug, tPar, L2.start, List.map_cons, List.map_nil, List.length_cons, List.length_nil, List.getElem?_cons_zero, List.getElem?_cons_succ, List.cons_append, List.nil_append, List.append_nil, List.set_cons_zero, List.set_cons_succ, List.replicate_succ, List.replicate_zero, Option.some.injEq, exists_eq_left', V.int.injEq, V.str.injEq, V.ref.injEq, V.bl.injEq, exists_and_left, exists_eq_left, List.cons.injEq, and_true, true_and, tCallX, tRs, tProp, OW.tSMeth, OW.tCallI, Nat.sub_self, List.replicate_zero, tFld, sFld, sFldAug, tDGet, tDIn, tDNotIn, sDPut, tMeth, tMake, tDNewK, OW.tMethX]
  obtain ⟨ab, pv, dxv, rfl, hpv⟩ := id m
  refine ⟨pv, rfl, _, _, hpv, mf_times _ _, _, u, A', B', rfl, m, za, .inr ⟨nw, out_keep T T.e_InvalidNumber fun H4 s4 a kp => ?_⟩⟩
  simp only [tQx, cxOf_K, tAsg2, tYes, wipe, tSeq, tIfS, tNot, tB, tCB, tCons, tNil, tVar, tC, tTest, tOp, tAnd, tOr, tAsg, gName, tRet, tRetN, tDrop, tNext, tIf, tCall, tTup, tLst, tNotV, tAndV, tOrV, tUn, rI0, rI, rU, rEq, rNe, tM1, tM0, tBM, tBM0, tSl, tPart, tNoPart, iStr, iEnumS, iRng1, iRng2, iList, gSub, tBits, tAug, tPar, L2.start, List.map_cons, List.map_nil, List.length_cons, List.length_nil, List.getElem?_cons_zero, List.getElem?_cons_succ, List.cons_append, List.nil_append, List.append_nil, List.set_cons_zero, List.set_cons_succ, List.replicate_succ, List.replicate_zero, Option.some.injEq, exists_eq_left', V.int.injEq, V.str.injEq, V.ref.injEq, V.bl.injEq, exists_and_left, exists_eq_left, List.cons.injEq, and_true, true_and, tCallX, tRs, tProp, OW.tSMeth, OW.tCallI, Nat.sub_self, List.replicate_zero, tFld, sFld, sFldAug, tDGet, tDIn, tDNotIn, sDPut, tMeth, tMake, tDNewK]
  refine ⟨a, T.c_InvalidNumber, _, _, _, true, rfl, T.e_InvalidNumber.ec, kp, .own _, kitSelf, ⟨_, rfl, ?_⟩⟩
  rw [if_pos rfl]
  refine ⟨T.c_InvalidNumber, T.x_InvalidNumber, T.n_InvalidNumber, _, kp, u, rfl, (sh.same s4).repr ((sh.same s4).repr ⟨rfl, ?_⟩)⟩
  rw [decide_eq_true rfl]
  exact q _ s4

theorem ok_law_product (T : Txt w K mg) : FnOk P w K mg base CX0 20 T.a_law_product T.fd_law_product ["_law_move", "_law_often"] (sp_law_product T) := by
  refine T.F_law_product.ok sc_law_product (fun vs H Q E h => ?_) (fun cdv A outer s H vs Q E hr h => ?_)
  · obtain ⟨_, _, _, _, rfl, _⟩ := h; rfl
  obtain ⟨v, i, A', B', rfl, m, hi, za, hs, q⟩ := h
  have hru := hr.units
  refine ⟨_, (pss_cons (ps_set (i := 2) sc_law_product.nd rfl (by first | exact Or.inl rfl | exact Or.inr rfl) (pe_ifExp (pt_cmpR op_ge (pv 1) pe_int (nomark _)) (pv 0) (pe_un (OW.un_inv1 T.o_Move___invert__ (ok_Move___invert__ T) (hr.mono (by first | decide | omega)) T.b_Move___invert__ pass0) (pv 0))))
    (pss_cons (ps_set (i := 3) sc_law_product.nd rfl (by first | exact Or.inl rfl | exact Or.inr rfl) (pe_make T.k_Move (ok_Move___init__ T) (hr.mono (by first | decide | omega)) (by rfl) T.g_Move T.b_Move___init__ .nil passL (pa_cons pe_str (pa_cons pe_str pa_nil))))
    (pss_cons (ps_for PassesOwn.never rfl (pi_range1 rfl T.z_range (pa_cons (pe_callB call_abs (by rfl) T.z_abs (by decide +kernel) (pa_cons (pv 1) pa_nil)) pa_nil)) (pg_name (i := 4) sc_law_product.nd rfl (by first | exact Or.inl rfl | exact Or.inr rfl)) (pss_one (ps_set (i := 3) sc_law_product.nd rfl (by first | exact Or.inl rfl | exact Or.inr rfl) (pe_op (OW.op_own2 T.sf_Move T.o_Move___mul__ (ok_Move___mul__ T) (hr.mono (by first | decide | omega)) T.b_Move___mul__ pass0) (pv 3) (pv 2)))))
    (pss_one (ps_ret (pv 3)))))), ?_⟩
  simp only [cxOf_K, tAsg2, tYes, wipe, tSeq, tIfS, tNot, tB, tCB, tCons, tNil, tVar, tC, tTest, tOp, tAnd, tOr, tAsg, gName, tRet, tRetN, tDrop, tNext, tIf, tCall, tTup, tLst, tNotV, tAndV, tOrV, tUn, rI0, rI, rU, rEq, rNe, tM1, tM0, tBM, tBM0, tSl, tPart, tNoPart, iStr, iEnumS, iRng1, iRng2, iList, gSub, tBits, tAug, tPar, L2.start, List.map_cons, List.map_nil, List.length_cons, List.length_nil, List.getElem?_cons_zero, List.getElem?_cons_succ, List.cons_append, List.nil_append, List.append_nil, List.set_cons_zero, List.set_cons_succ, List.replicate_succ, List.replicate_zero, Option.some.injEq, exists_eq_left', V.int.injEq, V.str.injEq, V.ref.injEq, V.bl.injEq, exists_and_left, exists_eq_left, List.cons.injEq, and_true, true_and, tCallX, tRs, tProp, OW.tSMeth, OW.tCallI, Nat.sub_self, List.replicate_zero, tFld, sFld, sFldAug, tDGet, tDIn, tDNotIn, sDPut, tMeth, tMake, tDNewK]
  have key : ∀ (w' : V) (x : Addr) (H1 H2 : Hp) (X Y : Tr), Mv T.c_Move H2 w' X Y → Same H H2 → H x = none → Mv T.c_Move H2 (.ref x) .leaf .leaf → X.size = A'.size → (∀ p H', H p = none → Same H H' → Mv T.c_Move H' (.ref p) (powT (X, Y) i.natAbs).1 (powT (X, Y) i.natAbs).2 → Q (.ref p) H') →
      tFor (iRng1 (tCons (tCB (fun xs H Q => ∃ i, xs = [V.int i] ∧ Q (V.int (if i < 0 then -i else i)) H) (tCons (tVar 1) tNil)) tNil)) (gName 4) (tAsg (tOp (OW.rOwn2 T.c_Move (sp_Move___mul__ T) E0) (tVar 3) (tVar 2)) (gName 3))
        { nx := tRet (tVar 3) { nx := fun x H' => Q V.non H', rt := Q }, rt := Q } [some v, some (V.int i), some w', some (V.ref x), none] H2 := by
    intro w' x H1 H2 X Y mw sH nx mx xz qq
    have xl := mw.lvs
    have xs : i.natAbs * X.size ≤ 1000 := by rw [xz]; exact hs
    have pw : ∀ k, k ≤ i.natAbs → (powT (X, Y) k).1.size ≤ 1000 := fun k hk => Nat.le_trans (pow_ok xl k).2 (Nat.le_trans (Nat.mul_le_mul_right _ hk) xs)
    have eN : (if i < 0 then -i else i) = ((i.natAbs : Nat) : Int) := by split <;> omega
    refine ⟨_, rfl, i, rfl, (i.natAbs : Int), ?_, by omega, by omega, for_range (fun j σ H' => ∃ pz a4, σ = [some v, some (.int i), some w', some (V.ref pz), a4] ∧ H pz = none ∧ Same H2 H' ∧ Mv T.c_Move H' (.ref pz) (powT (X, Y) j).1 (powT (X, Y) j).2) ⟨x, _, rfl, nx, L2.Same.refl H2, mx⟩ ?_ ?_⟩
    · rw [eN]
    · rintro j σ H3 hj ⟨pz, a4, rfl, nz, s3, m3⟩
      simp only [cxOf_K, tAsg2, tYes, wipe, tSeq, tIfS, tNot, tB, tCB, tCons, tNil, tVar, tC, tTest, tOp, tAnd, tOr, tAsg, gName, tRet, tRetN, tDrop, tNext, tIf, tCall, tTup, tLst, tNotV, tAndV, tOrV, tUn, rI0, rI, rU, rEq, rNe, tM1, tM0, tBM, tBM0, tSl, tPart, tNoPart, iStr, iEnumS, iRng1, iRng2, iList, gSub, tBits, tAug, tPar, L2.start, List.map_cons, List.map_nil, List.length_cons, List.length_nil, List.getElem?_cons_zero, List.getElem?_cons_succ, List.cons_append, List.nil_append, List.append_nil, List.set_cons_zero, List.set_cons_succ, List.replicate_succ, List.replicate_zero, Option.some.injEq, exists_eq_left', V.int.injEq, V.str.injEq, V.ref.injEq, V.bl.injEq, exists_and_left, exists_eq_left, List.cons.injEq, and_true, true_and, tCallX, tRs, tProp, OW.tSMeth, OW.tCallI, Nat.sub_self, List.replicate_zero, tFld, sFld, sFldAug, tDGet, tDIn, tDNotIn, sDPut, tMeth, tMake, tDNewK]
      refine mulS T m3 (mw.same s3) (pw j (by omega)) (by omega) fun p4 H4 n4 s4 m4 => ?_
      exact ⟨p4, _, ⟨rfl, rfl⟩, (sH.trans s3).free n4, s3.trans s4, m4⟩
    · rintro σ H3 ⟨pz, a4, rfl, nz, s3, m3⟩
      simp only [cxOf_K, tAsg2, tYes, wipe, tSeq, tIfS, tNot, tB, tCB, tCons, tNil, tVar, tC, tTest, tOp, tAnd, tOr, tAsg, gName, tRet, tRetN, tDrop, tNext, tIf, tCall, tTup, tLst, tNotV, tAndV, tOrV, tUn, rI0, rI, rU, rEq, rNe, tM1, tM0, tBM, tBM0, tSl, tPart, tNoPart, iStr, iEnumS, iRng1, iRng2, iList, gSub, tBits, tAug, tPar, L2.start, List.map_cons, List.map_nil, List.length_cons, List.length_nil, List.getElem?_cons_zero, List.getElem?_cons_succ, List.cons_append, List.nil_append, List.append_nil, List.set_cons_zero, List.set_cons_succ, List.replicate_succ, List.replicate_zero, Option.some.injEq, exists_eq_left', V.int.injEq, V.str.injEq, V.ref.injEq, V.bl.injEq, exists_and_left, exists_eq_left, List.cons.injEq, and_true, true_and, tCallX, tRs, tProp, OW.tSMeth, OW.tCallI, Nat.sub_self, List.replicate_zero, tFld, sFld, sFldAug, tDGet, tDIn, tDNotIn, sDPut, tMeth, tMake, tDNewK]
      rw [show ((i.natAbs : Int)).toNat = i.natAbs by omega] at m3
      exact qq pz H3 nz (sH.trans s3) m3
  have e := m.1
  by_cases h0 : 0 ≤ i
  · rw [if_pos (by simpa using h0)]
    refine make_mv3 T (A := .leaf) (B := .leaf) (by decide) rfl fun px H2 n2 s2 mx => ?_
    refine key v px H H2 A' B' (m.same s2) s2 n2 mx rfl ?_
    by_cases hz : i = 0
    · subst hz; exact q
    · rw [if_pos (by omega)] at q; exact q
  · rw [if_neg (by simpa using h0)]
    refine ⟨m.isc, v, A', B', rfl, m, za, fun p1 H1 n1 s1 m1 => ?_⟩
    refine make_mv3 T (A := .leaf) (B := .leaf) (by decide) rfl fun px H2 n2 s2 mx => ?_
    refine key _ px H1 H2 B' A' (m1.same s2) (s1.trans s2) (s1.free n2) mx e.symm ?_
    rw [if_neg (by omega)] at q; exact q

theorem isA_count : ∀ a : List Nat, a.count 108 + a.count 114 ≤ a.length ∧ (isA a = true ↔ a.count 108 + a.count 114 = a.length)
  | [] => ⟨Nat.le_refl _, by simp [isA]⟩
  | c :: a => by
    obtain ⟨h1, h2⟩ := isA_count a
    have e : isA (c :: a) = ((c == 108 || c == 114) && isA a) := rfl
    rw [e, List.count_cons, List.count_cons, List.length_cons]
    by_cases h : c = 108
    · subst h
      rw [show ((108 : Nat) == 108) = true from rfl, show ((108 : Nat) == 114) = false from rfl, Bool.true_or, Bool.true_and, h2]
      simp
      omega
    · by_cases h' : c = 114
      · subst h'
        rw [show ((114 : Nat) == 108) = false from rfl, show ((114 : Nat) == 114) = true from rfl, Bool.or_true, Bool.true_and, h2]
        simp
        omega
      · have e1 : (c == 108) = false := by simp [h]
        have e2 : (c == 114) = false := by simp [h']
        rw [e1, e2]
        simp
        omega
theorem isA_dec (a : List Nat) : decide (((a.count 108 : Nat) : Int) + ((a.count 114 : Nat) : Int) = ((a.length : Nat) : Int)) = isA a := by
  obtain ⟨_, h⟩ := isA_count a
  cases e : isA a with
  | true => exact decide_eq_true (by have := h.mp e; omega)
  | false => exact decide_eq_false (fun z => by rw [h.mpr (by omega)] at e; cases e)
theorem ok_is_address (T : Txt w K mg) : FnOk P w K mg base CX0 1 T.a_is_address T.fd_is_address ["value"] (sp_is_address K) := by
  refine T.F_is_address.ok sc_is_address (fun vs H Q E h => ?_) (fun cdv A outer s H vs Q E hr h => ?_)
  · obtain ⟨v, rfl, _⟩ := h; rfl
  obtain ⟨v, rfl, h⟩ := h
  refine ⟨_, (pss_one (ps_ret (pe_and (pe_callB call_isi (by rfl) T.z_isinstance (by decide +kernel) (pa_cons (pv 0) (pa_cons (pe_bltn (v := .ty "str") (by rfl) T.z_str (by decide +kernel) rfl) pa_nil))) (pe_one (pe_cmpR op_eq (pe_op op_add (pe_m1 PySem.F.slot_str_count PySem.F.type_str_count mt_count (pv 0) pe_str) (pe_m1 PySem.F.slot_str_count PySem.F.type_str_count mt_count (pv 0) pe_str)) (pe_callB call_len_str (by rfl) T.z_len PySem.boot_len (pa_cons (pv 0) pa_nil)) (nomark _)))))), ?_⟩
  simp only [cxOf_K, tAsg2, tYes, wipe, tSeq, tIfS, tNot, tB, tCB, tCons, tNil, tVar, tC, tTest, tOp, tAnd, tOr, tAsg, gName, tRet, tRetN, tDrop, tNext, tIf, tCall, tTup, tLst, tNotV, tAndV, tOrV, tUn, rI0, rI, rU, rEq, rNe, tM1, tM0, tBM, tBM0, tSl, tPart, tNoPart, iStr, iEnumS, iRng1, iRng2, iList, gSub, tBits, tAug, tPar, L2.start, List.map_cons, List.map_nil, List.length_cons, List.length_nil, List.getElem?_cons_zero, List.getElem?_cons_succ, List.cons_append, List.nil_append, List.append_nil, List.set_cons_zero, List.set_cons_succ, List.replicate_succ, List.replicate_zero, Option.some.injEq, exists_eq_left', V.int.injEq, V.str.injEq, V.ref.injEq, V.bl.injEq, exists_and_left, exists_eq_left, List.cons.injEq, and_true, true_and, tCallX, tRs]
  rcases h with ⟨x, rfl, hx, q⟩ | ⟨⟨t, ht, hk⟩, q⟩
  · refine ⟨_, _, _, _, true, rfl, .ty _, .base (.str _), kit_ty (by decide +kernel), _, rfl, ?_⟩
    rw [if_pos rfl]
    have sl : (S x).length = x.length := S_len x
    refine ⟨⟨_, rfl⟩, S x, rfl, ⟨_, rfl⟩, S x, rfl, S x, rfl, small5 (by omega), rfl, ?_⟩
    rw [show Str.ofString "l" = S [108] by decide +kernel, show Str.ofString "r" = S [114] by decide +kernel, count_S, count_S, sl, isA_dec]
    exact q
  · refine ⟨_, _, _, _, false, rfl, .ty _, ht, hk, _, rfl, ?_⟩
    rw [if_neg Bool.false_ne_true]
    exact q

theorem okStW {n : Nat} {x : Str × List Nat} (h : okSt n x) : (kv_OTHER_WORD.lookup x.1).isSome = true := by
  rcases h.1 with e | e
  · rw [e]; decide +kernel
  · rw [e]; decide +kernel
theorem noW {z : Str} (h1 : z ≠ Str.ofString "left") (h2 : z ≠ Str.ofString "right") : (kv_OTHER_WORD.lookup z).isSome = false := by
  have e1 : (z == Str.ofString "left") = false := beq_eq_false_iff_ne.mpr h1
  have e2 : (z == Str.ofString "right") = false := beq_eq_false_iff_ne.mpr h2
  show (List.lookup z [((Str.ofString "left" : Str), (Str.ofString "right" : Str)), (Str.ofString "right", Str.ofString "left")]).isSome = false
  simp [List.lookup, e1, e2]
theorem ok_is_step (T : Txt w K mg) : FnOk P w K mg base CX0 2 T.a_is_step T.fd_is_step ["value"] (sp_is_step K) := by
  refine T.F_is_step.ok sc_is_step (fun vs H Q E h => ?_) (fun cdv A outer s H vs Q E hr h => ?_)
  · obtain ⟨v, rfl, _⟩ := h; rfl
  obtain ⟨v, rfl, h⟩ := h
  refine ⟨_, (pss_cons (ps_if (pw_or (pt_not (pt_val (pe_callB call_isi (by rfl) T.z_isinstance (by decide +kernel) (pa_cons (pv 0) (pa_cons (pe_bltn (v := .ty "tuple") (by rfl) T.z_tuple (by decide +kernel) rfl) pa_nil))))) (pw_or1 (pt_cmpR op_ne (pe_callB call_len_seq (by rfl) T.z_len PySem.boot_len (pa_cons (pv 0) pa_nil)) pe_int (nomark _)))).pt (pss_one (ps_ret pe_bl)) pss_nil)
    (pss_one (ps_ret (pe_and (pe_callB call_isi (by rfl) T.z_isinstance (by decide +kernel) (pa_cons (pe_ix ix_tup (pv 0) pe_int (fun _ _ => rfl)) (pa_cons (pe_bltn (v := .ty "str") (by rfl) T.z_str (by decide +kernel) rfl) pa_nil))) (pe_and (pe_cmpR (TD.op_inKD T.k_OTHER_WORD) (pe_ix ix_tup (pv 0) pe_int (fun _ _ => rfl)) (pe_glob (v := .ref T.d_OTHER_WORD) (by rfl) T.m_OTHER_WORD rfl) (by with_unfolding_all rfl)) (pe_one (pe_call (ok_is_address T) (hr.mono (by first | decide | omega)) (by rfl) T.m_is_address T.F_is_address.kp T.b_is_address .nil pass0 (pa_cons (pe_ix ix_tup (pv 0) pe_int (fun _ _ => rfl)) pa_nil)))))))), ?_⟩
  simp only [cxOf_K, tAsg2, tYes, wipe, tSeq, tIfS, tNot, tB, tCB, tCons, tNil, tVar, tC, tTest, tOp, tAnd, tOr, tAsg, gName, tRet, tRetN, tDrop, tNext, tIf, tCall, tTup, tLst, tNotV, tAndV, tOrV, tUn, rI0, rI, rU, rEq, rNe, tM1, tM0, tBM, tBM0, tSl, tPart, tNoPart, iStr, iEnumS, iRng1, iRng2, iList, gSub, tBits, tAug, tPar, L2.start, List.map_cons, List.map_nil, List.length_cons, List.length_nil, List.getElem?_cons_zero, List.getElem?_cons_succ, List.cons_append, List.nil_append, List.append_nil, List.set_cons_zero, List.set_cons_succ, List.replicate_succ, List.replicate_zero, Option.some.injEq, exists_eq_left', V.int.injEq, V.str.injEq, V.ref.injEq, V.bl.injEq, exists_and_left, exists_eq_left, List.cons.injEq, and_true, true_and, tCallX, tRs]
  rcases h with ⟨⟨p, x, rfl, hp, ok⟩, q⟩ | ⟨ns, q⟩
  · refine ⟨_, _, _, _, true, rfl, .ty _, .base (.tup hp), kit_ty (by decide +kernel), true, rfl, ?_⟩
    rw [if_neg (by decide)]
    refine ⟨p, rfl, _, .inr (SqT.of hp), rfl, ?_⟩
    rw [if_neg (by simp)]
    refine ⟨p, _, _, _, rfl, rfl, SqT.of hp, atI_nat (j := 0) rfl, _, _, _, _, true, rfl, .ty _, .base (.str _), kit_ty (by decide +kernel), _, rfl, ?_⟩
    rw [if_pos rfl]
    refine ⟨p, _, _, _, rfl, rfl, SqT.of hp, atI_nat (j := 0) rfl, _, rfl, rfl, _, rfl, ?_⟩
    rw [okStW ok, if_pos rfl]
    refine ⟨p, _, _, _, rfl, rfl, SqT.of hp, atI_nat (j := 1) rfl, _, rfl, .inl ⟨x.2, rfl, by have := ok.2.2; omega, ?_⟩⟩
    rw [ok.2.1]
    exact q
  · rcases ns with ⟨ty, h1, h2⟩ | ⟨p, ws, rfl, hp, hl⟩ | ⟨p, x, y, rfl, hp, r⟩
    · refine ⟨v, _, ty, _, false, rfl, .ty _, h1, h2, false, rfl, ?_⟩
      rw [if_pos (by decide), if_pos (by decide)]
      exact q
    · refine ⟨_, _, _, _, true, rfl, .ty _, .base (.tup hp), kit_ty (by decide +kernel), true, rfl, ?_⟩
      rw [if_neg (by decide)]
      refine ⟨p, rfl, _, .inr (SqT.of hp), rfl, ?_⟩
      rw [if_pos (by rw [decide_eq_false (by omega)]; rfl)]
      exact q
    · refine ⟨_, _, _, _, true, rfl, .ty _, .base (.tup hp), kit_ty (by decide +kernel), true, rfl, ?_⟩
      rw [if_neg (by decide)]
      refine ⟨p, rfl, _, .inr (SqT.of hp), rfl, ?_⟩
      rw [if_neg (by simp)]
      rcases r with ⟨ty, h1, h2⟩ | ⟨z, rfl, n1, n2⟩ | ⟨hx, na⟩
      · refine ⟨p, _, _, _, rfl, rfl, SqT.of hp, atI_nat (j := 0) rfl, _, _, _, _, false, rfl, .ty _, h1, h2, _, rfl, ?_⟩
        rw [if_neg Bool.false_ne_true]
        exact q
      · refine ⟨p, _, _, _, rfl, rfl, SqT.of hp, atI_nat (j := 0) rfl, _, _, _, _, true, rfl, .ty _, .base (.str _), kit_ty (by decide +kernel), _, rfl, ?_⟩
        rw [if_pos rfl]
        refine ⟨p, _, _, _, rfl, rfl, SqT.of hp, atI_nat (j := 0) rfl, _, rfl, rfl, _, rfl, ?_⟩
        rw [noW n1 n2, if_neg Bool.false_ne_true]
        exact q
      · obtain ⟨z, rfl, hz⟩ : ∃ z : Str, x = .str z ∧ (kv_OTHER_WORD.lookup z).isSome = true := by
          rcases hx with rfl | rfl
          · exact ⟨_, rfl, by decide +kernel⟩
          · exact ⟨_, rfl, by decide +kernel⟩
        refine ⟨p, _, _, _, rfl, rfl, SqT.of hp, atI_nat (j := 0) rfl, _, _, _, _, true, rfl, .ty _, .base (.str _), kit_ty (by decide +kernel), _, rfl, ?_⟩
        rw [if_pos rfl]
        refine ⟨p, _, _, _, rfl, rfl, SqT.of hp, atI_nat (j := 0) rfl, _, rfl, rfl, _, rfl, ?_⟩
        rw [hz, if_pos rfl]
        refine ⟨p, _, _, _, rfl, rfl, SqT.of hp, atI_nat (j := 1) rfl, _, rfl, ?_⟩
        rcases na with ⟨a, rfl, ha, hi⟩ | ns
        · refine .inl ⟨a, rfl, ha, ?_⟩
          rw [hi]
          exact q
        · exact .inr ⟨ns, q⟩

theorem Stps.get {H : Hp} : ∀ {vs : List V} {xs : List (Str × List Nat)} {i : Nat} {v : V}, Stps H vs xs → vs[i]? = some v → ∃ p x, v = .ref p ∧ xs[i]? = some x ∧ H p = some (.tup [.str x.1, sV x.2])
  | _, _, _, _, .nil, h => by simp at h
  | _, _, 0, v, @Stps.cons _ p x _ _ g t, h => ⟨p, x, by simpa using h.symm, rfl, g⟩
  | _, _, i + 1, v, .cons g t, h => by
    obtain ⟨p, x, e, h2, h3⟩ := Stps.get t (by simpa using h)
    exact ⟨p, x, e, by simpa using h2, h3⟩
theorem Stps.snoc {H : Hp} {vs : List V} {xs : List (Str × List Nat)} {p : Addr} {x : Str × List Nat} (h : Stps H vs xs) (g : H p = some (.tup [.str x.1, sV x.2])) : Stps H (vs ++ [.ref p]) (xs ++ [x]) := h.append (.cons g .nil)
theorem GoodS.isStep {H : Hp} {vs : List V} {xs : List (Str × List Nat)} (h : Stps H vs xs) (ok : ∀ x ∈ xs, okSt 3000 x) {i : Nat} {v : V} (e : vs[i]? = some v) : IsStep H v := by
  obtain ⟨p, x, rfl, h2, h3⟩ := h.get e
  exact ⟨p, x, rfl, h3, ok x (List.mem_of_getElem? h2)⟩
/-- one step more -/
theorem Stps.push {H : Hp} {D p : Addr} {us : List V} {ys : List (Str × List Nat)} {x : Str × List Nat} (hd : H D = some (.lst us)) (st : Stps H us ys) (np : H p = none) :
    Stps (upd (upd H p (.tup [.str x.1, sV x.2])) D (.lst (us ++ [.ref p]))) (us ++ [.ref p]) (ys ++ [x]) := by
  have pd : p ≠ D := fun z => by rw [z, hd] at np; cases np
  refine Stps.snoc (st.mono fun b vs hb => ?_) ?_
  · have b1 : b ≠ D := fun z => by rw [z, hd] at hb; cases hb
    have b2 : b ≠ p := fun z => by rw [z, np] at hb; cases hb
    rw [upd_ne b1, upd_ne b2]
    exact hb
  · rw [upd_ne pd, upd_same]
/-- what a turn of a comprehension that makes steps must show -/
theorem stepTail {H0 H2 : Hp} {D p2 : Addr} {us : List V} {ys : List (Str × List Nat)} {y : Str × List Nat} {i : Nat} (hD0 : H0 D = none) (s2 : Same H0 H2) (hd : H2 D = some (.lst us)) (ul : us.length = i) (su : Stps H2 us (ys.take i)) (hy : ys[i]? = some y) (hi : i ≤ 10000) (np : H2 p2 = none) :
    ∃ acc, upd H2 p2 (.tup [.str y.1, sV y.2]) D = some (.lst acc) ∧ acc.length < sizeLine ∧ Same H0 (upd (upd H2 p2 (.tup [.str y.1, sV y.2])) D (.lst (acc ++ [.ref p2]))) ∧
      ∃ us, upd (upd H2 p2 (.tup [.str y.1, sV y.2])) D (.lst (acc ++ [.ref p2])) D = some (.lst us) ∧ us.length = i + 1 ∧ Stps (upd (upd H2 p2 (.tup [.str y.1, sV y.2])) D (.lst (acc ++ [.ref p2]))) us (ys.take (i + 1)) := by
  have pD : p2 ≠ D := fun z => by rw [z, hd] at np; cases np
  refine ⟨us, by rw [upd_ne pD.symm]; exact hd, small5' (by omega), (s2.new (s2.free np) _).new hD0 _, us ++ [.ref p2], upd_same, by simp [ul], ?_⟩
  rw [List.take_succ, hy]
  exact Stps.push hd su np
theorem wordLen {n : Nat} {x : Str × List Nat} (h : okSt n x) : x.1.length ≤ 5 := by
  rcases h.1 with e | e
  · rw [e]; decide +kernel
  · rw [e]; decide +kernel
theorem ok_checked_script (T : Txt w K mg) : FnOk P w K mg base (L2.CX P w) 4 T.a_checked_script T.fd_checked_script ["steps"] (sp_checked_script T) := by
  refine T.F_checked_script.okX sc_checked_script (fun vs H Q E h => ?_) (fun cdv A outer s H vs Q E hr h => ?_)
  · obtain ⟨v, rfl, _⟩ := h; rfl
  obtain ⟨v, rfl, h⟩ := h
  refine ⟨_, (pss_cons (ps_if (pw_or (pt_not (pt_val (pe_callB call_isi (by rfl) T.z_isinstance (by decide +kernel) (pa_cons (pv 0) (pa_cons (pe_bltn (v := .ty "list") (by rfl) T.z_list (by decide +kernel) rfl) pa_nil))))) (pw_or1 (pt_not (pt_val (pe_callB (cr_all rfl) (by rfl) T.z_all (by decide +kernel) (pa_cons (pe_lc (own := [("step", 1)]) rfl sc_checked_script.nd (pi_list (pv 0)) (blkOk_by (own := [("step", 1)]) (N := nm_checked_script) (sc := defScope s_checked_script) (by decide +kernel)) (fun _ _ _ _ _ => by exact (pg_name (i := 1) sc_checked_script.nd rfl (by first | exact Or.inl rfl | exact Or.inr rfl))) (fun _ _ _ _ _ => by exact pts_nil) (fun _ _ _ _ _ => by exact (pe_call (ok_is_step T) (hr.mono (by first | decide | omega)) (by rfl) T.m_is_step T.F_is_step.kp T.b_is_step .nil pass0 (pa_cons (pv 1) pa_nil)))) pa_nil)))))).pt (pss_one (ps_raise rfl (takes_of rfl rfl rfl rfl) (pmk_err T.o_InvalidScript (hr.mono (by first | decide | omega)) (by rfl) (pv 0)))) pss_nil)
    (pss_one (ps_ret (pe_lc (own := [("word", 2), ("address", 3)]) rfl sc_checked_script.nd (pi_list (pv 0)) (blkOk_by (own := [("word", 2), ("address", 3)]) (N := nm_checked_script) (sc := defScope s_checked_script) (by decide +kernel)) (fun _ _ _ _ _ => by exact (show L2.PG _ _ (gTup K 2 _) from (pg_tup rfl (pgs_cons (pg_name (i := 2) sc_checked_script.nd rfl (by first | exact Or.inl rfl | exact Or.inr rfl)) (pgs_cons (pg_name (i := 3) sc_checked_script.nd rfl (by first | exact Or.inl rfl | exact Or.inr rfl)) pgs_nil))))) (fun _ _ _ _ _ => by exact pts_nil) (fun _ _ _ _ _ => by exact (pe_tup (pa_cons (pe_slice sl_str (pv 2) po_none po_none) (pa_cons (pe_slice sl_str (pv 3) po_none po_none) pa_nil)))))))), ?_⟩
  simp only [cxOf_K, tAsg2, tYes, wipe, tSeq, tIfS, tNot, tB, tCB, tCons, tNil, tVar, tC, tTest, tOp, tAnd, tOr, tAsg, gName, tRet, tRetN, tDrop, tNext, tIf, tCall, tTup, tLst, tNotV, tAndV, tOrV, tUn, rI0, rI, rU, rEq, rNe, tM1, tM0, tBM, tBM0, tSl, tPart, tNoPart, iStr, iEnumS, iRng1, iRng2, iList, gSub, tBits, tAug, tPar, L2.start, List.map_cons, List.map_nil, List.length_cons, List.length_nil, List.getElem?_cons_zero, List.getElem?_cons_succ, List.cons_append, List.nil_append, List.append_nil, List.set_cons_zero, List.set_cons_succ, List.replicate_succ, List.replicate_zero, Option.some.injEq, exists_eq_left', V.int.injEq, V.str.injEq, V.ref.injEq, V.bl.injEq, exists_and_left, exists_eq_left, List.cons.injEq, and_true, true_and, tCallX, tRs]
  rcases h with ⟨xs, ⟨a, ws, rfl, ha, st, hl, ok⟩, q⟩ | ⟨⟨ty, h1, h2⟩ | ⟨a, ws, rfl, ha, hl, al, u0, hu0, nu0⟩, out⟩
  · refine ⟨_, _, _, _, true, rfl, .ty _, .base (.lst ha), kit_ty (by decide +kernel), true, rfl, ?_⟩
    rw [if_neg (by decide)]
    refine ⟨_, rfl, a, rfl, ⟨_, SqL.of ha⟩, fun D hD => ?_⟩
    refine lc_list (K := K) (a := a) (xs := ws) (fun i H' => Same H H' ∧ H' D = some (.lst ((List.replicate i true).map V.bl))) ⟨(L2.Same.refl H).new hD _, upd_same⟩ (fun i H' _ hp => SqL.of (hp.1 _ _ ha)) ?_ ?_
    · rintro i x H' hi ⟨s0, hd⟩
      have hil : i < ws.length := (List.getElem?_eq_some_iff.mp hi).1
      simp only [cxOf_K, tAsg2, tYes, wipe, tSeq, tIfS, tNot, tB, tCB, tCons, tNil, tVar, tC, tTest, tOp, tAnd, tOr, tAsg, gName, tRet, tRetN, tDrop, tNext, tIf, tCall, tTup, tLst, tNotV, tAndV, tOrV, tUn, rI0, rI, rU, rEq, rNe, tM1, tM0, tBM, tBM0, tSl, tPart, tNoPart, iStr, iEnumS, iRng1, iRng2, iList, gSub, tBits, tAug, tPar, L2.start, List.map_cons, List.map_nil, List.length_cons, List.length_nil, List.getElem?_cons_zero, List.getElem?_cons_succ, List.cons_append, List.nil_append, List.append_nil, List.set_cons_zero, List.set_cons_succ, List.replicate_succ, List.replicate_zero, Option.some.injEq, exists_eq_left', V.int.injEq, V.str.injEq, V.ref.injEq, V.bl.injEq, exists_and_left, exists_eq_left, List.cons.injEq, and_true, true_and, tCallX, tRs]
      rw [if_pos True.intro]
      refine ⟨_, rfl, .inl ⟨(GoodS.isStep st ok hi).same s0, ?_⟩⟩
      refine ⟨_, hd, by simp; exact small5' (by omega), s0.new hD _, ?_⟩
      rw [upd_same]
      show _ = some (HO.lst ((List.replicate (i + 1) true).map V.bl))
      rw [List.replicate_succ', List.map_append]; rfl
    · rintro H' ⟨s0, hd⟩
      refine ⟨D, List.replicate ws.length true, rfl, SqL.of hd, true, by simp, ?_⟩
      refine iteF ?_
      have ha' := s0 _ _ ha
      refine ⟨_, rfl, a, rfl, ⟨_, SqL.of ha'⟩, fun D2 hD2 => ?_⟩
      refine lc_list (K := K) (a := a) (xs := ws) (fun i H2 => Same H' H2 ∧ ∃ us, H2 D2 = some (.lst us) ∧ us.length = i ∧ Stps H2 us (xs.take i)) ⟨(L2.Same.refl H').new hD2 _, [], upd_same, rfl, .nil⟩ (fun i H2 _ hp => SqL.of (hp.1 _ _ ha')) ?_ ?_
      · rintro i x H2 hi ⟨s2, us, hd2, ul, su⟩
        have hil : i < ws.length := (List.getElem?_eq_some_iff.mp hi).1
        obtain ⟨p, x, rfl, hx, hp⟩ := st.get hi
        have hp2 := s2 _ _ (s0 _ _ hp)
        have okx := ok x (List.mem_of_getElem? hx)
        simp only [gTup, gCons, gNil, cxOf_K, tAsg2, tYes, wipe, tSeq, tIfS, tNot, tB, tCB, tCons, tNil, tVar, tC, tTest, tOp, tAnd, tOr, tAsg, gName, tRet, tRetN, tDrop, tNext, tIf, tCall, tTup, tLst, tNotV, tAndV, tOrV, tUn, rI0, rI, rU, rEq, rNe, tM1, tM0, tBM, tBM0, tSl, tPart, tNoPart, iStr, iEnumS, iRng1, iRng2, iList, gSub, tBits, tAug, tPar, L2.start, List.map_cons, List.map_nil, List.length_cons, List.length_nil, List.getElem?_cons_zero, List.getElem?_cons_succ, List.cons_append, List.nil_append, List.append_nil, List.set_cons_zero, List.set_cons_succ, List.replicate_succ, List.replicate_zero, Option.some.injEq, exists_eq_left', V.int.injEq, V.str.injEq, V.ref.injEq, V.bl.injEq, exists_and_left, exists_eq_left, List.cons.injEq, and_true, true_and, tCallX, tRs]
        refine ⟨_, SqT.of hp2, rfl, _, _, rfl, _, _, rfl, rfl, ?_⟩
        rw [if_pos True.intro]
        refine ⟨_, rfl, small5 (by have := wordLen okx; omega), ?_⟩
        rw [cutAll]
        refine ⟨_, rfl, small5 (by rw [S_len]; have := okx.2.2; omega), ?_⟩
        rw [cutAll]
        refine ⟨by decide, fun p2 np2 => ?_⟩
        exact stepTail hD2 s2 hd2 ul su hx (by omega) np2
      · rintro H2 ⟨s2, us, hd2, ul, su⟩
        rw [List.take_of_length_le (Nat.le_of_eq st.length.symm)] at su
        exact q D2 us H2 (s0.free hD2) (s0.trans s2) hd2 su
  · refine ⟨v, _, ty, _, false, rfl, .ty _, h1, h2, false, rfl, ?_⟩
    rw [if_pos (show (!false) = true from rfl), if_pos True.intro]
    exact out
  · refine ⟨_, _, _, _, true, rfl, .ty _, .base (.lst ha), kit_ty (by decide +kernel), true, rfl, ?_⟩
    rw [if_neg (by decide)]
    refine ⟨_, rfl, a, rfl, ⟨_, SqL.of ha⟩, fun D hD => ?_⟩
    refine lc_list (K := K) (a := a) (xs := ws) (fun i H' => Same H H' ∧ ∃ bs : List Bool, bs.length = i ∧ H' D = some (.lst (bs.map V.bl)) ∧ ∀ k u, k < i → ws[k]? = some u → NotStep K H u → bs[k]? = some false) ⟨(L2.Same.refl H).new hD _, [], rfl, upd_same, fun k u h => by omega⟩ (fun i H' _ hp => SqL.of (hp.1 _ _ ha)) ?_ ?_
    · rintro i x H' hi ⟨s0, bs, hb, hd, no⟩
      have hil : i < ws.length := (List.getElem?_eq_some_iff.mp hi).1
      have fin : ∀ b : Bool, (NotStep K H x → b = false) → ∃ acc, H' D = some (.lst acc) ∧ acc.length < sizeLine ∧ Same H (upd H' D (.lst (acc ++ [V.bl b]))) ∧
          ∃ bs : List Bool, bs.length = i + 1 ∧ upd H' D (.lst (acc ++ [V.bl b])) D = some (.lst (bs.map V.bl)) ∧ ∀ k u, k < i + 1 → ws[k]? = some u → NotStep K H u → bs[k]? = some false := fun b nb => by
        refine ⟨_, hd, by rw [List.length_map]; exact small5' (by omega), s0.new hD _, bs ++ [b], by simp [hb], by rw [upd_same]; simp, fun k u hk hu nu => ?_⟩
        by_cases l : k < i
        · rw [List.getElem?_append_left (by omega)]
          exact no k u l hu nu
        · have ek : k = i := by omega
          subst ek
          rw [hi] at hu
          cases hu
          rw [nb nu, List.getElem?_append_right (by omega), hb, Nat.sub_self]
          rfl
      simp only [cxOf_K, tAsg2, tYes, wipe, tSeq, tIfS, tNot, tB, tCB, tCons, tNil, tVar, tC, tTest, tOp, tAnd, tOr, tAsg, gName, tRet, tRetN, tDrop, tNext, tIf, tCall, tTup, tLst, tNotV, tAndV, tOrV, tUn, rI0, rI, rU, rEq, rNe, tM1, tM0, tBM, tBM0, tSl, tPart, tNoPart, iStr, iEnumS, iRng1, iRng2, iList, gSub, tBits, tAug, tPar, L2.start, List.map_cons, List.map_nil, List.length_cons, List.length_nil, List.getElem?_cons_zero, List.getElem?_cons_succ, List.cons_append, List.nil_append, List.append_nil, List.set_cons_zero, List.set_cons_succ, List.replicate_succ, List.replicate_zero, Option.some.injEq, exists_eq_left', V.int.injEq, V.str.injEq, V.ref.injEq, V.bl.injEq, exists_and_left, exists_eq_left, List.cons.injEq, and_true, true_and, tCallX, tRs]
      rw [if_pos True.intro]
      by_cases ns : NotStep K H x
      · exact ⟨_, rfl, .inr ⟨ns.same s0, fin false fun _ => rfl⟩⟩
      · exact ⟨_, rfl, .inl ⟨((al x (List.mem_of_getElem? hi)).resolve_right ns).same s0, fin true fun z => absurd z ns⟩⟩
    · rintro H' ⟨s0, bs, hb, hd, no⟩
      obtain ⟨k, hk, ek⟩ := List.mem_iff_getElem.mp hu0
      have nk := no k u0 hk (by rw [List.getElem?_eq_getElem hk, ek]) nu0
      have hf : bs.all id = false := by
        cases e : bs.all id with
        | false => rfl
        | true => exact absurd (List.all_eq_true.mp e false (List.mem_of_getElem? nk)) Bool.false_ne_true
      refine ⟨D, bs, rfl, SqL.of hd, false, by simpa using hf, ?_⟩
      refine iteT ?_
      exact Out.same out s0

theorem okSt.mono {n m : Nat} {x : Str × List Nat} (h : okSt n x) (l : n ≤ m) : okSt m x := ⟨h.1, h.2.1, by have := h.2.2; omega⟩
/-- steps as plain data -/
def stD (x : Str × List Nat) : PyData := .tuple [.str x.1, .str (S x.2)]
theorem okWord {n : Nat} {x : Str × List Nat} (h : okSt n x) : PyData.strOk x.1 = true ∧ PyData.strOk (S x.2) = true := by
  refine ⟨?_, okL x.2 fun c hc => ?_⟩
  · rcases h.1 with e | e
    · rw [e]; decide +kernel
    · rw [e]; decide +kernel
  · have := List.all_eq_true.mp h.2.1 c hc
    simp only [Bool.or_eq_true, beq_iff_eq] at this
    omega
theorem Stps.dp {H : Hp} : ∀ {ws : List V} {xs : List (Str × List Nat)}, Stps H ws xs → DpAll K H ws (xs.map stD)
  | _, _, .nil => .nil
  | _, _, .cons a b => .cons (.tup (SqT.of a) (.cons (.str _) (.cons (.str _) .nil))) (Stps.dp b)
theorem stLay : ∀ xs : List (Str × List Nat), (∀ x ∈ xs, ∃ n, okSt n x) → PyData.canLayAll0 (xs.map stD) = true
  | [], _ => by simp [PyData.canLayAll0]
  | x :: xs, h => by
    obtain ⟨n, hn⟩ := h x (List.mem_cons_self ..)
    obtain ⟨h1, h2⟩ := okWord hn
    simp only [List.map_cons, PyData.canLayAll0, stD, PyData.canLay0, h1, h2, stLay xs fun y hy => h y (List.mem_cons_of_mem _ hy)]
    rfl
theorem stDep : ∀ xs : List (Str × List Nat), PyData.depthAll (xs.map stD) ≤ 1
  | [] => by simp [PyData.depthAll]
  | x :: xs => by
    have := stDep xs
    simp only [List.map_cons, PyData.depthAll, stD, PyData.depth]
    omega
theorem stEq : ∀ xs : List (Str × List Nat), PyData.eqvAll (xs.map stD) (xs.map stD) = true
  | [] => by simp [PyData.eqvAll]
  | x :: xs => by
    simp only [List.map_cons, PyData.eqvAll, stD, PyData.eqv, stEq xs, beq_self_eq_true]
    rfl
theorem stShaped {xs : List (Str × List Nat)} (h : ∀ x ∈ xs, ∃ n, okSt n x) : SeqAt.shaped (.list (xs.map stD)) = true := by
  unfold SeqAt.shaped
  have := stDep xs
  simp only [PyData.canLay0, PyData.depth, stLay xs h]
  simp
  omega
theorem neSt {H : Hp} {a b : Addr} {us ws : List V} {xs : List (Str × List Nat)} {Q : VK} (h : ∀ x ∈ xs, ∃ n, okSt n x) (ha : H a = some (.lst us)) (sa : Stps H us xs) (hb : H b = some (.lst ws)) (sb : Stps H ws xs) (q : Q (.bl false) H) : rNeD K (.ref a) (.ref b) H Q := by
  refine ⟨_, _, .lst (SqL.of ha) sa.dp, .lst (SqL.of hb) sb.dp, stShaped h, stShaped h, ?_⟩
  rw [show PyData.eqv (.list (xs.map stD)) (.list (xs.map stD)) = true by simp only [PyData.eqv, stEq xs]]
  exact q

theorem ok_law_cell (T : Txt w K mg) : FnOk P w K mg base CX0 1 T.a_law_cell T.fd_law_cell ["_law_script", "_law_index"] (sp_law_cell K) := by
  refine T.F_law_cell.ok sc_law_cell (fun vs H Q E h => ?_) (fun cdv A outer s H vs Q E hr h => ?_)
  · obtain ⟨a, ns, i, rfl, _⟩ := h; rfl
  obtain ⟨a, ns, i, rfl, ha, q⟩ := h
  refine ⟨_, (pss_cons (ps_if (pt_cmpR op_lt (pv 1) (pe_callB call_len_seq (by rfl) T.z_len PySem.boot_len (pa_cons (pv 0) pa_nil)) (nomark _)) (pss_one (ps_ret (pe_ix ix_list (pv 0) (pv 1) (fun _ _ => rfl)))) pss_nil)
    (pss_one (ps_ret pe_int))), ?_⟩
  simp only [cxOf_K, tAsg2, tYes, wipe, tSeq, tIfS, tNot, tB, tCB, tCons, tNil, tVar, tC, tTest, tOp, tAnd, tOr, tAsg, gName, tRet, tRetN, tDrop, tNext, tIf, tCall, tTup, tLst, tNotV, tAndV, tOrV, tUn, rI0, rI, rU, rEq, rNe, tM1, tM0, tBM, tBM0, tSl, tPart, tNoPart, iStr, iEnumS, iRng1, iRng2, iList, gSub, tBits, tAug, tPar, L2.start, List.map_cons, List.map_nil, List.length_cons, List.length_nil, List.getElem?_cons_zero, List.getElem?_cons_succ, List.cons_append, List.nil_append, List.append_nil, List.set_cons_zero, List.set_cons_succ, List.replicate_succ, List.replicate_zero, Option.some.injEq, exists_eq_left', V.int.injEq, V.str.injEq, V.ref.injEq, V.bl.injEq, exists_and_left, exists_eq_left, List.cons.injEq, and_true, true_and, tCallX, tRs]
  refine ⟨_, .inl ha, ?_⟩
  rw [List.length_map]
  by_cases h : (i : Int) < (ns.length : Int)
  · refine ifdT h ?_
    have hi : i < ns.length := by omega
    refine ⟨a, _, (i : Int), _, rfl, rfl, ha, atI_nat (by rw [List.getElem?_map, List.getElem?_eq_getElem hi]; rfl), ?_⟩
    rw [List.getD_eq_getElem?_getD, List.getElem?_eq_getElem hi] at q
    exact q
  · refine ifdF h ?_
    rw [List.getD_eq_getElem?_getD, List.getElem?_eq_none (by omega)] at q
    exact q
theorem ok_law_hash (T : Txt w K mg) : FnOk P w K mg base CX0 1 T.a_law_hash T.fd_law_hash ["_law_seed", "_law_index"] (sp_law_hash K) := by
  refine T.F_law_hash.ok sc_law_hash (fun vs H Q E h => ?_) (fun cdv A outer s H vs Q E hr h => ?_)
  · obtain ⟨a, i, rfl, _⟩ := h; rfl
  obtain ⟨a, i, rfl, h0, h1, q⟩ := h
  refine ⟨_, (pss_cons (ps_set (i := 2) sc_law_hash.nd rfl (by first | exact Or.inl rfl | exact Or.inr rfl) (pe_op op_mod (pe_callTy call_intI (by rfl) T.z_int (by decide +kernel) (pa_cons (pe_op op_add (pe_op op_add (pe_op op_add (pe_op op_mul (pv 0) pe_int) (pe_op op_mul (pe_op op_mul pe_int (pv 1)) (pv 1))) (pv 1)) pe_int) pa_nil)) pe_int))
    (pss_cons (ps_set (i := 2) sc_law_hash.nd rfl (by first | exact Or.inl rfl | exact Or.inr rfl) (pe_op op_mod (pe_callTy call_intI (by rfl) T.z_int (by decide +kernel) (pa_cons (pe_op op_add (pe_op op_mul (pv 2) (pv 2)) pe_int) pa_nil)) pe_int))
    (pss_one (ps_ret (pe_op op_mod (pe_callTy call_intI (by rfl) T.z_int (by decide +kernel) (pa_cons (pe_op op_mul (pv 2) pe_int) pa_nil)) pe_int))))), ?_⟩
  simp only [cxOf_K, tAsg2, tYes, wipe, tSeq, tIfS, tNot, tB, tCB, tCons, tNil, tVar, tC, tTest, tOp, tAnd, tOr, tAsg, gName, tRet, tRetN, tDrop, tNext, tIf, tCall, tTup, tLst, tNotV, tAndV, tOrV, tUn, rI0, rI, rU, rEq, rNe, tM1, tM0, tBM, tBM0, tSl, tPart, tNoPart, iStr, iEnumS, iRng1, iRng2, iList, gSub, tBits, tAug, tPar, L2.start, List.map_cons, List.map_nil, List.length_cons, List.length_nil, List.getElem?_cons_zero, List.getElem?_cons_succ, List.cons_append, List.nil_append, List.append_nil, List.set_cons_zero, List.set_cons_succ, List.replicate_succ, List.replicate_zero, Option.some.injEq, exists_eq_left', V.int.injEq, V.str.injEq, V.ref.injEq, V.bl.injEq, exists_and_left, exists_eq_left, List.cons.injEq, and_true, true_and, tCallX, tRs]
  refine ⟨cmulR (by decide), cmulL (by decide), cmulR (by omega), by decide, cmulR (cmod _ (by decide) (by decide)), by decide, cmulR (by decide), by decide, q _⟩
theorem ok_law_generator (T : Txt w K mg) : FnOk P w K mg base CX0 2 T.a_law_generator T.fd_law_generator ["_law_script", "_law_index"] (sp_law_generator K) := by
  refine T.F_law_generator.ok sc_law_generator (fun vs H Q E h => ?_) (fun cdv A outer s H vs Q E hr h => ?_)
  · obtain ⟨a, ns, i, rfl, _⟩ := h; rfl
  obtain ⟨a, ns, i, rfl, ha, q⟩ := h
  refine ⟨_, (pss_cons (ps_set (i := 2) sc_law_generator.nd rfl (by first | exact Or.inl rfl | exact Or.inr rfl) (pe_call (ok_law_cell T) (hr.mono (by first | decide | omega)) (by rfl) T.m_law_cell T.F_law_cell.kp T.b_law_cell .nil pass0 (pa_cons (pv 0) (pa_cons (pv 1) pa_nil))))
    (pss_one (ps_ret (pe_lst (pa_cons (pe_op op_mod (pe_callTy call_intI (by rfl) T.z_int (by decide +kernel) (pa_cons (pe_callB (call_max2 rfl) (by rfl) T.z_max (by decide +kernel) (pa_cons (pe_op op_sub (pv 2) (pe_op op_powB pe_int pe_int)) (pa_cons pe_int pa_nil))) pa_nil)) (pe_op op_powB (pe_op op_powB pe_int pe_int) pe_int)) (pa_cons (pe_op op_mod (pe_callTy call_intI (by rfl) T.z_int (by decide +kernel) (pa_cons (pv 2) pa_nil)) pe_int) (pa_cons (pe_op op_mul pe_int (pv 1)) pa_nil))))))), ?_⟩
  simp only [cxOf_K, tAsg2, tYes, wipe, tSeq, tIfS, tNot, tB, tCB, tCons, tNil, tVar, tC, tTest, tOp, tAnd, tOr, tAsg, gName, tRet, tRetN, tDrop, tNext, tIf, tCall, tTup, tLst, tNotV, tAndV, tOrV, tUn, rI0, rI, rU, rEq, rNe, tM1, tM0, tBM, tBM0, tSl, tPart, tNoPart, iStr, iEnumS, iRng1, iRng2, iList, gSub, tBits, tAug, tPar, L2.start, List.map_cons, List.map_nil, List.length_cons, List.length_nil, List.getElem?_cons_zero, List.getElem?_cons_succ, List.cons_append, List.nil_append, List.append_nil, List.set_cons_zero, List.set_cons_succ, List.replicate_succ, List.replicate_zero, Option.some.injEq, exists_eq_left', V.int.injEq, V.str.injEq, V.ref.injEq, V.bl.injEq, exists_and_left, exists_eq_left, List.cons.injEq, and_true, true_and, tCallX, tRs]
  refine ⟨a, ns, i, rfl, ha, ?_⟩
  simp only [cxOf_K, tAsg2, tYes, wipe, tSeq, tIfS, tNot, tB, tCB, tCons, tNil, tVar, tC, tTest, tOp, tAnd, tOr, tAsg, gName, tRet, tRetN, tDrop, tNext, tIf, tCall, tTup, tLst, tNotV, tAndV, tOrV, tUn, rI0, rI, rU, rEq, rNe, tM1, tM0, tBM, tBM0, tSl, tPart, tNoPart, iStr, iEnumS, iRng1, iRng2, iList, gSub, tBits, tAug, tPar, L2.start, List.map_cons, List.map_nil, List.length_cons, List.length_nil, List.getElem?_cons_zero, List.getElem?_cons_succ, List.cons_append, List.nil_append, List.append_nil, List.set_cons_zero, List.set_cons_succ, List.replicate_succ, List.replicate_zero, Option.some.injEq, exists_eq_left', V.int.injEq, V.str.injEq, V.ref.injEq, V.bl.injEq, exists_and_left, exists_eq_left, List.cons.injEq, and_true, true_and, tCallX, tRs]
  refine ⟨⟨by decide, by decide +kernel⟩, _, _, ⟨rfl, rfl⟩, ⟨by decide, by decide +kernel⟩, ⟨by decide, by decide +kernel⟩, by decide +kernel, by decide, cmulL (by decide), by decide, fun g hg => ?_⟩
  exact q g _ hg ((L2.Same.refl H).new hg _) ⟨_, _, _, upd_same, by omega, by omega⟩
theorem ok_law_random (T : Txt w K mg) : FnOk P w K mg base CX0 2 T.a_law_random T.fd_law_random ["_law_generator_here", "_law_bound"] (sp_law_random K) := by
  refine T.F_law_random.ok sc_law_random (fun vs H Q E h => ?_) (fun cdv A outer s H vs Q E hr h => ?_)
  · obtain ⟨g, b, n, rfl, _⟩ := h; rfl
  obtain ⟨g, b, n, rfl, ⟨x, y, z, hg, z0, z1⟩, hn, b0, b1, q⟩ := h
  refine ⟨_, (pss_cons (ps_if (pt_cmpR op_gt (pe_ix ix_list (pv 0) pe_int (fun _ _ => rfl)) pe_int (nomark _)) (pss_cons (ps_set (i := 2) sc_law_random.nd rfl (by first | exact Or.inl rfl | exact Or.inr rfl) (pe_op op_mod (pe_callTy call_intI (by rfl) T.z_int (by decide +kernel) (pa_cons (pe_ix ix_list (pv 0) pe_int (fun _ _ => rfl)) pa_nil)) (pv 1)))
    (pss_cons (ps_asg (pe_op op_fdivW (pe_ix ix_list (pv 0) pe_int (fun _ _ => rfl)) (pv 1)) (pg_sub (pv 0) pe_int set_list))
    (pss_one (ps_ret (pv 2))))) pss_nil)
    (pss_cons (ps_set (i := 2) sc_law_random.nd rfl (by first | exact Or.inl rfl | exact Or.inr rfl) pe_int)
    (pss_cons (ps_for PassesOwn.never rfl (pi_range1 rfl T.z_range (pa_cons (pe_op op_add pe_int (pe_op op_fdivW (pe_bits (pv 1)) pe_int)) pa_nil)) (pg_name (i := 3) sc_law_random.nd rfl (by first | exact Or.inl rfl | exact Or.inr rfl)) (pss_cons (ps_asg (pe_op op_add (pe_ix ix_list (pv 0) pe_int (fun _ _ => rfl)) pe_int) (pg_sub (pv 0) pe_int set_list))
    (pss_one (ps_set (i := 2) sc_law_random.nd rfl (by first | exact Or.inl rfl | exact Or.inr rfl) (pe_op op_add (pe_op op_mul (pv 2) pe_int) (pe_call (ok_law_hash T) (hr.mono (by first | decide | omega)) (by rfl) T.m_law_hash T.F_law_hash.kp T.b_law_hash .nil pass0 (pa_cons (pe_ix ix_list (pv 0) pe_int (fun _ _ => rfl)) (pa_cons (pe_ix ix_list (pv 0) pe_int (fun _ _ => rfl)) pa_nil))))))))
    (pss_one (ps_ret (pe_op op_mod (pe_callTy call_intI (by rfl) T.z_int (by decide +kernel) (pa_cons (pv 2) pa_nil)) (pv 1))))))), ?_⟩
  simp only [cxOf_K, tAsg2, tYes, wipe, tSeq, tIfS, tNot, tB, tCB, tCons, tNil, tVar, tC, tTest, tOp, tAnd, tOr, tAsg, gName, tRet, tRetN, tDrop, tNext, tIf, tCall, tTup, tLst, tNotV, tAndV, tOrV, tUn, rI0, rI, rU, rEq, rNe, tM1, tM0, tBM, tBM0, tSl, tPart, tNoPart, iStr, iEnumS, iRng1, iRng2, iList, gSub, tBits, tAug, tPar, L2.start, List.map_cons, List.map_nil, List.length_cons, List.length_nil, List.getElem?_cons_zero, List.getElem?_cons_succ, List.cons_append, List.nil_append, List.append_nil, List.set_cons_zero, List.set_cons_succ, List.replicate_succ, List.replicate_zero, Option.some.injEq, exists_eq_left', V.int.injEq, V.str.injEq, V.ref.injEq, V.bl.injEq, exists_and_left, exists_eq_left, List.cons.injEq, and_true, true_and, tCallX, tRs]
  refine ⟨g, _, 0, .int x, rfl, rfl, SqL.of hg, rfl, ?_⟩
  simp only [cxOf_K, tAsg2, tYes, wipe, tSeq, tIfS, tNot, tB, tCB, tCons, tNil, tVar, tC, tTest, tOp, tAnd, tOr, tAsg, gName, tRet, tRetN, tDrop, tNext, tIf, tCall, tTup, tLst, tNotV, tAndV, tOrV, tUn, rI0, rI, rU, rEq, rNe, tM1, tM0, tBM, tBM0, tSl, tPart, tNoPart, iStr, iEnumS, iRng1, iRng2, iList, gSub, tBits, tAug, tPar, L2.start, List.map_cons, List.map_nil, List.length_cons, List.length_nil, List.getElem?_cons_zero, List.getElem?_cons_succ, List.cons_append, List.nil_append, List.append_nil, List.set_cons_zero, List.set_cons_succ, List.replicate_succ, List.replicate_zero, Option.some.injEq, exists_eq_left', V.int.injEq, V.str.injEq, V.ref.injEq, V.bl.injEq, exists_and_left, exists_eq_left, List.cons.injEq, and_true, true_and, tCallX, tRs]
  by_cases hx : 0 < x
  · refine ifdT hx ⟨g, _, 0, .int x, rfl, rfl, SqL.of hg, rfl, ?_⟩
    simp only [cxOf_K, tAsg2, tYes, wipe, tSeq, tIfS, tNot, tB, tCB, tCons, tNil, tVar, tC, tTest, tOp, tAnd, tOr, tAsg, gName, tRet, tRetN, tDrop, tNext, tIf, tCall, tTup, tLst, tNotV, tAndV, tOrV, tUn, rI0, rI, rU, rEq, rNe, tM1, tM0, tBM, tBM0, tSl, tPart, tNoPart, iStr, iEnumS, iRng1, iRng2, iList, gSub, tBits, tAug, tPar, L2.start, List.map_cons, List.map_nil, List.length_cons, List.length_nil, List.getElem?_cons_zero, List.getElem?_cons_succ, List.cons_append, List.nil_append, List.append_nil, List.set_cons_zero, List.set_cons_succ, List.replicate_succ, List.replicate_zero, Option.some.injEq, exists_eq_left', V.int.injEq, V.str.injEq, V.ref.injEq, V.bl.injEq, exists_and_left, exists_eq_left, List.cons.injEq, and_true, true_and, tCallX, tRs]
    refine ⟨by omega, g, _, 0, .int x, rfl, rfl, SqL.of hg, rfl, ?_⟩
    simp only [cxOf_K, tAsg2, tYes, wipe, tSeq, tIfS, tNot, tB, tCB, tCons, tNil, tVar, tC, tTest, tOp, tAnd, tOr, tAsg, gName, tRet, tRetN, tDrop, tNext, tIf, tCall, tTup, tLst, tNotV, tAndV, tOrV, tUn, rI0, rI, rU, rEq, rNe, tM1, tM0, tBM, tBM0, tSl, tPart, tNoPart, iStr, iEnumS, iRng1, iRng2, iList, gSub, tBits, tAug, tPar, L2.start, List.map_cons, List.map_nil, List.length_cons, List.length_nil, List.getElem?_cons_zero, List.getElem?_cons_succ, List.cons_append, List.nil_append, List.append_nil, List.set_cons_zero, List.set_cons_succ, List.replicate_succ, List.replicate_zero, Option.some.injEq, exists_eq_left', V.int.injEq, V.str.injEq, V.ref.injEq, V.bl.injEq, exists_and_left, exists_eq_left, List.cons.injEq, and_true, true_and, tCallX, tRs]
    refine ⟨cdivW b0 b1, g, _, 0, 0, rfl, rfl, hg, rfl, ?_⟩
    exact q _ _ (Int.emod_nonneg _ (by omega)) (Int.emod_lt_of_pos _ (by omega)) (fun p o hp ho => by rw [upd_ne hp]; exact ho) ⟨_, _, _, upd_same, z0, by omega⟩
  · refine ifdF hx ?_
    have hb : (Builtin.Int.intBits b : Int) ≤ 50 := by
      have : Builtin.Int.intBits b ≤ 50 := PyProof.Rows.intBits_le (by omega)
      omega
    have hj0 : (0 : Int) ≤ 1 + (Builtin.Int.intBits b : Int) / 30 := by omega
    have hj1 : (1 : Int) + (Builtin.Int.intBits b : Int) / 30 ≤ 2 := by omega
    refine ⟨_, rfl, _, rfl, _, _, rfl, rfl, cdivW (by decide) (by decide), _, _, rfl, rfl, _, rfl, by omega, by omega, for_range (fun i σ H' => ∃ (d : Int) (a3 : Option V) (z' : Int), σ = [some (.ref g), some (.int b), some (.int d), a3] ∧ Keep g H H' ∧ H' g = some (.lst [.int x, .int y, .int z']) ∧ z' = z + i)
      ⟨0, none, z, rfl, fun p o _ ho => ho, hg, by simp⟩ ?_ ?_⟩
    · rintro i σ H' hi ⟨d, a3, z', rfl, k0, hg', rfl⟩
      simp only [cxOf_K, tAsg2, tYes, wipe, tSeq, tIfS, tNot, tB, tCB, tCons, tNil, tVar, tC, tTest, tOp, tAnd, tOr, tAsg, gName, tRet, tRetN, tDrop, tNext, tIf, tCall, tTup, tLst, tNotV, tAndV, tOrV, tUn, rI0, rI, rU, rEq, rNe, tM1, tM0, tBM, tBM0, tSl, tPart, tNoPart, iStr, iEnumS, iRng1, iRng2, iList, gSub, tBits, tAug, tPar, L2.start, List.map_cons, List.map_nil, List.length_cons, List.length_nil, List.getElem?_cons_zero, List.getElem?_cons_succ, List.cons_append, List.nil_append, List.append_nil, List.set_cons_zero, List.set_cons_succ, List.replicate_succ, List.replicate_zero, Option.some.injEq, exists_eq_left', V.int.injEq, V.str.injEq, V.ref.injEq, V.bl.injEq, exists_and_left, exists_eq_left, List.cons.injEq, and_true, true_and, tCallX, tRs]
      refine ⟨g, _, 2, .int (z + i), rfl, rfl, SqL.of hg', rfl, ?_⟩
      simp only [cxOf_K, tAsg2, tYes, wipe, tSeq, tIfS, tNot, tB, tCB, tCons, tNil, tVar, tC, tTest, tOp, tAnd, tOr, tAsg, gName, tRet, tRetN, tDrop, tNext, tIf, tCall, tTup, tLst, tNotV, tAndV, tOrV, tUn, rI0, rI, rU, rEq, rNe, tM1, tM0, tBM, tBM0, tSl, tPart, tNoPart, iStr, iEnumS, iRng1, iRng2, iList, gSub, tBits, tAug, tPar, L2.start, List.map_cons, List.map_nil, List.length_cons, List.length_nil, List.getElem?_cons_zero, List.getElem?_cons_succ, List.cons_append, List.nil_append, List.append_nil, List.set_cons_zero, List.set_cons_succ, List.replicate_succ, List.replicate_zero, Option.some.injEq, exists_eq_left', V.int.injEq, V.str.injEq, V.ref.injEq, V.bl.injEq, exists_and_left, exists_eq_left, List.cons.injEq, and_true, true_and, tCallX, tRs]
      refine ⟨g, _, 2, 2, rfl, rfl, hg', rfl, ?_⟩
      refine ⟨cmulR (by decide), g, _, 1, .int y, rfl, rfl, SqL.of upd_same, rfl, ?_⟩
      refine ⟨g, _, 2, .int (z + i + 1), rfl, rfl, SqL.of upd_same, rfl, ?_⟩
      refine ⟨y, z + i + 1, rfl, by omega, by omega, fun r => ?_⟩
      simp only [cxOf_K, tAsg2, tYes, wipe, tSeq, tIfS, tNot, tB, tCB, tCons, tNil, tVar, tC, tTest, tOp, tAnd, tOr, tAsg, gName, tRet, tRetN, tDrop, tNext, tIf, tCall, tTup, tLst, tNotV, tAndV, tOrV, tUn, rI0, rI, rU, rEq, rNe, tM1, tM0, tBM, tBM0, tSl, tPart, tNoPart, iStr, iEnumS, iRng1, iRng2, iList, gSub, tBits, tAug, tPar, L2.start, List.map_cons, List.map_nil, List.length_cons, List.length_nil, List.getElem?_cons_zero, List.getElem?_cons_succ, List.cons_append, List.nil_append, List.append_nil, List.set_cons_zero, List.set_cons_succ, List.replicate_succ, List.replicate_zero, Option.some.injEq, exists_eq_left', V.int.injEq, V.str.injEq, V.ref.injEq, V.bl.injEq, exists_and_left, exists_eq_left, List.cons.injEq, and_true, true_and, tCallX, tRs]
      exact ⟨_, _, ⟨rfl, rfl⟩, fun p o hp ho => by rw [upd_ne hp]; exact k0 p o hp ho, z + i + 1, by rw [upd_same], by omega⟩
    · rintro σ H' ⟨d, a3, z', rfl, k0, hg', rfl⟩
      simp only [cxOf_K, tAsg2, tYes, wipe, tSeq, tIfS, tNot, tB, tCB, tCons, tNil, tVar, tC, tTest, tOp, tAnd, tOr, tAsg, gName, tRet, tRetN, tDrop, tNext, tIf, tCall, tTup, tLst, tNotV, tAndV, tOrV, tUn, rI0, rI, rU, rEq, rNe, tM1, tM0, tBM, tBM0, tSl, tPart, tNoPart, iStr, iEnumS, iRng1, iRng2, iList, gSub, tBits, tAug, tPar, L2.start, List.map_cons, List.map_nil, List.length_cons, List.length_nil, List.getElem?_cons_zero, List.getElem?_cons_succ, List.cons_append, List.nil_append, List.append_nil, List.set_cons_zero, List.set_cons_succ, List.replicate_succ, List.replicate_zero, Option.some.injEq, exists_eq_left', V.int.injEq, V.str.injEq, V.ref.injEq, V.bl.injEq, exists_and_left, exists_eq_left, List.cons.injEq, and_true, true_and, tCallX, tRs]
      exact ⟨by omega, q _ _ (Int.emod_nonneg _ (by omega)) (Int.emod_lt_of_pos _ (by omega)) k0 ⟨_, _, _, hg', by omega, by omega⟩⟩

theorem gf_o (lo lc : Addr) (m : Int) : List.lookup (Str.ofString "origin") (gf lo lc m) = some (.ref lo) := rfl
theorem gf_c (lo lc : Addr) (m : Int) : List.lookup (Str.ofString "current") (gf lo lc m) = some (.ref lc) := by
  unfold gf
  rw [List.lookup_cons, show (Str.ofString "current" == Str.ofString "origin") = false by decide +kernel]
  rfl
theorem gf_m (lo lc : Addr) (m : Int) : List.lookup (Str.ofString "many") (gf lo lc m) = some (.int m) := by
  unfold gf
  rw [List.lookup_cons, show (Str.ofString "many" == Str.ofString "origin") = false by decide +kernel, List.lookup_cons, show (Str.ofString "many" == Str.ofString "current") = false by decide +kernel]
  rfl
theorem gf_putm (lo lc : Addr) (m n : Int) : putF "many" (.int n) (gf lo lc m) = gf lo lc n := by
  show (if ("origin" : Str) = "many" then _ else (("origin" : Str), V.ref lo) :: (if ("current" : Str) = "many" then _ else (("current" : Str), V.ref lc) :: putF "many" (V.int n) [("many", V.int m)])) = _
  rw [if_neg gf_ne2, if_neg gf_ne3]; rfl
theorem DRep.put {H H' : Hp} {kvs : List (Key × V)} {f : Nat → Option (Nat × Nat)} (d : DRep H kvs f) (s : ∀ b vs, H b = some (.tup vs) → H' b = some (.tup vs)) (n x y : Nat) {q : Addr} (hq : H' q = some (.tup [nV x, nV y])) : DRep H' (putK kvs (nK n) (.ref q)) (LT.fput f n (x, y)) := by
  intro k
  have e : nK k = nK n ↔ k = n := ⟨fun z => by have := Sum.inl.inj z; omega, fun z => by rw [z]⟩
  rw [valV_put]
  unfold LT.fput
  by_cases h : k = n
  · rw [if_pos h, if_pos (e.mpr h)]
    exact ⟨fun z => (nomatch z), fun a b z => by cases z; exact ⟨q, rfl, hq⟩⟩
  · rw [if_neg h, if_neg (fun z => h (e.mp z))]
    exact ⟨(d k).1, fun a b z => let ⟨r, h1, h2⟩ := (d k).2 a b z; ⟨r, h1, s _ _ h2⟩⟩
theorem DRep.move {H H' : Hp} {kvs : List (Key × V)} {f : Nat → Option (Nat × Nat)} (d : DRep H kvs f) (s : ∀ b vs, H b = some (.tup vs) → H' b = some (.tup vs)) : DRep H' kvs f :=
  fun k => ⟨(d k).1, fun a b z => let ⟨r, h1, h2⟩ := (d k).2 a b z; ⟨r, h1, s _ _ h2⟩⟩
theorem ok_Growth_unfold (T : Txt w K mg) : FnOk P w K mg base CX0 2 T.a_Growth_unfold T.fd_Growth_unfold ["self", "number"] (sp_Growth_unfold T) := by
  refine T.F_Growth_unfold.ok sc_Growth_unfold (fun vs H Q E h => ?_) (fun cdv A outer s H vs Q E hr h => ?_)
  · obtain ⟨_, _, _, _, _, _, _, rfl, _⟩ := h; rfl
  obtain ⟨H0, p, O, C, t, m, a, rfl, ⟨o, c, ⟨s0, np, dx, lo, lc, nlo, nlc, nl, hp, hlo, hlc⟩, ol, cl, f, g, fo, fc, S⟩, hm, la, q⟩ := h
  have hu := Nat.lt_of_le_of_lt (Nat.add_le_add_left (by decide : 1 ≤ 64) _) hr.units
  refine ⟨_, (pss_one (ps_if (pt_cmp (pc_dnotin hu (pv 1) (pe_fld (pv 0) rfl))) (pss_cons (ps_set (i := 2) sc_Growth_unfold.nd rfl (by first | exact Or.inl rfl | exact Or.inr rfl) (pe_tup (pa_cons (pe_fld (pv 0) rfl) (pa_cons (pe_op op_add (pe_fld (pv 0) rfl) pe_int) pa_nil))))
    (pss_cons (ps_dput hu (pe_fld (pv 0) rfl) (pv 1) (pv 2) rfl)
    (pss_cons (ps_dput hu (pe_fld (pv 0) rfl) (pv 1) (pv 2) rfl)
    (pss_one (ps_fldaug (pv 0) pe_int iop_add))))) pss_nil)), ?_⟩
  simp only [cxOf_K, tAsg2, tYes, wipe, tSeq, tIfS, tNot, tB, tCB, tCons, tNil, tVar, tC, tTest, tOp, tAnd, tOr, tAsg, gName, tRet, tRetN, tDrop, tNext, tIf, tCall, tTup, tLst, tNotV, tAndV, tOrV, tUn, rI0, rI, rU, rEq, rNe, tM1, tM0, tBM, tBM0, tSl, tPart, tNoPart, iStr, iEnumS, iRng1, iRng2, iList, gSub, tBits, tAug, tPar, L2.start, List.map_cons, List.map_nil, List.length_cons, List.length_nil, List.getElem?_cons_zero, List.getElem?_cons_succ, List.cons_append, List.nil_append, List.append_nil, List.set_cons_zero, List.set_cons_succ, List.replicate_succ, List.replicate_zero, Option.some.injEq, exists_eq_left', V.int.injEq, V.str.injEq, V.ref.injEq, V.bl.injEq, exists_and_left, exists_eq_left, List.cons.injEq, and_true, true_and, tCallX, tRs, tProp, OW.tSMeth, OW.tCallI, Nat.sub_self, List.replicate_zero, tFld, sFld, sFldAug, tDGet, tDIn, tDNotIn, sDPut, tMeth, tMake, tDNewK]
  refine ⟨_, _, _, hp, T.l_Growth, T.n_Growth_current, _, gf_c _ _ _, lc, rfl, _, DGet.k (k := nK t.lab) hlc, ?_⟩
  cases t with
  | nd n l r =>
    have gn := (LT.rep_lat S.rc la).1
    obtain ⟨r', h1, _⟩ := (fc n).2 _ _ gn
    rw [if_neg (by show ¬ (!(valV c (nK n)).isSome) = true; rw [h1]; simp)]
    exact q _ O C m l r ⟨o, c, ⟨s0, np, dx, lo, lc, nlo, nlc, nl, hp, hlo, hlc⟩, ol, cl, f, g, fo, fc, S⟩ (by omega) la (LT.node_join la) fun _ _ z => z
  | lf n =>
    have gn := LT.rep_lat S.rc la
    have h1 := (fc n).1 gn
    rw [if_pos (by show (!(valV c (nK n)).isSome) = true; rw [h1]; rfl)]
    refine ⟨_, _, _, hp, T.l_Growth, T.n_Growth_many, _, gf_m _ _ _, ?_⟩
    refine ⟨_, _, _, hp, T.l_Growth, T.n_Growth_many, _, gf_m _ _ _, _, rfl, by decide, fun z hz => ?_⟩
    obtain ⟨S', la', sh⟩ := S.unfold la
    have npz : p ≠ z := ne_of_none hp hz
    have nlz : lo ≠ z := ne_of_none hlo hz
    have ncz : lc ≠ z := ne_of_none hlc hz
    have nz0 := s0.free hz
    have plo : p ≠ lo := ne_of hp hlo fun z => by cases z
    have plc : p ≠ lc := ne_of hp hlc fun z => by cases z
    have nm : (V.int ((m : Nat) : Int) : V) = nV m := rfl
    have nm1 : (V.int ((m : Nat) + 1 : Int) : V) = nV (m + 1) := rfl
    rw [nm, nm1]
    have hz1 : upd H z (.tup [nV m, nV (m + 1)]) z = some _ := upd_same
    have s1 := s0.new nz0 (.tup [nV m, nV (m + 1)])
    have hp1 : upd H z (.tup [nV m, nV (m + 1)]) p = _ := (upd_ne npz).trans hp
    have hlo1 : upd H z (.tup [nV m, nV (m + 1)]) lo = _ := (upd_ne nlz).trans hlo
    have hlc1 : upd H z (.tup [nV m, nV (m + 1)]) lc = _ := (upd_ne ncz).trans hlc
    have fo1 := fo.move (fun b vs e => (L2.Same.refl H).new hz (.tup [nV m, nV (m + 1)]) _ _ e)
    have fc1 := fc.move (fun b vs e => (L2.Same.refl H).new hz (.tup [nV m, nV (m + 1)]) _ _ e)
    generalize upd H z (.tup [nV m, nV (m + 1)]) = H1 at hz1 s1 hp1 hlo1 hlc1 fo1 fc1 ⊢
    refine ⟨_, _, _, hp1, T.l_Growth, T.n_Growth_origin, _, gf_o _ _ _, lo, rfl, _, DPut.k (k := nK n) hlo1 (small5' (by omega)), ?_⟩
    have tk1 : ∀ b vs, H1 b = some (.tup vs) → upd H1 lo (.dK (putK o (nK n) (.ref z))) b = some (.tup vs) := fun b vs e => by rw [upd_ne (ne_of e hlo1 fun z => by cases z)]; exact e
    have s2 := s1.new nlo (.dK (putK o (nK n) (.ref z)))
    have fo2 := fo1.put tk1 n m (m + 1) (tk1 _ _ hz1)
    have fc2 := fc1.move tk1
    have hz2 := tk1 _ _ hz1
    have hlo2 : upd H1 lo (.dK (putK o (nK n) (.ref z))) lo = some _ := upd_same
    have hlc2 : upd H1 lo (.dK (putK o (nK n) (.ref z))) lc = _ := (upd_ne nl.symm).trans hlc1
    have hp2 : upd H1 lo (.dK (putK o (nK n) (.ref z))) p = _ := (upd_ne plo).trans hp1
    generalize upd H1 lo (.dK (putK o (nK n) (.ref z))) = H2 at s2 fo2 fc2 hz2 hlo2 hlc2 hp2 ⊢
    refine ⟨_, _, _, hp2, T.l_Growth, T.n_Growth_current, _, gf_c _ _ _, lc, rfl, _, DPut.k (k := nK n) hlc2 (small5' (by omega)), ?_⟩
    have tk2 : ∀ b vs, H2 b = some (.tup vs) → upd H2 lc (.dK (putK c (nK n) (.ref z))) b = some (.tup vs) := fun b vs e => by rw [upd_ne (ne_of e hlc2 fun z => by cases z)]; exact e
    have s3 := s2.new nlc (.dK (putK c (nK n) (.ref z)))
    have fo3 := fo2.move tk2
    have fc3 := fc2.put tk2 n m (m + 1) (tk2 _ _ hz2)
    have hlo3 : upd H2 lc (.dK (putK c (nK n) (.ref z))) lo = _ := (upd_ne nl).trans hlo2
    have hlc3 : upd H2 lc (.dK (putK c (nK n) (.ref z))) lc = some _ := upd_same
    have hp3 : upd H2 lc (.dK (putK c (nK n) (.ref z))) p = _ := (upd_ne plc).trans hp2
    generalize upd H2 lc (.dK (putK c (nK n) (.ref z))) = H3 at s3 fo3 fc3 hlo3 hlc3 hp3 ⊢
    refine ⟨_, _, _, hp3, T.l_Growth, T.n_Growth_many, _, gf_m _ _ _, ?_⟩
    refine ⟨_, rfl, dx, _, hp3, by show 3 < 1000; decide, ?_⟩
    rw [show (putF (Str.ofString "many") (V.int ((m : Nat) + 2 : Int)) (gf lo lc (m : Nat))) = gf lo lc ((m + 2 : Nat) : Int) from gf_putm lo lc (m : Nat) ((m : Nat) + 2 : Int)]
    have tk3 : ∀ b vs, H3 b = some (.tup vs) → upd H3 p (.ins T.c_Growth dx (gf lo lc ((m + 2 : Nat) : Int))) b = some (.tup vs) := fun b vs e => by rw [upd_ne (ne_of e hp3 fun z => by cases z)]; exact e
    have l1 := length_putK o (nK n) (.ref z)
    have l2 := length_putK c (nK n) (.ref z)
    exact q _ _ _ (m + 2) _ _ ⟨_, _, ⟨s3.new np _, np, dx, lo, lc, nlo, nlc, nl, upd_same, (upd_ne plo.symm).trans hlo3, (upd_ne plc.symm).trans hlc3⟩, by omega, by omega, _, _, fo3.move tk3, fc3.move tk3, S'⟩ (Nat.le_refl _) la' sh fun O0 C0 A => A.sb n m

theorem ok_Growth_sides (T : Txt w K mg) : FnOk P w K mg base CX0 3 T.a_Growth_sides T.fd_Growth_sides ["self", "number"] (sp_Growth_sides T) := by
  refine T.F_Growth_sides.ok sc_Growth_sides (fun vs H Q E h => ?_) (fun cdv A outer s H vs Q E hr h => ?_)
  · obtain ⟨_, _, _, _, _, _, _, rfl, _⟩ := h; rfl
  obtain ⟨H0, p, O, C, t, m, a, rfl, gs, hm, la, q⟩ := h
  have hu := Nat.lt_of_le_of_lt (Nat.add_le_add_left (by decide : 1 ≤ 64) _) hr.units
  refine ⟨_, (pss_cons (ps_expr (pe_meth (pv 0) T.l_Growth T.t_Growth_unfold (ok_Growth_unfold T) (hr.mono (by first | decide | omega)) T.b_Growth_unfold .nil pass0 (pa_cons (pv 1) pa_nil)))
    (pss_one (ps_ret (pe_dget hu (pe_fld (pv 0) rfl) (pv 1) (fun _ _ => rfl))))), ?_⟩
  simp only [cxOf_K, tAsg2, tYes, wipe, tSeq, tIfS, tNot, tB, tCB, tCons, tNil, tVar, tC, tTest, tOp, tAnd, tOr, tAsg, gName, tRet, tRetN, tDrop, tNext, tIf, tCall, tTup, tLst, tNotV, tAndV, tOrV, tUn, rI0, rI, rU, rEq, rNe, tM1, tM0, tBM, tBM0, tSl, tPart, tNoPart, iStr, iEnumS, iRng1, iRng2, iList, gSub, tBits, tAug, tPar, L2.start, List.map_cons, List.map_nil, List.length_cons, List.length_nil, List.getElem?_cons_zero, List.getElem?_cons_succ, List.cons_append, List.nil_append, List.append_nil, List.set_cons_zero, List.set_cons_succ, List.replicate_succ, List.replicate_zero, Option.some.injEq, exists_eq_left', V.int.injEq, V.str.injEq, V.ref.injEq, V.bl.injEq, exists_and_left, exists_eq_left, List.cons.injEq, and_true, true_and, tCallX, tRs, tProp, OW.tSMeth, OW.tCallI, Nat.sub_self, List.replicate_zero, tFld, sFld, sFldAug, tDGet, tDIn, tDNotIn, sDPut, tMeth, tMake, tDNewK]
  obtain ⟨o, c, ⟨s0, np, dx, lo, lc, nlo, nlc, nl, hp, hlo, hlc⟩, rest⟩ := gs
  refine ⟨dx, _, hp, by rfl, ?_⟩
  refine ⟨H0, p, O, C, t, m, a, rfl, ⟨o, c, ⟨s0, np, dx, lo, lc, nlo, nlc, nl, hp, hlo, hlc⟩, rest⟩, hm, la, fun H1 O1 C1 m1 l r gs1 m1l la1 sh al => ?_⟩
  have gs1' := gs1
  obtain ⟨o1, c1, ⟨s1, _, dx1, lo1, lc1, nlo1, nlc1, nl1, hp1, hlo1, hlc1⟩, _, _, f1, g1, fo1, fc1, S1⟩ := gs1
  have gn := (LT.rep_lat S1.rc la1).1
  obtain ⟨z, h1, hz⟩ := (fc1 t.lab).2 _ _ gn
  refine ⟨_, _, _, hp1, T.l_Growth, T.n_Growth_current, _, gf_c _ _ _, lc1, rfl, .ref z, ?_, ?_⟩
  · have := DGet.k (k := nK t.lab) hlc1
    rw [h1] at this
    exact this
  · exact q z _ O1 C1 m1 l r gs1' m1l la1 sh al hz

theorem GrowS.at {C : Addr} {H0 H : Hp} {p : Addr} {O Cc : LT} {m : Nat} (g : GrowS C H0 H p O Cc m) : ∃ dx lo lc, H p = some (.ins C dx (gf lo lc (m : Nat))) := by
  obtain ⟨o, c, ⟨s0, np, dx, lo, lc, nlo, nlc, nl, hp, hlo, hlc⟩, rest⟩ := g
  exact ⟨dx, lo, lc, hp⟩
theorem putK_old {kvs : List (Key × V)} {k : Key} {v : V} (h : (valV kvs k).isSome = true) : (putK kvs k v).length = kvs.length := by
  unfold putK
  rw [valV_any, if_pos h, List.length_map]
/-- two entries of the second dict given anew -/
theorem GrowS.turned {C : Addr} {H0 H : Hp} {p : Addr} {O : LT} {m : Nat} {dx lo lc : Addr} {o c : List (Key × V)} {f g : Nat → Option (Nat × Nat)} (s0 : Same H0 H) (np : H0 p = none) (nlo : H0 lo = none) (nlc : H0 lc = none) (nl : lo ≠ lc) (hp : H p = some (.ins C dx (gf lo lc (m : Nat)))) (hlo : H lo = some (.dK o)) (hlc : H lc = some (.dK c))
    (ol : o.length < m) (cl : c.length < m) (fo : DRep H o f) (fc : DRep H c g) {n j : Nat} (gn : (g n).isSome = true) (gj : (g j).isSome = true) (x y z u : Nat) {Cn : LT} (S' : LT.Sta f (LT.fput (LT.fput g n (x, y)) j (z, u)) m O Cn) {q1 q2 : Addr} (n1 : H q1 = none) (H1 : Hp) (e1 : H1 = upd (upd H q1 (.tup [nV x, nV y])) lc (.dK (putK c (nK n) (.ref q1)))) (n2 : H1 q2 = none) :
    GrowS C H0 (upd (upd H1 q2 (.tup [nV z, nV u])) lc (.dK (putK (putK c (nK n) (.ref q1)) (nK j) (.ref q2)))) p O Cn m ∧ H1 lc = some (.dK (putK c (nK n) (.ref q1))) ∧ H1 p = some (.ins C dx (gf lo lc (m : Nat))) := by
  have plo : p ≠ lo := ne_of hp hlo fun z => by cases z
  have plc : p ≠ lc := ne_of hp hlc fun z => by cases z
  have old : ∀ (k : Nat), (g k).isSome = true → (valV c (nK k)).isSome = true := fun k hk => by
    cases hg : g k with
    | none => rw [hg] at hk; cases hk
    | some xy =>
      obtain ⟨a, b⟩ := xy
      obtain ⟨r, h1, _⟩ := (fc k).2 a b hg
      rw [h1]; rfl
  have l1 := putK_old (v := .ref q1) (old n gn)
  have l2 : (putK (putK c (nK n) (.ref q1)) (nK j) (.ref q2)).length = (putK c (nK n) (.ref q1)).length := putK_old (by rw [valV_put]; split; rfl; exact old j gj)
  have lcq : lc ≠ q1 := ne_of_none hlc n1
  have loq : lo ≠ q1 := ne_of_none hlo n1
  have pq : p ≠ q1 := ne_of_none hp n1
  have t1 : ∀ b vs, H b = some (.tup vs) → H1 b = some (.tup vs) := fun b vs e => by
    rw [e1, upd_ne (ne_of e hlc fun z => by cases z), upd_ne (ne_of_none e n1)]; exact e
  have hq1 : H1 q1 = some (.tup [nV x, nV y]) := by rw [e1, upd_ne lcq.symm, upd_same]
  have hlc1 : H1 lc = some (.dK (putK c (nK n) (.ref q1))) := by rw [e1, upd_same]
  have hlo1 : H1 lo = some (.dK o) := by rw [e1, upd_ne nl, upd_ne loq]; exact hlo
  have hp1 : H1 p = some (.ins C dx (gf lo lc (m : Nat))) := by rw [e1, upd_ne plc, upd_ne pq]; exact hp
  have s1 : Same H0 H1 := by rw [e1]; exact (s0.new (s0.free n1) _).new nlc _
  have fo1 := fo.move t1
  have fc1 := fc.put t1 n x y hq1
  have lcq2 : lc ≠ q2 := ne_of_none hlc1 n2
  have t2 : ∀ b vs, H1 b = some (.tup vs) → (upd (upd H1 q2 (.tup [nV z, nV u])) lc (.dK (putK (putK c (nK n) (.ref q1)) (nK j) (.ref q2)))) b = some (.tup vs) := fun b vs e => by
    rw [upd_ne (ne_of e hlc1 fun z => by cases z), upd_ne (ne_of_none e n2)]; exact e
  refine ⟨⟨o, _, ⟨(s1.new (s1.free n2) _).new nlc _, np, dx, lo, lc, nlo, nlc, nl, ?_, ?_, upd_same⟩, ol, by omega, f, _, fo1.move t2, fc1.put t2 j z u ?_, S'⟩, hlc1, hp1⟩
  · rw [upd_ne plc, upd_ne (ne_of_none hp1 n2)]; exact hp1
  · rw [upd_ne nl, upd_ne (ne_of_none hlo1 n2)]; exact hlo1
  · rw [upd_ne lcq2.symm, upd_same]
theorem ok_Growth_turn (T : Txt w K mg) : FnOk P w K mg base CX0 4 T.a_Growth_turn T.fd_Growth_turn ["self", "word", "address"] (sp_Growth_turn T) := by
  refine T.F_Growth_turn.ok sc_Growth_turn (fun vs H Q E h => ?_) (fun cdv A outer s H vs Q E hr h => ?_)
  · obtain ⟨_, _, _, _, _, _, _, rfl, _⟩ := h; rfl
  obtain ⟨H0, p, O, C, m, wd, a, rfl, gs, al, hm, hw, q⟩ := h
  have hu := Nat.lt_of_le_of_lt (Nat.add_le_add_left (by decide : 1 ≤ 64) _) hr.units
  refine ⟨_, (pss_cons (ps_set (i := 3) sc_Growth_turn.nd rfl (by first | exact Or.inl rfl | exact Or.inr rfl) pe_int)
    (pss_cons (ps_for PassesOwn.never rfl (pi_str (pv 2)) (pg_name (i := 4) sc_Growth_turn.nd rfl (by first | exact Or.inl rfl | exact Or.inr rfl)) (pss_cons (ps_asg (pe_meth (pv 0) T.l_Growth T.t_Growth_sides (ok_Growth_sides T) (hr.mono (by first | decide | omega)) T.b_Growth_sides .nil pass0 (pa_cons (pv 3) pa_nil)) (pg_tup rfl (pgs_cons (pg_name (i := 5) sc_Growth_turn.nd rfl (by first | exact Or.inl rfl | exact Or.inr rfl)) (pgs_cons (pg_name (i := 6) sc_Growth_turn.nd rfl (by first | exact Or.inl rfl | exact Or.inr rfl)) pgs_nil))))
    (pss_one (ps_set (i := 3) sc_Growth_turn.nd rfl (by first | exact Or.inl rfl | exact Or.inr rfl) (pe_ifExp (pt_cmpR op_eq (pv 4) pe_str (nomark _)) (pv 5) (pv 6))))))
    (pss_cons (ps_asg (pe_meth (pv 0) T.l_Growth T.t_Growth_sides (ok_Growth_sides T) (hr.mono (by first | decide | omega)) T.b_Growth_sides .nil pass0 (pa_cons (pv 3) pa_nil)) (pg_tup rfl (pgs_cons (pg_name (i := 5) sc_Growth_turn.nd rfl (by first | exact Or.inl rfl | exact Or.inr rfl)) (pgs_cons (pg_name (i := 6) sc_Growth_turn.nd rfl (by first | exact Or.inl rfl | exact Or.inr rfl)) pgs_nil))))
    (pss_one (ps_if (pt_cmpR op_eq (pv 1) pe_str (nomark _)) (pss_cons (ps_asg (pe_meth (pv 0) T.l_Growth T.t_Growth_sides (ok_Growth_sides T) (hr.mono (by first | decide | omega)) T.b_Growth_sides .nil pass0 (pa_cons (pv 5) pa_nil)) (pg_tup rfl (pgs_cons (pg_name (i := 7) sc_Growth_turn.nd rfl (by first | exact Or.inl rfl | exact Or.inr rfl)) (pgs_cons (pg_name (i := 8) sc_Growth_turn.nd rfl (by first | exact Or.inl rfl | exact Or.inr rfl)) pgs_nil))))
    (pss_cons (ps_dput hu (pe_fld (pv 0) rfl) (pv 3) (pe_tup (pa_cons (pv 7) (pa_cons (pv 5) pa_nil))) rfl)
    (pss_one (ps_dput hu (pe_fld (pv 0) rfl) (pv 5) (pe_tup (pa_cons (pv 8) (pa_cons (pv 6) pa_nil))) rfl)))) (pss_cons (ps_asg (pe_meth (pv 0) T.l_Growth T.t_Growth_sides (ok_Growth_sides T) (hr.mono (by first | decide | omega)) T.b_Growth_sides .nil pass0 (pa_cons (pv 6) pa_nil)) (pg_tup rfl (pgs_cons (pg_name (i := 8) sc_Growth_turn.nd rfl (by first | exact Or.inl rfl | exact Or.inr rfl)) (pgs_cons (pg_name (i := 7) sc_Growth_turn.nd rfl (by first | exact Or.inl rfl | exact Or.inr rfl)) pgs_nil))))
    (pss_cons (ps_dput hu (pe_fld (pv 0) rfl) (pv 3) (pe_tup (pa_cons (pv 6) (pa_cons (pv 7) pa_nil))) rfl)
    (pss_one (ps_dput hu (pe_fld (pv 0) rfl) (pv 6) (pe_tup (pa_cons (pv 5) (pa_cons (pv 8) pa_nil))) rfl))))))))), ?_⟩
  simp only [cxOf_K, tAsg2, tYes, wipe, tSeq, tIfS, tNot, tB, tCB, tCons, tNil, tVar, tC, tTest, tOp, tAnd, tOr, tAsg, gName, tRet, tRetN, tDrop, tNext, tIf, tCall, tTup, tLst, tNotV, tAndV, tOrV, tUn, rI0, rI, rU, rEq, rNe, tM1, tM0, tBM, tBM0, tSl, tPart, tNoPart, iStr, iEnumS, iRng1, iRng2, iList, gSub, tBits, tAug, tPar, L2.start, List.map_cons, List.map_nil, List.length_cons, List.length_nil, List.getElem?_cons_zero, List.getElem?_cons_succ, List.cons_append, List.nil_append, List.append_nil, List.set_cons_zero, List.set_cons_succ, List.replicate_succ, List.replicate_zero, Option.some.injEq, exists_eq_left', V.int.injEq, V.str.injEq, V.ref.injEq, V.bl.injEq, exists_and_left, exists_eq_left, List.cons.injEq, and_true, true_and, tCallX, tRs, tProp, OW.tSMeth, OW.tCallI, Nat.sub_self, List.replicate_zero, tFld, sFld, sFldAug, tDGet, tDIn, tDNotIn, sDPut, tMeth, tMake, tDNewK]
  have c0 : C.lab = 0 := by obtain ⟨o, c, _, _, _, f, g, _, _, S⟩ := gs; exact S.lc
  refine ⟨_, rfl, S a, rfl, for_str (fun i σ H' => ∃ (O1 C1 t : LT) (m1 : Nat) (a4 a5 a6 : Option V), σ = [some (.ref p), some (.str wd), some (sV a), some (nV t.lab), a4, a5, a6, none, none] ∧ GrowS T.c_Growth H0 H' p O1 C1 m1 ∧ m1 ≤ m + 2 * i ∧ LT.Alike O C O1 C1 ∧ C1.shape = Tr.join C.shape (pth (a.take i) .leaf) ∧ LT.lat C1 (a.take i) = some t)
    ⟨O, C, C, m, none, none, none, by rw [c0]; rfl, gs, by omega, LT.Alike.refl O C, by rw [List.take_zero]; exact (Tr.join_leaf _).symm, by rw [List.take_zero]; exact LT.lat_nil C⟩ ?_ ?_⟩
  · rintro i c σ H1 hi ⟨O1, C1, t, m1, a4, a5, a6, rfl, gs1, hm1, al1, sh1, la1⟩
    have hil : i < (S a).length := (Array.getElem?_eq_some_iff.mp hi).1
    rw [S_len] at hil
    have hd : a[i]? = some c := by
      have := (Array.getElem?_eq_some_iff.mp hi).2
      rw [List.getElem?_eq_some_iff]
      exact ⟨hil, by simpa using this⟩
    obtain ⟨dx, lo, lc, hp1⟩ := gs1.at
    simp only [cxOf_K, tAsg2, tYes, wipe, tSeq, tIfS, tNot, tB, tCB, tCons, tNil, tVar, tC, tTest, tOp, tAnd, tOr, tAsg, gName, tRet, tRetN, tDrop, tNext, tIf, tCall, tTup, tLst, tNotV, tAndV, tOrV, tUn, rI0, rI, rU, rEq, rNe, tM1, tM0, tBM, tBM0, tSl, tPart, tNoPart, iStr, iEnumS, iRng1, iRng2, iList, gSub, tBits, tAug, tPar, L2.start, List.map_cons, List.map_nil, List.length_cons, List.length_nil, List.getElem?_cons_zero, List.getElem?_cons_succ, List.cons_append, List.nil_append, List.append_nil, List.set_cons_zero, List.set_cons_succ, List.replicate_succ, List.replicate_zero, Option.some.injEq, exists_eq_left', V.int.injEq, V.str.injEq, V.ref.injEq, V.bl.injEq, exists_and_left, exists_eq_left, List.cons.injEq, and_true, true_and, tCallX, tRs, tProp, OW.tSMeth, OW.tCallI, Nat.sub_self, List.replicate_zero, tFld, sFld, sFldAug, tDGet, tDIn, tDNotIn, sDPut, tMeth, tMake, tDNewK]
    refine ⟨dx, _, hp1, by rfl, ?_⟩
    refine ⟨H0, p, O1, C1, t, m1, a.take i, rfl, gs1, by omega, la1, fun q1 H2 O2 C2 m2 l r gs2 hm2 la2 sh2 al2 hq1 => ?_⟩
    refine ⟨q1, _, rfl, SqT.of hq1, rfl, _, _, rfl, _, _, rfl, rfl, ?_⟩
    simp only [cxOf_K, tAsg2, tYes, wipe, tSeq, tIfS, tNot, tB, tCB, tCons, tNil, tVar, tC, tTest, tOp, tAnd, tOr, tAsg, gName, tRet, tRetN, tDrop, tNext, tIf, tCall, tTup, tLst, tNotV, tAndV, tOrV, tUn, rI0, rI, rU, rEq, rNe, tM1, tM0, tBM, tBM0, tSl, tPart, tNoPart, iStr, iEnumS, iRng1, iRng2, iList, gSub, tBits, tAug, tPar, L2.start, List.map_cons, List.map_nil, List.length_cons, List.length_nil, List.getElem?_cons_zero, List.getElem?_cons_succ, List.cons_append, List.nil_append, List.append_nil, List.set_cons_zero, List.set_cons_succ, List.replicate_succ, List.replicate_zero, Option.some.injEq, exists_eq_left', V.int.injEq, V.str.injEq, V.ref.injEq, V.bl.injEq, exists_and_left, exists_eq_left, List.cons.injEq, and_true, true_and, tCallX, tRs, tProp, OW.tSMeth, OW.tCallI, Nat.sub_self, List.replicate_zero, tFld, sFld, sFldAug, tDGet, tDIn, tDNotIn, sDPut, tMeth, tMake, tDNewK]
    have tk : a.take (i + 1) = a.take i ++ [c] := by rw [List.take_add_one, hd]; rfl
    have e : LT.lat C2 (a.take i ++ [c]) = some (if c = 108 then l else r) := by
      rw [LT.lat_app _ la2]
      show (if c = 108 then LT.lat l [] else LT.lat r []) = _
      rw [LT.lat_nil, LT.lat_nil]; split <;> rfl
    have sg : (({ cps := #[c] } : Str) = S [c]) := rfl
    rw [sg, lit_l]
    have si : (S [c] = S [108]) ↔ c = 108 := ⟨fun z => by have := S_inj z; simpa using this, fun z => by rw [z]⟩
    have sh3 := LT.walk_on c sh1 sh2
    rw [← tk] at sh3 e
    refine ⟨rfl, ?_⟩
    by_cases hc : c = 108
    · rw [if_pos hc] at e
      rw [if_pos (decide_eq_true (si.mpr hc))]
      exact ⟨O2, C2, l, m2, _, _, _, ⟨rfl, rfl, rfl, rfl⟩, gs2, by omega, al2 _ _ al1, sh3, e⟩
    · rw [if_neg hc] at e
      rw [if_neg (fun z => hc (si.mp (of_decide_eq_true z)))]
      exact ⟨O2, C2, r, m2, _, _, _, ⟨rfl, rfl, rfl, rfl⟩, gs2, by omega, al2 _ _ al1, sh3, e⟩
  · rintro σ H1 ⟨O1, C1, t, m1, a4, a5, a6, rfl, gs1, hm1, al1, sh1, la1⟩
    have asz : (S a).cps.size = a.length := S_len a
    rw [asz] at hm1 sh1 la1
    rw [List.take_length] at sh1 la1
    obtain ⟨dx, lo, lc, hp1⟩ := gs1.at
    simp only [cxOf_K, tAsg2, tYes, wipe, tSeq, tIfS, tNot, tB, tCB, tCons, tNil, tVar, tC, tTest, tOp, tAnd, tOr, tAsg, gName, tRet, tRetN, tDrop, tNext, tIf, tCall, tTup, tLst, tNotV, tAndV, tOrV, tUn, rI0, rI, rU, rEq, rNe, tM1, tM0, tBM, tBM0, tSl, tPart, tNoPart, iStr, iEnumS, iRng1, iRng2, iList, gSub, tBits, tAug, tPar, L2.start, List.map_cons, List.map_nil, List.length_cons, List.length_nil, List.getElem?_cons_zero, List.getElem?_cons_succ, List.cons_append, List.nil_append, List.append_nil, List.set_cons_zero, List.set_cons_succ, List.replicate_succ, List.replicate_zero, Option.some.injEq, exists_eq_left', V.int.injEq, V.str.injEq, V.ref.injEq, V.bl.injEq, exists_and_left, exists_eq_left, List.cons.injEq, and_true, true_and, tCallX, tRs, tProp, OW.tSMeth, OW.tCallI, Nat.sub_self, List.replicate_zero, tFld, sFld, sFldAug, tDGet, tDIn, tDNotIn, sDPut, tMeth, tMake, tDNewK]
    refine ⟨dx, _, hp1, by rfl, ?_⟩
    refine ⟨H0, p, O1, C1, t, m1, a, rfl, gs1, by omega, la1, fun q1 H2 O2 C2 m2 l r gs2 hm2 la2 sh2 al2 hq1 => ?_⟩
    refine ⟨q1, _, rfl, SqT.of hq1, rfl, _, _, rfl, _, _, rfl, rfl, ?_⟩
    simp only [cxOf_K, tAsg2, tYes, wipe, tSeq, tIfS, tNot, tB, tCB, tCons, tNil, tVar, tC, tTest, tOp, tAnd, tOr, tAsg, gName, tRet, tRetN, tDrop, tNext, tIf, tCall, tTup, tLst, tNotV, tAndV, tOrV, tUn, rI0, rI, rU, rEq, rNe, tM1, tM0, tBM, tBM0, tSl, tPart, tNoPart, iStr, iEnumS, iRng1, iRng2, iList, gSub, tBits, tAug, tPar, L2.start, List.map_cons, List.map_nil, List.length_cons, List.length_nil, List.getElem?_cons_zero, List.getElem?_cons_succ, List.cons_append, List.nil_append, List.append_nil, List.set_cons_zero, List.set_cons_succ, List.replicate_succ, List.replicate_zero, Option.some.injEq, exists_eq_left', V.int.injEq, V.str.injEq, V.ref.injEq, V.bl.injEq, exists_and_left, exists_eq_left, List.cons.injEq, and_true, true_and, tCallX, tRs, tProp, OW.tSMeth, OW.tCallI, Nat.sub_self, List.replicate_zero, tFld, sFld, sFldAug, tDGet, tDIn, tDNotIn, sDPut, tMeth, tMake, tDNewK]
    obtain ⟨dx2, lo2, lc2, hp2⟩ := gs2.at
    refine ⟨rfl, ?_⟩
    rcases hw with rfl | rfl
    · rw [if_neg (by simp only [decide_eq_true_eq]; intro z; exact absurd z (by decide +kernel))]
      have la3 : LT.lat C2 (a ++ [114]) = some r := by
        rw [LT.lat_app _ la2]; exact LT.lat_nil r
      refine ⟨dx2, _, hp2, by rfl, ?_⟩
      refine ⟨H0, p, O2, C2, r, m2, a ++ [114], rfl, gs2, by omega, la3, fun q2 H3 O3 C3 m3 i o gs3 hm3 la4 sh3 al3 hq2 => ?_⟩
      refine ⟨q2, _, rfl, SqT.of hq2, rfl, _, _, rfl, _, _, rfl, rfl, ?_⟩
      simp only [cxOf_K, tAsg2, tYes, wipe, tSeq, tIfS, tNot, tB, tCB, tCons, tNil, tVar, tC, tTest, tOp, tAnd, tOr, tAsg, gName, tRet, tRetN, tDrop, tNext, tIf, tCall, tTup, tLst, tNotV, tAndV, tOrV, tUn, rI0, rI, rU, rEq, rNe, tM1, tM0, tBM, tBM0, tSl, tPart, tNoPart, iStr, iEnumS, iRng1, iRng2, iList, gSub, tBits, tAug, tPar, L2.start, List.map_cons, List.map_nil, List.length_cons, List.length_nil, List.getElem?_cons_zero, List.getElem?_cons_succ, List.cons_append, List.nil_append, List.append_nil, List.set_cons_zero, List.set_cons_succ, List.replicate_succ, List.replicate_zero, Option.some.injEq, exists_eq_left', V.int.injEq, V.str.injEq, V.ref.injEq, V.bl.injEq, exists_and_left, exists_eq_left, List.cons.injEq, and_true, true_and, tCallX, tRs, tProp, OW.tSMeth, OW.tCallI, Nat.sub_self, List.replicate_zero, tFld, sFld, sFldAug, tDGet, tDIn, tDNotIn, sDPut, tMeth, tMake, tDNewK]
      obtain ⟨l3, r3, la5, e1, e2⟩ := (al3 _ _ (LT.Alike.refl _ _)).lat la2
      have al4 := al3 _ _ (al2 _ _ al1)
      obtain ⟨o3, c3, ⟨s3, np, dx3, lo3, lc3, nlo, nlc, nl, hp3, hlo3, hlc3⟩, ol, cl, f, g, fo, fc, S3⟩ := gs3
      have la6 := LT.lat_app [114] la5
      rw [la4] at la6
      have la6 : some _ = LT.lat r3 [] := la6
      rw [LT.lat_nil] at la6
      have la6 := Option.some.inj la6
      subst la6
      have g1 := (LT.rep_lat S3.rc la5).1
      have g2 := (LT.rep_lat S3.rc la4).1
      obtain ⟨S4, st⟩ := S3.turnL la5
      rw [e1] at S4
      have sh4 := LT.walk_top sh1 sh2 false sh3
      refine ⟨by decide, fun q3 nq3 => ?_⟩
      have plc : p ≠ lc3 := ne_of hp3 hlc3 fun z => by cases z
      refine ⟨_, _, _, (upd_ne (ne_of_none hp3 nq3)).trans hp3, T.l_Growth, T.n_Growth_current, _, gf_c _ _ _, lc3, rfl, _, DPut.k (k := nK t.lab) ((upd_ne (ne_of_none hlc3 nq3)).trans hlc3) (small5' (by omega)), by decide, fun q4 nq4 => ?_⟩
      obtain ⟨G4, h4, h5⟩ := GrowS.turned s3 np nlo nlc nl hp3 hlo3 hlc3 ol cl fo fc (by rw [g1]; rfl) (by rw [g2]; rfl) r.lab o.lab l.lab i.lab S4 nq3 _ rfl nq4
      refine ⟨_, _, _, (upd_ne (ne_of_none h5 nq4)).trans h5, T.l_Growth, T.n_Growth_current, _, gf_c _ _ _, lc3, rfl, _, DPut.k (k := nK r.lab) ((upd_ne (ne_of_none h4 nq4)).trans h4) (small5' ?_), ?_⟩
      · have := length_putK c3 (nK t.lab) (.ref q3); omega
      · refine q _ _ _ m3 G4 (by omega) ?_
        obtain ⟨o0, c0', _, _, _, f0, g0, _, _, S0⟩ := gs
        exact LT.Alike.unf (r := false) S0 al4 sh4 st
    · rw [if_pos (decide_eq_true rfl)]
      have la3 : LT.lat C2 (a ++ [108]) = some l := by
        rw [LT.lat_app _ la2]; exact LT.lat_nil l
      refine ⟨dx2, _, hp2, by rfl, ?_⟩
      refine ⟨H0, p, O2, C2, l, m2, a ++ [108], rfl, gs2, by omega, la3, fun q2 H3 O3 C3 m3 o i gs3 hm3 la4 sh3 al3 hq2 => ?_⟩
      refine ⟨q2, _, rfl, SqT.of hq2, rfl, _, _, rfl, _, _, rfl, rfl, ?_⟩
      simp only [cxOf_K, tAsg2, tYes, wipe, tSeq, tIfS, tNot, tB, tCB, tCons, tNil, tVar, tC, tTest, tOp, tAnd, tOr, tAsg, gName, tRet, tRetN, tDrop, tNext, tIf, tCall, tTup, tLst, tNotV, tAndV, tOrV, tUn, rI0, rI, rU, rEq, rNe, tM1, tM0, tBM, tBM0, tSl, tPart, tNoPart, iStr, iEnumS, iRng1, iRng2, iList, gSub, tBits, tAug, tPar, L2.start, List.map_cons, List.map_nil, List.length_cons, List.length_nil, List.getElem?_cons_zero, List.getElem?_cons_succ, List.cons_append, List.nil_append, List.append_nil, List.set_cons_zero, List.set_cons_succ, List.replicate_succ, List.replicate_zero, Option.some.injEq, exists_eq_left', V.int.injEq, V.str.injEq, V.ref.injEq, V.bl.injEq, exists_and_left, exists_eq_left, List.cons.injEq, and_true, true_and, tCallX, tRs, tProp, OW.tSMeth, OW.tCallI, Nat.sub_self, List.replicate_zero, tFld, sFld, sFldAug, tDGet, tDIn, tDNotIn, sDPut, tMeth, tMake, tDNewK]
      obtain ⟨l3, r3, la5, e1, e2⟩ := (al3 _ _ (LT.Alike.refl _ _)).lat la2
      have al4 := al3 _ _ (al2 _ _ al1)
      obtain ⟨o3, c3, ⟨s3, np, dx3, lo3, lc3, nlo, nlc, nl, hp3, hlo3, hlc3⟩, ol, cl, f, g, fo, fc, S3⟩ := gs3
      have la6 := LT.lat_app [108] la5
      rw [la4] at la6
      have la6 : some _ = LT.lat l3 [] := la6
      rw [LT.lat_nil] at la6
      have la6 := Option.some.inj la6
      subst la6
      have g1 := (LT.rep_lat S3.rc la5).1
      have g2 := (LT.rep_lat S3.rc la4).1
      obtain ⟨S4, st⟩ := S3.turnR la5
      rw [e2] at S4
      have sh4 := LT.walk_top sh1 sh2 true sh3
      refine ⟨by decide, fun q3 nq3 => ?_⟩
      have plc : p ≠ lc3 := ne_of hp3 hlc3 fun z => by cases z
      refine ⟨_, _, _, (upd_ne (ne_of_none hp3 nq3)).trans hp3, T.l_Growth, T.n_Growth_current, _, gf_c _ _ _, lc3, rfl, _, DPut.k (k := nK t.lab) ((upd_ne (ne_of_none hlc3 nq3)).trans hlc3) (small5' (by omega)), by decide, fun q4 nq4 => ?_⟩
      obtain ⟨G4, h4, h5⟩ := GrowS.turned s3 np nlo nlc nl hp3 hlo3 hlc3 ol cl fo fc (by rw [g1]; rfl) (by rw [g2]; rfl) o.lab l.lab i.lab r.lab S4 nq3 _ rfl nq4
      refine ⟨_, _, _, (upd_ne (ne_of_none h5 nq4)).trans h5, T.l_Growth, T.n_Growth_current, _, gf_c _ _ _, lc3, rfl, _, DPut.k (k := nK l.lab) ((upd_ne (ne_of_none h4 nq4)).trans h4) (small5' ?_), ?_⟩
      · have := length_putK c3 (nK t.lab) (.ref q3); omega
      · refine q _ _ _ m3 G4 (by omega) ?_
        obtain ⟨o0, c0', _, _, _, f0, g0, _, _, S0⟩ := gs
        exact LT.Alike.unf (r := true) S0 al4 sh4 st

/-- what is still to be written -/
def outW : List (Option LT) → List Nat
  | [] => []
  | none :: r => 41 :: outW r
  | some t :: r => t.shape.cs ++ outW r
def opV : Option LT → V
  | none => .non
  | some t => nV t.lab
theorem outW_len : ∀ s : List (Option LT), s.length ≤ (outW s).length
  | [] => Nat.le_refl _
  | none :: r => by have := outW_len r; simp only [outW, List.length_cons]; omega
  | some t :: r => by
    have := outW_len r
    have h := Tr.len_pos t.shape
    simp only [outW, List.length_cons, List.length_append, Tr.cs_length]; omega
theorem ok_written (T : Txt w K mg) : FnOk P w K mg base CX0 2 T.a_written T.fd_written ["pairs"] (sp_written K) := by
  refine T.F_written.ok sc_written (fun vs H Q E h => ?_) (fun cdv A outer s H vs Q E hr h => ?_)
  · obtain ⟨_, _, _, _, rfl, _⟩ := h; rfl
  obtain ⟨d, kvs, f, t, rfl, hd, fr, rp, t0, tsz, q⟩ := h
  have hu := Nat.lt_of_le_of_lt (Nat.add_le_add_left (by decide : 1 ≤ 64) _) hr.units
  refine ⟨_, (pss_cons (ps_set (i := 1) sc_written.nd rfl (by first | exact Or.inl rfl | exact Or.inr rfl) (pe_lst pa_nil))
    (pss_cons (ps_set (i := 2) sc_written.nd rfl (by first | exact Or.inl rfl | exact Or.inr rfl) (pe_lst (pa_cons pe_int pa_nil)))
    (pss_cons (ps_while PassesOwn.never (pt_truth (pv 2) (fun _ => rfl)) (pss_cons (ps_set (i := 3) sc_written.nd rfl (by first | exact Or.inl rfl | exact Or.inr rfl) (pe_bm0 PySem.F.plainAttrs_list PySem.F.slot_list_pop PySem.F.type_list_pop mt_pop (pv 2)))
    (pss_one (ps_if (pt_cmpR op_isN (pv 3) pe_non (nomark _)) (pss_one (ps_expr (pe_bm PySem.F.plainAttrs_list PySem.F.slot_list_append PySem.F.type_list_append mt_append (pv 1) (pa_cons pe_str pa_nil)))) (pss_one (ps_if (pt_cmp (pc_din hu (pv 3) (pv 0))) (pss_cons (ps_asg (pe_dget hu (pv 0) (pv 3) (fun _ _ => rfl)) (pg_tup rfl (pgs_cons (pg_name (i := 4) sc_written.nd rfl (by first | exact Or.inl rfl | exact Or.inr rfl)) (pgs_cons (pg_name (i := 5) sc_written.nd rfl (by first | exact Or.inl rfl | exact Or.inr rfl)) pgs_nil))))
    (pss_cons (ps_expr (pe_bm PySem.F.plainAttrs_list PySem.F.slot_list_append PySem.F.type_list_append mt_append (pv 1) (pa_cons pe_str pa_nil)))
    (pss_one (ps_expr (pe_bm PySem.F.plainAttrs_list PySem.F.slot_list_extend PySem.F.type_list_extend mt_extend (pv 2) (pa_cons (pe_lst (pa_cons pe_non (pa_cons (pv 5) (pa_cons (pv 4) pa_nil)))) pa_nil)))))) (pss_one (ps_expr (pe_bm PySem.F.plainAttrs_list PySem.F.slot_list_append PySem.F.type_list_append mt_append (pv 1) (pa_cons pe_str pa_nil))))))))))
    (pss_one (ps_ret (pe_join pe_str (pv 1))))))), ?_⟩
  simp only [cxOf_K, tAsg2, tYes, wipe, tSeq, tIfS, tNot, tB, tCB, tCons, tNil, tVar, tC, tTest, tOp, tAnd, tOr, tAsg, gName, tRet, tRetN, tDrop, tNext, tIf, tCall, tTup, tLst, tNotV, tAndV, tOrV, tUn, rI0, rI, rU, rEq, rNe, tM1, tM0, tBM, tBM0, tSl, tPart, tNoPart, iStr, iEnumS, iRng1, iRng2, iList, gSub, tBits, tAug, tPar, L2.start, List.map_cons, List.map_nil, List.length_cons, List.length_nil, List.getElem?_cons_zero, List.getElem?_cons_succ, List.cons_append, List.nil_append, List.append_nil, List.set_cons_zero, List.set_cons_succ, List.replicate_succ, List.replicate_zero, Option.some.injEq, exists_eq_left', V.int.injEq, V.str.injEq, V.ref.injEq, V.bl.injEq, exists_and_left, exists_eq_left, List.cons.injEq, and_true, true_and, tCallX, tRs, tProp, OW.tSMeth, OW.tCallI, Nat.sub_self, List.replicate_zero, tFld, sFld, sFldAug, tDGet, tDIn, tDNotIn, sDPut, tMeth, tMake, tDNewK]
  have tl := tr_len tsz
  refine ⟨Nat.zero_le _, fun p np => ?_⟩
  have s1 := (L2.Same.refl H).new np (.lst [])
  have hp : upd H p (.lst []) p = some _ := upd_same
  generalize upd H p (.lst []) = H1 at s1 hp ⊢
  refine ⟨by decide, fun p1 np1 => ?_⟩
  have hpp1 : p ≠ p1 := ne_of_none hp np1
  have np1' := s1.free np1
  have s2 := s1.new np1' (.lst [V.int 0])
  have hp2 : upd H1 p1 (.lst [V.int 0]) p = some (.lst []) := by rw [upd_ne hpp1]; exact hp
  have hp1 : upd H1 p1 (.lst [V.int 0]) p1 = some (.lst (([some t] : List (Option LT)).reverse.map opV)) := by
    rw [upd_same]
    show some (HO.lst [V.int 0]) = some (HO.lst [nV t.lab])
    rw [t0]; rfl
  generalize upd H1 p1 (.lst [V.int 0]) = H2 at s2 hp2 hp1 ⊢
  refine ⟨fun m σ H' => ∃ (stk : List (Option LT)) (dn : List Nat) (a3 a4 a5 : Option V), m = (outW stk).length ∧ σ = [some (.ref d), some (.ref p), some (.ref p1), a3, a4, a5] ∧ Same H H' ∧ H' p = some (.lst (dn.map sgV)) ∧ H' p1 = some (.lst (stk.reverse.map opV)) ∧
    (∀ x ∈ stk, ∀ u, x = some u → LT.Rep f u) ∧ dn ++ outW stk = t.shape.cs, ?_, ?_⟩
  · refine ⟨_, [some t], [], none, none, none, rfl, rfl, s2, hp2, hp1, fun x hx u hu => ?_, by simp [outW]⟩
    rw [List.mem_singleton.mp hx] at hu; cases hu; exact rp
  · rintro m σ H' ⟨stk, dn, a3, a4, a5, rfl, rfl, s0, h1, h2, rs, ew⟩
    have el := congrArg List.length ew
    rw [List.length_append] at el
    simp only [cxOf_K, tAsg2, tYes, wipe, tSeq, tIfS, tNot, tB, tCB, tCons, tNil, tVar, tC, tTest, tOp, tAnd, tOr, tAsg, gName, tRet, tRetN, tDrop, tNext, tIf, tCall, tTup, tLst, tNotV, tAndV, tOrV, tUn, rI0, rI, rU, rEq, rNe, tM1, tM0, tBM, tBM0, tSl, tPart, tNoPart, iStr, iEnumS, iRng1, iRng2, iList, gSub, tBits, tAug, tPar, L2.start, List.map_cons, List.map_nil, List.length_cons, List.length_nil, List.getElem?_cons_zero, List.getElem?_cons_succ, List.cons_append, List.nil_append, List.append_nil, List.set_cons_zero, List.set_cons_succ, List.replicate_succ, List.replicate_zero, Option.some.injEq, exists_eq_left', V.int.injEq, V.str.injEq, V.ref.injEq, V.bl.injEq, exists_and_left, exists_eq_left, List.cons.injEq, and_true, true_and, tCallX, tRs, tProp, OW.tSMeth, OW.tCallI, Nat.sub_self, List.replicate_zero, tFld, sFld, sFldAug, tDGet, tDIn, tDNotIn, sDPut, tMeth, tMake, tDNewK]
    refine ⟨_, .inl ⟨_, SqL.of h2, rfl⟩, ?_⟩
    cases stk with
    | nil =>
      rw [if_neg (by simp)]
      have ew : dn = t.shape.cs := by rw [← ew]; simp [outW]
      have e1 : dn.map sgV = (dn.map fun c => S [c]).map V.str := by rw [List.map_map]; rfl
      rw [e1] at h1
      refine ⟨⟨_, rfl⟩, _, .inl (SqL.of h1), ?_, ?_⟩
      · rw [signs_sum, ew, show (Str.ofString "").length = 0 from rfl]; omega
      · rw [show Str.ofString "" = S [] by decide +kernel, signs_join, ew]
        exact q _ s0
    | cons x stk =>
      rw [if_pos (by simp)]
      refine ⟨_, fun _ _ n => n, tyV_lst h2, p1, _, opV x, rfl, rfl, h2, by simp, ?_⟩
      have s3 := s0.new np1' (.lst ((List.map opV (x :: stk).reverse).dropLast))
      have h23 : upd H' p1 (.lst ((List.map opV (x :: stk).reverse).dropLast)) p1 = some (.lst (stk.reverse.map opV)) := by
        rw [upd_same]; simp
      have h13 : upd H' p1 (.lst ((List.map opV (x :: stk).reverse).dropLast)) p = _ := (upd_ne hpp1).trans h1
      generalize upd H' p1 (.lst ((List.map opV (x :: stk).reverse).dropLast)) = H3 at s3 h23 h13 ⊢
      have rs' : ∀ y ∈ stk, ∀ u, y = some u → LT.Rep f u := fun y hy => rs y (List.mem_cons_of_mem _ hy)
      have fr3 : DRep H3 kvs f := fr.move fun b vs e => s3 _ _ e
      have dl : dn.length ≤ 6001 := by omega
      have app : ∀ c : Nat, upd H3 p (.lst (dn.map sgV ++ [sgV c])) p = some (.lst ((dn ++ [c]).map sgV)) := fun c => by rw [upd_same]; simp
      cases x with
      | none =>
        refine ifdT rfl ⟨tyV_lst h13, p, _, _, rfl, rfl, h13, by rw [List.length_map]; exact small5' (by omega), ?_⟩
        rw [show V.str (Str.ofString ")") = sgV 41 from congrArg V.str lit_close]
        exact ⟨(outW stk).length, by simp [outW], stk, rfl, dn ++ [41], _, _, _, rfl, s3.new np _, app 41, (upd_ne hpp1.symm).trans h23, rs', by rw [← ew]; simp [outW]⟩
      | some u =>
        refine ifdF (fun z => by cases z) ?_
        have hdg : DGet H3 d (nV u.lab) (valV kvs (nK u.lab)) := DGet.k (k := nK u.lab) (s3 _ _ hd)
        have ru := rs (some u) (List.mem_cons_self ..) u rfl
        refine ⟨_, hdg, ?_⟩
        cases u with
        | lf n =>
          have e0 : valV kvs (nK (LT.lf n).lab) = none := (fr3 n).1 ru
          rw [e0]
          rw [if_neg (by simp)]
          refine ⟨tyV_lst h13, p, _, _, rfl, rfl, h13, by rw [List.length_map]; exact small5' (by omega), ?_⟩
          rw [show V.str (Str.ofString ".") = sgV 46 from congrArg V.str lit_dot]
          exact ⟨(outW stk).length, by simp [outW, LT.shape, Tr.cs], stk, rfl, dn ++ [46], _, _, _, rfl, s3.new np _, app 46, (upd_ne hpp1.symm).trans h23, rs', by rw [← ew]; simp [outW, LT.shape, Tr.cs]⟩
        | nd n l r =>
          obtain ⟨z, e1, hz⟩ := (fr3 n).2 _ _ ru.1
          have e1' : valV kvs (nK (LT.nd n l r).lab) = some (.ref z) := e1
          rw [e1'] at hdg ⊢
          rw [if_pos (by simp)]
          refine ⟨_, hdg, z, _, rfl, SqT.of hz, rfl, _, _, rfl, _, _, rfl, rfl, ?_⟩
          simp only [cxOf_K, tAsg2, tYes, wipe, tSeq, tIfS, tNot, tB, tCB, tCons, tNil, tVar, tC, tTest, tOp, tAnd, tOr, tAsg, gName, tRet, tRetN, tDrop, tNext, tIf, tCall, tTup, tLst, tNotV, tAndV, tOrV, tUn, rI0, rI, rU, rEq, rNe, tM1, tM0, tBM, tBM0, tSl, tPart, tNoPart, iStr, iEnumS, iRng1, iRng2, iList, gSub, tBits, tAug, tPar, L2.start, List.map_cons, List.map_nil, List.length_cons, List.length_nil, List.getElem?_cons_zero, List.getElem?_cons_succ, List.cons_append, List.nil_append, List.append_nil, List.set_cons_zero, List.set_cons_succ, List.replicate_succ, List.replicate_zero, Option.some.injEq, exists_eq_left', V.int.injEq, V.str.injEq, V.ref.injEq, V.bl.injEq, exists_and_left, exists_eq_left, List.cons.injEq, and_true, true_and, tCallX, tRs, tProp, OW.tSMeth, OW.tCallI, Nat.sub_self, List.replicate_zero, tFld, sFld, sFldAug, tDGet, tDIn, tDNotIn, sDPut, tMeth, tMake, tDNewK]
          refine ⟨tyV_lst h13, p, _, _, rfl, rfl, h13, by rw [List.length_map]; exact small5' (by omega), ?_⟩
          rw [show V.str (Str.ofString "(") = sgV 40 from congrArg V.str lit_open]
          have s4 := s3.new np (.lst (dn.map sgV ++ [sgV 40]))
          have h14 := app 40
          have h24 : upd H3 p (.lst (dn.map sgV ++ [sgV 40])) p1 = _ := (upd_ne hpp1.symm).trans h23
          generalize upd H3 p (.lst (dn.map sgV ++ [sgV 40])) = H4 at s4 h14 h24 ⊢
          refine ⟨tyV_lst h24, by decide, fun q2 nq2 => ?_⟩
          have ol := outW_len stk
          have e3 : (outW (some (LT.nd n l r) :: stk)).length = l.shape.cs.length + r.shape.cs.length + 2 + (outW stk).length := by simp [outW, LT.shape, Tr.cs]; omega
          rw [e3] at el
          refine ⟨p1, q2, _, _, rfl, rfl, (upd_ne (ne_of_none h24 nq2)).trans h24, upd_same, by simp; exact small5 (by omega), ?_⟩
          have s5 := s4.new (s4.free nq2) (.lst [V.non, nV r.lab, nV l.lab])
          refine ⟨(outW (some l :: some r :: none :: stk)).length, by rw [e3]; simp [outW]; omega, some l :: some r :: none :: stk, rfl, dn ++ [40], _, _, _, ⟨rfl, rfl, rfl⟩, s5.new np1' _, ?_, ?_, ?_, ?_⟩
          · rw [upd_ne hpp1, upd_ne (ne_of_none h14 nq2)]; exact h14
          · rw [upd_same]; simp [opV]
          · intro y hy w hw
            rcases List.mem_cons.mp hy with rfl | hy
            · cases hw; exact ru.2.1
            rcases List.mem_cons.mp hy with rfl | hy
            · cases hw; exact ru.2.2
            rcases List.mem_cons.mp hy with rfl | hy
            · cases hw
            exact rs' y hy w hw
          · rw [← ew]; simp [outW, LT.shape, Tr.cs]

theorem ok_Growth___init__ (T : Txt w K mg) : FnOk P w K mg base CX0 1 T.a_Growth___init__ T.fd_Growth___init__ ["self"] (sp_Growth___init__ T) := by
  refine T.F_Growth___init__.ok sc_Growth___init__ (fun vs H Q E h => ?_) (fun cdv A outer s H vs Q E hr h => ?_)
  · obtain ⟨H0, p, dx, rfl, _⟩ := h; rfl
  obtain ⟨H0, p, dx, rfl, s0, np, hp, q⟩ := h
  refine ⟨_, (pss_cons (ps_fld (pv 0) pe_dnewK rfl)
    (pss_cons (ps_fld (pv 0) pe_dnewK rfl)
    (pss_one (ps_fld (pv 0) pe_int rfl)))), ?_⟩
  intro lo nlo
  have npl : p ≠ lo := ne_of_none hp nlo
  have s1 := s0.new (s0.free nlo) (.dK [])
  have hp1 : upd H lo (.dK []) p = _ := (upd_ne npl).trans hp
  have hlo : upd H lo (.dK []) lo = some (.dK []) := upd_same
  have nlo0 := s0.free nlo
  generalize upd H lo (.dK []) = H1 at s1 hp1 hlo ⊢
  refine ⟨_, rfl, p, T.c_Growth, dx, [], rfl, hp1, T.l_Growth, T.n_Growth_origin, (by decide), ?_⟩
  have s2 := s1.new np (.ins T.c_Growth dx (putF "origin" (.ref lo) []))
  have hp2 : upd H1 p (.ins T.c_Growth dx (putF "origin" (.ref lo) [])) p = some _ := upd_same
  have hlo2 : upd H1 p (.ins T.c_Growth dx (putF "origin" (.ref lo) [])) lo = _ := (upd_ne npl.symm).trans hlo
  generalize upd H1 p (.ins T.c_Growth dx (putF "origin" (.ref lo) [])) = H2 at s2 hp2 hlo2 ⊢
  intro lc nlc
  have npc : p ≠ lc := ne_of_none hp2 nlc
  have nlc2 : lo ≠ lc := ne_of_none hlo2 nlc
  have nlc0 := s2.free nlc
  have s3 := s2.new nlc0 (.dK [])
  have hp3 : upd H2 lc (.dK []) p = _ := (upd_ne npc).trans hp2
  have hlo3 : upd H2 lc (.dK []) lo = _ := (upd_ne nlc2).trans hlo2
  have hlc3 : upd H2 lc (.dK []) lc = some (.dK []) := upd_same
  generalize upd H2 lc (.dK []) = H3 at s3 hp3 hlo3 hlc3 ⊢
  refine ⟨_, rfl, p, T.c_Growth, dx, _, rfl, hp3, T.l_Growth, T.n_Growth_current, Nat.lt_of_le_of_lt (putF_len _ _ _) (by decide), ?_⟩
  refine ⟨_, rfl, p, T.c_Growth, dx, _, rfl, upd_same, T.l_Growth, T.n_Growth_many, Nat.lt_of_le_of_lt (putF_len _ _ _) (Nat.lt_of_le_of_lt (Nat.succ_le_succ (putF_len _ _ _)) (by decide)), ?_⟩
  refine q _ ⟨?_, np, dx, lo, lc, nlo0, nlc0, nlc2, ?_, ?_, ?_⟩
  · exact (s3.new np _).new np _
  · rw [upd_same]
    exact congrArg (fun z => some (HO.ins T.c_Growth dx z)) (gf_make lo lc 1)
  · rw [upd_ne npl.symm, upd_ne npl.symm]; exact hlo3
  · rw [upd_ne npc.symm, upd_ne npc.symm]; exact hlc3

theorem pairT_take {xs : List (Str × List Nat)} {i : Nat} {x : Str × List Nat} (h : xs[i]? = some x) : pairT ((xs.take (i + 1)).map bxs) = unf (pairT ((xs.take i).map bxs)) (bxs x) := by
  rw [List.take_add_one, h, List.map_append]
  exact pairT_snoc _ _
theorem PairB.bounds {xs : List (Str × List Nat)} {D : Nat} (hD : ∀ x ∈ xs, okSt D x) (h : xs.length * (D + 2) ≤ 2000 ∨ (xs.length ≤ 2000 ∧ xs.length * (D + 2) ≤ 1000000 ∧ (pairT (xs.map bxs)).1.size ≤ 2000)) :
    xs.length ≤ 2000 ∧ xs.length * (D + 2) ≤ 1000000 ∧ (pairT (xs.map bxs)).1.size ≤ 2000 ∧ (pairT (xs.map bxs)).2.size = (pairT (xs.map bxs)).1.size := by
  have nb := pairT_bounds (D := D) (xs.map bxs) fun y hy => by
    obtain ⟨z, hz, rfl⟩ := List.mem_map.mp hy
    exact (hD z hz).2.2
  rw [List.length_map] at nb
  have h1 : xs.length * 1 ≤ xs.length * (D + 2) := Nat.mul_le_mul_left _ (by omega)
  rcases h with h | ⟨h2, h3, h4⟩
  · exact ⟨by omega, by omega, by omega, nb.2.1⟩
  · exact ⟨h2, h3, h4, nb.2.1⟩
theorem ok_pair_of (T : Txt w K mg) : FnOk P w K mg base (L2.CX P w) 6 T.a_pair_of T.fd_pair_of ["steps"] (sp_pair_of T) := by
  refine T.F_pair_of.okX sc_pair_of (fun vs H Q E h => ?_) (fun cdv A outer s H vs Q E hr h => ?_)
  · obtain ⟨v, xs, rfl, _⟩ := h; rfl
  obtain ⟨v, xs, rfl, gd, ⟨D, hD, D3, hs⟩, q⟩ := h
  refine ⟨_, (pss_cons (ps_set (i := 1) sc_pair_of.nd rfl (by first | exact Or.inl rfl | exact Or.inr rfl) (pe_make0 T.k_Growth (ok_Growth___init__ T) (hr.mono (by first | decide | omega)) (by rfl) T.g_Growth T.b_Growth___init__ .nil pass0))
    (pss_cons (ps_for (passes_of rfl) rfl (pi_list (pe_callX (ok_checked_script T) (takes_of rfl rfl rfl rfl) (hr.mono (by first | decide | omega)) (by rfl) T.m_checked_script T.F_checked_script.kp T.b_checked_script .nil (pa_cons (pv 0) pa_nil))) (pg_tup rfl (pgs_cons (pg_name (i := 2) sc_pair_of.nd rfl (by first | exact Or.inl rfl | exact Or.inr rfl)) (pgs_cons (pg_name (i := 3) sc_pair_of.nd rfl (by first | exact Or.inl rfl | exact Or.inr rfl)) pgs_nil))) (pss_one (ps_expr (pe_meth (pv 1) T.l_Growth T.t_Growth_turn (ok_Growth_turn T) (hr.mono (by first | decide | omega)) T.b_Growth_turn .nil pass0 (pa_cons (pv 2) (pa_cons (pv 3) pa_nil))))))
    (pss_one (ps_ret (pe_tup (pa_cons (pe_call (ok_written T) (hr.mono (by first | decide | omega)) (by rfl) T.m_written T.F_written.kp T.b_written .nil pass0 (pa_cons (pe_fld (pv 1) rfl) pa_nil)) (pa_cons (pe_call (ok_written T) (hr.mono (by first | decide | omega)) (by rfl) T.m_written T.F_written.kp T.b_written .nil pass0 (pa_cons (pe_fld (pv 1) rfl) pa_nil)) pa_nil))))))), ?_⟩
  simp only [cxOf_K, tAsg2, tYes, wipe, tSeq, tIfS, tNot, tB, tCB, tCons, tNil, tVar, tC, tTest, tOp, tAnd, tOr, tAsg, gName, tRet, tRetN, tDrop, tNext, tIf, tCall, tTup, tLst, tNotV, tAndV, tOrV, tUn, rI0, rI, rU, rEq, rNe, tM1, tM0, tBM, tBM0, tSl, tPart, tNoPart, iStr, iEnumS, iRng1, iRng2, iList, gSub, tBits, tAug, tPar, L2.start, List.map_cons, List.map_nil, List.length_cons, List.length_nil, List.getElem?_cons_zero, List.getElem?_cons_succ, List.cons_append, List.nil_append, List.append_nil, List.set_cons_zero, List.set_cons_succ, List.replicate_succ, List.replicate_zero, Option.some.injEq, exists_eq_left', V.int.injEq, V.str.injEq, V.ref.injEq, V.bl.injEq, exists_and_left, exists_eq_left, List.cons.injEq, and_true, true_and, tCallX, tRs, tProp, OW.tSMeth, OW.tCallI, Nat.sub_self, List.replicate_zero, tFld, sFld, sFldAug, tDGet, tDIn, tDNotIn, sDPut, tMeth, tMake, tDNewK]
  intro x dx nx ndx nex
  have s0 : Same H (upd (upd H dx (.own x)) x (.ins T.c_Growth dx [])) := ((L2.Same.refl H).new ndx _).new nx _
  refine ⟨H, x, dx, rfl, s0, nx, upd_same, fun H1 G1 => ⟨rfl, ?_⟩⟩
  obtain ⟨s1, _, dx1, lo, lc, nlo, nlc, nl, hx1, hlo1, hlc1⟩ := G1
  refine ⟨_, rfl, v, rfl, .inl ⟨xs, gd.same s1, fun p ws H2 np s2 hp st => ?_⟩⟩
  have xl := gd
  obtain ⟨_, _, _, _, st0, wl0, _⟩ := xl
  obtain ⟨xlen, hs, nb⟩ := PairB.bounds hD hs
  have wl := st.length
  -- the heap without the growth
  obtain ⟨B, hB, sB, nBx, nBo, nBc⟩ : ∃ B : Hp, (∀ b u, b ≠ x → b ≠ lo → b ≠ lc → H2 b = some u → B b = some u) ∧ Same B H2 ∧ B x = none ∧ B lo = none ∧ B lc = none :=
    ⟨fun b => if b = x ∨ b = lo ∨ b = lc then none else H2 b, fun b u h1 h2 h3 e => by
      show (if b = x ∨ b = lo ∨ b = lc then none else H2 b) = _
      rw [if_neg (by simp [h1, h2, h3])]; exact e, fun b u e => by
      have e : (if b = x ∨ b = lo ∨ b = lc then none else H2 b) = some u := e
      split at e
      · cases e
      · exact e, if_pos (.inl rfl), if_pos (.inr (.inl rfl)), if_pos (.inr (.inr rfl))⟩
  have s12 := s1.trans s2
  have hx2 := s2 _ _ hx1
  have hlo2 := s2 _ _ hlo1
  have hlc2 := s2 _ _ hlc1
  have sHB : Same H B := fun b u e => hB b u (fun z => by rw [z, nx] at e; cases e) (fun z => by rw [z, nlo] at e; cases e) (fun z => by rw [z, nlc] at e; cases e) (s12 _ _ e)
  have hpB : B p = some (.lst ws) := hB p _ (ne_of hp hx2 fun z => by cases z) (ne_of hp hlo2 fun z => by cases z) (ne_of hp hlc2 fun z => by cases z) hp
  have stB : Stps B ws xs := st.mono fun b vs e => hB b _ (ne_of e hx2 fun z => by cases z) (ne_of e hlo2 fun z => by cases z) (ne_of e hlc2 fun z => by cases z) e
  have g0 : GrowS T.c_Growth B H2 x (.lf 0) (.lf 0) 1 := ⟨[], [], ⟨sB, nBx, dx1, lo, lc, nBo, nBc, nl, hx2, hlo2, hlc2⟩, by decide, by decide, _, _, fun n => ⟨fun _ => rfl, fun x y z => (nomatch (show (none : Option (Nat × Nat)) = some (x, y) from z))⟩, fun n => ⟨fun _ => rfl, fun x y z => (nomatch (show (none : Option (Nat × Nat)) = some (x, y) from z))⟩, LT.Sta.zero⟩
  refine ⟨p, rfl, ⟨_, SqL.of hp⟩, for_list (K := K) (a := p) (xs := ws) (fun i σ H' => ∃ (O C : LT) (m : Nat) (a2 a3 : Option V), σ = [some v, some (.ref x), a2, a3] ∧ GrowS T.c_Growth B H' x O C m ∧ (O.shape, C.shape) = pairT ((xs.take i).map bxs) ∧ m ≤ 1 + 2 * (D + 2) * i)
    ⟨.lf 0, .lf 0, 1, none, none, rfl, g0, rfl, by omega⟩ ?_ ?_ ?_⟩
  · rintro i σ H' _ ⟨O, C, m, a2, a3, rfl, ⟨o, c, ⟨sb, _⟩, _⟩, _, _⟩
    exact SqL.of (sb _ _ hpB)
  · rintro i y σ H' hi ⟨O, C, m, a2, a3, rfl, gs, sh, hm⟩
    obtain ⟨p4, x4, rfl, hx4, hp4⟩ := stB.get hi
    have okx := hD x4 (List.mem_of_getElem? hx4)
    have il : i < xs.length := (List.getElem?_eq_some_iff.mp hx4).1
    have gs' := gs
    obtain ⟨o, c, ⟨sb, _, dx', lo', lc', _, _, _, hx', _⟩, _⟩ := gs'
    have p4' := sb _ _ hp4
    have bnd : 2 * (D + 2) * i ≤ 2 * 1000000 := by
      have : (D + 2) * i ≤ (D + 2) * xs.length := Nat.mul_le_mul_left _ (by omega)
      rw [Nat.mul_comm (D + 2) xs.length] at this
      rw [Nat.mul_assoc]; omega
    simp only [cxOf_K, tAsg2, tYes, wipe, tSeq, tIfS, tNot, tB, tCB, tCons, tNil, tVar, tC, tTest, tOp, tAnd, tOr, tAsg, gName, tRet, tRetN, tDrop, tNext, tIf, tCall, tTup, tLst, tNotV, tAndV, tOrV, tUn, rI0, rI, rU, rEq, rNe, tM1, tM0, tBM, tBM0, tSl, tPart, tNoPart, iStr, iEnumS, iRng1, iRng2, iList, gSub, tBits, tAug, tPar, L2.start, List.map_cons, List.map_nil, List.length_cons, List.length_nil, List.getElem?_cons_zero, List.getElem?_cons_succ, List.cons_append, List.nil_append, List.append_nil, List.set_cons_zero, List.set_cons_succ, List.replicate_succ, List.replicate_zero, Option.some.injEq, exists_eq_left', V.int.injEq, V.str.injEq, V.ref.injEq, V.bl.injEq, exists_and_left, exists_eq_left, List.cons.injEq, and_true, true_and, tCallX, tRs, tProp, OW.tSMeth, OW.tCallI, Nat.sub_self, List.replicate_zero, tFld, sFld, sFldAug, tDGet, tDIn, tDNotIn, sDPut, tMeth, tMake, tDNewK]
    refine ⟨p4, _, rfl, SqT.of p4', rfl, _, _, rfl, _, _, rfl, rfl, ?_⟩
    simp only [cxOf_K, tAsg2, tYes, wipe, tSeq, tIfS, tNot, tB, tCB, tCons, tNil, tVar, tC, tTest, tOp, tAnd, tOr, tAsg, gName, tRet, tRetN, tDrop, tNext, tIf, tCall, tTup, tLst, tNotV, tAndV, tOrV, tUn, rI0, rI, rU, rEq, rNe, tM1, tM0, tBM, tBM0, tSl, tPart, tNoPart, iStr, iEnumS, iRng1, iRng2, iList, gSub, tBits, tAug, tPar, L2.start, List.map_cons, List.map_nil, List.length_cons, List.length_nil, List.getElem?_cons_zero, List.getElem?_cons_succ, List.cons_append, List.nil_append, List.append_nil, List.set_cons_zero, List.set_cons_succ, List.replicate_succ, List.replicate_zero, Option.some.injEq, exists_eq_left', V.int.injEq, V.str.injEq, V.ref.injEq, V.bl.injEq, exists_and_left, exists_eq_left, List.cons.injEq, and_true, true_and, tCallX, tRs, tProp, OW.tSMeth, OW.tCallI, Nat.sub_self, List.replicate_zero, tFld, sFld, sFldAug, tDGet, tDIn, tDNotIn, sDPut, tMeth, tMake, tDNewK]
    refine ⟨dx', _, hx', by rfl, ?_⟩
    refine ⟨B, x, O, C, m, x4.1, x4.2, rfl, gs, by have := okx.2.2; omega, by have := okx.2.2; omega, okx.1, fun H3 O' C' m' gs3 hm3 un => ?_⟩
    refine ⟨O', C', m', _, _, ⟨rfl, rfl⟩, gs3, ?_, ?_⟩
    · rw [pairT_take hx4, ← sh, un]
    · have := okx.2.2
      rw [Nat.mul_add]
      omega
  · rintro σ H' ⟨O, C, m, a2, a3, rfl, gs, sh, hm⟩
    rw [wl, List.take_length] at sh
    obtain ⟨o, c, ⟨sb, _, dx', lo', lc', _, _, _, hx', hlo', hlc'⟩, _, _, f, g, fo, fc, S⟩ := gs
    have eO : O.shape = (pairT (xs.map bxs)).1 := by rw [← sh]
    have eC : C.shape = (pairT (xs.map bxs)).2 := by rw [← sh]
    simp only [cxOf_K, tAsg2, tYes, wipe, tSeq, tIfS, tNot, tB, tCB, tCons, tNil, tVar, tC, tTest, tOp, tAnd, tOr, tAsg, gName, tRet, tRetN, tDrop, tNext, tIf, tCall, tTup, tLst, tNotV, tAndV, tOrV, tUn, rI0, rI, rU, rEq, rNe, tM1, tM0, tBM, tBM0, tSl, tPart, tNoPart, iStr, iEnumS, iRng1, iRng2, iList, gSub, tBits, tAug, tPar, L2.start, List.map_cons, List.map_nil, List.length_cons, List.length_nil, List.getElem?_cons_zero, List.getElem?_cons_succ, List.cons_append, List.nil_append, List.append_nil, List.set_cons_zero, List.set_cons_succ, List.replicate_succ, List.replicate_zero, Option.some.injEq, exists_eq_left', V.int.injEq, V.str.injEq, V.ref.injEq, V.bl.injEq, exists_and_left, exists_eq_left, List.cons.injEq, and_true, true_and, tCallX, tRs, tProp, OW.tSMeth, OW.tCallI, Nat.sub_self, List.replicate_zero, tFld, sFld, sFldAug, tDGet, tDIn, tDNotIn, sDPut, tMeth, tMake, tDNewK]
    refine ⟨_, _, _, hx', T.l_Growth, T.n_Growth_origin, _, gf_o _ _ _, ?_⟩
    refine ⟨lo', o, f, O, rfl, hlo', fo, S.ro, S.lo, by rw [eO]; omega, fun H4 s4 => ?_⟩
    refine ⟨_, _, _, s4 _ _ hx', T.l_Growth, T.n_Growth_current, _, gf_c _ _ _, ?_⟩
    refine ⟨lc', c, g, C, rfl, s4 _ _ hlc', fc.move (fun b vs e => s4 _ _ e), S.rc, S.lc, by rw [eC]; omega, fun H5 s5 => ⟨by decide, fun q5 nq5 => ?_⟩⟩
    have s6 := sHB.trans (sb.trans (s4.trans s5))
    refine q q5 _ (s6.free nq5) (s6.new (s6.free nq5) _) ?_
    rw [upd_same, eO, eC]

theorem ok_Move_of (T : Txt w K mg) : FnOk P w K mg base CX0 8 T.a_Move_of T.fd_Move_of ["steps"] (sp_Move_of T) := by
  refine T.F_Move_of.ok sc_Move_of (fun vs H Q E h => ?_) (fun cdv A outer s H vs Q E hr h => ?_)
  · obtain ⟨_, _, rfl, _⟩ := h; rfl
  obtain ⟨v, xs, rfl, gd, pb, q⟩ := h
  refine ⟨_, (pss_cons (ps_asg (pe_call (ok_pair_of T) (hr.mono (by first | decide | omega)) (by rfl) T.m_pair_of T.F_pair_of.kp T.b_pair_of .nil passL (pa_cons (pv 0) pa_nil)) (pg_tup rfl (pgs_cons (pg_name (i := 1) sc_Move_of.nd rfl (by first | exact Or.inl rfl | exact Or.inr rfl)) (pgs_cons (pg_name (i := 2) sc_Move_of.nd rfl (by first | exact Or.inl rfl | exact Or.inr rfl)) pgs_nil))))
    (pss_one (ps_ret (pe_make T.k_Move (ok_Move___init__ T) (hr.mono (by first | decide | omega)) (by rfl) T.g_Move T.b_Move___init__ .nil passL (pa_cons (pv 1) (pa_cons (pv 2) pa_nil)))))), ?_⟩
  simp only [cxOf_K, tAsg2, tYes, wipe, tSeq, tIfS, tNot, tB, tCB, tCons, tNil, tVar, tC, tTest, tOp, tAnd, tOr, tAsg, gName, tRet, tRetN, tDrop, tNext, tIf, tCall, tTup, tLst, tNotV, tAndV, tOrV, tUn, rI0, rI, rU, rEq, rNe, tM1, tM0, tBM, tBM0, tSl, tPart, tNoPart, iStr, iEnumS, iRng1, iRng2, iList, gSub, tBits, tAug, tPar, L2.start, List.map_cons, List.map_nil, List.length_cons, List.length_nil, List.getElem?_cons_zero, List.getElem?_cons_succ, List.cons_append, List.nil_append, List.append_nil, List.set_cons_zero, List.set_cons_succ, List.replicate_succ, List.replicate_zero, Option.some.injEq, exists_eq_left', V.int.injEq, V.str.injEq, V.ref.injEq, V.bl.injEq, exists_and_left, exists_eq_left, List.cons.injEq, and_true, true_and, tCallX, tRs, tProp, OW.tSMeth, OW.tCallI, Nat.sub_self, List.replicate_zero, tFld, sFld, sFldAug, tDGet, tDIn, tDNotIn, sDPut, tMeth, tMake, tDNewK]
  have nb := pb
  obtain ⟨D, hD, D3, hs⟩ := nb
  obtain ⟨_, _, nb⟩ := PairB.bounds hD hs
  refine ⟨v, xs, rfl, gd, pb, fun q1 H1 n1 s1 h1 => ?_⟩
  refine ⟨q1, _, rfl, SqT.of h1, rfl, _, _, rfl, _, _, rfl, rfl, ?_⟩
  simp only [cxOf_K, tAsg2, tYes, wipe, tSeq, tIfS, tNot, tB, tCB, tCons, tNil, tVar, tC, tTest, tOp, tAnd, tOr, tAsg, gName, tRet, tRetN, tDrop, tNext, tIf, tCall, tTup, tLst, tNotV, tAndV, tOrV, tUn, rI0, rI, rU, rEq, rNe, tM1, tM0, tBM, tBM0, tSl, tPart, tNoPart, iStr, iEnumS, iRng1, iRng2, iList, gSub, tBits, tAug, tPar, L2.start, List.map_cons, List.map_nil, List.length_cons, List.length_nil, List.getElem?_cons_zero, List.getElem?_cons_succ, List.cons_append, List.nil_append, List.append_nil, List.set_cons_zero, List.set_cons_succ, List.replicate_succ, List.replicate_zero, Option.some.injEq, exists_eq_left', V.int.injEq, V.str.injEq, V.ref.injEq, V.bl.injEq, exists_and_left, exists_eq_left, List.cons.injEq, and_true, true_and, tCallX, tRs, tProp, OW.tSMeth, OW.tCallI, Nat.sub_self, List.replicate_zero, tFld, sFld, sFldAug, tDGet, tDIn, tDNotIn, sDPut, tMeth, tMake, tDNewK]
  exact make_mv T (by omega) (by omega) fun p H' np s' m => q p H' (s1.free np) (s1.trans s') m

theorem ok_Move_can (T : Txt w K mg) : FnOk P w K mg base (L2.CX P w) 6 T.a_Move_can T.fd_Move_can ["self", "tree"] (sp_Move_can T) := by
  refine T.F_Move_can.okX sc_Move_can (fun vs H Q E h => ?_) (fun cdv A outer s H vs Q E hr h => ?_)
  · obtain ⟨_, _, _, _, rfl, _⟩ := h; rfl
  obtain ⟨v, u, A', B', rfl, ⟨ab, p, dx, rfl, hp⟩, a1, h⟩ := h
  refine ⟨_, (pss_one (ps_ret (pe_cmpR op_notN (pe_callX (ok_hung T) (takes_of rfl rfl rfl rfl) (hr.mono (by first | decide | omega)) (by rfl) T.m_hung T.F_hung.kp T.b_hung .nil (pa_cons (pv 1) (pa_cons (pe_fld (pv 0) rfl) pa_nil))) pe_non (nomark _)))), ?_⟩
  simp only [cxOf_K, tAsg2, tYes, wipe, tSeq, tIfS, tNot, tB, tCB, tCons, tNil, tVar, tC, tTest, tOp, tAnd, tOr, tAsg, gName, tRet, tRetN, tDrop, tNext, tIf, tCall, tTup, tLst, tNotV, tAndV, tOrV, tUn, rI0, rI, rU, rEq, rNe, tM1, tM0, tBM, tBM0, tSl, tPart, tNoPart, iStr, iEnumS, iRng1, iRng2, iList, gSub, tBits, tAug, tPar, L2.start, List.map_cons, List.map_nil, List.length_cons, List.length_nil, List.getElem?_cons_zero, List.getElem?_cons_succ, List.cons_append, List.nil_append, List.append_nil, List.set_cons_zero, List.set_cons_succ, List.replicate_succ, List.replicate_zero, Option.some.injEq, exists_eq_left', V.int.injEq, V.str.injEq, V.ref.injEq, V.bl.injEq, exists_and_left, exists_eq_left, List.cons.injEq, and_true, true_and, tCallX, tRs, tProp, OW.tSMeth, OW.tCallI, Nat.sub_self, List.replicate_zero, tFld, sFld, sFldAug, tDGet, tDIn, tDNotIn, sDPut, tMeth, tMake, tDNewK]
  refine ⟨_, _, _, hp, T.l_Move, T.n_Move__before, _, mf_b _ _, ?_⟩
  rcases h with ⟨t, rfl, ht, q⟩ | ⟨nt, out⟩
  · refine ⟨trV t, trV A', rfl, .inl ⟨t, rfl, by omega, .inl ⟨A', rfl, by omega, fun e H1 s1 => ?_, fun ts e p H1 n1 s1 h1 => ?_⟩⟩⟩
    · have := q H1 s1
      rw [e] at this
      exact this
    · have := q H1 s1
      rw [e] at this
      exact this
  · exact ⟨u, trV A', rfl, .inr ⟨nt, out⟩⟩

theorem ok_moved (T : Txt w K mg) : FnOk P w K mg base (L2.CX P w) 6 T.a_moved T.fd_moved ["tree", "before", "after"] (sp_moved T) := by
  refine T.F_moved.okX sc_moved (fun vs H Q E h => ?_) (fun cdv A outer s H vs Q E hr h => ?_)
  · obtain ⟨_, _, _, rfl, _⟩ := h; rfl
  obtain ⟨u, A', B', rfl, a1, ab, h⟩ := h
  refine ⟨_, (pss_cons (ps_set (i := 3) sc_moved.nd rfl (by first | exact Or.inl rfl | exact Or.inr rfl) (pe_callX (ok_hung T) (takes_of rfl rfl rfl rfl) (hr.mono (by first | decide | omega)) (by rfl) T.m_hung T.F_hung.kp T.b_hung .nil (pa_cons (pv 0) (pa_cons (pv 1) pa_nil))))
    (pss_cons (ps_if (pt_cmpR op_isN (pv 3) pe_non (nomark _)) (pss_one (ps_raise rfl (takes_of rfl rfl rfl rfl) (pmk_err T.o_CannotMove (hr.mono (by first | decide | omega)) (by rfl) (pv 0)))) pss_nil)
    (pss_one (ps_ret (pe_callX (ok_grown T) (takes_of rfl rfl rfl rfl) (hr.mono (by first | decide | omega)) (by rfl) T.m_grown T.F_grown.kp T.b_grown .nil (pa_cons (pv 2) (pa_cons (pv 3) pa_nil))))))), ?_⟩
  simp only [cxOf_K, tAsg2, tYes, wipe, tSeq, tIfS, tNot, tB, tCB, tCons, tNil, tVar, tC, tTest, tOp, tAnd, tOr, tAsg, gName, tRet, tRetN, tDrop, tNext, tIf, tCall, tTup, tLst, tNotV, tAndV, tOrV, tUn, rI0, rI, rU, rEq, rNe, tM1, tM0, tBM, tBM0, tSl, tPart, tNoPart, iStr, iEnumS, iRng1, iRng2, iList, gSub, tBits, tAug, tPar, L2.start, List.map_cons, List.map_nil, List.length_cons, List.length_nil, List.getElem?_cons_zero, List.getElem?_cons_succ, List.cons_append, List.nil_append, List.append_nil, List.set_cons_zero, List.set_cons_succ, List.replicate_succ, List.replicate_zero, Option.some.injEq, exists_eq_left', V.int.injEq, V.str.injEq, V.ref.injEq, V.bl.injEq, exists_and_left, exists_eq_left, List.cons.injEq, and_true, true_and, tCallX, tRs]
  have a2 : A'.size ≤ 2000 := by omega
  have b2 : B'.size ≤ 2000 := by omega
  rcases h with ⟨t, rfl, ht, qn, qs⟩ | ⟨nt, out⟩
  · refine ⟨trV t, trV A', rfl, .inl ⟨t, rfl, by omega, .inl ⟨A', rfl, a2, fun e H1 s1 => ?_, fun ts e p H1 n1 s1 h1 => ?_⟩⟩⟩
    · exact ifdT rfl (Out.same (qn e) s1)
    · refine ifdF (fun z => by cases z) ?_
      have l1 := Tr.hang_len _ _ _ e
      have v1 := Tr.lvs_size A'
      have v2 := Tr.lvs_size B'
      refine ⟨trV B', .ref p, rfl, .inl ⟨B', rfl, b2, .inl ⟨ts, ⟨p, rfl, h1, by omega, fun x hx => Nat.le_trans (hang_size _ _ _ e x hx) (by omega)⟩, fun H2 s2 => ?_⟩⟩⟩
      exact qs ts e _ (s1.trans s2)
  · exact ⟨u, trV A', rfl, .inr ⟨nt, out⟩⟩

theorem ok_Move___call__ (T : Txt w K mg) : FnOk P w K mg base (L2.CX P w) 7 T.a_Move___call__ T.fd_Move___call__ ["self", "tree"] (sp_Move___call__ T) := by
  refine T.F_Move___call__.okX sc_Move___call__ (fun vs H Q E h => ?_) (fun cdv A outer s H vs Q E hr h => ?_)
  · obtain ⟨_, _, _, _, rfl, _⟩ := h; rfl
  obtain ⟨v, u, A', B', rfl, ⟨ab, p, dx, rfl, hp⟩, a1, h⟩ := h
  refine ⟨_, (pss_one (ps_ret (pe_callX (ok_moved T) (takes_of rfl rfl rfl rfl) (hr.mono (by first | decide | omega)) (by rfl) T.m_moved T.F_moved.kp T.b_moved .nil (pa_cons (pv 1) (pa_cons (pe_fld (pv 0) rfl) (pa_cons (pe_fld (pv 0) rfl) pa_nil)))))), ?_⟩
  simp only [cxOf_K, tAsg2, tYes, wipe, tSeq, tIfS, tNot, tB, tCB, tCons, tNil, tVar, tC, tTest, tOp, tAnd, tOr, tAsg, gName, tRet, tRetN, tDrop, tNext, tIf, tCall, tTup, tLst, tNotV, tAndV, tOrV, tUn, rI0, rI, rU, rEq, rNe, tM1, tM0, tBM, tBM0, tSl, tPart, tNoPart, iStr, iEnumS, iRng1, iRng2, iList, gSub, tBits, tAug, tPar, L2.start, List.map_cons, List.map_nil, List.length_cons, List.length_nil, List.getElem?_cons_zero, List.getElem?_cons_succ, List.cons_append, List.nil_append, List.append_nil, List.set_cons_zero, List.set_cons_succ, List.replicate_succ, List.replicate_zero, Option.some.injEq, exists_eq_left', V.int.injEq, V.str.injEq, V.ref.injEq, V.bl.injEq, exists_and_left, exists_eq_left, List.cons.injEq, and_true, true_and, tCallX, tRs, tProp, OW.tSMeth, OW.tCallI, Nat.sub_self, List.replicate_zero, tFld, sFld, sFldAug, tDGet, tDIn, tDNotIn, sDPut, tMeth, tMake, tDNewK]
  refine ⟨_, _, _, hp, T.l_Move, T.n_Move__before, _, mf_b _ _, ?_⟩
  refine ⟨_, _, _, hp, T.l_Move, T.n_Move__after, _, mf_a _ _, ?_⟩
  exact ⟨u, A', B', rfl, a1, ab, h⟩

theorem neTT {H : Hp} {p q : Addr} {A B : Tr} {Q : VK} (h : H p = some (.tup [trV A, trV B])) (g : H q = some (.tup [trV A, trV B])) (k : Q (.bl false) H) : rNeD K (.ref p) (.ref q) H Q := by
  have oA : PyData.strOk (S A.cs) = true := okL _ fun c hc => by rcases cs_set A c hc with rfl | rfl | rfl <;> omega
  have oB : PyData.strOk (S B.cs) = true := okL _ fun c hc => by rcases cs_set B c hc with rfl | rfl | rfl <;> omega
  have sh : SeqAt.shaped (PyData.tuple [.str (S A.cs), .str (S B.cs)]) = true := by
    unfold SeqAt.shaped
    simp only [PyData.canLay0, PyData.canLayAll0, PyData.depth, PyData.depthAll, oA, oB]
    rfl
  refine ⟨.tuple [.str (S A.cs), .str (S B.cs)], .tuple [.str (S A.cs), .str (S B.cs)], .tup (SqT.of h) (.cons (.str _) (.cons (.str _) .nil)), .tup (SqT.of g) (.cons (.str _) (.cons (.str _) .nil)), sh, sh, ?_⟩
  have e : PyData.eqv (PyData.tuple [.str (S A.cs), .str (S B.cs)]) (.tuple [.str (S A.cs), .str (S B.cs)]) = true := by
    simp [PyData.eqv, PyData.eqvAll]
  rw [e]; exact k
theorem ok_law_great_right (T : Txt w K mg) : FnOk P w K mg base CX0 30 T.a_law_great_right T.fd_law_great_right ["_law_generator_here"] (sp_law_great_right T) := by
  refine T.F_law_great_right.ok sc_law_great_right (fun vs H Q E h => ?_) (fun cdv A outer s H vs Q E hr h => ?_)
  · obtain ⟨g, n, rfl, _⟩ := h; rfl
  obtain ⟨g, n, rfl, hg, hn, q⟩ := h
  have hru := hr.units
  refine ⟨_, (pss_cons (ps_set (i := 1) sc_law_great_right.nd rfl (by first | exact Or.inl rfl | exact Or.inr rfl) (pe_op op_add pe_int (pe_call (ok_law_random T) (hr.mono (by first | decide | omega)) (by rfl) T.m_law_random T.F_law_random.kp T.b_law_random .nil pass0 (pa_cons (pv 0) (pa_cons pe_int pa_nil)))))
    (pss_cons (ps_set (i := 2) sc_law_great_right.nd rfl (by first | exact Or.inl rfl | exact Or.inr rfl) (pe_meth (OW.pe_smeth (pe_glob (v := .ref T.c_Move) (by rfl) T.g_Move rfl) T.r_Move T.s_Move_of (ok_Move_of T) (hr.mono (by first | decide | omega)) T.b_Move_of pass0 (pa_cons (pe_lst (pa_cons (pe_tup (pa_cons pe_str (pa_cons pe_str pa_nil))) pa_nil)) pa_nil)) T.l_Move T.t_Move_times (ok_Move_times T) (hr.mono (by first | decide | omega)) T.b_Move_times .nil passL (pa_cons (pv 1) pa_nil)))
    (pss_cons (ps_asg (pe_tup (pa_cons pe_str (pa_cons pe_str pa_nil))) (pg_tup rfl (pgs_cons (pg_name (i := 3) sc_law_great_right.nd rfl (by first | exact Or.inl rfl | exact Or.inr rfl)) (pgs_cons (pg_name (i := 4) sc_law_great_right.nd rfl (by first | exact Or.inl rfl | exact Or.inr rfl)) pgs_nil))))
    (pss_cons (ps_for PassesOwn.never rfl (pi_range1 rfl T.z_range (pa_cons (pe_op op_add (pv 1) pe_int) pa_nil)) (pg_name (i := 5) sc_law_great_right.nd rfl (by first | exact Or.inl rfl | exact Or.inr rfl)) (pss_one (ps_par (i := 3) (j := 4) rfl sc_law_great_right.nd rfl rfl (by decide) rfl rfl (pa_cons (pe_op op_add_str (pe_op op_add_str pe_str (pv 3)) pe_str) (pa_cons (pe_op op_add_str (pe_op op_add_str pe_str (pv 4)) pe_str) pa_nil)) rfl)))
    (pss_cons (ps_if (pw_or (pt_cmpR (op_neD hru) (pe_tup (pa_cons (pe_prop (pv 2) T.l_Move T.p_Move_before (ok_Move_before T) (hr.mono (by first | decide | omega)) T.b_Move_before .nil pass0 rfl) (pa_cons (pe_prop (pv 2) T.l_Move T.p_Move_after (ok_Move_after T) (hr.mono (by first | decide | omega)) T.b_Move_after .nil pass0 rfl) pa_nil))) (pe_tup (pa_cons (pv 3) (pa_cons (pv 4) pa_nil))) (nomark _)) (pw_or (pt_cmpR (OW.op_ne2 T.ne_Move T.o_Move___eq__ (ok_Move___eq__ T) (hr.mono (by first | decide | omega)) T.b_Move___eq__ pass0) (pv 2) (pe_make T.k_Move (ok_Move___init__ T) (hr.mono (by first | decide | omega)) (by rfl) T.g_Move T.b_Move___init__ .nil passL (pa_cons (pv 3) (pa_cons (pv 4) pa_nil))) (nomark _)) (pw_or1 (pt_not (pt_val (pe_meth (pv 2) T.l_Move T.t_Move_can (ok_Move_can T) (hr.mono (by first | decide | omega)) T.b_Move_can .nil passL (pa_cons (pv 3) pa_nil))))))).pt (pss_one (ps_ret pe_bl)) pss_nil)
    (pss_one (ps_ret (pe_and (pe_cmpR op_eq (OW.pe_callI (pv 2) T.q_Move (ok_Move___call__ T) (hr.mono (by first | decide | omega)) T.b_Move___call__ passL (pa_cons (pv 3) pa_nil)) (pv 4) (nomark _)) (pe_and (pe_cmpR op_eq (OW.pe_callI (pe_un (OW.un_inv1 T.o_Move___invert__ (ok_Move___invert__ T) (hr.mono (by first | decide | omega)) T.b_Move___invert__ pass0) (pv 2)) T.q_Move (ok_Move___call__ T) (hr.mono (by first | decide | omega)) T.b_Move___call__ passL (pa_cons (pv 4) pa_nil)) (pv 3) (nomark _)) (pe_one (pe_cmpR op_eq (pe_prop (pe_op (OW.op_own2 T.sf_Move T.o_Move___mul__ (ok_Move___mul__ T) (hr.mono (by first | decide | omega)) T.b_Move___mul__ pass0) (pv 2) (pe_un (OW.un_inv1 T.o_Move___invert__ (ok_Move___invert__ T) (hr.mono (by first | decide | omega)) T.b_Move___invert__ pass0) (pv 2))) T.l_Move T.p_Move_before (ok_Move_before T) (hr.mono (by first | decide | omega)) T.b_Move_before .nil pass0 rfl) (pv 3) (nomark _)))))))))))), ?_⟩
  simp only [cxOf_K, tAsg2, tYes, wipe, tSeq, tIfS, tNot, tB, tCB, tCons, tNil, tVar, tC, tTest, tOp, tAnd, tOr, tAsg, gName, tRet, tRetN, tDrop, tNext, tIf, tCall, tTup, tLst, tNotV, tAndV, tOrV, tUn, rI0, rI, rU, rEq, rNe, tM1, tM0, tBM, tBM0, tSl, tPart, tNoPart, iStr, iEnumS, iRng1, iRng2, iList, gSub, tBits, tAug, tPar, L2.start, List.map_cons, List.map_nil, List.length_cons, List.length_nil, List.getElem?_cons_zero, List.getElem?_cons_succ, List.cons_append, List.nil_append, List.append_nil, List.set_cons_zero, List.set_cons_succ, List.replicate_succ, List.replicate_zero, Option.some.injEq, exists_eq_left', V.int.injEq, V.str.injEq, V.ref.injEq, V.bl.injEq, exists_and_left, exists_eq_left, List.cons.injEq, and_true, true_and, tCallX, tRs, tProp, OW.tSMeth, OW.tCallI, Nat.sub_self, List.replicate_zero, tFld, sFld, sFldAug, tDGet, tDIn, tDNotIn, sDPut, tMeth, tMake, tDNewK]
  refine ⟨g, 99, _, rfl, hg, by omega, by decide, by decide, fun r H1 r0 r1 k1 g1 => ⟨r, rfl, by decide, fun p1 np1 => ?_⟩⟩
  obtain ⟨r, rfl⟩ := Int.eq_ofNat_of_zero_le r0
  have s1 := (L2.Same.refl H1).new np1 (.tup [V.str (Str.ofString "right"), V.str (Str.ofString "")])
  have h1 : upd H1 p1 (.tup [V.str (Str.ofString "right"), V.str (Str.ofString "")]) p1 = some _ := upd_same
  generalize upd H1 p1 (.tup [V.str (Str.ofString "right"), V.str (Str.ofString "")]) = H2 at s1 h1 ⊢
  refine ⟨by decide, fun p2 np2 => ?_⟩
  have s2 := (L2.Same.refl H2).new np2 (.lst [V.ref p1])
  have h2 : upd H2 p2 (.lst [V.ref p1]) p2 = some _ := upd_same
  have h1 := s2 _ _ h1
  generalize upd H2 p2 (.lst [V.ref p1]) = H3 at s2 h2 h1 ⊢
  have ok1 : ∀ x ∈ [(Str.ofString "right", ([] : List Nat))], okSt 4 x := fun x hx => by
    rw [List.mem_singleton.mp hx]; exact ⟨.inr rfl, rfl, by decide⟩
  have st : Stps H3 [V.ref p1] [(Str.ofString "right", [])] := .cons (by rw [h1]; rfl) .nil
  refine ⟨_, [(Str.ofString "right", [])], rfl, ⟨p2, _, rfl, h2, st, by simp, fun x hx => ⟨(ok1 x hx).1, (ok1 x hx).2.1, by have := (ok1 x hx).2.2; omega⟩⟩, ⟨4, ok1, by decide, .inl (by decide)⟩, fun p3 H4 n3 s3 m3 => ?_⟩
  have m3 : Mv T.c_Move H4 (.ref p3) (gL 2) (gR 2) := m3
  have k4 := k1.trans (Keep.of (s1.trans (s2.trans s3)))
  clear s1 s2 s3 h1 h2 np1 np2 st
  refine timS T m3 (by decide) (.inr ⟨by omega, by rw [gL_size]; omega⟩) fun p4 H5 n4 s4 m4 => ?_
  have e4 : powT (if (0 : Int) < 301 + (r : Int) then (gL 2, gR 2) else (gR 2, gL 2)) (301 + (r : Int)).natAbs = (gL (302 + r), gR (302 + r)) := by
    rw [if_pos (by omega), show (301 + (r : Int)).natAbs = (300 + r) + 1 by omega, gLR_pow, show 300 + r + 2 = 302 + r by omega]
  have m4 := m4.eq e4
  have k5 := k4.trans (Keep.of s4)
  clear e4 s4 m3
  refine ⟨by decide, fun p5 np5 => ?_⟩
  have s5 := (L2.Same.refl H5).new np5 (.tup [V.str (Str.ofString "."), V.str (Str.ofString ".")])
  have h5 : upd H5 p5 (.tup [V.str (Str.ofString "."), V.str (Str.ofString ".")]) p5 = some _ := upd_same
  generalize upd H5 p5 (.tup [V.str (Str.ofString "."), V.str (Str.ofString ".")]) = H6 at s5 h5 ⊢
  have m4 := m4.same s5
  have k6 := k5.trans (Keep.of s5)
  have o1 : Str.ofString "(" = S [40] := by decide +kernel
  have o2 : Str.ofString ".)" = S [46, 41] := by decide +kernel
  have o3 : Str.ofString "(." = S [40, 46] := by decide +kernel
  have o4 : Str.ofString ")" = S [41] := by decide +kernel
  have o5 : Str.ofString "." = S (gL 0).cs := by decide +kernel
  simp only [gTup, gCons, gNil, gName, cxOf_K, tAsg2, tYes, wipe, tSeq, tIfS, tNot, tB, tCB, tCons, tNil, tVar, tC, tTest, tOp, tAnd, tOr, tAsg, gName, tRet, tRetN, tDrop, tNext, tIf, tCall, tTup, tLst, tNotV, tAndV, tOrV, tUn, rI0, rI, rU, rEq, rNe, tM1, tM0, tBM, tBM0, tSl, tPart, tNoPart, iStr, iEnumS, iRng1, iRng2, iList, gSub, tBits, tAug, tPar, L2.start, List.map_cons, List.map_nil, List.length_cons, List.length_nil, List.getElem?_cons_zero, List.getElem?_cons_succ, List.cons_append, List.nil_append, List.append_nil, List.set_cons_zero, List.set_cons_succ, List.replicate_succ, List.replicate_zero, Option.some.injEq, exists_eq_left', V.int.injEq, V.str.injEq, V.ref.injEq, V.bl.injEq, exists_and_left, exists_eq_left, List.cons.injEq, and_true, true_and, tCallX, tRs, tProp, OW.tSMeth, OW.tCallI, Nat.sub_self, List.replicate_zero, tFld, sFld, sFldAug, tDGet, tDIn, tDNotIn, sDPut, tMeth, tMake, tDNewK]
  refine ⟨_, SqT.of h5, rfl, _, _, rfl, _, _, rfl, rfl, ?_⟩
  refine ⟨_, rfl, _, _, rfl, rfl, _, rfl, by omega, by omega, for_range (fun j σ H' => ∃ b5, σ = [some (V.ref g), some (V.int (301 + (r : Int))), some (V.ref p4), some (trV (gL j)), some (trV (gR j)), b5] ∧ Same H6 H') ⟨none, by rw [o5]; rfl, L2.Same.refl H6⟩ ?_ ?_⟩
  · rintro j σ H7 hj ⟨b5, rfl, s7⟩
    simp only [tPar, cxOf_K, tAsg2, tYes, wipe, tSeq, tIfS, tNot, tB, tCB, tCons, tNil, tVar, tC, tTest, tOp, tAnd, tOr, tAsg, gName, tRet, tRetN, tDrop, tNext, tIf, tCall, tTup, tLst, tNotV, tAndV, tOrV, tUn, rI0, rI, rU, rEq, rNe, tM1, tM0, tBM, tBM0, tSl, tPart, tNoPart, iStr, iEnumS, iRng1, iRng2, iList, gSub, tBits, tAug, tPar, L2.start, List.map_cons, List.map_nil, List.length_cons, List.length_nil, List.getElem?_cons_zero, List.getElem?_cons_succ, List.cons_append, List.nil_append, List.append_nil, List.set_cons_zero, List.set_cons_succ, List.replicate_succ, List.replicate_zero, Option.some.injEq, exists_eq_left', V.int.injEq, V.str.injEq, V.ref.injEq, V.bl.injEq, exists_and_left, exists_eq_left, List.cons.injEq, and_true, true_and, tCallX, tRs, tProp, OW.tSMeth, OW.tCallI, Nat.sub_self, List.replicate_zero, tFld, sFld, sFldAug, tDGet, tDIn, tDNotIn, sDPut, tMeth, tMake, tDNewK, gName, o1, o2, o3, o4, S_app, S_len]
    have c1 : (gL j).cs.length ≤ 5000 := by rw [Tr.cs_length, Tr.len_size, gL_size]; omega
    have c2 : (gR j).cs.length ≤ 5000 := by rw [Tr.cs_length, Tr.len_size, gR_size]; omega
    refine ⟨small5 (by omega), small5 (by omega), small5 (by omega), small5 (by omega), _, _, ⟨rfl, rfl⟩, _, ⟨?_, ?_, rfl⟩, s7⟩
    · refine congrArg V.str (congrArg S ?_)
      simp [gL, Tr.cs]
    · refine congrArg V.str (congrArg S ?_)
      simp [gR, Tr.cs]
  · rintro σ H7 ⟨b5, rfl, s7⟩
    rw [show (301 + (r : Int) + 1).toNat = 302 + r by omega]
    have m4 := m4.same s7
    have k7 := k6.trans (Keep.of s7)
    have zL := gL_size (302 + r)
    have zR := gR_size (302 + r)
    have r1 : r < 99 := by omega
    generalize hX : gL (302 + r) = X at m4 zL
    generalize hY : gR (302 + r) = Y at m4 zR
    have lv : X.lvs = Y.lvs := m4.lvs
    simp only [tPar, cxOf_K, tAsg2, tYes, wipe, tSeq, tIfS, tNot, tB, tCB, tCons, tNil, tVar, tC, tTest, tOp, tAnd, tOr, tAsg, gName, tRet, tRetN, tDrop, tNext, tIf, tCall, tTup, tLst, tNotV, tAndV, tOrV, tUn, rI0, rI, rU, rEq, rNe, tM1, tM0, tBM, tBM0, tSl, tPart, tNoPart, iStr, iEnumS, iRng1, iRng2, iList, gSub, tBits, tAug, tPar, L2.start, List.map_cons, List.map_nil, List.length_cons, List.length_nil, List.getElem?_cons_zero, List.getElem?_cons_succ, List.cons_append, List.nil_append, List.append_nil, List.set_cons_zero, List.set_cons_succ, List.replicate_succ, List.replicate_zero, Option.some.injEq, exists_eq_left', V.int.injEq, V.str.injEq, V.ref.injEq, V.bl.injEq, exists_and_left, exists_eq_left, List.cons.injEq, and_true, true_and, tCallX, tRs, tProp, OW.tSMeth, OW.tCallI, Nat.sub_self, List.replicate_zero, tFld, sFld, sFldAug, tDGet, tDIn, tDNotIn, sDPut, tMeth, tMake, tDNewK, OW.tCallI]
    clear k6 k5 k4 k1 s7 m3 ok1 h1 h5
    obtain ⟨ab, pv, dxv, epv, hpv⟩ := id m4
    cases epv
    refine ⟨_, _, hpv, _, X, Y, rfl, m4, _, _, hpv, _, X, Y, rfl, m4, ?_⟩
    refine ⟨by decide, fun c1 nc1 => ?_⟩
    have t1 := (L2.Same.refl H7).new nc1 (.tup [trV X, trV Y])
    have f1 : upd H7 c1 (.tup [trV X, trV Y]) c1 = some _ := upd_same
    generalize upd H7 c1 (.tup [trV X, trV Y]) = J1 at t1 f1 ⊢
    refine ⟨by decide, fun c2 nc2 => ?_⟩
    have t2 := (L2.Same.refl J1).new nc2 (.tup [trV X, trV Y])
    have f2 : upd J1 c2 (.tup [trV X, trV Y]) c2 = some _ := upd_same
    generalize upd J1 c2 (.tup [trV X, trV Y]) = J2 at t2 f2 ⊢
    have m4 := m4.same (t1.trans t2)
    have hpv := t2 _ _ (t1 _ _ hpv)
    have k7 := k7.trans (Keep.of (t1.trans t2))
    refine neTT (t2 _ _ f1) f2 ⟨_, rfl, ?_⟩
    rw [if_neg (by decide)]
    refine make_mv3 T (by omega) (by omega) fun pn J3 n3 s3 mx => ?_
    have m4 := m4.same s3
    have hpv := s3 _ _ hpv
    have k7 := k7.trans (Keep.of s3)
    refine neS T m4 mx ⟨_, rfl, ?_⟩
    rw [if_neg (by decide)]
    obtain ⟨tA, hA⟩ : ∃ ts, Tr.hang X X = some ts := ⟨_, hang_leaves X⟩
    obtain ⟨tB, hB⟩ : ∃ ts, Tr.hang Y Y = some ts := ⟨_, hang_leaves Y⟩
    have gA : Y.grow tA = Y := by
      have e := hA.symm.trans (hang_leaves X)
      cases e
      rw [lv]
      exact grow_leaves Y
    have gB : X.grow tB = X := by
      have e := hB.symm.trans (hang_leaves Y)
      cases e
      rw [← lv]
      exact grow_leaves X
    refine ⟨_, _, hpv, by rfl, _, _, X, Y, rfl, m4, by omega, .inl ⟨X, rfl, by omega, fun J4 s4 => ⟨_, rfl, ?_⟩⟩⟩
    rw [hA, if_neg (by simp)]
    have m4 := m4.same s4
    refine ⟨m4.isc, _, _, X, Y, rfl, m4, by omega, .inl ⟨X, rfl, by omega, fun e => absurd (hA.symm.trans e) (by simp), fun ts e J5 s5 => ?_⟩⟩
    rw [hA] at e
    cases e
    rw [gA]
    refine ⟨rfl, ?_⟩
    rw [if_pos (by simp)]
    have m4 := m4.same s5
    refine ⟨m4.isc, _, X, Y, rfl, m4, by omega, fun pi J6 n6 s6 mi => ?_⟩
    have m4 := m4.same s6
    refine ⟨_, rfl, mi.isc, _, _, Y, X, rfl, mi, by omega, .inl ⟨Y, rfl, by omega, fun e => absurd (hB.symm.trans e) (by simp), fun ts e J7 s7 => ?_⟩⟩
    rw [hB] at e
    cases e
    rw [gB]
    refine ⟨rfl, ?_⟩
    rw [if_pos (by simp)]
    have m4 := m4.same s7
    refine ⟨m4.isc, _, X, Y, rfl, m4, by omega, fun pj J8 n8 s8 mj => ?_⟩
    have m4 := m4.same s8
    refine mulS T m4 mj (by omega) (by omega) fun pk J9 n9 s9 mk => ?_
    have mk := mk.eq (mul_mid X Y X lv lv.symm)
    refine mk.bef T ⟨rfl, ?_⟩
    rw [decide_eq_true rfl]
    exact q _ (k7.trans (Keep.of (s4.trans (s5.trans (s6.trans (s7.trans (s8.trans s9)))))))

theorem ok_law_randomW (T : Txt w K mg) : FnOk P w K mg base CX0 2 T.a_law_random T.fd_law_random ["_law_generator_here", "_law_bound"] (sp_law_randomW K) := by
  refine T.F_law_random.ok sc_law_random (fun vs H Q E h => ?_) (fun cdv A outer s H vs Q E hr h => ?_)
  · obtain ⟨g, b, n, rfl, _⟩ := h; rfl
  obtain ⟨g, b, n, rfl, ⟨x, y, z, hg, z0, z1⟩, hn, b0, b1, q⟩ := h
  have hb2 : b.natAbs < 2 ^ 200 := by
    have : (10 : Int) ^ 60 < 2 ^ 200 := by decide
    omega
  have hdv : ∀ i, CDivW i b := fun i => ⟨by omega, Nat.lt_of_lt_of_le (PySem.Flt.log2_lt_of (by decide) hb2) (by decide)⟩
  refine ⟨_, (pss_cons (ps_if (pt_cmpR op_gt (pe_ix ix_list (pv 0) pe_int (fun _ _ => rfl)) pe_int (nomark _)) (pss_cons (ps_set (i := 2) sc_law_random.nd rfl (by first | exact Or.inl rfl | exact Or.inr rfl) (pe_op op_mod (pe_callTy call_intI (by rfl) T.z_int (by decide +kernel) (pa_cons (pe_ix ix_list (pv 0) pe_int (fun _ _ => rfl)) pa_nil)) (pv 1)))
    (pss_cons (ps_asg (pe_op op_fdivW (pe_ix ix_list (pv 0) pe_int (fun _ _ => rfl)) (pv 1)) (pg_sub (pv 0) pe_int set_list))
    (pss_one (ps_ret (pv 2))))) pss_nil)
    (pss_cons (ps_set (i := 2) sc_law_random.nd rfl (by first | exact Or.inl rfl | exact Or.inr rfl) pe_int)
    (pss_cons (ps_for PassesOwn.never rfl (pi_range1 rfl T.z_range (pa_cons (pe_op op_add pe_int (pe_op op_fdivW (pe_bits (pv 1)) pe_int)) pa_nil)) (pg_name (i := 3) sc_law_random.nd rfl (by first | exact Or.inl rfl | exact Or.inr rfl)) (pss_cons (ps_asg (pe_op op_add (pe_ix ix_list (pv 0) pe_int (fun _ _ => rfl)) pe_int) (pg_sub (pv 0) pe_int set_list))
    (pss_one (ps_set (i := 2) sc_law_random.nd rfl (by first | exact Or.inl rfl | exact Or.inr rfl) (pe_op op_add (pe_op op_mul (pv 2) pe_int) (pe_call (ok_law_hash T) (hr.mono (by first | decide | omega)) (by rfl) T.m_law_hash T.F_law_hash.kp T.b_law_hash .nil pass0 (pa_cons (pe_ix ix_list (pv 0) pe_int (fun _ _ => rfl)) (pa_cons (pe_ix ix_list (pv 0) pe_int (fun _ _ => rfl)) pa_nil))))))))
    (pss_one (ps_ret (pe_op op_mod (pe_callTy call_intI (by rfl) T.z_int (by decide +kernel) (pa_cons (pv 2) pa_nil)) (pv 1))))))), ?_⟩
  simp only [cxOf_K, tAsg2, tYes, wipe, tSeq, tIfS, tNot, tB, tCB, tCons, tNil, tVar, tC, tTest, tOp, tAnd, tOr, tAsg, gName, tRet, tRetN, tDrop, tNext, tIf, tCall, tTup, tLst, tNotV, tAndV, tOrV, tUn, rI0, rI, rU, rEq, rNe, tM1, tM0, tBM, tBM0, tSl, tPart, tNoPart, iStr, iEnumS, iRng1, iRng2, iList, gSub, tBits, tAug, tPar, L2.start, List.map_cons, List.map_nil, List.length_cons, List.length_nil, List.getElem?_cons_zero, List.getElem?_cons_succ, List.cons_append, List.nil_append, List.append_nil, List.set_cons_zero, List.set_cons_succ, List.replicate_succ, List.replicate_zero, Option.some.injEq, exists_eq_left', V.int.injEq, V.str.injEq, V.ref.injEq, V.bl.injEq, exists_and_left, exists_eq_left, List.cons.injEq, and_true, true_and, tCallX, tRs]
  refine ⟨g, _, 0, .int x, rfl, rfl, SqL.of hg, rfl, ?_⟩
  simp only [cxOf_K, tAsg2, tYes, wipe, tSeq, tIfS, tNot, tB, tCB, tCons, tNil, tVar, tC, tTest, tOp, tAnd, tOr, tAsg, gName, tRet, tRetN, tDrop, tNext, tIf, tCall, tTup, tLst, tNotV, tAndV, tOrV, tUn, rI0, rI, rU, rEq, rNe, tM1, tM0, tBM, tBM0, tSl, tPart, tNoPart, iStr, iEnumS, iRng1, iRng2, iList, gSub, tBits, tAug, tPar, L2.start, List.map_cons, List.map_nil, List.length_cons, List.length_nil, List.getElem?_cons_zero, List.getElem?_cons_succ, List.cons_append, List.nil_append, List.append_nil, List.set_cons_zero, List.set_cons_succ, List.replicate_succ, List.replicate_zero, Option.some.injEq, exists_eq_left', V.int.injEq, V.str.injEq, V.ref.injEq, V.bl.injEq, exists_and_left, exists_eq_left, List.cons.injEq, and_true, true_and, tCallX, tRs]
  by_cases hx : 0 < x
  · refine ifdT hx ⟨g, _, 0, .int x, rfl, rfl, SqL.of hg, rfl, ?_⟩
    simp only [cxOf_K, tAsg2, tYes, wipe, tSeq, tIfS, tNot, tB, tCB, tCons, tNil, tVar, tC, tTest, tOp, tAnd, tOr, tAsg, gName, tRet, tRetN, tDrop, tNext, tIf, tCall, tTup, tLst, tNotV, tAndV, tOrV, tUn, rI0, rI, rU, rEq, rNe, tM1, tM0, tBM, tBM0, tSl, tPart, tNoPart, iStr, iEnumS, iRng1, iRng2, iList, gSub, tBits, tAug, tPar, L2.start, List.map_cons, List.map_nil, List.length_cons, List.length_nil, List.getElem?_cons_zero, List.getElem?_cons_succ, List.cons_append, List.nil_append, List.append_nil, List.set_cons_zero, List.set_cons_succ, List.replicate_succ, List.replicate_zero, Option.some.injEq, exists_eq_left', V.int.injEq, V.str.injEq, V.ref.injEq, V.bl.injEq, exists_and_left, exists_eq_left, List.cons.injEq, and_true, true_and, tCallX, tRs]
    refine ⟨by omega, g, _, 0, .int x, rfl, rfl, SqL.of hg, rfl, ?_⟩
    simp only [cxOf_K, tAsg2, tYes, wipe, tSeq, tIfS, tNot, tB, tCB, tCons, tNil, tVar, tC, tTest, tOp, tAnd, tOr, tAsg, gName, tRet, tRetN, tDrop, tNext, tIf, tCall, tTup, tLst, tNotV, tAndV, tOrV, tUn, rI0, rI, rU, rEq, rNe, tM1, tM0, tBM, tBM0, tSl, tPart, tNoPart, iStr, iEnumS, iRng1, iRng2, iList, gSub, tBits, tAug, tPar, L2.start, List.map_cons, List.map_nil, List.length_cons, List.length_nil, List.getElem?_cons_zero, List.getElem?_cons_succ, List.cons_append, List.nil_append, List.append_nil, List.set_cons_zero, List.set_cons_succ, List.replicate_succ, List.replicate_zero, Option.some.injEq, exists_eq_left', V.int.injEq, V.str.injEq, V.ref.injEq, V.bl.injEq, exists_and_left, exists_eq_left, List.cons.injEq, and_true, true_and, tCallX, tRs]
    refine ⟨hdv _, g, _, 0, 0, rfl, rfl, hg, rfl, ?_⟩
    exact q _ _ (Int.emod_nonneg _ (by omega)) (Int.emod_lt_of_pos _ (by omega)) (fun p o hp ho => by rw [upd_ne hp]; exact ho) ⟨_, _, _, upd_same, z0, by omega⟩
  · refine ifdF hx ?_
    have hb : (Builtin.Int.intBits b : Int) ≤ 200 := by
      have : Builtin.Int.intBits b ≤ 200 := PyProof.Rows.intBits_le hb2
      omega
    have hj0 : (0 : Int) ≤ 1 + (Builtin.Int.intBits b : Int) / 30 := by omega
    have hj1 : (1 : Int) + (Builtin.Int.intBits b : Int) / 30 ≤ 7 := by omega
    refine ⟨_, rfl, _, rfl, _, _, rfl, rfl, cdivW (by decide) (by decide), _, _, rfl, rfl, _, rfl, by omega, by omega, for_range (fun i σ H' => ∃ (d : Int) (a3 : Option V) (z' : Int), σ = [some (.ref g), some (.int b), some (.int d), a3] ∧ Keep g H H' ∧ H' g = some (.lst [.int x, .int y, .int z']) ∧ z' = z + i)
      ⟨0, none, z, rfl, fun p o _ ho => ho, hg, by simp⟩ ?_ ?_⟩
    · rintro i σ H' hi ⟨d, a3, z', rfl, k0, hg', rfl⟩
      simp only [cxOf_K, tAsg2, tYes, wipe, tSeq, tIfS, tNot, tB, tCB, tCons, tNil, tVar, tC, tTest, tOp, tAnd, tOr, tAsg, gName, tRet, tRetN, tDrop, tNext, tIf, tCall, tTup, tLst, tNotV, tAndV, tOrV, tUn, rI0, rI, rU, rEq, rNe, tM1, tM0, tBM, tBM0, tSl, tPart, tNoPart, iStr, iEnumS, iRng1, iRng2, iList, gSub, tBits, tAug, tPar, L2.start, List.map_cons, List.map_nil, List.length_cons, List.length_nil, List.getElem?_cons_zero, List.getElem?_cons_succ, List.cons_append, List.nil_append, List.append_nil, List.set_cons_zero, List.set_cons_succ, List.replicate_succ, List.replicate_zero, Option.some.injEq, exists_eq_left', V.int.injEq, V.str.injEq, V.ref.injEq, V.bl.injEq, exists_and_left, exists_eq_left, List.cons.injEq, and_true, true_and, tCallX, tRs]
      refine ⟨g, _, 2, .int (z + i), rfl, rfl, SqL.of hg', rfl, ?_⟩
      simp only [cxOf_K, tAsg2, tYes, wipe, tSeq, tIfS, tNot, tB, tCB, tCons, tNil, tVar, tC, tTest, tOp, tAnd, tOr, tAsg, gName, tRet, tRetN, tDrop, tNext, tIf, tCall, tTup, tLst, tNotV, tAndV, tOrV, tUn, rI0, rI, rU, rEq, rNe, tM1, tM0, tBM, tBM0, tSl, tPart, tNoPart, iStr, iEnumS, iRng1, iRng2, iList, gSub, tBits, tAug, tPar, L2.start, List.map_cons, List.map_nil, List.length_cons, List.length_nil, List.getElem?_cons_zero, List.getElem?_cons_succ, List.cons_append, List.nil_append, List.append_nil, List.set_cons_zero, List.set_cons_succ, List.replicate_succ, List.replicate_zero, Option.some.injEq, exists_eq_left', V.int.injEq, V.str.injEq, V.ref.injEq, V.bl.injEq, exists_and_left, exists_eq_left, List.cons.injEq, and_true, true_and, tCallX, tRs]
      refine ⟨g, _, 2, 2, rfl, rfl, hg', rfl, ?_⟩
      refine ⟨cmulR (by decide), g, _, 1, .int y, rfl, rfl, SqL.of upd_same, rfl, ?_⟩
      refine ⟨g, _, 2, .int (z + i + 1), rfl, rfl, SqL.of upd_same, rfl, ?_⟩
      refine ⟨y, z + i + 1, rfl, by omega, by omega, fun r => ?_⟩
      simp only [cxOf_K, tAsg2, tYes, wipe, tSeq, tIfS, tNot, tB, tCB, tCons, tNil, tVar, tC, tTest, tOp, tAnd, tOr, tAsg, gName, tRet, tRetN, tDrop, tNext, tIf, tCall, tTup, tLst, tNotV, tAndV, tOrV, tUn, rI0, rI, rU, rEq, rNe, tM1, tM0, tBM, tBM0, tSl, tPart, tNoPart, iStr, iEnumS, iRng1, iRng2, iList, gSub, tBits, tAug, tPar, L2.start, List.map_cons, List.map_nil, List.length_cons, List.length_nil, List.getElem?_cons_zero, List.getElem?_cons_succ, List.cons_append, List.nil_append, List.append_nil, List.set_cons_zero, List.set_cons_succ, List.replicate_succ, List.replicate_zero, Option.some.injEq, exists_eq_left', V.int.injEq, V.str.injEq, V.ref.injEq, V.bl.injEq, exists_and_left, exists_eq_left, List.cons.injEq, and_true, true_and, tCallX, tRs]
      exact ⟨_, _, ⟨rfl, rfl⟩, fun p o hp ho => by rw [upd_ne hp]; exact k0 p o hp ho, z + i + 1, by rw [upd_same], by omega⟩
    · rintro σ H' ⟨d, a3, z', rfl, k0, hg', rfl⟩
      simp only [cxOf_K, tAsg2, tYes, wipe, tSeq, tIfS, tNot, tB, tCB, tCons, tNil, tVar, tC, tTest, tOp, tAnd, tOr, tAsg, gName, tRet, tRetN, tDrop, tNext, tIf, tCall, tTup, tLst, tNotV, tAndV, tOrV, tUn, rI0, rI, rU, rEq, rNe, tM1, tM0, tBM, tBM0, tSl, tPart, tNoPart, iStr, iEnumS, iRng1, iRng2, iList, gSub, tBits, tAug, tPar, L2.start, List.map_cons, List.map_nil, List.length_cons, List.length_nil, List.getElem?_cons_zero, List.getElem?_cons_succ, List.cons_append, List.nil_append, List.append_nil, List.set_cons_zero, List.set_cons_succ, List.replicate_succ, List.replicate_zero, Option.some.injEq, exists_eq_left', V.int.injEq, V.str.injEq, V.ref.injEq, V.bl.injEq, exists_and_left, exists_eq_left, List.cons.injEq, and_true, true_and, tCallX, tRs]
      exact ⟨by omega, q _ _ (Int.emod_nonneg _ (by omega)) (Int.emod_lt_of_pos _ (by omega)) k0 ⟨_, _, _, hg', by omega, by omega⟩⟩

theorem ok_law_address (T : Txt w K mg) : FnOk P w K mg base CX0 4 T.a_law_address T.fd_law_address ["_law_generator_here", "_law_longest"] (sp_law_address K) := by
  refine T.F_law_address.ok sc_law_address (fun vs H Q E h => ?_) (fun cdv A outer s H vs Q E hr h => ?_)
  · obtain ⟨g, m, n, rfl, _⟩ := h; rfl
  obtain ⟨g, m, n, rfl, hg, hm, hn, q⟩ := h
  refine ⟨_, (pss_cons (ps_set (i := 2) sc_law_address.nd rfl (by first | exact Or.inl rfl | exact Or.inr rfl) (pe_lst pa_nil))
    (pss_cons (ps_for PassesOwn.never rfl (pi_range1 rfl T.z_range (pa_cons (pe_call (ok_law_random T) (hr.mono (by first | decide | omega)) (by rfl) T.m_law_random T.F_law_random.kp T.b_law_random .nil pass0 (pa_cons (pv 0) (pa_cons (pe_op op_add (pv 1) pe_int) pa_nil))) pa_nil)) (pg_name (i := 3) sc_law_address.nd rfl (by first | exact Or.inl rfl | exact Or.inr rfl)) (pss_one (ps_expr (pe_bm PySem.F.plainAttrs_list PySem.F.slot_list_append PySem.F.type_list_append mt_append (pv 2) (pa_cons (pe_ix ix_list (pe_lst (pa_cons pe_str (pa_cons pe_str pa_nil))) (pe_call (ok_law_random T) (hr.mono (by first | decide | omega)) (by rfl) T.m_law_random T.F_law_random.kp T.b_law_random .nil pass0 (pa_cons (pv 0) (pa_cons pe_int pa_nil))) (fun _ _ => rfl)) pa_nil)))))
    (pss_one (ps_ret (pe_join pe_str (pv 2)))))), ?_⟩
  simp only [cxOf_K, tAsg2, tYes, wipe, tSeq, tIfS, tNot, tB, tCB, tCons, tNil, tVar, tC, tTest, tOp, tAnd, tOr, tAsg, gName, tRet, tRetN, tDrop, tNext, tIf, tCall, tTup, tLst, tNotV, tAndV, tOrV, tUn, rI0, rI, rU, rEq, rNe, tM1, tM0, tBM, tBM0, tSl, tPart, tNoPart, iStr, iEnumS, iRng1, iRng2, iList, gSub, tBits, tAug, tPar, L2.start, List.map_cons, List.map_nil, List.length_cons, List.length_nil, List.getElem?_cons_zero, List.getElem?_cons_succ, List.cons_append, List.nil_append, List.append_nil, List.set_cons_zero, List.set_cons_succ, List.replicate_succ, List.replicate_zero, Option.some.injEq, exists_eq_left', V.int.injEq, V.str.injEq, V.ref.injEq, V.bl.injEq, exists_and_left, exists_eq_left, List.cons.injEq, and_true, true_and, tCallX, tRs]
  refine ⟨by decide, fun p np => ?_⟩
  have np0 := np
  have gp : p ≠ g := by obtain ⟨o, ho⟩ := hg.some; exact (ne_of_none ho np).symm
  have h1 : upd H p (.lst []) p = some (.lst (([] : List Nat).map fun c => V.str (S [c]))) := upd_same
  have k1 := Keep.of (g := g) ((L2.Same.refl H).new np (.lst []))
  have g1 := hg.new (o := .lst []) np
  generalize upd H p (.lst []) = H1 at h1 k1 g1 ⊢
  refine ⟨_, rfl, _, rfl, (m : Int), 1, rfl, rfl, g, (m : Int) + 1, n, rfl, g1, by omega, by omega, by omega, fun r H2 r0 r1 k2 g2 => ?_⟩
  have h2 := k2 _ _ gp h1
  have k2 := k1.trans k2
  clear k1 g1 h1 np
  refine ⟨r, rfl, by omega, by omega, for_range (fun i σ H' => ∃ (a : List Nat) (a3 : Option V), σ = [some (.ref g), some (.int (m : Nat)), some (.ref p), a3] ∧ isA a = true ∧ a.length = i ∧ H' p = some (.lst (a.map fun c => V.str (S [c]))) ∧ Keep g H H' ∧ GenAt H' g (n + 3 + 3 * i)) ⟨[], none, rfl, rfl, rfl, h2, k2, g2⟩ ?_ ?_⟩
  · rintro i σ H3 hi ⟨a, a3, rfl, aA, al, h3, k3, g3⟩
    have him : i < m := by omega
    simp only [cxOf_K, tAsg2, tYes, wipe, tSeq, tIfS, tNot, tB, tCB, tCons, tNil, tVar, tC, tTest, tOp, tAnd, tOr, tAsg, gName, tRet, tRetN, tDrop, tNext, tIf, tCall, tTup, tLst, tNotV, tAndV, tOrV, tUn, rI0, rI, rU, rEq, rNe, tM1, tM0, tBM, tBM0, tSl, tPart, tNoPart, iStr, iEnumS, iRng1, iRng2, iList, gSub, tBits, tAug, tPar, L2.start, List.map_cons, List.map_nil, List.length_cons, List.length_nil, List.getElem?_cons_zero, List.getElem?_cons_succ, List.cons_append, List.nil_append, List.append_nil, List.set_cons_zero, List.set_cons_succ, List.replicate_succ, List.replicate_zero, Option.some.injEq, exists_eq_left', V.int.injEq, V.str.injEq, V.ref.injEq, V.bl.injEq, exists_and_left, exists_eq_left, List.cons.injEq, and_true, true_and, tCallX, tRs]
    refine ⟨tyV_lst h3, by decide, fun p4 np4 => ⟨g, 2, _, rfl, g3.new np4, by omega, by decide, by decide, fun z H5 z0 z1 k5 g5 => ?_⟩⟩
    have pg : p4 ≠ g := by obtain ⟨o, ho⟩ := g3.some; exact (ne_of_none ho np4).symm
    have k4 := (L2.Same.refl H3).new np4 (.lst [V.str (Str.ofString "l"), .str (Str.ofString "r")])
    have h4 := k5 _ _ pg (upd_same (H := H3) (a := p4) (o := .lst [V.str (Str.ofString "l"), .str (Str.ofString "r")]))
    have h5 := k5 _ _ gp (k4 _ _ h3)
    have k5 := (k3.trans (Keep.of k4)).trans k5
    obtain ⟨c, hc, cA⟩ : ∃ c : Nat, atI [V.str (Str.ofString "l"), .str (Str.ofString "r")] z = some (.str (S [c])) ∧ isA [c] = true := by
      have : z = 0 ∨ z = 1 := by omega
      rcases this with rfl | rfl
      · exact ⟨108, by rw [show S [108] = Str.ofString "l" by decide +kernel]; rfl, by decide⟩
      · exact ⟨114, by rw [show S [114] = Str.ofString "r" by decide +kernel]; rfl, by decide⟩
    refine ⟨p4, _, z, _, rfl, rfl, SqL.of h4, hc, p, _, _, rfl, rfl, h5, by rw [List.length_map]; exact small5' (by omega), a ++ [c], by simp only [isA, List.all_append] at aA cA ⊢; rw [aA, cA]; rfl, by simp [al], ?_, ?_, ?_⟩
    · rw [upd_same, List.map_append]; rfl
    · exact fun b o nb hb => by
        by_cases e : b = p
        · rw [e, np0] at hb; cases hb
        · rw [upd_ne e]; exact k5 _ _ nb hb
    · obtain ⟨x, y, w, e1, e2, e3⟩ := g5
      exact ⟨x, y, w, by rw [upd_ne gp.symm]; exact e1, e2, by omega⟩
  · rintro σ H3 ⟨a, a3, rfl, aA, al, h3, k3, g3⟩
    simp only [cxOf_K, tAsg2, tYes, wipe, tSeq, tIfS, tNot, tB, tCB, tCons, tNil, tVar, tC, tTest, tOp, tAnd, tOr, tAsg, gName, tRet, tRetN, tDrop, tNext, tIf, tCall, tTup, tLst, tNotV, tAndV, tOrV, tUn, rI0, rI, rU, rEq, rNe, tM1, tM0, tBM, tBM0, tSl, tPart, tNoPart, iStr, iEnumS, iRng1, iRng2, iList, gSub, tBits, tAug, tPar, L2.start, List.map_cons, List.map_nil, List.length_cons, List.length_nil, List.getElem?_cons_zero, List.getElem?_cons_succ, List.cons_append, List.nil_append, List.append_nil, List.set_cons_zero, List.set_cons_succ, List.replicate_succ, List.replicate_zero, Option.some.injEq, exists_eq_left', V.int.injEq, V.str.injEq, V.ref.injEq, V.bl.injEq, exists_and_left, exists_eq_left, List.cons.injEq, and_true, true_and, tCallX, tRs]
    refine ⟨⟨_, rfl⟩, a.map (fun c => S [c]), .inl (SqL.of (by rw [h3, List.map_map]; rfl)), ?_, ?_⟩
    · rw [signs_sum, lit_empty, S_len]
      simp only [List.length_nil, Nat.mul_zero]
      omega
    · rw [lit_empty, signs_join]
      obtain ⟨x, y, z, e1, e2, e3⟩ := g3
      exact q a H3 aA (by omega) k3 ⟨x, y, z, e1, e2, by omega⟩

theorem ok_law_steps (T : Txt w K mg) : FnOk P w K mg base CX0 6 T.a_law_steps T.fd_law_steps ["_law_generator_here", "_law_many", "_law_deep"] (sp_law_steps K) := by
  refine T.F_law_steps.ok sc_law_steps (fun vs H Q E h => ?_) (fun cdv A outer s H vs Q E hr h => ?_)
  · obtain ⟨g, m, d, n, rfl, _⟩ := h; rfl
  obtain ⟨g, m, d, n, rfl, hg, hm, hd, hd2, hn, q⟩ := h
  refine ⟨_, (pss_cons (ps_set (i := 3) sc_law_steps.nd rfl (by first | exact Or.inl rfl | exact Or.inr rfl) (pe_lst pa_nil))
    (pss_cons (ps_for PassesOwn.never rfl (pi_range1 rfl T.z_range (pa_cons (pv 1) pa_nil)) (pg_name (i := 4) sc_law_steps.nd rfl (by first | exact Or.inl rfl | exact Or.inr rfl)) (pss_cons (ps_set (i := 5) sc_law_steps.nd rfl (by first | exact Or.inl rfl | exact Or.inr rfl) (pe_ix ix_list (pe_lst (pa_cons pe_str (pa_cons pe_str pa_nil))) (pe_call (ok_law_random T) (hr.mono (by first | decide | omega)) (by rfl) T.m_law_random T.F_law_random.kp T.b_law_random .nil pass0 (pa_cons (pv 0) (pa_cons pe_int pa_nil))) (fun _ _ => rfl)))
    (pss_one (ps_expr (pe_bm PySem.F.plainAttrs_list PySem.F.slot_list_append PySem.F.type_list_append mt_append (pv 3) (pa_cons (pe_tup (pa_cons (pv 5) (pa_cons (pe_call (ok_law_address T) (hr.mono (by first | decide | omega)) (by rfl) T.m_law_address T.F_law_address.kp T.b_law_address .nil pass0 (pa_cons (pv 0) (pa_cons (pe_ix ix_list (pe_lst (pa_cons pe_int (pa_cons pe_int (pa_cons pe_int (pa_cons (pv 2) pa_nil))))) (pe_call (ok_law_random T) (hr.mono (by first | decide | omega)) (by rfl) T.m_law_random T.F_law_random.kp T.b_law_random .nil pass0 (pa_cons (pv 0) (pa_cons pe_int pa_nil))) (fun _ _ => rfl)) pa_nil))) pa_nil))) pa_nil))))))
    (pss_one (ps_ret (pv 3))))), ?_⟩
  simp only [cxOf_K, tAsg2, tYes, wipe, tSeq, tIfS, tNot, tB, tCB, tCons, tNil, tVar, tC, tTest, tOp, tAnd, tOr, tAsg, gName, tRet, tRetN, tDrop, tNext, tIf, tCall, tTup, tLst, tNotV, tAndV, tOrV, tUn, rI0, rI, rU, rEq, rNe, tM1, tM0, tBM, tBM0, tSl, tPart, tNoPart, iStr, iEnumS, iRng1, iRng2, iList, gSub, tBits, tAug, tPar, L2.start, List.map_cons, List.map_nil, List.length_cons, List.length_nil, List.getElem?_cons_zero, List.getElem?_cons_succ, List.cons_append, List.nil_append, List.append_nil, List.set_cons_zero, List.set_cons_succ, List.replicate_succ, List.replicate_zero, Option.some.injEq, exists_eq_left', V.int.injEq, V.str.injEq, V.ref.injEq, V.bl.injEq, exists_and_left, exists_eq_left, List.cons.injEq, and_true, true_and, tCallX, tRs]
  refine ⟨by decide, fun p np => ?_⟩
  have np0 := np
  have gp : p ≠ g := by obtain ⟨o, ho⟩ := hg.some; exact (ne_of_none ho np).symm
  have h1 : upd H p (.lst []) p = some (.lst []) := upd_same
  have k1 := Keep.of (g := g) ((L2.Same.refl H).new np (.lst []))
  have g1 := hg.new (o := .lst []) np
  generalize upd H p (.lst []) = H1 at h1 k1 g1 ⊢
  refine ⟨_, rfl, m, rfl, by omega, by omega, for_range (fun i σ H' => ∃ (ws : List V) (xs : List (Str × List Nat)) (a4 a5 : Option V), σ = [some (.ref g), some (.int (m : Nat)), some (.int (d : Nat)), some (.ref p), a4, a5] ∧ xs.length = i ∧ H' p = some (.lst ws) ∧ Stps H' ws xs ∧ (∀ x ∈ xs, okSt d x) ∧ Keep g H H' ∧ GenAt H' g (n + (9 + 3 * d) * i)) ⟨[], [], _, _, rfl, rfl, h1, .nil, (fun x hx => by cases hx), k1, g1⟩ ?_ ?_⟩
  · rintro i σ H3 hi ⟨ws, xs, a4, a5, rfl, xl, h3, st, ok, k3, g3⟩
    have him : i < m := by omega
    simp only [cxOf_K, tAsg2, tYes, wipe, tSeq, tIfS, tNot, tB, tCB, tCons, tNil, tVar, tC, tTest, tOp, tAnd, tOr, tAsg, gName, tRet, tRetN, tDrop, tNext, tIf, tCall, tTup, tLst, tNotV, tAndV, tOrV, tUn, rI0, rI, rU, rEq, rNe, tM1, tM0, tBM, tBM0, tSl, tPart, tNoPart, iStr, iEnumS, iRng1, iRng2, iList, gSub, tBits, tAug, tPar, L2.start, List.map_cons, List.map_nil, List.length_cons, List.length_nil, List.getElem?_cons_zero, List.getElem?_cons_succ, List.cons_append, List.nil_append, List.append_nil, List.set_cons_zero, List.set_cons_succ, List.replicate_succ, List.replicate_zero, Option.some.injEq, exists_eq_left', V.int.injEq, V.str.injEq, V.ref.injEq, V.bl.injEq, exists_and_left, exists_eq_left, List.cons.injEq, and_true, true_and, tCallX, tRs]
    have nb : (9 + 3 * d) * i ≤ 609 * 100 := Nat.mul_le_mul (by omega) (by omega)
    have ns : (9 + 3 * d) * (i + 1) = (9 + 3 * d) * i + (9 + 3 * d) := Nat.mul_succ _ _
    generalize hN : (9 + 3 * d) * i = N at nb ns g3
    rw [ns]
    refine ⟨by decide, fun p1 np1 => ⟨g, 2, _, rfl, g3.new np1, by omega, by decide, by decide, fun z H5 z0 z1 k5 g5 => ?_⟩⟩
    have pg1 : p1 ≠ g := by obtain ⟨o, ho⟩ := g3.some; exact (ne_of_none ho np1).symm
    have s4 := (L2.Same.refl H3).new np1 (.lst [V.str (Str.ofString "left"), .str (Str.ofString "right")])
    have h4 := k5 _ _ pg1 (upd_same (H := H3) (a := p1) (o := .lst [V.str (Str.ofString "left"), .str (Str.ofString "right")]))
    have kA := (Keep.of (g := g) s4).trans k5
    have h5 := kA _ _ gp h3
    obtain ⟨w, hw, hw2⟩ : ∃ w : Str, atI [V.str (Str.ofString "left"), .str (Str.ofString "right")] z = some (.str w) ∧ (w = Str.ofString "left" ∨ w = Str.ofString "right") := by
      have : z = 0 ∨ z = 1 := by omega
      rcases this with rfl | rfl
      · exact ⟨_, rfl, .inl rfl⟩
      · exact ⟨_, rfl, .inr rfl⟩
    refine ⟨p1, _, z, _, rfl, rfl, SqL.of h4, hw, tyV_lst h5, by decide, fun p2 np2 => ⟨g, 4, _, rfl, g5.new np2, by omega, by decide, by decide, fun y H6 y0 y1 k6 g6 => ?_⟩⟩
    have pg2 : p2 ≠ g := by obtain ⟨o, ho⟩ := g5.some; exact (ne_of_none ho np2).symm
    have s5 := (L2.Same.refl H5).new np2 (.lst [V.int 0, .int 1, .int 2, .int (d : Nat)])
    have h6 := k6 _ _ pg2 (upd_same (H := H5) (a := p2) (o := .lst [V.int 0, .int 1, .int 2, .int (d : Nat)]))
    have kB := kA.trans ((Keep.of (g := g) s5).trans k6)
    obtain ⟨e, he, he2⟩ : ∃ e : Nat, atI [V.int 0, .int 1, .int 2, .int (d : Nat)] y = some (.int (e : Nat)) ∧ e ≤ d := by
      have : y = 0 ∨ y = 1 ∨ y = 2 ∨ y = 3 := by omega
      rcases this with rfl | rfl | rfl | rfl
      · exact ⟨0, rfl, by omega⟩
      · exact ⟨1, rfl, by omega⟩
      · exact ⟨2, rfl, by omega⟩
      · exact ⟨d, rfl, by omega⟩
    refine ⟨p2, _, y, _, rfl, rfl, SqL.of h6, he, g, e, _, rfl, g6, by omega, by omega, fun a H7 aA al k7 g7 => ⟨by decide, fun p3 np3 => ?_⟩⟩
    have kC := kB.trans k7
    have h7 := kC _ _ gp h3
    have s7 := (L2.Same.refl H7).new np3 (.tup [V.str w, sV a])
    have h8 : upd H7 p3 (.tup [V.str w, sV a]) p3 = some _ := upd_same
    have kD := kC.trans (Keep.of (g := g) s7)
    have h9 := s7 _ _ h7
    have pp3 : p3 ≠ p := (ne_of_none h7 np3).symm
    have g8 := g7.same s7
    generalize upd H7 p3 (.tup [V.str w, sV a]) = H8 at h8 kD h9 g8 ⊢
    have wl := st.length
    refine ⟨p, _, _, rfl, rfl, h9, small5' (by omega), ws ++ [.ref p3], xs ++ [(w, a)], _, _, ⟨rfl, rfl⟩, by simp [xl], upd_same, ?_, ?_, ?_, ?_⟩
    · refine Stps.append (st.mono fun b vs hb => ?_) (.cons ?_ .nil)
      · have b1 : b ≠ g := fun z => by obtain ⟨_, _, _, e, _⟩ := g3; rw [z, e] at hb; cases hb
        have b2 : b ≠ p := fun z => by rw [z, h3] at hb; cases hb
        rw [upd_ne b2]
        exact kD _ _ b1 hb
      · rw [upd_ne pp3]
        exact h8
    · intro x hx
      rcases List.mem_append.mp hx with hx | hx
      · exact ok x hx
      · rw [List.mem_singleton.mp hx]
        exact ⟨hw2, aA, by show a.length ≤ d; omega⟩
    · exact fun b o nb hb => by
        by_cases e : b = p
        · rw [e, np0] at hb; cases hb
        · rw [upd_ne e]; exact kD _ _ nb (k3 _ _ nb hb)
    · obtain ⟨x, y, w, e1, e2, e3⟩ := g8
      exact ⟨x, y, w, by rw [upd_ne gp.symm]; exact e1, e2, by omega⟩
  · rintro σ H3 ⟨ws, xs, a4, a5, rfl, xl, h3, st, ok, k3, g3⟩
    simp only [cxOf_K, tAsg2, tYes, wipe, tSeq, tIfS, tNot, tB, tCB, tCons, tNil, tVar, tC, tTest, tOp, tAnd, tOr, tAsg, gName, tRet, tRetN, tDrop, tNext, tIf, tCall, tTup, tLst, tNotV, tAndV, tOrV, tUn, rI0, rI, rU, rEq, rNe, tM1, tM0, tBM, tBM0, tSl, tPart, tNoPart, iStr, iEnumS, iRng1, iRng2, iList, gSub, tBits, tAug, tPar, L2.start, List.map_cons, List.map_nil, List.length_cons, List.length_nil, List.getElem?_cons_zero, List.getElem?_cons_succ, List.cons_append, List.nil_append, List.append_nil, List.set_cons_zero, List.set_cons_succ, List.replicate_succ, List.replicate_zero, Option.some.injEq, exists_eq_left', V.int.injEq, V.str.injEq, V.ref.injEq, V.bl.injEq, exists_and_left, exists_eq_left, List.cons.injEq, and_true, true_and, tCallX, tRs]
    have xl : xs.length = m := by omega
    exact q p ws xs H3 np0 k3 (by have := g3; simpa using this) h3 st xl ok

theorem timP (T : Txt w K mg) {H : Hp} {x : V} {A B : Tr} {Q : VK} {E : XK} {i : Int} (m : Mv T.c_Move H x A B) (a1 : A.size ≤ 1000) (hs : A = B ∨ i.natAbs ≤ 500 ∧ i.natAbs * A.size ≤ 1000) (q : ∀ p H', H p = none → Same H H' → Mv T.c_Move H' (.ref p) (pwT A B i).1 (pwT A B i).2 → Q (.ref p) H') :
    ∃ r, x = V.ref r ∧ ∃ y z, H r = some (.ins T.c_Move y z) ∧ List.lookup (Str.ofString "times") z = none ∧ sp_Move_times T [x, .int i] H Q E := timS T m a1 hs q
theorem timQ (T : Txt w K mg) {H : Hp} {r : Addr} {A B : Tr} {Q : VK} {E : XK} {i : Int} (m : Mv T.c_Move H (.ref r) A B) (a1 : A.size ≤ 1000) (hs : A = B ∨ i.natAbs ≤ 500 ∧ i.natAbs * A.size ≤ 1000) (q : ∀ p H', H p = none → Same H H' → Mv T.c_Move H' (.ref p) (pwT A B i).1 (pwT A B i).2 → Q (.ref p) H') :
    ∃ y z, H r = some (.ins T.c_Move y z) ∧ List.lookup (Str.ofString "times") z = none ∧ sp_Move_times T [.ref r, .int i] H Q E := by
  obtain ⟨r', e, y, z, h⟩ := timP T m a1 hs q (E := E)
  cases e
  exact ⟨y, z, h⟩
theorem seq_gen {t1 t2 : TS} {D : Ends} {σ : L2.St} {H : Hp} (C : L2.St → Hp → Prop) (h1 : ∀ R : L2.St → Hp → Prop, (∀ σ' H', C σ' H' → R σ' H') → t1 { D with nx := R } σ H) (h2 : ∀ σ' H', C σ' H' → t2 D σ' H') : tSeq t1 t2 D σ H := h1 (t2 D) h2
theorem for_ev {K : PySem.W.Frag} {t : TE} {g : TG} {tb : TS} {D : Ends} {σ : L2.St} {H : Hp} (C : Addr → Hp → Prop) (ev : ∀ R : V → Hp → Prop, (∀ a H1, C a H1 → R (.ref a) H1) → t σ H R)
    (go : ∀ a H1, C a H1 → (∃ xs, SqL K H1 a xs) ∧ tFor (fun _ H R => R (Itl K a) H) g tb D σ H1) : tFor (iList K t) g tb D σ H := ev _ fun a H1 c => ⟨a, rfl, (go a H1 c).1, (go a H1 c).2⟩
theorem ok_law (T : Txt w K mg) : FnDG P w K mg base CX0 206 100 T.a_law T.fd_law ["_law_script"] (sp_law K) := by
  refine okDG T.F_law sc_law (fun vs H Q E h => ?_) (fun cdv A outer s H vs Q E hG hr h => ?_)
  · obtain ⟨a, ns, rfl, _⟩ := h; rfl
  obtain ⟨a, ns, rfl, ha, hl, q⟩ := h
  have hru := hr.room.units
  have hrf := TI.far hr
  refine ⟨_, (pss_cons (ps_for PassesOwn.never rfl (pi_range1 rfl T.z_range (pa_cons pe_int pa_nil)) (pg_name (i := 1) sc_law.nd rfl (by first | exact Or.inl rfl | exact Or.inr rfl)) (pss_cons (ps_set (i := 2) sc_law.nd rfl (by first | exact Or.inl rfl | exact Or.inr rfl) (pe_call (ok_law_generator T) (hr.room.mono (by first | decide | omega)) (by rfl) T.m_law_generator T.F_law_generator.kp T.b_law_generator .nil pass0 (pa_cons (pv 0) (pa_cons (pv 1) pa_nil))))
    (pss_cons (ps_set (i := 3) sc_law.nd rfl (by first | exact Or.inl rfl | exact Or.inr rfl) (OW.pe_smeth (pe_glob (v := .ref T.c_Move) (by rfl) T.g_Move rfl) T.r_Move T.s_Move_of (ok_Move_of T) (hr.room.mono (by first | decide | omega)) T.b_Move_of pass0 (pa_cons (pe_call (ok_law_steps T) (hr.room.mono (by first | decide | omega)) (by rfl) T.m_law_steps T.F_law_steps.kp T.b_law_steps .nil pass0 (pa_cons (pv 2) (pa_cons (pe_call (ok_law_randomW T) (hr.room.mono (by first | decide | omega)) (by rfl) T.m_law_random T.F_law_random.kp T.b_law_random .nil pass0 (pa_cons (pv 2) (pa_cons pe_int pa_nil))) (pa_cons pe_int pa_nil)))) pa_nil)))
    (pss_cons (ps_par (i := 4) (j := 5) rfl sc_law.nd rfl rfl (by decide) rfl rfl (pa_cons (pe_op op_sub (pe_call (ok_law_randomW T) (hr.room.mono (by first | decide | omega)) (by rfl) T.m_law_random T.F_law_random.kp T.b_law_random .nil pass0 (pa_cons (pv 2) (pa_cons pe_int pa_nil))) pe_int) (pa_cons (pe_op op_sub (pe_call (ok_law_randomW T) (hr.room.mono (by first | decide | omega)) (by rfl) T.m_law_random T.F_law_random.kp T.b_law_random .nil pass0 (pa_cons (pv 2) (pa_cons pe_int pa_nil))) pe_int) pa_nil)) rfl)
    (pss_cons (ps_for PassesOwn.never rfl (pi_list (pe_lst (pa_cons pe_int (pa_cons pe_int (pa_cons (pe_un un_neg pe_int) (pa_cons (pv 4) (pa_cons (pv 5) (pa_cons pe_int (pa_cons (pe_un un_neg pe_int) pa_nil))))))))) (pg_name (i := 6) sc_law.nd rfl (by first | exact Or.inl rfl | exact Or.inr rfl)) (pss_cons (ps_set (i := 7) sc_law.nd rfl (by first | exact Or.inl rfl | exact Or.inr rfl) (pe_meth (pv 3) T.l_Move T.t_Move_times (ok_Move_times T) (hr.room.mono (by first | decide | omega)) T.b_Move_times .nil passL (pa_cons (pv 6) pa_nil)))
    (pss_one (ps_if (pw_or (pt_cmpR (OW.op_ne2 T.ne_Move T.o_Move___eq__ (ok_Move___eq__ T) (hr.room.mono (by first | decide | omega)) T.b_Move___eq__ pass0) (pv 7) (pe_call (ok_law_product T) (hr.room.mono (by first | decide | omega)) (by rfl) T.m_law_product T.F_law_product.kp T.b_law_product .nil pass0 (pa_cons (pv 3) (pa_cons (pv 6) pa_nil))) (nomark _)) (pw_or1 (pt_cmpR (OW.op_ne2 T.ne_Move T.o_Move___eq__ (ok_Move___eq__ T) (hr.room.mono (by first | decide | omega)) T.b_Move___eq__ pass0) (OW.pe_methK0 (pv 3) T.l_Move T.t_Move_times (ok_Move_times T) (hr.room.mono (by first | decide | omega)) (OW.kbn1 (ps := ["self", "count"]) T.F_Move_times ["count"] [0] fun _ _ _ _ _ _ _ ws hl => match ws, hl with | [_], _ => rfl) passL (pk_cons (pv 6) pk_nil)) (pv 7) (nomark _)))).pt (pss_one (ps_ret pe_bl)) pss_nil))))
    (pss_cons (ps_set (i := 8) sc_law.nd rfl (by first | exact Or.inl rfl | exact Or.inr rfl) (pe_op (OW.op_own2 T.sf_Move T.o_Move___mul__ (ok_Move___mul__ T) (hr.room.mono (by first | decide | omega)) T.b_Move___mul__ pass0) (pe_meth (pv 3) T.l_Move T.t_Move_times (ok_Move_times T) (hr.room.mono (by first | decide | omega)) T.b_Move_times .nil passL (pa_cons (pv 4) pa_nil)) (pe_meth (pv 3) T.l_Move T.t_Move_times (ok_Move_times T) (hr.room.mono (by first | decide | omega)) T.b_Move_times .nil passL (pa_cons (pv 5) pa_nil))))
    (pss_cons (ps_if (pw_or (pw_and (pt_cmpR op_ge (pe_op op_mul (pv 4) (pv 5)) pe_int (nomark _)) (pw_and1 (pt_cmpR (OW.op_ne2 T.ne_Move T.o_Move___eq__ (ok_Move___eq__ T) (hr.room.mono (by first | decide | omega)) T.b_Move___eq__ pass0) (pv 8) (pe_meth (pv 3) T.l_Move T.t_Move_times (ok_Move_times T) (hr.room.mono (by first | decide | omega)) T.b_Move_times .nil passL (pa_cons (pe_op op_add (pv 4) (pv 5)) pa_nil)) (nomark _)))).pt (pw_or1 (pt_not (pt_cmpR (OW.op_le2 hr.room.units0 T.o_Move___le__ (ok_Move___le__ T) (hr.room.mono (by first | decide | omega)) T.b_Move___le__ pass0) (pv 8) (pe_meth (pv 3) T.l_Move T.t_Move_times (ok_Move_times T) (hr.room.mono (by first | decide | omega)) T.b_Move_times .nil passL (pa_cons (pe_op op_add (pv 4) (pv 5)) pa_nil)) (nomark _))))).pt (pss_one (ps_ret pe_bl)) pss_nil)
    (pss_cons (ps_set (i := 9) sc_law.nd rfl (by first | exact Or.inl rfl | exact Or.inr rfl) (OW.pe_smeth (pe_glob (v := .ref T.c_Move) (by rfl) T.g_Move rfl) T.r_Move T.s_Move_of (ok_Move_of T) (hr.room.mono (by first | decide | omega)) T.b_Move_of pass0 (pa_cons (pe_lst (pa_cons (pe_tup (pa_cons (pe_ix ix_list (pe_lst (pa_cons pe_str (pa_cons pe_str pa_nil))) (pe_call (ok_law_randomW T) (hr.room.mono (by first | decide | omega)) (by rfl) T.m_law_random T.F_law_random.kp T.b_law_random .nil pass0 (pa_cons (pv 2) (pa_cons pe_int pa_nil))) (fun _ _ => rfl)) (pa_cons (pe_call (ok_law_address T) (hr.room.mono (by first | decide | omega)) (by rfl) T.m_law_address T.F_law_address.kp T.b_law_address .nil pass0 (pa_cons (pv 2) (pa_cons pe_int pa_nil))) pa_nil))) pa_nil)) pa_nil)))
    (pss_cons (ps_set (i := 10) sc_law.nd rfl (by first | exact Or.inl rfl | exact Or.inr rfl) (pe_op op_add pe_int (pe_call (ok_law_randomW T) (hr.room.mono (by first | decide | omega)) (by rfl) T.m_law_random T.F_law_random.kp T.b_law_random .nil pass0 (pa_cons (pv 2) (pa_cons pe_int pa_nil)))))
    (pss_cons (ps_if (pw_or (pt_cmpR (OW.op_ne2 T.ne_Move T.o_Move___eq__ (ok_Move___eq__ T) (hr.room.mono (by first | decide | omega)) T.b_Move___eq__ pass0) (pe_meth (pv 9) T.l_Move T.t_Move_times (ok_Move_times T) (hr.room.mono (by first | decide | omega)) T.b_Move_times .nil passL (pa_cons (pv 10) pa_nil)) (pe_call (ok_law_product T) (hr.room.mono (by first | decide | omega)) (by rfl) T.m_law_product T.F_law_product.kp T.b_law_product .nil pass0 (pa_cons (pv 9) (pa_cons (pv 10) pa_nil))) (nomark _)) (pw_or1 (pt_cmpR (OW.op_ne2 T.ne_Move T.o_Move___eq__ (ok_Move___eq__ T) (hr.room.mono (by first | decide | omega)) T.b_Move___eq__ pass0) (pe_meth (pv 9) T.l_Move T.t_Move_times (ok_Move_times T) (hr.room.mono (by first | decide | omega)) T.b_Move_times .nil passL (pa_cons (pe_op op_sub pe_int (pv 10)) pa_nil)) (pe_un (OW.un_inv1 T.o_Move___invert__ (ok_Move___invert__ T) (hr.room.mono (by first | decide | omega)) T.b_Move___invert__ pass0) (pe_meth (pv 9) T.l_Move T.t_Move_times (ok_Move_times T) (hr.room.mono (by first | decide | omega)) T.b_Move_times .nil passL (pa_cons (pv 10) pa_nil))) (nomark _)))).pt (pss_one (ps_ret pe_bl)) pss_nil)
    (pss_cons (ps_set (i := 11) sc_law.nd rfl (by first | exact Or.inl rfl | exact Or.inr rfl) (pe_lst (pa_cons (pe_make T.k_Move (ok_Move___init__ T) (hr.room.mono (by first | decide | omega)) (by rfl) T.g_Move T.b_Move___init__ .nil passL (pa_cons (pe_prop (pv 3) T.l_Move T.p_Move_before (ok_Move_before T) (hr.room.mono (by first | decide | omega)) T.b_Move_before .nil pass0 rfl) (pa_cons (pe_prop (pv 3) T.l_Move T.p_Move_before (ok_Move_before T) (hr.room.mono (by first | decide | omega)) T.b_Move_before .nil pass0 rfl) pa_nil))) (pa_cons (pe_op (OW.op_own2 T.sf_Move T.o_Move___mul__ (ok_Move___mul__ T) (hr.room.mono (by first | decide | omega)) T.b_Move___mul__ pass0) (pv 3) (pe_un (OW.un_inv1 T.o_Move___invert__ (ok_Move___invert__ T) (hr.room.mono (by first | decide | omega)) T.b_Move___invert__ pass0) (pv 3))) (pa_cons (pe_make T.k_Move (ok_Move___init__ T) (hr.room.mono (by first | decide | omega)) (by rfl) T.g_Move T.b_Move___init__ .nil passL (pa_cons pe_str (pa_cons pe_str pa_nil))) pa_nil)))))
    (pss_cons (ps_set (i := 12) sc_law.nd rfl (by first | exact Or.inl rfl | exact Or.inr rfl) (pe_op op_add pe_int (pe_call (ok_law_randomW T) (hr.room.mono (by first | decide | omega)) (by rfl) T.m_law_random T.F_law_random.kp T.b_law_random .nil pass0 (pa_cons (pv 2) (pa_cons (pe_ix ix_list (pe_lst (pa_cons (pe_op op_powB pe_int pe_int) (pa_cons (pe_op op_powB pe_int pe_int) pa_nil))) (pe_call (ok_law_randomW T) (hr.room.mono (by first | decide | omega)) (by rfl) T.m_law_random T.F_law_random.kp T.b_law_random .nil pass0 (pa_cons (pv 2) (pa_cons pe_int pa_nil))) (fun _ _ => rfl)) pa_nil)))))
    (pss_cons (ps_if (pt_cmpR (op_neD hru) (pe_lc (own := [("_law_base", 13)]) rfl sc_law.nd (pi_list (pv 11)) (blkOk_by (own := [("_law_base", 13)]) (N := nm_law) (sc := defScope s_law) (by decide +kernel)) (fun _ _ _ _ _ => by exact (pg_name (i := 13) sc_law.nd rfl (by first | exact Or.inl rfl | exact Or.inr rfl))) (fun _ _ _ _ _ => by exact (pts_one (pw_or (show L2.PT _ _ (tTest (tOp (OW.rOwnNe T.c_Move (sp_Move___eq__ T) E0) _ _)) from (pt_cmpR (OW.op_ne2 T.ne_Move T.o_Move___eq__ (ok_Move___eq__ T) (hr.room.mono (by first | decide | omega)) T.b_Move___eq__ pass0) (pe_meth (pv 13) T.l_Move T.t_Move_times (ok_Move_times T) (hr.room.mono (by first | decide | omega)) T.b_Move_times .nil passL (pa_cons (pv 12) pa_nil)) (pv 13) (nomark _))) (pw_or1 (show L2.PT _ _ (tTest (tOp (OW.rOwnNe T.c_Move (sp_Move___eq__ T) E0) _ _)) from (pt_cmpR (OW.op_ne2 T.ne_Move T.o_Move___eq__ (ok_Move___eq__ T) (hr.room.mono (by first | decide | omega)) T.b_Move___eq__ pass0) (pe_meth (pv 13) T.l_Move T.t_Move_times (ok_Move_times T) (hr.room.mono (by first | decide | omega)) T.b_Move_times .nil passL (pa_cons (pe_op op_sub pe_int (pv 12)) pa_nil)) (pv 13) (nomark _))))).pt)) (fun _ _ _ _ _ => by exact (pv 13))) (pe_lst pa_nil) (nomark _)) (pss_one (ps_ret pe_bl)) pss_nil)
    (pss_one (ps_for PassesOwn.never rfl (pi_list (pe_lst (pa_cons pe_non (pa_cons pe_bl (pa_cons pe_bl (pa_cons pe_str (pa_cons (pe_lst (pa_cons pe_int pa_nil)) (pa_cons (pe_tup (pa_cons pe_int pa_nil)) (pa_cons pe_dnewK (pa_cons (pv 3) pa_nil)))))))))) (pg_name (i := 14) sc_law.nd rfl (by first | exact Or.inl rfl | exact Or.inr rfl)) (pss_one (ps_if (pt_not (pt_val (pe_callG (ok_law_caught T) hG (hr.room.mono (by first | decide | omega)) (by rfl) T.m_law_caught T.F_law_caught.kp T.b_law_caught .nil pass0 (pa_cons (pv 3) (pa_cons (pv 14) pa_nil))))) (pss_one (ps_ret pe_bl)) pss_nil)))))))))))))))))
    (pss_one (ps_ret (pe_call (ok_law_great_right T) (hr.room.mono (by first | decide | omega)) (by rfl) T.m_law_great_right T.F_law_great_right.kp T.b_law_great_right .nil pass0 (pa_cons (pe_call (ok_law_generator T) (hr.room.mono (by first | decide | omega)) (by rfl) T.m_law_generator T.F_law_generator.kp T.b_law_generator .nil pass0 (pa_cons (pv 0) (pa_cons pe_int pa_nil))) pa_nil))))), ?_⟩
  simp only [cxOf_K, tAsg2, tYes, wipe, tSeq, tIfS, tNot, tB, tCB, tCons, tNil, tVar, tC, tTest, tOp, tAnd, tOr, tAsg, gName, tRet, tRetN, tDrop, tNext, tIf, tCall, tTup, tLst, tNotV, tAndV, tOrV, tUn, rI0, rI, rU, rEq, rNe, tM1, tM0, tBM, tBM0, tSl, tPart, tNoPart, iStr, iEnumS, iRng1, iRng2, iList, gSub, tBits, tAug, tPar, L2.start, List.map_cons, List.map_nil, List.length_cons, List.length_nil, List.getElem?_cons_zero, List.getElem?_cons_succ, List.cons_append, List.nil_append, List.append_nil, List.set_cons_zero, List.set_cons_succ, List.replicate_succ, List.replicate_zero, Option.some.injEq, exists_eq_left', V.int.injEq, V.str.injEq, V.ref.injEq, V.bl.injEq, exists_and_left, exists_eq_left, List.cons.injEq, and_true, true_and, tCallX, tRs, tProp, OW.tSMeth, OW.tCallI, Nat.sub_self, List.replicate_zero, tFld, sFld, sFldAug, tDGet, tDIn, tDNotIn, sDPut, tMeth, tMake, tDNewK]
  refine ⟨_, rfl, by decide, by decide, for_range (fun i σ H' => ∃ τ : List (Option V), σ = some (.ref a) :: τ ∧ τ.length = 14 ∧ Same H H') ⟨_, rfl, rfl, L2.Same.refl H⟩ ?_ ?_⟩
  · rintro i σ H1 hi ⟨τ, rfl, tl, s1⟩
    have hi4 : i < 3 := hi
    match τ, tl with
    | [a1, a2, a3, a4, a5, a6, a7, a8, a9, a10, a11, a12, a13, a14], _ =>
    simp only [tPar, tPar3, cxOf_K, tAsg2, tYes, wipe, tSeq, tIfS, tNot, tB, tCB, tCons, tNil, tVar, tC, tTest, tOp, tAnd, tOr, tAsg, gName, tRet, tRetN, tDrop, tNext, tIf, tCall, tTup, tLst, tNotV, tAndV, tOrV, tUn, rI0, rI, rU, rEq, rNe, tM1, tM0, tBM, tBM0, tSl, tPart, tNoPart, iStr, iEnumS, iRng1, iRng2, iList, gSub, tBits, tAug, tPar, L2.start, List.map_cons, List.map_nil, List.length_cons, List.length_nil, List.getElem?_cons_zero, List.getElem?_cons_succ, List.cons_append, List.nil_append, List.append_nil, List.set_cons_zero, List.set_cons_succ, List.replicate_succ, List.replicate_zero, Option.some.injEq, exists_eq_left', V.int.injEq, V.str.injEq, V.ref.injEq, V.bl.injEq, exists_and_left, exists_eq_left, List.cons.injEq, and_true, true_and, tCallX, tRs, TB.tCallK, List.getD_cons_zero, List.getD_cons_succ, Nat.sub_self, List.replicate_zero, cxOf_K, tAsg2, tYes, wipe, tSeq, tIfS, tNot, tB, tCB, tCons, tNil, tVar, tC, tTest, tOp, tAnd, tOr, tAsg, gName, tRet, tRetN, tDrop, tNext, tIf, tCall, tTup, tLst, tNotV, tAndV, tOrV, tUn, rI0, rI, rU, rEq, rNe, tM1, tM0, tBM, tBM0, tSl, tPart, tNoPart, iStr, iEnumS, iRng1, iRng2, iList, gSub, tBits, tAug, tPar, L2.start, List.map_cons, List.map_nil, List.length_cons, List.length_nil, List.getElem?_cons_zero, List.getElem?_cons_succ, List.cons_append, List.nil_append, List.append_nil, List.set_cons_zero, List.set_cons_succ, List.replicate_succ, List.replicate_zero, Option.some.injEq, exists_eq_left', V.int.injEq, V.str.injEq, V.ref.injEq, V.bl.injEq, exists_and_left, exists_eq_left, List.cons.injEq, and_true, true_and, tCallX, tRs, tProp, OW.tSMeth, OW.tCallI, Nat.sub_self, List.replicate_zero, tFld, sFld, sFldAug, tDGet, tDIn, tDNotIn, sDPut, tMeth, tMake, tDNewK, OW.tMethK]
    rw [show (0 : Int) + (i : Int) = ((i : Nat) : Int) by omega]
    refine ⟨a, ns, i, rfl, s1.seq ha, fun g H2 hg s2 g2 => ?_⟩
    have s2' := s1.trans s2
    have hg0 : H g = none := s1.free hg
    have g2 := g2.mono (show 1000 * i ≤ 3000 by omega)
    refine ⟨g, 5, _, rfl, g2, by decide, by decide, by decide, fun c H3 c0 c1 k3 g3 => ?_⟩
    obtain ⟨c, rfl⟩ := Int.eq_ofNat_of_zero_le c0
    refine ⟨g, c, 3, _, rfl, g3, by omega, by decide, by decide, by omega, fun p ws xs H4 np k4 g4 hp st xl okx => ?_⟩
    have kH := (Keep.of (g := g) s2').trans (k3.trans k4)
    have wl := st.length
    have xl4 : xs.length ≤ 4 := by omega
    have gd : GoodS H4 (.ref p) xs := ⟨p, ws, rfl, hp, st, by omega, fun x hx => ⟨(okx x hx).1, (okx x hx).2.1, by have := (okx x hx).2.2; omega⟩⟩
    have z20 : xs.length * (3 + 2) ≤ 4 * 5 := Nat.mul_le_mul_right _ xl4
    have pb : PairB xs := ⟨3, okx, by decide, .inl (by omega)⟩
    have bd := (pairT_bounds (D := 3) (xs.map bxs) fun x hx => by
      obtain ⟨y, hy, rfl⟩ := List.mem_map.mp hx
      exact (okx y hy).2.2)
    rw [List.length_map] at bd
    refine ⟨_, xs, rfl, gd, pb, fun pm H5 n5 s5 m5 => ?_⟩
    obtain ⟨⟨A, B⟩, eP⟩ : ∃ pq, pairT (xs.map bxs) = pq := ⟨_, rfl⟩
    rw [eP] at bd
    have mv := m5.eq eP
    have zA : A.size ≤ 20 := Nat.le_trans bd.1 z20
    have zAB : A.size = B.size := mv.1
    have lv : A.lvs = B.lvs := lvs_of zAB
    have kH := kH.trans (Keep.of s5)
    have g5 := g4.same s5
    clear gd pb bd m5 eP st okx hp g4 g3 k3 k4 s2 s2' s1 z20
    refine ⟨g, 8, _, rfl, g5, by omega, by decide, by decide, fun o1 H6 o10 o11 k6 g6 => ⟨o1, rfl, ?_⟩⟩
    refine ⟨g, 8, _, rfl, g6, by omega, by decide, by decide, fun o2 H7 o20 o21 k7 g7 => ⟨o2, rfl, _, _, ⟨rfl, rfl⟩, ?_⟩⟩
    have k67 := k6.trans k7
    obtain ⟨gw5, hgw5⟩ := genL g5
    have mv := mv.keep hgw5 k67
    have kH := kH.trans k67
    clear k6 k7 k67 g5 g6 hgw5 gw5
    generalize hu1 : o1 - 4 = u1
    generalize hu2 : o2 - 4 = u2
    have b1 : u1.natAbs ≤ 4 := by omega
    have b2 : u2.natAbs ≤ 4 := by omega
    have pz : ∀ j : Int, j.natAbs ≤ 8 → j.natAbs * A.size ≤ 160 := fun j hj => Nat.le_trans (Nat.mul_le_mul hj zA) (by decide)
    refine for_ev (fun q5 J5 => Same H7 J5 ∧ ∃ L : List V, J5 q5 = some (.lst L) ∧ ∀ x ∈ L, ∃ i : Int, x = .int i ∧ i.natAbs ≤ 7) (fun R hR => ?_) ?_
    · simp only [cxOf_K, tAsg2, tYes, wipe, tSeq, tIfS, tNot, tB, tCB, tCons, tNil, tVar, tC, tTest, tOp, tAnd, tOr, tAsg, gName, tRet, tRetN, tDrop, tNext, tIf, tCall, tTup, tLst, tNotV, tAndV, tOrV, tUn, rI0, rI, rU, rEq, rNe, tM1, tM0, tBM, tBM0, tSl, tPart, tNoPart, iStr, iEnumS, iRng1, iRng2, iList, gSub, tBits, tAug, tPar, L2.start, List.map_cons, List.map_nil, List.length_cons, List.length_nil, List.getElem?_cons_zero, List.getElem?_cons_succ, List.cons_append, List.nil_append, List.append_nil, List.set_cons_zero, List.set_cons_succ, List.replicate_succ, List.replicate_zero, Option.some.injEq, exists_eq_left', V.int.injEq, V.str.injEq, V.ref.injEq, V.bl.injEq, exists_and_left, exists_eq_left, List.cons.injEq, and_true, true_and, tCallX, tRs, tProp, OW.tSMeth, OW.tCallI, Nat.sub_self, List.replicate_zero, tFld, sFld, sFldAug, tDGet, tDIn, tDNotIn, sDPut, tMeth, tMake, tDNewK]
      refine ⟨by decide, fun l nl => ?_⟩
      refine hR l _ ⟨(L2.Same.refl H7).new nl _, _, upd_same, fun x hx => ?_⟩
      simp only [List.mem_cons, List.not_mem_nil, or_false] at hx
      rcases hx with rfl | rfl | rfl | rfl | rfl | rfl | rfl
      all_goals exact ⟨_, rfl, by first | decide | omega⟩
    rintro q5 J5 ⟨u5, L, f5, allI⟩
    have mv := mv.same u5
    have g8 := g7.same u5
    have kH := kH.trans (Keep.of u5)
    clear u5 g7
    refine ⟨⟨_, SqL.of f5⟩, for_list (K := K) (a := q5) (xs := L) (fun k σ H' => ∃ b6 b7, σ = [some (.ref a), some (.int (i : Nat)), some (.ref g), some (.ref pm), some (.int u1), some (.int u2), b6, b7, a8, a9, a10, a11, a12, a13, a14] ∧ Same J5 H')
      ⟨a6, a7, rfl, L2.Same.refl J5⟩ (fun k σ H' _ ⟨_, _, _, z⟩ => SqL.of (z _ _ f5)) ?_ ?_⟩
    · rintro k x σ L0 hk ⟨b6, b7, rfl, s0⟩
      obtain ⟨j, rfl, hj⟩ := allI x (List.mem_of_getElem? hk)
      have mv := mv.same s0
      simp only [gName, cxOf_K, tAsg2, tYes, wipe, tSeq, tIfS, tNot, tB, tCB, tCons, tNil, tVar, tC, tTest, tOp, tAnd, tOr, tAsg, gName, tRet, tRetN, tDrop, tNext, tIf, tCall, tTup, tLst, tNotV, tAndV, tOrV, tUn, rI0, rI, rU, rEq, rNe, tM1, tM0, tBM, tBM0, tSl, tPart, tNoPart, iStr, iEnumS, iRng1, iRng2, iList, gSub, tBits, tAug, tPar, L2.start, List.map_cons, List.map_nil, List.length_cons, List.length_nil, List.getElem?_cons_zero, List.getElem?_cons_succ, List.cons_append, List.nil_append, List.append_nil, List.set_cons_zero, List.set_cons_succ, List.replicate_succ, List.replicate_zero, Option.some.injEq, exists_eq_left', V.int.injEq, V.str.injEq, V.ref.injEq, V.bl.injEq, exists_and_left, exists_eq_left, List.cons.injEq, and_true, true_and, tCallX, tRs, tProp, OW.tSMeth, OW.tCallI, Nat.sub_self, List.replicate_zero, tFld, sFld, sFldAug, tDGet, tDIn, tDNotIn, sDPut, tMeth, tMake, tDNewK, OW.tMethK]
      have pj := pz j (by omega)
      refine timQ T mv (by omega) (.inr ⟨by omega, by omega⟩) fun p7 K1 n1 t1 m7 => ?_
      refine ⟨_, j, A, B, rfl, mv.same t1, by omega, by omega, by omega, fun p8 K2 n2 t2 m8 => ?_⟩
      have m8 : Mv T.c_Move K2 (.ref p8) (pwT A B j).1 (pwT A B j).2 := m8
      refine neS T (m7.same t2) m8 ⟨_, rfl, ?_⟩
      rw [if_neg (by decide)]
      refine timQ T (mv.same (t1.trans t2)) (by omega) (.inr ⟨by omega, by omega⟩) fun p9 K3 n3 t3 m9 => ?_
      refine neS T m9 (m7.same (t2.trans t3)) ⟨_, rfl, ?_⟩
      rw [if_neg (by decide)]
      exact ⟨_, _, ⟨rfl, rfl⟩, s0.trans (t1.trans (t2.trans t3))⟩
    rintro σ L0 ⟨b6, b7, rfl, s0⟩
    have mv := mv.same s0
    have g8 := g8.same s0
    have kH := kH.trans (Keep.of s0)
    clear allI f5 s0
    dsimp only
    refine seq_gen (fun σ' H' => ∃ pb, σ' = [some (.ref a), some (.int (i : Nat)), some (.ref g), some (.ref pm), some (.int u1), some (.int u2), b6, b7, some (.ref pb), a9, a10, a11, a12, a13, a14] ∧ Same L0 H' ∧ Mv T.c_Move H' (.ref pb) (mulT (pwT A B u1) (pwT A B u2)).1 (mulT (pwT A B u1) (pwT A B u2)).2) (fun R hR => ?_) ?_
    · simp only [gName, cxOf_K, tAsg2, tYes, wipe, tSeq, tIfS, tNot, tB, tCB, tCons, tNil, tVar, tC, tTest, tOp, tAnd, tOr, tAsg, gName, tRet, tRetN, tDrop, tNext, tIf, tCall, tTup, tLst, tNotV, tAndV, tOrV, tUn, rI0, rI, rU, rEq, rNe, tM1, tM0, tBM, tBM0, tSl, tPart, tNoPart, iStr, iEnumS, iRng1, iRng2, iList, gSub, tBits, tAug, tPar, L2.start, List.map_cons, List.map_nil, List.length_cons, List.length_nil, List.getElem?_cons_zero, List.getElem?_cons_succ, List.cons_append, List.nil_append, List.append_nil, List.set_cons_zero, List.set_cons_succ, List.replicate_succ, List.replicate_zero, Option.some.injEq, exists_eq_left', V.int.injEq, V.str.injEq, V.ref.injEq, V.bl.injEq, exists_and_left, exists_eq_left, List.cons.injEq, and_true, true_and, tCallX, tRs, tProp, OW.tSMeth, OW.tCallI, Nat.sub_self, List.replicate_zero, tFld, sFld, sFldAug, tDGet, tDIn, tDNotIn, sDPut, tMeth, tMake, tDNewK]
      have p1 := pz u1 (by omega)
      have p2 := pz u2 (by omega)
      have q1 := (pwT_ok zAB u1).2
      have q2 := (pwT_ok zAB u2).2
      refine timQ T mv (by omega) (.inr ⟨by omega, by omega⟩) fun p7 K1 n1 t1 m7 => ?_
      refine timQ T (mv.same t1) (by omega) (.inr ⟨by omega, by omega⟩) fun p8 K2 n2 t2 m8 => ?_
      refine mulS T (m7.same t2) m8 (by omega) (by omega) fun p9 K3 n3 t3 m9 => ?_
      exact hR _ _ ⟨p9, rfl, t1.trans (t2.trans t3), m9⟩
    rintro σ K0 ⟨pb, rfl, s0, mb⟩
    have mv := mv.same s0
    have g8 := g8.same s0
    have kH := kH.trans (Keep.of s0)
    clear s0
    refine seq_gen (fun σ' H' => σ' = [some (.ref a), some (.int (i : Nat)), some (.ref g), some (.ref pm), some (.int u1), some (.int u2), b6, b7, some (.ref pb), a9, a10, a11, a12, a13, a14] ∧ Same K0 H') (fun R hR => ?_) ?_
    · simp only [gName, cxOf_K, tAsg2, tYes, wipe, tSeq, tIfS, tNot, tB, tCB, tCons, tNil, tVar, tC, tTest, tOp, tAnd, tOr, tAsg, gName, tRet, tRetN, tDrop, tNext, tIf, tCall, tTup, tLst, tNotV, tAndV, tOrV, tUn, rI0, rI, rU, rEq, rNe, tM1, tM0, tBM, tBM0, tSl, tPart, tNoPart, iStr, iEnumS, iRng1, iRng2, iList, gSub, tBits, tAug, tPar, L2.start, List.map_cons, List.map_nil, List.length_cons, List.length_nil, List.getElem?_cons_zero, List.getElem?_cons_succ, List.cons_append, List.nil_append, List.append_nil, List.set_cons_zero, List.set_cons_succ, List.replicate_succ, List.replicate_zero, Option.some.injEq, exists_eq_left', V.int.injEq, V.str.injEq, V.ref.injEq, V.bl.injEq, exists_and_left, exists_eq_left, List.cons.injEq, and_true, true_and, tCallX, tRs, tProp, OW.tSMeth, OW.tCallI, Nat.sub_self, List.replicate_zero, tFld, sFld, sFldAug, tDGet, tDIn, tDNotIn, sDPut, tMeth, tMake, tDNewK]
      have p1 := pz u1 (by omega)
      have p2 := pz u2 (by omega)
      have p3 := pz (u1 + u2) (by omega)
      have q1 := (pwT_ok zAB u1).2
      have q2 := (pwT_ok zAB u2).2
      have q3 := (pwT_ok zAB (u1 + u2)).2
      obtain ⟨le, eq⟩ := pwT_le lv u1 u2
      have zm : (mulT (pwT A B u1) (pwT A B u2)).1.size ≤ (pwT A B u1).1.size + (pwT A B u2).1.size := (mul_bounds (lvs_of (pwT_ok zAB u1).1) (lvs_of (pwT_ok zAB u2).1)).1
      have lel : leT ((mulT (pwT A B u1) (pwT A B u2)).1, (mulT (pwT A B u1) (pwT A B u2)).2) ((pwT A B (u1 + u2)).1, (pwT A B (u1 + u2)).2) = true := (leT_Gr (lvs_of (pwT_ok zAB (u1 + u2)).1)).mpr le
      have fin : ∀ K1, Same K0 K1 → ∃ y z, K1 pm = some (.ins T.c_Move y z) ∧ List.lookup (Str.ofString "times") z = none ∧ sp_Move_times T [.ref pm, .int (u1 + u2)] K1 (fun y H2 => OW.rOwn2 T.c_Move (sp_Move___le__ T) E0 (.ref pb) y H2 fun x H' => ∃ k, x = V.bl k ∧ if (!k) = true then Q (V.bl false) H' else R [some (.ref a), some (.int (i : Nat)), some (.ref g), some (.ref pm), some (.int u1), some (.int u2), b6, b7, some (.ref pb), a9, a10, a11, a12, a13, a14] H') E0 := fun K1 t0 => by
        refine timQ T (mv.same t0) (by omega) (.inr ⟨by omega, by omega⟩) fun p7 K2 n2 t2 m7 => ?_
        refine leS T (mb.same (t0.trans t2)) m7 (by omega) (by omega) lel fun K3 t3 => ⟨_, rfl, ?_⟩
        rw [if_neg (by decide)]
        exact hR _ _ ⟨rfl, t0.trans (t2.trans t3)⟩
      refine ⟨cmulL (by omega), ?_⟩
      by_cases c : 0 ≤ u1 * u2
      · rw [if_pos (by simpa using c)]
        refine timQ T mv (by omega) (.inr ⟨by omega, by omega⟩) fun p7 K1 n1 t1 m7 => ?_
        have mb1 := mb.same t1
        rw [eq c] at mb1
        refine neS T mb1 m7 ⟨_, rfl, ?_⟩
        rw [if_neg (by decide)]
        exact fin K1 t1
      · rw [if_neg (by simpa using c), if_neg (by decide)]
        exact fin K0 (L2.Same.refl K0)
    rintro σ K1 ⟨rfl, s0⟩
    have mv := mv.same s0
    have g8 := g8.same s0
    have kH := kH.trans (Keep.of s0)
    clear s0 mb
    simp only [tSeq, gName, cxOf_K, tAsg2, tYes, wipe, tSeq, tIfS, tNot, tB, tCB, tCons, tNil, tVar, tC, tTest, tOp, tAnd, tOr, tAsg, gName, tRet, tRetN, tDrop, tNext, tIf, tCall, tTup, tLst, tNotV, tAndV, tOrV, tUn, rI0, rI, rU, rEq, rNe, tM1, tM0, tBM, tBM0, tSl, tPart, tNoPart, iStr, iEnumS, iRng1, iRng2, iList, gSub, tBits, tAug, tPar, L2.start, List.map_cons, List.map_nil, List.length_cons, List.length_nil, List.getElem?_cons_zero, List.getElem?_cons_succ, List.cons_append, List.nil_append, List.append_nil, List.set_cons_zero, List.set_cons_succ, List.replicate_succ, List.replicate_zero, Option.some.injEq, exists_eq_left', V.int.injEq, V.str.injEq, V.ref.injEq, V.bl.injEq, exists_and_left, exists_eq_left, List.cons.injEq, and_true, true_and, tCallX, tRs, tProp, OW.tSMeth, OW.tCallI, Nat.sub_self, List.replicate_zero, tFld, sFld, sFldAug, tDGet, tDIn, tDNotIn, sDPut, tMeth, tMake, tDNewK]
    refine ⟨by decide, fun l1 nl1 => ?_⟩
    have lg1 : l1 ≠ g := by obtain ⟨o, ho⟩ := g8.some; exact (ne_of_none ho nl1).symm
    have v1 := (L2.Same.refl K1).new nl1 (.lst [V.str (Str.ofString "left"), .str (Str.ofString "right")])
    have w1 : upd K1 l1 (.lst [V.str (Str.ofString "left"), .str (Str.ofString "right")]) l1 = some _ := upd_same
    generalize upd K1 l1 (.lst [V.str (Str.ofString "left"), .str (Str.ofString "right")]) = K2 at v1 w1 ⊢
    have g8' := g8.same v1
    obtain ⟨gw8, hgw8⟩ := genL g8'
    refine ⟨g, 2, _, rfl, g8', by omega, by decide, by decide, fun z K3 z0 z1 k3 g9 => ?_⟩
    have w1 := k3 _ _ lg1 w1
    have mv := (mv.same v1).keep hgw8 k3
    have kH := (kH.trans (Keep.of v1)).trans k3
    obtain ⟨w, hw, hw2⟩ : ∃ w : Str, atI [V.str (Str.ofString "left"), .str (Str.ofString "right")] z = some (.str w) ∧ (w = Str.ofString "left" ∨ w = Str.ofString "right") := by
      have : z = 0 ∨ z = 1 := by omega
      rcases this with rfl | rfl
      · exact ⟨_, rfl, .inl rfl⟩
      · exact ⟨_, rfl, .inr rfl⟩
    refine ⟨l1, _, z, _, rfl, rfl, SqL.of w1, hw, ?_⟩
    obtain ⟨gw9, hgw9⟩ := genL g9
    refine ⟨g, 3, _, rfl, g9, by omega, by omega, fun ad K4 aA al k4 g10 => ⟨by decide, fun p1 np1 => ?_⟩⟩
    have mv := mv.keep hgw9 k4
    have kH := kH.trans k4
    have v5 := (L2.Same.refl K4).new np1 (.tup [V.str w, sV ad])
    have w5 : upd K4 p1 (.tup [V.str w, sV ad]) p1 = some _ := upd_same
    generalize upd K4 p1 (.tup [V.str w, sV ad]) = K5 at v5 w5 ⊢
    refine ⟨by decide, fun p2 np2 => ?_⟩
    have v6 := (L2.Same.refl K5).new np2 (.lst [V.ref p1])
    have w6 : upd K5 p2 (.lst [V.ref p1]) p2 = some _ := upd_same
    have w5 := v6 _ _ w5
    generalize upd K5 p2 (.lst [V.ref p1]) = K6 at v6 w6 w5 ⊢
    have ok1 : ∀ x ∈ [(w, ad)], okSt 3 x := fun x hx => by
      rw [List.mem_singleton.mp hx]; exact ⟨hw2, aA, al⟩
    have st1 : Stps K6 [V.ref p1] [(w, ad)] := .cons w5 .nil
    have bd1 := (pairT_bounds (D := 3) ([(w, ad)].map bxs) fun x hx => by
      obtain ⟨y, hy, rfl⟩ := List.mem_map.mp hx
      exact (ok1 y hy).2.2)
    have v46 := v5.trans v6
    have mv := mv.same v46
    have g10 := g10.same v46
    have kH := kH.trans (Keep.of v46)
    refine ⟨_, [(w, ad)], rfl, ⟨p2, _, rfl, w6, st1, by simp, fun x hx => ⟨(ok1 x hx).1, (ok1 x hx).2.1, by have := (ok1 x hx).2.2; omega⟩⟩, ⟨3, ok1, by decide, .inl (by simp)⟩, fun ps K7 n7 v7 ms => ?_⟩
    obtain ⟨⟨A1, B1⟩, eP1⟩ : ∃ pq, pairT ([(w, ad)].map bxs) = pq := ⟨_, rfl⟩
    rw [eP1] at bd1
    have ms := ms.eq eP1
    have zA1 : A1.size ≤ 5 := bd1.1
    have zAB1 : A1.size = B1.size := ms.1
    have lv1 : A1.lvs = B1.lvs := lvs_of zAB1
    have mv := mv.same v7
    have g10 := g10.same v7
    have kH := kH.trans (Keep.of v7)
    clear v1 v5 v6 v46 v7 w1 w5 w6 k3 k4 bd1 eP1 st1 ok1 np1 np2 nl1 g9 g8 g8' hgw8 hgw9
    obtain ⟨gw10, hgw10⟩ := genL g10
    refine ⟨g, 112, _, rfl, g10, by omega, by decide, by decide, fun lo K8 lo0 lo1 k8 g11 => ⟨lo, rfl, ?_⟩⟩
    have mv := mv.keep hgw10 k8
    have ms := ms.keep hgw10 k8
    have kH := kH.trans k8
    clear k8 g10 hgw10
    generalize hlg : 9 + lo = lg
    have lgb : 9 ≤ lg ∧ lg ≤ 120 := by omega
    have pl1 : lg.natAbs * A1.size ≤ 600 := Nat.le_trans (Nat.mul_le_mul (by omega : lg.natAbs ≤ 120) zA1) (by decide)
    refine timP T ms (by omega) (.inr ⟨by omega, by omega⟩) fun p7 M1 n1 t1 m7 => ?_
    refine ⟨_, lg, A1, B1, rfl, ms.same t1, by omega, by omega, by omega, fun p8 M2 n2 t2 m8 => ?_⟩
    have m8 : Mv T.c_Move M2 (.ref p8) (pwT A1 B1 lg).1 (pwT A1 B1 lg).2 := m8
    refine neS T (m7.same t2) m8 ⟨_, rfl, ?_⟩
    rw [if_neg (by decide)]
    have q1 := (pwT_ok zAB1 lg).2
    have q1e := (pwT_ok zAB1 lg).1
    refine timP T (ms.same (t1.trans t2)) (by omega) (.inr ⟨by omega, by rw [show (0 - lg).natAbs = lg.natAbs by omega]; omega⟩) fun p9 M3 n3 t3 m9 => ?_
    have m9 := m9.eq (pwT_neg lv1 lg)
    have t13 := t1.trans (t2.trans t3)
    refine timP T (ms.same t13) (by omega) (.inr ⟨by omega, by omega⟩) fun pa M4 n4 t4 ma => ?_
    refine ⟨ma.isc, _, _, _, rfl, ma, by omega, fun pc M5 n5 t5 mc => ?_⟩
    refine neS T (m9.same (t4.trans t5)) mc ⟨_, rfl, ?_⟩
    rw [if_neg (by decide)]
    have t15 := t13.trans (t4.trans t5)
    have mv := mv.same t15
    have g11 := g11.same t15
    have kH := kH.trans (Keep.of t15)
    clear t13 t1 t2 t3 t4 t5 m7 m8 m9 ma mc q1 q1e n1 n2 n3 n4 n5 ms pl1
    obtain ⟨_, pv, dxv, epv, hpv⟩ := id mv
    cases epv
    refine ⟨_, _, hpv, _, A, B, rfl, mv, _, _, hpv, _, A, B, rfl, mv, ?_⟩
    refine make_mv3 (A := A) (B := A) T (by omega) rfl fun x1 M6 n1 t1 m1 => ?_
    have mv := mv.same t1
    refine ⟨mv.isc, _, A, B, rfl, mv, by omega, fun pi M7 n2 t2 mi => ?_⟩
    have mv := mv.same t2
    refine mulS T mv mi (by omega) (by omega) fun x2 M8 n3 t3 m2 => ?_
    have m2 := m2.eq (mul_mid A B A lv lv.symm)
    have mv := mv.same t3
    refine make_mv3 (A := .leaf) (B := .leaf) T (by decide) rfl fun x3 M9 n4 t4 m3 => ?_
    have mv := mv.same t4
    refine ⟨by decide, fun ls nls => ⟨⟨by decide, by decide +kernel⟩, ⟨by decide, by decide +kernel⟩, ?_⟩⟩
    have t5 := (L2.Same.refl M9).new nls (.lst [V.ref x1, .ref x2, .ref x3])
    have f5 : upd M9 ls (.lst [V.ref x1, .ref x2, .ref x3]) ls = some _ := upd_same
    have t15 := t1.trans (t2.trans (t3.trans (t4.trans t5)))
    have sti : ∀ x ∈ ([V.ref x1, .ref x2, .ref x3] : List V), ∃ r X, x = .ref r ∧ Mv T.c_Move (upd M9 ls (.lst [V.ref x1, .ref x2, .ref x3])) (.ref r) X X ∧ X.size ≤ 20 := fun x hx => by
      simp only [List.mem_cons, List.not_mem_nil, or_false] at hx
      rcases hx with rfl | rfl | rfl
      · exact ⟨x1, A, rfl, m1.same (t2.trans (t3.trans (t4.trans t5))), zA⟩
      · exact ⟨x2, A, rfl, m2.same (t4.trans t5), zA⟩
      · exact ⟨x3, .leaf, rfl, m3.same t5, by decide⟩
    have mv := mv.same t5
    have lsg : ls ≠ g := by obtain ⟨o, ho⟩ := (g11.same (t1.trans (t2.trans (t3.trans t4)))).some; exact (ne_of_none ho nls).symm
    have g12 := g11.same t15
    have kH := kH.trans (Keep.of t15)
    generalize upd M9 ls (.lst [V.ref x1, .ref x2, .ref x3]) = M10 at f5 sti mv g12 kH ⊢
    generalize [V.ref x1, V.ref x2, V.ref x3] = LS at f5 sti ⊢
    clear t1 t2 t3 t4 t5 t15 m1 m2 m3 mi n1 n2 n3 n4 nls g11 hpv
    refine ⟨by decide, fun l2 nl2 => ?_⟩
    have v1 := (L2.Same.refl M10).new nl2 (.lst [V.int (10 ^ Int.toNat 30), V.int (10 ^ Int.toNat 60)])
    have w1 : upd M10 l2 (.lst [V.int (10 ^ Int.toNat 30), V.int (10 ^ Int.toNat 60)]) l2 = some _ := upd_same
    have lg2 : l2 ≠ g := by obtain ⟨o, ho⟩ := g12.some; exact (ne_of_none ho nl2).symm
    generalize upd M10 l2 (.lst [V.int (10 ^ Int.toNat 30), V.int (10 ^ Int.toNat 60)]) = M11 at v1 w1 ⊢
    have g12 := g12.same v1
    obtain ⟨gw12, hgw12⟩ := genL g12
    refine ⟨g, 2, _, rfl, g12, by omega, by decide, by decide, fun z2 M12 z20 z21 k12 g13 => ?_⟩
    have w1 := k12 _ _ lg2 w1
    obtain ⟨b, hb, hb1, hb2⟩ : ∃ b : Int, atI [V.int (10 ^ Int.toNat 30), V.int (10 ^ Int.toNat 60)] z2 = some (.int b) ∧ 1 ≤ b ∧ b ≤ 10 ^ 60 := by
      have : z2 = 0 ∨ z2 = 1 := by omega
      rcases this with rfl | rfl
      · exact ⟨_, rfl, by decide +kernel, by decide +kernel⟩
      · exact ⟨_, rfl, by decide +kernel, by decide +kernel⟩
    refine ⟨l2, _, z2, _, rfl, rfl, SqL.of w1, hb, ?_⟩
    obtain ⟨gw13, hgw13⟩ := genL g13
    refine ⟨g, b, _, rfl, g13, by omega, hb1, hb2, fun fa M13 fa0 fa1 k13 g14 => ⟨fa, rfl, ?_⟩⟩
    have f5 := k13 _ _ lsg (k12 _ _ lsg (v1 _ _ f5))
    have sti : ∀ x ∈ LS, ∃ r X, x = .ref r ∧ Mv T.c_Move M13 (.ref r) X X ∧ X.size ≤ 20 := fun x hx => by
      obtain ⟨r, X, e, m, zz⟩ := sti x hx
      exact ⟨r, X, e, ((m.same v1).keep hgw12 k12).keep hgw13 k13, zz⟩
    have mv := ((mv.same v1).keep hgw12 k12).keep hgw13 k13
    have kH := ((kH.trans (Keep.of v1)).trans k12).trans k13
    have sH : Same H M13 := fun b o hb => kH b o (fun z => by rw [z, hg0] at hb; cases hb) hb
    clear v1 w1 k12 k13 hgw12 hgw13 g12 g13 g14 kH hb lg2 nl2
    have far : 1 + fa ≠ 0 := by omega
    have far2 : 0 - (1 + fa) ≠ 0 := by omega
    generalize 1 + fa = fr at far far2 ⊢
    simp only [tLc, cxOf_K, tAsg2, tYes, wipe, tSeq, tIfS, tNot, tB, tCB, tCons, tNil, tVar, tC, tTest, tOp, tAnd, tOr, tAsg, gName, tRet, tRetN, tDrop, tNext, tIf, tCall, tTup, tLst, tNotV, tAndV, tOrV, tUn, rI0, rI, rU, rEq, rNe, tM1, tM0, tBM, tBM0, tSl, tPart, tNoPart, iStr, iEnumS, iRng1, iRng2, iList, gSub, tBits, tAug, tPar, L2.start, List.map_cons, List.map_nil, List.length_cons, List.length_nil, List.getElem?_cons_zero, List.getElem?_cons_succ, List.cons_append, List.nil_append, List.append_nil, List.set_cons_zero, List.set_cons_succ, List.replicate_succ, List.replicate_zero, Option.some.injEq, exists_eq_left', V.int.injEq, V.str.injEq, V.ref.injEq, V.bl.injEq, exists_and_left, exists_eq_left, List.cons.injEq, and_true, true_and, tCallX, tRs, tProp, OW.tSMeth, OW.tCallI, Nat.sub_self, List.replicate_zero, tFld, sFld, sFldAug, tDGet, tDIn, tDNotIn, sDPut, tMeth, tMake, tDNewK]
    refine ⟨⟨_, SqL.of f5⟩, fun D1 nD1 => ?_⟩
    refine TD.lco_list (K := K) (a := ls) (xs := LS) (fun j H' => Same M13 H' ∧ H' D1 = some (.lst [])) ⟨(L2.Same.refl M13).new nD1 _, upd_same⟩ (fun j H' _ z => SqL.of (z.1 _ _ f5)) ?_ ?_
    · rintro j x N0 hj ⟨s0, hd⟩
      obtain ⟨r, X, rfl, mX, zX⟩ := sti x (List.mem_of_getElem? hj)
      have mX := mX.same s0
      simp only [cxOf_K, tAsg2, tYes, wipe, tSeq, tIfS, tNot, tB, tCB, tCons, tNil, tVar, tC, tTest, tOp, tAnd, tOr, tAsg, gName, tRet, tRetN, tDrop, tNext, tIf, tCall, tTup, tLst, tNotV, tAndV, tOrV, tUn, rI0, rI, rU, rEq, rNe, tM1, tM0, tBM, tBM0, tSl, tPart, tNoPart, iStr, iEnumS, iRng1, iRng2, iList, gSub, tBits, tAug, tPar, L2.start, List.map_cons, List.map_nil, List.length_cons, List.length_nil, List.getElem?_cons_zero, List.getElem?_cons_succ, List.cons_append, List.nil_append, List.append_nil, List.set_cons_zero, List.set_cons_succ, List.replicate_succ, List.replicate_zero, Option.some.injEq, exists_eq_left', V.int.injEq, V.str.injEq, V.ref.injEq, V.bl.injEq, exists_and_left, exists_eq_left, List.cons.injEq, and_true, true_and, tCallX, tRs, tProp, OW.tSMeth, OW.tCallI, Nat.sub_self, List.replicate_zero, tFld, sFld, sFldAug, tDGet, tDIn, tDNotIn, sDPut, tMeth, tMake, tDNewK]
      refine timQ T mX (by omega) (.inl rfl) fun p7 N1 n1 t1 m7 => ?_
      have m7 := m7.eq (pwT_still X far)
      refine neS T m7 (mX.same t1) ⟨_, rfl, ?_⟩
      rw [if_neg (by decide)]
      refine timQ T (mX.same t1) (by omega) (.inl rfl) fun p8 N2 n2 t2 m8 => ?_
      have m8 := m8.eq (pwT_still X far2)
      refine neS T m8 (mX.same (t1.trans t2)) ⟨_, rfl, ?_⟩
      rw [if_neg (by decide)]
      exact ⟨s0.trans (t1.trans t2), t2 _ _ (t1 _ _ hd)⟩
    rintro N0 ⟨s0, hd5⟩
    refine ⟨by decide, fun pn npn => ?_⟩
    have s6 := (L2.Same.refl N0).new npn (.lst [])
    have e0 : PyData.eqv (.list []) (.list []) = true := by simp [PyData.eqv, PyData.eqvAll]
    refine ⟨.list [], .list [], .lst (SqL.of (s6 _ _ hd5)) .nil, .lst (SqL.of upd_same) .nil, by decide +kernel, by decide +kernel, ?_⟩
    rw [e0]
    refine ⟨_, rfl, ?_⟩
    rw [if_neg (by decide)]
    have s06 := s0.trans s6
    have mv := mv.same s06
    have sH := sH.trans s06
    generalize upd N0 pn (.lst []) = N1 at mv sH ⊢
    clear s0 s6 s06 hd5 npn nD1 sti f5
    refine for_ev (fun q6 J6 => Same N1 J6 ∧ ∃ L : List V, J6 q6 = some (.lst L) ∧ ∀ x ∈ L, NotWhole K J6 x ∧ ∃ z, Shown T J6 x z) (fun R hR => ?_) ?_
    · simp only [cxOf_K, tAsg2, tYes, wipe, tSeq, tIfS, tNot, tB, tCB, tCons, tNil, tVar, tC, tTest, tOp, tAnd, tOr, tAsg, gName, tRet, tRetN, tDrop, tNext, tIf, tCall, tTup, tLst, tNotV, tAndV, tOrV, tUn, rI0, rI, rU, rEq, rNe, tM1, tM0, tBM, tBM0, tSl, tPart, tNoPart, iStr, iEnumS, iRng1, iRng2, iList, gSub, tBits, tAug, tPar, L2.start, List.map_cons, List.map_nil, List.length_cons, List.length_nil, List.getElem?_cons_zero, List.getElem?_cons_succ, List.cons_append, List.nil_append, List.append_nil, List.set_cons_zero, List.set_cons_succ, List.replicate_succ, List.replicate_zero, Option.some.injEq, exists_eq_left', V.int.injEq, V.str.injEq, V.ref.injEq, V.bl.injEq, exists_and_left, exists_eq_left, List.cons.injEq, and_true, true_and, tCallX, tRs, tProp, OW.tSMeth, OW.tCallI, Nat.sub_self, List.replicate_zero, tFld, sFld, sFldAug, tDGet, tDIn, tDNotIn, sDPut, tMeth, tMake, tDNewK]
      refine ⟨by decide, fun r1 nr1 => ?_⟩
      have u1' := (L2.Same.refl N1).new nr1 (.lst [V.int 1])
      have f1 : upd N1 r1 (.lst [V.int 1]) r1 = some _ := upd_same
      generalize upd N1 r1 (.lst [V.int 1]) = N2 at u1' f1 ⊢
      refine ⟨by decide, fun r2 nr2 => ?_⟩
      have u2' := (L2.Same.refl N2).new nr2 (.tup [V.int 1])
      have f2 : upd N2 r2 (.tup [V.int 1]) r2 = some _ := upd_same
      generalize upd N2 r2 (.tup [V.int 1]) = N3 at u2' f2 ⊢
      refine fun r3 nr3 => ?_
      have u3' := (L2.Same.refl N3).new nr3 (.dK [])
      have f3 : upd N3 r3 (.dK []) r3 = some _ := upd_same
      generalize upd N3 r3 (.dK []) = N4 at u3' f3 ⊢
      refine ⟨Nat.le_of_ble_eq_true rfl, fun r4 nr4 => ?_⟩
      have u4' := (L2.Same.refl N4).new nr4 (.lst [V.non, .bl true, .bl false, .str (Str.ofString "1"), .ref r1, .ref r2, .ref r3, .ref pm])
      have f4 : upd N4 r4 (.lst [V.non, .bl true, .bl false, .str (Str.ofString "1"), .ref r1, .ref r2, .ref r3, .ref pm]) r4 = some _ := upd_same
      generalize upd N4 r4 (.lst [V.non, .bl true, .bl false, .str (Str.ofString "1"), .ref r1, .ref r2, .ref r3, .ref pm]) = N5 at u4' f4 ⊢
      have f1 := u4' _ _ (u3' _ _ (u2' _ _ f1))
      have f2 := u4' _ _ (u3' _ _ f2)
      have f3 := u4' _ _ f3
      have u04 := u1'.trans (u2'.trans (u3'.trans u4'))
      have mv := mv.same u04
      obtain ⟨_, pv, dxv, epv, hpv⟩ := id mv
      cases epv
      refine hR r4 N5 ⟨u04, _, f4, fun x hx => ?_⟩
      simp only [List.mem_cons, List.not_mem_nil, or_false] at hx
      rcases hx with rfl | rfl | rfl | rfl | rfl | rfl | rfl | rfl
      · exact ⟨.inr ⟨_, .base .non, kit_ty (by decide +kernel)⟩, _, .inl ⟨_, goodNon, rfl⟩⟩
      · exact ⟨.inl ⟨true, rfl⟩, _, .inl ⟨_, goodBl true, rfl⟩⟩
      · exact ⟨.inl ⟨false, rfl⟩, _, .inl ⟨_, goodBl false, rfl⟩⟩
      · exact ⟨.inr ⟨_, .base (.str _), kit_ty (by decide +kernel)⟩, _, .inl ⟨_, goodStr1 _ (by decide +kernel) (by decide +kernel), rfl⟩⟩
      · exact ⟨.inr ⟨_, .base (.lst f1), kit_ty (by decide +kernel)⟩, _, .inl ⟨.list [.int 1], ⟨.lst (fun z => by cases z) f1 (.cons (.int 1) .nil), by decide +kernel, by decide +kernel, by decide +kernel, by decide +kernel⟩, rfl⟩⟩
      · exact ⟨.inr ⟨_, .base (.tup f2), kit_ty (by decide +kernel)⟩, _, .inl ⟨.tuple [.int 1], ⟨.tup f2 (.cons (.int 1) .nil), by decide +kernel, by decide +kernel, by decide +kernel, by decide +kernel⟩, rfl⟩⟩
      · exact ⟨.inr ⟨_, .base (.dK f3), kit_ty (by decide +kernel)⟩, _, .inl ⟨_, goodDict f3, rfl⟩⟩
      · exact ⟨.inr ⟨_, OW.tyOf hpv T.l_Move T.y_Move, T.ktint_Move⟩, _, .inr ⟨A, B, mv, by omega, rfl⟩⟩
    rintro q6 J6 ⟨u06, L2', f6, bad⟩
    have mv := mv.same u06
    have sH := sH.trans u06
    clear u06
    refine ⟨⟨_, SqL.of f6⟩, for_list (K := K) (a := q6) (xs := L2') (fun k σ H' => ∃ b14, σ = [some (.ref a), some (.int (i : Nat)), some (.ref g), some (.ref pm), some (.int u1), some (.int u2), b6, b7, some (.ref pb), some (.ref ps), some (.int lg), some (.ref ls), some (.int fr), a13, b14] ∧ Same J6 H')
      ⟨a14, rfl, L2.Same.refl J6⟩ (fun k σ H' _ ⟨_, _, z⟩ => SqL.of (z _ _ f6)) ?_ ?_⟩
    · rintro k x σ L0 hk ⟨b14, rfl, s0⟩
      obtain ⟨nw, z, sh⟩ := bad x (List.mem_of_getElem? hk)
      simp only [gName, cxOf_K, tAsg2, tYes, wipe, tSeq, tIfS, tNot, tB, tCB, tCons, tNil, tVar, tC, tTest, tOp, tAnd, tOr, tAsg, gName, tRet, tRetN, tDrop, tNext, tIf, tCall, tTup, tLst, tNotV, tAndV, tOrV, tUn, rI0, rI, rU, rEq, rNe, tM1, tM0, tBM, tBM0, tSl, tPart, tNoPart, iStr, iEnumS, iRng1, iRng2, iList, gSub, tBits, tAug, tPar, L2.start, List.map_cons, List.map_nil, List.length_cons, List.length_nil, List.getElem?_cons_zero, List.getElem?_cons_succ, List.cons_append, List.nil_append, List.append_nil, List.set_cons_zero, List.set_cons_succ, List.replicate_succ, List.replicate_zero, Option.some.injEq, exists_eq_left', V.int.injEq, V.str.injEq, V.ref.injEq, V.bl.injEq, exists_and_left, exists_eq_left, List.cons.injEq, and_true, true_and, tCallX, tRs, tProp, OW.tSMeth, OW.tCallI, Nat.sub_self, List.replicate_zero, tFld, sFld, sFldAug, tDGet, tDIn, tDNotIn, sDPut, tMeth, tMake, tDNewK]
      refine ⟨_, x, A, B, z, rfl, mv.same s0, by omega, nw.same s0, sh.same s0, fun H' s' => ⟨_, rfl, ?_⟩⟩
      rw [if_neg (by decide)]
      exact s0.trans s'
    rintro σ L0 ⟨b14, rfl, s0⟩
    exact ⟨_, rfl, rfl, sH.trans s0⟩
  · rintro σ H1 ⟨τ, rfl, tl, s1⟩
    match τ, tl with
    | [a1, a2, a3, a4, a5, a6, a7, a8, a9, a10, a11, a12, a13, a14], _ =>
    simp only [cxOf_K, tAsg2, tYes, wipe, tSeq, tIfS, tNot, tB, tCB, tCons, tNil, tVar, tC, tTest, tOp, tAnd, tOr, tAsg, gName, tRet, tRetN, tDrop, tNext, tIf, tCall, tTup, tLst, tNotV, tAndV, tOrV, tUn, rI0, rI, rU, rEq, rNe, tM1, tM0, tBM, tBM0, tSl, tPart, tNoPart, iStr, iEnumS, iRng1, iRng2, iList, gSub, tBits, tAug, tPar, L2.start, List.map_cons, List.map_nil, List.length_cons, List.length_nil, List.getElem?_cons_zero, List.getElem?_cons_succ, List.cons_append, List.nil_append, List.append_nil, List.set_cons_zero, List.set_cons_succ, List.replicate_succ, List.replicate_zero, Option.some.injEq, exists_eq_left', V.int.injEq, V.str.injEq, V.ref.injEq, V.bl.injEq, exists_and_left, exists_eq_left, List.cons.injEq, and_true, true_and, tCallX, tRs, tProp, OW.tSMeth, OW.tCallI, Nat.sub_self, List.replicate_zero, tFld, sFld, sFldAug, tDGet, tDIn, tDNotIn, sDPut, tMeth, tMake, tDNewK]
    refine ⟨a, ns, 9, rfl, s1.seq ha, fun g H2 hg s2 g2 => ?_⟩
    exact ⟨g, _, rfl, g2, by decide, fun H3 k3 => q H3⟩

/-! ### what the classes must say -/
section
variable {K : PySem.W.Frag} {mg : Str → Option Value} {h : Heap} {C : Addr} {bm : List Value} {nm q : Str} {N : Addr} {bs : List Value} {sn : List Str} {sub : List Value} {ab : Bool} {col : Option Bool} {dd : Option Addr} {k0 k1 k2 k3 k5 : Option Value}
theorem cls_mk (l : K.lookup C = some (excClassObj nm q C N bs bm true sn sub ab col dd k0 k1 k2 k3 k5 "ValueError.__new__")) (r : PySem.HandSPX.refsVE bm = true) (ga : PySem.W.findIn K (.ref C) "__getattribute__" = some (some (.builtin "BaseException.__getattribute__"))) (gg : PySem.W.findIn K (.ref C) "__getattr__" = some none)
    (ha : PySem.W.findIn K (.ref C) "__class__" = some (some (.builtin "object.__class__"))) (hn : PySem.W.specialIn K (.builtin "object.__class__") "__get__" = some (some (.builtin "getset_descriptor.__get__"))) (ht : PySem.W.takesIn K (.builtin "object.__class__") = some true) :
    ErrC K C (.ref C :: bm) ∧ XfC K C := by
  have c : PySem.W.clsIn K C = some { name := nm, bases := bs, mro := .ref C :: bm, ns := N, qualname := q, hasDict := true, slotNames := sn, subclasses := sub, abstract := ab, collection := col, hasDel := false } := by unfold PySem.W.clsIn; rw [l] <;> rfl
  have sub : ∀ Y : String, PySem.HandSPX.veTail.contains (.type Y) = true → PySem.W.mroIn K C (.type Y) = some true := fun Y z => by
    unfold PySem.W.mroIn
    rw [c, Option.bind_some, List.contains_cons, PySem.HandSPX.refsVE_contains Y bm r, z, Bool.or_true]
    rfl
  have hd : PySem.W.hasDictIn K C = true := by unfold PySem.W.hasDictIn; rw [c]; rfl
  have sb : PySem.W.subIn K (.ref C) (.type "BaseException") = some true := sub "BaseException" (by decide +kernel)
  have ty : PySem.W.typeIn K (.ref C) = some (.type "type") := by show (K.lookup C).map (·.cls) = _; rw [l] <;> rfl
  exact ⟨⟨by rw [c]; rfl, ty, ⟨ga, gg, sb, hd, ha, hn, ht, sub "object" (by decide +kernel)⟩⟩, ⟨ga, gg, sb, hd⟩⟩
theorem oex_mk (l : K.lookup C = some (excClassObj nm q C N bs bm true sn sub ab col dd k0 k1 k2 k3 k5 "ValueError.__new__")) (r : PySem.HandSPX.refsVE bm = true) (sa : PySem.W.findIn K (.ref C) "__setattr__" = some (some (.builtin "object.__setattr__"))) (kC : PySem.W.keepIn K (.ref C) = true)
    (e : ErrC K C (.ref C :: bm)) : OexC K C := ⟨⟨_, _, _, _, _, _, _, _, _, _, _, _, _, _, _, l, r⟩, sa, e.ec.hs, e.ty, kC⟩
variable {st : Stmt} {fI TT0 : Addr} {od td : Option Addr} {kV doc pm cdv ct tc : Value} {an : Option Addr} {osl ts : Array (Option Value)} {n : Nat} {qual : Str}
theorem fund_mk (l : K.lookup fI = some ⟨.type "function", od, .func (PySem.W.fnOf "__init__" qual (defArgs st) (defBody st) (defScope st) (.ref TT0) kV doc pm an cdv ct), osl⟩) (c : PySem.W.codeIn K cdv qual = true) (lT : K.lookup TT0 = some ⟨tc, td, .seq #[.none] n, ts⟩) :
    FunD K "__init__" qual (defArgs st) (defBody st) (defScope st) [.non] [] fI (PySem.W.fnOf "__init__" qual (defArgs st) (defBody st) (defScope st) (.ref TT0) kV doc pm an cdv ct) :=
  ⟨⟨_, od, _, kV, doc, pm, an, cdv, ct, osl, rfl, l, c, .inr ⟨by simp, TT0, _, [.none], n, rfl, lT, rfl, .cons rfl .nil⟩, .inl rfl⟩, by unfold PySem.W.keepIn; dsimp only; rw [l] <;> rfl⟩
theorem fty (l : K.lookup fI = some ⟨.type "function", od, .func (PySem.W.fnOf "__init__" qual (defArgs st) (defBody st) (defScope st) (.ref TT0) kV doc pm an cdv ct), osl⟩) : PySem.W.typeIn K (.ref fI) = some (.type "function") := by
  show (K.lookup fI).map (·.cls) = _
  rw [l] <;> rfl
end

theorem own_InvalidTree {h : Heap} {C fI : Addr} {fd : FuncData} (X : K.In h) (G : h.Ns mainGlobals mg) (m : PySem.W.nsIn K mainGlobals "InvalidTree" = some (some (.ref C))) (ox : OexC K C) (no : PySem.W.findIn K (.ref C) "value" = some none)
    (iC : PySem.W.findIn K (.ref C) "__init__" = some (some (.ref fI))) (tI : PySem.W.typeIn K (.ref fI) = some (.type "function")) (F : FunD K "__init__" "InvalidTree.__init__" (defArgs i_InvalidTree) (defBody i_InvalidTree) (defScope i_InvalidTree) [.non] [] fI fd) : OwnE K mg "InvalidTree" C "value" "value" := by
  refine ⟨PySem.W.mg_of X G m, ox, fI, fd, iC, tI, F.binds1 1 0 (by simp) rfl (fun _ _ _ _ _ _ _ us its h1 h2 => match us, its, h1, h2 with | [_], [_], _, _ => ⟨_, rfl, rfl⟩), ?_, kbinds1 F (by simp) (fun _ _ _ _ _ _ _ us its ws h1 h2 h3 => match us, its, ws, h1, h2, h3 with | [_], [_], [_], _, _, _ => ⟨_, rfl, rfl⟩), fun P w base => ?_⟩
  · obtain ⟨ds, hd, b⟩ := F.binds1 (ps := ["self", "value"]) 2 1 (by simp) rfl (fun _ _ _ _ _ _ _ us its h1 h2 => match us, its, h1, h2 with | [_, _], [_], _, _ => ⟨_, rfl, rfl⟩)
    cases hd
    exact b
  · refine FunD.ok F si_InvalidTree (fun vs H Q E h => ?_) (fun cdv A outer s H vs Q E hr h => ?_)
    · obtain ⟨a, y, rfl, _⟩ := h; rfl
    obtain ⟨a, y, rfl, ha, q⟩ := h
    refine ⟨_, pss_one (ps_ost (pv 0) (pv 1)), ?_⟩
    simp only [tOst, cxOf_K, tAsg2, tYes, wipe, tSeq, tIfS, tNot, tB, tCB, tCons, tNil, tVar, tC, tTest, tOp, tAnd, tOr, tAsg, gName, tRet, tRetN, tDrop, tNext, tIf, tCall, tTup, tLst, tNotV, tAndV, tOrV, tUn, rI0, rI, rU, rEq, rNe, tM1, tM0, tBM, tBM0, tSl, tPart, tNoPart, iStr, iEnumS, iRng1, iRng2, iList, gSub, tBits, tAug, tPar, L2.start, List.map_cons, List.map_nil, List.length_cons, List.length_nil, List.getElem?_cons_zero, List.getElem?_cons_succ, List.cons_append, List.nil_append, List.append_nil, List.set_cons_zero, List.set_cons_succ, List.replicate_succ, List.replicate_zero, Option.some.injEq, exists_eq_left', V.int.injEq, V.str.injEq, V.ref.injEq, V.bl.injEq, exists_and_left, exists_eq_left, List.cons.injEq, and_true, true_and]
    exact ⟨C, ox, no, .inl ⟨ha, q⟩⟩

theorem own_InvalidNumber {h : Heap} {C fI : Addr} {fd : FuncData} (X : K.In h) (G : h.Ns mainGlobals mg) (m : PySem.W.nsIn K mainGlobals "InvalidNumber" = some (some (.ref C))) (ox : OexC K C) (no : PySem.W.findIn K (.ref C) "value" = some none)
    (iC : PySem.W.findIn K (.ref C) "__init__" = some (some (.ref fI))) (tI : PySem.W.typeIn K (.ref fI) = some (.type "function")) (F : FunD K "__init__" "InvalidNumber.__init__" (defArgs i_InvalidNumber) (defBody i_InvalidNumber) (defScope i_InvalidNumber) [.non] [] fI fd) : OwnE K mg "InvalidNumber" C "value" "value" := by
  refine ⟨PySem.W.mg_of X G m, ox, fI, fd, iC, tI, F.binds1 1 0 (by simp) rfl (fun _ _ _ _ _ _ _ us its h1 h2 => match us, its, h1, h2 with | [_], [_], _, _ => ⟨_, rfl, rfl⟩), ?_, kbinds1 F (by simp) (fun _ _ _ _ _ _ _ us its ws h1 h2 h3 => match us, its, ws, h1, h2, h3 with | [_], [_], [_], _, _, _ => ⟨_, rfl, rfl⟩), fun P w base => ?_⟩
  · obtain ⟨ds, hd, b⟩ := F.binds1 (ps := ["self", "value"]) 2 1 (by simp) rfl (fun _ _ _ _ _ _ _ us its h1 h2 => match us, its, h1, h2 with | [_, _], [_], _, _ => ⟨_, rfl, rfl⟩)
    cases hd
    exact b
  · refine FunD.ok F si_InvalidNumber (fun vs H Q E h => ?_) (fun cdv A outer s H vs Q E hr h => ?_)
    · obtain ⟨a, y, rfl, _⟩ := h; rfl
    obtain ⟨a, y, rfl, ha, q⟩ := h
    refine ⟨_, pss_one (ps_ost (pv 0) (pv 1)), ?_⟩
    simp only [tOst, cxOf_K, tAsg2, tYes, wipe, tSeq, tIfS, tNot, tB, tCB, tCons, tNil, tVar, tC, tTest, tOp, tAnd, tOr, tAsg, gName, tRet, tRetN, tDrop, tNext, tIf, tCall, tTup, tLst, tNotV, tAndV, tOrV, tUn, rI0, rI, rU, rEq, rNe, tM1, tM0, tBM, tBM0, tSl, tPart, tNoPart, iStr, iEnumS, iRng1, iRng2, iList, gSub, tBits, tAug, tPar, L2.start, List.map_cons, List.map_nil, List.length_cons, List.length_nil, List.getElem?_cons_zero, List.getElem?_cons_succ, List.cons_append, List.nil_append, List.append_nil, List.set_cons_zero, List.set_cons_succ, List.replicate_succ, List.replicate_zero, Option.some.injEq, exists_eq_left', V.int.injEq, V.str.injEq, V.ref.injEq, V.bl.injEq, exists_and_left, exists_eq_left, List.cons.injEq, and_true, true_and]
    exact ⟨C, ox, no, .inl ⟨ha, q⟩⟩

theorem own_InvalidList {h : Heap} {C fI : Addr} {fd : FuncData} (X : K.In h) (G : h.Ns mainGlobals mg) (m : PySem.W.nsIn K mainGlobals "InvalidList" = some (some (.ref C))) (ox : OexC K C) (no : PySem.W.findIn K (.ref C) "value" = some none)
    (iC : PySem.W.findIn K (.ref C) "__init__" = some (some (.ref fI))) (tI : PySem.W.typeIn K (.ref fI) = some (.type "function")) (F : FunD K "__init__" "InvalidList.__init__" (defArgs i_InvalidList) (defBody i_InvalidList) (defScope i_InvalidList) [.non] [] fI fd) : OwnE K mg "InvalidList" C "value" "value" := by
  refine ⟨PySem.W.mg_of X G m, ox, fI, fd, iC, tI, F.binds1 1 0 (by simp) rfl (fun _ _ _ _ _ _ _ us its h1 h2 => match us, its, h1, h2 with | [_], [_], _, _ => ⟨_, rfl, rfl⟩), ?_, kbinds1 F (by simp) (fun _ _ _ _ _ _ _ us its ws h1 h2 h3 => match us, its, ws, h1, h2, h3 with | [_], [_], [_], _, _, _ => ⟨_, rfl, rfl⟩), fun P w base => ?_⟩
  · obtain ⟨ds, hd, b⟩ := F.binds1 (ps := ["self", "value"]) 2 1 (by simp) rfl (fun _ _ _ _ _ _ _ us its h1 h2 => match us, its, h1, h2 with | [_, _], [_], _, _ => ⟨_, rfl, rfl⟩)
    cases hd
    exact b
  · refine FunD.ok F si_InvalidList (fun vs H Q E h => ?_) (fun cdv A outer s H vs Q E hr h => ?_)
    · obtain ⟨a, y, rfl, _⟩ := h; rfl
    obtain ⟨a, y, rfl, ha, q⟩ := h
    refine ⟨_, pss_one (ps_ost (pv 0) (pv 1)), ?_⟩
    simp only [tOst, cxOf_K, tAsg2, tYes, wipe, tSeq, tIfS, tNot, tB, tCB, tCons, tNil, tVar, tC, tTest, tOp, tAnd, tOr, tAsg, gName, tRet, tRetN, tDrop, tNext, tIf, tCall, tTup, tLst, tNotV, tAndV, tOrV, tUn, rI0, rI, rU, rEq, rNe, tM1, tM0, tBM, tBM0, tSl, tPart, tNoPart, iStr, iEnumS, iRng1, iRng2, iList, gSub, tBits, tAug, tPar, L2.start, List.map_cons, List.map_nil, List.length_cons, List.length_nil, List.getElem?_cons_zero, List.getElem?_cons_succ, List.cons_append, List.nil_append, List.append_nil, List.set_cons_zero, List.set_cons_succ, List.replicate_succ, List.replicate_zero, Option.some.injEq, exists_eq_left', V.int.injEq, V.str.injEq, V.ref.injEq, V.bl.injEq, exists_and_left, exists_eq_left, List.cons.injEq, and_true, true_and]
    exact ⟨C, ox, no, .inl ⟨ha, q⟩⟩

theorem own_InvalidScript {h : Heap} {C fI : Addr} {fd : FuncData} (X : K.In h) (G : h.Ns mainGlobals mg) (m : PySem.W.nsIn K mainGlobals "InvalidScript" = some (some (.ref C))) (ox : OexC K C) (no : PySem.W.findIn K (.ref C) "value" = some none)
    (iC : PySem.W.findIn K (.ref C) "__init__" = some (some (.ref fI))) (tI : PySem.W.typeIn K (.ref fI) = some (.type "function")) (F : FunD K "__init__" "InvalidScript.__init__" (defArgs i_InvalidScript) (defBody i_InvalidScript) (defScope i_InvalidScript) [.non] [] fI fd) : OwnE K mg "InvalidScript" C "value" "value" := by
  refine ⟨PySem.W.mg_of X G m, ox, fI, fd, iC, tI, F.binds1 1 0 (by simp) rfl (fun _ _ _ _ _ _ _ us its h1 h2 => match us, its, h1, h2 with | [_], [_], _, _ => ⟨_, rfl, rfl⟩), ?_, kbinds1 F (by simp) (fun _ _ _ _ _ _ _ us its ws h1 h2 h3 => match us, its, ws, h1, h2, h3 with | [_], [_], [_], _, _, _ => ⟨_, rfl, rfl⟩), fun P w base => ?_⟩
  · obtain ⟨ds, hd, b⟩ := F.binds1 (ps := ["self", "value"]) 2 1 (by simp) rfl (fun _ _ _ _ _ _ _ us its h1 h2 => match us, its, h1, h2 with | [_, _], [_], _, _ => ⟨_, rfl, rfl⟩)
    cases hd
    exact b
  · refine FunD.ok F si_InvalidScript (fun vs H Q E h => ?_) (fun cdv A outer s H vs Q E hr h => ?_)
    · obtain ⟨a, y, rfl, _⟩ := h; rfl
    obtain ⟨a, y, rfl, ha, q⟩ := h
    refine ⟨_, pss_one (ps_ost (pv 0) (pv 1)), ?_⟩
    simp only [tOst, cxOf_K, tAsg2, tYes, wipe, tSeq, tIfS, tNot, tB, tCB, tCons, tNil, tVar, tC, tTest, tOp, tAnd, tOr, tAsg, gName, tRet, tRetN, tDrop, tNext, tIf, tCall, tTup, tLst, tNotV, tAndV, tOrV, tUn, rI0, rI, rU, rEq, rNe, tM1, tM0, tBM, tBM0, tSl, tPart, tNoPart, iStr, iEnumS, iRng1, iRng2, iList, gSub, tBits, tAug, tPar, L2.start, List.map_cons, List.map_nil, List.length_cons, List.length_nil, List.getElem?_cons_zero, List.getElem?_cons_succ, List.cons_append, List.nil_append, List.append_nil, List.set_cons_zero, List.set_cons_succ, List.replicate_succ, List.replicate_zero, Option.some.injEq, exists_eq_left', V.int.injEq, V.str.injEq, V.ref.injEq, V.bl.injEq, exists_and_left, exists_eq_left, List.cons.injEq, and_true, true_and]
    exact ⟨C, ox, no, .inl ⟨ha, q⟩⟩

theorem own_InvalidMove {h : Heap} {C fI : Addr} {fd : FuncData} (X : K.In h) (G : h.Ns mainGlobals mg) (m : PySem.W.nsIn K mainGlobals "InvalidMove" = some (some (.ref C))) (ox : OexC K C) (no : PySem.W.findIn K (.ref C) "value" = some none)
    (iC : PySem.W.findIn K (.ref C) "__init__" = some (some (.ref fI))) (tI : PySem.W.typeIn K (.ref fI) = some (.type "function")) (F : FunD K "__init__" "InvalidMove.__init__" (defArgs i_InvalidMove) (defBody i_InvalidMove) (defScope i_InvalidMove) [.non] [] fI fd) : OwnE K mg "InvalidMove" C "value" "value" := by
  refine ⟨PySem.W.mg_of X G m, ox, fI, fd, iC, tI, F.binds1 1 0 (by simp) rfl (fun _ _ _ _ _ _ _ us its h1 h2 => match us, its, h1, h2 with | [_], [_], _, _ => ⟨_, rfl, rfl⟩), ?_, kbinds1 F (by simp) (fun _ _ _ _ _ _ _ us its ws h1 h2 h3 => match us, its, ws, h1, h2, h3 with | [_], [_], [_], _, _, _ => ⟨_, rfl, rfl⟩), fun P w base => ?_⟩
  · obtain ⟨ds, hd, b⟩ := F.binds1 (ps := ["self", "value"]) 2 1 (by simp) rfl (fun _ _ _ _ _ _ _ us its h1 h2 => match us, its, h1, h2 with | [_, _], [_], _, _ => ⟨_, rfl, rfl⟩)
    cases hd
    exact b
  · refine FunD.ok F si_InvalidMove (fun vs H Q E h => ?_) (fun cdv A outer s H vs Q E hr h => ?_)
    · obtain ⟨a, y, rfl, _⟩ := h; rfl
    obtain ⟨a, y, rfl, ha, q⟩ := h
    refine ⟨_, pss_one (ps_ost (pv 0) (pv 1)), ?_⟩
    simp only [tOst, cxOf_K, tAsg2, tYes, wipe, tSeq, tIfS, tNot, tB, tCB, tCons, tNil, tVar, tC, tTest, tOp, tAnd, tOr, tAsg, gName, tRet, tRetN, tDrop, tNext, tIf, tCall, tTup, tLst, tNotV, tAndV, tOrV, tUn, rI0, rI, rU, rEq, rNe, tM1, tM0, tBM, tBM0, tSl, tPart, tNoPart, iStr, iEnumS, iRng1, iRng2, iList, gSub, tBits, tAug, tPar, L2.start, List.map_cons, List.map_nil, List.length_cons, List.length_nil, List.getElem?_cons_zero, List.getElem?_cons_succ, List.cons_append, List.nil_append, List.append_nil, List.set_cons_zero, List.set_cons_succ, List.replicate_succ, List.replicate_zero, Option.some.injEq, exists_eq_left', V.int.injEq, V.str.injEq, V.ref.injEq, V.bl.injEq, exists_and_left, exists_eq_left, List.cons.injEq, and_true, true_and]
    exact ⟨C, ox, no, .inl ⟨ha, q⟩⟩

theorem own_CannotMove {h : Heap} {C fI : Addr} {fd : FuncData} (X : K.In h) (G : h.Ns mainGlobals mg) (m : PySem.W.nsIn K mainGlobals "CannotMove" = some (some (.ref C))) (ox : OexC K C) (no : PySem.W.findIn K (.ref C) "value" = some none)
    (iC : PySem.W.findIn K (.ref C) "__init__" = some (some (.ref fI))) (tI : PySem.W.typeIn K (.ref fI) = some (.type "function")) (F : FunD K "__init__" "CannotMove.__init__" (defArgs i_CannotMove) (defBody i_CannotMove) (defScope i_CannotMove) [.non] [] fI fd) : OwnE K mg "CannotMove" C "value" "value" := by
  refine ⟨PySem.W.mg_of X G m, ox, fI, fd, iC, tI, F.binds1 1 0 (by simp) rfl (fun _ _ _ _ _ _ _ us its h1 h2 => match us, its, h1, h2 with | [_], [_], _, _ => ⟨_, rfl, rfl⟩), ?_, kbinds1 F (by simp) (fun _ _ _ _ _ _ _ us its ws h1 h2 h3 => match us, its, ws, h1, h2, h3 with | [_], [_], [_], _, _, _ => ⟨_, rfl, rfl⟩), fun P w base => ?_⟩
  · obtain ⟨ds, hd, b⟩ := F.binds1 (ps := ["self", "value"]) 2 1 (by simp) rfl (fun _ _ _ _ _ _ _ us its h1 h2 => match us, its, h1, h2 with | [_, _], [_], _, _ => ⟨_, rfl, rfl⟩)
    cases hd
    exact b
  · refine FunD.ok F si_CannotMove (fun vs H Q E h => ?_) (fun cdv A outer s H vs Q E hr h => ?_)
    · obtain ⟨a, y, rfl, _⟩ := h; rfl
    obtain ⟨a, y, rfl, ha, q⟩ := h
    refine ⟨_, pss_one (ps_ost (pv 0) (pv 1)), ?_⟩
    simp only [tOst, cxOf_K, tAsg2, tYes, wipe, tSeq, tIfS, tNot, tB, tCB, tCons, tNil, tVar, tC, tTest, tOp, tAnd, tOr, tAsg, gName, tRet, tRetN, tDrop, tNext, tIf, tCall, tTup, tLst, tNotV, tAndV, tOrV, tUn, rI0, rI, rU, rEq, rNe, tM1, tM0, tBM, tBM0, tSl, tPart, tNoPart, iStr, iEnumS, iRng1, iRng2, iList, gSub, tBits, tAug, tPar, L2.start, List.map_cons, List.map_nil, List.length_cons, List.length_nil, List.getElem?_cons_zero, List.getElem?_cons_succ, List.cons_append, List.nil_append, List.append_nil, List.set_cons_zero, List.set_cons_succ, List.replicate_succ, List.replicate_zero, Option.some.injEq, exists_eq_left', V.int.injEq, V.str.injEq, V.ref.injEq, V.bl.injEq, exists_and_left, exists_eq_left, List.cons.injEq, and_true, true_and]
    exact ⟨C, ox, no, .inl ⟨ha, q⟩⟩

end
theorem all_mk {l : PySem.W.OpenLaw} {w : World} {K : PySem.W.Frag} {h : Heap} {mg : Str → Option Value} {fa : Addr} (X : K.In h) (G : h.Ns mainGlobals mg) (hfa : mg "law" = some (.ref fa))
    (hn : PySem.W.specialIn K (.builtin "object.__class__") "__get__" = some (some (.builtin "getset_descriptor.__get__"))) (ht : PySem.W.takesIn K (.builtin "object.__class__") = some true)
    {C_TurnError : Addr}
    {nm_TurnError q_TurnError : Str} {N_TurnError : Addr} {bs_TurnError : List Value} {sn_TurnError : List Str} {sub_TurnError : List Value} {ab_TurnError : Bool} {col_TurnError : Option Bool} {dd_TurnError : Option Addr} {k0_TurnError k1_TurnError k2_TurnError k3_TurnError k5_TurnError : Option Value}
    (m_TurnError : PySem.W.nsIn K mainGlobals "TurnError" = some (some (.ref C_TurnError)))
    (l_TurnError : K.lookup C_TurnError = some (excClassObj nm_TurnError q_TurnError C_TurnError N_TurnError bs_TurnError veL true sn_TurnError sub_TurnError ab_TurnError col_TurnError dd_TurnError k0_TurnError k1_TurnError k2_TurnError k3_TurnError k5_TurnError "ValueError.__new__"))
    (ga_TurnError : PySem.W.findIn K (.ref C_TurnError) "__getattribute__" = some (some (.builtin "BaseException.__getattribute__"))) (gg_TurnError : PySem.W.findIn K (.ref C_TurnError) "__getattr__" = some none) (ha_TurnError : PySem.W.findIn K (.ref C_TurnError) "__class__" = some (some (.builtin "object.__class__")))
    {C_InvalidTree : Addr}
    {nm_InvalidTree q_InvalidTree : Str} {N_InvalidTree : Addr} {bs_InvalidTree : List Value} {sn_InvalidTree : List Str} {sub_InvalidTree : List Value} {ab_InvalidTree : Bool} {col_InvalidTree : Option Bool} {dd_InvalidTree : Option Addr} {k0_InvalidTree k1_InvalidTree k2_InvalidTree k3_InvalidTree k5_InvalidTree : Option Value}
    (m_InvalidTree : PySem.W.nsIn K mainGlobals "InvalidTree" = some (some (.ref C_InvalidTree)))
    (l_InvalidTree : K.lookup C_InvalidTree = some (excClassObj nm_InvalidTree q_InvalidTree C_InvalidTree N_InvalidTree bs_InvalidTree (.ref C_TurnError :: veL) true sn_InvalidTree sub_InvalidTree ab_InvalidTree col_InvalidTree dd_InvalidTree k0_InvalidTree k1_InvalidTree k2_InvalidTree k3_InvalidTree k5_InvalidTree "ValueError.__new__"))
    (ga_InvalidTree : PySem.W.findIn K (.ref C_InvalidTree) "__getattribute__" = some (some (.builtin "BaseException.__getattribute__"))) (gg_InvalidTree : PySem.W.findIn K (.ref C_InvalidTree) "__getattr__" = some none) (ha_InvalidTree : PySem.W.findIn K (.ref C_InvalidTree) "__class__" = some (some (.builtin "object.__class__")))
    (sa_InvalidTree : PySem.W.findIn K (.ref C_InvalidTree) "__setattr__" = some (some (.builtin "object.__setattr__"))) (kC_InvalidTree : PySem.W.keepIn K (.ref C_InvalidTree) = true) (no_InvalidTree : PySem.W.findIn K (.ref C_InvalidTree) "value" = some none)
    {f_InvalidTree T_InvalidTree n_InvalidTree : Nat} {od_InvalidTree td_InvalidTree an_InvalidTree : Option Addr} {kV_InvalidTree doc_InvalidTree pm_InvalidTree cd_InvalidTree ct_InvalidTree tc_InvalidTree : Value} {ol_InvalidTree ts_InvalidTree : Array (Option Value)}
    (iC_InvalidTree : PySem.W.findIn K (.ref C_InvalidTree) "__init__" = some (some (.ref f_InvalidTree)))
    (lf_InvalidTree : K.lookup f_InvalidTree = some ⟨.type "function", od_InvalidTree, .func (PySem.W.fnOf "__init__" "InvalidTree.__init__" (defArgs i_InvalidTree) (defBody i_InvalidTree) (defScope i_InvalidTree) (.ref T_InvalidTree) kV_InvalidTree doc_InvalidTree pm_InvalidTree an_InvalidTree cd_InvalidTree ct_InvalidTree), ol_InvalidTree⟩)
    (cf_InvalidTree : PySem.W.codeIn K cd_InvalidTree "InvalidTree.__init__" = true) (lT_InvalidTree : K.lookup T_InvalidTree = some ⟨tc_InvalidTree, td_InvalidTree, .seq #[.none] n_InvalidTree, ts_InvalidTree⟩)
    {C_InvalidList : Addr}
    {nm_InvalidList q_InvalidList : Str} {N_InvalidList : Addr} {bs_InvalidList : List Value} {sn_InvalidList : List Str} {sub_InvalidList : List Value} {ab_InvalidList : Bool} {col_InvalidList : Option Bool} {dd_InvalidList : Option Addr} {k0_InvalidList k1_InvalidList k2_InvalidList k3_InvalidList k5_InvalidList : Option Value}
    (m_InvalidList : PySem.W.nsIn K mainGlobals "InvalidList" = some (some (.ref C_InvalidList)))
    (l_InvalidList : K.lookup C_InvalidList = some (excClassObj nm_InvalidList q_InvalidList C_InvalidList N_InvalidList bs_InvalidList (.ref C_TurnError :: veL) true sn_InvalidList sub_InvalidList ab_InvalidList col_InvalidList dd_InvalidList k0_InvalidList k1_InvalidList k2_InvalidList k3_InvalidList k5_InvalidList "ValueError.__new__"))
    (ga_InvalidList : PySem.W.findIn K (.ref C_InvalidList) "__getattribute__" = some (some (.builtin "BaseException.__getattribute__"))) (gg_InvalidList : PySem.W.findIn K (.ref C_InvalidList) "__getattr__" = some none) (ha_InvalidList : PySem.W.findIn K (.ref C_InvalidList) "__class__" = some (some (.builtin "object.__class__")))
    (sa_InvalidList : PySem.W.findIn K (.ref C_InvalidList) "__setattr__" = some (some (.builtin "object.__setattr__"))) (kC_InvalidList : PySem.W.keepIn K (.ref C_InvalidList) = true) (no_InvalidList : PySem.W.findIn K (.ref C_InvalidList) "value" = some none)
    {f_InvalidList T_InvalidList n_InvalidList : Nat} {od_InvalidList td_InvalidList an_InvalidList : Option Addr} {kV_InvalidList doc_InvalidList pm_InvalidList cd_InvalidList ct_InvalidList tc_InvalidList : Value} {ol_InvalidList ts_InvalidList : Array (Option Value)}
    (iC_InvalidList : PySem.W.findIn K (.ref C_InvalidList) "__init__" = some (some (.ref f_InvalidList)))
    (lf_InvalidList : K.lookup f_InvalidList = some ⟨.type "function", od_InvalidList, .func (PySem.W.fnOf "__init__" "InvalidList.__init__" (defArgs i_InvalidList) (defBody i_InvalidList) (defScope i_InvalidList) (.ref T_InvalidList) kV_InvalidList doc_InvalidList pm_InvalidList an_InvalidList cd_InvalidList ct_InvalidList), ol_InvalidList⟩)
    (cf_InvalidList : PySem.W.codeIn K cd_InvalidList "InvalidList.__init__" = true) (lT_InvalidList : K.lookup T_InvalidList = some ⟨tc_InvalidList, td_InvalidList, .seq #[.none] n_InvalidList, ts_InvalidList⟩)
    {C_InvalidNumber : Addr}
    {nm_InvalidNumber q_InvalidNumber : Str} {N_InvalidNumber : Addr} {bs_InvalidNumber : List Value} {sn_InvalidNumber : List Str} {sub_InvalidNumber : List Value} {ab_InvalidNumber : Bool} {col_InvalidNumber : Option Bool} {dd_InvalidNumber : Option Addr} {k0_InvalidNumber k1_InvalidNumber k2_InvalidNumber k3_InvalidNumber k5_InvalidNumber : Option Value}
    (m_InvalidNumber : PySem.W.nsIn K mainGlobals "InvalidNumber" = some (some (.ref C_InvalidNumber)))
    (l_InvalidNumber : K.lookup C_InvalidNumber = some (excClassObj nm_InvalidNumber q_InvalidNumber C_InvalidNumber N_InvalidNumber bs_InvalidNumber (.ref C_TurnError :: veL) true sn_InvalidNumber sub_InvalidNumber ab_InvalidNumber col_InvalidNumber dd_InvalidNumber k0_InvalidNumber k1_InvalidNumber k2_InvalidNumber k3_InvalidNumber k5_InvalidNumber "ValueError.__new__"))
    (ga_InvalidNumber : PySem.W.findIn K (.ref C_InvalidNumber) "__getattribute__" = some (some (.builtin "BaseException.__getattribute__"))) (gg_InvalidNumber : PySem.W.findIn K (.ref C_InvalidNumber) "__getattr__" = some none) (ha_InvalidNumber : PySem.W.findIn K (.ref C_InvalidNumber) "__class__" = some (some (.builtin "object.__class__")))
    (sa_InvalidNumber : PySem.W.findIn K (.ref C_InvalidNumber) "__setattr__" = some (some (.builtin "object.__setattr__"))) (kC_InvalidNumber : PySem.W.keepIn K (.ref C_InvalidNumber) = true) (no_InvalidNumber : PySem.W.findIn K (.ref C_InvalidNumber) "value" = some none)
    {f_InvalidNumber T_InvalidNumber n_InvalidNumber : Nat} {od_InvalidNumber td_InvalidNumber an_InvalidNumber : Option Addr} {kV_InvalidNumber doc_InvalidNumber pm_InvalidNumber cd_InvalidNumber ct_InvalidNumber tc_InvalidNumber : Value} {ol_InvalidNumber ts_InvalidNumber : Array (Option Value)}
    (iC_InvalidNumber : PySem.W.findIn K (.ref C_InvalidNumber) "__init__" = some (some (.ref f_InvalidNumber)))
    (lf_InvalidNumber : K.lookup f_InvalidNumber = some ⟨.type "function", od_InvalidNumber, .func (PySem.W.fnOf "__init__" "InvalidNumber.__init__" (defArgs i_InvalidNumber) (defBody i_InvalidNumber) (defScope i_InvalidNumber) (.ref T_InvalidNumber) kV_InvalidNumber doc_InvalidNumber pm_InvalidNumber an_InvalidNumber cd_InvalidNumber ct_InvalidNumber), ol_InvalidNumber⟩)
    (cf_InvalidNumber : PySem.W.codeIn K cd_InvalidNumber "InvalidNumber.__init__" = true) (lT_InvalidNumber : K.lookup T_InvalidNumber = some ⟨tc_InvalidNumber, td_InvalidNumber, .seq #[.none] n_InvalidNumber, ts_InvalidNumber⟩)
    {C_InvalidScript : Addr}
    {nm_InvalidScript q_InvalidScript : Str} {N_InvalidScript : Addr} {bs_InvalidScript : List Value} {sn_InvalidScript : List Str} {sub_InvalidScript : List Value} {ab_InvalidScript : Bool} {col_InvalidScript : Option Bool} {dd_InvalidScript : Option Addr} {k0_InvalidScript k1_InvalidScript k2_InvalidScript k3_InvalidScript k5_InvalidScript : Option Value}
    (m_InvalidScript : PySem.W.nsIn K mainGlobals "InvalidScript" = some (some (.ref C_InvalidScript)))
    (l_InvalidScript : K.lookup C_InvalidScript = some (excClassObj nm_InvalidScript q_InvalidScript C_InvalidScript N_InvalidScript bs_InvalidScript (.ref C_TurnError :: veL) true sn_InvalidScript sub_InvalidScript ab_InvalidScript col_InvalidScript dd_InvalidScript k0_InvalidScript k1_InvalidScript k2_InvalidScript k3_InvalidScript k5_InvalidScript "ValueError.__new__"))
    (ga_InvalidScript : PySem.W.findIn K (.ref C_InvalidScript) "__getattribute__" = some (some (.builtin "BaseException.__getattribute__"))) (gg_InvalidScript : PySem.W.findIn K (.ref C_InvalidScript) "__getattr__" = some none) (ha_InvalidScript : PySem.W.findIn K (.ref C_InvalidScript) "__class__" = some (some (.builtin "object.__class__")))
    (sa_InvalidScript : PySem.W.findIn K (.ref C_InvalidScript) "__setattr__" = some (some (.builtin "object.__setattr__"))) (kC_InvalidScript : PySem.W.keepIn K (.ref C_InvalidScript) = true) (no_InvalidScript : PySem.W.findIn K (.ref C_InvalidScript) "value" = some none)
    {f_InvalidScript T_InvalidScript n_InvalidScript : Nat} {od_InvalidScript td_InvalidScript an_InvalidScript : Option Addr} {kV_InvalidScript doc_InvalidScript pm_InvalidScript cd_InvalidScript ct_InvalidScript tc_InvalidScript : Value} {ol_InvalidScript ts_InvalidScript : Array (Option Value)}
    (iC_InvalidScript : PySem.W.findIn K (.ref C_InvalidScript) "__init__" = some (some (.ref f_InvalidScript)))
    (lf_InvalidScript : K.lookup f_InvalidScript = some ⟨.type "function", od_InvalidScript, .func (PySem.W.fnOf "__init__" "InvalidScript.__init__" (defArgs i_InvalidScript) (defBody i_InvalidScript) (defScope i_InvalidScript) (.ref T_InvalidScript) kV_InvalidScript doc_InvalidScript pm_InvalidScript an_InvalidScript cd_InvalidScript ct_InvalidScript), ol_InvalidScript⟩)
    (cf_InvalidScript : PySem.W.codeIn K cd_InvalidScript "InvalidScript.__init__" = true) (lT_InvalidScript : K.lookup T_InvalidScript = some ⟨tc_InvalidScript, td_InvalidScript, .seq #[.none] n_InvalidScript, ts_InvalidScript⟩)
    {C_InvalidMove : Addr}
    {nm_InvalidMove q_InvalidMove : Str} {N_InvalidMove : Addr} {bs_InvalidMove : List Value} {sn_InvalidMove : List Str} {sub_InvalidMove : List Value} {ab_InvalidMove : Bool} {col_InvalidMove : Option Bool} {dd_InvalidMove : Option Addr} {k0_InvalidMove k1_InvalidMove k2_InvalidMove k3_InvalidMove k5_InvalidMove : Option Value}
    (m_InvalidMove : PySem.W.nsIn K mainGlobals "InvalidMove" = some (some (.ref C_InvalidMove)))
    (l_InvalidMove : K.lookup C_InvalidMove = some (excClassObj nm_InvalidMove q_InvalidMove C_InvalidMove N_InvalidMove bs_InvalidMove (.ref C_TurnError :: veL) true sn_InvalidMove sub_InvalidMove ab_InvalidMove col_InvalidMove dd_InvalidMove k0_InvalidMove k1_InvalidMove k2_InvalidMove k3_InvalidMove k5_InvalidMove "ValueError.__new__"))
    (ga_InvalidMove : PySem.W.findIn K (.ref C_InvalidMove) "__getattribute__" = some (some (.builtin "BaseException.__getattribute__"))) (gg_InvalidMove : PySem.W.findIn K (.ref C_InvalidMove) "__getattr__" = some none) (ha_InvalidMove : PySem.W.findIn K (.ref C_InvalidMove) "__class__" = some (some (.builtin "object.__class__")))
    (sa_InvalidMove : PySem.W.findIn K (.ref C_InvalidMove) "__setattr__" = some (some (.builtin "object.__setattr__"))) (kC_InvalidMove : PySem.W.keepIn K (.ref C_InvalidMove) = true) (no_InvalidMove : PySem.W.findIn K (.ref C_InvalidMove) "value" = some none)
    {f_InvalidMove T_InvalidMove n_InvalidMove : Nat} {od_InvalidMove td_InvalidMove an_InvalidMove : Option Addr} {kV_InvalidMove doc_InvalidMove pm_InvalidMove cd_InvalidMove ct_InvalidMove tc_InvalidMove : Value} {ol_InvalidMove ts_InvalidMove : Array (Option Value)}
    (iC_InvalidMove : PySem.W.findIn K (.ref C_InvalidMove) "__init__" = some (some (.ref f_InvalidMove)))
    (lf_InvalidMove : K.lookup f_InvalidMove = some ⟨.type "function", od_InvalidMove, .func (PySem.W.fnOf "__init__" "InvalidMove.__init__" (defArgs i_InvalidMove) (defBody i_InvalidMove) (defScope i_InvalidMove) (.ref T_InvalidMove) kV_InvalidMove doc_InvalidMove pm_InvalidMove an_InvalidMove cd_InvalidMove ct_InvalidMove), ol_InvalidMove⟩)
    (cf_InvalidMove : PySem.W.codeIn K cd_InvalidMove "InvalidMove.__init__" = true) (lT_InvalidMove : K.lookup T_InvalidMove = some ⟨tc_InvalidMove, td_InvalidMove, .seq #[.none] n_InvalidMove, ts_InvalidMove⟩)
    {C_CannotMove : Addr}
    {nm_CannotMove q_CannotMove : Str} {N_CannotMove : Addr} {bs_CannotMove : List Value} {sn_CannotMove : List Str} {sub_CannotMove : List Value} {ab_CannotMove : Bool} {col_CannotMove : Option Bool} {dd_CannotMove : Option Addr} {k0_CannotMove k1_CannotMove k2_CannotMove k3_CannotMove k5_CannotMove : Option Value}
    (m_CannotMove : PySem.W.nsIn K mainGlobals "CannotMove" = some (some (.ref C_CannotMove)))
    (l_CannotMove : K.lookup C_CannotMove = some (excClassObj nm_CannotMove q_CannotMove C_CannotMove N_CannotMove bs_CannotMove (.ref C_TurnError :: veL) true sn_CannotMove sub_CannotMove ab_CannotMove col_CannotMove dd_CannotMove k0_CannotMove k1_CannotMove k2_CannotMove k3_CannotMove k5_CannotMove "ValueError.__new__"))
    (ga_CannotMove : PySem.W.findIn K (.ref C_CannotMove) "__getattribute__" = some (some (.builtin "BaseException.__getattribute__"))) (gg_CannotMove : PySem.W.findIn K (.ref C_CannotMove) "__getattr__" = some none) (ha_CannotMove : PySem.W.findIn K (.ref C_CannotMove) "__class__" = some (some (.builtin "object.__class__")))
    (sa_CannotMove : PySem.W.findIn K (.ref C_CannotMove) "__setattr__" = some (some (.builtin "object.__setattr__"))) (kC_CannotMove : PySem.W.keepIn K (.ref C_CannotMove) = true) (no_CannotMove : PySem.W.findIn K (.ref C_CannotMove) "value" = some none)
    {f_CannotMove T_CannotMove n_CannotMove : Nat} {od_CannotMove td_CannotMove an_CannotMove : Option Addr} {kV_CannotMove doc_CannotMove pm_CannotMove cd_CannotMove ct_CannotMove tc_CannotMove : Value} {ol_CannotMove ts_CannotMove : Array (Option Value)}
    (iC_CannotMove : PySem.W.findIn K (.ref C_CannotMove) "__init__" = some (some (.ref f_CannotMove)))
    (lf_CannotMove : K.lookup f_CannotMove = some ⟨.type "function", od_CannotMove, .func (PySem.W.fnOf "__init__" "CannotMove.__init__" (defArgs i_CannotMove) (defBody i_CannotMove) (defScope i_CannotMove) (.ref T_CannotMove) kV_CannotMove doc_CannotMove pm_CannotMove an_CannotMove cd_CannotMove ct_CannotMove), ol_CannotMove⟩)
    (cf_CannotMove : PySem.W.codeIn K cd_CannotMove "CannotMove.__init__" = true) (lT_CannotMove : K.lookup T_CannotMove = some ⟨tc_CannotMove, td_CannotMove, .seq #[.none] n_CannotMove, ts_CannotMove⟩)
    (nd : [C_InvalidTree, C_InvalidList, C_InvalidNumber, C_InvalidScript, C_InvalidMove, C_CannotMove, C_TurnError].Nodup)
    {D_OTHER_WORD n_OTHER_WORD : Nat} {h1_OTHER_WORD h2_OTHER_WORD : Int} {t1_OTHER_WORD t2_OTHER_WORD t3_OTHER_WORD t4_OTHER_WORD : Tok}
    (m_OTHER_WORD : PySem.W.nsIn K mainGlobals "OTHER_WORD" = some (some (.ref D_OTHER_WORD))) (l_OTHER_WORD : K.lookup D_OTHER_WORD = some ⟨.type "dict", none, .dict #[⟨h1_OTHER_WORD, .str "left" t1_OTHER_WORD, .str "right" t2_OTHER_WORD⟩, ⟨h2_OTHER_WORD, .str "right" t3_OTHER_WORD, .str "left" t4_OTHER_WORD⟩] n_OTHER_WORD, #[]⟩)
    (e1_OTHER_WORD : h1_OTHER_WORD = PyData.keyHash w.params "left") (e2_OTHER_WORD : h2_OTHER_WORD = PyData.keyHash w.params "right") (lo_OTHER_WORD : (D_OTHER_WORD == sysModules) = false)
    {C_Growth : Addr} (m_Growth : PySem.W.nsIn K mainGlobals "Growth" = some (some (.ref C_Growth)))
    (pg_Growth : PySem.W.plainGet K C_Growth Str.empty = true) (hd_Growth : PySem.W.hasDictIn K C_Growth = true) (po_Growth : PySem.W.plainOver K C_Growth = true) (sa_Growth : PySem.W.findIn K (.ref C_Growth) "__setattr__" = some (some (.builtin "object.__setattr__"))) (mk_Growth : PySem.W.makesIn K C_Growth = true) (kc_Growth : PySem.W.keepIn K (.ref C_Growth) = true)
    (na_Growth_origin : PySem.W.findIn K (.ref C_Growth) "origin" = some none)
    (na_Growth_current : PySem.W.findIn K (.ref C_Growth) "current" = some none)
    (na_Growth_many : PySem.W.findIn K (.ref C_Growth) "many" = some none)
    {f_Growth___init__ : Addr} {od_Growth___init__ an_Growth___init__ : Option Addr} {sl_Growth___init__ : Array (Option Value)} {oc_Growth___init__ kV_Growth___init__ dc_Growth___init__ pm_Growth___init__ cd_Growth___init__ ct_Growth___init__ : Value}
    (at_Growth___init__ : PySem.W.findIn K (.ref C_Growth) "__init__" = some (some (.ref f_Growth___init__))) (is_Growth___init__ : PySem.W.isFn K (.ref f_Growth___init__) = true) (l_Growth___init__ : K.lookup f_Growth___init__ = some ⟨oc_Growth___init__, od_Growth___init__, .func (PySem.W.fnOf "__init__" "Growth.__init__" (defArgs s_Growth___init__) (defBody s_Growth___init__) (defScope s_Growth___init__) .none kV_Growth___init__ dc_Growth___init__ pm_Growth___init__ an_Growth___init__ cd_Growth___init__ ct_Growth___init__), sl_Growth___init__⟩) (c_Growth___init__ : PySem.W.codeIn K cd_Growth___init__ "Growth.__init__" = true) (k_Growth___init__ : PySem.W.keepIn K (.ref f_Growth___init__) = true)
    {f_Growth_unfold : Addr} {od_Growth_unfold an_Growth_unfold : Option Addr} {sl_Growth_unfold : Array (Option Value)} {oc_Growth_unfold kV_Growth_unfold dc_Growth_unfold pm_Growth_unfold cd_Growth_unfold ct_Growth_unfold : Value}
    (at_Growth_unfold : PySem.W.findIn K (.ref C_Growth) "unfold" = some (some (.ref f_Growth_unfold))) (is_Growth_unfold : PySem.W.isFn K (.ref f_Growth_unfold) = true) (l_Growth_unfold : K.lookup f_Growth_unfold = some ⟨oc_Growth_unfold, od_Growth_unfold, .func (PySem.W.fnOf "unfold" "Growth.unfold" (defArgs s_Growth_unfold) (defBody s_Growth_unfold) (defScope s_Growth_unfold) .none kV_Growth_unfold dc_Growth_unfold pm_Growth_unfold an_Growth_unfold cd_Growth_unfold ct_Growth_unfold), sl_Growth_unfold⟩) (c_Growth_unfold : PySem.W.codeIn K cd_Growth_unfold "Growth.unfold" = true) (k_Growth_unfold : PySem.W.keepIn K (.ref f_Growth_unfold) = true)
    {f_Growth_sides : Addr} {od_Growth_sides an_Growth_sides : Option Addr} {sl_Growth_sides : Array (Option Value)} {oc_Growth_sides kV_Growth_sides dc_Growth_sides pm_Growth_sides cd_Growth_sides ct_Growth_sides : Value}
    (at_Growth_sides : PySem.W.findIn K (.ref C_Growth) "sides" = some (some (.ref f_Growth_sides))) (is_Growth_sides : PySem.W.isFn K (.ref f_Growth_sides) = true) (l_Growth_sides : K.lookup f_Growth_sides = some ⟨oc_Growth_sides, od_Growth_sides, .func (PySem.W.fnOf "sides" "Growth.sides" (defArgs s_Growth_sides) (defBody s_Growth_sides) (defScope s_Growth_sides) .none kV_Growth_sides dc_Growth_sides pm_Growth_sides an_Growth_sides cd_Growth_sides ct_Growth_sides), sl_Growth_sides⟩) (c_Growth_sides : PySem.W.codeIn K cd_Growth_sides "Growth.sides" = true) (k_Growth_sides : PySem.W.keepIn K (.ref f_Growth_sides) = true)
    {f_Growth_turn : Addr} {od_Growth_turn an_Growth_turn : Option Addr} {sl_Growth_turn : Array (Option Value)} {oc_Growth_turn kV_Growth_turn dc_Growth_turn pm_Growth_turn cd_Growth_turn ct_Growth_turn : Value}
    (at_Growth_turn : PySem.W.findIn K (.ref C_Growth) "turn" = some (some (.ref f_Growth_turn))) (is_Growth_turn : PySem.W.isFn K (.ref f_Growth_turn) = true) (l_Growth_turn : K.lookup f_Growth_turn = some ⟨oc_Growth_turn, od_Growth_turn, .func (PySem.W.fnOf "turn" "Growth.turn" (defArgs s_Growth_turn) (defBody s_Growth_turn) (defScope s_Growth_turn) .none kV_Growth_turn dc_Growth_turn pm_Growth_turn an_Growth_turn cd_Growth_turn ct_Growth_turn), sl_Growth_turn⟩) (c_Growth_turn : PySem.W.codeIn K cd_Growth_turn "Growth.turn" = true) (k_Growth_turn : PySem.W.keepIn K (.ref f_Growth_turn) = true)
    {C_Move : Addr} (m_Move : PySem.W.nsIn K mainGlobals "Move" = some (some (.ref C_Move)))
    (pg_Move : PySem.W.plainGet K C_Move Str.empty = true) (hd_Move : PySem.W.hasDictIn K C_Move = true) (po_Move : PySem.W.plainOver K C_Move = true) (sa_Move : PySem.W.findIn K (.ref C_Move) "__setattr__" = some (some (.builtin "object.__setattr__"))) (mk_Move : PySem.W.makesIn K C_Move = true) (kc_Move : PySem.W.keepIn K (.ref C_Move) = true)
    {mc_Move : Value} (ty_Move : PySem.W.typeIn K (.ref C_Move) = some mc_Move) (rd_Move : PySem.W.readsIn K C_Move mc_Move = true) (ga_Move : PySem.W.specialIn K (.ref C_Move) "__getattribute__" = some (some (.builtin "type.__getattribute__"))) (sf_Move : PySem.W.selfFirst K C_Move = true)
    (ob_Move : PySem.W.mroIn K C_Move (.type "object") = some true) (nx_Move : PySem.W.findIn K (.ref C_Move) "__ne__" = some (some (.builtin "object.__ne__"))) (ha_Move : PySem.W.findIn K (.ref C_Move) "__class__" = some (some (.builtin "object.__class__")))
    (tt_Move : PySem.W.typeIn K (.ref C_Move) = some (.type "type"))
    (ktint_Move : PySem.W.mroIn K C_Move (.type "int") = some false)
    (ktbool_Move : PySem.W.mroIn K C_Move (.type "bool") = some false)
    (ktstr_Move : PySem.W.mroIn K C_Move (.type "str") = some false)
    (na_Move__before : PySem.W.findIn K (.ref C_Move) "_before" = some none)
    (na_Move__after : PySem.W.findIn K (.ref C_Move) "_after" = some none)
    {f_Move___init__ : Addr} {od_Move___init__ an_Move___init__ : Option Addr} {sl_Move___init__ : Array (Option Value)} {oc_Move___init__ kV_Move___init__ dc_Move___init__ pm_Move___init__ cd_Move___init__ ct_Move___init__ : Value}
    (at_Move___init__ : PySem.W.findIn K (.ref C_Move) "__init__" = some (some (.ref f_Move___init__))) (is_Move___init__ : PySem.W.isFn K (.ref f_Move___init__) = true) (l_Move___init__ : K.lookup f_Move___init__ = some ⟨oc_Move___init__, od_Move___init__, .func (PySem.W.fnOf "__init__" "Move.__init__" (defArgs s_Move___init__) (defBody s_Move___init__) (defScope s_Move___init__) .none kV_Move___init__ dc_Move___init__ pm_Move___init__ an_Move___init__ cd_Move___init__ ct_Move___init__), sl_Move___init__⟩) (c_Move___init__ : PySem.W.codeIn K cd_Move___init__ "Move.__init__" = true) (k_Move___init__ : PySem.W.keepIn K (.ref f_Move___init__) = true)
    {f_Move_of : Addr} {od_Move_of an_Move_of : Option Addr} {sl_Move_of : Array (Option Value)} {oc_Move_of kV_Move_of dc_Move_of pm_Move_of cd_Move_of ct_Move_of : Value}
    {pp_Move_of : Addr} {rs_Move_of : List Value} (at_Move_of : PySem.W.findCls K (.ref C_Move) mc_Move "of" = some (.get (.builtin "staticmethod.__get__") (.ref pp_Move_of) .none (.ref C_Move))) (pr_Move_of : PySem.W.recIn K pp_Move_of "staticmethod" = some (.ref f_Move_of :: rs_Move_of))
    (is_Move_of : PySem.W.isFn K (.ref f_Move_of) = true) (l_Move_of : K.lookup f_Move_of = some ⟨oc_Move_of, od_Move_of, .func (PySem.W.fnOf "of" "Move.of" (defArgs s_Move_of) (defBody s_Move_of) (defScope s_Move_of) .none kV_Move_of dc_Move_of pm_Move_of an_Move_of cd_Move_of ct_Move_of), sl_Move_of⟩) (c_Move_of : PySem.W.codeIn K cd_Move_of "Move.of" = true) (k_Move_of : PySem.W.keepIn K (.ref f_Move_of) = true)
    {f_Move_before : Addr} {od_Move_before an_Move_before : Option Addr} {sl_Move_before : Array (Option Value)} {oc_Move_before kV_Move_before dc_Move_before pm_Move_before cd_Move_before ct_Move_before : Value}
    {pp_Move_before : Addr} {rs_Move_before : List Value} (at_Move_before : PySem.W.findIn K (.ref C_Move) "before" = some (some (.ref pp_Move_before))) (pg_Move_before : PySem.W.specialIn K (.ref pp_Move_before) "__get__" = some (some (.builtin "property.__get__"))) (pt_Move_before : PySem.W.takesIn K (.ref pp_Move_before) = some true) (pr_Move_before : PySem.W.recIn K pp_Move_before "property" = some (.ref f_Move_before :: rs_Move_before))
    (is_Move_before : PySem.W.isFn K (.ref f_Move_before) = true) (l_Move_before : K.lookup f_Move_before = some ⟨oc_Move_before, od_Move_before, .func (PySem.W.fnOf "before" "Move.before" (defArgs s_Move_before) (defBody s_Move_before) (defScope s_Move_before) .none kV_Move_before dc_Move_before pm_Move_before an_Move_before cd_Move_before ct_Move_before), sl_Move_before⟩) (c_Move_before : PySem.W.codeIn K cd_Move_before "Move.before" = true) (k_Move_before : PySem.W.keepIn K (.ref f_Move_before) = true)
    {f_Move_after : Addr} {od_Move_after an_Move_after : Option Addr} {sl_Move_after : Array (Option Value)} {oc_Move_after kV_Move_after dc_Move_after pm_Move_after cd_Move_after ct_Move_after : Value}
    {pp_Move_after : Addr} {rs_Move_after : List Value} (at_Move_after : PySem.W.findIn K (.ref C_Move) "after" = some (some (.ref pp_Move_after))) (pg_Move_after : PySem.W.specialIn K (.ref pp_Move_after) "__get__" = some (some (.builtin "property.__get__"))) (pt_Move_after : PySem.W.takesIn K (.ref pp_Move_after) = some true) (pr_Move_after : PySem.W.recIn K pp_Move_after "property" = some (.ref f_Move_after :: rs_Move_after))
    (is_Move_after : PySem.W.isFn K (.ref f_Move_after) = true) (l_Move_after : K.lookup f_Move_after = some ⟨oc_Move_after, od_Move_after, .func (PySem.W.fnOf "after" "Move.after" (defArgs s_Move_after) (defBody s_Move_after) (defScope s_Move_after) .none kV_Move_after dc_Move_after pm_Move_after an_Move_after cd_Move_after ct_Move_after), sl_Move_after⟩) (c_Move_after : PySem.W.codeIn K cd_Move_after "Move.after" = true) (k_Move_after : PySem.W.keepIn K (.ref f_Move_after) = true)
    {f_Move___call__ : Addr} {od_Move___call__ an_Move___call__ : Option Addr} {sl_Move___call__ : Array (Option Value)} {oc_Move___call__ kV_Move___call__ dc_Move___call__ pm_Move___call__ cd_Move___call__ ct_Move___call__ : Value}
    (at_Move___call__ : PySem.W.findIn K (.ref C_Move) "__call__" = some (some (.ref f_Move___call__))) (is_Move___call__ : PySem.W.isFn K (.ref f_Move___call__) = true) (l_Move___call__ : K.lookup f_Move___call__ = some ⟨oc_Move___call__, od_Move___call__, .func (PySem.W.fnOf "__call__" "Move.__call__" (defArgs s_Move___call__) (defBody s_Move___call__) (defScope s_Move___call__) .none kV_Move___call__ dc_Move___call__ pm_Move___call__ an_Move___call__ cd_Move___call__ ct_Move___call__), sl_Move___call__⟩) (c_Move___call__ : PySem.W.codeIn K cd_Move___call__ "Move.__call__" = true) (k_Move___call__ : PySem.W.keepIn K (.ref f_Move___call__) = true)
    (fi_Move___call__ : PySem.W.fnIn K f_Move___call__ = true)
    {f_Move_can : Addr} {od_Move_can an_Move_can : Option Addr} {sl_Move_can : Array (Option Value)} {oc_Move_can kV_Move_can dc_Move_can pm_Move_can cd_Move_can ct_Move_can : Value}
    (at_Move_can : PySem.W.findIn K (.ref C_Move) "can" = some (some (.ref f_Move_can))) (is_Move_can : PySem.W.isFn K (.ref f_Move_can) = true) (l_Move_can : K.lookup f_Move_can = some ⟨oc_Move_can, od_Move_can, .func (PySem.W.fnOf "can" "Move.can" (defArgs s_Move_can) (defBody s_Move_can) (defScope s_Move_can) .none kV_Move_can dc_Move_can pm_Move_can an_Move_can cd_Move_can ct_Move_can), sl_Move_can⟩) (c_Move_can : PySem.W.codeIn K cd_Move_can "Move.can" = true) (k_Move_can : PySem.W.keepIn K (.ref f_Move_can) = true)
    {f_Move___eq__ : Addr} {od_Move___eq__ an_Move___eq__ : Option Addr} {sl_Move___eq__ : Array (Option Value)} {oc_Move___eq__ kV_Move___eq__ dc_Move___eq__ pm_Move___eq__ cd_Move___eq__ ct_Move___eq__ : Value}
    (at_Move___eq__ : PySem.W.findIn K (.ref C_Move) "__eq__" = some (some (.ref f_Move___eq__))) (is_Move___eq__ : PySem.W.isFn K (.ref f_Move___eq__) = true) (l_Move___eq__ : K.lookup f_Move___eq__ = some ⟨oc_Move___eq__, od_Move___eq__, .func (PySem.W.fnOf "__eq__" "Move.__eq__" (defArgs s_Move___eq__) (defBody s_Move___eq__) (defScope s_Move___eq__) .none kV_Move___eq__ dc_Move___eq__ pm_Move___eq__ an_Move___eq__ cd_Move___eq__ ct_Move___eq__), sl_Move___eq__⟩) (c_Move___eq__ : PySem.W.codeIn K cd_Move___eq__ "Move.__eq__" = true) (k_Move___eq__ : PySem.W.keepIn K (.ref f_Move___eq__) = true)
    {f_Move___repr__ : Addr} {od_Move___repr__ an_Move___repr__ : Option Addr} {sl_Move___repr__ : Array (Option Value)} {oc_Move___repr__ kV_Move___repr__ dc_Move___repr__ pm_Move___repr__ cd_Move___repr__ ct_Move___repr__ : Value}
    (at_Move___repr__ : PySem.W.findIn K (.ref C_Move) "__repr__" = some (some (.ref f_Move___repr__))) (is_Move___repr__ : PySem.W.isFn K (.ref f_Move___repr__) = true) (l_Move___repr__ : K.lookup f_Move___repr__ = some ⟨oc_Move___repr__, od_Move___repr__, .func (PySem.W.fnOf "__repr__" "Move.__repr__" (defArgs s_Move___repr__) (defBody s_Move___repr__) (defScope s_Move___repr__) .none kV_Move___repr__ dc_Move___repr__ pm_Move___repr__ an_Move___repr__ cd_Move___repr__ ct_Move___repr__), sl_Move___repr__⟩) (c_Move___repr__ : PySem.W.codeIn K cd_Move___repr__ "Move.__repr__" = true) (k_Move___repr__ : PySem.W.keepIn K (.ref f_Move___repr__) = true)
    {f_Move___mul__ : Addr} {od_Move___mul__ an_Move___mul__ : Option Addr} {sl_Move___mul__ : Array (Option Value)} {oc_Move___mul__ kV_Move___mul__ dc_Move___mul__ pm_Move___mul__ cd_Move___mul__ ct_Move___mul__ : Value}
    (at_Move___mul__ : PySem.W.findIn K (.ref C_Move) "__mul__" = some (some (.ref f_Move___mul__))) (is_Move___mul__ : PySem.W.isFn K (.ref f_Move___mul__) = true) (l_Move___mul__ : K.lookup f_Move___mul__ = some ⟨oc_Move___mul__, od_Move___mul__, .func (PySem.W.fnOf "__mul__" "Move.__mul__" (defArgs s_Move___mul__) (defBody s_Move___mul__) (defScope s_Move___mul__) .none kV_Move___mul__ dc_Move___mul__ pm_Move___mul__ an_Move___mul__ cd_Move___mul__ ct_Move___mul__), sl_Move___mul__⟩) (c_Move___mul__ : PySem.W.codeIn K cd_Move___mul__ "Move.__mul__" = true) (k_Move___mul__ : PySem.W.keepIn K (.ref f_Move___mul__) = true)
    {f_Move___invert__ : Addr} {od_Move___invert__ an_Move___invert__ : Option Addr} {sl_Move___invert__ : Array (Option Value)} {oc_Move___invert__ kV_Move___invert__ dc_Move___invert__ pm_Move___invert__ cd_Move___invert__ ct_Move___invert__ : Value}
    (at_Move___invert__ : PySem.W.findIn K (.ref C_Move) "__invert__" = some (some (.ref f_Move___invert__))) (is_Move___invert__ : PySem.W.isFn K (.ref f_Move___invert__) = true) (l_Move___invert__ : K.lookup f_Move___invert__ = some ⟨oc_Move___invert__, od_Move___invert__, .func (PySem.W.fnOf "__invert__" "Move.__invert__" (defArgs s_Move___invert__) (defBody s_Move___invert__) (defScope s_Move___invert__) .none kV_Move___invert__ dc_Move___invert__ pm_Move___invert__ an_Move___invert__ cd_Move___invert__ ct_Move___invert__), sl_Move___invert__⟩) (c_Move___invert__ : PySem.W.codeIn K cd_Move___invert__ "Move.__invert__" = true) (k_Move___invert__ : PySem.W.keepIn K (.ref f_Move___invert__) = true)
    {f_Move___le__ : Addr} {od_Move___le__ an_Move___le__ : Option Addr} {sl_Move___le__ : Array (Option Value)} {oc_Move___le__ kV_Move___le__ dc_Move___le__ pm_Move___le__ cd_Move___le__ ct_Move___le__ : Value}
    (at_Move___le__ : PySem.W.findIn K (.ref C_Move) "__le__" = some (some (.ref f_Move___le__))) (is_Move___le__ : PySem.W.isFn K (.ref f_Move___le__) = true) (l_Move___le__ : K.lookup f_Move___le__ = some ⟨oc_Move___le__, od_Move___le__, .func (PySem.W.fnOf "__le__" "Move.__le__" (defArgs s_Move___le__) (defBody s_Move___le__) (defScope s_Move___le__) .none kV_Move___le__ dc_Move___le__ pm_Move___le__ an_Move___le__ cd_Move___le__ ct_Move___le__), sl_Move___le__⟩) (c_Move___le__ : PySem.W.codeIn K cd_Move___le__ "Move.__le__" = true) (k_Move___le__ : PySem.W.keepIn K (.ref f_Move___le__) = true)
    {f_Move___lt__ : Addr} {od_Move___lt__ an_Move___lt__ : Option Addr} {sl_Move___lt__ : Array (Option Value)} {oc_Move___lt__ kV_Move___lt__ dc_Move___lt__ pm_Move___lt__ cd_Move___lt__ ct_Move___lt__ : Value}
    (at_Move___lt__ : PySem.W.findIn K (.ref C_Move) "__lt__" = some (some (.ref f_Move___lt__))) (is_Move___lt__ : PySem.W.isFn K (.ref f_Move___lt__) = true) (l_Move___lt__ : K.lookup f_Move___lt__ = some ⟨oc_Move___lt__, od_Move___lt__, .func (PySem.W.fnOf "__lt__" "Move.__lt__" (defArgs s_Move___lt__) (defBody s_Move___lt__) (defScope s_Move___lt__) .none kV_Move___lt__ dc_Move___lt__ pm_Move___lt__ an_Move___lt__ cd_Move___lt__ ct_Move___lt__), sl_Move___lt__⟩) (c_Move___lt__ : PySem.W.codeIn K cd_Move___lt__ "Move.__lt__" = true) (k_Move___lt__ : PySem.W.keepIn K (.ref f_Move___lt__) = true)
    {f_Move___ge__ : Addr} {od_Move___ge__ an_Move___ge__ : Option Addr} {sl_Move___ge__ : Array (Option Value)} {oc_Move___ge__ kV_Move___ge__ dc_Move___ge__ pm_Move___ge__ cd_Move___ge__ ct_Move___ge__ : Value}
    (at_Move___ge__ : PySem.W.findIn K (.ref C_Move) "__ge__" = some (some (.ref f_Move___ge__))) (is_Move___ge__ : PySem.W.isFn K (.ref f_Move___ge__) = true) (l_Move___ge__ : K.lookup f_Move___ge__ = some ⟨oc_Move___ge__, od_Move___ge__, .func (PySem.W.fnOf "__ge__" "Move.__ge__" (defArgs s_Move___ge__) (defBody s_Move___ge__) (defScope s_Move___ge__) .none kV_Move___ge__ dc_Move___ge__ pm_Move___ge__ an_Move___ge__ cd_Move___ge__ ct_Move___ge__), sl_Move___ge__⟩) (c_Move___ge__ : PySem.W.codeIn K cd_Move___ge__ "Move.__ge__" = true) (k_Move___ge__ : PySem.W.keepIn K (.ref f_Move___ge__) = true)
    {f_Move___gt__ : Addr} {od_Move___gt__ an_Move___gt__ : Option Addr} {sl_Move___gt__ : Array (Option Value)} {oc_Move___gt__ kV_Move___gt__ dc_Move___gt__ pm_Move___gt__ cd_Move___gt__ ct_Move___gt__ : Value}
    (at_Move___gt__ : PySem.W.findIn K (.ref C_Move) "__gt__" = some (some (.ref f_Move___gt__))) (is_Move___gt__ : PySem.W.isFn K (.ref f_Move___gt__) = true) (l_Move___gt__ : K.lookup f_Move___gt__ = some ⟨oc_Move___gt__, od_Move___gt__, .func (PySem.W.fnOf "__gt__" "Move.__gt__" (defArgs s_Move___gt__) (defBody s_Move___gt__) (defScope s_Move___gt__) .none kV_Move___gt__ dc_Move___gt__ pm_Move___gt__ an_Move___gt__ cd_Move___gt__ ct_Move___gt__), sl_Move___gt__⟩) (c_Move___gt__ : PySem.W.codeIn K cd_Move___gt__ "Move.__gt__" = true) (k_Move___gt__ : PySem.W.keepIn K (.ref f_Move___gt__) = true)
    {f_Move_times : Addr} {od_Move_times an_Move_times : Option Addr} {sl_Move_times : Array (Option Value)} {oc_Move_times kV_Move_times dc_Move_times pm_Move_times cd_Move_times ct_Move_times : Value}
    (at_Move_times : PySem.W.findIn K (.ref C_Move) "times" = some (some (.ref f_Move_times))) (is_Move_times : PySem.W.isFn K (.ref f_Move_times) = true) (l_Move_times : K.lookup f_Move_times = some ⟨oc_Move_times, od_Move_times, .func (PySem.W.fnOf "times" "Move.times" (defArgs s_Move_times) (defBody s_Move_times) (defScope s_Move_times) .none kV_Move_times dc_Move_times pm_Move_times an_Move_times cd_Move_times ct_Move_times), sl_Move_times⟩) (c_Move_times : PySem.W.codeIn K cd_Move_times "Move.times" = true) (k_Move_times : PySem.W.keepIn K (.ref f_Move_times) = true)
    {f0 : Addr} {od0 an0 : Option Addr} {sl0 : Array (Option Value)} {oc0 kV0 dc0 pm0 cd0 ct0 : Value}
    (a0 : PySem.W.nsIn K mainGlobals "is_tree" = some (some (.ref f0))) (l0 : K.lookup f0 = some ⟨oc0, od0, .func (PySem.W.fnOf "is_tree" "is_tree" (defArgs s_is_tree) (defBody s_is_tree) (defScope s_is_tree) .none kV0 dc0 pm0 an0 cd0 ct0), sl0⟩) (c0 : PySem.W.codeIn K cd0 "is_tree" = true) (k0 : PySem.W.keepIn K (.ref f0) = true)
    {f1 : Addr} {od1 an1 : Option Addr} {sl1 : Array (Option Value)} {oc1 kV1 dc1 pm1 cd1 ct1 : Value}
    (a1 : PySem.W.nsIn K mainGlobals "is_address" = some (some (.ref f1))) (l1 : K.lookup f1 = some ⟨oc1, od1, .func (PySem.W.fnOf "is_address" "is_address" (defArgs s_is_address) (defBody s_is_address) (defScope s_is_address) .none kV1 dc1 pm1 an1 cd1 ct1), sl1⟩) (c1 : PySem.W.codeIn K cd1 "is_address" = true) (k1 : PySem.W.keepIn K (.ref f1) = true)
    {f2 : Addr} {od2 an2 : Option Addr} {sl2 : Array (Option Value)} {oc2 kV2 dc2 pm2 cd2 ct2 : Value}
    (a2 : PySem.W.nsIn K mainGlobals "check_tree" = some (some (.ref f2))) (l2 : K.lookup f2 = some ⟨oc2, od2, .func (PySem.W.fnOf "check_tree" "check_tree" (defArgs s_check_tree) (defBody s_check_tree) (defScope s_check_tree) .none kV2 dc2 pm2 an2 cd2 ct2), sl2⟩) (c2 : PySem.W.codeIn K cd2 "check_tree" = true) (k2 : PySem.W.keepIn K (.ref f2) = true)
    {f3 : Addr} {od3 an3 : Option Addr} {sl3 : Array (Option Value)} {oc3 kV3 dc3 pm3 cd3 ct3 : Value}
    (a3 : PySem.W.nsIn K mainGlobals "ends" = some (some (.ref f3))) (l3 : K.lookup f3 = some ⟨oc3, od3, .func (PySem.W.fnOf "ends" "ends" (defArgs s_ends) (defBody s_ends) (defScope s_ends) .none kV3 dc3 pm3 an3 cd3 ct3), sl3⟩) (c3 : PySem.W.codeIn K cd3 "ends" = true) (k3 : PySem.W.keepIn K (.ref f3) = true)
    {f4 : Addr} {od4 an4 : Option Addr} {sl4 : Array (Option Value)} {oc4 kV4 dc4 pm4 cd4 ct4 : Value}
    (a4 : PySem.W.nsIn K mainGlobals "check_hung" = some (some (.ref f4))) (l4 : K.lookup f4 = some ⟨oc4, od4, .func (PySem.W.fnOf "check_hung" "check_hung" (defArgs s_check_hung) (defBody s_check_hung) (defScope s_check_hung) .none kV4 dc4 pm4 an4 cd4 ct4), sl4⟩) (c4 : PySem.W.codeIn K cd4 "check_hung" = true) (k4 : PySem.W.keepIn K (.ref f4) = true)
    {f5 : Addr} {od5 an5 : Option Addr} {sl5 : Array (Option Value)} {oc5 kV5 dc5 pm5 cd5 ct5 : Value}
    (a5 : PySem.W.nsIn K mainGlobals "grown" = some (some (.ref f5))) (l5 : K.lookup f5 = some ⟨oc5, od5, .func (PySem.W.fnOf "grown" "grown" (defArgs s_grown) (defBody s_grown) (defScope s_grown) .none kV5 dc5 pm5 an5 cd5 ct5), sl5⟩) (c5 : PySem.W.codeIn K cd5 "grown" = true) (k5 : PySem.W.keepIn K (.ref f5) = true)
    {f6 : Addr} {od6 an6 : Option Addr} {sl6 : Array (Option Value)} {oc6 kV6 dc6 pm6 cd6 ct6 : Value}
    (a6 : PySem.W.nsIn K mainGlobals "hung" = some (some (.ref f6))) (l6 : K.lookup f6 = some ⟨oc6, od6, .func (PySem.W.fnOf "hung" "hung" (defArgs s_hung) (defBody s_hung) (defScope s_hung) .none kV6 dc6 pm6 an6 cd6 ct6), sl6⟩) (c6 : PySem.W.codeIn K cd6 "hung" = true) (k6 : PySem.W.keepIn K (.ref f6) = true)
    {f7 : Addr} {od7 an7 : Option Addr} {sl7 : Array (Option Value)} {oc7 kV7 dc7 pm7 cd7 ct7 : Value}
    (a7 : PySem.W.nsIn K mainGlobals "joined" = some (some (.ref f7))) (l7 : K.lookup f7 = some ⟨oc7, od7, .func (PySem.W.fnOf "joined" "joined" (defArgs s_joined) (defBody s_joined) (defScope s_joined) .none kV7 dc7 pm7 an7 cd7 ct7), sl7⟩) (c7 : PySem.W.codeIn K cd7 "joined" = true) (k7 : PySem.W.keepIn K (.ref f7) = true)
    {f8 : Addr} {od8 an8 : Option Addr} {sl8 : Array (Option Value)} {oc8 kV8 dc8 pm8 cd8 ct8 : Value}
    (a8 : PySem.W.nsIn K mainGlobals "shared" = some (some (.ref f8))) (l8 : K.lookup f8 = some ⟨oc8, od8, .func (PySem.W.fnOf "shared" "shared" (defArgs s_shared) (defBody s_shared) (defScope s_shared) .none kV8 dc8 pm8 an8 cd8 ct8), sl8⟩) (c8 : PySem.W.codeIn K cd8 "shared" = true) (k8 : PySem.W.keepIn K (.ref f8) = true)
    {f9 : Addr} {od9 an9 : Option Addr} {sl9 : Array (Option Value)} {oc9 kV9 dc9 pm9 cd9 ct9 : Value}
    (a9 : PySem.W.nsIn K mainGlobals "is_step" = some (some (.ref f9))) (l9 : K.lookup f9 = some ⟨oc9, od9, .func (PySem.W.fnOf "is_step" "is_step" (defArgs s_is_step) (defBody s_is_step) (defScope s_is_step) .none kV9 dc9 pm9 an9 cd9 ct9), sl9⟩) (c9 : PySem.W.codeIn K cd9 "is_step" = true) (k9 : PySem.W.keepIn K (.ref f9) = true)
    {f10 : Addr} {od10 an10 : Option Addr} {sl10 : Array (Option Value)} {oc10 kV10 dc10 pm10 cd10 ct10 : Value}
    (a10 : PySem.W.nsIn K mainGlobals "checked_script" = some (some (.ref f10))) (l10 : K.lookup f10 = some ⟨oc10, od10, .func (PySem.W.fnOf "checked_script" "checked_script" (defArgs s_checked_script) (defBody s_checked_script) (defScope s_checked_script) .none kV10 dc10 pm10 an10 cd10 ct10), sl10⟩) (c10 : PySem.W.codeIn K cd10 "checked_script" = true) (k10 : PySem.W.keepIn K (.ref f10) = true)
    {f11 : Addr} {od11 an11 : Option Addr} {sl11 : Array (Option Value)} {oc11 kV11 dc11 pm11 cd11 ct11 : Value}
    (a11 : PySem.W.nsIn K mainGlobals "written" = some (some (.ref f11))) (l11 : K.lookup f11 = some ⟨oc11, od11, .func (PySem.W.fnOf "written" "written" (defArgs s_written) (defBody s_written) (defScope s_written) .none kV11 dc11 pm11 an11 cd11 ct11), sl11⟩) (c11 : PySem.W.codeIn K cd11 "written" = true) (k11 : PySem.W.keepIn K (.ref f11) = true)
    {f12 : Addr} {od12 an12 : Option Addr} {sl12 : Array (Option Value)} {oc12 kV12 dc12 pm12 cd12 ct12 : Value}
    (a12 : PySem.W.nsIn K mainGlobals "pair_of" = some (some (.ref f12))) (l12 : K.lookup f12 = some ⟨oc12, od12, .func (PySem.W.fnOf "pair_of" "pair_of" (defArgs s_pair_of) (defBody s_pair_of) (defScope s_pair_of) .none kV12 dc12 pm12 an12 cd12 ct12), sl12⟩) (c12 : PySem.W.codeIn K cd12 "pair_of" = true) (k12 : PySem.W.keepIn K (.ref f12) = true)
    {f13 : Addr} {od13 an13 : Option Addr} {sl13 : Array (Option Value)} {oc13 kV13 dc13 pm13 cd13 ct13 : Value}
    (a13 : PySem.W.nsIn K mainGlobals "is_whole" = some (some (.ref f13))) (l13 : K.lookup f13 = some ⟨oc13, od13, .func (PySem.W.fnOf "is_whole" "is_whole" (defArgs s_is_whole) (defBody s_is_whole) (defScope s_is_whole) .none kV13 dc13 pm13 an13 cd13 ct13), sl13⟩) (c13 : PySem.W.codeIn K cd13 "is_whole" = true) (k13 : PySem.W.keepIn K (.ref f13) = true)
    {f14 : Addr} {od14 an14 : Option Addr} {sl14 : Array (Option Value)} {oc14 kV14 dc14 pm14 cd14 ct14 : Value}
    (a14 : PySem.W.nsIn K mainGlobals "check_whole" = some (some (.ref f14))) (l14 : K.lookup f14 = some ⟨oc14, od14, .func (PySem.W.fnOf "check_whole" "check_whole" (defArgs s_check_whole) (defBody s_check_whole) (defScope s_check_whole) .none kV14 dc14 pm14 an14 cd14 ct14), sl14⟩) (c14 : PySem.W.codeIn K cd14 "check_whole" = true) (k14 : PySem.W.keepIn K (.ref f14) = true)
    {f15 : Addr} {od15 an15 : Option Addr} {sl15 : Array (Option Value)} {oc15 kV15 dc15 pm15 cd15 ct15 : Value}
    (a15 : PySem.W.nsIn K mainGlobals "moved" = some (some (.ref f15))) (l15 : K.lookup f15 = some ⟨oc15, od15, .func (PySem.W.fnOf "moved" "moved" (defArgs s_moved) (defBody s_moved) (defScope s_moved) .none kV15 dc15 pm15 an15 cd15 ct15), sl15⟩) (c15 : PySem.W.codeIn K cd15 "moved" = true) (k15 : PySem.W.keepIn K (.ref f15) = true)
    {f16 : Addr} {od16 an16 : Option Addr} {sl16 : Array (Option Value)} {oc16 kV16 dc16 pm16 cd16 ct16 : Value}
    (a16 : PySem.W.nsIn K mainGlobals "_law_cell" = some (some (.ref f16))) (l16 : K.lookup f16 = some ⟨oc16, od16, .func (PySem.W.fnOf "_law_cell" "_law_cell" (defArgs s_law_cell) (defBody s_law_cell) (defScope s_law_cell) .none kV16 dc16 pm16 an16 cd16 ct16), sl16⟩) (c16 : PySem.W.codeIn K cd16 "_law_cell" = true) (k16 : PySem.W.keepIn K (.ref f16) = true)
    {f17 : Addr} {od17 an17 : Option Addr} {sl17 : Array (Option Value)} {oc17 kV17 dc17 pm17 cd17 ct17 : Value}
    (a17 : PySem.W.nsIn K mainGlobals "_law_hash" = some (some (.ref f17))) (l17 : K.lookup f17 = some ⟨oc17, od17, .func (PySem.W.fnOf "_law_hash" "_law_hash" (defArgs s_law_hash) (defBody s_law_hash) (defScope s_law_hash) .none kV17 dc17 pm17 an17 cd17 ct17), sl17⟩) (c17 : PySem.W.codeIn K cd17 "_law_hash" = true) (k17 : PySem.W.keepIn K (.ref f17) = true)
    {f18 : Addr} {od18 an18 : Option Addr} {sl18 : Array (Option Value)} {oc18 kV18 dc18 pm18 cd18 ct18 : Value}
    (a18 : PySem.W.nsIn K mainGlobals "_law_generator" = some (some (.ref f18))) (l18 : K.lookup f18 = some ⟨oc18, od18, .func (PySem.W.fnOf "_law_generator" "_law_generator" (defArgs s_law_generator) (defBody s_law_generator) (defScope s_law_generator) .none kV18 dc18 pm18 an18 cd18 ct18), sl18⟩) (c18 : PySem.W.codeIn K cd18 "_law_generator" = true) (k18 : PySem.W.keepIn K (.ref f18) = true)
    {f19 : Addr} {od19 an19 : Option Addr} {sl19 : Array (Option Value)} {oc19 kV19 dc19 pm19 cd19 ct19 : Value}
    (a19 : PySem.W.nsIn K mainGlobals "_law_address" = some (some (.ref f19))) (l19 : K.lookup f19 = some ⟨oc19, od19, .func (PySem.W.fnOf "_law_address" "_law_address" (defArgs s_law_address) (defBody s_law_address) (defScope s_law_address) .none kV19 dc19 pm19 an19 cd19 ct19), sl19⟩) (c19 : PySem.W.codeIn K cd19 "_law_address" = true) (k19 : PySem.W.keepIn K (.ref f19) = true)
    {f20 : Addr} {od20 an20 : Option Addr} {sl20 : Array (Option Value)} {oc20 kV20 dc20 pm20 cd20 ct20 : Value}
    (a20 : PySem.W.nsIn K mainGlobals "_law_steps" = some (some (.ref f20))) (l20 : K.lookup f20 = some ⟨oc20, od20, .func (PySem.W.fnOf "_law_steps" "_law_steps" (defArgs s_law_steps) (defBody s_law_steps) (defScope s_law_steps) .none kV20 dc20 pm20 an20 cd20 ct20), sl20⟩) (c20 : PySem.W.codeIn K cd20 "_law_steps" = true) (k20 : PySem.W.keepIn K (.ref f20) = true)
    {f21 : Addr} {od21 an21 : Option Addr} {sl21 : Array (Option Value)} {oc21 kV21 dc21 pm21 cd21 ct21 : Value}
    (a21 : PySem.W.nsIn K mainGlobals "_law_random" = some (some (.ref f21))) (l21 : K.lookup f21 = some ⟨oc21, od21, .func (PySem.W.fnOf "_law_random" "_law_random" (defArgs s_law_random) (defBody s_law_random) (defScope s_law_random) .none kV21 dc21 pm21 an21 cd21 ct21), sl21⟩) (c21 : PySem.W.codeIn K cd21 "_law_random" = true) (k21 : PySem.W.keepIn K (.ref f21) = true)
    {f22 : Addr} {od22 an22 : Option Addr} {sl22 : Array (Option Value)} {oc22 kV22 dc22 pm22 cd22 ct22 : Value}
    (a22 : PySem.W.nsIn K mainGlobals "_law_caught" = some (some (.ref f22))) (l22 : K.lookup f22 = some ⟨oc22, od22, .func (PySem.W.fnOf "_law_caught" "_law_caught" (defArgs s_law_caught) (defBody s_law_caught) (defScope s_law_caught) .none kV22 dc22 pm22 an22 cd22 ct22), sl22⟩) (c22 : PySem.W.codeIn K cd22 "_law_caught" = true) (k22 : PySem.W.keepIn K (.ref f22) = true)
    {f23 : Addr} {od23 an23 : Option Addr} {sl23 : Array (Option Value)} {oc23 kV23 dc23 pm23 cd23 ct23 : Value}
    (a23 : PySem.W.nsIn K mainGlobals "_law_product" = some (some (.ref f23))) (l23 : K.lookup f23 = some ⟨oc23, od23, .func (PySem.W.fnOf "_law_product" "_law_product" (defArgs s_law_product) (defBody s_law_product) (defScope s_law_product) .none kV23 dc23 pm23 an23 cd23 ct23), sl23⟩) (c23 : PySem.W.codeIn K cd23 "_law_product" = true) (k23 : PySem.W.keepIn K (.ref f23) = true)
    {f24 : Addr} {od24 an24 : Option Addr} {sl24 : Array (Option Value)} {oc24 kV24 dc24 pm24 cd24 ct24 : Value}
    (a24 : PySem.W.nsIn K mainGlobals "_law_great_right" = some (some (.ref f24))) (l24 : K.lookup f24 = some ⟨oc24, od24, .func (PySem.W.fnOf "_law_great_right" "_law_great_right" (defArgs s_law_great_right) (defBody s_law_great_right) (defScope s_law_great_right) .none kV24 dc24 pm24 an24 cd24 ct24), sl24⟩) (c24 : PySem.W.codeIn K cd24 "_law_great_right" = true) (k24 : PySem.W.keepIn K (.ref f24) = true)
    {f25 : Addr} {od25 an25 : Option Addr} {sl25 : Array (Option Value)} {oc25 kV25 dc25 pm25 cd25 ct25 : Value}
    (a25 : PySem.W.nsIn K mainGlobals "law" = some (some (.ref f25))) (l25 : K.lookup f25 = some ⟨oc25, od25, .func (PySem.W.fnOf "law" "law" (defArgs s_law) (defBody s_law) (defScope s_law) .none kV25 dc25 pm25 an25 cd25 ct25), sl25⟩) (c25 : PySem.W.codeIn K cd25 "law" = true) (k25 : PySem.W.keepIn K (.ref f25) = true)
    (z_isinstance : PySem.W.nsIn K mainGlobals "isinstance" = some none)
    (z_str : PySem.W.nsIn K mainGlobals "str" = some none)
    (z_len : PySem.W.nsIn K mainGlobals "len" = some none)
    (z_list : PySem.W.nsIn K mainGlobals "list" = some none)
    (z_int : PySem.W.nsIn K mainGlobals "int" = some none)
    (z_max : PySem.W.nsIn K mainGlobals "max" = some none)
    (z_range : PySem.W.nsIn K mainGlobals "range" = some none)
    (z_tuple : PySem.W.nsIn K mainGlobals "tuple" = some none)
    (z_all : PySem.W.nsIn K mainGlobals "all" = some none)
    (z_enumerate : PySem.W.nsIn K mainGlobals "enumerate" = some none)
    (z_zip : PySem.W.nsIn K mainGlobals "zip" = some none)
    (z_repr : PySem.W.nsIn K mainGlobals "repr" = some none)
    (z_reversed : PySem.W.nsIn K mainGlobals "reversed" = some none)
    (z_abs : PySem.W.nsIn K mainGlobals "abs" = some none)
    (z_bool : PySem.W.nsIn K mainGlobals "bool" = some none)
    : ∃ fd : FuncData, (∀ (s : Shared) (v : Value), BindsTo s fd ⟨[v], []⟩ [("_law_script", v)]) ∧ ∀ base : Heap, K.In base → base.Ns mainGlobals mg → FnDG l.prog w K mg base CX0 206 100 fa fd ["_law_script"] (sp_law K) := by
  have e := hfa.symm.trans (PySem.W.mg_of X G a25)
  cases e
  obtain ⟨e_TurnError, x_TurnError⟩ := cls_mk l_TurnError rfl ga_TurnError gg_TurnError ha_TurnError hn ht
  obtain ⟨e_InvalidTree, x_InvalidTree⟩ := cls_mk l_InvalidTree rfl ga_InvalidTree gg_InvalidTree ha_InvalidTree hn ht
  have o_InvalidTree := own_InvalidTree X G m_InvalidTree (oex_mk l_InvalidTree rfl sa_InvalidTree kC_InvalidTree e_InvalidTree) no_InvalidTree iC_InvalidTree (fty lf_InvalidTree) (fund_mk lf_InvalidTree cf_InvalidTree lT_InvalidTree)
  obtain ⟨e_InvalidList, x_InvalidList⟩ := cls_mk l_InvalidList rfl ga_InvalidList gg_InvalidList ha_InvalidList hn ht
  have o_InvalidList := own_InvalidList X G m_InvalidList (oex_mk l_InvalidList rfl sa_InvalidList kC_InvalidList e_InvalidList) no_InvalidList iC_InvalidList (fty lf_InvalidList) (fund_mk lf_InvalidList cf_InvalidList lT_InvalidList)
  obtain ⟨e_InvalidNumber, x_InvalidNumber⟩ := cls_mk l_InvalidNumber rfl ga_InvalidNumber gg_InvalidNumber ha_InvalidNumber hn ht
  have o_InvalidNumber := own_InvalidNumber X G m_InvalidNumber (oex_mk l_InvalidNumber rfl sa_InvalidNumber kC_InvalidNumber e_InvalidNumber) no_InvalidNumber iC_InvalidNumber (fty lf_InvalidNumber) (fund_mk lf_InvalidNumber cf_InvalidNumber lT_InvalidNumber)
  obtain ⟨e_InvalidScript, x_InvalidScript⟩ := cls_mk l_InvalidScript rfl ga_InvalidScript gg_InvalidScript ha_InvalidScript hn ht
  have o_InvalidScript := own_InvalidScript X G m_InvalidScript (oex_mk l_InvalidScript rfl sa_InvalidScript kC_InvalidScript e_InvalidScript) no_InvalidScript iC_InvalidScript (fty lf_InvalidScript) (fund_mk lf_InvalidScript cf_InvalidScript lT_InvalidScript)
  obtain ⟨e_InvalidMove, x_InvalidMove⟩ := cls_mk l_InvalidMove rfl ga_InvalidMove gg_InvalidMove ha_InvalidMove hn ht
  have o_InvalidMove := own_InvalidMove X G m_InvalidMove (oex_mk l_InvalidMove rfl sa_InvalidMove kC_InvalidMove e_InvalidMove) no_InvalidMove iC_InvalidMove (fty lf_InvalidMove) (fund_mk lf_InvalidMove cf_InvalidMove lT_InvalidMove)
  obtain ⟨e_CannotMove, x_CannotMove⟩ := cls_mk l_CannotMove rfl ga_CannotMove gg_CannotMove ha_CannotMove hn ht
  have o_CannotMove := own_CannotMove X G m_CannotMove (oex_mk l_CannotMove rfl sa_CannotMove kC_CannotMove e_CannotMove) no_CannotMove iC_CannotMove (fty lf_CannotMove) (fund_mk lf_CannotMove cf_CannotMove lT_CannotMove)
  have F_Growth___init__ := fun_mk (st := s_Growth___init__) l_Growth___init__ c_Growth___init__ k_Growth___init__
  have b_Growth___init__ := F_Growth___init__.binds (ps := ["self"]) fun _ _ _ _ _ _ us hl => match us, hl with | [_], _ => rfl
  have F_Growth_unfold := fun_mk (st := s_Growth_unfold) l_Growth_unfold c_Growth_unfold k_Growth_unfold
  have b_Growth_unfold := F_Growth_unfold.binds (ps := ["self", "number"]) fun _ _ _ _ _ _ us hl => match us, hl with | [_, _], _ => rfl
  have F_Growth_sides := fun_mk (st := s_Growth_sides) l_Growth_sides c_Growth_sides k_Growth_sides
  have b_Growth_sides := F_Growth_sides.binds (ps := ["self", "number"]) fun _ _ _ _ _ _ us hl => match us, hl with | [_, _], _ => rfl
  have F_Growth_turn := fun_mk (st := s_Growth_turn) l_Growth_turn c_Growth_turn k_Growth_turn
  have b_Growth_turn := F_Growth_turn.binds (ps := ["self", "word", "address"]) fun _ _ _ _ _ _ us hl => match us, hl with | [_, _, _], _ => rfl
  have F_Move___init__ := fun_mk (st := s_Move___init__) l_Move___init__ c_Move___init__ k_Move___init__
  have b_Move___init__ := F_Move___init__.binds (ps := ["self", "before", "after"]) fun _ _ _ _ _ _ us hl => match us, hl with | [_, _, _], _ => rfl
  have F_Move_of := fun_mk (st := s_Move_of) l_Move_of c_Move_of k_Move_of
  have b_Move_of := F_Move_of.binds (ps := ["steps"]) fun _ _ _ _ _ _ us hl => match us, hl with | [_], _ => rfl
  have F_Move_before := fun_mk (st := s_Move_before) l_Move_before c_Move_before k_Move_before
  have b_Move_before := F_Move_before.binds (ps := ["self"]) fun _ _ _ _ _ _ us hl => match us, hl with | [_], _ => rfl
  have F_Move_after := fun_mk (st := s_Move_after) l_Move_after c_Move_after k_Move_after
  have b_Move_after := F_Move_after.binds (ps := ["self"]) fun _ _ _ _ _ _ us hl => match us, hl with | [_], _ => rfl
  have F_Move___call__ := fun_mk (st := s_Move___call__) l_Move___call__ c_Move___call__ k_Move___call__
  have b_Move___call__ := F_Move___call__.binds (ps := ["self", "tree"]) fun _ _ _ _ _ _ us hl => match us, hl with | [_, _], _ => rfl
  have F_Move_can := fun_mk (st := s_Move_can) l_Move_can c_Move_can k_Move_can
  have b_Move_can := F_Move_can.binds (ps := ["self", "tree"]) fun _ _ _ _ _ _ us hl => match us, hl with | [_, _], _ => rfl
  have F_Move___eq__ := fun_mk (st := s_Move___eq__) l_Move___eq__ c_Move___eq__ k_Move___eq__
  have b_Move___eq__ := F_Move___eq__.binds (ps := ["self", "other"]) fun _ _ _ _ _ _ us hl => match us, hl with | [_, _], _ => rfl
  have F_Move___repr__ := fun_mk (st := s_Move___repr__) l_Move___repr__ c_Move___repr__ k_Move___repr__
  have b_Move___repr__ := F_Move___repr__.binds (ps := ["self"]) fun _ _ _ _ _ _ us hl => match us, hl with | [_], _ => rfl
  have F_Move___mul__ := fun_mk (st := s_Move___mul__) l_Move___mul__ c_Move___mul__ k_Move___mul__
  have b_Move___mul__ := F_Move___mul__.binds (ps := ["self", "other"]) fun _ _ _ _ _ _ us hl => match us, hl with | [_, _], _ => rfl
  have F_Move___invert__ := fun_mk (st := s_Move___invert__) l_Move___invert__ c_Move___invert__ k_Move___invert__
  have b_Move___invert__ := F_Move___invert__.binds (ps := ["self"]) fun _ _ _ _ _ _ us hl => match us, hl with | [_], _ => rfl
  have F_Move___le__ := fun_mk (st := s_Move___le__) l_Move___le__ c_Move___le__ k_Move___le__
  have b_Move___le__ := F_Move___le__.binds (ps := ["self", "other"]) fun _ _ _ _ _ _ us hl => match us, hl with | [_, _], _ => rfl
  have F_Move___lt__ := fun_mk (st := s_Move___lt__) l_Move___lt__ c_Move___lt__ k_Move___lt__
  have b_Move___lt__ := F_Move___lt__.binds (ps := ["self", "other"]) fun _ _ _ _ _ _ us hl => match us, hl with | [_, _], _ => rfl
  have F_Move___ge__ := fun_mk (st := s_Move___ge__) l_Move___ge__ c_Move___ge__ k_Move___ge__
  have b_Move___ge__ := F_Move___ge__.binds (ps := ["self", "other"]) fun _ _ _ _ _ _ us hl => match us, hl with | [_, _], _ => rfl
  have F_Move___gt__ := fun_mk (st := s_Move___gt__) l_Move___gt__ c_Move___gt__ k_Move___gt__
  have b_Move___gt__ := F_Move___gt__.binds (ps := ["self", "other"]) fun _ _ _ _ _ _ us hl => match us, hl with | [_, _], _ => rfl
  have F_Move_times := fun_mk (st := s_Move_times) l_Move_times c_Move_times k_Move_times
  have b_Move_times := F_Move_times.binds (ps := ["self", "count"]) fun _ _ _ _ _ _ us hl => match us, hl with | [_, _], _ => rfl
  have F0 := fun_mk (st := s_is_tree) l0 c0 k0
  have b0 := F0.binds (ps := ["value"]) fun _ _ _ _ _ _ us hl => match us, hl with | [_], _ => rfl
  have F1 := fun_mk (st := s_is_address) l1 c1 k1
  have b1 := F1.binds (ps := ["value"]) fun _ _ _ _ _ _ us hl => match us, hl with | [_], _ => rfl
  have F2 := fun_mk (st := s_check_tree) l2 c2 k2
  have b2 := F2.binds (ps := ["value"]) fun _ _ _ _ _ _ us hl => match us, hl with | [_], _ => rfl
  have F3 := fun_mk (st := s_ends) l3 c3 k3
  have b3 := F3.binds (ps := ["tree"]) fun _ _ _ _ _ _ us hl => match us, hl with | [_], _ => rfl
  have F4 := fun_mk (st := s_check_hung) l4 c4 k4
  have b4 := F4.binds (ps := ["tree", "trees"]) fun _ _ _ _ _ _ us hl => match us, hl with | [_, _], _ => rfl
  have F5 := fun_mk (st := s_grown) l5 c5 k5
  have b5 := F5.binds (ps := ["tree", "hung"]) fun _ _ _ _ _ _ us hl => match us, hl with | [_, _], _ => rfl
  have F6 := fun_mk (st := s_hung) l6 c6 k6
  have b6 := F6.binds (ps := ["tree", "top"]) fun _ _ _ _ _ _ us hl => match us, hl with | [_, _], _ => rfl
  have F7 := fun_mk (st := s_joined) l7 c7 k7
  have b7 := F7.binds (ps := ["one", "other"]) fun _ _ _ _ _ _ us hl => match us, hl with | [_, _], _ => rfl
  have F8 := fun_mk (st := s_shared) l8 c8 k8
  have b8 := F8.binds (ps := ["one", "other"]) fun _ _ _ _ _ _ us hl => match us, hl with | [_, _], _ => rfl
  have F9 := fun_mk (st := s_is_step) l9 c9 k9
  have b9 := F9.binds (ps := ["value"]) fun _ _ _ _ _ _ us hl => match us, hl with | [_], _ => rfl
  have F10 := fun_mk (st := s_checked_script) l10 c10 k10
  have b10 := F10.binds (ps := ["steps"]) fun _ _ _ _ _ _ us hl => match us, hl with | [_], _ => rfl
  have F11 := fun_mk (st := s_written) l11 c11 k11
  have b11 := F11.binds (ps := ["pairs"]) fun _ _ _ _ _ _ us hl => match us, hl with | [_], _ => rfl
  have F12 := fun_mk (st := s_pair_of) l12 c12 k12
  have b12 := F12.binds (ps := ["steps"]) fun _ _ _ _ _ _ us hl => match us, hl with | [_], _ => rfl
  have F13 := fun_mk (st := s_is_whole) l13 c13 k13
  have b13 := F13.binds (ps := ["value"]) fun _ _ _ _ _ _ us hl => match us, hl with | [_], _ => rfl
  have F14 := fun_mk (st := s_check_whole) l14 c14 k14
  have b14 := F14.binds (ps := ["value"]) fun _ _ _ _ _ _ us hl => match us, hl with | [_], _ => rfl
  have F15 := fun_mk (st := s_moved) l15 c15 k15
  have b15 := F15.binds (ps := ["tree", "before", "after"]) fun _ _ _ _ _ _ us hl => match us, hl with | [_, _, _], _ => rfl
  have F16 := fun_mk (st := s_law_cell) l16 c16 k16
  have b16 := F16.binds (ps := ["_law_script", "_law_index"]) fun _ _ _ _ _ _ us hl => match us, hl with | [_, _], _ => rfl
  have F17 := fun_mk (st := s_law_hash) l17 c17 k17
  have b17 := F17.binds (ps := ["_law_seed", "_law_index"]) fun _ _ _ _ _ _ us hl => match us, hl with | [_, _], _ => rfl
  have F18 := fun_mk (st := s_law_generator) l18 c18 k18
  have b18 := F18.binds (ps := ["_law_script", "_law_index"]) fun _ _ _ _ _ _ us hl => match us, hl with | [_, _], _ => rfl
  have F19 := fun_mk (st := s_law_address) l19 c19 k19
  have b19 := F19.binds (ps := ["_law_generator_here", "_law_longest"]) fun _ _ _ _ _ _ us hl => match us, hl with | [_, _], _ => rfl
  have F20 := fun_mk (st := s_law_steps) l20 c20 k20
  have b20 := F20.binds (ps := ["_law_generator_here", "_law_many", "_law_deep"]) fun _ _ _ _ _ _ us hl => match us, hl with | [_, _, _], _ => rfl
  have F21 := fun_mk (st := s_law_random) l21 c21 k21
  have b21 := F21.binds (ps := ["_law_generator_here", "_law_bound"]) fun _ _ _ _ _ _ us hl => match us, hl with | [_, _], _ => rfl
  have F22 := fun_mk (st := s_law_caught) l22 c22 k22
  have b22 := F22.binds (ps := ["_law_move", "_law_often"]) fun _ _ _ _ _ _ us hl => match us, hl with | [_, _], _ => rfl
  have F23 := fun_mk (st := s_law_product) l23 c23 k23
  have b23 := F23.binds (ps := ["_law_move", "_law_often"]) fun _ _ _ _ _ _ us hl => match us, hl with | [_, _], _ => rfl
  have F24 := fun_mk (st := s_law_great_right) l24 c24 k24
  have b24 := F24.binds (ps := ["_law_generator_here"]) fun _ _ _ _ _ _ us hl => match us, hl with | [_], _ => rfl
  have F25 := fun_mk (st := s_law) l25 c25 k25
  have b25 := F25.binds (ps := ["_law_script"]) fun _ _ _ _ _ _ us hl => match us, hl with | [_], _ => rfl
  refine ⟨PySem.W.fnOf "law" "law" (defArgs s_law) (defBody s_law) (defScope s_law) .none kV25 dc25 pm25 an25 cd25 ct25, fun s v => .of_eq rfl, fun base _ _ => ?_⟩
  exact ok_law { c_TurnError := _, g_TurnError := PySem.W.mg_of X G m_TurnError, e_TurnError := e_TurnError, c_InvalidTree := _, g_InvalidTree := PySem.W.mg_of X G m_InvalidTree, e_InvalidTree := e_InvalidTree, o_InvalidTree := o_InvalidTree, x_InvalidTree := x_InvalidTree, n_InvalidTree := no_InvalidTree, c_InvalidList := _, g_InvalidList := PySem.W.mg_of X G m_InvalidList, e_InvalidList := e_InvalidList, o_InvalidList := o_InvalidList, x_InvalidList := x_InvalidList, n_InvalidList := no_InvalidList, c_InvalidNumber := _, g_InvalidNumber := PySem.W.mg_of X G m_InvalidNumber, e_InvalidNumber := e_InvalidNumber, o_InvalidNumber := o_InvalidNumber, x_InvalidNumber := x_InvalidNumber, n_InvalidNumber := no_InvalidNumber, c_InvalidScript := _, g_InvalidScript := PySem.W.mg_of X G m_InvalidScript, e_InvalidScript := e_InvalidScript, o_InvalidScript := o_InvalidScript, x_InvalidScript := x_InvalidScript, n_InvalidScript := no_InvalidScript, c_InvalidMove := _, g_InvalidMove := PySem.W.mg_of X G m_InvalidMove, e_InvalidMove := e_InvalidMove, o_InvalidMove := o_InvalidMove, x_InvalidMove := x_InvalidMove, n_InvalidMove := no_InvalidMove, c_CannotMove := _, g_CannotMove := PySem.W.mg_of X G m_CannotMove, e_CannotMove := e_CannotMove, o_CannotMove := o_CannotMove, x_CannotMove := x_CannotMove, n_CannotMove := no_CannotMove, nd := nd, d_OTHER_WORD := D_OTHER_WORD, m_OTHER_WORD := PySem.W.mg_of X G m_OTHER_WORD, k_OTHER_WORD := TD.kd_mk2 l_OTHER_WORD e1_OTHER_WORD e2_OTHER_WORD lo_OTHER_WORD, a_Growth___init__ := _, fd_Growth___init__ := _, F_Growth___init__ := F_Growth___init__, b_Growth___init__ := b_Growth___init__, k_Growth := ⟨mk_Growth, at_Growth___init__, is_Growth___init__, kc_Growth⟩, a_Growth_unfold := _, fd_Growth_unfold := _, F_Growth_unfold := F_Growth_unfold, b_Growth_unfold := b_Growth_unfold, t_Growth_unfold := ⟨at_Growth_unfold, is_Growth_unfold, k_Growth_unfold⟩, a_Growth_sides := _, fd_Growth_sides := _, F_Growth_sides := F_Growth_sides, b_Growth_sides := b_Growth_sides, t_Growth_sides := ⟨at_Growth_sides, is_Growth_sides, k_Growth_sides⟩, a_Growth_turn := _, fd_Growth_turn := _, F_Growth_turn := F_Growth_turn, b_Growth_turn := b_Growth_turn, t_Growth_turn := ⟨at_Growth_turn, is_Growth_turn, k_Growth_turn⟩, a_Move___init__ := _, fd_Move___init__ := _, F_Move___init__ := F_Move___init__, b_Move___init__ := b_Move___init__, k_Move := ⟨mk_Move, at_Move___init__, is_Move___init__, kc_Move⟩, a_Move_of := _, fd_Move_of := _, F_Move_of := F_Move_of, b_Move_of := b_Move_of, pa_Move_of := _, s_Move_of := ⟨at_Move_of, ⟨_, pr_Move_of⟩, k_Move_of⟩, a_Move_before := _, fd_Move_before := _, F_Move_before := F_Move_before, b_Move_before := b_Move_before, pa_Move_before := _, p_Move_before := ⟨at_Move_before, pg_Move_before, pt_Move_before, ⟨_, pr_Move_before⟩⟩, a_Move_after := _, fd_Move_after := _, F_Move_after := F_Move_after, b_Move_after := b_Move_after, pa_Move_after := _, p_Move_after := ⟨at_Move_after, pg_Move_after, pt_Move_after, ⟨_, pr_Move_after⟩⟩, a_Move___call__ := _, fd_Move___call__ := _, F_Move___call__ := F_Move___call__, b_Move___call__ := b_Move___call__, q_Move := ⟨at_Move___call__, is_Move___call__, fi_Move___call__⟩, a_Move_can := _, fd_Move_can := _, F_Move_can := F_Move_can, b_Move_can := b_Move_can, t_Move_can := ⟨at_Move_can, is_Move_can, k_Move_can⟩, a_Move___eq__ := _, fd_Move___eq__ := _, F_Move___eq__ := F_Move___eq__, b_Move___eq__ := b_Move___eq__, o_Move___eq__ := ⟨at_Move___eq__, is_Move___eq__⟩, a_Move___repr__ := _, fd_Move___repr__ := _, F_Move___repr__ := F_Move___repr__, b_Move___repr__ := b_Move___repr__, o_Move___repr__ := ⟨at_Move___repr__, is_Move___repr__⟩, a_Move___mul__ := _, fd_Move___mul__ := _, F_Move___mul__ := F_Move___mul__, b_Move___mul__ := b_Move___mul__, o_Move___mul__ := ⟨at_Move___mul__, is_Move___mul__⟩, a_Move___invert__ := _, fd_Move___invert__ := _, F_Move___invert__ := F_Move___invert__, b_Move___invert__ := b_Move___invert__, o_Move___invert__ := ⟨at_Move___invert__, is_Move___invert__⟩, a_Move___le__ := _, fd_Move___le__ := _, F_Move___le__ := F_Move___le__, b_Move___le__ := b_Move___le__, o_Move___le__ := ⟨at_Move___le__, is_Move___le__⟩, a_Move___lt__ := _, fd_Move___lt__ := _, F_Move___lt__ := F_Move___lt__, b_Move___lt__ := b_Move___lt__, o_Move___lt__ := ⟨at_Move___lt__, is_Move___lt__⟩, a_Move___ge__ := _, fd_Move___ge__ := _, F_Move___ge__ := F_Move___ge__, b_Move___ge__ := b_Move___ge__, o_Move___ge__ := ⟨at_Move___ge__, is_Move___ge__⟩, a_Move___gt__ := _, fd_Move___gt__ := _, F_Move___gt__ := F_Move___gt__, b_Move___gt__ := b_Move___gt__, o_Move___gt__ := ⟨at_Move___gt__, is_Move___gt__⟩, a_Move_times := _, fd_Move_times := _, F_Move_times := F_Move_times, b_Move_times := b_Move_times, t_Move_times := ⟨at_Move_times, is_Move_times, k_Move_times⟩, c_Growth := C_Growth, g_Growth := PySem.W.mg_of X G m_Growth, l_Growth := ⟨pg_Growth, hd_Growth, po_Growth, sa_Growth⟩, n_Growth_origin := na_Growth_origin, n_Growth_current := na_Growth_current, n_Growth_many := na_Growth_many, c_Move := C_Move, g_Move := PySem.W.mg_of X G m_Move, l_Move := ⟨pg_Move, hd_Move, po_Move, sa_Move⟩, mc_Move := mc_Move, r_Move := ⟨rd_Move, ga_Move⟩, sf_Move := sf_Move, ne_Move := ⟨ob_Move, nx_Move⟩, y_Move := ⟨ha_Move, hn, ht, ob_Move⟩, ktint_Move := OW.kit_mro (by decide +kernel) ktint_Move, ktbool_Move := OW.kit_mro (by decide +kernel) ktbool_Move, ktstr_Move := OW.kit_mro (by decide +kernel) ktstr_Move, tt_Move := tt_Move, n_Move__before := na_Move__before, n_Move__after := na_Move__after, a_is_tree := _, fd_is_tree := _, F_is_tree := F0, b_is_tree := b0, m_is_tree := PySem.W.mg_of X G a0, a_is_address := _, fd_is_address := _, F_is_address := F1, b_is_address := b1, m_is_address := PySem.W.mg_of X G a1, a_check_tree := _, fd_check_tree := _, F_check_tree := F2, b_check_tree := b2, m_check_tree := PySem.W.mg_of X G a2, a_ends := _, fd_ends := _, F_ends := F3, b_ends := b3, m_ends := PySem.W.mg_of X G a3, a_check_hung := _, fd_check_hung := _, F_check_hung := F4, b_check_hung := b4, m_check_hung := PySem.W.mg_of X G a4, a_grown := _, fd_grown := _, F_grown := F5, b_grown := b5, m_grown := PySem.W.mg_of X G a5, a_hung := _, fd_hung := _, F_hung := F6, b_hung := b6, m_hung := PySem.W.mg_of X G a6, a_joined := _, fd_joined := _, F_joined := F7, b_joined := b7, m_joined := PySem.W.mg_of X G a7, a_shared := _, fd_shared := _, F_shared := F8, b_shared := b8, m_shared := PySem.W.mg_of X G a8, a_is_step := _, fd_is_step := _, F_is_step := F9, b_is_step := b9, m_is_step := PySem.W.mg_of X G a9, a_checked_script := _, fd_checked_script := _, F_checked_script := F10, b_checked_script := b10, m_checked_script := PySem.W.mg_of X G a10, a_written := _, fd_written := _, F_written := F11, b_written := b11, m_written := PySem.W.mg_of X G a11, a_pair_of := _, fd_pair_of := _, F_pair_of := F12, b_pair_of := b12, m_pair_of := PySem.W.mg_of X G a12, a_is_whole := _, fd_is_whole := _, F_is_whole := F13, b_is_whole := b13, m_is_whole := PySem.W.mg_of X G a13, a_check_whole := _, fd_check_whole := _, F_check_whole := F14, b_check_whole := b14, m_check_whole := PySem.W.mg_of X G a14, a_moved := _, fd_moved := _, F_moved := F15, b_moved := b15, m_moved := PySem.W.mg_of X G a15, a_law_cell := _, fd_law_cell := _, F_law_cell := F16, b_law_cell := b16, m_law_cell := PySem.W.mg_of X G a16, a_law_hash := _, fd_law_hash := _, F_law_hash := F17, b_law_hash := b17, m_law_hash := PySem.W.mg_of X G a17, a_law_generator := _, fd_law_generator := _, F_law_generator := F18, b_law_generator := b18, m_law_generator := PySem.W.mg_of X G a18, a_law_address := _, fd_law_address := _, F_law_address := F19, b_law_address := b19, m_law_address := PySem.W.mg_of X G a19, a_law_steps := _, fd_law_steps := _, F_law_steps := F20, b_law_steps := b20, m_law_steps := PySem.W.mg_of X G a20, a_law_random := _, fd_law_random := _, F_law_random := F21, b_law_random := b21, m_law_random := PySem.W.mg_of X G a21, a_law_caught := _, fd_law_caught := _, F_law_caught := F22, b_law_caught := b22, m_law_caught := PySem.W.mg_of X G a22, a_law_product := _, fd_law_product := _, F_law_product := F23, b_law_product := b23, m_law_product := PySem.W.mg_of X G a23, a_law_great_right := _, fd_law_great_right := _, F_law_great_right := F24, b_law_great_right := b24, m_law_great_right := PySem.W.mg_of X G a24, a_law := _, fd_law := _, F_law := F25, b_law := b25, m_law := PySem.W.mg_of X G a25, z_isinstance := PySem.W.mg_none_of X G z_isinstance, z_str := PySem.W.mg_none_of X G z_str, z_len := PySem.W.mg_none_of X G z_len, z_list := PySem.W.mg_none_of X G z_list, z_int := PySem.W.mg_none_of X G z_int, z_max := PySem.W.mg_none_of X G z_max, z_range := PySem.W.mg_none_of X G z_range, z_tuple := PySem.W.mg_none_of X G z_tuple, z_all := PySem.W.mg_none_of X G z_all, z_enumerate := PySem.W.mg_none_of X G z_enumerate, z_zip := PySem.W.mg_none_of X G z_zip, z_repr := PySem.W.mg_none_of X G z_repr, z_reversed := PySem.W.mg_none_of X G z_reversed, z_abs := PySem.W.mg_none_of X G z_abs, z_bool := PySem.W.mg_none_of X G z_bool }
theorem walk {l : PySem.W.OpenLaw} {q : Program} {loose : List Str} {XP : (Str → Option Value) → Heap → Prop} {YP : World → Heap → Prop} {d : DefRec} {K : Params → PySem.W.Frag} (hn : l.most = some 63) (hdf : d.params.defaults = [])
    (hY : ∀ (w : World) (h : Heap), YP w h → (K w.params).In h)
    (F : ∀ (w : World) (mg : Str → Option Value) (fa : Addr) (h : Heap), (K w.params).In h → h.Ns mainGlobals mg → mg d.name = some (.ref fa) →
      ∃ fd : FuncData, (∀ (s : Shared) (u : Value), BindsTo s fd ⟨[u], []⟩ [("_law_script", u)]) ∧ ∀ base : Heap, (K w.params).In base → base.Ns mainGlobals mg → FnDG l.prog w (K w.params) mg base CX0 206 100 fa fd ["_law_script"] (sp_law (K w.params))) :
    PySem.W.WalkO q loose XP YP l.row.toRowW d [] (fun f vs => PySem.call f vs) :=
  walkGD (n := 63) (m := 206) (k := 100) (x := "_law_script") (sp := fun w => sp_law (K w.params)) hn (by decide) hdf ⟨rfl, by decide, by decide⟩ hY F (fun _ _ a ns hl _ hS => ⟨a, ns, rfl, hS, hl, fun _ => rfl⟩)
end Toy

open PySem PySem.W PyProof.Rows in
set_option maxRecDepth 100000 in
set_option maxHeartbeats 0 in
theorem PySem.Challenge.cw_treeturns_k23_moves_done_often_holds : PySem.Challenge.rw_treeturns_k23_moves_done_often.Holds := by
  w_on; o_law; k_head; (case hw => w_witness2)
  k_fill
  refine Toy.walk (l := PySem.Challenge.rw_treeturns_k23_moves_done_often) rfl rfl (fun w h Y => PySem.W.kIn_of Y) ?F
  case F =>
    intro w mg fa h KX G hmg
    refine' Toy.all_mk KX G hmg ?hn ?ht ?m_TurnError ?l_TurnError ?ga_TurnError ?gg_TurnError ?ha_TurnError ?m_InvalidTree ?l_InvalidTree ?ga_InvalidTree ?gg_InvalidTree ?ha_InvalidTree ?sa_InvalidTree ?kC_InvalidTree ?no_InvalidTree ?iC_InvalidTree ?lf_InvalidTree ?cf_InvalidTree ?lT_InvalidTree ?m_InvalidList ?l_InvalidList ?ga_InvalidList ?gg_InvalidList ?ha_InvalidList ?sa_InvalidList ?kC_InvalidList ?no_InvalidList ?iC_InvalidList ?lf_InvalidList ?cf_InvalidList ?lT_InvalidList ?m_InvalidNumber ?l_InvalidNumber ?ga_InvalidNumber ?gg_InvalidNumber ?ha_InvalidNumber ?sa_InvalidNumber ?kC_InvalidNumber ?no_InvalidNumber ?iC_InvalidNumber ?lf_InvalidNumber ?cf_InvalidNumber ?lT_InvalidNumber ?m_InvalidScript ?l_InvalidScript ?ga_InvalidScript ?gg_InvalidScript ?ha_InvalidScript ?sa_InvalidScript ?kC_InvalidScript ?no_InvalidScript ?iC_InvalidScript ?lf_InvalidScript ?cf_InvalidScript ?lT_InvalidScript ?m_InvalidMove ?l_InvalidMove ?ga_InvalidMove ?gg_InvalidMove ?ha_InvalidMove ?sa_InvalidMove ?kC_InvalidMove ?no_InvalidMove ?iC_InvalidMove ?lf_InvalidMove ?cf_InvalidMove ?lT_InvalidMove ?m_CannotMove ?l_CannotMove ?ga_CannotMove ?gg_CannotMove ?ha_CannotMove ?sa_CannotMove ?kC_CannotMove ?no_CannotMove ?iC_CannotMove ?lf_CannotMove ?cf_CannotMove ?lT_CannotMove ?nd ?m_OTHER_WORD ?l_OTHER_WORD ?e1_OTHER_WORD ?e2_OTHER_WORD ?lo_OTHER_WORD ?m_Growth ?pg_Growth ?hd_Growth ?po_Growth ?sa_Growth ?mk_Growth ?kc_Growth ?na_Growth_origin ?na_Growth_current ?na_Growth_many ?at_Growth___init__ ?is_Growth___init__ ?l_Growth___init__ ?c_Growth___init__ ?k_Growth___init__ ?at_Growth_unfold ?is_Growth_unfold ?l_Growth_unfold ?c_Growth_unfold ?k_Growth_unfold ?at_Growth_sides ?is_Growth_sides ?l_Growth_sides ?c_Growth_sides ?k_Growth_sides ?at_Growth_turn ?is_Growth_turn ?l_Growth_turn ?c_Growth_turn ?k_Growth_turn ?m_Move ?pg_Move ?hd_Move ?po_Move ?sa_Move ?mk_Move ?kc_Move ?ty_Move ?rd_Move ?ga_Move ?sf_Move ?ob_Move ?nx_Move ?ha_Move ?tt_Move ?ktint_Move ?ktbool_Move ?ktstr_Move ?na_Move__before ?na_Move__after ?at_Move___init__ ?is_Move___init__ ?l_Move___init__ ?c_Move___init__ ?k_Move___init__ ?at_Move_of ?pr_Move_of ?is_Move_of ?l_Move_of ?c_Move_of ?k_Move_of ?at_Move_before ?pg_Move_before ?pt_Move_before ?pr_Move_before ?is_Move_before ?l_Move_before ?c_Move_before ?k_Move_before ?at_Move_after ?pg_Move_after ?pt_Move_after ?pr_Move_after ?is_Move_after ?l_Move_after ?c_Move_after ?k_Move_after ?at_Move___call__ ?is_Move___call__ ?l_Move___call__ ?c_Move___call__ ?k_Move___call__ ?fi_Move___call__ ?at_Move_can ?is_Move_can ?l_Move_can ?c_Move_can ?k_Move_can ?at_Move___eq__ ?is_Move___eq__ ?l_Move___eq__ ?c_Move___eq__ ?k_Move___eq__ ?at_Move___repr__ ?is_Move___repr__ ?l_Move___repr__ ?c_Move___repr__ ?k_Move___repr__ ?at_Move___mul__ ?is_Move___mul__ ?l_Move___mul__ ?c_Move___mul__ ?k_Move___mul__ ?at_Move___invert__ ?is_Move___invert__ ?l_Move___invert__ ?c_Move___invert__ ?k_Move___invert__ ?at_Move___le__ ?is_Move___le__ ?l_Move___le__ ?c_Move___le__ ?k_Move___le__ ?at_Move___lt__ ?is_Move___lt__ ?l_Move___lt__ ?c_Move___lt__ ?k_Move___lt__ ?at_Move___ge__ ?is_Move___ge__ ?l_Move___ge__ ?c_Move___ge__ ?k_Move___ge__ ?at_Move___gt__ ?is_Move___gt__ ?l_Move___gt__ ?c_Move___gt__ ?k_Move___gt__ ?at_Move_times ?is_Move_times ?l_Move_times ?c_Move_times ?k_Move_times ?a0 ?l0 ?c0 ?k0 ?a1 ?l1 ?c1 ?k1 ?a2 ?l2 ?c2 ?k2 ?a3 ?l3 ?c3 ?k3 ?a4 ?l4 ?c4 ?k4 ?a5 ?l5 ?c5 ?k5 ?a6 ?l6 ?c6 ?k6 ?a7 ?l7 ?c7 ?k7 ?a8 ?l8 ?c8 ?k8 ?a9 ?l9 ?c9 ?k9 ?a10 ?l10 ?c10 ?k10 ?a11 ?l11 ?c11 ?k11 ?a12 ?l12 ?c12 ?k12 ?a13 ?l13 ?c13 ?k13 ?a14 ?l14 ?c14 ?k14 ?a15 ?l15 ?c15 ?k15 ?a16 ?l16 ?c16 ?k16 ?a17 ?l17 ?c17 ?k17 ?a18 ?l18 ?c18 ?k18 ?a19 ?l19 ?c19 ?k19 ?a20 ?l20 ?c20 ?k20 ?a21 ?l21 ?c21 ?k21 ?a22 ?l22 ?c22 ?k22 ?a23 ?l23 ?c23 ?k23 ?a24 ?l24 ?c24 ?k24 ?a25 ?l25 ?c25 ?k25 ?z_isinstance ?z_str ?z_len ?z_list ?z_int ?z_max ?z_range ?z_tuple ?z_all ?z_enumerate ?z_zip ?z_repr ?z_reversed ?z_abs ?z_bool
    (case hn => k_is)
    (case ht => k_is)
    (case m_TurnError => k_is)
    (case l_TurnError => k_is)
    (case ga_TurnError => k_is)
    (case gg_TurnError => k_is)
    (case ha_TurnError => k_is)
    (case m_InvalidTree => k_is)
    (case l_InvalidTree => k_is)
    (case ga_InvalidTree => k_is)
    (case gg_InvalidTree => k_is)
    (case ha_InvalidTree => k_is)
    (case sa_InvalidTree => k_is)
    (case kC_InvalidTree => k_is)
    (case no_InvalidTree => k_is)
    (case iC_InvalidTree => k_is)
    (case lf_InvalidTree => k_is)
    (case cf_InvalidTree => k_is)
    (case lT_InvalidTree => k_is)
    (case m_InvalidList => k_is)
    (case l_InvalidList => k_is)
    (case ga_InvalidList => k_is)
    (case gg_InvalidList => k_is)
    (case ha_InvalidList => k_is)
    (case sa_InvalidList => k_is)
    (case kC_InvalidList => k_is)
    (case no_InvalidList => k_is)
    (case iC_InvalidList => k_is)
    (case lf_InvalidList => k_is)
    (case cf_InvalidList => k_is)
    (case lT_InvalidList => k_is)
    (case m_InvalidNumber => k_is)
    (case l_InvalidNumber => k_is)
    (case ga_InvalidNumber => k_is)
    (case gg_InvalidNumber => k_is)
    (case ha_InvalidNumber => k_is)
    (case sa_InvalidNumber => k_is)
    (case kC_InvalidNumber => k_is)
    (case no_InvalidNumber => k_is)
    (case iC_InvalidNumber => k_is)
    (case lf_InvalidNumber => k_is)
    (case cf_InvalidNumber => k_is)
    (case lT_InvalidNumber => k_is)
    (case m_InvalidScript => k_is)
    (case l_InvalidScript => k_is)
    (case ga_InvalidScript => k_is)
    (case gg_InvalidScript => k_is)
    (case ha_InvalidScript => k_is)
    (case sa_InvalidScript => k_is)
    (case kC_InvalidScript => k_is)
    (case no_InvalidScript => k_is)
    (case iC_InvalidScript => k_is)
    (case lf_InvalidScript => k_is)
    (case cf_InvalidScript => k_is)
    (case lT_InvalidScript => k_is)
    (case m_InvalidMove => k_is)
    (case l_InvalidMove => k_is)
    (case ga_InvalidMove => k_is)
    (case gg_InvalidMove => k_is)
    (case ha_InvalidMove => k_is)
    (case sa_InvalidMove => k_is)
    (case kC_InvalidMove => k_is)
    (case no_InvalidMove => k_is)
    (case iC_InvalidMove => k_is)
    (case lf_InvalidMove => k_is)
    (case cf_InvalidMove => k_is)
    (case lT_InvalidMove => k_is)
    (case m_CannotMove => k_is)
    (case l_CannotMove => k_is)
    (case ga_CannotMove => k_is)
    (case gg_CannotMove => k_is)
    (case ha_CannotMove => k_is)
    (case sa_CannotMove => k_is)
    (case kC_CannotMove => k_is)
    (case no_CannotMove => k_is)
    (case iC_CannotMove => k_is)
    (case lf_CannotMove => k_is)
    (case cf_CannotMove => k_is)
    (case lT_CannotMove => k_is)
    (case nd => decide)
    (case m_OTHER_WORD => k_is)
    (case l_OTHER_WORD => k_is)
    (case e1_OTHER_WORD => rfl)
    (case e2_OTHER_WORD => rfl)
    (case lo_OTHER_WORD => rfl)
    (case m_Growth => k_is)
    (case pg_Growth => k_is)
    (case hd_Growth => k_is)
    (case po_Growth => k_is)
    (case sa_Growth => k_is)
    (case mk_Growth => k_is)
    (case kc_Growth => k_is)
    (case na_Growth_origin => k_is)
    (case na_Growth_current => k_is)
    (case na_Growth_many => k_is)
    (case at_Growth___init__ => k_is)
    (case is_Growth___init__ => k_is)
    (case l_Growth___init__ => k_is)
    (case c_Growth___init__ => k_is)
    (case k_Growth___init__ => k_is)
    (case at_Growth_unfold => k_is)
    (case is_Growth_unfold => k_is)
    (case l_Growth_unfold => k_is)
    (case c_Growth_unfold => k_is)
    (case k_Growth_unfold => k_is)
    (case at_Growth_sides => k_is)
    (case is_Growth_sides => k_is)
    (case l_Growth_sides => k_is)
    (case c_Growth_sides => k_is)
    (case k_Growth_sides => k_is)
    (case at_Growth_turn => k_is)
    (case is_Growth_turn => k_is)
    (case l_Growth_turn => k_is)
    (case c_Growth_turn => k_is)
    (case k_Growth_turn => k_is)
    (case m_Move => k_is)
    (case pg_Move => k_is)
    (case hd_Move => k_is)
    (case po_Move => k_is)
    (case sa_Move => k_is)
    (case mk_Move => k_is)
    (case kc_Move => k_is)
    (case ty_Move => k_is)
    (case rd_Move => k_is)
    (case ga_Move => k_is)
    (case sf_Move => k_is)
    (case ob_Move => k_is)
    (case nx_Move => k_is)
    (case ha_Move => k_is)
    (case tt_Move => k_is)
    (case ktint_Move => k_is)
    (case ktbool_Move => k_is)
    (case ktstr_Move => k_is)
    (case na_Move__before => k_is)
    (case na_Move__after => k_is)
    (case at_Move___init__ => k_is)
    (case is_Move___init__ => k_is)
    (case l_Move___init__ => k_is)
    (case c_Move___init__ => k_is)
    (case k_Move___init__ => k_is)
    (case at_Move_of => k_is)
    (case pr_Move_of => k_is)
    (case is_Move_of => k_is)
    (case l_Move_of => k_is)
    (case c_Move_of => k_is)
    (case k_Move_of => k_is)
    (case at_Move_before => k_is)
    (case pg_Move_before => k_is)
    (case pt_Move_before => k_is)
    (case pr_Move_before => k_is)
    (case is_Move_before => k_is)
    (case l_Move_before => k_is)
    (case c_Move_before => k_is)
    (case k_Move_before => k_is)
    (case at_Move_after => k_is)
    (case pg_Move_after => k_is)
    (case pt_Move_after => k_is)
    (case pr_Move_after => k_is)
    (case is_Move_after => k_is)
    (case l_Move_after => k_is)
    (case c_Move_after => k_is)
    (case k_Move_after => k_is)
    (case at_Move___call__ => k_is)
    (case is_Move___call__ => k_is)
    (case l_Move___call__ => k_is)
    (case c_Move___call__ => k_is)
    (case k_Move___call__ => k_is)
    (case fi_Move___call__ => k_is)
    (case at_Move_can => k_is)
    (case is_Move_can => k_is)
    (case l_Move_can => k_is)
    (case c_Move_can => k_is)
    (case k_Move_can => k_is)
    (case at_Move___eq__ => k_is)
    (case is_Move___eq__ => k_is)
    (case l_Move___eq__ => k_is)
    (case c_Move___eq__ => k_is)
    (case k_Move___eq__ => k_is)
    (case at_Move___repr__ => k_is)
    (case is_Move___repr__ => k_is)
    (case l_Move___repr__ => k_is)
    (case c_Move___repr__ => k_is)
    (case k_Move___repr__ => k_is)
    (case at_Move___mul__ => k_is)
    (case is_Move___mul__ => k_is)
    (case l_Move___mul__ => k_is)
    (case c_Move___mul__ => k_is)
    (case k_Move___mul__ => k_is)
    (case at_Move___invert__ => k_is)
    (case is_Move___invert__ => k_is)
    (case l_Move___invert__ => k_is)
    (case c_Move___invert__ => k_is)
    (case k_Move___invert__ => k_is)
    (case at_Move___le__ => k_is)
    (case is_Move___le__ => k_is)
    (case l_Move___le__ => k_is)
    (case c_Move___le__ => k_is)
    (case k_Move___le__ => k_is)
    (case at_Move___lt__ => k_is)
    (case is_Move___lt__ => k_is)
    (case l_Move___lt__ => k_is)
    (case c_Move___lt__ => k_is)
    (case k_Move___lt__ => k_is)
    (case at_Move___ge__ => k_is)
    (case is_Move___ge__ => k_is)
    (case l_Move___ge__ => k_is)
    (case c_Move___ge__ => k_is)
    (case k_Move___ge__ => k_is)
    (case at_Move___gt__ => k_is)
    (case is_Move___gt__ => k_is)
    (case l_Move___gt__ => k_is)
    (case c_Move___gt__ => k_is)
    (case k_Move___gt__ => k_is)
    (case at_Move_times => k_is)
    (case is_Move_times => k_is)
    (case l_Move_times => k_is)
    (case c_Move_times => k_is)
    (case k_Move_times => k_is)
    (case a0 => k_is)
    (case l0 => k_is)
    (case c0 => k_is)
    (case k0 => k_is)
    (case a1 => k_is)
    (case l1 => k_is)
    (case c1 => k_is)
    (case k1 => k_is)
    (case a2 => k_is)
    (case l2 => k_is)
    (case c2 => k_is)
    (case k2 => k_is)
    (case a3 => k_is)
    (case l3 => k_is)
    (case c3 => k_is)
    (case k3 => k_is)
    (case a4 => k_is)
    (case l4 => k_is)
    (case c4 => k_is)
    (case k4 => k_is)
    (case a5 => k_is)
    (case l5 => k_is)
    (case c5 => k_is)
    (case k5 => k_is)
    (case a6 => k_is)
    (case l6 => k_is)
    (case c6 => k_is)
    (case k6 => k_is)
    (case a7 => k_is)
    (case l7 => k_is)
    (case c7 => k_is)
    (case k7 => k_is)
    (case a8 => k_is)
    (case l8 => k_is)
    (case c8 => k_is)
    (case k8 => k_is)
    (case a9 => k_is)
    (case l9 => k_is)
    (case c9 => k_is)
    (case k9 => k_is)
    (case a10 => k_is)
    (case l10 => k_is)
    (case c10 => k_is)
    (case k10 => k_is)
    (case a11 => k_is)
    (case l11 => k_is)
    (case c11 => k_is)
    (case k11 => k_is)
    (case a12 => k_is)
    (case l12 => k_is)
    (case c12 => k_is)
    (case k12 => k_is)
    (case a13 => k_is)
    (case l13 => k_is)
    (case c13 => k_is)
    (case k13 => k_is)
    (case a14 => k_is)
    (case l14 => k_is)
    (case c14 => k_is)
    (case k14 => k_is)
    (case a15 => k_is)
    (case l15 => k_is)
    (case c15 => k_is)
    (case k15 => k_is)
    (case a16 => k_is)
    (case l16 => k_is)
    (case c16 => k_is)
    (case k16 => k_is)
    (case a17 => k_is)
    (case l17 => k_is)
    (case c17 => k_is)
    (case k17 => k_is)
    (case a18 => k_is)
    (case l18 => k_is)
    (case c18 => k_is)
    (case k18 => k_is)
    (case a19 => k_is)
    (case l19 => k_is)
    (case c19 => k_is)
    (case k19 => k_is)
    (case a20 => k_is)
    (case l20 => k_is)
    (case c20 => k_is)
    (case k20 => k_is)
    (case a21 => k_is)
    (case l21 => k_is)
    (case c21 => k_is)
    (case k21 => k_is)
    (case a22 => k_is)
    (case l22 => k_is)
    (case c22 => k_is)
    (case k22 => k_is)
    (case a23 => k_is)
    (case l23 => k_is)
    (case c23 => k_is)
    (case k23 => k_is)
    (case a24 => k_is)
    (case l24 => k_is)
    (case c24 => k_is)
    (case k24 => k_is)
    (case a25 => k_is)
    (case l25 => k_is)
    (case c25 => k_is)
    (case k25 => k_is)
    (case z_isinstance => k_is)
    (case z_str => k_is)
    (case z_len => k_is)
    (case z_list => k_is)
    (case z_int => k_is)
    (case z_max => k_is)
    (case z_range => k_is)
    (case z_tuple => k_is)
    (case z_all => k_is)
    (case z_enumerate => k_is)
    (case z_zip => k_is)
    (case z_repr => k_is)
    (case z_reversed => k_is)
    (case z_abs => k_is)
    (case z_bool => k_is)

import PyProof.Rows.All
import Wide.All
import OpenK.AllK
import Wide.FinOn
import PySem.Challenge.RW_weightset_k04_changes
import HandS.ForMost
import HandS.Sort
import HandS.SortOrd
import HandS.SortRule
import HandS.SortInts
import HandS.SortKw
import HandS.Strs
import HandS.Set
import HandS.SetFor
import HandS.IsInst
import HandS.Evl
import HandS.Walk
import HandS.Style
import HandS.WideBits
import HandS.EndBits
set_option Elab.async false
set_option linter.all false
set_option maxRecDepth 100000
set_option maxHeartbeats 4000000
/-! ### the mathematics of sets of weights; no program here -/
namespace Wt
abbrev leI (a b : Int) : Bool := decide (a ≤ b)
/-- in order -/
def srt (l : List Int) : List Int := l.mergeSort leI
theorem srt_perm (l : List Int) : (srt l).Perm l := List.mergeSort_perm l _
theorem srt_ord (l : List Int) : (srt l).Pairwise (· ≤ ·) := by
  have h := List.pairwise_mergeSort (le := leI) (fun a b c h1 h2 => by
    have h1 := of_decide_eq_true h1
    have h2 := of_decide_eq_true h2
    exact decide_eq_true (Int.le_trans h1 h2)) (fun a b => by
    rcases Int.le_total a b with h | h
    · rw [show leI a b = true from decide_eq_true h, Bool.true_or]
    · rw [show leI b a = true from decide_eq_true h, Bool.or_true]) l
  exact h.imp fun h => of_decide_eq_true h
theorem srt_of {l m : List Int} (p : m.Perm l) (s : m.Pairwise (· ≤ ·)) : m = srt l :=
  List.Perm.eq_of_pairwise (fun _ _ _ _ h1 h2 => Int.le_antisymm h1 h2) s (srt_ord l) (p.trans (srt_perm l).symm)
theorem srt_congr {l m : List Int} (p : l.Perm m) : srt l = srt m := srt_of ((srt_perm l).trans p) (srt_ord l)
/-- from g on, over weights in order: where it stops -/
def gapF : Int → List Int → Int
  | g, [] => g
  | g, w :: r => if g < w then g else gapF (g + w) r
def gap (ws : List Int) : Int := gapF 1 (srt ws)
theorem gap_congr {l m : List Int} (p : l.Perm m) : gap l = gap m := by
  unfold gap
  rw [srt_congr p]
abbrev Pos (ws : List Int) : Prop := ∀ w ∈ ws, (1 : Int) ≤ w
/-- n is the sum of some of them -/
def Sub : List Int → Int → Prop
  | [], n => n = 0
  | w :: r, n => Sub r n ∨ Sub r (n - w)
theorem Sub.cast {ws : List Int} {n m : Int} (h : Sub ws n) (e : n = m) : Sub ws m := e ▸ h
theorem sub_zero : ∀ ws : List Int, Sub ws 0
  | [] => rfl
  | _ :: r => .inl (sub_zero r)
theorem sub_perm {l m : List Int} (p : l.Perm m) : ∀ n, Sub l n ↔ Sub m n := by
  induction p with
  | nil => exact fun _ => Iff.rfl
  | cons x _ ih => exact fun n => or_congr (ih n) (ih _)
  | swap x y r =>
    intro n
    have e : n - y - x = n - x - y := by omega
    constructor
    · rintro ((h | h) | (h | h))
      · exact .inl (.inl h)
      · exact .inr (.inl h)
      · exact .inl (.inr h)
      · exact .inr (.inr (h.cast e))
    · rintro ((h | h) | (h | h))
      · exact .inl (.inl h)
      · exact .inr (.inl h)
      · exact .inl (.inr h)
      · exact .inr (.inr (h.cast e.symm))
  | trans _ _ h1 h2 => exact fun n => (h1 n).trans (h2 n)
theorem sub_app : ∀ {xs ys : List Int} {n m : Int}, Sub xs n → Sub ys m → Sub (xs ++ ys) (n + m)
  | [], ys, n, m, h, k => by
    have e : n = 0 := h
    exact k.cast (by omega)
  | x :: xs, ys, n, m, .inl h, k => .inl (sub_app h k)
  | x :: xs, ys, n, m, .inr h, k => .inr ((sub_app h k).cast (by omega))
theorem sub_left {xs : List Int} (ys : List Int) {n : Int} (h : Sub xs n) : Sub (xs ++ ys) n := (sub_app h (sub_zero ys)).cast (by omega)
theorem sub_right (xs : List Int) {ys : List Int} {n : Int} (h : Sub ys n) : Sub (xs ++ ys) n := (sub_app (sub_zero xs) h).cast (by omega)
theorem sub_of_app : ∀ {xs ys : List Int} {n : Int}, Sub (xs ++ ys) n → ∃ m, Sub xs m ∧ Sub ys (n - m)
  | [], ys, n, h => ⟨0, rfl, h.cast (by omega)⟩
  | x :: xs, ys, n, h => by
    rcases h with h | h
    · obtain ⟨m, a, b⟩ := sub_of_app (xs := xs) h
      exact ⟨m, .inl a, b⟩
    · obtain ⟨m, a, b⟩ := sub_of_app (xs := xs) h
      exact ⟨m + x, .inr (a.cast (by omega)), b.cast (by omega)⟩
theorem sub_snoc {ws : List Int} {w n : Int} : Sub (ws ++ [w]) n ↔ Sub ws n ∨ Sub ws (n - w) := by
  have p : (ws ++ [w]).Perm (w :: ws) := List.perm_append_singleton w ws
  exact sub_perm p n
/-- all of them no lighter than b: none, or b at the least -/
theorem sub_ge {b : Int} (hb : 0 ≤ b) : ∀ {ws : List Int} {n : Int}, (∀ w ∈ ws, b ≤ w) → Sub ws n → n = 0 ∨ b ≤ n
  | [], n, _, h => .inl h
  | w :: r, n, hw, h => by
    have h0 := hw w List.mem_cons_self
    have hr : ∀ x ∈ r, b ≤ x := fun x hx => hw x (List.mem_cons_of_mem _ hx)
    rcases h with h | h
    · exact sub_ge hb hr h
    · rcases sub_ge hb hr h with e | e
      · exact .inr (by omega)
      · exact .inr (by omega)
theorem sub_nonneg {ws : List Int} {n : Int} (p : Pos ws) (h : Sub ws n) : 0 ≤ n := by
  rcases sub_ge (b := 1) (by omega) p h with e | e <;> omega
theorem gapF_ge : ∀ {s : List Int} {g : Int}, Pos s → g ≤ gapF g s
  | [], g, _ => Int.le_refl g
  | w :: r, g, p => by
    show g ≤ (if g < w then g else gapF (g + w) r)
    split
    · exact Int.le_refl g
    · have h1 := gapF_ge (s := r) (g := g + w) fun x hx => p x (List.mem_cons_of_mem _ hx)
      have h2 := p w List.mem_cons_self
      omega
theorem gapF_sub : ∀ {s : List Int} {g n : Int}, 1 ≤ g → Pos s → 0 ≤ n → n < gapF g s → ∃ a, 0 ≤ a ∧ a < g ∧ Sub s (n - a)
  | [], g, n, _, _, h0, h1 => ⟨n, h0, h1, by show n - n = 0; omega⟩
  | w :: r, g, n, hg, p, h0, h1 => by
    have hw := p w List.mem_cons_self
    have h1' : n < (if g < w then g else gapF (g + w) r) := h1
    split at h1'
    · exact ⟨n, h0, h1', (sub_zero (w :: r)).cast (by omega)⟩
    · obtain ⟨a, a0, a1, hs⟩ := gapF_sub (s := r) (g := g + w) (by omega) (fun x hx => p x (List.mem_cons_of_mem _ hx)) h0 h1'
      by_cases ha : a < g
      · exact ⟨a, a0, ha, .inl hs⟩
      · exact ⟨a - w, by omega, by omega, .inr (hs.cast (by omega))⟩
theorem gapF_not : ∀ {s : List Int} {g a : Int}, 1 ≤ g → Pos s → s.Pairwise (· ≤ ·) → 0 ≤ a → a < g → ¬ Sub s (gapF g s - a)
  | [], g, a, _, _, _, h0, h1 => fun h => by
    have e : g - a = 0 := h
    omega
  | w :: r, g, a, hg, p, o, h0, h1 => by
    obtain ⟨o1, o2⟩ := List.pairwise_cons.mp o
    have hw := p w List.mem_cons_self
    show ¬ Sub (w :: r) ((if g < w then g else gapF (g + w) r) - a)
    split
    · intro h
      have hall : ∀ x ∈ w :: r, w ≤ x := fun x hx => by
        rcases List.mem_cons.mp hx with e | hx
        · rw [e]; exact Int.le_refl _
        · exact o1 x hx
      rcases sub_ge (b := w) (by omega) hall h with e | e <;> omega
    · have pr : Pos r := fun x hx => p x (List.mem_cons_of_mem _ hx)
      rintro (h | h)
      · exact gapF_not (s := r) (g := g + w) (a := a) (by omega) pr o2 h0 (by omega) h
      · exact gapF_not (s := r) (g := g + w) (a := a + w) (by omega) pr o2 (by omega) (by omega) (h.cast (by omega))
theorem pos_srt {ws : List Int} (p : Pos ws) : Pos (srt ws) := fun w hw => p w ((srt_perm ws).mem_iff.mp hw)
theorem gap_ge {ws : List Int} (p : Pos ws) : 1 ≤ gap ws := gapF_ge (pos_srt p)
theorem gap_sub {ws : List Int} (p : Pos ws) {n : Int} (h0 : 0 ≤ n) (h1 : n < gap ws) : Sub ws n := by
  obtain ⟨a, a0, a1, h⟩ := gapF_sub (g := 1) (by omega) (pos_srt p) h0 h1
  exact (sub_perm (srt_perm ws) n).mp (h.cast (by omega))
theorem gap_not {ws : List Int} (p : Pos ws) : ¬ Sub ws (gap ws) := fun h =>
  gapF_not (g := 1) (a := 0) (by omega) (pos_srt p) (srt_ord ws) (by omega) (by omega) (((sub_perm (srt_perm ws) _).mpr h).cast (show gap ws = gap ws - 0 by omega))
/-- it is the least number above none that is no sum -/
theorem gap_le {ws : List Int} (p : Pos ws) {n : Int} (h0 : 0 ≤ n) (h : ¬ Sub ws n) : gap ws ≤ n := by
  by_cases hn : gap ws ≤ n
  · exact hn
  · exact absurd (gap_sub p h0 (by omega)) h
theorem le_gap {ws : List Int} (p : Pos ws) {g : Int} (h : ∀ n, 0 ≤ n → n < g → Sub ws n) : g ≤ gap ws := by
  by_cases hn : g ≤ gap ws
  · exact hn
  · have h1 := gap_ge p
    exact absurd (h (gap ws) (by omega) (by omega)) (gap_not p)
theorem gap_is {ws : List Int} (p : Pos ws) {g : Int} (h0 : 0 ≤ g) (h : ∀ n, 0 ≤ n → n < g → Sub ws n) (hn : ¬ Sub ws g) : gap ws = g :=
  Int.le_antisymm (gap_le p h0 hn) (le_gap p h)
theorem pos_app {xs ys : List Int} (a : Pos xs) (b : Pos ys) : Pos (xs ++ ys) := fun w hw => by
  rcases List.mem_append.mp hw with h | h
  · exact a w h
  · exact b w h
theorem pos_one {w : Int} (h : 1 ≤ w) : Pos [w] := fun x hx => by
  rw [List.mem_singleton.mp hx]
  exact h
/-! what becomes of it -/
theorem gap_app {xs ys : List Int} (a : Pos xs) (b : Pos ys) : gap xs + gap ys - 1 ≤ gap (xs ++ ys) := by
  have h1 := gap_ge a
  have h2 := gap_ge b
  refine le_gap (pos_app a b) fun n h0 hn => ?_
  by_cases h : n < gap xs
  · exact sub_left ys (gap_sub a h0 h)
  · exact (sub_app (gap_sub a (n := gap xs - 1) (by omega) (by omega)) (gap_sub b (n := n - (gap xs - 1)) (by omega) (by omega))).cast (by omega)
theorem gap_left {xs ys : List Int} (a : Pos xs) (b : Pos ys) : gap xs ≤ gap (xs ++ ys) := le_gap (pos_app a b) fun _ h0 hn => sub_left ys (gap_sub a h0 hn)
theorem gap_right {xs ys : List Int} (a : Pos xs) (b : Pos ys) : gap ys ≤ gap (xs ++ ys) := le_gap (pos_app a b) fun _ h0 hn => sub_right xs (gap_sub b h0 hn)
/-- one more that is no heavier than the gap -/
theorem gap_put {ws : List Int} {w : Int} (p : Pos ws) (h1 : 1 ≤ w) (h : w ≤ gap ws) : gap ws + w ≤ gap (ws ++ [w]) := by
  have h2 := gap_ge p
  refine le_gap (pos_app p (pos_one h1)) fun n h0 hn => sub_snoc.mpr ?_
  by_cases q : n < gap ws
  · exact .inl (gap_sub p h0 q)
  · exact .inr (gap_sub p (by omega) (by omega))
theorem gap_heavy {ws : List Int} {w : Int} (p : Pos ws) (h : gap ws < w) : gap (ws ++ [w]) = gap ws := by
  have h2 := gap_ge p
  refine gap_is (pos_app p (pos_one (by omega))) (by omega) (fun n h0 hn => sub_snoc.mpr (.inl (gap_sub p h0 hn))) fun q => ?_
  rcases sub_snoc.mp q with q | q
  · exact gap_not p q
  · have := sub_nonneg p q
    omega
theorem gap_less {ws : List Int} (p : Pos ws) (i : Nat) : gap (ws.take i ++ ws.drop (i + 1)) ≤ gap ws := by
  have pt : Pos (ws.take i) := fun w hw => p w (List.mem_of_mem_take hw)
  have pd : Pos (ws.drop (i + 1)) := fun w hw => p w (List.mem_of_mem_drop hw)
  by_cases h : i < ws.length
  · have e : ws = ws.take i ++ ws[i] :: ws.drop (i + 1) := by
      rw [List.getElem_cons_drop, List.take_append_drop]
    have q : ws.Perm ((ws.take i ++ ws.drop (i + 1)) ++ [ws[i]]) :=
      (List.Perm.of_eq e).trans (List.perm_middle.trans (List.perm_append_singleton _ _).symm)
    have h2 := gap_left (pos_app pt pd) (pos_one (p _ (List.getElem_mem h)))
    rw [gap_congr q]
    exact h2
  · rw [List.take_of_length_le (by omega), List.drop_of_length_le (by omega), List.append_nil]
    exact Int.le_refl _
theorem srt_nil : srt [] = [] := List.mergeSort_nil
theorem gap_nil : gap [] = 1 := by
  unfold gap
  rw [srt_nil]
  rfl

/-! ### taken from the heaviest on -/
theorem gapF_snoc : ∀ {s : List Int} {g w : Int}, (s ++ [w]).Pairwise (· ≤ ·) → gapF g (s ++ [w]) = if gapF g s < w then gapF g s else gapF g s + w
  | [], g, w, _ => rfl
  | x :: s, g, w, o => by
    obtain ⟨o1, o2⟩ := List.pairwise_cons.mp o
    have hx : x ≤ w := o1 w (List.mem_append_right _ List.mem_cons_self)
    show (if g < x then g else gapF (g + x) (s ++ [w])) = if (if g < x then g else gapF (g + x) s) < w then (if g < x then g else gapF (g + x) s) else (if g < x then g else gapF (g + x) s) + w
    by_cases h : g < x
    · rw [if_pos h, if_pos h, if_pos (by omega)]
    · rw [if_neg h, if_neg h]
      exact gapF_snoc o2
/-- what is left of n; the places that are taken; pairs of a weight and its place -/
def left : Int → List (Int × Int) → Int
  | n, [] => n
  | n, x :: r => if x.1 ≤ n then left (n - x.1) r else left n r
def took : Int → List (Int × Int) → List Int
  | _, [] => []
  | n, x :: r => if x.1 ≤ n then x.2 :: took (n - x.1) r else took n r
theorem left_zero : ∀ (m : Nat) {d : List (Int × Int)} {n : Int}, d.length = m → Pos (d.map (·.1)) → (d.map (·.1)).reverse.Pairwise (· ≤ ·) → 0 ≤ n → n < gapF 1 (d.map (·.1)).reverse → left n d = 0
  | 0, d, n, hm, _, _, h0, h1 => by
    obtain rfl := List.eq_nil_of_length_eq_zero hm
    have h1' : n < 1 := h1
    show n = 0
    omega
  | m + 1, [], n, hm, _, _, _, _ => by simp at hm
  | m + 1, x :: r, n, hm, p, o, h0, h1 => by
    have e : ((x :: r).map (·.1)).reverse = (r.map (·.1)).reverse ++ [x.1] := by rw [List.map_cons, List.reverse_cons]
    rw [e] at o h1
    rw [gapF_snoc o] at h1
    have hp : 1 ≤ x.1 := p x.1 List.mem_cons_self
    have pr : Pos (r.map (·.1)) := fun w hw => p w (List.mem_cons_of_mem _ hw)
    have o2 : (r.map (·.1)).reverse.Pairwise (· ≤ ·) := (List.pairwise_append.mp o).1
    have hl : r.length = m := by simpa using hm
    show (if x.1 ≤ n then left (n - x.1) r else left n r) = 0
    split
    · rename_i h
      refine left_zero m hl pr o2 (by omega) ?_
      split at h1 <;> omega
    · rename_i h
      refine left_zero m hl pr o2 h0 ?_
      split at h1 <;> omega
theorem took_sub : ∀ (n : Int) (d : List (Int × Int)), (took n d).Sublist (d.map (·.2))
  | _, [] => .slnil
  | n, x :: r => by
    show (if x.1 ≤ n then x.2 :: took (n - x.1) r else took n r).Sublist (x.2 :: r.map (·.2))
    split
    · exact (took_sub _ r).cons_cons _
    · exact (took_sub n r).cons _
theorem took_sum {f : Int → Int} : ∀ (n : Int) (d : List (Int × Int)), (∀ x ∈ d, f x.2 = x.1) → ((took n d).map f).sum = n - left n d
  | n, [], _ => by show (0 : Int) = n - n; omega
  | n, x :: r, h => by
    have hx := h x List.mem_cons_self
    have hr : ∀ y ∈ r, f y.2 = y.1 := fun y hy => h y (List.mem_cons_of_mem _ hy)
    show ((if x.1 ≤ n then x.2 :: took (n - x.1) r else took n r).map f).sum = n - (if x.1 ≤ n then left (n - x.1) r else left n r)
    split
    · rw [List.map_cons, List.sum_cons, took_sum _ r hr, hx]
      omega
    · exact took_sum n r hr
/-- pairs of a weight and its place, the heaviest ahead -/
def pairsF : Int → List Int → List (Int × Int)
  | _, [] => []
  | i, w :: r => (w, i) :: pairsF (i + 1) r
def gePP (a b : Int × Int) : Bool := decide (b.1 < a.1 ∨ b.1 = a.1 ∧ b.2 ≤ a.2)
def down (ws : List Int) : List (Int × Int) := (pairsF 0 ws).mergeSort gePP
theorem gePP_iff {a b : Int × Int} : gePP a b = true ↔ (b.1 < a.1 ∨ b.1 = a.1 ∧ b.2 ≤ a.2) := by
  unfold gePP
  exact decide_eq_true_iff
theorem down_perm (ws : List Int) : (down ws).Perm (pairsF 0 ws) := List.mergeSort_perm _ _
theorem down_ord (ws : List Int) : (down ws).Pairwise fun a b => gePP a b = true :=
  List.pairwise_mergeSort (fun a b c h1 h2 => by
    have h1 := gePP_iff.mp h1
    have h2 := gePP_iff.mp h2
    exact gePP_iff.mpr (by omega)) (fun a b => by
    rw [Bool.or_eq_true, gePP_iff, gePP_iff]
    omega) _
theorem down_of {ws : List Int} {d : List (Int × Int)} (p : d.Perm (pairsF 0 ws)) (o : d.Pairwise fun a b => gePP a b = true) : d = down ws :=
  List.Perm.eq_of_pairwise (fun a b _ _ h1 h2 => by
    have h1 := gePP_iff.mp h1
    have h2 := gePP_iff.mp h2
    have e1 : a.1 = b.1 := by omega
    have e2 : a.2 = b.2 := by omega
    exact Prod.ext e1 e2) o (down_ord ws) (p.trans (down_perm ws).symm)
theorem pairsF_fst : ∀ (ws : List Int) (i : Int), (pairsF i ws).map (·.1) = ws
  | [], _ => rfl
  | w :: r, i => congrArg (w :: ·) (pairsF_fst r (i + 1))
theorem pairsF_len : ∀ (ws : List Int) (i : Int), (pairsF i ws).length = ws.length
  | [], _ => rfl
  | _ :: r, i => congrArg (· + 1) (pairsF_len r (i + 1))
theorem pairsF_get : ∀ {ws : List Int} {i : Int} {j : Nat} {w : Int}, ws[j]? = some w → (pairsF i ws)[j]? = some (w, i + (j : Int))
  | [], i, j, w, h => by simp at h
  | x :: r, i, 0, w, h => by
    have e : x = w := Option.some.inj h
    subst e
    show some (x, i) = some (x, i + ((0 : Nat) : Int))
    rw [Int.natCast_zero, Int.add_zero]
  | x :: r, i, j + 1, w, h => by
    have h' : r[j]? = some w := h
    have q := pairsF_get (i := i + 1) h'
    show (pairsF (i + 1) r)[j]? = some (w, i + ((j + 1 : Nat) : Int))
    rw [q, show i + 1 + (j : Int) = i + ((j + 1 : Nat) : Int) by omega]
theorem pairsF_mem : ∀ {ws : List Int} {i : Int} {x : Int × Int}, x ∈ pairsF i ws → ∃ j : Nat, x.2 = i + (j : Int) ∧ ws[j]? = some x.1
  | [], i, x, h => by cases h
  | w :: r, i, x, h => by
    rcases List.mem_cons.mp h with e | h
    · subst e
      exact ⟨0, by show i = i + ((0 : Nat) : Int); omega, rfl⟩
    · obtain ⟨j, e1, e2⟩ := pairsF_mem h
      exact ⟨j + 1, by omega, e2⟩
theorem pairsF_nodup : ∀ (ws : List Int) (i : Int), ((pairsF i ws).map (·.2)).Nodup
  | [], _ => List.nodup_nil
  | w :: r, i => by
    show (i :: (pairsF (i + 1) r).map (·.2)).Nodup
    refine List.nodup_cons.mpr ⟨fun h => ?_, pairsF_nodup r (i + 1)⟩
    obtain ⟨x, hx, e⟩ := List.mem_map.mp h
    obtain ⟨j, e1, _⟩ := pairsF_mem hx
    omega
/-- the places told -/
def weigh (ws : List Int) (n : Int) : List Int := srt (took n (down ws))
theorem lt_of_le_nodup : ∀ {l : List Int}, l.Pairwise (· ≤ ·) → l.Nodup → l.Pairwise (· < ·)
  | [], _, _ => .nil
  | x :: r, h, n => by
    obtain ⟨h1, h2⟩ := List.pairwise_cons.mp h
    obtain ⟨n1, n2⟩ := List.nodup_cons.mp n
    refine List.pairwise_cons.mpr ⟨fun y hy => ?_, lt_of_le_nodup h2 n2⟩
    have h3 := h1 y hy
    have h4 : x ≠ y := fun e => n1 (e ▸ hy)
    omega
theorem weigh_rise (ws : List Int) (n : Int) : (weigh ws n).Pairwise (· < ·) := by
  refine lt_of_le_nodup (srt_ord _) ?_
  refine (srt_perm _).nodup_iff.mpr ?_
  refine (took_sub n (down ws)).nodup ?_
  exact ((down_perm ws).map (·.2)).nodup_iff.mpr (pairsF_nodup ws 0)
theorem weigh_place {ws : List Int} {n p : Int} (h : p ∈ weigh ws n) : 0 ≤ p ∧ p < (ws.length : Int) := by
  have h1 := (srt_perm _).mem_iff.mp h
  have h2 := (took_sub n (down ws)).subset h1
  have h3 := ((down_perm ws).map (·.2)).mem_iff.mp h2
  obtain ⟨x, hx, e⟩ := List.mem_map.mp h3
  obtain ⟨j, e1, e2⟩ := pairsF_mem hx
  have := (List.getElem?_eq_some_iff.mp e2).1
  omega
theorem perm_sum {l m : List Int} (p : l.Perm m) : l.sum = m.sum := by
  induction p with
  | nil => rfl
  | cons x _ ih => rw [List.sum_cons, List.sum_cons, ih]
  | swap x y r => simp only [List.sum_cons]; omega
  | trans _ _ h1 h2 => exact h1.trans h2
theorem weigh_sum {ws : List Int} {n : Int} (p : Pos ws) (h0 : 0 ≤ n) (h1 : n < gap ws) : ((weigh ws n).map fun i => ws.getD i.toNat 0).sum = n := by
  have q : ((weigh ws n).map fun i => ws.getD i.toNat 0).sum = ((took n (down ws)).map fun i => ws.getD i.toNat 0).sum := perm_sum ((srt_perm _).map _)
  have e : (down ws).map (·.1) |>.Perm ws := by
    have := (down_perm ws).map (·.1)
    rw [pairsF_fst] at this
    exact this
  have o : ((down ws).map (·.1)).reverse.Pairwise (· ≤ ·) := by
    rw [List.pairwise_reverse, List.pairwise_map]
    exact (down_ord ws).imp fun h => by
      have := gePP_iff.mp h
      omega
  have es : ((down ws).map (·.1)).reverse = srt ws := srt_of ((List.reverse_perm _).trans e) o
  rw [q, took_sum n (down ws) fun x hx => ?_, left_zero _ rfl (fun w hw => p w (e.mem_iff.mp hw)) o h0 (by rw [es]; exact h1)]
  · omega
  · obtain ⟨j, e1, e2⟩ := pairsF_mem ((down_perm ws).mem_iff.mp hx)
    show ws.getD x.2.toNat 0 = x.1
    rw [show x.2.toNat = j by omega, List.getD_eq_getElem?_getD, e2] <;> rfl
theorem weigh_nil (n : Int) : weigh [] n = [] := by
  unfold weigh down
  rw [show pairsF 0 [] = [] from rfl, List.mergeSort_nil]
  exact srt_nil
theorem took_len (n : Int) (d : List (Int × Int)) : (took n d).length ≤ d.length := by
  have := (took_sub n d).length_le
  rw [List.length_map] at this
  exact this
theorem weigh_len (ws : List Int) (n : Int) : (weigh ws n).length ≤ ws.length := by
  have h1 := took_len n (down ws)
  have h2 := (down_perm ws).length_eq
  rw [pairsF_len] at h2
  have h3 := (srt_perm (took n (down ws))).length_eq
  unfold weigh
  omega
end Wt
/-! ### rules that the bundles lack: sorted of pairs by reverse=True, set(list of ints), sorted of such a set of any size, list + list that is read -/
namespace Wt
open PySem PySem.Spec PyProof.Rows L2
abbrev eset (w : World) : Obj := { cls := .type "set", dict := none, data := .set #[] 0 (.fresh 0 0 (!w.params.followText "set-order")) }
section
variable {P : Program} {w : World} {A : Around} {E : Value → Shared → Prop} {s : Shared}
set_option maxHeartbeats 3200000 in
theorem setL_call {l : Addr} {us : Array Value} (ns : List Int) {Q : Value → Shared → Prop}
    (nh : A.handled = none) (isl : s.heap.IsList l us) (ui : IntsAre us.toList ns) (room : ns.length + 1 < scanBound)
    (k : ∀ (h' : Heap) (tk c : Nat), SetR w h' s.heap.objs.size (fun j => decide (j ∈ ns)) c → c ≤ ns.length →
      (∀ b o, s.heap.get? b = some o → h'.get? b = some o) → Q (.ref s.heap.objs.size) { s with heap := h', toks := tk }) :
    wpAny (model P w) A (call (.type "set") [.ref l]) Q E s := by
  have un : us.size = ns.length := (Array.length_toList (xs := us)).symm.trans (IntsAre.length ui)
  obtain ⟨mc, mt, mro⟩ := F.called_set.mro
  have f1 := F.called_set.made
  have f2 := F.called_set.sub
  have f3 := F.called_set.notType
  have f4 := F.called_set.canCreate
  have f5 := F.typeCall_set_1 (.ref l)
  refine wpAny_call (codeAny_of_tree ?_)
  show wpAny (model P w) _ (callAny (.type "set") _) _ _ _
  refine wpAny_pure ⟨Code.quiet_builtin _ (by decide +kernel), codeAny_builtin F.entry_type_call ?_⟩
  rw [Around.under_plain (weight_type_call_type "set" [.ref l] []) rfl]
  repeat (any_goals (first | assumption | wp_step))

  refine codeAny_mono (code_set_led1 (.ref l) (E := E) (Q₁ := fun v s1 => v = .ref s.heap.objs.size ∧ s1 = { s with heap := s.heap.push (eset w) }) ⟨rfl, rfl⟩) fun r s1 hr => ?_
  cases r with
  | error e => exact hr
  | ok fl =>
    cases fl with
    | ret v =>
      obtain ⟨rfl, rfl⟩ := hr
      have at0 : (s.heap.push (eset w)).get? s.heap.objs.size = some (eset w) := Heap.get?_push_size _ rfl
      have ty0 : Shared.TypeIs { s with heap := s.heap.push (eset w) } (.ref s.heap.objs.size) "set" := ⟨_, at0, rfl⟩
      have i1 := F.called_set.init.lookup
      have i2 := F.called_set.init.bind (.ref s.heap.objs.size)
      repeat (any_goals (first | assumption | wp_step))

      refine codeAny_mono (codeAny_call_builtin (R := wants (fun r s2 => r = .none ∧ ∃ h' tk c, s2 = { s with heap := h', toks := tk } ∧
          SetR w h' s.heap.objs.size (fun j => decide (j ∈ ns)) c ∧ c ≤ ns.length ∧ (∀ b o, s.heap.get? b = some o → h'.get? b = some o)) E)
          F.called_set.init.plain F.entry_set_init (check_set_init_1 ty0 ?_)) fun r2 s2 hr2 => ?_
      · obtain ⟨ob, obl, obc, nb, obd⟩ := isl
        obtain ⟨qc, qd, qt, qs⟩ := ob
        simp only at obc obd
        subst obc; subst obd
        have atl : (s.heap.push (eset w)).get? l = some { cls := .type "list", dict := qd, data := .seq us nb, slots := qs } := Heap.get?_push_of_some _ obl
        have g1 := F.sub_list_set
        have g2 := F.sub_list_frozenset
        have g3 : (Value.type "list" == Value.type "dict") = false := by decide
        have isl1 : (s.heap.push (eset w)).IsList l us := ⟨_, atl, rfl, nb, rfl⟩
        unfold Builtin.«set.__init__» noKeywords Builtin.Frozenset.updateFrom
        generalize hIt : pyIter = It
        wp_walk
        subst hIt

        refine wpAny_pyIter_list isl1 ?_
        refine wpAny_bind (wpAny_runValue ?_)
        have lS : l < s.heap.objs.size := Heap.lt_size obl
        have nh3 : A.in1.in1.in1.handled = none := by simp [nh]
        have sz1 : (s.heap.push (eset w)).objs.size = s.heap.objs.size + 1 := Heap.size_push ..
        have lI : l ≠ (s.heap.push (eset w)).objs.size := sz1 ▸ Nat.ne_of_lt (Nat.lt_succ_of_lt lS)
        have Sf : s.heap.objs.size ∉ [(s.heap.push (eset w)).objs.size, l] := by
          rw [sz1]
          intro z
          rcases List.mem_cons.mp z with z | z
          · exact Nat.ne_of_lt (Nat.lt_succ_self _) z
          · exact Nat.ne_of_lt lS (List.mem_singleton.mp z).symm
        have vals : ∀ (i : Nat) (v : Value), us[i]? = some v → ∃ z t, ns[i]? = some z ∧ v = .int z t := fun i v hv => by
          have hi : i < ns.length := un ▸ (Array.getElem?_eq_some_iff.mp hv).1
          obtain ⟨t, e⟩ := PyProof.Rows.IntsAre.int_at ui i v ((Array.getElem?_toList).trans hv)
          refine ⟨ns[i], t, List.getElem?_eq_getElem hi, e.trans ?_⟩
          rw [List.getD_eq_getElem?_getD, List.getElem?_eq_getElem hi]
          rfl
        refine set_update_ints ((Walks.list nh3 _ l lI us).toS) s.heap.objs.size Sf ns un room vals (us.size - 0) 0 _ (by omega) (Nat.zero_le _)
          ⟨⟨_, Heap.get?_push_size _ rfl, rfl, rfl⟩, (isl1.push _)⟩ ?start ?fin
        case start =>
          exact ⟨0, Nat.le_refl 0, setR_new_at (Heap.get?_push_of_some _ at0)⟩
        case fin =>
          intro s3 c3 mv hc3 R3
          obtain ⟨h3, g3', d3, t3, o3⟩ := s3
          obtain rfl : g3' = s.gens := mv.gens
          obtain rfl : d3 = s.drawn := mv.drawn
          obtain rfl : o3 = s.os := mv.os
          show wpAny (model P w) _ _ _ _ _
          refine wpAny_pure ?_
          show wpAny (model P w) _ (ret Value.none) _ _ _
          refine wpAny_pure ⟨rfl, h3, t3, c3, rfl, R3, by omega, fun b o e => ?_⟩
          have lb := Heap.lt_size e
          refine mv.heap b o (fun z => ?_) (Heap.get?_push_of_some _ (Heap.get?_push_of_some _ e))
          rcases List.mem_cons.mp z with z | z
          · exact Nat.ne_of_lt lb z
          · exact Nat.ne_of_lt (Nat.lt_succ_of_lt lb) ((List.mem_singleton.mp z).trans sz1)

      · cases r2 with
        | error e => exact hr2
        | ok fl2 =>
          cases fl2 with
          | ret r =>
            obtain ⟨rfl, h3, t3, c3, rfl, R3, hc3, hk3⟩ := hr2
            repeat (any_goals (first | assumption | wp_step))
            exact k _ _ _ R3 hc3 hk3
          | _ => exact hr2.elim
    | _ => exact hr.elim

/-- sorted of a set of ints, of any size below the scan's bound -/
theorem sortedSet_call {a : Addr} {S : Int → Bool} {n : Nat} {Q : Value → Shared → Prop} (R : SetR w s.heap a S n) (nh : A.handled = none)
    (k : ∀ s' p (out : List Value) (c : Nat) (ns : List Int), (∀ b o, s.heap.get? b = some o → s'.heap.get? b = some o) → s'.gens = s.gens → s'.os = s.os → s.heap.objs.size ≤ p →
      s'.heap.get? p = some (seqObj "list" out.toArray c) → IntsAre out ns → ns.Pairwise (· < ·) → (∀ j, j ∈ ns ↔ S j = true) → ns.length = n → Q (.ref p) s') :
    wpAny (model P w) A (call (.builtin "sorted") [.ref a]) Q E s := by
  obtain ⟨ob, es, ep, t, at0, ex, dt, good, nd, mem, bd, ft, sz, ris, led⟩ := R
  refine Calls.call_function_entry kind_sorted plain_sorted entry_sorted (args_sorted1 _) ?_
  unfold Builtin.«sorted»
  refine wpAny_bind (m := checkCount "sorted" 1 1 _) (wpAny_pure ?_)
  refine wpAny_bind (collect_set (A := A.in1) nh ⟨ob, at0, ex.1, dt⟩ ft bd ris led fun s1 us k1 z1 g1 o1 pm => ?_)
  have ul : us.length = n := pm.length_eq.trans ((List.length_map _).trans ((Array.length_toList).trans sz))
  have ui : IntsAre us (us.map SrtO.iv) := SrtO.ints_iv fun v hv => by
    obtain ⟨e, he, q⟩ := List.mem_map.mp (pm.mem_iff.mp hv)
    obtain ⟨z, tk, e1, _⟩ := good e he
    exact ⟨z, tk, q ▸ e1⟩
  have pk : (us.map SrtO.iv).Perm (es.toList.map keyOf) := by
    refine (pm.map SrtO.iv).trans (List.Perm.of_eq ?_)
    rw [List.map_map]
    refine List.map_congr_left fun e he => ?_
    obtain ⟨z, tk, e1, _⟩ := good e he
    show SrtO.iv e.2 = keyOf e
    unfold keyOf
    rw [e1]
    rfl
  have fits : us.length ≤ sizeLine := by
    have h4 : scanBound = 4096 := rfl
    rw [ul, ← sz]
    exact Nat.le_trans (Nat.le_of_lt bd) (by decide)
  refine wpAny_bind (wpAny_newList ?_ fits)
  have atL : (s1.heap.push (seqObj "list" us.toArray 0)).get? s1.heap.objs.size = some (seqObj "list" us.toArray 0) := Heap.get?_push_size _ rfl
  refine wpAny_bind (wpAny_holding (wpAny_call_entry slot_list_sort ⟨_, atL, rfl⟩ entry_list_sort
    (SrtO.list_sort_ord SrtO.swo_int atL fits (fun h2 => SrtO.ints_sortable ui h2) fun out h1 h2 => ⟨_, rfl, ?_⟩) (args_list_sort _)))
  obtain ⟨c, atC⟩ := sortedHeap_at (vs := us) (out := out.toArray) atL
  obtain ⟨j1, j2, j3⟩ := SrtO.ints_out ui h1 h2
  have pn := j2.trans pk
  refine wpAny_pure ⟨_, rfl, k _ s1.heap.objs.size out c (out.map SrtO.iv) (fun b u e => ?_) g1 o1 z1 atC j1 (L2.lt_of_le_nodup _ j3 (pn.nodup_iff.mpr nd)) (fun j => by rw [pn.mem_iff, ← mem j]) ?_⟩
  · have e1 := k1 b u e
    have lb := Heap.lt_size e1
    refine (sortedHeap_old (Nat.ne_of_lt lb) ?_).trans (Heap.get?_push_of_some _ e1)
    rw [size_push']
    exact Nat.lt_succ_of_lt lb
  · exact pn.length_eq.trans ((List.length_map _).trans ((Array.length_toList).trans sz))
end
section
variable {X : Cx}
/-- set(xs), xs a list of ints -/
def rSetI (K : PySem.W.Frag) (w : World) : List V → Hp → VK → Prop := fun vs H Q => ∃ (l : Addr) (ns : List Int), vs = [V.ref l] ∧ SqL K H l (ns.map V.int) ∧ ns.length < 4000 ∧
  ∀ a c, H a = none → Q (.ref a) (upd H a (SetO w a (fun j => decide (j ∈ ns)) c))
theorem cr_setI (calm : X.calm = true) : CallR X (.type "set") (rSetI X.K X.w) := by
  intro ps st sl H vs us Q I r h
  obtain ⟨l, ns, rfl, hl, hn, q⟩ := h
  obtain ⟨us', rv, pl, hz⟩ := I.list hl
  rw [Vals.ref1 r]
  have h4 : scanBound = 4096 := rfl
  refine setL_call ns (I.ok.hd calm) pl.isList (by simpa using rv.ints) (by omega) fun h' tk c R _ kp => ?_
  exact ⟨.ref _, upd H st.heap.objs.size (SetO X.w st.heap.objs.size (fun j => decide (j ∈ ns)) c), I.laid (t' := tk) kp (Nat.le_refl _) (setO_new R), rfl, q _ c (I.hok.fresh (Nat.le_refl _))⟩
/-- sorted(s), s a set of ints of any size -/
def rSortedS2 (w : World) : List V → Hp → VK → Prop := fun vs H Q => ∃ (a : Addr) (S : Int → Bool) (n : Nat), vs = [V.ref a] ∧ H a = some (SetO w a S n) ∧
  ∀ (ns : List Int) (p : Addr), ns.Pairwise (· < ·) → (∀ j : Int, j ∈ ns ↔ S j = true) → H p = none → Q (.ref p) (upd H p (.lst (ns.map V.int)))
theorem cr_sortedS2 (calm : X.calm = true) : CallR X (.builtin "sorted") (rSortedS2 X.w) := by
  intro ps st sl H vs us Q I r h
  obtain ⟨a, S, n, rfl, ha, q⟩ := h
  have R := setO_get I ha
  have hn4 : n < scanBound := by
    obtain ⟨_, _, _, _, _, _, _, _, _, _, bd, _, sz, _⟩ := R
    omega
  rw [Vals.ref1 r]
  refine sortedSet_call R (I.ok.hd calm) fun s' p out c ns kp g o hp atp hi rise mem hl => ?_
  have hz : (ns.map V.int).length ≤ sizeLine := by
    rw [List.length_map, hl]
    exact Nat.le_trans (Nat.le_of_lt hn4) (by decide)
  have hnew : H p = none := I.hok.fresh hp
  have J : Inv X ps sl (upd H p (.lst (ns.map V.int))) { st with heap := s'.heap, gens := s'.gens, drawn := s'.drawn, toks := s'.toks } :=
    I.call (ch := []) (Un.laid kp hp hnew) (I.hok.laid kp hp ⟨hz, out, c, vals_of_ints hi, atp⟩) (by rw [g]; exact I.bare) (fun _ z => nomatch z)
  obtain ⟨h1, g1, d1, t1, o1⟩ := s'
  obtain rfl : o1 = st.os := o
  exact ⟨.ref p, _, J, rfl, q ns p rise mem hnew⟩
/-- sorted(xs, reverse=True), xs a list of pairs of ints -/
def rSortedDn (K : PySem.W.Frag) : List V → List V → Hp → VK → Prop := fun vs zs H Q => ∃ (a : Addr) (xs : List V) (f : V → Int × Int), vs = [V.ref a] ∧ zs = [.bl true] ∧ SqL K H a xs ∧
  (∀ x ∈ xs, ∃ t, x = V.ref t ∧ H t = some (.tup [.int (f x).1, .int (f x).2])) ∧
  ∀ ys p, SrtO.Srtd (ltP f) ys.reverse → ys.Perm xs → H p = none → Q (.ref p) (upd H p (.lst ys))
theorem cr_sortedDn : CallRK X (.builtin "sorted") [Str.ofString "reverse"] (rSortedDn X.K) := by
  intro ps st sl H vs zs us ws Q I r rz h
  obtain ⟨a, xs, f, rfl, rfl, hl, hx, q⟩ := h
  obtain rfl := Vals.ref1 r
  obtain ⟨w1, rfl, e0⟩ := vals1 rz
  obtain rfl : w1 = Value.bool true := e0
  obtain ⟨us', rv, pl, hz⟩ := I.list hl
  obtain ⟨b1, b2⟩ := refs_back rv fun x m => (hx x m).elim fun t e => ⟨t, e.1⟩
  have two : ∀ v ∈ us', Srt.IsPair st.heap v (f (backV v)).1 (f (backV v)).2 := fun v hv => by
    obtain ⟨t, rfl⟩ := b2 v hv
    obtain ⟨t', et, ht⟩ := hx (V.ref t) (b1 ▸ List.mem_map.mpr ⟨_, hv, rfl⟩)
    cases et
    obtain ⟨_, its, r2, ob, ho, hc, n, hd⟩ := I.hok _ _ ht
    obtain ⟨v1, v2, rfl, ⟨k1, rfl⟩, ⟨k2, rfl⟩⟩ := vals2 r2
    exact ⟨t, ob, k1, k2, n, rfl, ho, hc, hd⟩
  refine SrtR.sorted_ordK (b := true) (fun _ => rfl) (args_sorted_rev _ _) (fun _ => args_list_sort_rev _ _) (SrtO.swo_lex fun u => f (backV u)) pl.isList (by rw [← rv.length]; exact hz) (fun h2 h1 a1 ha1 kk => ?_) fun out o1 o2 => ?_
  · refine SrtO.pairs_sortableO (s := { st with heap := h1 }) (by omega) (fun v hm => (two v hm).keeps fun b o e _ => (kk b o e).2) fun o e => ?_
    obtain rfl := Option.some.inj (e.symm.trans ha1)
    exact fun c => absurd (Value.type.inj c) (by decide)
  · have op : out.Perm us' := o2.perm.trans (List.reverse_perm _)
    have rf : ∀ u ∈ out.reverse, ∃ a, u = Value.ref a := fun u hu => b2 u (op.mem_iff.mp (List.mem_reverse.mp hu))
    have mp : (out.reverse.map backV).Perm xs := by
      rw [b1]
      exact ((List.reverse_perm out).trans op).map backV
    obtain ⟨ep, he⟩ := sortedAll_at st.heap us' out.reverse.toArray
    have ea : out.toArray.reverse = out.reverse.toArray := by
      apply Array.ext'
      rw [Array.toList_reverse]
    have ls : (out.reverse.map backV).length ≤ sizeLine := by
      rw [mp.length_eq]
      exact hz
    refine ⟨.ref _, upd H (st.heap.objs.size + 1) (.lst (out.reverse.map backV)), I.laid (t' := st.toks) (fun _ _ => sortedAll_old) (Nat.le_succ _) ⟨ls, out.reverse, ep, vals_back rf, ?_⟩, rfl, q _ _ ?_ mp (I.hok.fresh (Nat.le_succ _))⟩
    · rw [if_pos rfl, ea]
      exact he
    · rw [← List.map_reverse, List.reverse_reverse]
      exact SrtO.srtd_map o1
end
end Wt
/-! ### what the rules evaluate to -/
namespace Wt
open PySem PySem.Spec PyProof.Rows L2 Evl
section
variable {K : PySem.W.Frag} {w : World} {σ : L2.St} {H H' : Hp} {ta tb te : TE} {t u : TT} {x y z v : V}
theorem sq_of_ty {a : Addr} {xs : List V} (h : SqL K H a xs) : TyX K H (.ref a) (.type "list") := by
  rcases h with (h | ⟨o, h⟩) | ⟨o, its, n, h, c, _⟩
  · exact .base (.lst h)
  · exact .base (.frz h)
  · exact .kList h c
theorem rc_isiI {n : String} {i : Int} {b : Bool} (h : kitB "int" n = some b) : RC (rIsi K) [.int i, .ty n] H (.bl b) := fun H1 _ _ q =>
  ⟨.int i, .ty n, .type "int", .type n, b, rfl, .ty n, .base (.int i), kit_ty h, q H1 (Ex.refl H1)⟩
theorem rc_isiL {n : String} {a : Addr} {xs : List V} {b : Bool} (hs : SqL K H a xs) (h : kitB "list" n = some b) : RC (rIsi K) [.ref a, .ty n] H (.bl b) := fun H1 e _ q =>
  ⟨.ref a, .ty n, .type "list", .type n, b, rfl, .ty n, sq_of_ty (ex_l e hs), kit_ty h, q H1 (Ex.refl H1)⟩
theorem ev_isiI {n : String} {i : Int} {b : Bool} (h : kitB "int" n = some b) (ha : Ev ta σ H (.int i)) : Ev (tCB (rIsi K) (tCons ta (tCons (tC (.ty n)) tNil))) σ H (.bl b) :=
  ev_cb (ea_cons ha (ea_cons ev_c ea_nil)) (rc_isiI h)
theorem ev_isiL {n : String} {a : Addr} {xs : List V} {b : Bool} (hs : SqL K H a xs) (h : kitB "list" n = some b) (ha : Ev ta σ H (.ref a)) : Ev (tCB (rIsi K) (tCons ta (tCons (tC (.ty n)) tNil))) σ H (.bl b) :=
  ev_cb (ea_cons ha (ea_cons ev_c ea_nil)) (rc_isiL hs h)
theorem rc_sum {a : Addr} {ns : List Int} (hs : SqL K H a (ns.map V.int)) : RC (rSum K) [.ref a] H (.int ns.sum) := fun H1 e _ q => ⟨a, ns, rfl, ex_l e hs, q H1 (Ex.refl H1)⟩
theorem ev_sum {a : Addr} {ns : List Int} (hs : SqL K H a (ns.map V.int)) (ha : Ev ta σ H (.ref a)) : Ev (tCB (rSum K) (tCons ta tNil)) σ H (.int ns.sum) := ev_cb (ea_cons ha ea_nil) (rc_sum hs)
/-- a call on one new list -/
theorem ev_cbN {r : List V → Hp → VK → Prop} {xs : List V} (h : EvL ta σ H xs) (hr : ∀ p H1, H1 p = some (.lst xs) → Ex H H1 → RC r [.ref p] H1 z) : Ev (tCB r (tCons ta tNil)) σ H z := fun H1 e Q q =>
  h H1 e _ fun p H2 _ e2 hp => hr p H2 hp (e.trans e2) H2 (Ex.refl H2) Q fun H3 e3 => q H3 (e2.trans e3)
theorem el_cbN {r : List V → Hp → VK → Prop} {xs ys : List V} (h : EvL ta σ H xs) (hr : ∀ p H1, H1 p = some (.lst xs) → Ex H H1 → RCL r [.ref p] H1 ys) : EvL (tCB r (tCons ta tNil)) σ H ys := fun H1 e Q q =>
  h H1 e _ fun p H2 _ e2 hp => hr p H2 hp (e.trans e2) H2 (Ex.refl H2) Q fun p' H3 hp' e3 h3 => q p' H3 (fresh_back e2 hp') (e2.trans e3) h3
theorem ev_sumN {ns : List Int} {xs : List V} (h : EvL ta σ H xs) (hx : xs = ns.map V.int) : Ev (tCB (rSum K) (tCons ta tNil)) σ H (.int ns.sum) := ev_cbN h fun p H1 hp _ => rc_sum (hx ▸ sq_of hp)
theorem ev_allN {bs : List Bool} {xs : List V} (h : EvL ta σ H xs) (hx : xs = bs.map V.bl) : Ev (tCB (rAll K) (tCons ta tNil)) σ H (.bl (bs.all id)) := ev_cbN h fun p H1 hp _ => fun H2 e _ q => ⟨p, bs, rfl, ex_l e (hx ▸ sq_of hp), q H2 (Ex.refl H2)⟩
theorem rcl_sorted {a : Addr} {ns : List Int} (hs : SqL K H a (ns.map V.int)) : RCL (rSortedI K) [.ref a] H ((srt ns).map V.int) := fun H1 e _ q => ⟨a, ns, rfl, ex_l e hs, fun ns' p pm o hp => by
  obtain rfl := srt_of pm o
  exact q p _ hp (Ex.new hp) upd_same⟩
theorem el_sorted {a : Addr} {ns : List Int} (hs : SqL K H a (ns.map V.int)) (ha : Ev ta σ H (.ref a)) : EvL (tCB (rSortedI K) (tCons ta tNil)) σ H ((srt ns).map V.int) := el_cb (ea_cons ha ea_nil) (rcl_sorted hs)
theorem el_sortedN {ns : List Int} {xs : List V} (h : EvL ta σ H xs) (hx : xs = ns.map V.int) : EvL (tCB (rSortedI K) (tCons ta tNil)) σ H ((srt ns).map V.int) := el_cbN h fun p H1 hp _ => rcl_sorted (hx ▸ sq_of hp)
/-- the members, each once, in order -/
theorem rise_uniq {l m : List Int} (h : ∀ j, j ∈ l ↔ j ∈ m) (a : l.Pairwise (· < ·)) (b : m.Pairwise (· < ·)) : l = m := by
  refine List.Perm.eq_of_pairwise (fun _ _ _ _ h1 h2 => absurd h1 (Int.lt_asymm h2)) a b ?_
  exact (List.perm_ext_iff_of_nodup (a.imp fun h => Int.ne_of_lt h) (b.imp fun h => Int.ne_of_lt h)).mpr h
/-- sorted(set(xs)): the rising list of xs' members -/
theorem el_sortedSet {a : Addr} {ns ms : List Int} (hs : SqL K H a (ns.map V.int)) (hl : ns.length < 4000) (ha : Ev ta σ H (.ref a)) (rise : ms.Pairwise (· < ·)) (mem : ∀ j, j ∈ ms ↔ j ∈ ns) :
    EvL (tCB (rSortedS2 w) (tCons (tCB (rSetI K w) (tCons ta tNil)) tNil)) σ H (ms.map V.int) := fun H1 e Q q =>
  ha H1 e _ fun H2 e2 => ⟨a, ns, rfl, ex_l (e.trans e2) hs, hl, fun s c hn => ⟨s, _, c, rfl, upd_same, fun out p r2 m2 hp => by
    have eo : out = ms := rise_uniq (fun j => (m2 j).trans (decide_eq_true_iff.trans (mem j).symm)) r2 rise
    subst eo
    exact q p _ (fresh_back (e2.trans (Ex.new hn)) hp) ((e2.trans (Ex.new hn)).trans (Ex.new hp)) upd_same⟩⟩
theorem el_sortedSetN {ns ms : List Int} {xs : List V} (h : EvL ta σ H xs) (hx : xs = ns.map V.int) (hl : ns.length < 4000) (rise : ms.Pairwise (· < ·)) (mem : ∀ j, j ∈ ms ↔ j ∈ ns) :
    EvL (tCB (rSortedS2 w) (tCons (tCB (rSetI K w) (tCons ta tNil)) tNil)) σ H (ms.map V.int) := fun H1 e Q q =>
  h H1 e _ fun a H2 _ e2 ha => ⟨a, ns, rfl, hx ▸ sq_of ha, hl, fun s c hn => ⟨s, _, c, rfl, upd_same, fun out p r2 m2 hp => by
    have eo : out = ms := rise_uniq (fun j => (m2 j).trans (decide_eq_true_iff.trans (mem j).symm)) r2 rise
    subst eo
    exact q p _ (fresh_back (e2.trans (Ex.new hn)) hp) ((e2.trans (Ex.new hn)).trans (Ex.new hp)) upd_same⟩⟩
/-- list + list -/
theorem el_cat {a b : Addr} {xs ys : List V} (hx : H a = some (.lst xs)) (hy : H b = some (.lst ys)) (hl : xs.length + ys.length ≤ 100000) (ha : Ev ta σ H (.ref a)) (hb : Ev tb σ H (.ref b)) : EvL (tOp rCat ta tb) σ H (xs ++ ys) := fun H1 e Q q =>
  ha H1 e _ fun H2 e2 => hb H2 (e.trans e2) _ fun H3 e3 => ⟨a, b, xs, ys, rfl, rfl, (e.trans (e2.trans e3)) a _ hx, (e.trans (e2.trans e3)) b _ hy, sz_of hl, fun p hp => q p _ (fresh_back (e2.trans e3) hp) ((e2.trans e3).trans (Ex.new hp)) upd_same⟩
theorem el_catN {a : Addr} {xs ys : List V} (hx : H a = some (.lst xs)) (hl : xs.length + ys.length ≤ 100000) (ha : Ev ta σ H (.ref a)) (hb : EvL tb σ H ys) : EvL (tOp rCat ta tb) σ H (xs ++ ys) := fun H1 e Q q =>
  ha H1 e _ fun H2 e2 => hb H2 (e.trans e2) _ fun b H3 _ e3 hy => ⟨a, b, xs, ys, rfl, rfl, (e.trans (e2.trans e3)) a _ hx, hy, sz_of hl, fun p hp => q p _ (fresh_back (e2.trans e3) hp) ((e2.trans e3).trans (Ex.new hp)) upd_same⟩
theorem el_catNN {xs ys : List V} (hl : xs.length + ys.length ≤ 100000) (ha : EvL ta σ H xs) (hb : EvL tb σ H ys) : EvL (tOp rCat ta tb) σ H (xs ++ ys) := fun H1 e Q q =>
  ha H1 e _ fun a H2 _ e2 hx => hb H2 (e.trans e2) _ fun b H3 _ e3 hy => ⟨a, b, xs, ys, rfl, rfl, e3 a _ hx, hy, sz_of hl, fun p hp => q p _ (fresh_back (e2.trans e3) hp) ((e2.trans e3).trans (Ex.new hp)) upd_same⟩
theorem el_rev {a : Addr} {xs : List V} (hs : SqL K H a xs) (ha : Ev ta σ H (.ref a)) : EvL (tRevL K ta) σ H xs.reverse := fun H1 e Q q =>
  ha H1 e _ fun H2 e2 => ⟨a, xs, rfl, ex_l (e.trans e2) hs, fun p hp => q p _ (fresh_back e2 hp) (e2.trans (Ex.new hp)) upd_same⟩
theorem el_is {xs ys : List V} (h : EvL te σ H xs) (e : xs = ys) : EvL te σ H ys := e ▸ h
/-- the slices as take and drop -/
theorem cut_take (xs : List V) (k : Nat) : cutV xs none (some (k : Int)) = xs.take k := by
  unfold cutV
  rw [HT.sIx_none, HT.sIx_nat, List.drop_zero, Nat.sub_zero]
  by_cases h : k ≤ xs.length
  · rw [Nat.min_eq_left h]
  · rw [Nat.min_eq_right (by omega), List.take_length, List.take_of_length_le (by omega)]
theorem cut_drop (xs : List V) (k : Nat) : cutV xs (some (k : Int)) none = xs.drop k := by
  unfold cutV
  rw [HT.sIx_none, HT.sIx_nat]
  by_cases h : k ≤ xs.length
  · rw [Nat.min_eq_left h]
    exact List.take_of_length_le (by rw [List.length_drop]; exact Nat.le_refl _)
  · rw [Nat.min_eq_right (by omega), Nat.sub_self, List.take_zero, List.drop_of_length_le (by omega)]
theorem el_take {a : Addr} {xs : List V} {k : Nat} (hs : SqL K H a xs) (ha : Ev ta σ H (.ref a)) (hb : Ev tb σ H (.int (k : Int))) : EvL (tSl (rSlL K) ta tNoPart (tPart tb)) σ H (xs.take k) :=
  el_is (el_sl ha eo_none (eo_some hb) hs) (cut_take xs k)
theorem el_drop {a : Addr} {xs : List V} {k : Nat} (hs : SqL K H a xs) (ha : Ev ta σ H (.ref a)) (hb : Ev tb σ H (.int (k : Int))) : EvL (tSl (rSlL K) ta (tPart tb) tNoPart) σ H (xs.drop k) :=
  el_is (el_sl ha (eo_some hb) eo_none hs) (cut_drop xs k)
/-- numbers -/
theorem ev_add {i j : Int} (ha : Ev ta σ H (.int i)) (hb : Ev tb σ H (.int j)) : Ev (tOp (rI0 fun i j => .int (i + j)) ta tb) σ H (.int (i + j)) := ev_op ha hb rv_I0
theorem ev_sub {i j : Int} (ha : Ev ta σ H (.int i)) (hb : Ev tb σ H (.int j)) : Ev (tOp (rI0 fun i j => .int (i - j)) ta tb) σ H (.int (i - j)) := ev_op ha hb rv_I0
theorem ev_mod {i j : Int} (ha : Ev ta σ H (.int i)) (hb : Ev tb σ H (.int j)) (h : 0 < j) : Ev (tOp (rI (fun _ j => 0 < j) fun i j => .int (i % j)) ta tb) σ H (.int (i % j)) := ev_op ha hb (rv_I h)
theorem ev_div {i j : Int} (ha : Ev ta σ H (.int i)) (hb : Ev tb σ H (.int j)) (h : CDivW i j) : Ev (tOp (rI CDivW fun i j => .int (i / j)) ta tb) σ H (.int (i / j)) := ev_op ha hb (rv_I h)
theorem ev_mul {i j : Int} (ha : Ev ta σ H (.int i)) (hb : Ev tb σ H (.int j)) (h : CMulX i j) : Ev (tOp (rI CMulX fun i j => .int (i * j)) ta tb) σ H (.int (i * j)) := ev_op ha hb (rv_I h)
theorem ev_lt {i j : Int} (ha : Ev ta σ H (.int i)) (hb : Ev tb σ H (.int j)) : Ev (tOp (rI0 fun i j => .bl (decide (i < j))) ta tb) σ H (.bl (decide (i < j))) := ev_op ha hb rv_I0
theorem ev_le {i j : Int} (ha : Ev ta σ H (.int i)) (hb : Ev tb σ H (.int j)) : Ev (tOp (rI0 fun i j => .bl (decide (i ≤ j))) ta tb) σ H (.bl (decide (i ≤ j))) := ev_op ha hb rv_I0
theorem ev_gt {i j : Int} (ha : Ev ta σ H (.int i)) (hb : Ev tb σ H (.int j)) : Ev (tOp (rI0 fun i j => .bl (decide (j < i))) ta tb) σ H (.bl (decide (j < i))) := ev_op ha hb rv_I0
theorem ev_ge {i j : Int} (ha : Ev ta σ H (.int i)) (hb : Ev tb σ H (.int j)) : Ev (tOp (rI0 fun i j => .bl (decide (j ≤ i))) ta tb) σ H (.bl (decide (j ≤ i))) := ev_op ha hb rv_I0
theorem dec_vint (i j : Int) : decide (V.int i = V.int j) = decide (i = j) := by
  by_cases h : i = j
  · rw [decide_eq_true h, h, decide_eq_true rfl]
  · rw [decide_eq_false h, decide_eq_false (fun e => h (V.int.inj e))]
theorem ev_eq {i j : Int} (ha : Ev ta σ H (.int i)) (hb : Ev tb σ H (.int j)) : Ev (tOp rEq ta tb) σ H (.bl (decide (i = j))) := ev_is (ev_op ha hb (rv_eq rfl)) (by rw [dec_vint])
theorem ev_ne {i j : Int} (ha : Ev ta σ H (.int i)) (hb : Ev tb σ H (.int j)) : Ev (tOp rNe ta tb) σ H (.bl (!decide (i = j))) := ev_is (ev_op ha hb (rv_ne rfl)) (by rw [dec_vint])
/-- a ≤ b < c -/
theorem ev_chain {i j k : Int} {tc : TE} (ha : Ev ta σ H (.int i)) (hb : Ev tb σ H (.int j)) (hc : Ev tc σ H (.int k)) :
    Ev (tChain (rI0 fun i j => .bl (decide (i ≤ j))) (rI0 fun i j => .bl (decide (i < j))) ta tb tc) σ H (.bl (decide (i ≤ j) && decide (j < k))) := fun H1 e Q q =>
  ha H1 e _ fun H2 e2 => hb H2 (e.trans e2) _ fun H3 e3 => ⟨i, j, rfl, rfl, decide (i ≤ j), rfl, by
    cases hd : decide (i ≤ j) with
    | true =>
      rw [if_pos rfl]
      rw [hd, Bool.true_and] at q
      exact hc H3 (e.trans (e2.trans e3)) _ fun H4 e4 => ⟨j, k, rfl, rfl, q H4 (e2.trans (e3.trans e4))⟩
    | false =>
      rw [if_neg Bool.false_ne_true]
      rw [hd, Bool.false_and] at q
      exact q H3 (e2.trans e3)⟩
/-- lists of ints compared -/
def dI (ns : List Int) : PyData := .list (ns.map PyData.int)
theorem dpI : ∀ ns : List Int, DpAll K H (ns.map V.int) (ns.map PyData.int)
  | [] => .nil
  | n :: r => .cons (.int n) (dpI r)
theorem eqvI : ∀ ns ms : List Int, PyData.eqvAll (ns.map PyData.int) (ms.map PyData.int) = decide (ns = ms)
  | [], [] => rfl
  | [], m :: ms => rfl
  | n :: ns, [] => rfl
  | n :: ns, m :: ms => by
    rw [List.map_cons, List.map_cons, PyData.eqvAll, eqvI ns ms, PyData.eqv, Bool.eq_iff_iff]
    simp
theorem canI : ∀ ns : List Int, PyData.canLayAll0 (ns.map PyData.int) = true
  | [] => by rw [List.map_nil, PyData.canLayAll0]
  | n :: r => by
    rw [List.map_cons, PyData.canLayAll0, canI r, PyData.canLay0]
    rfl
theorem depI : ∀ ns : List Int, PyData.depthAll (ns.map PyData.int) ≤ 1
  | [] => by rw [List.map_nil, PyData.depthAll]; omega
  | n :: r => by
    rw [List.map_cons, PyData.depthAll, PyData.depth]
    have := depI r
    omega
theorem shapeI (ns : List Int) : SeqAt.shaped (dI ns) = true := by
  unfold SeqAt.shaped dI
  rw [PyData.canLay0, canI, PyData.depth, Bool.true_and]
  have := depI ns
  exact decide_eq_true (by omega)
theorem rv_eqL {a b : Addr} {ns ms : List Int} (h1 : SqL K H a (ns.map V.int)) (h2 : SqL K H b (ms.map V.int)) : RV (rEqD K) (.ref a) (.ref b) H (.bl (decide (ns = ms))) := fun H1 e _ q =>
  ⟨dI ns, dI ms, .lst (ex_l e h1) (dpI ns), .lst (ex_l e h2) (dpI ms), shapeI ns, shapeI ms, by
    rw [show PyData.eqv (dI ns) (dI ms) = decide (ns = ms) by unfold dI; rw [PyData.eqv, eqvI]]
    exact q H1 (Ex.refl H1)⟩
theorem rv_neL {a b : Addr} {ns ms : List Int} (h1 : SqL K H a (ns.map V.int)) (h2 : SqL K H b (ms.map V.int)) : RV (rNeD K) (.ref a) (.ref b) H (.bl (!decide (ns = ms))) := fun H1 e _ q =>
  ⟨dI ns, dI ms, .lst (ex_l e h1) (dpI ns), .lst (ex_l e h2) (dpI ms), shapeI ns, shapeI ms, by
    rw [show PyData.eqv (dI ns) (dI ms) = decide (ns = ms) by unfold dI; rw [PyData.eqv, eqvI]]
    exact q H1 (Ex.refl H1)⟩
theorem el_nil : EvL (tLst tNil) σ H (([] : List Int).map V.int) := el_lst ea_nil (Nat.zero_le _)
end
end Wt
/-! ### the program's defs, each by its promise -/
namespace Wt
open PySem PySem.Spec PyProof.Rows L2 Evl
/-- a def of the top: where it stands, how it is bound, that its name is its own -/
structure Own (K : PySem.W.Frag) (mg : Str → Option Value) (x : Str) (ps : List Str) (st : Stmt) (f : Addr) (fd : FuncData) : Prop where
  F : Fun K x x st f fd
  b : Binds K fd ps []
  g : mg x = some (.ref f)
/-- the built-ins are the built-ins still -/
structure Blt (mg : Str → Option Value) : Prop where
  len : mg "len" = none
  sorted : mg "sorted" = none
  sum : mg "sum" = none
  allF : mg "all" = none
  isinstance : mg "isinstance" = none
  range : mg "range" = none
  enumerate : mg "enumerate" = none
  setT : mg "set" = none
  listT : mg "list" = none
  intT : mg "int" = none
  boolT : mg "bool" = none
/-! lists of numbers as values -/
theorem vget {l : List Int} {i : Nat} {x : V} (h : (l.map V.int)[i]? = some x) : ∃ w, l[i]? = some w ∧ x = .int w := by
  rw [List.getElem?_map] at h
  cases e : l[i]? with
  | none => rw [e] at h; cases h
  | some w => rw [e] at h; exact ⟨w, rfl, (Option.some.inj h).symm⟩
theorem vmap {l : List Int} {i : Nat} {w : Int} (h : l[i]? = some w) : (l.map V.int)[i]? = some (.int w) := by
  rw [List.getElem?_map, h]
  rfl
theorem drop_at {α : Type} {l : List α} {i : Nat} {w : α} (h : l[i]? = some w) : l.drop i = w :: l.drop (i + 1) := by
  obtain ⟨hi, e⟩ := List.getElem?_eq_some_iff.mp h
  rw [List.drop_eq_getElem_cons hi, e]
theorem take_at {α : Type} {l : List α} {i : Nat} {w : α} (h : l[i]? = some w) : l.take (i + 1) = l.take i ++ [w] := by
  rw [List.take_add_one, h]
  rfl
theorem mem_at {α : Type} {l : List α} {i : Nat} {w : α} (h : l[i]? = some w) : w ∈ l := List.mem_of_getElem? h
/-! pairs of numbers in their tuples -/
def Tps (H : Hp) : List V → List (Int × Int) → Prop
  | [], [] => True
  | x :: xs, p :: ps => (∃ t, x = .ref t ∧ H t = some (.tup [.int p.1, .int p.2])) ∧ Tps H xs ps
  | _, _ => False
theorem Tps.imp {H H' : Hp} (k : ∀ t ps, H t = some (.tup ps) → H' t = some (.tup ps)) : ∀ {xs : List V} {ps : List (Int × Int)}, Tps H xs ps → Tps H' xs ps
  | [], [], _ => trivial
  | _ :: _, _ :: _, ⟨⟨t, e, h⟩, r⟩ => ⟨⟨t, e, k _ _ h⟩, Tps.imp k r⟩
  | [], _ :: _, h => h.elim
  | _ :: _, [], h => h.elim
theorem Tps.ex {H H' : Hp} (e : Ex H H') {xs : List V} {ps : List (Int × Int)} (h : Tps H xs ps) : Tps H' xs ps := h.imp fun t _ q => e t _ q
theorem Tps.put {H : Hp} {d : Addr} {ys : List V} {o : HO} (hd : H d = some (.lst ys)) {xs : List V} {ps : List (Int × Int)} (h : Tps H xs ps) : Tps (upd H d o) xs ps := h.imp fun t zs q => by
  rw [upd_ne (ne_of q hd (fun z => by cases z))]
  exact q
theorem Tps.snoc {H : Hp} {t : Addr} {p : Int × Int} (ht : H t = some (.tup [.int p.1, .int p.2])) : ∀ {xs : List V} {ps : List (Int × Int)}, Tps H xs ps → Tps H (xs ++ [.ref t]) (ps ++ [p])
  | [], [], _ => ⟨⟨t, rfl, ht⟩, trivial⟩
  | _ :: _, _ :: _, ⟨a, r⟩ => ⟨a, Tps.snoc ht r⟩
  | [], _ :: _, h => h.elim
  | _ :: _, [], h => h.elim
theorem Tps.len {H : Hp} : ∀ {xs : List V} {ps : List (Int × Int)}, Tps H xs ps → xs.length = ps.length
  | [], [], _ => rfl
  | _ :: _, _ :: _, ⟨_, r⟩ => congrArg (· + 1) (Tps.len r)
  | [], _ :: _, h => h.elim
  | _ :: _, [], h => h.elim
/-- the pair at a value -/
def prOf (H : Hp) : V → Int × Int
  | .ref t => match H t with
    | some (.tup [.int i, .int j]) => (i, j)
    | _ => (0, 0)
  | _ => (0, 0)
theorem prOf_at {H : Hp} {t : Addr} {p : Int × Int} (h : H t = some (.tup [.int p.1, .int p.2])) : prOf H (.ref t) = p := by
  show (match H t with | some (.tup [.int i, .int j]) => (i, j) | _ => ((0, 0) : Int × Int)) = p
  rw [h]
theorem Tps.map {H : Hp} : ∀ {xs : List V} {ps : List (Int × Int)}, Tps H xs ps → xs.map (prOf H) = ps
  | [], [], _ => rfl
  | x :: xs, p :: ps, ⟨⟨t, e, h⟩, r⟩ => by
    rw [List.map_cons, Tps.map r, e, prOf_at h]
  | [], _ :: _, h => h.elim
  | _ :: _, [], h => h.elim
theorem Tps.all {H : Hp} : ∀ {xs : List V} {ps : List (Int × Int)}, Tps H xs ps → ∀ x ∈ xs, ∃ t, x = V.ref t ∧ H t = some (.tup [.int (prOf H x).1, .int (prOf H x).2])
  | [], [], _, x, hx => by cases hx
  | y :: xs, p :: ps, ⟨⟨t, e, h⟩, r⟩, x, hx => by
    rcases List.mem_cons.mp hx with z | hx
    · subst z
      subst e
      exact ⟨t, rfl, by rw [prOf_at h]; exact h⟩
    · exact Tps.all r x hx
  | [], _ :: _, h, _, _ => h.elim
  | _ :: _, [], h, _, _ => h.elim
theorem Tps.of_map {H : Hp} : ∀ {xs : List V}, (∀ x ∈ xs, ∃ t, x = V.ref t ∧ H t = some (.tup [.int (prOf H x).1, .int (prOf H x).2])) → Tps H xs (xs.map (prOf H))
  | [], _ => trivial
  | x :: xs, h => ⟨h x List.mem_cons_self, Tps.of_map fun y hy => h y (List.mem_cons_of_mem _ hy)⟩
theorem Tps.get {H : Hp} : ∀ {xs : List V} {ps : List (Int × Int)} {i : Nat} {x : V}, Tps H xs ps → xs[i]? = some x → ∃ p t, ps[i]? = some p ∧ x = .ref t ∧ H t = some (.tup [.int p.1, .int p.2])
  | [], _, i, x, _, e => by simp at e
  | y :: xs, p :: ps, 0, x, ⟨⟨t, e, h⟩, _⟩, hx => ⟨p, t, rfl, (Option.some.inj hx).symm.trans e, h⟩
  | y :: xs, p :: ps, i + 1, x, ⟨_, r⟩, hx => Tps.get (i := i) r hx
  | y :: xs, [], i, x, h, _ => h.elim
section
variable {K : PySem.W.Frag} {σ : L2.St} {H : Hp} {ta : TE} {z : V}
/-- a call on one new list -/
theorem ev_callN {sp : Sp} {E : XK} {xs : List V} (h : EvL ta σ H xs) (hs : ∀ p H1, H1 p = some (.lst xs) → Ex H H1 → SpV sp [.ref p] H1 z) : Ev (tCall sp [] E (tCons ta tNil)) σ H z := fun H1 e Q q =>
  h H1 e _ fun p H2 _ e2 hp => hs p H2 hp (e.trans e2) H2 (Ex.refl H2) Q (fun H3 e3 => q H3 (e2.trans e3)) E
theorem ev_callN2 {sp : Sp} {E : XK} {xs : List V} {tb : TE} {y : V} (h : EvL ta σ H xs) (hb : Ev tb σ H y) (hs : ∀ p H1, H1 p = some (.lst xs) → Ex H H1 → SpV sp [.ref p, y] H1 z) : Ev (tCall sp [] E (tCons ta (tCons tb tNil))) σ H z := fun H1 e Q q =>
  h H1 e _ fun p H2 _ e2 hp => hb H2 (e.trans e2) _ fun H3 e3 => hs p H3 (e3 p _ hp) (e.trans (e2.trans e3)) H3 (Ex.refl H3) Q (fun H4 e4 => q H4 ((e2.trans e3).trans e4)) E
/-- and on one new list and a number -/
theorem el_callN {sp : Sp} {E : XK} {xs ys : List V} {tb : TE} {y : V} (h : EvL ta σ H xs) (hb : Ev tb σ H y) (hs : ∀ p H1, H1 p = some (.lst xs) → Ex H H1 → SpL sp [.ref p, y] H1 ys) : EvL (tCall sp [] E (tCons ta (tCons tb tNil))) σ H ys := fun H1 e Q q =>
  h H1 e _ fun p H2 _ e2 hp => hb H2 (e.trans e2) _ fun H3 e3 => hs p H3 (e3 p _ hp) (e.trans (e2.trans e3)) H3 (Ex.refl H3) Q (fun p' H4 hp' e4 h4 => q p' H4 (fresh_back (e2.trans e3) hp') ((e2.trans e3).trans e4) h4) E
end
theorem lt_line {n : Nat} (h : n ≤ 40000) : n < sizeLine := Nat.lt_of_le_of_lt h (by decide)
def topS (i : Nat) : Stmt := PySem.Challenge.pw_weightset_k04_changes.main.body.getD i (.Pass ⟨0, 0, 0, 0⟩)
abbrev sFirstGap : Stmt := topS 5
abbrev nFirstGap : List Str := ["weights"]
theorem scFirstGap : FnScope nFirstGap ["weights"] (defScope sFirstGap) := ⟨rfl, rfl, rfl, by decide +kernel, rfl, by decide +kernel, by decide +kernel⟩
abbrev sWeighing : Stmt := topS 6
abbrev nWeighing : List Str := ["weights", "number"]
theorem scWeighing : FnScope nWeighing ["weights", "number"] (defScope sWeighing) := ⟨rfl, rfl, rfl, by decide +kernel, rfl, by decide +kernel, by decide +kernel⟩
abbrev sCheckSet : Stmt := topS 7
abbrev nCheckSet : List Str := ["weights", "weight"]
theorem scCheckSet : FnScope nCheckSet ["weights"] (defScope sCheckSet) := ⟨rfl, rfl, rfl, by decide +kernel, rfl, by decide +kernel, by decide +kernel⟩
abbrev sIsWhole : Stmt := topS 8
abbrev nIsWhole : List Str := ["value"]
theorem scIsWhole : FnScope nIsWhole ["value"] (defScope sIsWhole) := ⟨rfl, rfl, rfl, by decide +kernel, rfl, by decide +kernel, by decide +kernel⟩
abbrev sGapOf : Stmt := topS 9
abbrev nGapOf : List Str := ["weights", "gap", "weight"]
theorem scGapOf : FnScope nGapOf ["weights"] (defScope sGapOf) := ⟨rfl, rfl, rfl, by decide +kernel, rfl, by decide +kernel, by decide +kernel⟩
abbrev sPlacesChosen : Stmt := topS 10
abbrev nPlacesChosen : List Str := ["weights", "number", "rest", "chosen", "place", "weight", "placed"]
theorem scPlacesChosen : FnScope nPlacesChosen ["weights", "number"] (defScope sPlacesChosen) := ⟨rfl, rfl, rfl, by decide +kernel, rfl, by decide +kernel, by decide +kernel⟩
abbrev sLawSet : Stmt := topS 12
abbrev nLawSet : List Str := ["_law_script", "_law_mixed", "_law_kind", "_law_found", "_law_whole", "_law_cell", "_law_weight", "_law_at"]
theorem scLawSet : FnScope nLawSet ["_law_script"] (defScope sLawSet) := ⟨rfl, rfl, rfl, by decide +kernel, rfl, by decide +kernel, by decide +kernel⟩
abbrev sLawGap : Stmt := topS 13
abbrev nLawGap : List Str := ["_law_weights", "_law_whole", "_law_weight"]
theorem scLawGap : FnScope nLawGap ["_law_weights"] (defScope sLawGap) := ⟨rfl, rfl, rfl, by decide +kernel, rfl, by decide +kernel, by decide +kernel⟩
abbrev sLawSums : Stmt := topS 14
abbrev nLawSums : List Str := ["_law_weights", "_law_found", "_law_weight", "_law_one"]
theorem scLawSums : FnScope nLawSums ["_law_weights"] (defScope sLawSums) := ⟨rfl, rfl, rfl, by decide +kernel, rfl, by decide +kernel, by decide +kernel⟩
abbrev sLaw : Stmt := topS 15
abbrev nLaw : List Str := ["_law_script", "_law_weights", "_law_gap_here", "_law_cell", "_law_few", "_law_sums_here", "_law_number", "_law_least", "_law_half", "_law_one", "_law_other", "_law_more", "_law_place"]
theorem scLaw : FnScope nLaw ["_law_script"] (defScope sLaw) := ⟨rfl, rfl, rfl, by decide +kernel, rfl, by decide +kernel, by decide +kernel⟩
section
variable {P : Program} {w : World} {K : PySem.W.Frag} {mg : Str → Option Value} {base : Heap}
/-! is_whole -/
def spWhole : Sp := fun vs H Q _ => ∃ n : Int, vs = [.int n] ∧ RetV (.bl true) H Q
theorem ok_IsWhole {f : Addr} {fd : FuncData} (O : Own K mg "is_whole" ["value"] sIsWhole f fd) (B : Blt mg) : FnOk P w K mg base CX0 1 f fd ["value"] spWhole := by
  refine O.F.ok scIsWhole (fun vs H Q E h => ?_) (fun cdv A outer s H vs Q E hr h => ?_)
  · obtain ⟨n, rfl, _⟩ := h
    rfl
  obtain ⟨n, rfl, q⟩ := h
  refine ⟨_, 
      (pss_one (ps_ret (pe_and (pe_callB (r := rIsi K) (id := "isinstance") call_isi (by rfl) B.isinstance (by decide +kernel) (pa_cons (pv 0) (pa_cons (pe_bltn (v := .ty "int") (by rfl) B.intT (by decide +kernel) rfl) pa_nil))) (pe_one (pe_not (pe_callB (r := rIsi K) (id := "isinstance") call_isi (by rfl) B.isinstance (by decide +kernel) (pa_cons (pv 0) (pa_cons (pe_bltn (v := .ty "bool") (by rfl) B.boolT (by decide +kernel) rfl) pa_nil)))))))), ?_⟩
  exact s_ret (ev_andV (a := true) (b := true) (ev_isiI (by decide +kernel) (ev_var rfl)) fun _ => ev_notV (a := false) (ev_isiI (by decide +kernel) (ev_var rfl))) q
/-! check_set -/
def spCheck (K : PySem.W.Frag) : Sp := fun vs H Q _ => ∃ (a : Addr) (ws : List Int), vs = [.ref a] ∧ SqL K H a (ws.map V.int) ∧ Pos ws ∧ RetV .non H Q
theorem ok_CheckSet {f fIsWhole : Addr} {fd fdIsWhole : FuncData} (O : Own K mg "check_set" ["weights"] sCheckSet f fd) (B : Blt mg)
    (GIsWhole : FnOk P w K mg base CX0 1 fIsWhole fdIsWhole ["value"] spWhole) (OIsWhole : Own K mg "is_whole" ["value"] sIsWhole fIsWhole fdIsWhole) : FnOk P w K mg base CX0 2 f fd ["weights"] (spCheck K) := by
  refine O.F.ok scCheckSet (fun vs H Q E h => ?_) (fun cdv A outer s H vs Q E hr h => ?_)
  · obtain ⟨a, ws, rfl, _⟩ := h
    rfl
  obtain ⟨a, ws, rfl, hS, pos, q⟩ := h
  refine ⟨_, 
      (pss_cons (ps_if (pt_not (pt_val (pe_callB (r := rIsi K) (id := "isinstance") call_isi (by rfl) B.isinstance (by decide +kernel) (pa_cons (pv 0) (pa_cons (pe_bltn (v := .ty "list") (by rfl) B.listT (by decide +kernel) rfl) pa_nil))))) 
        (pss_one ps_never) pss_nil)
      (pss_one (ps_for PassesOwn.never rfl (pi_list (pv 0)) (pg_name (i := 1) scCheckSet.nd rfl (Or.inl rfl)) 
        (pss_one (ps_if (PW.pt (pw_or (pt_not (pt_val (pe_call GIsWhole (hr.mono (by decide)) (by rfl) OIsWhole.g OIsWhole.F.kp OIsWhole.b .nil pass0 (pa_cons (pv 1) pa_nil)))) (pw_or1 (pt_cmpR op_lt (pv 1) pe_int (nomark _))))) 
          (pss_one ps_never) pss_nil))))), ?_⟩
  refine q_when (b := false) (et_not (a := true) (et_B (ev_isiL hS (by decide +kernel) (ev_var rfl)))) (fun z => nomatch z) fun _ H1 e1 => ?_
  refine s_forLn (ev_var rfl) (ex_l e1 hS) (fun i σ' H' => (∃ y1, σ' = [some (.ref a), y1]) ∧ Ex H1 H') (fun H2 e2 => ⟨⟨none, rfl⟩, e2⟩) (fun i σ' H' _ h => ex_l (e1.trans h.2) hS) (fun i x σ' H' hx h => ?_) fun σ' H' h => q H' (e1.trans h.2)
  obtain ⟨⟨y1, rfl⟩, e2⟩ := h
  obtain ⟨n, hn, rfl⟩ := vget hx
  have hp := pos n (mem_at hn)
  refine s_when (b := false) (et_is (et_or (a := false) (b := decide (n < 1)) (et_not (a := true) (et_B (ev_call (ea_cons (ev_var rfl) ea_nil) fun H3 e3 Q3 q3 E3 => ⟨n, rfl, q3⟩))) fun _ => et_test (ev_lt (ev_var rfl) ev_c)) (by rw [Bool.false_or]; exact decide_eq_false (by omega))) (fun z => nomatch z) fun _ H3 e3 => ?_
  exact ⟨⟨_, rfl⟩, e2.trans e3⟩
/-! gap_of -/
def spGapOf (K : PySem.W.Frag) : Sp := fun vs H Q _ => ∃ (a : Addr) (ws : List Int), vs = [.ref a] ∧ SqL K H a (ws.map V.int) ∧ RetV (.int (gap ws)) H Q
theorem ok_GapOf {f : Addr} {fd : FuncData} (O : Own K mg "gap_of" ["weights"] sGapOf f fd) (B : Blt mg) : FnOk P w K mg base CX0 1 f fd ["weights"] (spGapOf K) := by
  refine O.F.ok scGapOf (fun vs H Q E h => ?_) (fun cdv A outer s H vs Q E hr h => ?_)
  · obtain ⟨a, ws, rfl, _⟩ := h
    rfl
  obtain ⟨a, ws, rfl, hS, q⟩ := h
  refine ⟨_, 
      (pss_cons (ps_set (i := 1) scGapOf.nd rfl (Or.inl rfl) pe_int)
      (pss_cons (ps_for PassesOwn.never rfl (pi_list (pe_callB (r := rSortedI K) (id := "sorted") cr_sortedI (by rfl) B.sorted (by decide +kernel) (pa_cons (pv 0) pa_nil))) (pg_name (i := 2) scGapOf.nd rfl (Or.inl rfl)) 
        (pss_cons (ps_if (pt_cmpR op_gt (pv 2) (pv 1) (nomark _)) 
          (pss_one ps_break) pss_nil)
        (pss_one (ps_aug (i := 1) scGapOf.nd rfl (Or.inl rfl) (pv 2) ip_add))))
      (pss_one (ps_ret (pv 1))))), ?_⟩
  refine q_asg ev_c fun H1 e1 => ?_
  refine q_forNLn (el_sorted (ex_l e1 hS) (ev_var rfl)) (fun p i σ' H' => (∃ g y2, σ' = [some (.ref a), some (.int g), y2] ∧ gap ws = gapF g ((srt ws).drop i)) ∧ H' p = some (.lst ((srt ws).map V.int)) ∧ Ex H H')
    (fun p H2 hp e2 h2 => ⟨⟨1, none, rfl, rfl⟩, h2, e1.trans e2⟩) (fun p i σ' H' _ h => sq_of h.2.1) (fun p i x σ' H' hx h => ?_) fun p σ' H' h => ?_
  · obtain ⟨⟨g, y2, rfl, eg⟩, hp, e2⟩ := h
    obtain ⟨n, hn, rfl⟩ := vget hx
    rw [drop_at hn] at eg
    have eg : gap ws = if g < n then g else gapF (g + n) ((srt ws).drop (i + 1)) := eg
    refine q_when (et_test (ev_gt (ev_var rfl) (ev_var rfl))) (fun hb H3 e3 => ?_) fun hb H3 e3 => ?_
    · rw [if_pos (of_decide_eq_true hb)] at eg
      show tRet (tVar 1) _ _ _
      exact s_ret (v := .int g) (ev_var rfl) fun H4 e4 => eg ▸ q H4 (e2.trans (e3.trans e4))
    · rw [if_neg (of_decide_eq_false hb)] at eg
      exact s_aug (a := g) (b := n) rfl (ev_var rfl) fun H4 e4 => ⟨⟨g + n, _, rfl, eg⟩, e4 p _ (e3 p _ hp), e2.trans (e3.trans e4)⟩
  · obtain ⟨⟨g, y2, rfl, eg⟩, hp, e2⟩ := h
    rw [List.length_map, List.drop_length] at eg
    have eg : gap ws = g := eg
    exact s_ret (v := .int g) (ev_var rfl) fun H4 e4 => eg ▸ q H4 (e2.trans e4)
/-! places_chosen -/
def spPlaces (K : PySem.W.Frag) : Sp := fun vs H Q _ => ∃ (a : Addr) (ws : List Int) (n : Int), vs = [.ref a, .int n] ∧ SqL K H a (ws.map V.int) ∧ ws.length ≤ 40000 ∧ RetL ((weigh ws n).map V.int) H Q
theorem ok_PlacesChosen {f : Addr} {fd : FuncData} (O : Own K mg "places_chosen" ["weights", "number"] sPlacesChosen f fd) (B : Blt mg) : FnOk P w K mg base CX0 1 f fd ["weights", "number"] (spPlaces K) := by
  refine O.F.ok scPlacesChosen (fun vs H Q E h => ?_) (fun cdv A outer s H vs Q E hr h => ?_)
  · obtain ⟨a, ws, n, rfl, _⟩ := h
    rfl
  obtain ⟨a, ws, n, rfl, hS, hz, q⟩ := h
  refine ⟨_, 
      (pss_cons (ps_set (i := 2) scPlacesChosen.nd rfl (Or.inl rfl) (pv 1))
      (pss_cons (ps_set (i := 3) scPlacesChosen.nd rfl (Or.inl rfl) (pe_lst pa_nil))
      (pss_cons (ps_setLc (i := 6) (own := [("place", 4), ("weight", 5)]) (g := gTup K 2 (gCons (gName 4) (gCons (gName 5) gNil))) (tt := tYes) rfl scPlacesChosen.nd rfl rfl (sw_true rfl rfl rfl (by decide +kernel)) (pi_enum (by rfl) B.enumerate (pa_cons (pv 0) pa_nil)) (blkOk_by (N := nPlacesChosen) (sc := defScope sPlacesChosen) (by decide +kernel)) (fun _ _ _ _ _ => (pg_tup (by rfl) (pgs_cons (pg_name (i := 4) scPlacesChosen.nd rfl (Or.inl rfl)) (pgs_cons (pg_name (i := 5) scPlacesChosen.nd rfl (Or.inl rfl)) pgs_nil)))) (fun _ _ _ _ _ => pts_nil) (fun _ _ _ _ _ => (pe_tup (pa_cons (pv 5) (pa_cons (pv 4) pa_nil)))))
      (pss_cons (ps_for PassesOwn.never rfl (pi_list (pe_callBK cr_sortedDn (by rfl) B.sorted (by decide +kernel) (pa_cons (pv 6) pa_nil) (pk_cons pe_bl pk_nil))) (pg_tup (by rfl) (pgs_cons (pg_name (i := 5) scPlacesChosen.nd rfl (Or.inl rfl)) (pgs_cons (pg_name (i := 4) scPlacesChosen.nd rfl (Or.inl rfl)) pgs_nil))) 
        (pss_one (ps_if (pt_cmpR op_le (pv 5) (pv 2) (nomark _)) 
          (pss_cons (ps_expr (pe_bm PySem.F.plainAttrs_list PySem.F.slot_list_append PySem.F.type_list_append mt_append (pv 3) (pa_cons (pv 4) pa_nil)))
          (pss_one (ps_aug (i := 2) scPlacesChosen.nd rfl (Or.inl rfl) (pv 5) ip_sub))) pss_nil)))
      (pss_one (ps_ret (pe_callB (r := rSortedI K) (id := "sorted") cr_sortedI (by rfl) B.sorted (by decide +kernel) (pa_cons (pv 3) pa_nil)))))))), ?_⟩
  refine q_asg (ev_var rfl) fun H1 e1 => ?_
  refine q_asgL (xs := []) (el_lst ea_nil (Nat.zero_le _)) fun c H2 hc e2 h2 => ?_
  -- the pairs
  refine ⟨.ref a, rfl, a, ws.map V.int, rfl, ex_l (e1.trans e2) hS, fun d hd => ?_⟩
  refine lc_it (walk_enum (K := K) (xs := ws.map V.int)) (fun i H' => Ex H2 H' ∧ ∃ xs, H' d = some (.lst xs) ∧ Tps H' xs ((pairsF 0 ws).take i)) ⟨Ex.new hd, [], upd_same, trivial⟩ (fun i H' _ h => ex_l ((e1.trans e2).trans h.1) hS) (fun i x H' H'' hi h y => ?_) fun H3 h => ?_
  · obtain ⟨T, x1, y1, rfl, hT, rfl, ex1, hy⟩ := y
    obtain rfl := Option.some.inj ex1
    obtain ⟨k, hk, rfl⟩ := vget hy
    obtain ⟨eX, xs, hx, tp⟩ := h
    have hq : (pairsF 0 ws)[i]? = some (k, (i : Int)) := by
      have z := pairsF_get (i := 0) hk
      rw [Int.zero_add] at z
      exact z
    refine ⟨T, [.int (i : Nat), .int k], rfl, .inl (.inl upd_same), rfl, _, _, rfl, _, _, rfl, rfl, rfl, ?_⟩
    refine ⟨.int k, rfl, .int (i : Nat), rfl, (by show 2 ≤ sizeLine; decide), fun t ht => ?_⟩
    have e3 := Ex.new (o := .tup [.int (i : Nat), .int k]) hT
    have e4 := Ex.new (o := .tup [.int k, .int (i : Nat)]) ht
    have hx4 := e4 d _ (e3 d _ hx)
    have hl : xs.length ≤ 40000 := by
      rw [tp.len, List.length_take, pairsF_len]
      omega
    refine ⟨xs, hx4, lt_line hl, Ex.mut (eX.trans (e3.trans e4)) hd, _, upd_same, ?_⟩
    rw [take_at hq]
    exact Tps.put hx4 (Tps.snoc (p := (k, (i : Int))) upd_same (tp.ex (e3.trans e4)))
  obtain ⟨eX, xs, hx, tp⟩ := h
  have ea : (pairsF 0 ws).take (ws.map V.int).length = pairsF 0 ws := List.take_of_length_le (by rw [pairsF_len, List.length_map]; exact Nat.le_refl _)
  rw [ea] at tp
  -- the walk from the heaviest on
  refine ⟨.ref d, rfl, d, xs, prOf H3, rfl, rfl, sq_of hx, tp.all, fun ys p so pm hp => ⟨p, rfl, ⟨ys, sq_of upd_same⟩, ?_⟩⟩
  have ed : ys.map (prOf H3) = down ws := by
    refine down_of ((pm.map (prOf H3)).trans (List.Perm.of_eq tp.map)) ?_
    rw [List.pairwise_map]
    have so2 : ys.Pairwise fun x y => ltP (prOf H3) x y = false := by
      have z : ys.reverse.Pairwise fun x y => ltP (prOf H3) y x = false := so
      rw [List.pairwise_reverse] at z
      exact z
    refine so2.imp fun {x y} h => gePP_iff.mpr ?_
    have z := SrtO.lexB_no.mp h
    omega
  have ty : Tps H3 ys (down ws) := by
    rw [← ed]
    exact Tps.of_map fun x hx => tp.all x (pm.mem_iff.mp hx)
  have hc3 : H3 c = some (.lst []) := eX c _ h2
  have hcH : H c = none := fresh_back e1 hc
  have hpc : p ≠ c := (ne_of_none hc3 hp).symm
  have e3 : Ex H H3 := (e1.trans e2).trans eX
  refine for_list (fun i σ' H' => (∃ (r : Int) (ch : List Int) (y4 y5 : Option V), σ' = [some (.ref a), some (.int n), some (.int r), some (.ref c), y4, y5, some (.ref d)] ∧ H' c = some (.lst (ch.map V.int)) ∧ took n (down ws) = ch ++ took r ((down ws).drop i)) ∧ H' p = some (.lst ys) ∧ Tps H' ys (down ws) ∧ Ex H H')
    ⟨⟨n, [], none, none, rfl, by rw [upd_ne hpc.symm]; exact hc3, rfl⟩, upd_same, ty.ex (Ex.new hp), e3.trans (Ex.new hp)⟩ (fun i σ' H' _ h => sq_of h.2.1) (fun i x σ' H' hx h => ?_) fun σ' H' h => ?_
  · obtain ⟨⟨r, ch, y4, y5, rfl, hc', et⟩, hp', tp', eH⟩ := h
    obtain ⟨pr, t, hpr, rfl, ht⟩ := tp'.get hx
    rw [drop_at hpr] at et
    have et : took n (down ws) = ch ++ (if pr.1 ≤ r then pr.2 :: took (r - pr.1) ((down ws).drop (i + 1)) else took r ((down ws).drop (i + 1))) := et
    refine ⟨t, [.int pr.1, .int pr.2], rfl, .inl (.inl ht), rfl, _, _, rfl, _, _, rfl, rfl, ?_⟩
    have hl : ch.length ≤ 40000 := by
      have z1 := took_len n (down ws)
      rw [et, List.length_append, (down_perm ws).length_eq, pairsF_len] at z1
      omega
    refine s_when (et_test (ev_le (ev_var rfl) (ev_var rfl))) (fun hb H4 e4 => ?_) fun hb H4 e4 => ?_
    · rw [if_pos (of_decide_eq_true hb)] at et
      refine q_app (e4 c _ hc') (ev_var rfl) (ev_var rfl) (by rw [List.length_map]; omega) fun H5 e5 => ?_
      have hc5 := e5 c _ (e4 c _ hc')
      refine s_aug (a := r) (b := pr.1) rfl (ev_var rfl) fun H6 e6 => ?_
      refine ⟨⟨r - pr.1, ch ++ [pr.2], _, _, rfl, ?_, ?_⟩, e6 p _ (by rw [upd_ne hpc]; exact e5 p _ (e4 p _ hp')), (Tps.put hc5 (tp'.ex (e4.trans e5))).ex e6, (Ex.mut (eH.trans (e4.trans e5)) hcH).trans e6⟩
      · rw [List.map_append]
        exact e6 c _ upd_same
      · rw [et, List.append_assoc]
        rfl
    · rw [if_neg (of_decide_eq_false hb)] at et
      exact ⟨⟨r, ch, _, _, rfl, e4 c _ hc', et⟩, e4 p _ hp', tp'.ex e4, eH.trans e4⟩
  · obtain ⟨⟨r, ch, y4, y5, rfl, hc', et⟩, hp', tp', eH⟩ := h
    rw [show ys.length = (down ws).length from tp'.len, List.drop_length] at et
    have et : took n (down ws) = ch := et.trans (List.append_nil ch)
    refine s_retL (el_sorted (sq_of hc') (ev_var rfl)) fun p' H7 hp7 e7 h7 => q p' H7 (fresh_back eH hp7) (eH.trans e7) ?_
    unfold weigh
    rw [et]
    exact h7
/-! first_gap -/
def spFirst (K : PySem.W.Frag) : Sp := fun vs H Q _ => ∃ (a : Addr) (ws : List Int), vs = [.ref a] ∧ SqL K H a (ws.map V.int) ∧ Pos ws ∧ RetV (.int (gap ws)) H Q
theorem ok_FirstGap {f fCheckSet fGapOf : Addr} {fd fdCheckSet fdGapOf : FuncData} (O : Own K mg "first_gap" ["weights"] sFirstGap f fd) (B : Blt mg)
    (GCheckSet : FnOk P w K mg base CX0 2 fCheckSet fdCheckSet ["weights"] (spCheck K)) (OCheckSet : Own K mg "check_set" ["weights"] sCheckSet fCheckSet fdCheckSet)
    (GGapOf : FnOk P w K mg base CX0 1 fGapOf fdGapOf ["weights"] (spGapOf K)) (OGapOf : Own K mg "gap_of" ["weights"] sGapOf fGapOf fdGapOf) : FnOk P w K mg base CX0 3 f fd ["weights"] (spFirst K) := by
  refine O.F.ok scFirstGap (fun vs H Q E h => ?_) (fun cdv A outer s H vs Q E hr h => ?_)
  · obtain ⟨a, ws, rfl, _⟩ := h
    rfl
  obtain ⟨a, ws, rfl, hS, pos, q⟩ := h
  refine ⟨_, 
      (pss_cons (ps_expr (pe_call GCheckSet (hr.mono (by decide)) (by rfl) OCheckSet.g OCheckSet.F.kp OCheckSet.b .nil pass0 (pa_cons (pv 0) pa_nil)))
      (pss_one (ps_ret (pe_call GGapOf (hr.mono (by decide)) (by rfl) OGapOf.g OGapOf.F.kp OGapOf.b .nil pass0 (pa_cons (pv 0) pa_nil))))), ?_⟩
  refine q_drop (ev_call (ea_cons (ev_var rfl) ea_nil) fun H3 e3 Q3 q3 E3 => ⟨a, ws, rfl, ex_l e3 hS, pos, q3⟩) fun H1 e1 => ?_
  exact s_ret (ev_call (ea_cons (ev_var rfl) ea_nil) fun H3 e3 Q3 q3 E3 => ⟨a, ws, rfl, ex_l (e1.trans e3) hS, q3⟩) fun H2 e2 => q H2 (e1.trans e2)
/-! weighing -/
def spWeighing (K : PySem.W.Frag) : Sp := fun vs H Q _ => ∃ (a : Addr) (ws : List Int) (n : Int), vs = [.ref a, .int n] ∧ SqL K H a (ws.map V.int) ∧ Pos ws ∧ ws.length ≤ 40000 ∧ 0 ≤ n ∧ n < gap ws ∧ RetL ((weigh ws n).map V.int) H Q
theorem ok_Weighing {f fCheckSet fGapOf fIsWhole fPlacesChosen : Addr} {fd fdCheckSet fdGapOf fdIsWhole fdPlacesChosen : FuncData} (O : Own K mg "weighing" ["weights", "number"] sWeighing f fd) (B : Blt mg)
    (GCheckSet : FnOk P w K mg base CX0 2 fCheckSet fdCheckSet ["weights"] (spCheck K)) (OCheckSet : Own K mg "check_set" ["weights"] sCheckSet fCheckSet fdCheckSet)
    (GGapOf : FnOk P w K mg base CX0 1 fGapOf fdGapOf ["weights"] (spGapOf K)) (OGapOf : Own K mg "gap_of" ["weights"] sGapOf fGapOf fdGapOf)
    (GIsWhole : FnOk P w K mg base CX0 1 fIsWhole fdIsWhole ["value"] spWhole) (OIsWhole : Own K mg "is_whole" ["value"] sIsWhole fIsWhole fdIsWhole)
    (GPlacesChosen : FnOk P w K mg base CX0 1 fPlacesChosen fdPlacesChosen ["weights", "number"] (spPlaces K)) (OPlacesChosen : Own K mg "places_chosen" ["weights", "number"] sPlacesChosen fPlacesChosen fdPlacesChosen) :
    FnOk P w K mg base CX0 3 f fd ["weights", "number"] (spWeighing K) := by
  refine O.F.ok scWeighing (fun vs H Q E h => ?_) (fun cdv A outer s H vs Q E hr h => ?_)
  · obtain ⟨a, ws, n, rfl, _⟩ := h
    rfl
  obtain ⟨a, ws, n, rfl, hS, pos, hz, n0, n1, q⟩ := h
  refine ⟨_, 
      (pss_cons (ps_expr (pe_call GCheckSet (hr.mono (by decide)) (by rfl) OCheckSet.g OCheckSet.F.kp OCheckSet.b .nil pass0 (pa_cons (pv 0) pa_nil)))
      (pss_cons (ps_if (PW.pt (pw_or (pt_not (pt_val (pe_call GIsWhole (hr.mono (by decide)) (by rfl) OIsWhole.g OIsWhole.F.kp OIsWhole.b .nil pass0 (pa_cons (pv 1) pa_nil)))) (pw_or (pt_cmpR op_lt (pv 1) pe_int (nomark _)) (pw_or1 (pt_cmpR op_ge (pv 1) (pe_call GGapOf (hr.mono (by decide)) (by rfl) OGapOf.g OGapOf.F.kp OGapOf.b .nil pass0 (pa_cons (pv 0) pa_nil)) (nomark _)))))) 
        (pss_one ps_never) pss_nil)
      (pss_one (ps_ret (pe_call GPlacesChosen (hr.mono (by decide)) (by rfl) OPlacesChosen.g OPlacesChosen.F.kp OPlacesChosen.b .nil pass0 (pa_cons (pv 0) (pa_cons (pv 1) pa_nil))))))), ?_⟩
  refine q_drop (ev_call (ea_cons (ev_var rfl) ea_nil) fun H3 e3 Q3 q3 E3 => ⟨a, ws, rfl, ex_l e3 hS, pos, q3⟩) fun H1 e1 => ?_
  refine q_when (b := false) (et_is (et_or (a := false) (et_not (a := true) (et_B (ev_call (ea_cons (ev_var rfl) ea_nil) fun H3 e3 Q3 q3 E3 => ⟨n, rfl, q3⟩))) fun _ =>
    et_or (a := decide (n < 0)) (b := decide (gap ws ≤ n)) (et_test (ev_lt (ev_var rfl) ev_c)) fun _ => et_test (ev_ge (ev_var rfl) (ev_call (ea_cons (ev_var rfl) ea_nil) fun H3 e3 Q3 q3 E3 => ⟨a, ws, rfl, ex_l (e1.trans e3) hS, q3⟩)))
    (by rw [decide_eq_false (show ¬ n < 0 by omega), decide_eq_false (show ¬ gap ws ≤ n by omega)] <;> rfl)) (fun z => nomatch z) fun _ H2 e2 => ?_
  exact s_retL (el_call (ea_cons (ev_var rfl) (ea_cons (ev_var rfl) ea_nil)) fun H3 e3 Q3 q3 E3 => ⟨a, ws, n, rfl, ex_l ((e1.trans e2).trans e3) hS, hz, q3⟩) fun p H4 hp e4 h4 => q p H4 (fresh_back (e1.trans e2) hp) ((e1.trans e2).trans e4) h4
end
end Wt
/-! ### the statement's own helpers -/
namespace Wt
open PySem PySem.Spec PyProof.Rows L2 Evl
section
variable {K : PySem.W.Frag} {σ : L2.St} {H : Hp} {ta tb : TE} {v : V}
theorem ev_ixU {xs : List V} {i : Int} (ha : EvU ta σ H xs) (hb : Ev tb σ H (.int i)) (h : atI xs i = some v) : Ev (tOp (rIxT K) ta tb) σ H v := fun H1 e Q q =>
  ha H1 e _ fun p H2 _ e2 hp => hb H2 (e.trans e2) _ fun H3 e3 => ⟨p, xs, i, v, rfl, rfl, st_of (e3 p _ hp), h, q H3 (e2.trans e3)⟩
theorem ev_ixL {p : Addr} {xs : List V} {i : Int} (hs : SqL K H p xs) (ha : Ev ta σ H (.ref p)) (hb : Ev tb σ H (.int i)) (h : atI xs i = some v) : Ev (tOp (rIxL K) ta tb) σ H v := ev_op ha hb (rv_ixL hs h)
end
theorem small_mul {i j : Int} {a b : Nat} (hi : i.natAbs < 2 ^ a) (hj : j.natAbs < 2 ^ b) (ha : 0 < a) (hb : 0 < b) (h : a + b ≤ 10000000) : CMulX i j := by
  have k : ∀ (x : Int) (c : Nat), 0 < c → x.natAbs < 2 ^ c → Builtin.Int.intBits x ≤ c := fun x c h0 hx => by
    have := PySem.Flt.log2_lt_of h0 hx
    unfold Builtin.Int.intBits
    split <;> omega
  have h1 := k i a ha hi
  have h2 := k j b hb hj
  unfold CMulX
  omega
theorem div_lit {i j : Int} (h : 0 < j) (h2 : j < 1000000) : CDivW i j := wide_div (b := 20) h (by omega) (by decide) (by decide)
/-- what a comprehension without a test gives -/
theorem given_all {n : Nat} {f : Nat → Int} : given n (fun _ => true) (fun i => V.int (f i)) = ((List.range n).map f).map V.int := by
  unfold given
  rw [List.filter_eq_self.mpr (fun _ _ => rfl), List.map_map]
  rfl
theorem rg_up {i j c : Int} (i0 : 0 ≤ i) (i1 : i < 1000) (j0 : 0 ≤ j) (j1 : j < 1000) (c0 : 0 < c) (c1 : c < 1000) : ∃ n : Nat, RgC i j c n ∧ ∀ k : Nat, k < n → i + (k : Int) * c < j := by
  have e : Builtin.Range.rangeSize i j c = if i < j then (j - i - 1) / c + 1 else 0 := by
    unfold Builtin.Range.rangeSize
    rw [if_pos c0]
  have h1 : i < j → 0 ≤ (j - i - 1) / c := fun h => Int.ediv_nonneg (by omega) (by omega)
  have h2 : i < j → (j - i - 1) / c ≤ j - i - 1 := fun h => Int.ediv_le_self _ (by omega)
  refine ⟨(Builtin.Range.rangeSize i j c).toNat, ⟨by omega, by omega, ?_, ?_⟩, fun k hk => ?_⟩
  · unfold Builtin.Range.small
    rw [e]
    simp only [Builtin.Range.rangeFitsLong, Bool.and_eq_true, Bool.or_eq_true, decide_eq_true_eq, beq_iff_eq]
    by_cases h : i < j
    · have a := h1 h
      have b := h2 h
      rw [if_pos h]
      try simp only [gt_iff_lt, c0, if_true]
      have hm : (j - i - 1) / c * c ≤ j - i - 1 := Int.ediv_mul_le _ (by omega)
      generalize hq : (j - i - 1) / c = q at a b hm
      refine ⟨by omega, .inr ?_⟩
      rw [Bool.and_eq_true, decide_eq_true_eq, decide_eq_true_eq]
      omega
    · rw [if_neg h]
      exact ⟨by omega, .inl rfl⟩
  · rw [e]
    split
    · rename_i h
      have := h1 h
      omega
    · rfl
  · rw [e] at hk
    by_cases h : i < j
    · rw [if_pos h] at hk
      have a := h1 h
      have hm : (j - i - 1) / c * c ≤ j - i - 1 := Int.ediv_mul_le _ (by omega)
      have hk2 : (k : Int) ≤ (j - i - 1) / c := by omega
      have := Int.mul_le_mul_of_nonneg_right hk2 (show 0 ≤ c by omega)
      omega
    · rw [if_neg h] at hk
      exact absurd hk (Nat.not_lt_zero k)
section
variable {K : PySem.W.Frag} {σ : L2.St} {H : Hp} {tl te : TE} {j : Nat} {vs : List Nat}
/-- for i in range(lo, hi, c) -/
theorem q_forR3 {ta : TA} {lo hi c : Int} {n : Nat} {tu tz : TS} {D : Ends} (h : EvA ta σ H [.int lo, .int hi, .int c]) (rg : RgC lo hi c n) (Pv : Nat → L2.St → Hp → Prop) (h0 : ∀ H1, Ex H H1 → Pv 0 σ H1)
    (hs : ∀ (i : Nat) σ' H', i < n → Pv i σ' H' → tu { D with nx := Pv (i + 1), ct := Pv (i + 1), bk := tz D } (σ'.set j (some (.int (lo + (i : Int) * c)))) H') (hd : ∀ σ' H', Pv n σ' H' → tz D σ' H') : tSeq (tFor (iRng3 ta) (gName j) tu) tz D σ H :=
  h H (Ex.refl H) _ fun H1 e => ⟨lo, hi, c, n, rfl, rg, for_rangeC (D := { D with nx := tz D }) Pv (h0 H1 e) hs hd⟩
/-- all([.. for x in xs]), each of them true -/
theorem ev_allLc {a : Addr} {xs : List V} (h : Ev tl σ H (.ref a)) (hx : SqL K H a xs) (hz : xs.length ≤ 40000) (hw : ∀ x, wipe ((wipe σ vs).set j (some x)) vs = wipe σ vs)
    (he : ∀ (i : Nat) (x : V) H1, Ex H H1 → xs[i]? = some x → Ev te ((wipe σ vs).set j (some x)) H1 (.bl true)) : Ev (tCB (rAll K) (tCons (tLc (iList K tl) (gName j) tYes te vs) tNil)) σ H (.bl true) := by
  refine ev_is (ev_allN (bs := (List.range xs.length).map fun _ => true) (el_lcL (fun _ => true) (fun _ => V.bl true) h hx hz hw (fun i x H1 e1 hi => fun H8 e8 Q8 q8 => q8 H8 (Ex.refl H8)) fun i x H1 e1 hi _ => he i x H1 e1 hi) ?_) ?_
  · unfold given
    rw [List.filter_eq_self.mpr (fun _ _ => rfl), List.map_map]
    rfl
  · rw [List.all_map]
    exact congrArg V.bl (List.all_eq_true.mpr fun _ _ => rfl)
/-- [.. for x in xs], a number for each of a list of numbers -/
theorem el_lcI {a : Addr} {ns : List Int} (F : Int → Int) (h : Ev tl σ H (.ref a)) (hx : SqL K H a (ns.map V.int)) (hz : ns.length ≤ 40000) (hw : ∀ x, wipe ((wipe σ vs).set j (some x)) vs = wipe σ vs)
    (he : ∀ (n : Int) H1, Ex H H1 → n ∈ ns → Ev te ((wipe σ vs).set j (some (.int n))) H1 (.int (F n))) : EvL (tLc (iList K tl) (gName j) tYes te vs) σ H ((ns.map F).map V.int) := by
  refine el_is (el_lcL (fun _ => true) (fun i => V.int (F (ns.getD i 0))) h hx (by rw [List.length_map]; exact hz) hw (fun i x H1 e1 hi => fun H8 e8 Q8 q8 => q8 H8 (Ex.refl H8)) fun i x H1 e1 hi _ => ?_) ?_
  · obtain ⟨n, hn, rfl⟩ := vget hi
    rw [show ns.getD i 0 = n by rw [List.getD_eq_getElem?_getD, hn] <;> rfl]
    exact he n H1 e1 (mem_at hn)
  · rw [List.length_map, given_all (f := fun i => F (ns.getD i 0)), List.map_map, List.map_map]
    refine List.ext_getElem (by rw [List.length_map, List.length_map, List.length_range]) fun i h1 h2 => ?_
    rw [List.getElem_map, List.getElem_map, List.getElem_range]
    rw [List.length_map] at h2
    show V.int (F (ns.getD i 0)) = V.int (F ns[i])
    rw [List.getD_eq_getElem?_getD, List.getElem?_eq_getElem h2]
    rfl
theorem el_lcIN {ns : List Int} {xs : List V} (F : Int → Int) (h : EvL tl σ H xs) (hx : xs = ns.map V.int) (hz : ns.length ≤ 40000) (hw : ∀ x, wipe ((wipe σ vs).set j (some x)) vs = wipe σ vs)
    (he : ∀ (n : Int) H1, Ex H H1 → n ∈ ns → Ev te ((wipe σ vs).set j (some (.int n))) H1 (.int (F n))) : EvL (tLc (iList K tl) (gName j) tYes te vs) σ H ((ns.map F).map V.int) := fun H0 e Q q =>
  h H0 e _ fun a H1 ha e1 hp => by
    subst hx
    refine (el_lcI (tl := fun _ H Q => Q (.ref a) H) (σ := σ) (H := H1) (te := te) (vs := vs) (j := j) F (fun H2 e2 Q2 q2 => q2 H2 (Ex.refl H2)) (sq_of hp) hz hw fun n H2 e2 hn => he n H2 (e.trans (e1.trans e2)) hn) H1 (Ex.refl H1) Q fun p H3 hp3 e3 h3 => q p H3 (fresh_back e1 hp3) (e1.trans e3) h3
end

end Wt
/-! _law_gap -/
namespace Wt
open PySem PySem.Spec PyProof.Rows L2 Evl
section
variable {P : Program} {w : World} {K : PySem.W.Frag} {mg : Str → Option Value} {base : Heap}
theorem ok_LawGap {f : Addr} {fd : FuncData} (O : Own K mg "_law_gap" ["_law_weights"] sLawGap f fd) (B : Blt mg) : FnOk P w K mg base CX0 1 f fd ["_law_weights"] (spGapOf K) := by
  refine O.F.ok scLawGap (fun vs H Q E h => ?_) (fun cdv A outer s H vs Q E hr h => ?_)
  · obtain ⟨a, ws, rfl, _⟩ := h
    rfl
  obtain ⟨a, ws, rfl, hS, q⟩ := h
  refine ⟨_, 
      (pss_cons (ps_set (i := 1) scLawGap.nd rfl (Or.inl rfl) pe_int)
      (pss_cons (ps_for PassesOwn.never rfl (pi_list (pe_callB (r := rSortedI K) (id := "sorted") cr_sortedI (by rfl) B.sorted (by decide +kernel) (pa_cons (pv 0) pa_nil))) (pg_name (i := 2) scLawGap.nd rfl (Or.inl rfl)) 
        (pss_cons (ps_if (pt_cmpR op_gt (pv 2) (pe_op op_add (pv 1) pe_int) (nomark _)) 
          (pss_one (ps_ret (pe_op op_add (pv 1) pe_int))) pss_nil)
        (pss_one (ps_set (i := 1) scLawGap.nd rfl (Or.inl rfl) (pe_op op_add (pv 1) (pv 2))))))
      (pss_one (ps_ret (pe_op op_add (pv 1) pe_int))))), ?_⟩
  refine q_asg ev_c fun H1 e1 => ?_
  refine q_forNLn (el_sorted (ex_l e1 hS) (ev_var rfl)) (fun p i σ' H' => (∃ g y2, σ' = [some (.ref a), some (.int g), y2] ∧ gap ws = gapF (g + 1) ((srt ws).drop i)) ∧ H' p = some (.lst ((srt ws).map V.int)) ∧ Ex H H')
    (fun p H2 hp e2 h2 => ⟨⟨0, none, rfl, rfl⟩, h2, e1.trans e2⟩) (fun p i σ' H' _ h => sq_of h.2.1) (fun p i x σ' H' hx h => ?_) fun p σ' H' h => ?_
  · obtain ⟨⟨g, y2, rfl, eg⟩, hp, e2⟩ := h
    obtain ⟨n, hn, rfl⟩ := vget hx
    rw [drop_at hn] at eg
    have eg : gap ws = if g + 1 < n then g + 1 else gapF (g + 1 + n) ((srt ws).drop (i + 1)) := eg
    refine q_when (et_test (ev_gt (ev_var rfl) (ev_add (ev_var rfl) ev_c))) (fun hb H3 e3 => ?_) fun hb H3 e3 => ?_
    · rw [if_pos (of_decide_eq_true hb)] at eg
      exact s_ret (ev_add (i := g) (ev_var rfl) ev_c) fun H4 e4 => eg ▸ q H4 (e2.trans (e3.trans e4))
    · rw [if_neg (of_decide_eq_false hb), show g + 1 + n = g + n + 1 by omega] at eg
      exact s_asg (ev_add (i := g) (j := n) (ev_var rfl) (ev_var rfl)) fun H4 e4 => ⟨⟨g + n, _, rfl, eg⟩, e4 p _ (e3 p _ hp), e2.trans (e3.trans e4)⟩
  · obtain ⟨⟨g, y2, rfl, eg⟩, hp, e2⟩ := h
    rw [List.length_map, List.drop_length] at eg
    have eg : gap ws = g + 1 := eg
    exact s_ret (ev_add (i := g) (ev_var rfl) ev_c) fun H4 e4 => eg ▸ q H4 (e2.trans e4)
end
end Wt
/-! _law_set -/
namespace Wt
open PySem PySem.Spec PyProof.Rows L2 Evl
section
variable {P : Program} {w : World} {K : PySem.W.Frag} {mg : Str → Option Value} {base : Heap}
/-- some weights or other, of the number of the cells or so -/
def spLawSet (K : PySem.W.Frag) : Sp := fun vs H Q _ => ∃ (a : Addr) (ns : List Int), vs = [.ref a] ∧ SqL K H a (ns.map V.int) ∧ ns.length ≤ 63 ∧ ∀ ws : List Int, Pos ws → ws.length ≤ 200 → RetL (ws.map V.int) H Q
theorem pos_snoc {fs : List Int} {wt : Int} (p : Pos fs) (h : 1 ≤ wt) : Pos (fs ++ [wt]) := pos_app p (pos_one h)
theorem ok_LawSet {f : Addr} {fd : FuncData} (O : Own K mg "_law_set" ["_law_script"] sLawSet f fd) (B : Blt mg) : FnOk P w K mg base CX0 1 f fd ["_law_script"] (spLawSet K) := by
  refine O.F.ok scLawSet (fun vs H Q E h => ?_) (fun cdv A outer s H vs Q E hr h => ?_)
  · obtain ⟨a, ns, rfl, _⟩ := h
    rfl
  obtain ⟨a, ns, rfl, hS, hz, q⟩ := h
  refine ⟨_, 
      (pss_cons (ps_set (i := 1) scLawSet.nd rfl (Or.inl rfl) (pe_callB (r := rSum K) (id := "sum") (cr_sum rfl) (by rfl) B.sum (by decide +kernel) (pa_cons (pv 0) pa_nil)))
      (pss_cons (ps_set (i := 2) scLawSet.nd rfl (Or.inl rfl) (pe_op op_mod (pe_op op_fdivW (pv 1) pe_int) pe_int))
      (pss_cons (ps_set (i := 3) scLawSet.nd rfl (Or.inr rfl) (pe_lst pa_nil))
      (pss_cons (ps_set (i := 4) scLawSet.nd rfl (Or.inl rfl) pe_int)
      (pss_cons (ps_for PassesOwn.never rfl (pi_list (pv 0)) (pg_name (i := 5) scLawSet.nd rfl (Or.inl rfl)) 
        (pss_cut (ps_if (pt_cmpR op_lt (pv 2) pe_int (nomark _)) 
          (pss_one (ps_set (i := 6) scLawSet.nd rfl (Or.inl rfl) (pe_op op_add pe_int (pe_op op_mod (pv 5) (pe_ix (r := rIxT K) ix_tup (pe_tup (pa_cons pe_int (pa_cons (pe_op op_pow pe_int pe_int) pa_nil))) (pv 2) (fun _ _ => rfl)))))) 
          (pss_one (ps_if (pt_cmpR op_eq (pv 2) pe_int (nomark _)) 
            (pss_one (ps_set (i := 6) scLawSet.nd rfl (Or.inl rfl) (pe_op op_add pe_int (pe_op op_mod (pv 5) pe_int)))) 
            (pss_cons (ps_set (i := 6) scLawSet.nd rfl (Or.inl rfl) (pe_op op_add pe_int (pe_op op_mod (pv 5) (pe_op op_add (pv 4) pe_int))))
            (pss_one (ps_if (PW.pt (pw_and (pt_cmpR op_eq (pv 2) pe_int (nomark _)) (pw_and1 (pt_cmpR op_eq (pe_op op_mod (pe_op op_fdivW (pv 5) pe_int) pe_int) pe_int (nomark _))))) 
              (pss_one (ps_set (i := 6) scLawSet.nd rfl (Or.inl rfl) (pe_op op_add (pe_op op_add (pv 4) pe_int) (pe_op op_mod (pe_op op_fdivW (pv 5) pe_int) pe_int)))) pss_nil))))))
        (pss_cons (ps_expr (pe_bm PySem.F.plainAttrs_list PySem.F.slot_list_append PySem.F.type_list_append mt_append (pv 3) (pa_cons (pv 6) pa_nil)))
        (pss_one (ps_set (i := 4) scLawSet.nd rfl (Or.inl rfl) (pe_op op_add (pv 4) (pv 6)))))))
      (pss_cut (ps_if (pt_cmpR op_eq (pe_op op_mod (pe_op op_fdivW (pv 1) pe_int) pe_int) pe_int (nomark _)) 
        (pss_one (ps_set (i := 3) scLawSet.nd rfl (Or.inr rfl) (pe_revL (pv 3)))) pss_nil)
      (pss_cut (ps_if (PW.pt (pw_and (pt_cmpR op_eq (pe_op op_mod (pe_op op_fdivW (pv 1) pe_int) pe_int) pe_int (nomark _)) (pw_and1 (pt_cmpR (r := rNeD K) (op_neD hr.units) (pv 3) (pe_lst pa_nil) (nomark _))))) 
        (pss_one (ps_set (i := 3) scLawSet.nd rfl (Or.inr rfl) (pe_lc (own := [("_law_at", 7)]) (g := gName 7) (tt := tYes) rfl scLawSet.nd (pi_range1 (by rfl) B.range (pa_cons (pe_op op_add pe_int (pe_op op_mod (pv 1) pe_int)) pa_nil)) (blkOk_by (N := nLawSet) (sc := defScope sLawSet) (by decide +kernel)) (fun _ _ _ _ _ => (pg_name (i := 7) scLawSet.nd rfl (Or.inl rfl))) (fun _ _ _ _ _ => pts_nil) (fun _ _ _ _ _ => (pe_op op_add (pe_ix (r := rIxL K) ix_list (pv 3) (pe_op op_mod (pe_op op_mulX (pv 7) (pv 7)) (pe_callB (r := rLenS K) (id := "len") call_len_seq (by rfl) B.len (by decide +kernel) (pa_cons (pv 3) pa_nil))) (fun _ _ => rfl)) (pe_op op_fdivW (pv 7) (pe_callB (r := rLenS K) (id := "len") call_len_seq (by rfl) B.len (by decide +kernel) (pa_cons (pv 3) pa_nil)))))))) pss_nil)
      (pss_one (ps_ret (pv 3)))))))))), ?_⟩
  refine q_asg (ev_sum hS (ev_var rfl)) fun H1 e1 => ?_
  refine q_asg (ev_mod (ev_div (ev_var rfl) ev_c (div_lit (by decide) (by decide))) ev_c (by decide)) fun H2 e2 => ?_
  have k0 : 0 ≤ ns.sum / 7 % 5 := Int.emod_nonneg _ (by decide)
  generalize ns.sum / 7 % 5 = kd at k0 ⊢
  generalize hm : ns.sum = mx
  refine q_asgL (xs := []) (el_lst ea_nil (Nat.zero_le _)) fun c H3 hc e3 h3 => ?_
  refine q_asg ev_c fun H4 e4 => ?_
  have eb : Ex H H4 := e1.trans (e2.trans (e3.trans e4))
  have hcH : H c = none := fresh_back (e1.trans e2) hc
  -- the weights, cell by cell
  refine q_forLn (ev_var rfl) (ex_l eb hS) (fun i σ' H' => (∃ (fs : List Int) (wh : Int) (y5 y6 : Option V), σ' = [some (.ref a), some (.int mx), some (.int kd), some (.ref c), some (.int wh), y5, y6, none] ∧ H' c = some (.lst (fs.map V.int)) ∧ Pos fs ∧ fs.length = i ∧ 0 ≤ wh) ∧ Ex H H')
    (fun H5 e5 => ⟨⟨[], 0, none, none, rfl, e5 c _ (e4 c _ h3), (fun _ h => nomatch h), rfl, Int.le_refl 0⟩, eb.trans e5⟩) (fun i σ' H' _ h => ex_l h.2 hS) (fun i x σ' H' hx h => ?_) fun σ' H' h => ?_
  · obtain ⟨⟨fs, wh, y5, y6, rfl, hc', pos, hl, w0⟩, eH⟩ := h
    obtain ⟨cell, hcell, rfl⟩ := vget hx
    have hi : i < 63 := by
      have := (List.getElem?_eq_some_iff.mp hcell).1
      omega
    refine q_cut (M := fun σ2 H5 => ∃ wt : Int, 1 ≤ wt ∧ σ2 = [some (.ref a), some (.int mx), some (.int kd), some (.ref c), some (.int wh), some (.int cell), some (.int wt), none] ∧ Ex H' H5) ?_ fun σ2 H5 hM => ?_
    · refine s_if (et_test (ev_lt (ev_var rfl) ev_c)) (fun hb H5 e5 => ?_) fun hb H5 e5 => ?_
      · have kl : kd < 2 := of_decide_eq_true hb
        obtain ⟨m, m0, hm2⟩ : ∃ m : Int, 0 < m ∧ atI [V.int 6, V.int (10 ^ (30 : Int).toNat)] kd = some (.int m) := by
          rcases (show kd = ((0 : Nat) : Int) ∨ kd = ((1 : Nat) : Int) by omega) with e | e
          · exact ⟨6, by decide, at_of e rfl⟩
          · exact ⟨10 ^ (30 : Int).toNat, by decide, at_of e rfl⟩
        refine s_asg (ev_add ev_c (ev_mod (ev_var rfl) (ev_ixU (eu_tup (ea_cons ev_c (ea_cons (ev_op ev_c ev_c (rv_I ⟨by decide, by decide, by decide⟩)) ea_nil)) (by decide)) (ev_var rfl) hm2) m0)) fun H6 e6 => ?_
        have := Int.emod_nonneg cell (show m ≠ 0 by omega)
        exact ⟨1 + cell % m, by omega, rfl, e5.trans e6⟩
      · refine s_if (et_test (ev_eq (ev_var rfl) ev_c)) (fun hb2 H6 e6 => ?_) fun hb2 H6 e6 => ?_
        · refine s_asg (ev_add ev_c (ev_mod (ev_var rfl) ev_c (by decide))) fun H7 e7 => ?_
          have := Int.emod_nonneg cell (show (60 : Int) ≠ 0 by decide)
          exact ⟨1 + cell % 60, by omega, rfl, e5.trans (e6.trans e7)⟩
        · refine q_asg (ev_add ev_c (ev_mod (ev_var rfl) (ev_add (ev_var rfl) ev_c) (show 0 < wh + 1 by omega))) fun H7 e7 => ?_
          have hm1 := Int.emod_nonneg cell (show wh + 1 ≠ 0 by omega)
          have hm4 := Int.emod_nonneg (cell / 63) (show (4 : Int) ≠ 0 by decide)
          refine s_when (et_and (et_test (ev_eq (ev_var rfl) ev_c)) fun _ => et_test (ev_eq (ev_mod (ev_div (ev_var rfl) ev_c (div_lit (by decide) (by decide))) ev_c (by decide)) ev_c)) (fun _ H8 e8 => ?_) fun _ H8 e8 => ?_
          · exact s_asg (ev_add (ev_add (ev_var rfl) ev_c) (ev_mod (ev_div (ev_var rfl) ev_c (div_lit (by decide) (by decide))) ev_c (by decide))) fun H9 e9 => ⟨wh + 2 + cell / 63 % 4, by omega, rfl, e5.trans (e6.trans (e7.trans (e8.trans e9)))⟩
          · exact ⟨1 + cell % (wh + 1), by omega, rfl, e5.trans (e6.trans (e7.trans e8))⟩
    · obtain ⟨wt, w1, rfl, e5⟩ := hM
      refine q_app (e5 c _ hc') (ev_var rfl) (ev_var rfl) (by rw [List.length_map]; omega) fun H6 e6 => ?_
      refine s_asg (ev_add (ev_var rfl) (ev_var rfl)) fun H7 e7 => ?_
      refine ⟨⟨fs ++ [wt], wh + wt, _, _, rfl, ?_, pos_snoc pos w1, ?_, by omega⟩, (Ex.mut (eH.trans (e5.trans e6)) hcH).trans e7⟩
      · rw [List.map_append]
        exact e7 c _ upd_same
      · rw [List.length_append, hl]
        rfl
  · obtain ⟨⟨fs, wh, y5, y6, rfl, hc', pos, hl, w0⟩, eH⟩ := h
    rw [List.length_map] at hl
    -- turned round, or not
    refine q_cut (M := fun σ2 H5 => ∃ (fs2 : List Int) (c2 : Addr), σ2 = [some (.ref a), some (.int mx), some (.int kd), some (.ref c2), some (.int wh), y5, y6, none] ∧ H c2 = none ∧ H5 c2 = some (.lst (fs2.map V.int)) ∧ Pos fs2 ∧ fs2.length ≤ 63 ∧ Ex H H5) ?_ fun σ2 H5 hM => ?_
    · refine s_when (et_test (ev_eq (ev_mod (ev_div (ev_var rfl) ev_c (div_lit (by decide) (by decide))) ev_c (by decide)) ev_c)) (fun _ H5 e5 => ?_) fun _ H5 e5 => ?_
      · refine s_asgL (el_rev (sq_of (e5 c _ hc')) (ev_var rfl)) fun c2 H6 hc2 e6 h6 => ?_
        exact ⟨fs.reverse, c2, rfl, fresh_back (eH.trans e5) hc2, by rw [h6, List.map_reverse], fun z hz2 => pos z (List.mem_reverse.mp hz2), by rw [List.length_reverse]; omega, eH.trans (e5.trans e6)⟩
      · exact ⟨fs, c, rfl, hcH, e5 c _ hc', pos, by omega, eH.trans e5⟩
    obtain ⟨fs2, c2, rfl, hc2H, hc2, pos2, hl2, e5⟩ := hM
    -- a hundred, or not
    refine q_cut (M := fun σ2 H6 => ∃ (ws : List Int) (c3 : Addr), σ2 = [some (.ref a), some (.int mx), some (.int kd), some (.ref c3), some (.int wh), y5, y6, none] ∧ H c3 = none ∧ H6 c3 = some (.lst (ws.map V.int)) ∧ Pos ws ∧ ws.length ≤ 200 ∧ Ex H H6) ?_ fun σ2 H6 hM => ?_
    · refine s_when (et_and (et_test (ev_eq (ev_mod (ev_div (ev_var rfl) ev_c (div_lit (by decide) (by decide))) ev_c (by decide)) ev_c)) fun _ => et_test (ev_opL (ev_var rfl) el_nil fun p H7 hp e7 => rv_neL (sq_of (e7 c2 _ hc2)) (sq_of hp))) (fun hb H6 e6 => ?_) fun _ H6 e6 => ?_
      · have hne : fs2 ≠ [] := by
          have z := (Bool.and_eq_true_iff.mp hb).2
          rw [Bool.not_eq_true'] at z
          exact of_decide_eq_false z
        have hp : 0 < fs2.length := List.length_pos_iff.mpr hne
        have mm := Int.emod_nonneg mx (show (40 : Int) ≠ 0 by decide)
        have ml := Int.emod_lt_of_pos mx (show (0 : Int) < 40 by decide)
        have hS2 : ∀ H7, Ex H6 H7 → SqL K H7 c2 (fs2.map V.int) := fun H7 e7 => sq_of (e7 c2 _ (e6 c2 _ hc2))
        refine s_asgL (el_lcR1 (fun _ => true) (fun i => V.int (fs2.getD (i * i % fs2.length) 0 + ((i : Int) / (fs2.length : Int)))) (ea_cons (ev_add ev_c (ev_mod (ev_var rfl) ev_c (by decide))) ea_nil) ⟨by omega, by omega⟩ (fun _ => rfl) (fun i H7 e7 hi => fun H8 e8 Q8 q8 => q8 H8 (Ex.refl H8)) fun i H7 e7 hi _ => ?_) fun c3 H7 hc3 e7 h7 => ?_
        · have hl : Ev (tCB (rLenS K) (tCons (tVar 3) tNil)) ([some (.ref a), some (.int mx), some (.int kd), some (.ref c2), some (.int wh), y5, y6, some (.int (i : Int))]) H7 (.int (fs2.length : Int)) :=
            ev_is (ev_len (ev_var rfl) (hS2 H7 e7)) (by rw [List.length_map])
          have hj : i * i % fs2.length < fs2.length := Nat.mod_lt _ hp
          refine ev_add (ev_ixL (hS2 H7 e7) (ev_var rfl) (ev_mod (ev_mul (ev_var rfl) (ev_var rfl) (small_mul (a := 10) (b := 10) (by omega) (by omega) (by decide) (by decide) (by decide))) hl (by omega)) (at_of (j := i * i % fs2.length) (by rw [Int.natCast_emod, Int.natCast_mul]) (vmap ?_))) (ev_div (ev_var rfl) hl (div_lit (by omega) (by omega)))
          rw [List.getD_eq_getElem?_getD, List.getElem?_eq_getElem hj]
          rfl
        · rw [given_all] at h7
          refine ⟨_, c3, rfl, fresh_back (e5.trans e6) hc3, h7, fun z hz2 => ?_, by rw [List.length_map, List.length_range]; omega, e5.trans (e6.trans e7)⟩
          obtain ⟨i, _, rfl⟩ := List.mem_map.mp hz2
          have hj : i * i % fs2.length < fs2.length := Nat.mod_lt _ hp
          have h1 : 1 ≤ fs2.getD (i * i % fs2.length) 0 := by
            rw [List.getD_eq_getElem?_getD, List.getElem?_eq_getElem hj]
            exact pos2 _ (List.getElem_mem hj)
          have h2 : 0 ≤ (i : Int) / (fs2.length : Int) := Int.ediv_nonneg (by omega) (by omega)
          omega
      · exact ⟨fs2, c2, rfl, hc2H, e6 c2 _ hc2, pos2, by omega, e5.trans e6⟩
    obtain ⟨ws, c3, rfl, hc3H, hc3, pos3, hl3, e6⟩ := hM
    exact s_ret (v := .ref c3) (ev_var rfl) fun H7 e7 => q ws pos3 hl3 c3 H7 hc3H (e6.trans e7) (e7 c3 _ hc3)
end
end Wt
/-! ### the statement of the changes -/
namespace Wt
open PySem PySem.Spec PyProof.Rows L2 Evl
theorem sub_le_sum : ∀ {ws : List Int} {n : Int}, Pos ws → Sub ws n → n ≤ ws.sum
  | [], n, _, h => by
    have e : n = 0 := h
    rw [e]
    exact Int.le_refl 0
  | w :: r, n, p, h => by
    have h0 := p w List.mem_cons_self
    have pr : Pos r := fun x hx => p x (List.mem_cons_of_mem _ hx)
    rw [List.sum_cons]
    rcases h with h | h
    · have := sub_le_sum pr h
      omega
    · have := sub_le_sum pr h
      omega
theorem gap_le_sum {ws : List Int} (p : Pos ws) : gap ws ≤ ws.sum + 1 := by
  have h0 := sub_le_sum p (sub_zero ws)
  refine gap_le p (by omega) fun h => ?_
  have := sub_le_sum p h
  omega
theorem sum_le7 : ∀ {l : List Int}, (∀ w ∈ l, w ≤ 7) → l.sum ≤ (l.length : Int) * 7
  | [], _ => by show (0 : Int) ≤ 0 * 7; omega
  | w :: r, h => by
    have h0 := h w List.mem_cons_self
    have := sum_le7 (l := r) fun x hx => h x (List.mem_cons_of_mem _ hx)
    rw [List.sum_cons, List.length_cons]
    omega
/-- put into a rising list, once -/
def ins (x : Int) : List Int → List Int
  | [] => [x]
  | y :: r => if x < y then x :: y :: r else if x = y then y :: r else y :: ins x r
theorem ins_mem {x j : Int} : ∀ {l : List Int}, j ∈ ins x l ↔ j = x ∨ j ∈ l
  | [] => List.mem_singleton.trans ⟨.inl, fun h => h.elim id fun h => nomatch h⟩
  | y :: r => by
    show j ∈ (if x < y then x :: y :: r else if x = y then y :: r else y :: ins x r) ↔ _
    split
    · exact List.mem_cons
    · split
      · rename_i _ e
        subst e
        rw [List.mem_cons]
        exact ⟨fun h => .inr h, fun h => h.elim .inl id⟩
      · rw [List.mem_cons, ins_mem (l := r), List.mem_cons]
        constructor
        · rintro (h | h | h)
          · exact .inr (.inl h)
          · exact .inl h
          · exact .inr (.inr h)
        · rintro (h | h | h)
          · exact .inr (.inl h)
          · exact .inl h
          · exact .inr (.inr h)
theorem ins_rise {x : Int} : ∀ {l : List Int}, l.Pairwise (· < ·) → (ins x l).Pairwise (· < ·)
  | [], _ => List.pairwise_singleton _ _
  | y :: r, h => by
    obtain ⟨h1, h2⟩ := List.pairwise_cons.mp h
    show (if x < y then x :: y :: r else if x = y then y :: r else y :: ins x r).Pairwise (· < ·)
    split
    · rename_i hlt
      refine List.pairwise_cons.mpr ⟨fun z hz => ?_, h⟩
      rcases List.mem_cons.mp hz with e | hz
      · rw [e]
        exact hlt
      · exact Int.lt_trans hlt (h1 z hz)
    · split
      · exact h
      · refine List.pairwise_cons.mpr ⟨fun z hz => ?_, ins_rise h2⟩
        rcases ins_mem.mp hz with e | hz
        · omega
        · exact h1 z hz
/-- its members, each once, rising -/
def once (l : List Int) : List Int := l.foldr ins []
theorem once_mem {j : Int} : ∀ {l : List Int}, j ∈ once l ↔ j ∈ l
  | [] => Iff.rfl
  | x :: r => by
    show j ∈ ins x (once r) ↔ j ∈ x :: r
    rw [ins_mem, once_mem (l := r), List.mem_cons]
theorem once_rise : ∀ l : List Int, (once l).Pairwise (· < ·)
  | [] => .nil
  | x :: r => ins_rise (once_rise r)
theorem once_len (l : List Int) : (once l).length ≤ l.length :=
  List.Nodup.length_le_of_subset ((once_rise l).imp fun h => Int.ne_of_lt h) fun _ h => once_mem.mp h
theorem inI {n : Int} : ∀ {l : List Int}, inV (.int n) (l.map V.int) = decide (n ∈ l)
  | [] => rfl
  | x :: r => by
    show (eqV (.int x) (.int n) || inV (.int n) (r.map V.int)) = decide (n ∈ x :: r)
    rw [inI (l := r), show eqV (.int x) (.int n) = (x == n) from rfl, Bool.eq_iff_iff]
    simp only [Bool.or_eq_true, beq_iff_eq, decide_eq_true_eq, List.mem_cons]
    constructor
    · rintro (h | h)
      · exact .inl h.symm
      · exact .inr h
    · rintro (h | h)
      · exact .inl h.symm
      · exact .inr h
theorem flatI : ∀ l : List Int, (l.map V.int).all flatV = true
  | [] => rfl
  | _ :: r => flatI r
section
variable {K : PySem.W.Frag} {σ : L2.St} {H : Hp} {ta tb te : TE} {t : TT} {v : V}
theorem ev_mulS {i j : Int} (ha : Ev ta σ H (.int i)) (hb : Ev tb σ H (.int j)) (h : CMul i j) : Ev (tOp (rI CMul fun i j => .int (i * j)) ta tb) σ H (.int (i * j)) := ev_op ha hb (rv_I h)
theorem ev_ixNL {xs : List V} {i : Int} (ha : EvL ta σ H xs) (hb : Ev tb σ H (.int i)) (h : atI xs i = some v) : Ev (tOp (rIxL K) ta tb) σ H v := fun H1 e Q q =>
  ha H1 e _ fun p H2 _ e2 hp => hb H2 (e.trans e2) _ fun H3 e3 => ⟨p, xs, i, v, rfl, rfl, sq_of (e3 p _ hp), h, q H3 (e2.trans e3)⟩
/-- [.. for i in range(lo, hi) if ..] -/
theorem el_lcR2 {ta : TA} {j : Nat} {vs : List Nat} {lo hi : Int} (f : Nat → Bool) (v : Nat → V) (h : EvA ta σ H [.int lo, .int hi]) (hl : 0 ≤ lo ∧ lo ≤ 20000 ∧ 0 ≤ hi ∧ hi ≤ 20000) (hw : ∀ x, wipe ((wipe σ vs).set j (some x)) vs = wipe σ vs)
    (ht : ∀ (i : Nat) H1, Ex H H1 → i < (hi - lo).toNat → EvT t ((wipe σ vs).set j (some (.int (lo + (i : Int))))) H1 (f i)) (he : ∀ (i : Nat) H1, Ex H H1 → i < (hi - lo).toNat → f i = true → Ev te ((wipe σ vs).set j (some (.int (lo + (i : Int))))) H1 (v i)) :
    EvL (tLc (iRng2 ta) (gName j) t te vs) σ H (given (hi - lo).toNat f v) := fun H0 e Q q => h H0 e _ fun H1 e1 => ⟨lo, hi, rfl, ⟨by omega, by omega, by omega, by omega⟩, fun Dl hD =>
  lc_range (lo := lo) (n := (hi - lo).toNat) (Cw H1 f v Dl) ⟨hD, Ex.new hD, upd_same⟩ (fun i H' hi' p => ⟨hw _, cw_turn p (by omega) (ht i H1 (e.trans e1) hi') (fun hf => he i H1 (e.trans e1) hi' hf)⟩) (fun H' p => q Dl H' (fresh_back e1 p.1) (e1.trans p.2.1) p.2.2)⟩
end
theorem given_hd {n k : Nat} {f : Nat → Bool} {v : Nat → V} (hk : k < n) (h1 : f k = true) (h0 : ∀ j, j < k → f j = false) : (given n f v)[0]? = some (v k) := by
  have e : (List.range n).find? f = some k := List.find?_range_eq_some.mpr ⟨h1, List.mem_range.mpr hk, fun j hj => by rw [h0 j hj]; rfl⟩
  unfold given
  rw [← List.head?_eq_getElem?, List.head?_map, List.head?_filter, e]
  rfl
section
variable {P : Program} {w : World} {K : PySem.W.Frag} {mg : Str → Option Value} {base : Heap}
/-! _law_sums -/
def spLawSums (K : PySem.W.Frag) : Sp := fun vs H Q _ => ∃ (a : Addr) (ws : List Int), vs = [.ref a] ∧ SqL K H a (ws.map V.int) ∧ ws.length ≤ 9 ∧ ∀ fs : List Int, (∀ n, n ∈ fs ↔ Sub ws n) → fs.length ≤ 512 → RetL (fs.map V.int) H Q
theorem ok_LawSums {f : Addr} {fd : FuncData} (O : Own K mg "_law_sums" ["_law_weights"] sLawSums f fd) (B : Blt mg) : FnOk P w K mg base CX0 1 f fd ["_law_weights"] (spLawSums K) := by
  refine O.F.ok scLawSums (fun vs H Q E h => ?_) (fun cdv A outer s H vs Q E hr h => ?_)
  · obtain ⟨a, ws, rfl, _⟩ := h
    rfl
  obtain ⟨a, ws, rfl, hS, hz, q⟩ := h
  refine ⟨_, 
      (pss_cons (ps_set (i := 1) scLawSums.nd rfl (Or.inl rfl) (pe_lst (pa_cons pe_int pa_nil)))
      (pss_cons (ps_for PassesOwn.never rfl (pi_list (pv 0)) (pg_name (i := 2) scLawSums.nd rfl (Or.inr rfl)) 
        (pss_one (ps_set (i := 1) scLawSums.nd rfl (Or.inl rfl) (pe_callB (r := rSortedS2 w) (id := "sorted") (cr_sortedS2 rfl) (by rfl) B.sorted (by decide +kernel) (pa_cons (pe_callTy (r := rSetI K w) (T := "set") (cr_setI rfl) (by rfl) B.setT (by decide +kernel) (pa_cons (pe_op op_cat (pv 1) (pe_lc (own := [("_law_one", 3)]) (g := gName 3) (tt := tYes) rfl scLawSums.nd (pi_list (pv 1)) (blkOk_by (N := nLawSums) (sc := defScope sLawSums) (by decide +kernel)) (fun _ _ _ _ _ => (pg_name (i := 3) scLawSums.nd rfl (Or.inl rfl))) (fun _ _ _ _ _ => pts_nil) (fun _ _ _ _ _ => (pe_op op_add (pv 3) (pv 2))))) pa_nil)) pa_nil)))))
      (pss_one (ps_ret (pv 1))))), ?_⟩
  refine q_asgL (xs := ([0] : List Int).map V.int) (el_lst (ea_cons ev_c ea_nil) (by decide)) fun c H1 hc e1 h1 => ?_
  refine q_forLn (ev_var rfl) (ex_l e1 hS) (fun i σ' H' => ∃ (fs : List Int) (c : Addr) (y2 : Option V), σ' = [some (.ref a), some (.ref c), y2, none] ∧ H c = none ∧ H' c = some (.lst (fs.map V.int)) ∧ (∀ n, n ∈ fs ↔ Sub (ws.take i) n) ∧ fs.length ≤ 2 ^ i ∧ i ≤ ws.length ∧ Ex H H')
    (fun H2 e2 => ⟨[0], c, none, rfl, hc, e2 c _ h1, fun n => List.mem_singleton, Nat.le_refl _, Nat.zero_le _, e1.trans e2⟩) (fun i σ' H' _ h => ?_) (fun i x σ' H' hx h => ?_) fun σ' H' h => ?_
  · obtain ⟨fs, c, y2, _, _, _, _, _, _, eH⟩ := h
    exact ex_l eH hS
  · obtain ⟨fs, c, y2, rfl, hcH, hc', hfs, hl, hi, eH⟩ := h
    obtain ⟨n, hn, rfl⟩ := vget hx
    have hi2 := (List.getElem?_eq_some_iff.mp hn).1
    have p9 : 2 ^ i ≤ 2 ^ 9 := Nat.pow_le_pow_right (by decide) (by omega)
    have p9' : (2 : Nat) ^ 9 = 512 := by decide
    refine s_asgL (el_sortedSetN (w := w) (ns := fs ++ fs.map (fun z => z + n)) (ms := once (fs ++ fs.map (fun z => z + n))) (el_catN hc' ?_ (ev_var rfl) (el_lcI (fun z => z + n) (ev_var rfl) (sq_of hc') (by omega) (fun _ => rfl) fun z H2 e2 hz2 => ev_add (ev_var rfl) (ev_var rfl))) (by rw [List.map_append]) ?_ (once_rise _) (fun j => once_mem)) fun c2 H2 hc2 e2 h2 => ?_
    · rw [List.length_map, List.length_map, List.length_map]
      omega
    · rw [List.length_append, List.length_map]
      omega
    · refine ⟨_, c2, _, rfl, fresh_back eH hc2, h2, fun m => ?_, ?_, by omega, eH.trans e2⟩
      · rw [once_mem, take_at hn, sub_snoc, List.mem_append, hfs m]
        refine or_congr Iff.rfl ?_
        rw [List.mem_map, ← hfs (m - n)]
        constructor
        · rintro ⟨z, hz1, rfl⟩
          rw [show z + n - n = z by omega]
          exact hz1
        · exact fun h => ⟨m - n, h, by omega⟩
      · refine Nat.le_trans (once_len _) ?_
        rw [List.length_append, List.length_map, Nat.pow_succ]
        omega
  · obtain ⟨fs, c, y2, rfl, hcH, hc', hfs, hl, hi, eH⟩ := h
    rw [List.length_map] at hfs hl hi
    rw [List.take_length] at hfs
    have p9 : 2 ^ ws.length ≤ 2 ^ 9 := Nat.pow_le_pow_right (by decide) hz
    exact s_ret (v := .ref c) (ev_var rfl) fun H2 e2 => q fs hfs (Nat.le_trans hl p9) c H2 hcH (eH.trans e2) (e2 c _ hc')
def spLaw (K : PySem.W.Frag) : Sp := fun vs H Q _ => ∃ (a : Addr) (ns : List Int), vs = [.ref a] ∧ SqL K H a (ns.map V.int) ∧ ns.length ≤ 63 ∧ (∀ z ∈ ns, Builtin.Int.intBits z ≤ 1048576) ∧ ∀ H', Q (.bl true) H'
theorem ok_Law {f fLawSet fFirstGap fWeighing fLawSums : Addr} {fd fdLawSet fdFirstGap fdWeighing fdLawSums : FuncData} (O : Own K mg "law" ["_law_script"] sLaw f fd) (B : Blt mg)
    (GLawSet : FnOk P w K mg base CX0 1 fLawSet fdLawSet ["_law_script"] (spLawSet K)) (OLawSet : Own K mg "_law_set" ["_law_script"] sLawSet fLawSet fdLawSet)
    (GLawSums : FnOk P w K mg base CX0 1 fLawSums fdLawSums ["_law_weights"] (spLawSums K)) (OLawSums : Own K mg "_law_sums" ["_law_weights"] sLawSums fLawSums fdLawSums)
    (GFirstGap : FnOk P w K mg base CX0 3 fFirstGap fdFirstGap ["weights"] (spFirst K)) (OFirstGap : Own K mg "first_gap" ["weights"] sFirstGap fFirstGap fdFirstGap)
    (GWeighing : FnOk P w K mg base CX0 3 fWeighing fdWeighing ["weights", "number"] (spWeighing K)) (OWeighing : Own K mg "weighing" ["weights", "number"] sWeighing fWeighing fdWeighing) :
    FnOk P w K mg base CX0 4 f fd ["_law_script"] (spLaw K) := by
  refine O.F.ok scLaw (fun vs H Q E h => ?_) (fun cdv A outer s H vs Q E hr h => ?_)
  · obtain ⟨a, ns, rfl, _⟩ := h
    rfl
  obtain ⟨a0, ns, rfl, hS, hz, bits, q⟩ := h
  refine ⟨_, 
      (pss_cons (ps_set (i := 0) scLaw.nd rfl (Or.inl rfl) (pe_slice (r := rSlL K) sl_list (pv 0) po_none (po_some pe_int)))
      (pss_cons (ps_set (i := 1) scLaw.nd rfl (Or.inl rfl) (pe_call GLawSet (hr.mono (by decide)) (by rfl) OLawSet.g OLawSet.F.kp OLawSet.b .nil pass0 (pa_cons (pv 0) pa_nil)))
      (pss_cons (ps_set (i := 2) scLaw.nd rfl (Or.inl rfl) (pe_call GFirstGap (hr.mono (by decide)) (by rfl) OFirstGap.g OFirstGap.F.kp OFirstGap.b .nil pass0 (pa_cons (pv 1) pa_nil)))
      (pss_cons (ps_set (i := 4) scLaw.nd rfl (Or.inr rfl) (pe_lc (own := [("_law_cell", 3)]) (g := gName 3) (tt := tYes) rfl scLaw.nd (pi_list (pe_slice (r := rSlL K) sl_list (pv 0) po_none (po_some pe_int))) (blkOk_by (N := nLaw) (sc := defScope sLaw) (by decide +kernel)) (fun _ _ _ _ _ => (pg_name (i := 3) scLaw.nd rfl (Or.inl rfl))) (fun _ _ _ _ _ => pts_nil) (fun _ _ _ _ _ => (pe_op op_add pe_int (pe_op op_mod (pv 3) pe_int)))))
      (pss_cons (ps_set (i := 5) scLaw.nd rfl (Or.inr rfl) (pe_call GLawSums (hr.mono (by decide)) (by rfl) OLawSums.g OLawSums.F.kp OLawSums.b .nil pass0 (pa_cons (pv 4) pa_nil)))
      (pss_cons (ps_set (i := 7) scLaw.nd rfl (Or.inl rfl) (pe_ix (r := rIxL K) ix_list (pe_lc (own := [("_law_number", 6)]) (g := gName 6) rfl scLaw.nd (pi_range2 (by rfl) B.range (pa_cons pe_int (pa_cons (pe_op op_add (pe_op op_mul (pe_callB (r := rLenS K) (id := "len") call_len_seq (by rfl) B.len (by decide +kernel) (pa_cons (pv 4) pa_nil)) pe_int) pe_int) pa_nil))) (blkOk_by (N := nLaw) (sc := defScope sLaw) (by decide +kernel)) (fun _ _ _ _ _ => (pg_name (i := 6) scLaw.nd rfl (Or.inl rfl))) (fun _ _ _ _ _ => (pts_one (pt_cmpR (r := rIn K true) op_notIn_seq (pv 6) (pv 5) (by rfl)))) (fun _ _ _ _ _ => (pv 6))) pe_int (fun _ _ => rfl)))
      (pss_cons (ps_if (pt_cmpR op_ne (pe_call GFirstGap (hr.mono (by decide)) (by rfl) OFirstGap.g OFirstGap.F.kp OFirstGap.b .nil pass0 (pa_cons (pv 4) pa_nil)) (pv 7) (nomark _)) 
        (pss_one (ps_ret pe_bl)) pss_nil)
      (pss_cons (ps_for PassesOwn.never rfl (pi_range1 (by rfl) B.range (pa_cons (pv 7) pa_nil)) (pg_name (i := 6) scLaw.nd rfl (Or.inl rfl)) 
        (pss_one (ps_if (pt_cmpR op_ne (pe_callB (r := rSum K) (id := "sum") (cr_sum rfl) (by rfl) B.sum (by decide +kernel) (pa_cons (pe_lc (own := [("_law_place", 12)]) (g := gName 12) (tt := tYes) rfl scLaw.nd (pi_list (pe_call GWeighing (hr.mono (by decide)) (by rfl) OWeighing.g OWeighing.F.kp OWeighing.b .nil pass0 (pa_cons (pv 4) (pa_cons (pv 6) pa_nil)))) (blkOk_by (N := nLaw) (sc := defScope sLaw) (by decide +kernel)) (fun _ _ _ _ _ => (pg_name (i := 12) scLaw.nd rfl (Or.inl rfl))) (fun _ _ _ _ _ => pts_nil) (fun _ _ _ _ _ => (pe_ix (r := rIxL K) ix_list (pv 4) (pv 12) (fun _ _ => rfl)))) pa_nil)) (pv 6) (nomark _)) 
          (pss_one (ps_ret pe_bl)) pss_nil)))
      (pss_cons (ps_set (i := 8) scLaw.nd rfl (Or.inl rfl) (pe_op op_fdivW (pe_callB (r := rLenS K) (id := "len") call_len_seq (by rfl) B.len (by decide +kernel) (pa_cons (pv 1) pa_nil)) pe_int))
      (pss_cons (ps_set (i := 9) scLaw.nd rfl (Or.inl rfl) (pe_call GFirstGap (hr.mono (by decide)) (by rfl) OFirstGap.g OFirstGap.F.kp OFirstGap.b .nil pass0 (pa_cons (pe_slice (r := rSlL K) sl_list (pv 1) po_none (po_some (pv 8))) pa_nil)))
      (pss_cons (ps_set (i := 10) scLaw.nd rfl (Or.inl rfl) (pe_call GFirstGap (hr.mono (by decide)) (by rfl) OFirstGap.g OFirstGap.F.kp OFirstGap.b .nil pass0 (pa_cons (pe_slice (r := rSlL K) sl_list (pv 1) (po_some (pv 8)) po_none) pa_nil)))
      (pss_cons (ps_if (PW.pt (pw_or (pt_cmpR op_lt (pv 2) (pe_op op_sub (pe_op op_add (pv 9) (pv 10)) pe_int) (nomark _)) (pw_or (pt_cmpR op_lt (pv 2) (pv 9) (nomark _)) (pw_or1 (pt_cmpR op_lt (pv 2) (pv 10) (nomark _)))))) 
        (pss_one (ps_ret pe_bl)) pss_nil)
      (pss_cons (ps_if (PW.pt (pw_or (pt_cmpR op_ne (pe_call GFirstGap (hr.mono (by decide)) (by rfl) OFirstGap.g OFirstGap.F.kp OFirstGap.b .nil pass0 (pa_cons (pe_revL (pv 1)) pa_nil)) (pv 2) (nomark _)) (pw_or1 (pt_cmpR op_ne (pe_call GFirstGap (hr.mono (by decide)) (by rfl) OFirstGap.g OFirstGap.F.kp OFirstGap.b .nil pass0 (pa_cons (pe_callB (r := rSortedI K) (id := "sorted") cr_sortedI (by rfl) B.sorted (by decide +kernel) (pa_cons (pv 1) pa_nil)) pa_nil)) (pv 2) (nomark _))))) 
        (pss_one (ps_ret pe_bl)) pss_nil)
      (pss_cons (ps_for PassesOwn.never rfl (pi_list (pe_op op_cat (pe_slice (r := rSlL K) sl_list (pv 0) po_none (po_some pe_int)) (pe_lst (pa_cons pe_int pa_nil)))) (pg_name (i := 3) scLaw.nd rfl (Or.inl rfl)) 
        (pss_cons (ps_set (i := 11) scLaw.nd rfl (Or.inl rfl) (pe_call GFirstGap (hr.mono (by decide)) (by rfl) OFirstGap.g OFirstGap.F.kp OFirstGap.b .nil pass0 (pa_cons (pe_op op_cat (pv 1) (pe_lst (pa_cons (pe_op op_add pe_int (pe_op op_mod (pv 3) (pe_op op_mul pe_int (pv 2)))) pa_nil))) pa_nil)))
        (pss_one (ps_if (PW.pt (pw_or (pt_cmpR op_lt (pv 11) (pv 2) (nomark _)) (pw_or1 (PW.pt (pw_and (pt_cmpR op_eq (pv 11) (pv 2) (nomark _)) (pw_and1 (pt_cmpR op_lt (pe_op op_mod (pv 3) (pe_op op_mul pe_int (pv 2))) (pv 2) (nomark _)))))))) 
          (pss_one (ps_ret pe_bl)) pss_nil))))
      (pss_one (ps_ret (pe_and (pe_cmpR op_ge (pe_call GFirstGap (hr.mono (by decide)) (by rfl) OFirstGap.g OFirstGap.F.kp OFirstGap.b .nil pass0 (pa_cons (pe_op op_cat (pv 1) (pe_lst (pa_cons (pv 2) pa_nil))) pa_nil)) (pe_op op_mul pe_int (pv 2)) (nomark _)) (pe_one (pe_cmpR op_eq (pe_call GFirstGap (hr.mono (by decide)) (by rfl) OFirstGap.g OFirstGap.F.kp OFirstGap.b .nil pass0 (pa_cons (pe_op op_cat (pv 1) (pe_lst (pa_cons (pe_op op_add (pv 2) pe_int) pa_nil))) pa_nil)) (pv 2) (nomark _)))))))))))))))))))), ?_⟩
  refine q_asgL (el_take (k := 63) hS (ev_var rfl) ev_c) fun a H1 _ e1 h1 => ?_
  rw [List.take_of_length_le (by rw [List.length_map]; exact hz)] at h1
  refine ⟨.ref a, rfl, a, ns, rfl, sq_of h1, hz, fun ws pos wl b H2 _ e2 h2 => ?_⟩
  refine q_asg (ev_call (ea_cons (ev_var rfl) ea_nil) fun H e Q q E => ⟨b, ws, rfl, sq_of (e b _ h2), pos, q⟩) fun H3 e3 => ?_
  have g1 : 1 ≤ gap ws := gap_ge pos
  have ha3 : H3 a = some (.lst (ns.map V.int)) := e3 a _ (e2 a _ h1)
  have hb3 : H3 b = some (.lst (ws.map V.int)) := e3 b _ h2
  -- a few small ones, all their sums
  have few_of : ∀ x ∈ (ns.take 9).map (fun z => 1 + z % 7), 1 ≤ x ∧ x ≤ 7 := fun x hx => by
    obtain ⟨z, _, rfl⟩ := List.mem_map.mp hx
    have := Int.emod_nonneg z (show (7 : Int) ≠ 0 by decide)
    have := Int.emod_lt_of_pos z (show (0 : Int) < 7 by decide)
    omega
  have few_len : ((ns.take 9).map fun z => 1 + z % 7).length ≤ 9 := by
    rw [List.length_map, List.length_take]
    omega
  refine q_asgL (el_lcIN (ns := ns.take 9) (fun z => 1 + z % 7) (el_take (k := 9) (sq_of ha3) (ev_var rfl) ev_c) (by rw [List.map_take]) (by rw [List.length_take]; omega) (fun _ => rfl) fun n H7 e7 hn => ev_add ev_c (ev_mod (ev_var rfl) ev_c (by decide))) fun d H4 _ e4 h4 => ?_
  generalize (ns.take 9).map (fun z => 1 + z % 7) = few at few_of few_len h4
  have fpos : Pos few := fun x hx => (few_of x hx).1
  refine ⟨.ref d, rfl, d, few, rfl, sq_of h4, few_len, fun fs hfs hfl s H5 _ e5 h5 => ?_⟩
  have h5d := e5 d _ h4
  have gf := gap_ge fpos
  have gs := gap_le_sum fpos
  have gs7 := sum_le7 fun x hx => (few_of x hx).2
  have lenF : Ev (tCB (rLenS K) (tCons (tVar 4) tNil)) [some (.ref a), some (.ref b), some (.int (gap ws)), none, some (.ref d), some (.ref s), none, none, none, none, none, none, none] H5 (.int (few.length : Int)) := ev_is (ev_len (ev_var rfl) (sq_of h5d)) (by rw [List.length_map])
  refine q_asg (v := .int (gap few)) (ev_ixNL (i := 0) (el_lcR2 (fun i => !decide ((1 + (i : Int)) ∈ fs)) (fun i => V.int (1 + (i : Int))) (ea_cons ev_c (ea_cons (ev_add (ev_mulS lenF ev_c (.inr ⟨by decide, by decide⟩)) ev_c) ea_nil)) ⟨by decide, by decide, by omega, by omega⟩ (fun _ => rfl) (fun i H6 e6 hi => ?_) fun i H6 e6 hi _ => ev_var rfl) ev_c (at_of (j := 0) rfl ?_)) fun H6 e6 => ?_
  · exact et_is (et_test (ev_op (ev_var rfl) (ev_var rfl) (rv_niL (sq_of (e6 s _ h5)) rfl (flatI fs)))) (by rw [inI])
  · have e : V.int (1 + (((gap few - 1).toNat : Nat) : Int)) = V.int (gap few) := congrArg V.int (by omega)
    rw [← e]
    refine given_hd (by omega) ?_ fun j hj => ?_
    · rw [decide_eq_false, Bool.not_false]
      rw [show 1 + (((gap few - 1).toNat : Nat) : Int) = gap few by omega, hfs]
      exact gap_not fpos
    · rw [decide_eq_true, Bool.not_true]
      rw [hfs]
      exact gap_sub fpos (by omega) (by omega)
  have h6d := e6 d _ h5d
  refine q_when (b := false) (et_is (et_test (ev_ne (ev_call (ea_cons (ev_var rfl) ea_nil) fun H e Q q E => ⟨d, few, rfl, sq_of (e d _ h6d), fpos, q⟩) (ev_var rfl))) (by rw [decide_eq_true rfl]; rfl)) (fun z => nomatch z) fun _ H7 e7 => ?_
  have h7d := e7 d _ h6d
  have e37 : Ex H3 H7 := e4.trans (e5.trans (e6.trans e7))
  refine q_forR1 (n := gap few) (ea_cons (ev_var rfl) ea_nil) ⟨by omega, by omega⟩ (fun i σ' H' => (∃ y6, σ' = [some (.ref a), some (.ref b), some (.int (gap ws)), none, some (.ref d), some (.ref s), y6, some (.int (gap few)), none, none, none, none, none]) ∧ Ex H7 H') (fun H8 e8 => ⟨⟨none, rfl⟩, e8⟩) (fun i σ' H' hi h => ?_) fun σ' H' h => ?_
  · obtain ⟨⟨y6, rfl⟩, eH⟩ := h
    have wlf := weigh_len few (i : Int)
    refine s_when (b := false) (et_is (et_test (ev_ne (ev_sumN (el_lcIN (ns := weigh few (i : Int)) (fun m => few.getD m.toNat 0) (el_call (ea_cons (ev_var rfl) (ea_cons (ev_var rfl) ea_nil)) fun H e Q q E => ⟨d, few, (i : Int), rfl, sq_of (e d _ (eH d _ h7d)), fpos, by omega, by omega, hi, q⟩) rfl (by omega) (fun _ => rfl) fun m H9 e9 hm => ?_) rfl) (ev_var rfl))) (by rw [weigh_sum fpos (by omega) hi, decide_eq_true rfl]; rfl)) (fun z => nomatch z) fun _ H9 e9 => ?_
    · have hm2 := weigh_place hm
      have hm3 : m.toNat < few.length := by omega
      refine ev_ixL (sq_of (e9 d _ (eH d _ h7d))) (ev_var rfl) (ev_var rfl) (at_of (j := m.toNat) (by omega) (vmap ?_))
      rw [List.getD_eq_getElem?_getD, List.getElem?_eq_getElem hm3]
      rfl
    · exact ⟨⟨_, rfl⟩, eH.trans e9⟩
  obtain ⟨⟨y6, rfl⟩, eH⟩ := h
  have hb' : ∀ H8, Ex H' H8 → H8 b = some (.lst (ws.map V.int)) := fun H8 e8 => e8 b _ (eH b _ (e37 b _ hb3))
  have ha' : H' a = some (.lst (ns.map V.int)) := eH a _ (e37 a _ ha3)
  -- two halves
  refine q_asg (v := .int ((ws.length / 2 : Nat) : Int)) (ev_is (ev_div (ev_len (ev_var rfl) (sq_of (hb' H' (Ex.refl H')))) ev_c (div_lit (by decide) (by decide))) (by rw [List.length_map]; exact congrArg V.int (by omega))) fun H8 e8 => ?_
  generalize ws.length / 2 = k
  have ptk : Pos (ws.take k) := fun x hx => pos x (List.mem_of_mem_take hx)
  have pdk : Pos (ws.drop k) := fun x hx => pos x (List.mem_of_mem_drop hx)
  refine q_asg (ev_callN (xs := (ws.take k).map V.int) (el_is (el_take (k := k) (sq_of (hb' H8 e8)) (ev_var rfl) (ev_var rfl)) (by rw [List.map_take])) fun p H9 hp e9 => fun H10 e10 Q q E => ⟨p, _, rfl, sq_of (e10 p _ hp), ptk, q⟩) fun H9 e9 => ?_
  refine q_asg (ev_callN (xs := (ws.drop k).map V.int) (el_is (el_drop (k := k) (sq_of (hb' H9 (e8.trans e9))) (ev_var rfl) (ev_var rfl)) (by rw [List.map_drop])) fun p H10 hp e10 => fun H11 e11 Q q E => ⟨p, _, rfl, sq_of (e11 p _ hp), pdk, q⟩) fun H10 e10 => ?_
  have f1 := gap_app ptk pdk
  have f2 := gap_left ptk pdk
  have f3 := gap_right ptk pdk
  rw [List.take_append_drop] at f1 f2 f3
  have e810 : Ex H' H10 := e8.trans (e9.trans e10)
  refine q_when (b := false) (et_is (et_or (a := decide (gap ws < gap (ws.take k) + gap (ws.drop k) - 1)) (et_test (ev_lt (ev_var rfl) (ev_sub (ev_add (ev_var rfl) (ev_var rfl)) ev_c))) fun _ => et_or (a := decide (gap ws < gap (ws.take k))) (b := decide (gap ws < gap (ws.drop k))) (et_test (ev_lt (ev_var rfl) (ev_var rfl))) fun _ => et_test (ev_lt (ev_var rfl) (ev_var rfl)))
    (by rw [decide_eq_false (by omega), decide_eq_false (by omega), decide_eq_false (by omega)]; rfl)) (fun z => nomatch z) fun _ H11 e11 => ?_
  -- in any order
  have hb11 := hb' H11 (e810.trans e11)
  refine q_when (b := false) (et_is (et_or (a := !decide (gap ws.reverse = gap ws)) (b := !decide (gap (srt ws) = gap ws)) (et_test (ev_ne (ev_callN (xs := ws.reverse.map V.int) (el_is (el_rev (sq_of hb11) (ev_var rfl)) (by rw [List.map_reverse])) fun p H12 hp e12 => fun H13 e13 Q q E => ⟨p, _, rfl, sq_of (e13 p _ hp), fun x hx => pos x (List.mem_reverse.mp hx), q⟩) (ev_var rfl)))
    fun _ => et_test (ev_ne (ev_callN (el_sorted (sq_of hb11) (ev_var rfl)) fun p H12 hp e12 => fun H13 e13 Q q E => ⟨p, _, rfl, sq_of (e13 p _ hp), pos_srt pos, q⟩) (ev_var rfl)))
    (by rw [gap_congr (List.reverse_perm ws), gap_congr (srt_perm ws), decide_eq_true rfl]; rfl)) (fun z => nomatch z) fun _ H12 e12 => ?_
  have e12' : Ex H' H12 := e810.trans (e11.trans e12)
  -- one more
  refine q_forNLn (xs := (ns.take 4 ++ [0]).map V.int) (el_is (el_catNN ?_ (el_take (k := 4) (sq_of (e12' a _ ha')) (ev_var rfl) ev_c) (el_lst (ea_cons ev_c ea_nil) (by decide))) (by rw [List.map_append, List.map_take]; rfl))
    (fun p i σ' H2 => (∃ y3 y11, σ' = [some (.ref a), some (.ref b), some (.int (gap ws)), y3, some (.ref d), some (.ref s), y6, some (.int (gap few)), some (.int (k : Int)), some (.int (gap (ws.take k))), some (.int (gap (ws.drop k))), y11, none]) ∧ H2 p = some (.lst ((ns.take 4 ++ [0]).map V.int)) ∧ Ex H' H2)
    (fun p H13 hp e13 h13 => ⟨⟨none, none, rfl⟩, h13, e12'.trans e13⟩) (fun p i σ' H2 _ h => sq_of h.2.1) (fun p i x σ' H2 hx h => ?_) fun p σ' H2 h => ?_
  · rw [List.length_take, List.length_map]
    show min 4 ns.length + 1 ≤ 100000
    omega
  · obtain ⟨⟨y3, y11, rfl⟩, hp, e2'⟩ := h
    obtain ⟨n, hn, rfl⟩ := vget hx
    have m1 := Int.emod_nonneg n (show 2 * gap ws ≠ 0 by omega)
    refine q_asg (v := .int (gap (ws ++ [1 + n % (2 * gap ws)]))) (ev_callN (xs := (ws ++ [1 + n % (2 * gap ws)]).map V.int) (el_is (el_catN (hb' H2 e2') ?_ (ev_var rfl) (el_lst (ea_cons (ev_add ev_c (ev_mod (ev_var rfl) (ev_mulS ev_c (ev_var rfl) (.inl ⟨by decide, by decide⟩)) (by omega))) ea_nil) (by show 1 ≤ 100000; decide))) (by rw [List.map_append]; rfl)) fun p H13 hp e13 => fun H14 e14 Q q E => ⟨p, _, rfl, sq_of (e14 p _ hp), pos_snoc pos (by omega), q⟩) fun H13 e13 => ?_
    · rw [List.length_map]
      show ws.length + 1 ≤ 100000
      omega
    have p1 := gap_left pos (pos_one (w := 1 + n % (2 * gap ws)) (by omega))
    have p2 : n % (2 * gap ws) < gap ws → gap ws < gap (ws ++ [1 + n % (2 * gap ws)]) := fun h => by
      have := gap_put pos (w := 1 + n % (2 * gap ws)) (by omega) (by omega)
      omega
    refine s_when (b := false) (et_is (et_or (a := decide (gap (ws ++ [1 + n % (2 * gap ws)]) < gap ws)) (et_test (ev_lt (ev_var rfl) (ev_var rfl))) fun _ => et_and (a := decide (gap (ws ++ [1 + n % (2 * gap ws)]) = gap ws)) (b := decide (n % (2 * gap ws) < gap ws)) (et_test (ev_eq (ev_var rfl) (ev_var rfl))) fun _ => et_test (ev_lt (ev_mod (ev_var rfl) (ev_mulS ev_c (ev_var rfl) (.inl ⟨by decide, by decide⟩)) (by omega)) (ev_var rfl))) ?_) (fun z => nomatch z) fun _ H14 e14 => ?_
    · rw [decide_eq_false (show ¬ gap (ws ++ [1 + n % (2 * gap ws)]) < gap ws by omega), Bool.false_or]
      by_cases hlt : n % (2 * gap ws) < gap ws
      · have := p2 hlt
        rw [decide_eq_false (show ¬ gap (ws ++ [1 + n % (2 * gap ws)]) = gap ws by omega), Bool.false_and]
      · rw [decide_eq_false hlt, Bool.and_false]
    · exact ⟨⟨_, _, rfl⟩, e14 p _ (e13 p _ hp), e2'.trans (e13.trans e14)⟩
  · obtain ⟨⟨y3, y11, rfl⟩, hp, e2'⟩ := h
    have l1 : (ws.map V.int).length + 1 ≤ 100000 := by
      rw [List.length_map]
      omega
    have r1 := gap_put pos g1 (Int.le_refl (gap ws))
    have r2 := gap_heavy (w := gap ws + 1) pos (by omega)
    refine s_ret (v := .bl true) (ev_is (ev_andV (a := decide (2 * gap ws ≤ gap (ws ++ [gap ws]))) (b := decide (gap (ws ++ [gap ws + 1]) = gap ws)) (ev_ge (ev_callN (xs := (ws ++ [gap ws]).map V.int) (el_is (el_catN (ys := [.int (gap ws)]) (hb' H2 e2') l1 (ev_var rfl) (el_lst (ea_cons (ev_var rfl) ea_nil) (by show 1 ≤ 100000; decide))) (by rw [List.map_append]; rfl)) fun p H13 hp e13 => fun H14 e14 Q q E => ⟨p, _, rfl, sq_of (e14 p _ hp), pos_snoc pos g1, q⟩) (ev_mulS ev_c (ev_var rfl) (.inl ⟨by decide, by decide⟩)))
      fun _ => ev_eq (ev_callN (xs := (ws ++ [gap ws + 1]).map V.int) (el_is (el_catN (ys := [.int (gap ws + 1)]) (hb' H2 e2') l1 (ev_var rfl) (el_lst (ea_cons (ev_add (ev_var rfl) ev_c) ea_nil) (by show 1 ≤ 100000; decide))) (by rw [List.map_append]; rfl)) fun p H13 hp e13 => fun H14 e14 Q q E => ⟨p, _, rfl, sq_of (e14 p _ hp), pos_snoc pos (by omega), q⟩) (ev_var rfl)) ?_) fun H13 _ => q H13
    rw [decide_eq_true (show 2 * gap ws ≤ gap (ws ++ [gap ws]) by omega), r2, decide_eq_true rfl]
    rfl
end
end Wt
/-! ### what the top has written, and the end -/
namespace Wt
open PySem PySem.Spec PyProof.Rows L2 Evl
theorem all_mk {l : PySem.W.OpenLaw} {w : World} {K : PySem.W.Frag} {h : Heap} {mg : Str → Option Value} {fa f0 f1 f2 f3 f4 f5 f6 f7 f8 f9 : Addr} (X : K.In h) (G : h.Ns mainGlobals mg) (hfa : mg "law" = some (.ref fa))
    {od0 an0 : Option Addr} {sl0 : Array (Option Value)} {oc0 kV0 dc0 pm0 cd0 ct0 : Value}
    (a0 : PySem.W.nsIn K mainGlobals "first_gap" = some (some (.ref f0))) (l0 : K.lookup f0 = some ⟨oc0, od0, .func (PySem.W.fnOf "first_gap" "first_gap" (defArgs sFirstGap) (defBody sFirstGap) (defScope sFirstGap) .none kV0 dc0 pm0 an0 cd0 ct0), sl0⟩) (c0 : PySem.W.codeIn K cd0 "first_gap" = true) (k0 : PySem.W.keepIn K (.ref f0) = true)
    {od1 an1 : Option Addr} {sl1 : Array (Option Value)} {oc1 kV1 dc1 pm1 cd1 ct1 : Value}
    (a1 : PySem.W.nsIn K mainGlobals "weighing" = some (some (.ref f1))) (l1 : K.lookup f1 = some ⟨oc1, od1, .func (PySem.W.fnOf "weighing" "weighing" (defArgs sWeighing) (defBody sWeighing) (defScope sWeighing) .none kV1 dc1 pm1 an1 cd1 ct1), sl1⟩) (c1 : PySem.W.codeIn K cd1 "weighing" = true) (k1 : PySem.W.keepIn K (.ref f1) = true)
    {od2 an2 : Option Addr} {sl2 : Array (Option Value)} {oc2 kV2 dc2 pm2 cd2 ct2 : Value}
    (a2 : PySem.W.nsIn K mainGlobals "check_set" = some (some (.ref f2))) (l2 : K.lookup f2 = some ⟨oc2, od2, .func (PySem.W.fnOf "check_set" "check_set" (defArgs sCheckSet) (defBody sCheckSet) (defScope sCheckSet) .none kV2 dc2 pm2 an2 cd2 ct2), sl2⟩) (c2 : PySem.W.codeIn K cd2 "check_set" = true) (k2 : PySem.W.keepIn K (.ref f2) = true)
    {od3 an3 : Option Addr} {sl3 : Array (Option Value)} {oc3 kV3 dc3 pm3 cd3 ct3 : Value}
    (a3 : PySem.W.nsIn K mainGlobals "is_whole" = some (some (.ref f3))) (l3 : K.lookup f3 = some ⟨oc3, od3, .func (PySem.W.fnOf "is_whole" "is_whole" (defArgs sIsWhole) (defBody sIsWhole) (defScope sIsWhole) .none kV3 dc3 pm3 an3 cd3 ct3), sl3⟩) (c3 : PySem.W.codeIn K cd3 "is_whole" = true) (k3 : PySem.W.keepIn K (.ref f3) = true)
    {od4 an4 : Option Addr} {sl4 : Array (Option Value)} {oc4 kV4 dc4 pm4 cd4 ct4 : Value}
    (a4 : PySem.W.nsIn K mainGlobals "gap_of" = some (some (.ref f4))) (l4 : K.lookup f4 = some ⟨oc4, od4, .func (PySem.W.fnOf "gap_of" "gap_of" (defArgs sGapOf) (defBody sGapOf) (defScope sGapOf) .none kV4 dc4 pm4 an4 cd4 ct4), sl4⟩) (c4 : PySem.W.codeIn K cd4 "gap_of" = true) (k4 : PySem.W.keepIn K (.ref f4) = true)
    {od5 an5 : Option Addr} {sl5 : Array (Option Value)} {oc5 kV5 dc5 pm5 cd5 ct5 : Value}
    (a5 : PySem.W.nsIn K mainGlobals "places_chosen" = some (some (.ref f5))) (l5 : K.lookup f5 = some ⟨oc5, od5, .func (PySem.W.fnOf "places_chosen" "places_chosen" (defArgs sPlacesChosen) (defBody sPlacesChosen) (defScope sPlacesChosen) .none kV5 dc5 pm5 an5 cd5 ct5), sl5⟩) (c5 : PySem.W.codeIn K cd5 "places_chosen" = true) (k5 : PySem.W.keepIn K (.ref f5) = true)
    {od6 an6 : Option Addr} {sl6 : Array (Option Value)} {oc6 kV6 dc6 pm6 cd6 ct6 : Value}
    (a6 : PySem.W.nsIn K mainGlobals "_law_set" = some (some (.ref f6))) (l6 : K.lookup f6 = some ⟨oc6, od6, .func (PySem.W.fnOf "_law_set" "_law_set" (defArgs sLawSet) (defBody sLawSet) (defScope sLawSet) .none kV6 dc6 pm6 an6 cd6 ct6), sl6⟩) (c6 : PySem.W.codeIn K cd6 "_law_set" = true) (k6 : PySem.W.keepIn K (.ref f6) = true)
    {od7 an7 : Option Addr} {sl7 : Array (Option Value)} {oc7 kV7 dc7 pm7 cd7 ct7 : Value}
    (a7 : PySem.W.nsIn K mainGlobals "_law_gap" = some (some (.ref f7))) (l7 : K.lookup f7 = some ⟨oc7, od7, .func (PySem.W.fnOf "_law_gap" "_law_gap" (defArgs sLawGap) (defBody sLawGap) (defScope sLawGap) .none kV7 dc7 pm7 an7 cd7 ct7), sl7⟩) (c7 : PySem.W.codeIn K cd7 "_law_gap" = true) (k7 : PySem.W.keepIn K (.ref f7) = true)
    {od8 an8 : Option Addr} {sl8 : Array (Option Value)} {oc8 kV8 dc8 pm8 cd8 ct8 : Value}
    (a8 : PySem.W.nsIn K mainGlobals "_law_sums" = some (some (.ref f8))) (l8 : K.lookup f8 = some ⟨oc8, od8, .func (PySem.W.fnOf "_law_sums" "_law_sums" (defArgs sLawSums) (defBody sLawSums) (defScope sLawSums) .none kV8 dc8 pm8 an8 cd8 ct8), sl8⟩) (c8 : PySem.W.codeIn K cd8 "_law_sums" = true) (k8 : PySem.W.keepIn K (.ref f8) = true)
    {od9 an9 : Option Addr} {sl9 : Array (Option Value)} {oc9 kV9 dc9 pm9 cd9 ct9 : Value}
    (a9 : PySem.W.nsIn K mainGlobals "law" = some (some (.ref f9))) (l9 : K.lookup f9 = some ⟨oc9, od9, .func (PySem.W.fnOf "law" "law" (defArgs sLaw) (defBody sLaw) (defScope sLaw) .none kV9 dc9 pm9 an9 cd9 ct9), sl9⟩) (c9 : PySem.W.codeIn K cd9 "law" = true) (k9 : PySem.W.keepIn K (.ref f9) = true)
    (z_len : PySem.W.nsIn K mainGlobals "len" = some none)
    (z_sorted : PySem.W.nsIn K mainGlobals "sorted" = some none)
    (z_sum : PySem.W.nsIn K mainGlobals "sum" = some none)
    (z_allF : PySem.W.nsIn K mainGlobals "all" = some none)
    (z_isinstance : PySem.W.nsIn K mainGlobals "isinstance" = some none)
    (z_range : PySem.W.nsIn K mainGlobals "range" = some none)
    (z_enumerate : PySem.W.nsIn K mainGlobals "enumerate" = some none)
    (z_setT : PySem.W.nsIn K mainGlobals "set" = some none)
    (z_listT : PySem.W.nsIn K mainGlobals "list" = some none)
    (z_intT : PySem.W.nsIn K mainGlobals "int" = some none)
    (z_boolT : PySem.W.nsIn K mainGlobals "bool" = some none)
    : ∃ fd : FuncData, (∀ (s : Shared) (v : Value), BindsTo s fd ⟨[v], []⟩ [("_law_script", v)]) ∧ ∀ base : Heap, K.In base → base.Ns mainGlobals mg → FnOk l.prog w K mg base CX0 4 fa fd ["_law_script"] (spLaw K) := by
  have e := hfa.symm.trans (PySem.W.mg_of X G a9)
  cases e
  have B : Blt mg := ⟨PySem.W.mg_none_of X G z_len, PySem.W.mg_none_of X G z_sorted, PySem.W.mg_none_of X G z_sum, PySem.W.mg_none_of X G z_allF, PySem.W.mg_none_of X G z_isinstance, PySem.W.mg_none_of X G z_range, PySem.W.mg_none_of X G z_enumerate, PySem.W.mg_none_of X G z_setT, PySem.W.mg_none_of X G z_listT, PySem.W.mg_none_of X G z_intT, PySem.W.mg_none_of X G z_boolT⟩
  have OFirstGap : Own K mg "first_gap" ["weights"] sFirstGap f0 _ := ⟨fun_mk (st := sFirstGap) l0 c0 k0, (fun_mk (st := sFirstGap) l0 c0 k0).binds (ps := ["weights"]) fun _ _ _ _ _ _ us hl => match us, hl with | [_], _ => rfl, PySem.W.mg_of X G a0⟩
  have OWeighing : Own K mg "weighing" ["weights", "number"] sWeighing f1 _ := ⟨fun_mk (st := sWeighing) l1 c1 k1, (fun_mk (st := sWeighing) l1 c1 k1).binds (ps := ["weights", "number"]) fun _ _ _ _ _ _ us hl => match us, hl with | [_, _], _ => rfl, PySem.W.mg_of X G a1⟩
  have OCheckSet : Own K mg "check_set" ["weights"] sCheckSet f2 _ := ⟨fun_mk (st := sCheckSet) l2 c2 k2, (fun_mk (st := sCheckSet) l2 c2 k2).binds (ps := ["weights"]) fun _ _ _ _ _ _ us hl => match us, hl with | [_], _ => rfl, PySem.W.mg_of X G a2⟩
  have OIsWhole : Own K mg "is_whole" ["value"] sIsWhole f3 _ := ⟨fun_mk (st := sIsWhole) l3 c3 k3, (fun_mk (st := sIsWhole) l3 c3 k3).binds (ps := ["value"]) fun _ _ _ _ _ _ us hl => match us, hl with | [_], _ => rfl, PySem.W.mg_of X G a3⟩
  have OGapOf : Own K mg "gap_of" ["weights"] sGapOf f4 _ := ⟨fun_mk (st := sGapOf) l4 c4 k4, (fun_mk (st := sGapOf) l4 c4 k4).binds (ps := ["weights"]) fun _ _ _ _ _ _ us hl => match us, hl with | [_], _ => rfl, PySem.W.mg_of X G a4⟩
  have OPlacesChosen : Own K mg "places_chosen" ["weights", "number"] sPlacesChosen f5 _ := ⟨fun_mk (st := sPlacesChosen) l5 c5 k5, (fun_mk (st := sPlacesChosen) l5 c5 k5).binds (ps := ["weights", "number"]) fun _ _ _ _ _ _ us hl => match us, hl with | [_, _], _ => rfl, PySem.W.mg_of X G a5⟩
  have OLawSet : Own K mg "_law_set" ["_law_script"] sLawSet f6 _ := ⟨fun_mk (st := sLawSet) l6 c6 k6, (fun_mk (st := sLawSet) l6 c6 k6).binds (ps := ["_law_script"]) fun _ _ _ _ _ _ us hl => match us, hl with | [_], _ => rfl, PySem.W.mg_of X G a6⟩
  have OLawGap : Own K mg "_law_gap" ["_law_weights"] sLawGap f7 _ := ⟨fun_mk (st := sLawGap) l7 c7 k7, (fun_mk (st := sLawGap) l7 c7 k7).binds (ps := ["_law_weights"]) fun _ _ _ _ _ _ us hl => match us, hl with | [_], _ => rfl, PySem.W.mg_of X G a7⟩
  have OLawSums : Own K mg "_law_sums" ["_law_weights"] sLawSums f8 _ := ⟨fun_mk (st := sLawSums) l8 c8 k8, (fun_mk (st := sLawSums) l8 c8 k8).binds (ps := ["_law_weights"]) fun _ _ _ _ _ _ us hl => match us, hl with | [_], _ => rfl, PySem.W.mg_of X G a8⟩
  have OLaw : Own K mg "law" ["_law_script"] sLaw fa _ := ⟨fun_mk (st := sLaw) l9 c9 k9, (fun_mk (st := sLaw) l9 c9 k9).binds (ps := ["_law_script"]) fun _ _ _ _ _ _ us hl => match us, hl with | [_], _ => rfl, PySem.W.mg_of X G a9⟩
  refine ⟨PySem.W.fnOf "law" "law" (defArgs sLaw) (defBody sLaw) (defScope sLaw) .none kV9 dc9 pm9 an9 cd9 ct9, fun s v => .of_eq rfl, fun base _ _ => ?_⟩
  have GIsWhole := ok_IsWhole (P := l.prog) (w := w) (base := base) OIsWhole B 
  have GGapOf := ok_GapOf (P := l.prog) (w := w) (base := base) OGapOf B 
  have GPlacesChosen := ok_PlacesChosen (P := l.prog) (w := w) (base := base) OPlacesChosen B 
  have GLawSet := ok_LawSet (P := l.prog) (w := w) (base := base) OLawSet B 
  have GLawGap := ok_LawGap (P := l.prog) (w := w) (base := base) OLawGap B 
  have GLawSums := ok_LawSums (P := l.prog) (w := w) (base := base) OLawSums B 
  have GCheckSet := ok_CheckSet (P := l.prog) (w := w) (base := base) OCheckSet B (GIsWhole := GIsWhole) (OIsWhole := OIsWhole)
  have GFirstGap := ok_FirstGap (P := l.prog) (w := w) (base := base) OFirstGap B (GCheckSet := GCheckSet) (OCheckSet := OCheckSet) (GGapOf := GGapOf) (OGapOf := OGapOf)
  have GWeighing := ok_Weighing (P := l.prog) (w := w) (base := base) OWeighing B (GCheckSet := GCheckSet) (OCheckSet := OCheckSet) (GGapOf := GGapOf) (OGapOf := OGapOf) (GIsWhole := GIsWhole) (OIsWhole := OIsWhole) (GPlacesChosen := GPlacesChosen) (OPlacesChosen := OPlacesChosen)
  exact ok_Law (P := l.prog) (w := w) (base := base) OLaw B (GLawSet := GLawSet) (OLawSet := OLawSet) (GLawSums := GLawSums) (OLawSums := OLawSums) (GFirstGap := GFirstGap) (OFirstGap := OFirstGap) (GWeighing := GWeighing) (OWeighing := OWeighing)
end Wt
open PySem PySem.W PyProof.Rows
set_option maxRecDepth 100000 in
set_option maxHeartbeats 0 in
theorem PySem.Challenge.cw_weightset_k04_changes_holds : PySem.Challenge.rw_weightset_k04_changes.Holds := by
  w_on; o_law; k_head; (case hw => w_witness2)
  k_fill
  refine L2.walk_ofB (l := PySem.Challenge.rw_weightset_k04_changes) (n := 63) (k := 4) (x := "_law_script") (CX := fun _ => L2.CX0) (sp := fun w => Wt.spLaw _) rfl (by decide) rfl ⟨rfl, by decide, by decide⟩ (fun w h Y => PySem.W.kIn_of Y) ?F (fun _ _ a ns hl bits _ hS => ⟨a, ns, rfl, hS, hl, bits, fun _ => rfl⟩) (fun _ _ _ _ _ h => h)
  case F =>
    intro w mg fa h KX G hmg
    refine' Wt.all_mk KX G hmg ?a0 ?l0 ?c0 ?k0 ?a1 ?l1 ?c1 ?k1 ?a2 ?l2 ?c2 ?k2 ?a3 ?l3 ?c3 ?k3 ?a4 ?l4 ?c4 ?k4 ?a5 ?l5 ?c5 ?k5 ?a6 ?l6 ?c6 ?k6 ?a7 ?l7 ?c7 ?k7 ?a8 ?l8 ?c8 ?k8 ?a9 ?l9 ?c9 ?k9 ?z_len ?z_sorted ?z_sum ?z_allF ?z_isinstance ?z_range ?z_enumerate ?z_setT ?z_listT ?z_intT ?z_boolT
    (case a0 => k_is); (case l0 => k_is); (case c0 => k_is); (case k0 => k_is); (case a1 => k_is); (case l1 => k_is); (case c1 => k_is); (case k1 => k_is); (case a2 => k_is); (case l2 => k_is); (case c2 => k_is); (case k2 => k_is); (case a3 => k_is); (case l3 => k_is); (case c3 => k_is); (case k3 => k_is); (case a4 => k_is); (case l4 => k_is); (case c4 => k_is); (case k4 => k_is); (case a5 => k_is); (case l5 => k_is); (case c5 => k_is); (case k5 => k_is); (case a6 => k_is); (case l6 => k_is); (case c6 => k_is); (case k6 => k_is); (case a7 => k_is); (case l7 => k_is); (case c7 => k_is); (case k7 => k_is); (case a8 => k_is); (case l8 => k_is); (case c8 => k_is); (case k8 => k_is); (case a9 => k_is); (case l9 => k_is); (case c9 => k_is); (case k9 => k_is); (case z_len => k_is); (case z_sorted => k_is); (case z_sum => k_is); (case z_allF => k_is); (case z_isinstance => k_is); (case z_range => k_is); (case z_enumerate => k_is); (case z_setT => k_is); (case z_listT => k_is); (case z_intT => k_is); (case z_boolT => k_is)

/- The graph of memory (view.Of): contract. -/
import Derived.Test.YtanhhkdoejnpiaaGreatRf
import Derived.Test.YtanhhkdoejnpiaaGreatVc
namespace Go.Proofs.YtanhhkdoejnpiaaGreat.G
open Go.Joins Go.ChangeShapes Go.WideShapes Go.ChangeAt Go.RowKit Go.Deep Go.Shelf Go.Maps
set_option linter.unusedVariables false
set_option linter.unusedSimpArgs false

theorem rch_2n (m : Me) (roots : List Int) : (m.rch roots).length ≤ 2 * m.n := by
  have key : ∀ (f : Nat) (a : Int) (o : List Int), o.length + m.lft o ≤ 2 * m.n → (m.vis f a o).length + m.lft (m.vis f a o) ≤ 2 * m.n := by
    intro f
    induction f with
    | zero => exact fun _ _ h => h
    | succ f ih =>
      intro a o h
      unfold Me.vis
      split
      · rename_i k
        have hl := lft_snoc k.1 k.2
        exact fold_all (R := fun o => o.length + m.lft o ≤ 2 * m.n) (T := fun _ => True) (fun o p ho _ => ih p o ho) _ _ (by simp; omega) (fun _ _ => trivial)
      · exact h
  have h := fold_all (R := fun o : List Int => o.length + m.lft o ≤ 2 * m.n) (T := fun _ => True) (fun o p ho _ => key (2 * m.n + 1) p o ho) roots [] (by have := lft_le m []; simp; omega) (fun _ _ => trivial)
  have e : roots.foldl (fun o a => m.vis (2 * m.n + 1) a o) [] = m.rch roots := rfl
  rw [e] at h
  omega
theorem rch_no0 (m : Me) (roots : List Int) : (0 : Int) ∉ m.rch roots := fun h => by
  have := (rch_facts m roots).2.1 0 h
  rw [real_0] at this
  cases this

/-! ### Nodes in a block -/
theorem nvs_put : ∀ (ns : List Nd) (us : List Value) (x : Nat) (n : Nd) (u : Value), us.length = ns.length → x < ns.length →
    ((((nvs ns us).set (x * 4) (.int .i64 n.1.1)).set (x * 4 + 1) (.int .i64 n.1.2.1)).set (x * 4 + 2) (.int .u64 n.1.2.2)).set (x * 4 + 3) u = nvs (ns.set x n) (us.set x u)
  | [], _, x, _, _, _, h => by simp at h
  | _ :: _, [], _, _, _, h, _ => by simp at h
  | a :: r, v :: us, 0, n, u, _, _ => by simp [nvs]
  | a :: r, v :: us, x + 1, n, u, h, hx => by
    have ih := nvs_put r us x n u (by simpa using h) (by simpa using hx)
    rw [show (x + 1) * 4 = x * 4 + 4 from by omega]
    simp only [nvs, List.set_cons_succ]
    rw [← ih]
theorem madeNodes : ∀ n : Nat, madeCells #[.int .i64 0, .int .i64 0, .int .u64 0, .slice none 0 0] (n * 4) = (nvs (List.replicate n ndN) (List.replicate n (.slice none 0 0))).toArray := by
  have h : ∀ n j, j < n * 4 → (nvs (List.replicate n ndN) (List.replicate n (.slice none 0 0)))[j]? = some ((#[.int .i64 0, .int .i64 0, .int .u64 0, .slice none 0 0] : Array Value)[j % 4]!) := by
    intro n
    induction n with
    | zero => intro j h; omega
    | succ n ih =>
      intro j hj
      simp only [List.replicate_succ, nvs]
      match j with
      | 0 => rfl
      | 1 => rfl
      | 2 => rfl
      | 3 => rfl
      | j + 4 =>
        simp only [List.getElem?_cons_succ]
        rw [ih j (by omega), Nat.add_mod_right]
  intro n
  apply Array.ext
  · rw [size_madeCells, List.size_toArray, nvs_len _ _ (by simp)]
    simp
  · intro j h1 h2
    have hj : j < n * 4 := by rw [size_madeCells] at h1; exact h1
    have := h n j hj
    have h3 : (nvs (List.replicate n ndN) (List.replicate n (.slice none 0 0)))[j]? = some ((nvs (List.replicate n ndN) (List.replicate n (.slice none 0 0)))[j]) := List.getElem?_eq_getElem _
    rw [this] at h3
    injection h3 with h3
    refine Eq.trans ?_ h3
    simp [madeCells]
theorem run_makeNodes (n : Nat) (hn : n ≤ 8192) (w : World) :
    (Instr.makeSlice 27 (.int .i64 (n : Int)) (.int .i64 (n : Int))).run Tryz.prog w = .ok (.slice (some ⟨w.heap.size, 0, none⟩) n n) (w.alloc (.cells (nvs (List.replicate n ndN) (List.replicate n (.slice none 0 0))).toArray 71)) := by
  obtain ⟨i, hi, hz, hs, hb⟩ := info_parts (P := Tryz.prog) (e := 71) (z := .agg #[.int .i64 0, .int .i64 0, .int .u64 0, .slice none 0 0]) (size := 4) (bytes := 48) (by kernel_rfl)
  have h := run_makeSlice (P := Tryz.prog) (w := w) 27 71 i _ Tryz.underlying27 hi hz .i64 .i64 n n (by omega) (Int.le_refl _) (by rw [hs]; omega) (by rw [hb]; omega) (by omega)
  rw [hs, Int.toNat_natCast, show (Value.agg #[.int .i64 0, .int .i64 0, .int .u64 0, .slice none 0 0]).cells = #[.int .i64 0, .int .i64 0, .int .u64 0, .slice none 0 0] from rfl, madeNodes] at h
  exact h
/-- Nodes, so many of them told. -/
def nsx (m : Me) (l : List Int) (x : Nat) : List Nd := (List.range l.length).map fun i => if i < x then mpF (pl l) (ndm m (l.getD i 0)) else ndN
theorem nsx_0 (m : Me) (l : List Int) : nsx m l 0 = List.replicate l.length ndN := by
  unfold nsx
  simp only [Nat.not_lt_zero, if_false]
  exact List.ext_getElem (by simp) (fun i h1 h2 => by simp)
theorem nsx_len (m : Me) (l : List Int) (x : Nat) : (nsx m l x).length = l.length := by simp [nsx]
theorem nsx_all (m : Me) (l : List Int) {x : Nat} (h : x = l.length) : nsx m l x = l.map fun a => mpF (pl l) (ndm m a) := by
  subst h
  unfold nsx
  refine List.ext_getElem (by simp) (fun i h1 h2 => ?_)
  have hi : i < l.length := by simpa using h1
  simp [hi]
theorem nsx_step (m : Me) (l : List Int) {x : Nat} (h : x < l.length) : (nsx m l x).set x (mpF (pl l) (ndm m (l.getD x 0))) = nsx m l (x + 1) := by
  refine List.ext_getElem? fun j => ?_
  rw [List.getElem?_set]
  unfold nsx
  by_cases q : x = j
  · subst q
    rw [if_pos rfl, if_pos (by simpa using h), List.getElem?_map, List.getElem?_range h]
    simp
  · rw [if_neg q, List.getElem?_map, List.getElem?_map]
    by_cases r : j < l.length
    · rw [List.getElem?_range r]
      simp only [Option.map_some]
      congr 1
      by_cases z : j < x
      · rw [if_pos z, if_pos (show j < x + 1 by omega)]
      · rw [if_neg z, if_neg (show ¬ j < x + 1 by omega)]
    · rw [List.getElem?_eq_none (by simpa using r)]
      rfl
theorem nsx_at (m : Me) (l : List Int) {x i : Nat} (h : i < x) (hl : i < l.length) : (nsx m l x)[i]? = some (mpF (pl l) (ndm m (l.getD i 0))) := by
  unfold nsx
  rw [List.getElem?_map, List.getElem?_range hl]
  simp [h]
def okN (m : Me) (l : List Int) (x : Nat) : Bool := (l.take x).all fun a => okL l (m.ptv a)
theorem okN_step (m : Me) (l : List Int) {x : Nat} (h : x < l.length) : okN m l (x + 1) = (okN m l x && okL l (m.ptv (l.getD x 0))) := by
  unfold okN
  rw [take_snoc' h, List.all_append]
  simp
end Go.Proofs.YtanhhkdoejnpiaaGreat.G

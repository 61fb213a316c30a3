/- Rows once more (slices.Clone, of six types), in blocks that are known whole: contracts. -/
import Derived.Test.YtddoljfkbkbfjaaGreatTa
namespace Go.Proofs.YtddoljfkbkbfjaaGreat.T
open G
open Go.Joins Go.ChangeShapes Go.WideShapes Go.ChangeAt Go.RowKit Go.Deep Go.Shelf Go.Maps
set_option linter.unusedVariables false
set_option linter.unusedSimpArgs false

/-- An element's type, the slice's, and the cells of nothing. -/
structure Ez (T e : TypeId) (size bytes : Nat) (zc : List Value) : Prop where
  ex : ∃ i0 z, Tryz.prog.info? e = some i0 ∧ i0.zero = some z ∧ i0.size = size ∧ i0.bytes = bytes ∧ z.cells = zc.toArray
  und : Tryz.prog.underlying T = some (.slice e)
  len : zc.length = size
  pos : 0 < size
theorem zero_cells {α : Type} {cv : α → List Value} {z : α} {k : Nat} (h : ∀ x, (cv x).length = k) (k0 : 0 < k) (n : Nat) : Builtin.zeroCells (cv z).toArray n = ((List.replicate n z).flatMap cv).toArray := by
  have hl := fm_len h (List.replicate n z)
  rw [List.length_replicate] at hl
  apply Array.ext_getElem?
  intro i
  have hz : (cv z).length = k := h z
  by_cases hi : i < n * k
  · have hd : i / k < n := (Nat.div_lt_iff_lt_mul k0).2 hi
    have hm : i % k < k := Nat.mod_lt _ k0
    have e : i = i / k * k + i % k := by rw [Nat.mul_comm]; exact (Nat.div_add_mod i k).symm
    have q := fm_at h (List.replicate n z) (i / k) (i % k) z (by simp [hd]) hm
    rw [← e] at q
    have R : ((List.replicate n z).flatMap cv).toArray[i]? = ((List.replicate n z).flatMap cv)[i]? := List.getElem?_toArray
    rw [R, q]
    unfold Builtin.zeroCells
    have hm2 : i % k < (cv z).length := by omega
    simp [hz, hi, List.getElem?_eq_getElem hm2, hm]
  · have R : ((List.replicate n z).flatMap cv).toArray[i]? = ((List.replicate n z).flatMap cv)[i]? := List.getElem?_toArray
    rw [R, List.getElem?_eq_none (by omega)]
    unfold Builtin.zeroCells
    simp [hz]
    omega
theorem run_none {T e : TypeId} {size bytes : Nat} {zc : List Value} (E : Ez T e size bytes zc) (A B : Option Addr) (n cap c : Nat) (hc : n ≤ cap) (ty : TypeId) (w : World) : (Builtin.append_ #[T, T] ty #[.slice A n cap, .slice B 0 c]).run Tryz.prog w = .ok (.slice A n cap) w := by
  obtain ⟨⟨i0, z, hi, hz0, hz1, hz2, _⟩, hu, _, _⟩ := E
  cases A <;> cases B <;> simp [Builtin.append_, run_underlying hu, sizeOf, typeInfo, hi, Builtin.lenOf, Builtin.firstCells, loadCells, loadCellsFrom, storeCells, hc]
/-- An append of some onto nothing. -/
theorem run_cl {α : Type} {cv : α → List Value} {z : α} {T e : TypeId} {size bytes : Nat} (E : Ez T e size bytes (cv z)) (h : ∀ x, (cv x).length = size) (A : Option Addr) (p : Addr) (n c : Nat) (xs : List α) (w : World) (hl : xs.length = n) (hn : 0 < n) (hr : RV w (some p) (xs.flatMap cv)) (hb : n * bytes ≤ 140737488355328) (hm : n ≤ maxLen) (ty : TypeId) :
    ∃ cap w', (Builtin.append_ #[T, T] ty #[.slice A 0 0, .slice (some p) n c]).run Tryz.prog w = .ok (.slice (some ⟨w.heap.size, 0, none⟩) n cap) w' ∧ n ≤ cap ∧ cap ≤ maxLen ∧ Blk w' w.heap.size e ((xs ++ List.replicate (cap - n) z).flatMap cv).toArray ∧ Up w w' := by
  obtain ⟨⟨i0, zv, hi, hz0, hz1, hz2, hz3⟩, hu, hlen, hpos⟩ := E
  have hfl := fm_len h xs
  obtain ⟨p', e1, _, hc⟩ := hr (fun q => by rw [q] at hfl; have := Nat.mul_pos hn hpos; rw [List.length_nil, hl] at hfl; omega)
  cases e1
  have h63 : n ≤ 9223372036854775807 := by unfold maxLen at hm; omega
  have hge := grownCap_ge w n 0 e
  have hle := grownCap_le_maxLen w n 0 e hm
  have hcells : (xs.flatMap cv).toArray ++ Builtin.zeroCells zv.cells (grownCap w n 0 e - n) = ((xs ++ List.replicate (grownCap w n 0 e - n) z).flatMap cv).toArray := by
    rw [hz3, zero_cells h hpos, List.flatMap_append]
    simp
  have hU : Up w (w.drew.alloc (.cells ((xs ++ List.replicate (grownCap w n 0 e - n) z).flatMap cv).toArray e)) := (Up.refl w).drew.alloc _
  have hB : Blk (w.drew.alloc (.cells ((xs ++ List.replicate (grownCap w n 0 e - n) z).flatMap cv).toArray e)) w.heap.size e ((xs ++ List.replicate (grownCap w n 0 e - n) z).flatMap cv).toArray := Blk.new w.drew _ _
  cases A with
  | none =>
    have hrun := run_append_nil (P := Tryz.prog) w T ty e i0 zv hu hi hz0 p n c (xs.flatMap cv) (by rw [hfl, hl, hz1]) hc hn (by omega) (by rw [hz2]; omega)
    rw [hcells] at hrun
    exact ⟨_, _, hrun, hge, hle, hB, hU⟩
  | some a =>
    have hrun := run_append_grow (P := Tryz.prog) w T ty e i0 zv hu hi hz0 a 0 0 [] (by simp) (fun j v q => by simp at q) p n c (xs.flatMap cv) (by rw [hfl, hl, hz1]) hc (by omega) (by omega) (growslice_fits (by omega) (by rw [hz2, Nat.zero_add]; exact hb))
    rw [Nat.zero_add] at hrun
    rw [show (([] : List Value).toArray ++ (xs.flatMap cv).toArray ++ Builtin.zeroCells zv.cells (grownCap w n 0 e - n)) = ((xs ++ List.replicate (grownCap w n 0 e - n) z).flatMap cv).toArray from by rw [← hcells]; simp] at hrun
    exact ⟨_, _, hrun, hge, hle, hB, hU⟩

/-- A row once more: nothing, or a block that is known whole. -/
def Cl {α : Type} (lo hi : Nat) (e : TypeId) (cv : α → List Value) (z : α) (w : World) (v : Value) (xs : List α) : Prop :=
  (xs = [] ∧ ∃ A, v = .slice A 0 0) ∨ (xs ≠ [] ∧ ∃ g cap, v = .slice (some ⟨g, 0, none⟩) xs.length cap ∧ lo ≤ g ∧ g < hi ∧ xs.length ≤ cap ∧ cap ≤ maxLen ∧ Blk w g e ((xs ++ List.replicate (cap - xs.length) z).flatMap cv).toArray)
section
variable {α : Type} {lo hi : Nat} {e : TypeId} {cv : α → List Value} {z : α} {w w' : World} {v : Value} {xs : List α}
theorem Cl.up (h : Cl lo hi e cv z w v xs) (u : Up w w') : Cl lo hi e cv z w' v xs := h.imp id fun ⟨h0, g, cap, e1, h1, h2, h3, h4, h5⟩ => ⟨h0, g, cap, e1, h1, h2, h3, h4, h5.up u⟩
theorem Cl.kp {S : List Nat} (h : Cl lo hi e cv z w v xs) (k : Kp S w w') (hS : ∀ g cs, lo ≤ g → g < hi → Blk w g e cs → g ∉ S) : Cl lo hi e cv z w' v xs := h.imp id fun ⟨h0, g, cap, e1, h1, h2, h3, h4, h5⟩ => ⟨h0, g, cap, e1, h1, h2, h3, h4, h5.kp k (hS g _ h1 h2 h5)⟩
theorem Cl.mono {lo' hi' : Nat} (h : Cl lo hi e cv z w v xs) (h1 : lo' ≤ lo) (h2 : hi ≤ hi') : Cl lo' hi' e cv z w v xs := h.imp id fun ⟨h0, g, cap, e1, h3, h4, r⟩ => ⟨h0, g, cap, e1, Nat.le_trans h1 h3, Nat.lt_of_lt_of_le h4 h2, r⟩
theorem Cl.slice (h : Cl lo hi e cv z w v xs) : ∃ A c, v = .slice A xs.length c := by
  rcases h with ⟨rfl, A, rfl⟩ | ⟨_, g, cap, rfl, _⟩
  · exact ⟨A, 0, rfl⟩
  · exact ⟨_, _, rfl⟩
theorem Cl.rc (h : Cl lo hi e cv z w v xs) : Rc cv w v xs := by
  rcases h with ⟨rfl, A, rfl⟩ | ⟨_, g, cap, rfl, h1, h2, h3, h4, h5⟩
  · exact ⟨A, 0, rfl, Nat.le_refl _, Nat.zero_le _, fun _ => rfl, RV.nil _ _⟩
  · refine ⟨_, cap, rfl, h3, h4, fun q => (by cases q), rv_of_blk h5 fun j v hj => ?_⟩
    rw [List.getElem?_toArray, List.flatMap_append, List.getElem?_append_left ?_]
    · exact hj
    · rcases Nat.lt_or_ge j (xs.flatMap cv).length with q | q
      · exact q
      · rw [List.getElem?_eq_none q] at hj; cases hj
theorem Cl.ap (h : Cl lo hi e cv z w v xs) {S : List Nat} (hS : ∀ g ∈ S, g < lo ∨ hi ≤ g) : Ap S v := fun p n c e1 hn q => by
  rcases h with ⟨rfl, A, rfl⟩ | ⟨_, g, cap, rfl, h1, h2, _⟩
  · cases e1; exact hn rfl
  · cases e1
    have : g < lo ∨ hi ≤ g := hS _ q
    omega
end
def ClP {α : Type} (e : TypeId) (cv : α → List Value) (z : α) (n : Nat) (xs : List α) (w : World) (en : Ending) (w' : World) : Prop := ∃ A c, en = .returned (.slice A n c) ∧ Cl w.heap.size w'.heap.size e cv z w' (.slice A n c) xs ∧ Up w w'

theorem len_w (x : Int) : (wdc x).length = 1 := rfl
theorem ez_w : Ez 22 54 1 8 (wdc (0 : Int)) := ⟨by
  obtain ⟨i0, h1, h2, h3, h4⟩ := info_parts (P := Tryz.prog) (e := 54) (z := .int .u64 0) (size := 1) (bytes := 8) (by kernel_rfl)
  exact ⟨i0, _, h1, h2, h3, h4, rfl⟩, Tryz.underlying22, rfl, by decide⟩
theorem clone_w (v : Value) (xs : List Int) (n : Nat) (w : World) (hx : Rc wdc w v xs) (hn : xs.length = n) (hb : n * 8 ≤ 140737488355328) :
    Calls Tryz.prog 68 #[v] w (ClP 54 wdc (0 : Int) n xs w) := by
  obtain ⟨A, c, rfl, h1, h2, h3, hr⟩ := hx
  subst hn
  by_cases hx : xs = []
  · subst hx
    cases A with
    | none =>
      obtain rfl := h3 rfl
      have q := nil_is (T := 22) ez_w.und
      clear hr h1 h2 h3 hb
      go_enter Tryz.func68, Tryz.ntmps68
      go_wp2
      go_ret
      exact ⟨none, 0, rfl, .inl ⟨rfl, _, rfl⟩, Up.refl _⟩
    | some p =>
      have q := nil_no (T := 22) ez_w.und p 0 c
      have hrun := run_none ez_w (some ⟨w.heap.size, 0, none⟩) (some p) 0 0 c (Nat.le_refl _) 22 (w.alloc (.cells #[] 54))
      clear hr h1 h2 h3 hb
      go_enter Tryz.func68, Tryz.ntmps68
      go_wp2_with (at_builtin; refine Lib.wpList_append_run _ rfl _ _ _ _ rfl _ _ rfl rfl _ _ hrun ?_)
      go_ret
      exact ⟨_, 0, rfl, .inl ⟨rfl, _, rfl⟩, (Up.refl w).alloc _⟩
  · have hp : 0 < xs.length := List.length_pos_iff.2 hx
    have hfl := fm_len len_w xs
    obtain ⟨p, e1, hpl, hc⟩ := hr (fun q => by rw [q] at hfl; simp at hfl; omega)
    subst e1
    have q := nil_no (T := 22) ez_w.und p xs.length c
    obtain ⟨cap, w', hrun, h5, h6, h7, h8⟩ := run_cl ez_w len_w (some ⟨w.heap.size, 0, none⟩) p xs.length c xs (w.alloc (.cells #[] 54)) rfl hp (hr.up ((Up.refl w).alloc _)) hb (by omega) 22
    rw [World.size_alloc] at hrun h7
    have HP : Hid (Cl w.heap.size w'.heap.size 54 wdc (0 : Int) w' (.slice (some ⟨w.heap.size + 1, 0, none⟩) xs.length cap) xs) := Lib.hid (.inr ⟨hx, _, _, rfl, by omega, h7.lt, h5, h6, h7⟩)
    have HU := Lib.hid (((Up.refl w).alloc (.cells #[] 54)).trans h8)
    clear hr hc h1 h2 h3 hb h5 h6 h7 h8 hfl hx hp hpl
    generalize xs.length = n at *
    go_enter Tryz.func68, Tryz.ntmps68
    go_wp2_with (at_builtin; refine Lib.wpList_append_run _ rfl _ _ _ _ rfl _ _ rfl rfl _ _ hrun ?_)
    go_ret
    exact ⟨_, _, rfl, HP.out, HU.out⟩

theorem len_n (x : Int) : (inc x).length = 1 := rfl
theorem ez_n : Ez 29 3 1 8 (inc (0 : Int)) := ⟨by
  obtain ⟨i0, h1, h2, h3, h4⟩ := info_parts (P := Tryz.prog) (e := 3) (z := .int .i64 0) (size := 1) (bytes := 8) (by kernel_rfl)
  exact ⟨i0, _, h1, h2, h3, h4, rfl⟩, Tryz.underlying29, rfl, by decide⟩
theorem clone_n (v : Value) (xs : List Int) (n : Nat) (w : World) (hx : Rc inc w v xs) (hn : xs.length = n) (hb : n * 8 ≤ 140737488355328) :
    Calls Tryz.prog 70 #[v] w (ClP 3 inc (0 : Int) n xs w) := by
  obtain ⟨A, c, rfl, h1, h2, h3, hr⟩ := hx
  subst hn
  by_cases hx : xs = []
  · subst hx
    cases A with
    | none =>
      obtain rfl := h3 rfl
      have q := nil_is (T := 29) ez_n.und
      clear hr h1 h2 h3 hb
      go_enter Tryz.func70, Tryz.ntmps70
      go_wp2
      go_ret
      exact ⟨none, 0, rfl, .inl ⟨rfl, _, rfl⟩, Up.refl _⟩
    | some p =>
      have q := nil_no (T := 29) ez_n.und p 0 c
      have hrun := run_none ez_n (some ⟨w.heap.size, 0, none⟩) (some p) 0 0 c (Nat.le_refl _) 29 (w.alloc (.cells #[] 3))
      clear hr h1 h2 h3 hb
      go_enter Tryz.func70, Tryz.ntmps70
      go_wp2_with (at_builtin; refine Lib.wpList_append_run _ rfl _ _ _ _ rfl _ _ rfl rfl _ _ hrun ?_)
      go_ret
      exact ⟨_, 0, rfl, .inl ⟨rfl, _, rfl⟩, (Up.refl w).alloc _⟩
  · have hp : 0 < xs.length := List.length_pos_iff.2 hx
    have hfl := fm_len len_n xs
    obtain ⟨p, e1, hpl, hc⟩ := hr (fun q => by rw [q] at hfl; simp at hfl; omega)
    subst e1
    have q := nil_no (T := 29) ez_n.und p xs.length c
    obtain ⟨cap, w', hrun, h5, h6, h7, h8⟩ := run_cl ez_n len_n (some ⟨w.heap.size, 0, none⟩) p xs.length c xs (w.alloc (.cells #[] 3)) rfl hp (hr.up ((Up.refl w).alloc _)) hb (by omega) 29
    rw [World.size_alloc] at hrun h7
    have HP : Hid (Cl w.heap.size w'.heap.size 3 inc (0 : Int) w' (.slice (some ⟨w.heap.size + 1, 0, none⟩) xs.length cap) xs) := Lib.hid (.inr ⟨hx, _, _, rfl, by omega, h7.lt, h5, h6, h7⟩)
    have HU := Lib.hid (((Up.refl w).alloc (.cells #[] 3)).trans h8)
    clear hr hc h1 h2 h3 hb h5 h6 h7 h8 hfl hx hp hpl
    generalize xs.length = n at *
    go_enter Tryz.func70, Tryz.ntmps70
    go_wp2_with (at_builtin; refine Lib.wpList_append_run _ rfl _ _ _ _ rfl _ _ rfl rfl _ _ hrun ?_)
    go_ret
    exact ⟨_, _, rfl, HP.out, HU.out⟩

theorem len_e (x : Ent) : (enc x).length = 2 := rfl
theorem ez_e : Ez 40 66 2 16 (enc ez) := ⟨by
  obtain ⟨i0, h1, h2, h3, h4⟩ := info_parts (P := Tryz.prog) (e := 66) (z := .agg #[.int .u64 0, .int .i64 0]) (size := 2) (bytes := 16) (by kernel_rfl)
  exact ⟨i0, _, h1, h2, h3, h4, rfl⟩, Tryz.underlying40, rfl, by decide⟩
theorem clone_e (v : Value) (xs : List Ent) (n : Nat) (w : World) (hx : Rc enc w v xs) (hn : xs.length = n) (hb : n * 16 ≤ 140737488355328) :
    Calls Tryz.prog 73 #[v] w (ClP 66 enc ez n xs w) := by
  obtain ⟨A, c, rfl, h1, h2, h3, hr⟩ := hx
  subst hn
  by_cases hx : xs = []
  · subst hx
    cases A with
    | none =>
      obtain rfl := h3 rfl
      have q := nil_is (T := 40) ez_e.und
      clear hr h1 h2 h3 hb
      go_enter Tryz.func73, Tryz.ntmps73
      go_wp2
      go_ret
      exact ⟨none, 0, rfl, .inl ⟨rfl, _, rfl⟩, Up.refl _⟩
    | some p =>
      have q := nil_no (T := 40) ez_e.und p 0 c
      have hrun := run_none ez_e (some ⟨w.heap.size, 0, none⟩) (some p) 0 0 c (Nat.le_refl _) 40 (w.alloc (.cells #[] 66))
      clear hr h1 h2 h3 hb
      go_enter Tryz.func73, Tryz.ntmps73
      go_wp2_with (at_builtin; refine Lib.wpList_append_run _ rfl _ _ _ _ rfl _ _ rfl rfl _ _ hrun ?_)
      go_ret
      exact ⟨_, 0, rfl, .inl ⟨rfl, _, rfl⟩, (Up.refl w).alloc _⟩
  · have hp : 0 < xs.length := List.length_pos_iff.2 hx
    have hfl := fm_len len_e xs
    obtain ⟨p, e1, hpl, hc⟩ := hr (fun q => by rw [q] at hfl; simp at hfl; omega)
    subst e1
    have q := nil_no (T := 40) ez_e.und p xs.length c
    obtain ⟨cap, w', hrun, h5, h6, h7, h8⟩ := run_cl ez_e len_e (some ⟨w.heap.size, 0, none⟩) p xs.length c xs (w.alloc (.cells #[] 66)) rfl hp (hr.up ((Up.refl w).alloc _)) hb (by omega) 40
    rw [World.size_alloc] at hrun h7
    have HP : Hid (Cl w.heap.size w'.heap.size 66 enc ez w' (.slice (some ⟨w.heap.size + 1, 0, none⟩) xs.length cap) xs) := Lib.hid (.inr ⟨hx, _, _, rfl, by omega, h7.lt, h5, h6, h7⟩)
    have HU := Lib.hid (((Up.refl w).alloc (.cells #[] 66)).trans h8)
    clear hr hc h1 h2 h3 hb h5 h6 h7 h8 hfl hx hp hpl
    generalize xs.length = n at *
    go_enter Tryz.func73, Tryz.ntmps73
    go_wp2_with (at_builtin; refine Lib.wpList_append_run _ rfl _ _ _ _ rfl _ _ rfl rfl _ _ hrun ?_)
    go_ret
    exact ⟨_, _, rfl, HP.out, HU.out⟩

theorem len_o (x : Op) : (opc x).length = 8 := rfl
theorem ez_o : Ez 41 62 8 64 (opc oz) := ⟨by
  obtain ⟨i0, h1, h2, h3, h4⟩ := info_parts (P := Tryz.prog) (e := 62) (z := .agg #[.int .i64 0, .int .i64 0, .int .i64 0, .int .i64 0, .int .u64 0, .int .i64 0, .int .i64 0, .int .u64 0]) (size := 8) (bytes := 64) (by kernel_rfl)
  exact ⟨i0, _, h1, h2, h3, h4, rfl⟩, Tryz.underlying41, rfl, by decide⟩
theorem clone_o (v : Value) (xs : List Op) (n : Nat) (w : World) (hx : Rc opc w v xs) (hn : xs.length = n) (hb : n * 64 ≤ 140737488355328) :
    Calls Tryz.prog 71 #[v] w (ClP 62 opc oz n xs w) := by
  obtain ⟨A, c, rfl, h1, h2, h3, hr⟩ := hx
  subst hn
  by_cases hx : xs = []
  · subst hx
    cases A with
    | none =>
      obtain rfl := h3 rfl
      have q := nil_is (T := 41) ez_o.und
      clear hr h1 h2 h3 hb
      go_enter Tryz.func71, Tryz.ntmps71
      go_wp2
      go_ret
      exact ⟨none, 0, rfl, .inl ⟨rfl, _, rfl⟩, Up.refl _⟩
    | some p =>
      have q := nil_no (T := 41) ez_o.und p 0 c
      have hrun := run_none ez_o (some ⟨w.heap.size, 0, none⟩) (some p) 0 0 c (Nat.le_refl _) 41 (w.alloc (.cells #[] 62))
      clear hr h1 h2 h3 hb
      go_enter Tryz.func71, Tryz.ntmps71
      go_wp2_with (at_builtin; refine Lib.wpList_append_run _ rfl _ _ _ _ rfl _ _ rfl rfl _ _ hrun ?_)
      go_ret
      exact ⟨_, 0, rfl, .inl ⟨rfl, _, rfl⟩, (Up.refl w).alloc _⟩
  · have hp : 0 < xs.length := List.length_pos_iff.2 hx
    have hfl := fm_len len_o xs
    obtain ⟨p, e1, hpl, hc⟩ := hr (fun q => by rw [q] at hfl; simp at hfl; omega)
    subst e1
    have q := nil_no (T := 41) ez_o.und p xs.length c
    obtain ⟨cap, w', hrun, h5, h6, h7, h8⟩ := run_cl ez_o len_o (some ⟨w.heap.size, 0, none⟩) p xs.length c xs (w.alloc (.cells #[] 62)) rfl hp (hr.up ((Up.refl w).alloc _)) hb (by omega) 41
    rw [World.size_alloc] at hrun h7
    have HP : Hid (Cl w.heap.size w'.heap.size 62 opc oz w' (.slice (some ⟨w.heap.size + 1, 0, none⟩) xs.length cap) xs) := Lib.hid (.inr ⟨hx, _, _, rfl, by omega, h7.lt, h5, h6, h7⟩)
    have HU := Lib.hid (((Up.refl w).alloc (.cells #[] 62)).trans h8)
    clear hr hc h1 h2 h3 hb h5 h6 h7 h8 hfl hx hp hpl
    generalize xs.length = n at *
    go_enter Tryz.func71, Tryz.ntmps71
    go_wp2_with (at_builtin; refine Lib.wpList_append_run _ rfl _ _ _ _ rfl _ _ rfl rfl _ _ hrun ?_)
    go_ret
    exact ⟨_, _, rfl, HP.out, HU.out⟩

theorem len_a (x : An) : (anc x).length = 3 := rfl
theorem ez_a : Ez 42 56 3 24 (anc az) := ⟨by
  obtain ⟨i0, h1, h2, h3, h4⟩ := info_parts (P := Tryz.prog) (e := 56) (z := .agg #[.int .i64 0, .int .u64 0, .bool false]) (size := 3) (bytes := 24) (by kernel_rfl)
  exact ⟨i0, _, h1, h2, h3, h4, rfl⟩, Tryz.underlying42, rfl, by decide⟩
theorem clone_a (v : Value) (xs : List An) (n : Nat) (w : World) (hx : Rc anc w v xs) (hn : xs.length = n) (hb : n * 24 ≤ 140737488355328) :
    Calls Tryz.prog 72 #[v] w (ClP 56 anc az n xs w) := by
  obtain ⟨A, c, rfl, h1, h2, h3, hr⟩ := hx
  subst hn
  by_cases hx : xs = []
  · subst hx
    cases A with
    | none =>
      obtain rfl := h3 rfl
      have q := nil_is (T := 42) ez_a.und
      clear hr h1 h2 h3 hb
      go_enter Tryz.func72, Tryz.ntmps72
      go_wp2
      go_ret
      exact ⟨none, 0, rfl, .inl ⟨rfl, _, rfl⟩, Up.refl _⟩
    | some p =>
      have q := nil_no (T := 42) ez_a.und p 0 c
      have hrun := run_none ez_a (some ⟨w.heap.size, 0, none⟩) (some p) 0 0 c (Nat.le_refl _) 42 (w.alloc (.cells #[] 56))
      clear hr h1 h2 h3 hb
      go_enter Tryz.func72, Tryz.ntmps72
      go_wp2_with (at_builtin; refine Lib.wpList_append_run _ rfl _ _ _ _ rfl _ _ rfl rfl _ _ hrun ?_)
      go_ret
      exact ⟨_, 0, rfl, .inl ⟨rfl, _, rfl⟩, (Up.refl w).alloc _⟩
  · have hp : 0 < xs.length := List.length_pos_iff.2 hx
    have hfl := fm_len len_a xs
    obtain ⟨p, e1, hpl, hc⟩ := hr (fun q => by rw [q] at hfl; simp at hfl; omega)
    subst e1
    have q := nil_no (T := 42) ez_a.und p xs.length c
    obtain ⟨cap, w', hrun, h5, h6, h7, h8⟩ := run_cl ez_a len_a (some ⟨w.heap.size, 0, none⟩) p xs.length c xs (w.alloc (.cells #[] 56)) rfl hp (hr.up ((Up.refl w).alloc _)) hb (by omega) 42
    rw [World.size_alloc] at hrun h7
    have HP : Hid (Cl w.heap.size w'.heap.size 56 anc az w' (.slice (some ⟨w.heap.size + 1, 0, none⟩) xs.length cap) xs) := Lib.hid (.inr ⟨hx, _, _, rfl, by omega, h7.lt, h5, h6, h7⟩)
    have HU := Lib.hid (((Up.refl w).alloc (.cells #[] 56)).trans h8)
    clear hr hc h1 h2 h3 hb h5 h6 h7 h8 hfl hx hp hpl
    generalize xs.length = n at *
    go_enter Tryz.func72, Tryz.ntmps72
    go_wp2_with (at_builtin; refine Lib.wpList_append_run _ rfl _ _ _ _ rfl _ _ rfl rfl _ _ hrun ?_)
    go_ret
    exact ⟨_, _, rfl, HP.out, HU.out⟩

theorem len_t (x : Tv) : (tvc x).length = 8 := rfl
theorem ez_t : Ez 28 44 8 144 (tvc tz) := ⟨by
  obtain ⟨i0, h1, h2, h3, h4⟩ := info_parts (P := Tryz.prog) (e := 44) (z := .agg #[.slice none 0 0, .int .i64 0, .int .i64 0, .slice none 0 0, .slice none 0 0, .slice none 0 0, .bool false, .slice none 0 0]) (size := 8) (bytes := 144) (by kernel_rfl)
  exact ⟨i0, _, h1, h2, h3, h4, rfl⟩, Tryz.underlying28, rfl, by decide⟩
theorem clone_t (v : Value) (xs : List Tv) (n : Nat) (w : World) (hx : Rc tvc w v xs) (hn : xs.length = n) (hb : n * 144 ≤ 140737488355328) :
    Calls Tryz.prog 69 #[v] w (ClP 44 tvc tz n xs w) := by
  obtain ⟨A, c, rfl, h1, h2, h3, hr⟩ := hx
  subst hn
  by_cases hx : xs = []
  · subst hx
    cases A with
    | none =>
      obtain rfl := h3 rfl
      have q := nil_is (T := 28) ez_t.und
      clear hr h1 h2 h3 hb
      go_enter Tryz.func69, Tryz.ntmps69
      go_wp2
      go_ret
      exact ⟨none, 0, rfl, .inl ⟨rfl, _, rfl⟩, Up.refl _⟩
    | some p =>
      have q := nil_no (T := 28) ez_t.und p 0 c
      have hrun := run_none ez_t (some ⟨w.heap.size, 0, none⟩) (some p) 0 0 c (Nat.le_refl _) 28 (w.alloc (.cells #[] 44))
      clear hr h1 h2 h3 hb
      go_enter Tryz.func69, Tryz.ntmps69
      go_wp2_with (at_builtin; refine Lib.wpList_append_run _ rfl _ _ _ _ rfl _ _ rfl rfl _ _ hrun ?_)
      go_ret
      exact ⟨_, 0, rfl, .inl ⟨rfl, _, rfl⟩, (Up.refl w).alloc _⟩
  · have hp : 0 < xs.length := List.length_pos_iff.2 hx
    have hfl := fm_len len_t xs
    obtain ⟨p, e1, hpl, hc⟩ := hr (fun q => by rw [q] at hfl; simp at hfl; omega)
    subst e1
    have q := nil_no (T := 28) ez_t.und p xs.length c
    obtain ⟨cap, w', hrun, h5, h6, h7, h8⟩ := run_cl ez_t len_t (some ⟨w.heap.size, 0, none⟩) p xs.length c xs (w.alloc (.cells #[] 44)) rfl hp (hr.up ((Up.refl w).alloc _)) hb (by omega) 28
    rw [World.size_alloc] at hrun h7
    have HP : Hid (Cl w.heap.size w'.heap.size 44 tvc tz w' (.slice (some ⟨w.heap.size + 1, 0, none⟩) xs.length cap) xs) := Lib.hid (.inr ⟨hx, _, _, rfl, by omega, h7.lt, h5, h6, h7⟩)
    have HU := Lib.hid (((Up.refl w).alloc (.cells #[] 44)).trans h8)
    clear hr hc h1 h2 h3 hb h5 h6 h7 h8 hfl hx hp hpl
    generalize xs.length = n at *
    go_enter Tryz.func69, Tryz.ntmps69
    go_wp2_with (at_builtin; refine Lib.wpList_append_run _ rfl _ _ _ _ rfl _ _ rfl rfl _ _ hrun ?_)
    go_ret
    exact ⟨_, _, rfl, HP.out, HU.out⟩
end Go.Proofs.YtddoljfkbkbfjaaGreat.T

/- Appends onto rows of the call's own; slices.Clone (of nodes, of words), slices.Grow of nothing, slices.Concat (of words, of numbers): contracts. -/
import Derived.Test.YtlocllcijncllaaGa
namespace Go.Proofs.Ytlocllcijncllaa
open Go.Joins Go.ChangeShapes Go.WideShapes Go.ChangeAt Go.RowKit Go.Deep Go.Shelf Go.Maps
set_option linter.unusedVariables false
set_option linter.unusedSimpArgs false

/-- An element's type, and the slice's. -/
structure El (T e : TypeId) (size bytes : Nat) : Prop where
  ex : ∃ i0 z, Try.prog.info? e = some i0 ∧ i0.zero = some z ∧ i0.size = size ∧ i0.bytes = bytes ∧ z.cells.size = size
  und : Try.prog.underlying T = some (.slice e)
  pos : 0 < size
  small : bytes ≤ 48
theorem el_u64 : El 60 26 1 8 := ⟨by
  obtain ⟨i0, h1, h2, h3, h4⟩ := info_parts (P := Try.prog) (e := 26) (z := .int .u64 0) (size := 1) (bytes := 8) (by kernel_rfl)
  exact ⟨i0, _, h1, h2, h3, h4, rfl⟩, Try.underlying60, by decide, by decide⟩
theorem el_int : El 47 3 1 8 := ⟨by
  obtain ⟨i0, h1, h2, h3, h4⟩ := info_parts (P := Try.prog) (e := 3) (z := .int .i64 0) (size := 1) (bytes := 8) (by kernel_rfl)
  exact ⟨i0, _, h1, h2, h3, h4, rfl⟩, Try.underlying47, by decide, by decide⟩
theorem el_node : El 22 62 4 48 := ⟨by
  obtain ⟨i0, h1, h2, h3, h4⟩ := info_parts (P := Try.prog) (e := 62) (z := .agg #[.int .i64 0, .int .i64 0, .int .u64 0, .slice none 0 0]) (size := 4) (bytes := 48) (by kernel_rfl)
  exact ⟨i0, _, h1, h2, h3, h4, rfl⟩, Try.underlying22, by decide, by decide⟩
theorem run_none {T e : TypeId} {size bytes : Nat} (E : El T e size bytes) (A B : Option Addr) (n cap c : Nat) (hc : n ≤ cap) (ty : TypeId) (w : World) : (Builtin.append_ #[T, T] ty #[.slice A n cap, .slice B 0 c]).run Try.prog w = .ok (.slice A n cap) w := by
  obtain ⟨⟨i0, z, hi, hz0, hz1, hz2, _⟩, hu, _, _⟩ := E
  cases A <;> cases B <;> simp [Builtin.append_, run_underlying hu, sizeOf, typeInfo, hi, Builtin.lenOf, Builtin.firstCells, loadCells, loadCellsFrom, storeCells, hc]
theorem grown_self (w : World) (r : Option Nat) : w.grownBy w r := ⟨rfl, rfl, rfl, Nat.le_refl _, fun _ _ _ => rfl⟩
/-- An append of some or of none onto a row of the call's own. -/
theorem run_any {T e : TypeId} {size bytes : Nat} (E : El T e size bytes) {w : World} (ty : TypeId) (n₀ n : Nat) (v : Value) (xs : List Value) (hx : w.ownsRow n₀ e size v n xs) (A : Option Addr) (m c : Nat) (ys : List Value) (hl : ys.length = m * size) (hy : RV w A ys) (h1 : ∀ u ∈ ys, u.oneCell' = true)
    (hb : n + m ≤ 1099511627776) (hbase : n₀ ≤ w.heap.size) :
    ∃ v' w', (Builtin.append_ #[T, T] ty #[v, .slice A m c]).run Try.prog w = .ok v' w' ∧ w'.ownsRow n₀ e size v' (n + m) (xs ++ ys) ∧ w.grownBy w' v.ownBlock ∧ (m = 0 → v' = v ∧ w' = w) := by
  by_cases hm : m = 0
  · subst hm
    obtain rfl : ys = [] := List.eq_nil_of_length_eq_zero (by omega)
    rw [List.append_nil]
    have hx0 := hx
    obtain ⟨hl, hc⟩ := hx
    rcases hc with ⟨rfl, h0⟩ | ⟨g, cap, cur, rfl, q1, q2, q3, q4⟩
    · exact ⟨_, w, run_none E none A 0 0 c (Nat.le_refl _) ty w, hx0, grown_self _ _, fun _ => ⟨rfl, rfl⟩⟩
    · exact ⟨_, w, run_none E (some ⟨g, 0, none⟩) A n cap c q3 ty w, hx0, grown_self _ _, fun _ => ⟨rfl, rfl⟩⟩
  · have hs := E.pos
    obtain ⟨p, rfl, hp, hc⟩ := hy (fun q => by rw [q] at hl; have := Nat.mul_pos (Nat.pos_of_ne_zero hm) hs; simp at hl; omega)
    have hsm := E.small
    obtain ⟨⟨i0, z, hi, hz0, hz1, hz2, hz3⟩, hu, _, _⟩ := E
    obtain ⟨g, cap, w', r1, r2, r3, _⟩ := run_append_lies (P := Try.prog) w T ty n₀ e i0 z size bytes hu hi hz0 hz1 hz2 hz3 hs v n xs hx p m c ys hl hc h1 (by omega) (by unfold maxLen; omega) (by
      have := Nat.mul_le_mul hb hsm
      omega) hbase w.heap.size rfl
    exact ⟨_, w', r1, r2, r3, fun q => absurd q hm⟩
theorem one_ints (k : IntKind) (xs : List Int) : ∀ u ∈ xs.map (Value.int k), u.oneCell' = true := fun u h => by
  obtain ⟨x, _, rfl⟩ := List.mem_map.1 h
  rfl
def Slices (us : List Value) : Prop := ∀ u ∈ us, ∃ A n c, u = .slice A n c
theorem nvs_one : ∀ (ns : List Nd) (us : List Value), Slices us → ∀ u ∈ nvs ns us, u.oneCell' = true
  | [], us, _, u, h => by simp [nvs] at h
  | n :: r, [], _, u, h => by simp [nvs] at h
  | n :: r, x :: us, hs, u, h => by
    simp only [nvs, List.mem_cons] at h
    rcases h with rfl | rfl | rfl | rfl | h
    · rfl
    · rfl
    · rfl
    · obtain ⟨A, n, c, rfl⟩ := hs u (by simp); rfl
    · exact nvs_one r us (fun y hy => hs y (by simp [hy])) u h
theorem Gd.slices {k : IntKind} {w : World} {us : List Value} {L : List (List Int)} (h : Gd k w us L) : Slices us := fun u hu => by
  obtain ⟨j, hj, rfl⟩ := List.getElem_of_mem hu
  have hjl : j < L.length := by rw [← h.1]; exact hj
  obtain ⟨A, c, e⟩ := (h.2 j _ _ (List.getElem?_eq_getElem hj) (List.getElem?_eq_getElem hjl)).slice
  exact ⟨_, _, _, e⟩
theorem up_own {W w w' : World} {e : TypeId} {size n : Nat} {v : Value} {xs : List Value} (h : Up W w) (hx : w.ownsRow W.heap.size e size v n xs) (hg : w.grownBy w' v.ownBlock) : Up W w' := h.grown hg (fun k e => (World.ownsRow.lt hx k e).1)
theorem own_up {w w' : World} {n₀ : Nat} {e : TypeId} {size n : Nat} {v : Value} {xs : List Value} (h : w.ownsRow n₀ e size v n xs) (k : Up w w') : w'.ownsRow n₀ e size v n xs :=
  World.ownsRow.kept h k.gb (by
    cases e : v.ownBlock with
    | none => exact .inl rfl
    | some g => exact .inr (by simp))
theorem own_le {w : World} {n₀ n₁ : Nat} {e : TypeId} {size n : Nat} {v : Value} {xs : List Value} (h : w.ownsRow n₀ e size v n xs) (k : n₁ ≤ n₀) : w.ownsRow n₁ e size v n xs :=
  ⟨h.1, h.2.imp id fun ⟨g, cap, cur, h1, h2, r⟩ => ⟨g, cap, cur, h1, Nat.le_trans k h2, r⟩⟩
theorem own_empty {V : World} {g n₀ : Nat} {e : TypeId} {size : Nat} (h : Blk V g e #[]) (hb : n₀ ≤ g) : V.ownsRow n₀ e size (.slice (some ⟨g, 0, none⟩) 0 0) 0 [] := ⟨by simp, .inr ⟨g, 0, #[], rfl, hb, h, Nat.le_refl _, Nat.zero_le _, by simp, by simp⟩⟩
theorem nil_is {T e : TypeId} (h : Try.prog.underlying T = some (.slice e)) (w : World) : (binOp .eql T (.slice none 0 0) (.slice none 0 0)).run Try.prog w = .ok (.bool true) w := Lib.run_eql_slice_nil w _ _ none 0 0 0 0 h
theorem nil_no {T e : TypeId} (h : Try.prog.underlying T = some (.slice e)) (p : Addr) (n c : Nat) (w : World) : (binOp .eql T (.slice (some p) n c) (.slice none 0 0)).run Try.prog w = .ok (.bool false) w := Lib.run_eql_slice_nil w _ _ (some p) n c 0 0 h
/-- A row of the call's own comes. -/
def OwnPost (e : TypeId) (size n : Nat) (vs : List Value) (w : World) (en : Ending) (w' : World) : Prop := ∃ v, en = .returned v ∧ w'.ownsRow w.heap.size e size v n vs ∧ Up w w'

theorem flat_take {α : Type} (L : List (List α)) {x : Nat} (h : x < L.length) : (L.take (x + 1)).flatten = (L.take x).flatten ++ L.getD x [] := by
  rw [List.take_succ_eq_append_getElem h, List.flatten_append]
  simp [List.getD, List.getElem?_eq_getElem h]
theorem flat_one {α : Type} (L : List (List α)) {x : Nat} (h : x < L.length) : (L.take (x + 1)).flatten.length = (L.take x).flatten.length + (L.getD x []).length := by rw [flat_take L h, List.length_append]
theorem flat_le {α : Type} (L : List (List α)) (x : Nat) : (L.take x).flatten.length ≤ L.flatten.length := by
  have h : L.flatten = (L.take x).flatten ++ (L.drop x).flatten := by rw [← List.flatten_append, List.take_append_drop]
  rw [h, List.length_append]
  omega

theorem clone_node (A : Option Addr) (n c : Nat) (vs : List Value) (w : World) (hA : A = none → c = 0) (hnc : n ≤ c) (hl : vs.length = n * 4) (hr : RV w A vs) (h1 : ∀ u ∈ vs, u.oneCell' = true) (hb : n ≤ 1099511627776) :
    Calls Try.prog 53 #[.slice A n c] w (OwnPost 62 4 n vs w) := by
  cases A with
  | none =>
    obtain rfl := hA rfl
    obtain rfl : n = 0 := by omega
    obtain rfl : vs = [] := List.eq_nil_of_length_eq_zero (by omega)
    have q := nil_is (T := 22) el_node.und
    clear hr h1 hA
    go_enter Try.func53, Try.ntmps53
    go_wp2
    go_ret
    exact ⟨_, rfl, World.ownsRow_nil _ _ _ _, Up.refl _⟩
  | some p =>
    have q := nil_no (T := 22) el_node.und p n c
    obtain ⟨v', w', hrun, hown, hg, -⟩ := run_any el_node (w := w.alloc (.cells #[] 62)) 22 w.heap.size 0 (.slice (some ⟨w.heap.size, 0, none⟩) 0 0) [] (own_empty (Blk.new w _ _) (Nat.le_refl _)) (some p) n c vs hl (hr.up ((Up.refl w).alloc _)) h1 (by omega) (by simp)
    rw [Nat.zero_add, List.nil_append] at hown
    have hU : Up w w' := up_own ((Up.refl w).alloc _) (own_empty (e := 62) (size := 4) (Blk.new w _ _) (Nat.le_refl _)) hg
    have HO := Lib.hid hown
    have HU := Lib.hid hU
    clear hown hU hg hr h1 hA hl hnc
    go_enter Try.func53, Try.ntmps53
    go_wp2_with (at_builtin; refine Lib.wpList_append_run _ rfl _ _ _ _ rfl _ _ rfl rfl _ _ hrun ?_)
    go_ret
    exact ⟨_, rfl, HO.out, HU.out⟩

theorem clone_u64 (A : Option Addr) (n c : Nat) (vs : List Value) (w : World) (hA : A = none → c = 0) (hnc : n ≤ c) (hl : vs.length = n * 1) (hr : RV w A vs) (h1 : ∀ u ∈ vs, u.oneCell' = true) (hb : n ≤ 1099511627776) :
    Calls Try.prog 42 #[.slice A n c] w (OwnPost 26 1 n vs w) := by
  cases A with
  | none =>
    obtain rfl := hA rfl
    obtain rfl : n = 0 := by omega
    obtain rfl : vs = [] := List.eq_nil_of_length_eq_zero (by omega)
    have q := nil_is (T := 60) el_u64.und
    clear hr h1 hA
    go_enter Try.func42, Try.ntmps42
    go_wp2
    go_ret
    exact ⟨_, rfl, World.ownsRow_nil _ _ _ _, Up.refl _⟩
  | some p =>
    have q := nil_no (T := 60) el_u64.und p n c
    obtain ⟨v', w', hrun, hown, hg, -⟩ := run_any el_u64 (w := w.alloc (.cells #[] 26)) 60 w.heap.size 0 (.slice (some ⟨w.heap.size, 0, none⟩) 0 0) [] (own_empty (Blk.new w _ _) (Nat.le_refl _)) (some p) n c vs hl (hr.up ((Up.refl w).alloc _)) h1 (by omega) (by simp)
    rw [Nat.zero_add, List.nil_append] at hown
    have hU : Up w w' := up_own ((Up.refl w).alloc _) (own_empty (e := 26) (size := 1) (Blk.new w _ _) (Nat.le_refl _)) hg
    have HO := Lib.hid hown
    have HU := Lib.hid hU
    clear hown hU hg hr h1 hA hl hnc
    go_enter Try.func42, Try.ntmps42
    go_wp2_with (at_builtin; refine Lib.wpList_append_run _ rfl _ _ _ _ rfl _ _ rfl rfl _ _ hrun ?_)
    go_ret
    exact ⟨_, rfl, HO.out, HU.out⟩

theorem zeros_u64 (n : Nat) : (Builtin.zeroCells (Value.int .u64 0).cells n).toList.length = n := by
  rw [Array.length_toList, size_zeroCells]
  show n * 1 = n
  omega
set_option maxHeartbeats 1000000 in
/-- Room for so many, of nothing. -/
theorem grow_u64 (n : Nat) (w : World) (hb : n ≤ 1099511627776) :
    Calls Try.prog 87 #[.slice none 0 0, .int .i64 n] w fun e w' => ∃ v, e = .returned v ∧ w'.ownsRow w.heap.size 26 1 v 0 [] ∧ (n = 0 → v = .slice none 0 0) ∧ Up w w' := by
  by_cases h0 : n = 0
  · subst h0
    go_enter Try.func87, Try.ntmps87
    go_wp2
    go_ret
    exact ⟨_, rfl, World.ownsRow_nil _ _ _ _, fun _ => rfl, Up.refl _⟩
  · obtain ⟨i0, z, hi, hz0, hz1, hz2⟩ := el_u64.ex
    have hz : z = .int .u64 0 := by
      have h1 := info_parts (P := Try.prog) (e := 26) (z := .int .u64 0) (size := 1) (bytes := 8) (by kernel_rfl)
      obtain ⟨i1, e1, e2, _⟩ := h1
      rw [hi] at e1
      cases e1
      rw [hz0] at e2
      cases e2
      rfl
    have hrun := fun ty => Lib.run_append_nil_zeros (P := Try.prog) w 60 3 ty 26 i0 z .i64 .i64 el_u64.und Try.underlying3 hi hz0 n (by omega) (by rw [hz1]; decide) (by omega) (by rw [hz2.1]; omega)
    have hge := grownCap_ge w n 0 26
    have hle := grownCap_le_maxLen w n 0 26 (by unfold maxLen; omega)
    subst hz
    have hown : (w.drew.alloc (.cells (Builtin.zeroCells (Value.int .u64 0).cells n ++ Builtin.zeroCells (Value.int .u64 0).cells (grownCap w n 0 26 - n)) 26)).ownsRow w.heap.size 26 1 (.slice (some ⟨w.heap.size, 0, none⟩) 0 (grownCap w n 0 26)) 0 [] := by
      refine ⟨by simp, .inr ⟨w.heap.size, _, _, rfl, Nat.le_refl _, Blk.new w.drew _ _, Nat.zero_le _, hle, ?_, by simp⟩⟩
      rw [Array.size_append, size_zeroCells, size_zeroCells]
      show n * 1 + (grownCap w n 0 26 - n) * 1 = _
      omega
    have HO := Lib.hid hown
    have HU : Hid (Up w (w.drew.alloc (.cells (Builtin.zeroCells (Value.int .u64 0).cells n ++ Builtin.zeroCells (Value.int .u64 0).cells (grownCap w n 0 26 - n)) 26))) := Lib.hid ((Up.refl w).drew.alloc _)
    clear hown hi hz0 hz1 hz2 hge hle
    have hd : decide ((n : Int) < 0) = false := decide_eq_false (by omega)
    have hd2 : decide (0 < (n : Int)) = true := decide_eq_true (by omega)
    generalize grownCap w n 0 26 = cap at *
    generalize w.drew.alloc (.cells (Builtin.zeroCells (Value.int .u64 0).cells n ++ Builtin.zeroCells (Value.int .u64 0).cells (cap - n)) 26) = w1 at *
    go_enter Try.func87, Try.ntmps87
    go_wp2_with (at_builtin; refine Lib.wpList_append_run _ rfl _ _ _ _ rfl _ _ rfl rfl _ _ (hrun _) ?_)
    go_ret
    exact ⟨_, rfl, HO.out, fun q => absurd q h0, HU.out⟩

def Sumu64 (w : World) (L : List (List Int)) (n : Nat) (s i : Value) (wr : World) : Prop := ∃ x : Nat, x ≤ n ∧ i = .int .i64 x ∧ s = .int .i64 ((L.take x).flatten.length : Nat) ∧ w = wr
def Catu64 (w : World) (L : List (List Int)) (n : Nat) (u i : Value) (wr : World) : Prop := ∃ x : Nat, x ≤ n ∧ i = .int .i64 x ∧ wr.ownsRow w.heap.size 26 1 u (L.take x).flatten.length ((L.take x).flatten.map (Value.int .u64)) ∧ (L.flatten = [] → u = .slice none 0 0) ∧ Up w wr
set_option maxHeartbeats 4000000 in
theorem concat_u64 (v : Value) (L : List (List Int)) (w : World) (hL : Rw .u64 w v L) (hT : L.flatten.length ≤ 1099511627776) :
    Calls Try.prog 74 #[v] w fun e w' => ∃ u, e = .returned u ∧ w'.ownsRow w.heap.size 26 1 u L.flatten.length (L.flatten.map (Value.int .u64)) ∧ (L.flatten = [] → u = .slice none 0 0) ∧ Up w w' := by
  have HL := Lib.hid hL
  obtain ⟨A, c, rfl, hm⟩ := hL.slice
  unfold maxLen at hm
  generalize hn : L.length = n at *
  have HN := Lib.hid hn
  clear hL hn
  have HT := Lib.hid hT
  clear hT
  go_enter Try.func74, Try.ntmps74
  go_wp2
  go_loopw [3, 11] (fun s i wr => Sumu64 w L n s i wr) (fun _ i _ => n - (intOf i).toNat)
  case atStart => exact ⟨0, Nat.zero_le _, rfl, rfl, rfl⟩
  case round =>
    obtain ⟨x, hx, rfl, rfl, rfl⟩ := hrel
    by_cases hlt : x < n
    · obtain ⟨p, u, rfl, hcu, hsu⟩ := HL.out.at_ hlt
      have hlx : x < L.length := by rw [HN.out]; exact hlt
      obtain ⟨Au, cu, rfl, -⟩ := hsu
      have e1 := flat_one L hlx
      have e2 := flat_le L (x + 1)
      have e3 := HT.out
      have HE := Lib.hid e1
      have hb : (L.take x).flatten.length + (L.getD x []).length ≤ 1099511627776 := by omega
      clear e1 e2 e3
      generalize (L.take x).flatten.length = s at *
      generalize (L.getD x []).length = m at *
      have hd : decide ((s : Int) + (m : Int) < 0) = false := decide_eq_false (by omega)
      go_wp2
      refine ⟨⟨x + 1, by omega, by go_num, ?_, rfl⟩, by simp [intOf]; omega⟩
      rw [HE.out]
      go_num
    · obtain rfl : n = x := by omega
      have he : L.take n = L := List.take_of_length_le (by rw [HN.out]; exact Nat.le_refl _)
      rw [he]
      clear he
      have hT := HT.out
      have hg := Lib.hid (grow_u64 L.flatten.length w hT)
      generalize hs : L.flatten.length = s at hg ⊢
      have HS := Lib.hid hs
      clear hs hT
      go_wp2_with (fail)
      refine hg.out.mono ?_
      rintro e w1 ⟨v1, rfl, ho, hz, hU⟩
      have HO := Lib.hid ho
      have HZ := Lib.hid hz
      have HU := Lib.hid hU
      clear ho hz hU hg
      go_wp2
      go_loopw [6, 27] (fun u i wr => Catu64 w L n u i wr) (fun _ i _ => n - (intOf i).toNat)
      case atStart => exact ⟨0, Nat.zero_le _, rfl, HO.out, fun q => HZ.out (by rw [← HS.out, q]; rfl), HU.out⟩
      case round =>
        obtain ⟨x, hx, rfl, ho, hz, hU⟩ := hrel
        by_cases hlt : x < n
        · obtain ⟨p, u, rfl, hcu, hsu⟩ := (HL.out.up hU).at_ hlt
          have hlx : x < L.length := by rw [HN.out]; exact hlt
          obtain ⟨Au, cu, e, h1, h2, h3, h4⟩ := hsu
          subst e
          obtain ⟨v', w', hrun, hown, hgr, hsame⟩ := run_any el_u64 (w := wr) 60 w.heap.size _ _ _ ho Au (L.getD x []).length cu _ (by simp) h4 (one_ints _ _) (by
            have e1 := flat_one L hlx
            have e2 := flat_le L (x + 1)
            have e3 := HT.out
            have e4 := HS.out
            omega) hU.size
          have hU' : Up w w' := up_own hU ho hgr
          have hown' : w'.ownsRow w.heap.size 26 1 v' (L.take (x + 1)).flatten.length ((L.take (x + 1)).flatten.map (Value.int .u64)) := by
            rw [flat_one L hlx, flat_take L hlx, List.map_append]
            exact hown
          have hz' : L.flatten = [] → v' = .slice none 0 0 := fun q => by
            have e1 := flat_one L hlx
            have e2 := flat_le L (x + 1)
            rw [q] at e2
            have e3 : ([] : List Int).length = 0 := rfl
            have hm0 : (L.getD x []).length = 0 := by omega
            rw [(hsame hm0).1, hz q]
          have HO := Lib.hid hown'
          have HZ := Lib.hid hz'
          have HU := Lib.hid hU'
          clear hown hown' hz hz' hU hU' ho hgr hsame h4 h3
          obtain ⟨Ao, co, rfl⟩ := own_slice (Lib.hid HO.out).out
          generalize (L.getD x []).length = m at *
          generalize hsl : (L.take (x + 1)).flatten.length = sl at *
          have HSL := Lib.hid hsl
          clear hsl
          go_wp2_with (at_builtin; refine Lib.wpList_append_run _ rfl _ _ _ _ rfl _ _ rfl rfl _ _ hrun ?_)
          exact ⟨⟨x + 1, by omega, by go_num, by rw [HSL.out]; exact HO.out, HZ.out, HU.out⟩, by simp [intOf]; omega⟩
        · obtain rfl : n = x := by omega
          have he : L.take n = L := List.take_of_length_le (by rw [HN.out]; exact Nat.le_refl _)
          rw [he] at ho
          have HO := Lib.hid ho
          have HZ := Lib.hid hz
          have HU := Lib.hid hU
          clear ho hz hU he
          go_wp2
          go_ret
          rw [← HS.out]
          exact ⟨_, rfl, HO.out, HZ.out, HU.out⟩

theorem zeros_int (n : Nat) : (Builtin.zeroCells (Value.int .i64 0).cells n).toList.length = n := by
  rw [Array.length_toList, size_zeroCells]
  show n * 1 = n
  omega
set_option maxHeartbeats 1000000 in
/-- Room for so many, of nothing. -/
theorem grow_int (n : Nat) (w : World) (hb : n ≤ 1099511627776) :
    Calls Try.prog 88 #[.slice none 0 0, .int .i64 n] w fun e w' => ∃ v, e = .returned v ∧ w'.ownsRow w.heap.size 3 1 v 0 [] ∧ (n = 0 → v = .slice none 0 0) ∧ Up w w' := by
  by_cases h0 : n = 0
  · subst h0
    go_enter Try.func88, Try.ntmps88
    go_wp2
    go_ret
    exact ⟨_, rfl, World.ownsRow_nil _ _ _ _, fun _ => rfl, Up.refl _⟩
  · obtain ⟨i0, z, hi, hz0, hz1, hz2⟩ := el_int.ex
    have hz : z = .int .i64 0 := by
      have h1 := info_parts (P := Try.prog) (e := 3) (z := .int .i64 0) (size := 1) (bytes := 8) (by kernel_rfl)
      obtain ⟨i1, e1, e2, _⟩ := h1
      rw [hi] at e1
      cases e1
      rw [hz0] at e2
      cases e2
      rfl
    have hrun := fun ty => Lib.run_append_nil_zeros (P := Try.prog) w 47 3 ty 3 i0 z .i64 .i64 el_int.und Try.underlying3 hi hz0 n (by omega) (by rw [hz1]; decide) (by omega) (by rw [hz2.1]; omega)
    have hge := grownCap_ge w n 0 3
    have hle := grownCap_le_maxLen w n 0 3 (by unfold maxLen; omega)
    subst hz
    have hown : (w.drew.alloc (.cells (Builtin.zeroCells (Value.int .i64 0).cells n ++ Builtin.zeroCells (Value.int .i64 0).cells (grownCap w n 0 3 - n)) 3)).ownsRow w.heap.size 3 1 (.slice (some ⟨w.heap.size, 0, none⟩) 0 (grownCap w n 0 3)) 0 [] := by
      refine ⟨by simp, .inr ⟨w.heap.size, _, _, rfl, Nat.le_refl _, Blk.new w.drew _ _, Nat.zero_le _, hle, ?_, by simp⟩⟩
      rw [Array.size_append, size_zeroCells, size_zeroCells]
      show n * 1 + (grownCap w n 0 3 - n) * 1 = _
      omega
    have HO := Lib.hid hown
    have HU : Hid (Up w (w.drew.alloc (.cells (Builtin.zeroCells (Value.int .i64 0).cells n ++ Builtin.zeroCells (Value.int .i64 0).cells (grownCap w n 0 3 - n)) 3))) := Lib.hid ((Up.refl w).drew.alloc _)
    clear hown hi hz0 hz1 hz2 hge hle
    have hd : decide ((n : Int) < 0) = false := decide_eq_false (by omega)
    have hd2 : decide (0 < (n : Int)) = true := decide_eq_true (by omega)
    generalize grownCap w n 0 3 = cap at *
    generalize w.drew.alloc (.cells (Builtin.zeroCells (Value.int .i64 0).cells n ++ Builtin.zeroCells (Value.int .i64 0).cells (cap - n)) 3) = w1 at *
    go_enter Try.func88, Try.ntmps88
    go_wp2_with (at_builtin; refine Lib.wpList_append_run _ rfl _ _ _ _ rfl _ _ rfl rfl _ _ (hrun _) ?_)
    go_ret
    exact ⟨_, rfl, HO.out, fun q => absurd q h0, HU.out⟩

def Sumint (w : World) (L : List (List Int)) (n : Nat) (s i : Value) (wr : World) : Prop := ∃ x : Nat, x ≤ n ∧ i = .int .i64 x ∧ s = .int .i64 ((L.take x).flatten.length : Nat) ∧ w = wr
def Catint (w : World) (L : List (List Int)) (n : Nat) (u i : Value) (wr : World) : Prop := ∃ x : Nat, x ≤ n ∧ i = .int .i64 x ∧ wr.ownsRow w.heap.size 3 1 u (L.take x).flatten.length ((L.take x).flatten.map (Value.int .i64)) ∧ (L.flatten = [] → u = .slice none 0 0) ∧ Up w wr
set_option maxHeartbeats 4000000 in
theorem concat_int (v : Value) (L : List (List Int)) (w : World) (hL : Rw .i64 w v L) (hT : L.flatten.length ≤ 1099511627776) :
    Calls Try.prog 75 #[v] w fun e w' => ∃ u, e = .returned u ∧ w'.ownsRow w.heap.size 3 1 u L.flatten.length (L.flatten.map (Value.int .i64)) ∧ (L.flatten = [] → u = .slice none 0 0) ∧ Up w w' := by
  have HL := Lib.hid hL
  obtain ⟨A, c, rfl, hm⟩ := hL.slice
  unfold maxLen at hm
  generalize hn : L.length = n at *
  have HN := Lib.hid hn
  clear hL hn
  have HT := Lib.hid hT
  clear hT
  go_enter Try.func75, Try.ntmps75
  go_wp2
  go_loopw [3, 11] (fun s i wr => Sumint w L n s i wr) (fun _ i _ => n - (intOf i).toNat)
  case atStart => exact ⟨0, Nat.zero_le _, rfl, rfl, rfl⟩
  case round =>
    obtain ⟨x, hx, rfl, rfl, rfl⟩ := hrel
    by_cases hlt : x < n
    · obtain ⟨p, u, rfl, hcu, hsu⟩ := HL.out.at_ hlt
      have hlx : x < L.length := by rw [HN.out]; exact hlt
      obtain ⟨Au, cu, rfl, -⟩ := hsu
      have e1 := flat_one L hlx
      have e2 := flat_le L (x + 1)
      have e3 := HT.out
      have HE := Lib.hid e1
      have hb : (L.take x).flatten.length + (L.getD x []).length ≤ 1099511627776 := by omega
      clear e1 e2 e3
      generalize (L.take x).flatten.length = s at *
      generalize (L.getD x []).length = m at *
      have hd : decide ((s : Int) + (m : Int) < 0) = false := decide_eq_false (by omega)
      go_wp2
      refine ⟨⟨x + 1, by omega, by go_num, ?_, rfl⟩, by simp [intOf]; omega⟩
      rw [HE.out]
      go_num
    · obtain rfl : n = x := by omega
      have he : L.take n = L := List.take_of_length_le (by rw [HN.out]; exact Nat.le_refl _)
      rw [he]
      clear he
      have hT := HT.out
      have hg := Lib.hid (grow_int L.flatten.length w hT)
      generalize hs : L.flatten.length = s at hg ⊢
      have HS := Lib.hid hs
      clear hs hT
      go_wp2_with (fail)
      refine hg.out.mono ?_
      rintro e w1 ⟨v1, rfl, ho, hz, hU⟩
      have HO := Lib.hid ho
      have HZ := Lib.hid hz
      have HU := Lib.hid hU
      clear ho hz hU hg
      go_wp2
      go_loopw [6, 27] (fun u i wr => Catint w L n u i wr) (fun _ i _ => n - (intOf i).toNat)
      case atStart => exact ⟨0, Nat.zero_le _, rfl, HO.out, fun q => HZ.out (by rw [← HS.out, q]; rfl), HU.out⟩
      case round =>
        obtain ⟨x, hx, rfl, ho, hz, hU⟩ := hrel
        by_cases hlt : x < n
        · obtain ⟨p, u, rfl, hcu, hsu⟩ := (HL.out.up hU).at_ hlt
          have hlx : x < L.length := by rw [HN.out]; exact hlt
          obtain ⟨Au, cu, e, h1, h2, h3, h4⟩ := hsu
          subst e
          obtain ⟨v', w', hrun, hown, hgr, hsame⟩ := run_any el_int (w := wr) 47 w.heap.size _ _ _ ho Au (L.getD x []).length cu _ (by simp) h4 (one_ints _ _) (by
            have e1 := flat_one L hlx
            have e2 := flat_le L (x + 1)
            have e3 := HT.out
            have e4 := HS.out
            omega) hU.size
          have hU' : Up w w' := up_own hU ho hgr
          have hown' : w'.ownsRow w.heap.size 3 1 v' (L.take (x + 1)).flatten.length ((L.take (x + 1)).flatten.map (Value.int .i64)) := by
            rw [flat_one L hlx, flat_take L hlx, List.map_append]
            exact hown
          have hz' : L.flatten = [] → v' = .slice none 0 0 := fun q => by
            have e1 := flat_one L hlx
            have e2 := flat_le L (x + 1)
            rw [q] at e2
            have e3 : ([] : List Int).length = 0 := rfl
            have hm0 : (L.getD x []).length = 0 := by omega
            rw [(hsame hm0).1, hz q]
          have HO := Lib.hid hown'
          have HZ := Lib.hid hz'
          have HU := Lib.hid hU'
          clear hown hown' hz hz' hU hU' ho hgr hsame h4 h3
          obtain ⟨Ao, co, rfl⟩ := own_slice (Lib.hid HO.out).out
          generalize (L.getD x []).length = m at *
          generalize hsl : (L.take (x + 1)).flatten.length = sl at *
          have HSL := Lib.hid hsl
          clear hsl
          go_wp2_with (at_builtin; refine Lib.wpList_append_run _ rfl _ _ _ _ rfl _ _ rfl rfl _ _ hrun ?_)
          exact ⟨⟨x + 1, by omega, by go_num, by rw [HSL.out]; exact HO.out, HZ.out, HU.out⟩, by simp [intOf]; omega⟩
        · obtain rfl : n = x := by omega
          have he : L.take n = L := List.take_of_length_le (by rw [HN.out]; exact Nat.le_refl _)
          rw [he] at ho
          have HO := Lib.hid ho
          have HZ := Lib.hid hz
          have HU := Lib.hid hU
          clear ho hz hU he
          go_wp2
          go_ret
          rw [← HS.out]
          exact ⟨_, rfl, HO.out, HZ.out, HU.out⟩
end Go.Proofs.Ytlocllcijncllaa

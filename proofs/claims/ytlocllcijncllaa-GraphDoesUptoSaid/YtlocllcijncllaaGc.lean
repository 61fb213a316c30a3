/- Rows once more, in one new row (graph.laid, of words and of numbers): contracts. -/
import Derived.Test.YtlocllcijncllaaGb
namespace Go.Proofs.Ytlocllcijncllaa
open Go.Joins Go.ChangeShapes Go.WideShapes Go.ChangeAt Go.RowKit Go.Deep Go.Shelf Go.Maps
set_option linter.unusedVariables false
set_option linter.unusedSimpArgs false

/-- Where a row begins. -/
def off (L : List (List Int)) (j : Nat) : Nat := (L.take j).flatten.length
theorem off_step {L : List (List Int)} {j : Nat} (h : j < L.length) : off L (j + 1) = off L j + (L.getD j []).length := flat_one L h
theorem off_le (L : List (List Int)) (j : Nat) : off L j ≤ L.flatten.length := flat_le L j
theorem off_all (L : List (List Int)) : off L L.length = L.flatten.length := by unfold off; rw [List.take_length]
theorem flat_at {L : List (List Int)} {j i : Nat} {xs : List Int} {x : Int} (h : L[j]? = some xs) (k : xs[i]? = some x) : L.flatten[off L j + i]? = some x := by
  have hj : j < L.length := by
    rcases Nat.lt_or_ge j L.length with q | q
    · exact q
    · rw [List.getElem?_eq_none q] at h; cases h
  have hi : i < xs.length := by
    rcases Nat.lt_or_ge i xs.length with q | q
    · exact q
    · rw [List.getElem?_eq_none q] at k; cases k
  have e : L.flatten = (L.take j).flatten ++ (xs ++ (L.drop (j + 1)).flatten) := by
    have e2 : L.drop j = xs :: L.drop (j + 1) := by
      rw [List.drop_eq_getElem_cons hj]
      rw [List.getElem?_eq_getElem hj] at h
      cases h
      rfl
    rw [← List.flatten_cons, ← e2, ← List.flatten_append, List.take_append_drop]
  rw [e, List.getElem?_append_right (by unfold off; omega)]
  have : off L j + i - (L.take j).flatten.length = i := by unfold off; omega
  rw [this, List.getElem?_append_left hi, k]
/-- Rows that stand in one block, each behind the one ahead of it. -/
structure Ct (k : IntKind) (e : TypeId) (base : Nat) (w : World) (us : List Value) (L : List (List Int)) (B : Nat) : Prop where
  len : us.length = L.length
  row : ∀ (j : Nat) (u : Value) (xs : List Int), us[j]? = some u → L[j]? = some xs → ∃ A, u = .slice A xs.length xs.length ∧ (A = none → xs.length = 0) ∧ (xs ≠ [] → A = some ⟨B, off L j, none⟩)
  blk : L.flatten ≠ [] → base ≤ B ∧ ∃ cs, Blk w B e cs ∧ ∀ (i : Nat) (x : Int), L.flatten[i]? = some x → cs[i]? = some (.int k x)
  short : ∀ xs ∈ L, xs.length ≤ maxLen
theorem Ct.up {k : IntKind} {e : TypeId} {base : Nat} {w w' : World} {us : List Value} {L : List (List Int)} {B : Nat} (h : Ct k e base w us L B) (u : Up w w') : Ct k e base w' us L B :=
  ⟨h.len, h.row, fun q => by
    obtain ⟨h1, cs, h2, h3⟩ := h.blk q
    exact ⟨h1, cs, h2.up u, h3⟩, h.short⟩
theorem Ct.slices {k : IntKind} {e : TypeId} {base : Nat} {w : World} {us : List Value} {L : List (List Int)} {B : Nat} (h : Ct k e base w us L B) : Slices us := fun u hu => by
  obtain ⟨j, hj, rfl⟩ := List.getElem_of_mem hu
  have hjl : j < L.length := by rw [← h.len]; exact hj
  obtain ⟨A, e, _⟩ := h.row j _ _ (List.getElem?_eq_getElem hj) (List.getElem?_eq_getElem hjl)
  exact ⟨_, _, _, e⟩
theorem add_off (g a b : Nat) : (⟨g, a, none⟩ : Addr).add b = ⟨g, a + b, none⟩ := by unfold Addr.add; split <;> simp_all
theorem Ct.gd {k : IntKind} {e : TypeId} {base : Nat} {w : World} {us : List Value} {L : List (List Int)} {B : Nat} (h : Ct k e base w us L B) : Gd k w us L := by
  refine ⟨h.len, fun j u xs h1 h2 => ?_⟩
  obtain ⟨A, e1, e2, e3⟩ := h.row j u xs h1 h2
  refine ⟨A, xs.length, e1, Nat.le_refl _, h.short xs (List.mem_of_getElem? h2), e2, fun q => ?_⟩
  have hx : xs ≠ [] := fun q2 => q (by rw [q2]; rfl)
  have hf : L.flatten ≠ [] := fun q2 => by
    obtain ⟨x, r, e4⟩ := List.exists_cons_of_ne_nil hx
    have := flat_at (i := 0) (x := x) h2 (by rw [e4]; rfl)
    rw [q2] at this
    simp at this
  obtain ⟨_, cs, hb, hc⟩ := h.blk hf
  refine ⟨_, e3 hx, hb.lt, fun i v hi => ?_⟩
  rw [List.getElem?_map] at hi
  obtain ⟨x, hx1, rfl⟩ := Option.map_eq_some_iff.1 hi
  rw [add_off, hb.cell]
  exact hc _ _ (flat_at h2 hx1)
/-- What is left of the one row, ahead of the x-th. -/
def Lft (base B T o : Nat) (v : Value) : Prop := ∃ A len cap, v = .slice A len cap ∧ len + o = T ∧ len ≤ cap ∧ cap ≤ maxLen ∧ (A = none → cap = 0) ∧ (0 < len → A = some ⟨B, o, none⟩ ∧ base ≤ B)
theorem sub_n {a b : Nat} (h : b ≤ a) : (a : Int).toNat - (b : Int).toNat = a - b := by omega
theorem made_rows (n : Nat) : madeCells #[.slice none 0 0] n = (List.replicate n (Value.slice none 0 0)).toArray := by
  apply Array.ext
  · simp [size_madeCells]
  · intro i h1 h2
    simp [madeCells, Nat.mod_one]

theorem run_cut2_u64 (A : Option Addr) (n c k : Nat) (hk : k ≤ c) (w : World) :
    (Instr.sliceAt 60 (.slice A n c) none (some (.int .i64 (k : Int))) (some (.int .i64 (k : Int)))).run Try.prog w = .ok (.slice A k k) w ∧ (Instr.slice 60 (.slice A n c) none (some (.int .i64 (k : Int))) (some (.int .i64 (k : Int)))).run Try.prog w = .ok (.slice A k k) w := by
  obtain ⟨i0, z, hi0, hz0, hz1, hz2⟩ := el_u64.ex
  have hel : Try.prog.elem 60 = 26 := by kernel_rfl
  have hu : Try.prog.underlying 60 = some (.slice (Try.prog.elem 60)) := by rw [hel]; exact el_u64.und
  rw [run_sliceAt_slice (h := hu), and_self, run_slice_hm (ht := hu) (h0 := by omega) (h2 := by omega) (h3 := by omega), hel]
  cases A
  · simp [sizeOf, typeInfo, hi0, sliced]
  · rename_i p
    have e0 : p.add 0 = p := Addr.add_zero' p
    simp [sizeOf, typeInfo, hi0, sliced, e0]
theorem run_cut3_u64 (A : Option Addr) (n c k : Nat) (hk : k ≤ n) (w : World) :
    (Instr.sliceAt 60 (.slice A n c) (some (.int .i64 (k : Int))) none none).run Try.prog w = .ok (.slice (if c = k then A else A.map (·.add k)) (n - k) (c - k)) w ∧ (Instr.slice 60 (.slice A n c) (some (.int .i64 (k : Int))) none none).run Try.prog w = .ok (.slice (if c = k then A else A.map (·.add k)) (n - k) (c - k)) w := by
  obtain ⟨i0, z, hi0, hz0, hz1, hz2⟩ := el_u64.ex
  have hel : Try.prog.elem 60 = 26 := by kernel_rfl
  have hu : Try.prog.underlying 60 = some (.slice (Try.prog.elem 60)) := by rw [hel]; exact el_u64.und
  rw [run_sliceAt_slice (h := hu), and_self, run_slice_l (ht := hu) (h0 := by omega) (h1 := by omega), hel]
  simp [sizeOf, typeInfo, hi0, hz1, sliced]
theorem make_u64 (n : Nat) (hn : n ≤ 1099511627776) (w : World) :
    (Instr.makeSlice 94 (.int .i64 (n : Int)) (.int .i64 (n : Int))).run Try.prog w = .ok (.slice (some ⟨w.heap.size, 0, none⟩) n n) (w.alloc (.cells (List.replicate n (Value.slice none 0 0)).toArray 60)) := by
  have := run_make_row' (P := Try.prog) 94 60 (.slice none 0 0) 24 Try.underlying94 (by kernel_rfl) rfl .i64 .i64 n (by omega) (by omega) w
  rw [made_rows] at this
  exact this
/-- The rows that are laid so far. -/
def Ldu64 (w : World) (n : Nat) (L : List (List Int)) (G B : Nat) (cs : Array Value) (v1 v i : Value) (wr : World) : Prop :=
  ∃ (x : Nat) (us : List Value), x ≤ n ∧ i = .int .i64 x ∧ Blk wr G 60 us.toArray ∧ us.length = n ∧ Lft w.heap.size B L.flatten.length (off L x) v ∧
    (∀ (j : Nat) (u : Value) (xs : List Int), j < x → us[j]? = some u → L[j]? = some xs → ∃ A, u = .slice A xs.length xs.length ∧ (A = none → xs.length = 0) ∧ (xs ≠ [] → A = some ⟨B, off L j, none⟩)) ∧ (L.flatten ≠ [] → Blk wr B 26 cs) ∧ Up w wr
def LdPostu64 (L : List (List Int)) (w : World) (e : Ending) (w' : World) : Prop :=
  ∃ G B us, e = .returned (.slice (some ⟨G, 0, none⟩) L.length L.length) ∧ Blk w' G 60 us.toArray ∧ Ct .u64 26 w.heap.size w' us L B ∧ w.heap.size ≤ G ∧ Up w w'
set_option maxHeartbeats 4000000 in
theorem laid_u64 (v : Value) (L : List (List Int)) (w : World) (hL : Rw .u64 w v L) (hT : L.flatten.length ≤ 1099511627776) (hN : L.length ≤ 1099511627776) : Calls Try.prog 54 #[v] w (LdPostu64 L w) := by
  have HC := Lib.hid (concat_u64 v L w hL hT)
  have HL := Lib.hid hL
  have hmk := make_u64 L.length hN
  obtain ⟨A, c, rfl, hm⟩ := hL.slice
  have HS : Hid (∀ xs ∈ L, xs.length ≤ maxLen) := Lib.hid (fun xs hx => by
    obtain ⟨j, hj, rfl⟩ := List.getElem_of_mem hx
    obtain ⟨p, u, e, hc, hs⟩ := hL.at_ (x := j) hj
    have := hs.max
    simpa [List.getD, List.getElem?_eq_getElem hj] using this)
  generalize hn : L.length = n at *
  have HN := Lib.hid hn
  have HT := Lib.hid hT
  unfold maxLen at hm
  clear hL hn hT
  go_enter Try.func54, Try.ntmps54
  go_wp2_with (fail)
  refine HC.out.mono ?_
  rintro e w1 ⟨u1, rfl, ho, hz, hU1⟩
  obtain ⟨B, cs, hLf, hcs⟩ : ∃ B cs, Lft w.heap.size B L.flatten.length 0 u1 ∧ (L.flatten ≠ [] → Blk w1 B 26 cs ∧ ∀ (i : Nat) (x : Int), L.flatten[i]? = some x → cs[i]? = some (.int .u64 x)) := by
    obtain ⟨hl, hc⟩ := ho
    rcases hc with ⟨rfl, h0⟩ | ⟨g, cap, cur, rfl, hb, hg, q1, q2, q3, q4⟩
    · exact ⟨0, #[], ⟨none, 0, 0, rfl, by omega, Nat.le_refl _, Nat.zero_le _, fun _ => rfl, fun q => absurd q (by omega)⟩, fun q => absurd (List.eq_nil_of_length_eq_zero h0) q⟩
    · refine ⟨g, cur, ⟨_, _, _, rfl, rfl, q1, q2, fun q => (by cases q), fun _ => ⟨rfl, hb⟩⟩, fun _ => ⟨hg, fun i x hi => ?_⟩⟩
      have h5 : (L.flatten.map (Value.int .u64))[i]? = some (.int .u64 x) := by rw [List.getElem?_map, hi]; rfl
      have hlt : i < L.flatten.length := by
        rcases Nat.lt_or_ge i L.flatten.length with q | q
        · exact q
        · rw [List.getElem?_eq_none q] at hi; cases hi
      rw [← q4, List.getElem?_take, if_pos (by omega)] at h5
      simpa using h5
  have HCS : Hid (L.flatten ≠ [] → ∀ (i : Nat) (x : Int), L.flatten[i]? = some x → cs[i]? = some (.int .u64 x)) := Lib.hid (fun q => (hcs q).2)
  have hB1 : L.flatten ≠ [] → Blk (w1.alloc (.cells (List.replicate n (Value.slice none 0 0)).toArray 60)) B 26 cs := fun q => (hcs q).1.alloc _
  have hG := Blk.new w1 60 (List.replicate n (Value.slice none 0 0)).toArray
  have HU2 := Lib.hid (hU1.alloc (.cells (List.replicate n (Value.slice none 0 0)).toArray 60))
  have HG1 := Lib.hid hU1.size
  have HLf := Lib.hid hLf
  have HG := Lib.hid hG
  have HB1 := Lib.hid hB1
  obtain ⟨A1, l1, c1, rfl, -⟩ := hLf
  clear HC ho hz hU1 hcs hB1 hG
  go_wp2_with (fail)
  go_loopw [3, 15] (fun v i wr => Ldu64 w n L w1.heap.size B cs (.slice A1 l1 c1) v i wr) (fun _ i _ => n - (intOf i).toNat)
  case atStart => exact ⟨0, _, Nat.zero_le _, rfl, HG.out, by simp, HLf.out, fun j u xs q => absurd q (by omega), HB1.out, HU2.out⟩
  case round =>
    obtain ⟨x, us, hx, rfl, hG, hlen, hLf, hrow, hB, hU⟩ := hrel
    by_cases hlt : x < n
    · obtain ⟨p, u, rfl, hcu, hsu⟩ := (HL.out.up hU).at_ hlt
      have hlx : x < L.length := by rw [HN.out]; exact hlt
      have hxu : x < us.length := by omega
      have hstep := off_step hlx
      have hle := off_le L (x + 1)
      have hgx : L[x]? = some (L.getD x []) := by simp [List.getD, List.getElem?_eq_getElem hlx]
      have hT := HT.out
      obtain ⟨A2, len, cap, rfl, hlo, hlc, hcm, hA2, hpos⟩ := hLf
      obtain ⟨Au, cu, rfl, -⟩ := hsu
      have HLf2 : Hid (Lft w.heap.size B L.flatten.length (off L (x + 1)) (.slice (if cap = (L.getD x []).length then A2 else A2.map (·.add (L.getD x []).length)) (len - (L.getD x []).length) (cap - (L.getD x []).length))) := Lib.hid (by
        refine ⟨_, _, _, rfl, by omega, by omega, by omega, fun q => ?_, fun q => ?_⟩
        · split at q
          · have := hA2 q; omega
          · cases A2
            · have := hA2 rfl; omega
            · cases q
        · obtain ⟨e1, e2⟩ := hpos (by omega)
          refine ⟨?_, e2⟩
          rw [if_neg (by omega), e1]
          simp only [Option.map_some, add_off]
          rw [hstep])
      have HROW : Hid (∃ A, Value.slice A2 (L.getD x []).length (L.getD x []).length = .slice A (L.getD x []).length (L.getD x []).length ∧ (A = none → (L.getD x []).length = 0) ∧ (L.getD x [] ≠ [] → A = some ⟨B, off L x, none⟩)) := Lib.hid (by
        refine ⟨A2, rfl, fun q => ?_, fun q => ?_⟩
        · have := hA2 q; omega
        · have := List.length_pos_iff.2 q
          exact (hpos (by omega)).1)
      have hm1 : (L.getD x []).length ≤ len := by omega
      have HGX := Lib.hid hgx
      clear hstep hle hgx hlo hpos hA2 hT
      generalize L.getD x [] = xs at *
      generalize hml : xs.length = m at *
      have HML := Lib.hid hml
      clear hml
      have r1 := fun w => (run_cut2_u64 A2 len cap m (by omega) w).1
      have r2 := fun w => (run_cut2_u64 A2 len cap m (by omega) w).2
      have r3 := fun w => (run_cut3_u64 A2 len cap m hm1 w).1
      have r4 := fun w => (run_cut3_u64 A2 len cap m hm1 w).2
      have hcG := hG.cell x
      rw [List.getElem?_toArray, List.getElem?_eq_getElem hxu] at hcG
      have hfG := hG.frozen x
      have hlG := hG.lt
      have HG := Lib.hid hG
      have HB := Lib.hid hB
      have HU := Lib.hid hU
      have HR := Lib.hid hrow
      have HLN := Lib.hid hlen
      clear hG hB hU hrow hlen
      generalize (if cap = m then A2 else A2.map (·.add m)) = A3 at *
      generalize us[x] = ux at *
      go_wp2_with (fail)
      go_region
      go_wp2
      have hset : (us.toArray.setIfInBounds x (.slice A2 m m)) = (us.set x (.slice A2 m m)).toArray := by simp
      refine ⟨⟨x + 1, us.set x (.slice A2 m m), by omega, by go_num, ?_, by rw [List.length_set]; exact HLN.out, HLf2.out, fun j u ys hj h1 h2 => ?_, fun q => ?_, ((HU.out.setCell (by exact HG1.out) _).drew)⟩, by simp [intOf]; omega⟩
      · rw [← hset]
        exact (HG.out.set_ x _).drew
      · by_cases hjx : j = x
        · subst hjx
          rw [HGX.out] at h2
          cases h2
          rw [List.getElem?_set_self (by rw [HLN.out]; exact hlt)] at h1
          cases h1
          rw [HML.out]
          exact HROW.out
        · rw [List.getElem?_set_ne (fun q => hjx q.symm)] at h1
          exact HR.out j u ys (by omega) h1 h2
      · exact ((HB.out q).far (p := ⟨w1.heap.size, x, none⟩) ((HB.out q).ne_type HG.out (by decide)) _).drew
    · obtain rfl : n = x := by omega
      have HG := Lib.hid hG
      have HB := Lib.hid hB
      have HU := Lib.hid hU
      have HR := Lib.hid hrow
      have HLN := Lib.hid hlen
      clear hG hB hU hrow hlen hLf
      go_wp2
      go_ret
      refine ⟨w1.heap.size, B, us, by rw [HN.out]; rfl, HG.out, ⟨by rw [HLN.out, HN.out], fun j u xs h1 h2 => HR.out j u xs ?_ h1 h2, fun q => ⟨?_, cs, HB.out q, HCS.out q⟩, HS.out⟩, HG1.out, HU.out⟩
      · rw [← HLN.out]
        rcases Nat.lt_or_ge j us.length with q | q
        · exact q
        · rw [List.getElem?_eq_none q] at h1; cases h1
      · obtain ⟨A0, l0, c0, e0, h1, h2, h3, h4, h5⟩ := HLf.out
        cases e0
        exact (h5 (by have := List.length_pos_iff.2 q; omega)).2

theorem run_cut2_int (A : Option Addr) (n c k : Nat) (hk : k ≤ c) (w : World) :
    (Instr.sliceAt 47 (.slice A n c) none (some (.int .i64 (k : Int))) (some (.int .i64 (k : Int)))).run Try.prog w = .ok (.slice A k k) w ∧ (Instr.slice 47 (.slice A n c) none (some (.int .i64 (k : Int))) (some (.int .i64 (k : Int)))).run Try.prog w = .ok (.slice A k k) w := by
  obtain ⟨i0, z, hi0, hz0, hz1, hz2⟩ := el_int.ex
  have hel : Try.prog.elem 47 = 3 := by kernel_rfl
  have hu : Try.prog.underlying 47 = some (.slice (Try.prog.elem 47)) := by rw [hel]; exact el_int.und
  rw [run_sliceAt_slice (h := hu), and_self, run_slice_hm (ht := hu) (h0 := by omega) (h2 := by omega) (h3 := by omega), hel]
  cases A
  · simp [sizeOf, typeInfo, hi0, sliced]
  · rename_i p
    have e0 : p.add 0 = p := Addr.add_zero' p
    simp [sizeOf, typeInfo, hi0, sliced, e0]
theorem run_cut3_int (A : Option Addr) (n c k : Nat) (hk : k ≤ n) (w : World) :
    (Instr.sliceAt 47 (.slice A n c) (some (.int .i64 (k : Int))) none none).run Try.prog w = .ok (.slice (if c = k then A else A.map (·.add k)) (n - k) (c - k)) w ∧ (Instr.slice 47 (.slice A n c) (some (.int .i64 (k : Int))) none none).run Try.prog w = .ok (.slice (if c = k then A else A.map (·.add k)) (n - k) (c - k)) w := by
  obtain ⟨i0, z, hi0, hz0, hz1, hz2⟩ := el_int.ex
  have hel : Try.prog.elem 47 = 3 := by kernel_rfl
  have hu : Try.prog.underlying 47 = some (.slice (Try.prog.elem 47)) := by rw [hel]; exact el_int.und
  rw [run_sliceAt_slice (h := hu), and_self, run_slice_l (ht := hu) (h0 := by omega) (h1 := by omega), hel]
  simp [sizeOf, typeInfo, hi0, hz1, sliced]
theorem make_int (n : Nat) (hn : n ≤ 1099511627776) (w : World) :
    (Instr.makeSlice 23 (.int .i64 (n : Int)) (.int .i64 (n : Int))).run Try.prog w = .ok (.slice (some ⟨w.heap.size, 0, none⟩) n n) (w.alloc (.cells (List.replicate n (Value.slice none 0 0)).toArray 47)) := by
  have := run_make_row' (P := Try.prog) 23 47 (.slice none 0 0) 24 Try.underlying23 (by kernel_rfl) rfl .i64 .i64 n (by omega) (by omega) w
  rw [made_rows] at this
  exact this
/-- The rows that are laid so far. -/
def Ldint (w : World) (n : Nat) (L : List (List Int)) (G B : Nat) (cs : Array Value) (v1 v i : Value) (wr : World) : Prop :=
  ∃ (x : Nat) (us : List Value), x ≤ n ∧ i = .int .i64 x ∧ Blk wr G 47 us.toArray ∧ us.length = n ∧ Lft w.heap.size B L.flatten.length (off L x) v ∧
    (∀ (j : Nat) (u : Value) (xs : List Int), j < x → us[j]? = some u → L[j]? = some xs → ∃ A, u = .slice A xs.length xs.length ∧ (A = none → xs.length = 0) ∧ (xs ≠ [] → A = some ⟨B, off L j, none⟩)) ∧ (L.flatten ≠ [] → Blk wr B 3 cs) ∧ Up w wr
def LdPostint (L : List (List Int)) (w : World) (e : Ending) (w' : World) : Prop :=
  ∃ G B us, e = .returned (.slice (some ⟨G, 0, none⟩) L.length L.length) ∧ Blk w' G 47 us.toArray ∧ Ct .i64 3 w.heap.size w' us L B ∧ w.heap.size ≤ G ∧ Up w w'
set_option maxHeartbeats 4000000 in
theorem laid_int (v : Value) (L : List (List Int)) (w : World) (hL : Rw .i64 w v L) (hT : L.flatten.length ≤ 1099511627776) (hN : L.length ≤ 1099511627776) : Calls Try.prog 55 #[v] w (LdPostint L w) := by
  have HC := Lib.hid (concat_int v L w hL hT)
  have HL := Lib.hid hL
  have hmk := make_int L.length hN
  obtain ⟨A, c, rfl, hm⟩ := hL.slice
  have HS : Hid (∀ xs ∈ L, xs.length ≤ maxLen) := Lib.hid (fun xs hx => by
    obtain ⟨j, hj, rfl⟩ := List.getElem_of_mem hx
    obtain ⟨p, u, e, hc, hs⟩ := hL.at_ (x := j) hj
    have := hs.max
    simpa [List.getD, List.getElem?_eq_getElem hj] using this)
  generalize hn : L.length = n at *
  have HN := Lib.hid hn
  have HT := Lib.hid hT
  unfold maxLen at hm
  clear hL hn hT
  go_enter Try.func55, Try.ntmps55
  go_wp2_with (fail)
  refine HC.out.mono ?_
  rintro e w1 ⟨u1, rfl, ho, hz, hU1⟩
  obtain ⟨B, cs, hLf, hcs⟩ : ∃ B cs, Lft w.heap.size B L.flatten.length 0 u1 ∧ (L.flatten ≠ [] → Blk w1 B 3 cs ∧ ∀ (i : Nat) (x : Int), L.flatten[i]? = some x → cs[i]? = some (.int .i64 x)) := by
    obtain ⟨hl, hc⟩ := ho
    rcases hc with ⟨rfl, h0⟩ | ⟨g, cap, cur, rfl, hb, hg, q1, q2, q3, q4⟩
    · exact ⟨0, #[], ⟨none, 0, 0, rfl, by omega, Nat.le_refl _, Nat.zero_le _, fun _ => rfl, fun q => absurd q (by omega)⟩, fun q => absurd (List.eq_nil_of_length_eq_zero h0) q⟩
    · refine ⟨g, cur, ⟨_, _, _, rfl, rfl, q1, q2, fun q => (by cases q), fun _ => ⟨rfl, hb⟩⟩, fun _ => ⟨hg, fun i x hi => ?_⟩⟩
      have h5 : (L.flatten.map (Value.int .i64))[i]? = some (.int .i64 x) := by rw [List.getElem?_map, hi]; rfl
      have hlt : i < L.flatten.length := by
        rcases Nat.lt_or_ge i L.flatten.length with q | q
        · exact q
        · rw [List.getElem?_eq_none q] at hi; cases hi
      rw [← q4, List.getElem?_take, if_pos (by omega)] at h5
      simpa using h5
  have HCS : Hid (L.flatten ≠ [] → ∀ (i : Nat) (x : Int), L.flatten[i]? = some x → cs[i]? = some (.int .i64 x)) := Lib.hid (fun q => (hcs q).2)
  have hB1 : L.flatten ≠ [] → Blk (w1.alloc (.cells (List.replicate n (Value.slice none 0 0)).toArray 47)) B 3 cs := fun q => (hcs q).1.alloc _
  have hG := Blk.new w1 47 (List.replicate n (Value.slice none 0 0)).toArray
  have HU2 := Lib.hid (hU1.alloc (.cells (List.replicate n (Value.slice none 0 0)).toArray 47))
  have HG1 := Lib.hid hU1.size
  have HLf := Lib.hid hLf
  have HG := Lib.hid hG
  have HB1 := Lib.hid hB1
  obtain ⟨A1, l1, c1, rfl, -⟩ := hLf
  clear HC ho hz hU1 hcs hB1 hG
  go_wp2_with (fail)
  go_loopw [3, 15] (fun v i wr => Ldint w n L w1.heap.size B cs (.slice A1 l1 c1) v i wr) (fun _ i _ => n - (intOf i).toNat)
  case atStart => exact ⟨0, _, Nat.zero_le _, rfl, HG.out, by simp, HLf.out, fun j u xs q => absurd q (by omega), HB1.out, HU2.out⟩
  case round =>
    obtain ⟨x, us, hx, rfl, hG, hlen, hLf, hrow, hB, hU⟩ := hrel
    by_cases hlt : x < n
    · obtain ⟨p, u, rfl, hcu, hsu⟩ := (HL.out.up hU).at_ hlt
      have hlx : x < L.length := by rw [HN.out]; exact hlt
      have hxu : x < us.length := by omega
      have hstep := off_step hlx
      have hle := off_le L (x + 1)
      have hgx : L[x]? = some (L.getD x []) := by simp [List.getD, List.getElem?_eq_getElem hlx]
      have hT := HT.out
      obtain ⟨A2, len, cap, rfl, hlo, hlc, hcm, hA2, hpos⟩ := hLf
      obtain ⟨Au, cu, rfl, -⟩ := hsu
      have HLf2 : Hid (Lft w.heap.size B L.flatten.length (off L (x + 1)) (.slice (if cap = (L.getD x []).length then A2 else A2.map (·.add (L.getD x []).length)) (len - (L.getD x []).length) (cap - (L.getD x []).length))) := Lib.hid (by
        refine ⟨_, _, _, rfl, by omega, by omega, by omega, fun q => ?_, fun q => ?_⟩
        · split at q
          · have := hA2 q; omega
          · cases A2
            · have := hA2 rfl; omega
            · cases q
        · obtain ⟨e1, e2⟩ := hpos (by omega)
          refine ⟨?_, e2⟩
          rw [if_neg (by omega), e1]
          simp only [Option.map_some, add_off]
          rw [hstep])
      have HROW : Hid (∃ A, Value.slice A2 (L.getD x []).length (L.getD x []).length = .slice A (L.getD x []).length (L.getD x []).length ∧ (A = none → (L.getD x []).length = 0) ∧ (L.getD x [] ≠ [] → A = some ⟨B, off L x, none⟩)) := Lib.hid (by
        refine ⟨A2, rfl, fun q => ?_, fun q => ?_⟩
        · have := hA2 q; omega
        · have := List.length_pos_iff.2 q
          exact (hpos (by omega)).1)
      have hm1 : (L.getD x []).length ≤ len := by omega
      have HGX := Lib.hid hgx
      clear hstep hle hgx hlo hpos hA2 hT
      generalize L.getD x [] = xs at *
      generalize hml : xs.length = m at *
      have HML := Lib.hid hml
      clear hml
      have r1 := fun w => (run_cut2_int A2 len cap m (by omega) w).1
      have r2 := fun w => (run_cut2_int A2 len cap m (by omega) w).2
      have r3 := fun w => (run_cut3_int A2 len cap m hm1 w).1
      have r4 := fun w => (run_cut3_int A2 len cap m hm1 w).2
      have hcG := hG.cell x
      rw [List.getElem?_toArray, List.getElem?_eq_getElem hxu] at hcG
      have hfG := hG.frozen x
      have hlG := hG.lt
      have HG := Lib.hid hG
      have HB := Lib.hid hB
      have HU := Lib.hid hU
      have HR := Lib.hid hrow
      have HLN := Lib.hid hlen
      clear hG hB hU hrow hlen
      generalize (if cap = m then A2 else A2.map (·.add m)) = A3 at *
      generalize us[x] = ux at *
      go_wp2_with (fail)
      go_region
      go_wp2
      have hset : (us.toArray.setIfInBounds x (.slice A2 m m)) = (us.set x (.slice A2 m m)).toArray := by simp
      refine ⟨⟨x + 1, us.set x (.slice A2 m m), by omega, by go_num, ?_, by rw [List.length_set]; exact HLN.out, HLf2.out, fun j u ys hj h1 h2 => ?_, fun q => ?_, ((HU.out.setCell (by exact HG1.out) _).drew)⟩, by simp [intOf]; omega⟩
      · rw [← hset]
        exact (HG.out.set_ x _).drew
      · by_cases hjx : j = x
        · subst hjx
          rw [HGX.out] at h2
          cases h2
          rw [List.getElem?_set_self (by rw [HLN.out]; exact hlt)] at h1
          cases h1
          rw [HML.out]
          exact HROW.out
        · rw [List.getElem?_set_ne (fun q => hjx q.symm)] at h1
          exact HR.out j u ys (by omega) h1 h2
      · exact ((HB.out q).far (p := ⟨w1.heap.size, x, none⟩) ((HB.out q).ne_type HG.out (by decide)) _).drew
    · obtain rfl : n = x := by omega
      have HG := Lib.hid hG
      have HB := Lib.hid hB
      have HU := Lib.hid hU
      have HR := Lib.hid hrow
      have HLN := Lib.hid hlen
      clear hG hB hU hrow hlen hLf
      go_wp2
      go_ret
      refine ⟨w1.heap.size, B, us, by rw [HN.out]; rfl, HG.out, ⟨by rw [HLN.out, HN.out], fun j u xs h1 h2 => HR.out j u xs ?_ h1 h2, fun q => ⟨?_, cs, HB.out q, HCS.out q⟩, HS.out⟩, HG1.out, HU.out⟩
      · rw [← HLN.out]
        rcases Nat.lt_or_ge j us.length with q | q
        · exact q
        · rw [List.getElem?_eq_none q] at h1; cases h1
      · obtain ⟨A0, l0, c0, e0, h1, h2, h3, h4, h5⟩ := HLf.out
        cases e0
        exact (h5 (by have := List.length_pos_iff.2 q; omega)).2
end Go.Proofs.Ytlocllcijncllaa

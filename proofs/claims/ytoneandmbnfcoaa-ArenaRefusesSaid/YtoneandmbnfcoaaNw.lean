/- New memory, and which memory is right: contracts of New and Right (the document's, and package arena's). -/
import Derived.Test.YtoneandmbnfcoaaSm2
namespace Go.Proofs.Ytoneandmbnfcoaa
open Go.ChangeShapes Go.WideShapes Go.ChangeAt Go.RowKit
set_option linter.unusedVariables false
set_option linter.unusedSimpArgs false

def bnd (k : Int) : Int := if k < 16 then 1 else if 4096 < k then 3 else 0
theorem bounds_any (k : Int) (w : World) : Calls Try.prog 35 #[.int .i64 k] w fun e w' => e = .returned (.int .i64 (bnd k)) ∧ w = w' := by
  by_cases h : k < 16
  · rw [show bnd k = 1 from if_pos h]
    go_enter Try.func35, Try.ntmps35
    go_wp2
    go_ret
    exact ⟨rfl, rfl⟩
  by_cases h2 : 4096 < k
  · rw [show bnd k = 3 from (if_neg h).trans (if_pos h2)]
    go_enter Try.func35, Try.ntmps35
    go_wp2
    go_ret
    exact ⟨rfl, rfl⟩
  · rw [show bnd k = 0 from (if_neg h).trans (if_neg h2)]
    go_enter Try.func35, Try.ntmps35
    go_wp2
    go_ret
    exact ⟨rfl, rfl⟩

set_option maxHeartbeats 1000000 in
theorem new_no (k x : Int) (hx : x = 1 ∨ x = 3) (hk : bnd k = x) (w : World) :
    Calls Try.prog 25 #[.int .i64 k] w fun e w' => e = .returned (.tuple #[.agg #[.int .i64 0, .slice none 0 0, .slice none 0 0], .int .i64 x]) ∧ Up w w' := by
  have hb := fun w => bounds_any k w
  rw [hk] at hb
  have hb := Lib.hid hb
  clear hk
  rcases hx with rfl | rfl
  all_goals
    go_enter Try.func25, Try.ntmps25
    go_wp2_with (fail)
    refine (hb.out _).mono ?_
    rintro e w1 ⟨rfl, rfl⟩
    go_wp2
    refine bodyPost_ret (v := .tuple #[.agg #[.int .i64 0, .slice none 0 0, .slice none 0 0], _]) (by simp [results, Try.results25, go_sem]; try rfl) rfl ⟨rfl, ?_⟩
    exact (Up.refl _).alloc _

theorem new_end (n : Nat) (h16 : 16 ≤ n) (hn : n ≤ 4096) (w : World) (fn : Func) (a : Act) (P Q : Addr) (cs : Array Value)
    (hr : (results fn a.tmps).run Try.prog (((w.alloc (.cells cs 25)).alloc (.cells (wds (zers n)).toArray 26)).alloc (.cells (wds (zers n)).toArray 26)).drew = .ok (.tuple #[.agg #[.int .i64 n, .slice (some P) n n, .slice (some Q) n n], .int .i64 0]) (((w.alloc (.cells cs 25)).alloc (.cells (wds (zers n)).toArray 26)).alloc (.cells (wds (zers n)).toArray 26)).drew)
    (hd : a.defers = []) (hPQ : (P = ⟨w.heap.size + 1, 0, none⟩ ∧ Q = ⟨w.heap.size + 1 + 1, 0, none⟩) ∨ (P = ⟨w.heap.size + 1 + 1, 0, none⟩ ∧ Q = ⟨w.heap.size + 1, 0, none⟩)) :
    bodyPost Try.prog fn (Gives1 w ⟨n, zers n, zers n⟩ (.int .i64 0)) .ret a (((w.alloc (.cells cs 25)).alloc (.cells (wds (zers n)).toArray 26)).alloc (.cells (wds (zers n)).toArray 26)).drew := by
  refine bodyPost_ret hr hd ?_
  have hm : n ≤ maxLen := by unfold maxLen; omega
  have R1 := (new_row' (w.alloc (.cells cs 25)) (zers n) 26 (w.heap.size + 1) (by simp)).up (((Up.refl _).alloc (.cells (wds (zers n)).toArray 26)).drew)
  have R2 := new_row ((w.alloc (.cells cs 25)).alloc (.cells (wds (zers n)).toArray 26)) (zers n) 26 (w.heap.size + 1 + 1) (by simp)
  have U := ((((Up.refl w).alloc (.cells cs 25)).alloc (.cells (wds (zers n)).toArray 26)).alloc (.cells (wds (zers n)).toArray 26)).drew
  rcases hPQ with ⟨rfl, rfl⟩ | ⟨rfl, rfl⟩
  · exact ⟨_, _, n, n, rfl, ⟨⟨h16, hn, len_zers n, len_zers n⟩, Nat.le_refl _, hm, Nat.le_refl _, hm, R1, R2⟩, U⟩
  · exact ⟨_, _, n, n, rfl, ⟨⟨h16, hn, len_zers n, len_zers n⟩, Nat.le_refl _, hm, Nat.le_refl _, hm, R2, R1⟩, U⟩

set_option maxHeartbeats 1000000 in
theorem new_ok (n : Nat) (h16 : 16 ≤ n) (hn : n ≤ 4096) (w : World) :
    Calls Try.prog 25 #[.int .i64 n] w (Gives1 w ⟨n, zers n, zers n⟩ (.int .i64 0)) := by
  have hmk := make_is n hn
  have hb := fun w => bounds_any (n : Int) w
  rw [show bnd (n : Int) = 0 from (if_neg (by omega)).trans (if_neg (by omega))] at hb
  have hb := Lib.hid hb
  go_enter Try.func25, Try.ntmps25
  go_wp2_with (fail)
  refine (hb.out _).mono ?_
  rintro e w1 ⟨rfl, rfl⟩
  go_wp2
  go_region
  · go_wp2
    exact new_end n h16 hn w Try.f25 _ ⟨w.heap.size + 1, 0, none⟩ ⟨w.heap.size + 1 + 1, 0, none⟩ _ (by simp [results, Try.results25, go_sem]) rfl (.inl ⟨rfl, rfl⟩)
  · go_wp2
    exact new_end n h16 hn w Try.f25 _ ⟨w.heap.size + 1 + 1, 0, none⟩ ⟨w.heap.size + 1, 0, none⟩ _ (by simp [results, Try.results25, go_sem]) rfl (.inr ⟨rfl, rfl⟩)

set_option maxHeartbeats 1000000 in
theorem rnew_ok (n : Nat) (h16 : 16 ≤ n) (hn : n ≤ 4096) (w : World) :
    Calls Try.prog 26 #[.int .i64 n] w (Gives1 w ⟨n, zers n, zers n⟩ (.int .i64 0)) := by
  have hmk := make_is n hn
  have q1 : decide ((n : Int) < 16) = false := decide_eq_false (by omega)
  have q2 : decide ((4096 : Int) < n) = false := decide_eq_false (by omega)
  go_enter Try.func26, Try.ntmps26
  go_wp2
  go_region
  · go_wp2
    exact new_end n h16 hn w Try.f26 _ ⟨w.heap.size + 1, 0, none⟩ ⟨w.heap.size + 1 + 1, 0, none⟩ _ (by simp [results, Try.results26, go_sem]) rfl (.inl ⟨rfl, rfl⟩)
  · go_wp2
    exact new_end n h16 hn w Try.f26 _ ⟨w.heap.size + 1 + 1, 0, none⟩ ⟨w.heap.size + 1, 0, none⟩ _ (by simp [results, Try.results26, go_sem]) rfl (.inr ⟨rfl, rfl⟩)

set_option maxHeartbeats 1000000 in
theorem rnew_no (k x : Int) (hx : x = 1 ∨ x = 3) (hk : bnd k = x) (w : World) :
    Calls Try.prog 26 #[.int .i64 k] w fun e w' => e = .returned (.tuple #[.agg #[.int .i64 0, .slice none 0 0, .slice none 0 0], .int .i64 x]) ∧ Up w w' := by
  unfold bnd at hk
  by_cases h : k < 16
  · rw [if_pos h] at hk
    subst hk
    clear hx
    go_enter Try.func26, Try.ntmps26
    go_wp2
    exact bodyPost_ret (v := .tuple #[.agg #[.int .i64 0, .slice none 0 0, .slice none 0 0], .int .i64 1]) (by simp [results, Try.results26, go_sem]) rfl ⟨rfl, (Up.refl _).alloc _⟩
  · rw [if_neg h] at hk
    by_cases h2 : 4096 < k
    · rw [if_pos h2] at hk
      subst hk
      clear hx
      go_enter Try.func26, Try.ntmps26
      go_wp2
      exact bodyPost_ret (v := .tuple #[.agg #[.int .i64 0, .slice none 0 0, .slice none 0 0], .int .i64 3]) (by simp [results, Try.results26, go_sem]) rfl ⟨rfl, (Up.refl _).alloc _⟩
    · rw [if_neg h2] at hk
      omega

/-- Is it right? -/
def rt (N : Int) (n0 n1 : Nat) : Bool := decide (16 ≤ N ∧ N ≤ 4096 ∧ (n0 : Int) = N ∧ (n1 : Int) = N)

set_option maxHeartbeats 2000000 in
theorem rright_any (N : Int) (A0 A1 : Option Addr) (n0 n1 c0 c1 : Nat) (w : World) :
    Calls Try.prog 28 #[.agg #[.int .i64 N, .slice A0 n0 c0, .slice A1 n1 c1]] w fun e w' => e = .returned (.bool (rt N n0 n1)) ∧ Up w w' := by
  by_cases h0 : 16 ≤ N
  · by_cases h1 : N ≤ 4096
    · by_cases h2 : (n0 : Int) = N
      · subst h2
        by_cases h3 : (n1 : Int) = n0
        · obtain rfl : n1 = n0 := by omega
          rw [show rt (n1 : Int) n1 n1 = true from decide_eq_true ⟨h0, h1, rfl, rfl⟩]
          clear h3
          go_enter Try.func28, Try.ntmps28
          go_wp2
          go_ret
          exact ⟨rfl, (Up.refl _).alloc _⟩
        · rw [show rt (n0 : Int) n0 n1 = false from decide_eq_false (fun q => h3 q.2.2.2)]
          have hb : (n1 == n0) = false := beq_eq_false_iff_ne.mpr (by omega)
          have hb2 : ((n1 : Int) == (n0 : Int)) = false := beq_eq_false_iff_ne.mpr h3
          clear h3
          go_enter Try.func28, Try.ntmps28
          go_wp2
          go_ret
          exact ⟨rfl, (Up.refl _).alloc _⟩
      · rw [show rt N n0 n1 = false from decide_eq_false (fun q => h2 q.2.2.1)]
        have hb : ((n0 : Int) == N) = false := beq_eq_false_iff_ne.mpr h2
        clear h2
        go_enter Try.func28, Try.ntmps28
        go_wp2
        go_ret
        exact ⟨rfl, (Up.refl _).alloc _⟩
    · rw [show rt N n0 n1 = false from decide_eq_false (fun q => h1 q.2.1)]
      have hb : decide (N ≤ 4096) = false := decide_eq_false h1
      clear h1
      go_enter Try.func28, Try.ntmps28
      go_wp2
      go_ret
      exact ⟨rfl, (Up.refl _).alloc _⟩
  · rw [show rt N n0 n1 = false from decide_eq_false (fun q => h0 q.1)]
    have hb : decide (16 ≤ N) = false := decide_eq_false h0
    clear h0
    go_enter Try.func28, Try.ntmps28
    go_wp2
    go_ret
    exact ⟨rfl, (Up.refl _).alloc _⟩

set_option maxHeartbeats 2000000 in
theorem right_any (N : Int) (A0 A1 : Option Addr) (n0 n1 c0 c1 : Nat) (w : World) :
    Calls Try.prog 27 #[.agg #[.int .i64 N, .slice A0 n0 c0, .slice A1 n1 c1]] w fun e w' => e = .returned (.bool (rt N n0 n1)) ∧ Up w w' := by
  have i0 : ∀ w, (Instr.index 23 (.agg #[.slice A0 n0 c0, .slice A1 n1 c1]) (.int .i64 0)).run Try.prog w = .ok (.slice A0 n0 c0) w := fun _ => by kernel_rfl
  have i1 : ∀ w, (Instr.index 23 (.agg #[.slice A0 n0 c0, .slice A1 n1 c1]) (.int .i64 1)).run Try.prog w = .ok (.slice A1 n1 c1) w := fun _ => by kernel_rfl
  have hbn := Lib.hid (fun w => bounds_any N w)
  by_cases h2 : (n0 : Int) = N
  · subst h2
    by_cases h3 : (n1 : Int) = n0
    · obtain rfl : n1 = n0 := by omega
      clear h3
      by_cases hb : bnd (n1 : Int) = 0
      · have hr : rt (n1 : Int) n1 n1 = true := by
          unfold bnd at hb
          refine decide_eq_true ⟨?_, ?_, rfl, rfl⟩ <;> (split at hb <;> (try split at hb) <;> omega)
        rw [hr]
        rw [hb] at hbn
        clear hb hr
        go_enter Try.func27, Try.ntmps27
        go_wp2
        refine wp_loop_rounds 3 ?_
        rw [rounds_succ]
        go_wp2
        rw [rounds_succ]
        go_wp2
        rw [rounds_succ]
        go_wp2_with (fail)
        refine (hbn.out _).mono ?_
        rintro e w1 ⟨rfl, rfl⟩
        go_wp2
        go_ret
        exact ⟨rfl, (Up.refl _).alloc _⟩
      · have hr : rt (n1 : Int) n1 n1 = false := by
          unfold bnd at hb
          refine decide_eq_false (fun q => hb ?_)
          rw [if_neg (by omega), if_neg (by omega)]
        rw [hr]
        have hbb : (bnd (n1 : Int) == 0) = false := beq_eq_false_iff_ne.mpr hb
        generalize bnd (n1 : Int) = z at hbn hbb
        clear hb hr
        go_enter Try.func27, Try.ntmps27
        go_wp2
        refine wp_loop_rounds 3 ?_
        rw [rounds_succ]
        go_wp2
        rw [rounds_succ]
        go_wp2
        rw [rounds_succ]
        go_wp2_with (fail)
        refine (hbn.out _).mono ?_
        rintro e w1 ⟨rfl, rfl⟩
        go_wp2
        go_ret
        exact ⟨rfl, (Up.refl _).alloc _⟩
    · rw [show rt (n0 : Int) n0 n1 = false from decide_eq_false (fun q => h3 q.2.2.2)]
      have hb : (n1 != n0) = true := bne_iff_ne.mpr (by omega)
      have hb2 : ((n1 : Int) != (n0 : Int)) = true := bne_iff_ne.mpr h3
      clear h3
      go_enter Try.func27, Try.ntmps27
      go_wp2
      refine wp_loop_rounds 3 ?_
      rw [rounds_succ]
      go_wp2
      rw [rounds_succ]
      go_wp2
      go_ret
      exact ⟨rfl, (Up.refl _).alloc _⟩
  · rw [show rt N n0 n1 = false from decide_eq_false (fun q => h2 q.2.2.1)]
    have hb : ((n0 : Int) != N) = true := bne_iff_ne.mpr h2
    clear h2
    go_enter Try.func27, Try.ntmps27
    go_wp2
    refine wp_loop_rounds 3 ?_
    rw [rounds_succ]
    go_wp2
    go_ret
    exact ⟨rfl, (Up.refl _).alloc _⟩

end Go.Proofs.Ytoneandmbnfcoaa

/- All fields that are pointers (head.Pointers: a range over a function): contracts. -/
import Derived.Test.YtmjadmoadedghaaHd5
namespace Go.Proofs.Ytmjadmoadedghaa
open Go.ChangeShapes Go.WideShapes Go.ChangeAt Go.RowKit Go.Shelf
set_option linter.unusedVariables false
set_option linter.unusedSimpArgs false
attribute [local go_sem] Oper.semAt_some

theorem Up.gb {a b : World} (h : Up a b) : a.grownBy b none := ⟨h.os, h.tape, h.output, h.size, fun i hi _ => h.block i hi⟩
theorem Up.bel {a b : World} {n : Nat} (h : Up a b) (hn : n ≤ a.heap.size) : Below n a b := Below.mono h hn

/-- The first fields that are pointers. -/
def fst (l m : Int) (k : Nat) : List Nat := (List.range k).filter fun i => ptb l m i
theorem fst_yes {l m : Int} {k : Nat} (h : ptb l m k = true) : fst l m (k + 1) = fst l m k ++ [k] := by
  simp [fst, List.range_succ, h]
theorem fst_no {l m : Int} {k : Nat} (h : ptb l m k = false) : fst l m (k + 1) = fst l m k := by
  simp [fst, List.range_succ, h]
theorem fst_pre (l m : Int) (k : Nat) : ∀ n, k ≤ n → fst l m k <+: fst l m n := by
  intro n h
  obtain ⟨d, rfl⟩ := Nat.le.dest h
  induction d with
  | zero => exact List.prefix_rfl
  | succ d ih =>
    refine (ih (by omega)).trans ?_
    rw [← Nat.add_assoc]
    cases hb : ptb l m ((k + d : Nat) : Int)
    · rw [fst_no hb]
      exact List.prefix_rfl
    · rw [fst_yes hb]
      exact List.prefix_append _ _

set_option maxRecDepth 100000 in
set_option maxHeartbeats 1000000 in
theorem it_stops (n : Nat) (hn : 1 ≤ n) (Bn : Nat) (t lo m : Int) (hm : 0 ≤ m) (hm1 : m ≤ 65535) (w : World) (Kp : World → World → Prop)
    (hKp : ∀ A B, Kp A B → Blk A Bn 33 #[.int .i64 t, .int .i64 lo, .int .u64 m] → Blk B Bn 33 #[.int .i64 t, .int .i64 lo, .int .u64 m])
    (hc : Blk w Bn 33 #[.int .i64 t, .int .i64 lo, .int .u64 m]) :
    SeqStopsK Fence.wide n Try.prog 81 #[.pointer (some ⟨Bn, 0, none⟩)] (fun x : Nat => #[Value.int .i64 x]) Kp (fun ys => ys = fst lo m (Lib.bitLen m.toNat)) (fun pre => pre <+: fst lo m (Lib.bitLen m.toNat)) (fst lo m (Lib.bitLen m.toNat)).length w := by
  intro l J Jx W hW hJ hJx hY h0
  have hN := len_16 m.toNat (by omega)
  obtain ⟨N, hNe⟩ : ∃ N, Lib.bitLen m.toNat = N := ⟨_, rfl⟩
  have hl := Lib.hid (fun w => len_any m w hm hm1)
  rw [hNe] at hl hY hN ⊢
  clear hNe
  have D := hc.up hW
  have Dc := D.cell
  refine callsIn_of_wp Try.func81 rfl trivial ?_ rfl
  simp only [Try.ntmps81, List.size_toArray, List.length_cons, List.length_nil, Nat.reduceAdd, Nat.reduceSub, Array.replicate_succ, Array.replicate_zero, List.push_toArray, List.append_toArray, List.nil_append, List.cons_append]
  gi_wp2_with (refine ⟨trivial, ?_⟩; gi_at_call 82; refine (callsIn_wide.2 (hl.out _)).mono ?_; rintro e w' ⟨rfl, rfl⟩)
  clear Dc hl
  gi_loopw [7] (fun i wr => ∃ k : Nat, k ≤ N ∧ i = .int .i64 k ∧ J (fst lo m k) wr ∧ Blk wr Bn 33 #[.int .i64 t, .int .i64 lo, .int .u64 m] ) (fun i _ => N - (intOf i).toNat)
  case atStart => exact ⟨0, Nat.zero_le _, rfl, h0, D⟩
  case round =>
    obtain ⟨k, hk, rfl, hJk, Dk⟩ := hrel
    by_cases hlt : k < N
    · have Dc := Dk.cell
      gi_wp2_with (fail)
      refine ⟨trivial, ?_⟩
      refine (callsIn_wide.2 (ptr_any t lo m k hm (by omega) (by omega) _)).mono ?_
      rintro e w1 ⟨rfl, hg⟩
      have hJ1 := hJ _ _ _ none hJk hg.gb (fun r e => by cases e)
      have D1 := Dk.up hg
      clear Dc Dk hJk
      have hb : ∃ b, ptb lo m k = b := ⟨_, rfl⟩
      obtain ⟨b, hb⟩ := hb
      rw [hb]
      cases b
      · have hf := Lib.hid (fst_no hb)
        clear hb
        gi_wp2_with (fail)
        refine ⟨fun _ h => (by cases h), ?_⟩
        gi_wp2
        go_roundw
        case rel => exact ⟨k + 1, by omega, by go_num, by rw [hf.out]; exact hJ1, D1⟩
        case measure => simp [intOf]; omega
      · have hf := Lib.hid (fst_yes hb)
        have hp := fst_pre lo m (k + 1) N (by omega)
        have hlen : (fst lo m k).length < (fst lo m N).length := by
          have := hp.length_le
          rw [hf.out, List.length_append] at this
          simp at this
          omega
        have hp' : Hid (fst lo m k ++ [k] <+: fst lo m N) := Lib.hid (by rw [← hf.out]; exact hp)
        clear hp
        clear hb
        obtain ⟨fn, tmps, assign, body, hy, hR⟩ := hY (fst lo m k) k w1 hJ1 hlen
        clear hlen
        gi_wp2
        refine hR.mono ?_
        rintro e W3 (⟨rfl, hJ3, hk3⟩ | ⟨rfl, hJx3⟩)
        · gi_wp2
          go_roundw
          case rel => exact ⟨k + 1, by omega, by go_num, by rw [hf.out]; exact hJ3, hKp _ _ hk3 D1⟩
          case measure => simp [intOf]; omega
        · gi_wp2
          refine bodyPost_ret (results_none rfl _ _ _) rfl ?_
          exact ⟨⟨_, rfl⟩, .inr ⟨_, hp'.out, hJx3⟩⟩
    · obtain rfl : k = N := by omega
      gi_wp2
      go_end0
      exact ⟨⟨_, rfl⟩, .inl ⟨_, rfl, hJk⟩⟩
end Go.Proofs.Ytmjadmoadedghaa

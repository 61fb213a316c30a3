/- The addresses of all rows (package stack: addresses, a range over a function): contracts. -/
import Derived.Test.YtpbbbgcafphplaaSk6
namespace Go.Proofs.Ytpbbbgcafphplaa
open Go.Joins Go.ChangeShapes Go.WideShapes Go.ChangeAt Go.RowKit Go.Deep Go.Shelf Go.Maps
set_option linter.unusedVariables false
set_option linter.unusedSimpArgs false
attribute [local go_sem] Oper.semAt_some

theorem addresses_any (v : Value) (w : World) (hv : ∃ A n c, v = .slice A n c) :
    Calls Try.prog 28 #[v] w fun e w' => e = .returned (.func (.func 30) #[] #[bx w.heap.size]) ∧ w' = w.alloc (.cells #[v] 24) := by
  obtain ⟨A, n, c, rfl⟩ := hv
  go_enter Try.func28, Try.ntmps28
  go_wp2
  go_ret
  exact ⟨rfl, rfl⟩
theorem flat_step (L : List (List Int)) {x : Nat} (h : x < L.length) : (L.take (x + 1)).flatten = (L.take x).flatten ++ L.getD x [] := by
  rw [take_one [] h, List.flatten_append]
  simp
theorem flat_pre (L : List (List Int)) (x : Nat) : (L.take x).flatten <+: L.flatten := by
  have := List.flatten_append (L₁ := L.take x) (L₂ := L.drop x)
  rw [List.take_append_drop] at this
  exact ⟨_, this.symm⟩
theorem flat_in (L : List (List Int)) {x h : Nat} (hx : x < L.length) : (L.take x).flatten ++ (L.getD x []).take h <+: L.flatten := by
  refine List.IsPrefix.trans ?_ (flat_pre L (x + 1))
  rw [flat_step L hx]
  exact (List.prefix_append_right_inj _).2 (List.take_prefix _ _)

instance decU64 (a : Int) : Decidable (U64 a) := by unfold U64; infer_instance
/-- A word, whatever the number. -/
def clip (a : Int) : Int := if U64 a then a else 0
theorem clip_u64 (a : Int) : U64 (clip a) := by
  unfold clip
  split
  · assumption
  · exact ⟨by decide, by decide⟩
theorem clip_ok {a : Int} (h : U64 a) : clip a = a := if_pos h
theorem clip_all {l : List Int} (h : ∀ x ∈ l, U64 x) : l.map clip = l := by
  rw [List.map_congr_left (fun x hx => clip_ok (h x hx)), List.map_id']
/-- What a round keeps: what lay below, and boxes of rows of rows. -/
def KpR (n₀ : Nat) (A B : World) : Prop := Below n₀ A B ∧ ∀ g cs, Blk A g 24 cs → Blk B g 24 cs
theorem KpR.t {n₀ : Nat} {A B C : World} (h : KpR n₀ A B) (k : KpR n₀ B C) : KpR n₀ A C := ⟨h.1.trans k.1, fun g cs hb => k.2 g cs (h.2 g cs hb)⟩
theorem KpR.b {n₀ : Nat} {w : World} (hn : n₀ ≤ w.heap.size) (W : World) (l : Nat) (o o' : Obj) (hl : w.heap.size ≤ l) (h : W.heap[l]? = some o) (h1 : o.isCells = false) (h2 : o.isWalk = false) : KpR n₀ W (W.putObj l o') :=
  ⟨belowK_b hn W l o o' hl h h1 h2, fun g cs hb => blk_putObj o' hb h h1⟩
theorem KpR.up {n₀ : Nat} {A B : World} (h : Up A B) (hn : n₀ ≤ A.heap.size) : KpR n₀ A B := ⟨h.bel hn, fun g cs hb => hb.up h⟩
/-- The iterator's box. -/
def Cb (w : World) (Bl : Nat) (v : Value) (W : World) : Prop := Blk W Bl 24 #[v] ∧ Up w W
theorem Cb.up {w W W' : World} {Bl : Nat} {v : Value} (h : Cb w Bl v W) (k : Up W W') : Cb w Bl v W' := ⟨h.1.up k, h.2.trans k⟩
theorem Cb.kp {w W W' : World} {Bl : Nat} {v : Value} (h : Cb w Bl v W) (k : KpR w.heap.size W W') : Cb w Bl v W' := ⟨k.2 _ _ h.1, Below.trans h.2 k.1⟩
def ItOut (w : World) (L : List (List Int)) (Bl n : Nat) (v : Value) (J : List Int → World → Prop) (i : Value) (wr : World) : Prop := ∃ x : Nat, x ≤ n ∧ i = .int .i64 x ∧ J (L.take x).flatten wr ∧ Cb w Bl v wr
def ItIn (w : World) (L : List (List Int)) (Bl k x : Nat) (xs : List Int) (v : Value) (J : List Int → World → Prop) (i : Value) (wr : World) : Prop := ∃ h : Nat, h ≤ k ∧ i = .int .i64 h ∧ J ((L.take x).flatten ++ xs.take h) wr ∧ Cb w Bl v wr

set_option maxRecDepth 100000 in
set_option maxHeartbeats 4000000 in
theorem addresses_stops (f : Nat) (hf : 1 ≤ f) (v : Value) (L : List (List Int)) (Bl : Nat) (w W0 : World) (hL : Rw w v L) (hu : ∀ x ∈ L.flatten, U64 x) (hc : Cb w Bl v W0) :
    SeqStopsK Fence.wide f Try.prog 30 #[bx Bl] (fun x : Int => #[Value.int .u64 (clip x)]) (KpR w.heap.size) (fun ys => ys = L.flatten) (fun pre => pre <+: L.flatten) L.flatten.length W0 := by
  intro l J Jx W hW hJ hJx hY h0
  have hC := hc.up hW
  have hm := hL.max
  have HL := Lib.hid hL
  obtain ⟨A, c, rfl, -⟩ := hL
  generalize hn : L.length = n at *
  have HN := Lib.hid hn
  unfold maxLen at hm
  obtain ⟨all, hall⟩ : ∃ all, L.flatten = all := ⟨_, rfl⟩
  have HA := Lib.hid hall
  rw [hall] at hY hu ⊢
  have HU := Lib.hid hu
  clear hall hc hn hu
  have hcB := hC.1.cell
  refine callsIn_of_wp Try.func30 rfl trivial ?_ rfl
  simp only [Try.ntmps30, List.size_toArray, List.length_cons, List.length_nil, Nat.reduceAdd, Nat.reduceSub, Array.replicate_succ, Array.replicate_zero, List.push_toArray, List.append_toArray, List.nil_append, List.cons_append]
  have HC := Lib.hid hC
  clear hC
  gi_wp2_with (fail)
  gi_loopw [9] (fun i wr => ItOut w L Bl n (.slice A n c) J i wr) (fun i _ => n - (intOf i).toNat)
  case atStart => exact ⟨0, Nat.zero_le _, rfl, h0, HC.out⟩
  case round =>
    rename World => wb
    clear HC
    obtain ⟨x, hxn, rfl, hJk, hCk⟩ := hrel
    by_cases hlt : x < n
    · obtain ⟨p, u, rfl, hcu, hsu⟩ := (HL.out.up hCk.2).at_ hlt
      have hlx : x < L.length := by rw [HN.out]; exact hlt
      have FS := Lib.hid (flat_step L hlx)
      have FI := Lib.hid (fun h => flat_in L (h := h) hlx)
      have HSU := Lib.hid ((HL.out).at_ hlt)
      have hsm := hsu.max
      generalize L.getD x [] = xs at hsu FS FI HSU hsm
      have HS0 : Hid (Sl w u xs) := by
        obtain ⟨p', u', e1, e2, e3⟩ := HSU.out
        cases e1
        have e4 := hCk.2.cell e2
        rw [hcu] at e4
        cases e4
        exact Lib.hid e3
      clear HSU
      obtain ⟨Au, cu, rfl, -⟩ := hsu
      generalize hk : xs.length = k at *
      have HK := Lib.hid hk
      unfold maxLen at hsm
      have JK := Lib.hid hJk
      have CK := Lib.hid hCk
      clear hJk hCk hk
      gi_wp2_with (fail)
      gi_loopw [15] (fun i wr => ItIn w L Bl k x xs (.slice (some p) n c) J i wr) (fun i _ => k - (intOf i).toNat)
      case atStart => exact ⟨0, Nat.zero_le _, rfl, by rw [List.take_zero, List.append_nil]; exact JK.out, CK.out⟩
      case round =>
        clear JK CK hcu
        obtain ⟨h, hhk, rfl, hJk, hCk⟩ := hrel
        by_cases hh : h < k
        · obtain ⟨pu, rfl, hca⟩ := (HS0.out.up hCk.2).rd.at_ hh
          have hlh : h < xs.length := by rw [HK.out]; exact hh
          have TX := Lib.hid (take_one 0 hlh)
          have HP := Lib.hid (FI.out (h + 1))
          generalize xs.getD h 0 = a at hca TX
          rw [TX.out, ← List.append_assoc, HA.out] at HP
          have hlen : ((L.take x).flatten ++ xs.take h).length < all.length := by
            have := HP.out.length_le
            rw [List.length_append] at this
            simp only [List.length_cons, List.length_nil] at this
            omega
          have HC3 := Lib.hid hCk
          clear hCk
          have hca2 : clip a = a := clip_ok (HU.out a (HP.out.subset (by simp)))
          obtain ⟨fn, tmps, assign, body, hy, hR⟩ := hY _ a _ hJk hlen
          rw [hca2] at hy
          clear hca2
          clear hlen
          gi_wp2_with (fail)
          refine hR.mono ?_
          rintro e W3 (⟨rfl, hJ3, hk3⟩ | ⟨rfl, hJx3⟩)
          · have HC4 := Lib.hid (HC3.out.kp hk3)
            have HJ3 := Lib.hid hJ3
            clear hJ3 hk3 HC3 hJk
            gi_wp2
            go_roundw
            case rel => exact ⟨h + 1, by omega, by go_num, by rw [TX.out, ← List.append_assoc]; exact HJ3.out, HC4.out⟩
            case measure => simp [intOf]; omega
          · gi_wp2
            refine bodyPost_ret (results_none rfl _ _ _) rfl ?_
            exact ⟨⟨_, rfl⟩, .inr ⟨_, HP.out, hJx3⟩⟩
        · obtain rfl : h = k := by omega
          rw [show xs.take h = xs from List.take_of_length_le (by rw [HK.out]; exact Nat.le_refl _), ← FS.out] at hJk
          have JK := Lib.hid hJk
          have CK := Lib.hid hCk
          clear hJk hCk
          gi_wp2_with (fail)
          go_roundw
          case rel => exact ⟨x + 1, by omega, by go_num, JK.out, CK.out⟩
          case measure => simp [intOf]; omega
    · obtain rfl : x = n := by omega
      rw [List.take_of_length_le (by rw [HN.out]; exact Nat.le_refl _), HA.out] at hJk
      gi_wp2
      go_end0
      exact ⟨⟨_, rfl⟩, .inl ⟨_, rfl, hJk⟩⟩
end Go.Proofs.Ytpbbbgcafphplaa

/- An object's pointers (package walk's pointers: a range over a function): contracts. -/
import Derived.Test.YtmjadmoadedghaaWk4
namespace Go.Proofs.Ytmjadmoadedghaa
open Go.ChangeShapes Go.WideShapes Go.ChangeAt Go.RowKit Go.Shelf
set_option linter.unusedVariables false
set_option linter.unusedSimpArgs false
attribute [local go_sem] Oper.semAt_some

/-- What an object's pointers are, in order. -/
def Me.ptv (m : Me) (a : Int) : List Int := (pts (m.atl a) (m.atm a)).map fun i : Nat => m.getv a i
theorem pts_fok {m : Me} {a : Int} {i : Nat} (h : i ∈ pts (m.atl a) (m.atm a)) : m.fok a i := by
  have hp : ptb (m.atl a) (m.atm a) i = true := (List.mem_filter.1 h).2
  unfold ptb at hp
  rw [Bool.and_eq_true, Bool.and_eq_true] at hp
  obtain ⟨h0, h1, h2⟩ := hp
  have h0 := of_decide_eq_true h0
  have h1 := of_decide_eq_true h1
  have hk : m.atok a := by
    by_cases hk : m.atok a
    · exact hk
    · rw [(at_no hk).2.1] at h1; omega
  have ht : m.att a ≠ 255 := fun ht => by
    obtain ⟨e1, e2, e3⟩ := at_of hk
    have := (rte_small (mpw_nn _) (atok_rte hk)).2.2.2.2.2
    rw [e1] at ht
    have hz : m.atm a = 0 := by rw [e3]; omega
    rw [hz] at h2
    simp at h2
  exact ⟨kne_0.2 ⟨hk, ht⟩, decide_eq_true ⟨h0, h1⟩⟩
theorem atm_65535 (m : Me) (a : Int) : m.atm a ≤ 65535 := by
  by_cases hk : m.atok a
  · rw [(at_of hk).2.2]
    have := (rte_small (mpw_nn _) (atok_rte hk)).2.2.2.2.1
    omega
  · rw [(at_no hk).2.2]; decide
theorem ptv_len (m : Me) (a : Int) : (m.ptv a).length ≤ 16 := by
  unfold Me.ptv
  rw [List.length_map]
  exact pts_len _ _ (atm_nn m a) (atm_65535 m a)
theorem getv_u64 {m : Me} (hwf : m.wf) (a i : Int) : U64 (m.getv a i) := by
  unfold Me.getv
  split
  · exact hwf.ld _
  · exact u64_0
theorem ptv_u64 {m : Me} (hwf : m.wf) (a : Int) : ∀ x ∈ m.ptv a, U64 x := by
  intro x hx
  obtain ⟨i, _, rfl⟩ := List.mem_map.1 hx
  exact getv_u64 hwf a i

theorem pointers_any (n : Nat) (P Q : Addr) (c d : Nat) (a : Int) (w : World) :
    Calls Try.prog 36 #[.agg (mcs n P Q c d), .int .u64 a] w fun e w' => e = .returned (.func (.func 56) #[] #[bx w.heap.size, bx (w.heap.size + 1)])
      ∧ w' = (w.alloc (.cells (mcs n P Q c d) 25)).alloc (.cells #[.int .u64 a] 31) := by
  go_enter Try.func36, Try.ntmps36
  go_wp2
  go_ret
  exact ⟨rfl, rfl⟩

/-- A slice reads as a list of places of fields, in a block that is known whole. -/
def RdI (w : World) (A : Option Addr) (xs : List Nat) : Prop := 0 < xs.length → ∃ g cs, A = some ⟨g, 0, none⟩ ∧ Blk w g 3 cs ∧ ∀ (j x : Nat), xs[j]? = some x → cs[j]? = some (.int .i64 x)
theorem RdI.to {w w' : World} {A : Option Addr} {xs : List Nat} (h : RdI w A xs) (k : ∀ g cs, Blk w g 3 cs → Blk w' g 3 cs) : RdI w' A xs := fun q => by
  obtain ⟨g, cs, e, hb, hx⟩ := h q
  exact ⟨g, cs, e, k _ _ hb, hx⟩
theorem lst_rd {w : World} {n₀ : Nat} {v : Value} {xs : List Nat} (h : w.ownsRow n₀ 3 1 v xs.length (xs.map fun x : Nat => Value.int .i64 x)) : ∃ A cap, v = .slice A xs.length cap ∧ RdI w A xs := by
  obtain ⟨hl, hc⟩ := h
  rcases hc with ⟨rfl, h0⟩ | ⟨g, cap, cur, rfl, hb, hg, h1, h2, h3, h4⟩
  · exact ⟨none, 0, by rw [h0], fun q => by omega⟩
  · refine ⟨_, _, rfl, fun q => ⟨g, cur, rfl, hg, fun j x hx => ?_⟩⟩
    have hj : (xs.map fun x : Nat => Value.int .i64 x)[j]? = some (.int .i64 x) := by simp [hx]
    rw [← h4, List.getElem?_take] at hj
    have hlt : j < xs.length := by
      rcases Nat.lt_or_ge j xs.length with q | q
      · exact q
      · rw [List.getElem?_eq_none q] at hx; cases hx
    rw [if_pos (by omega)] at hj
    simpa using hj
theorem RdI.at_ {w : World} {A : Option Addr} {xs : List Nat} (h : RdI w A xs) {j : Nat} (hj : j < xs.length) : ∃ g, A = some ⟨g, 0, none⟩ ∧ w.cell? ⟨g, j, none⟩ = some (.int .i64 (xs.getD j 0 : Nat)) := by
  obtain ⟨g, cs, e, hb, hx⟩ := h (by omega)
  refine ⟨g, e, ?_⟩
  rw [hb.cell j]
  exact hx j _ (by simp [List.getD, List.getElem?_eq_getElem hj])

theorem range_pre {x n : Nat} (h : x ≤ n) : List.range x <+: List.range n := by
  obtain ⟨d, rfl⟩ := Nat.le.dest h
  rw [List.range_add]
  exact List.prefix_append _ _
theorem range_get (l : List Int) : (List.range l.length).map (fun x => l.getD x 0) = l := by
  apply List.ext_getElem?
  intro i
  simp only [List.getElem?_map]
  rcases Nat.lt_or_ge i l.length with h | h
  · simp [List.getElem?_range h, List.getD, List.getElem?_eq_getElem h]
  · rw [List.getElem?_eq_none (by simpa using h), List.getElem?_eq_none h]; rfl
set_option maxRecDepth 100000 in
set_option maxHeartbeats 4000000 in
theorem pointers_stops (n : Nat) (hn : 1 ≤ n) (m : Me) (a : Int) (P Q : Addr) (c d Bm Ba : Nat) (w : World) (Kp : World → World → Prop) (Cp : World → Prop) (hwf : m.wf) (ha : U64 a)
    (hC1 : ∀ A B, Cp A → Up A B → Cp B) (hC2 : ∀ A B, Cp A → Kp A B → Cp B) (hC3 : ∀ A, Cp A → Box A Bm m P Q c d ∧ Blk A Ba 31 #[.int .u64 a])
    (hK : ∀ A B g cs, Cp A → Kp A B → Blk A g 3 cs → Blk B g 3 cs)
    (hc : Cp w) :
    SeqStopsK Fence.wide n Try.prog 56 #[bx Bm, bx Ba] (fun x : Nat => #[Value.int .u64 ((m.ptv a).getD x 0)]) Kp (fun ys => ys = List.range (m.ptv a).length) (fun pre => pre <+: List.range (m.ptv a).length) (m.ptv a).length w := by
  intro l J Jx W hW hJ hJx hY h0
  have hC := hC1 _ _ hc hW
  have hat := Lib.hid (fun (W : World) (hS : Sits W m P Q c d) => at_any m a P Q c d W hS ha hwf)
  have hpt := Lib.hid (fun w => ptrs_any (m.att a) (m.atl a) (m.atm a) (atm_nn m a) (atm_65535 m a) w)
  have hgt := Lib.hid (fun (i : Nat) (hi : i ∈ pts (m.atl a) (m.atm a)) (W : World) (hS : Sits W m P Q c d) => by
    have h := get_any m a i P Q c d W hS ha hwf
    rw [gete_0.2 (pts_fok hi)] at h
    exact h)
  have hPV : m.ptv a = (pts (m.atl a) (m.atm a)).map fun i : Nat => m.getv a i := rfl
  obtain ⟨ps, hps⟩ : ∃ ps, pts (m.atl a) (m.atm a) = ps := ⟨_, rfl⟩
  obtain ⟨all, hall⟩ : ∃ all, m.ptv a = all := ⟨_, rfl⟩
  have hb16 : ps.length ≤ 16 := by rw [← hps]; exact pts_len _ _ (atm_nn m a) (atm_65535 m a)
  rw [hps] at hgt hPV hpt
  rw [hall] at hY hPV ⊢
  have HPV := Lib.hid hPV
  have hlen : all.length = ps.length := by rw [hPV, List.length_map]
  have HL := Lib.hid hlen
  generalize m.att a = t at hat hpt
  generalize m.atl a = lo at hat hpt
  generalize m.atm a = mp at hat hpt
  generalize m.ate a = z at hat
  clear hPV hps hall hc hlen
  have hcM := (hC3 _ hC).1.1.cell
  have hcA := (hC3 _ hC).2.cell
  refine callsIn_of_wp Try.func56 rfl trivial ?_ rfl
  simp only [Try.ntmps56, List.size_toArray, List.length_cons, List.length_nil, Nat.reduceAdd, Nat.reduceSub, Array.replicate_succ, Array.replicate_zero, List.push_toArray, List.append_toArray, List.nil_append, List.cons_append]
  gi_wp2_with (fail)
  refine ⟨trivial, ?_⟩
  refine (callsIn_wide.2 (hat.out _ (hC3 _ hC).1.2)).mono ?_
  rintro e w1 ⟨rfl, h1⟩
  have U1 := h1.alloc (.cells (hcs t lo mp) 33)
  have H1c := (Blk.new w1 33 (hcs t lo mp)).cell
  clear h1 hcM hcA hat
  gi_wp2_with (fail)
  refine ⟨trivial, ?_⟩
  refine (callsIn_wide.2 (hpt.out _)).mono ?_
  rintro e w2 ⟨v, rfl, hrow, h2⟩
  obtain ⟨A, cap, rfl, hrd⟩ := lst_rd hrow
  have U2 := U1.trans h2
  have C2 := Lib.hid (hC1 _ _ hC U2)
  have J2 := Lib.hid (hJ _ _ _ none h0 U2.gb (fun r e => by cases e))
  have R2 := Lib.hid hrd
  clear U1 H1c hrow h2 hpt hC h0 hrd U2
  gi_wp2_with (fail)
  gi_loopw [20] (fun i wr => ∃ x : Nat, x ≤ ps.length ∧ i = .int .i64 x ∧ J (List.range x) wr ∧ Cp wr ∧ RdI wr A ps) (fun i _ => ps.length - (intOf i).toNat)
  case atStart => exact ⟨0, Nat.zero_le _, rfl, J2.out, C2.out, R2.out⟩
  case round =>
    obtain ⟨x, hx, rfl, hJk, hCk, hRk⟩ := hrel
    clear J2 C2 R2
    by_cases hlt : x < ps.length
    · obtain ⟨g, rfl, hcell⟩ := hRk.at_ hlt
      have hla : x < all.length := by rw [HL.out]; exact hlt
      have hgx := Lib.hid (hgt.out _ (List.getElem_mem hlt))
      have e1 : ps.getD x 0 = ps[x] := by simp [List.getD, List.getElem?_eq_getElem hlt]
      have hv : m.getv a (ps[x] : Nat) = all.getD x 0 := by simp [HPV.out, List.getD, List.getElem?_eq_getElem hlt]
      rw [e1] at hcell
      generalize ps[x] = i at hgx hv hcell
      rw [hv] at hgx
      obtain ⟨b, hbv⟩ : ∃ b, all.getD x 0 = b := ⟨_, rfl⟩
      have HB := Lib.hid hbv
      rw [hbv] at hgx
      clear e1 hv hbv
      have hcM := (hC3 _ hCk).1.1.cell
      have hcA := (hC3 _ hCk).2.cell
      generalize m.getb a (i : Nat) = pb at hgx
      have CK := Lib.hid hCk
      have JK := Lib.hid hJk
      have RK := Lib.hid hRk
      clear hCk hJk hRk
      gi_wp2_with (fail)
      refine ⟨trivial, ?_⟩
      refine (callsIn_wide.2 (hgx.out _ (hC3 _ CK.out).1.2)).mono ?_
      rintro e w3 ⟨rfl, h3⟩
      have C3 := Lib.hid (hC1 _ _ CK.out h3)
      have J3 := hJ _ _ _ none JK.out h3.gb (fun r e => by cases e)
      have R3 := Lib.hid (RK.out.to (fun g cs hb => hb.up h3))
      clear CK JK RK hcM hcA hcell h3 hgx
      obtain ⟨fn, tmps, assign, body, hy, hR⟩ := hY (List.range x) x w3 J3 (by rw [List.length_range]; exact hla)
      rw [HB.out] at hy
      clear J3
      gi_wp2
      refine hR.mono ?_
      rintro e W3 (⟨rfl, hJ3, hk3⟩ | ⟨rfl, hJx3⟩)
      · have C4 := Lib.hid (hC2 _ _ C3.out hk3)
        have R4 := Lib.hid (R3.out.to (fun g cs hb => hK _ _ _ _ C3.out hk3 hb))
        have J4 := Lib.hid hJ3
        clear C3 R3 hJ3 hk3
        gi_wp2
        go_roundw
        case rel => exact ⟨x + 1, by omega, by go_num, by rw [List.range_succ]; exact J4.out, C4.out, R4.out⟩
        case measure => simp [intOf]; omega
      · gi_wp2
        refine bodyPost_ret (results_none rfl _ _ _) rfl ?_
        exact ⟨⟨_, rfl⟩, .inr ⟨_, by rw [← List.range_succ]; exact range_pre (by omega), hJx3⟩⟩
    · obtain rfl : x = ps.length := by omega
      gi_wp2
      go_end0
      exact ⟨⟨_, rfl⟩, .inl ⟨_, by rw [HL.out], hJk⟩⟩
end Go.Proofs.Ytmjadmoadedghaa

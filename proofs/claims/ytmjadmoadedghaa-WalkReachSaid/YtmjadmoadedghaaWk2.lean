/- A space, thing by thing (package walk's things: a range over a function, and a goto): contracts. -/
import Derived.Test.YtmjadmoadedghaaWk1
import Derived.Test.YtmjadmoadedghaaHd7
namespace Go.Proofs.Ytmjadmoadedghaa
open Go.ChangeShapes Go.WideShapes Go.ChangeAt Go.RowKit Go.Shelf
set_option linter.unusedVariables false
set_option linter.unusedSimpArgs false
attribute [local go_sem] Oper.semAt_some

/-- A scope in which the run jumps back to one label, inside the wide fence. -/
theorem wpIn_scope_jumps {n : Nat} {P : Program} {a : Act} {w : World} {Q : Exit → Act → World → Prop} {c rest : Code} (l : Nat) (J : Act → World → Prop) (μ : Act → World → Nat) (hf : findLabel c l = some rest)
    (first : c.wpIn Fence.wide n P (Exit.jump l J Q) a w)
    (pass : ∀ a w, J a w → rest.wpIn Fence.wide n P (Exit.jump l (fun a' w' => J a' w' ∧ μ a' w' < μ a w) Q) a w) : (Code.scope c).wpIn Fence.wide n P Q a w :=
  wpIn_wide.2 (wp_scope_jumps l J μ hf (wpIn_wide.1 first) (fun a w h => wpIn_wide.1 (pass a w h)))
/-- What comes: where it is, what its first word tells; the error. -/
structure Th where
  a : Int
  t : Int
  l : Int
  m : Int
  e : Int
def Th.enc (x : Th) : Array Value := #[.agg #[.int .u64 x.a, .int .i64 x.t, .int .i64 x.l, .int .u64 x.m], .int .i64 x.e]
/-- What comes of a space, from a place on. -/
def Me.seqn (m : Me) (s lim : Int) : Nat → Int → List Th
  | 0, _ => []
  | f + 1, p => if lim ≤ p then [] else
      if m.wne (adr s p) (lim - p) = 0 then ⟨adr s p, m.att (adr s p), m.atl (adr s p), m.atm (adr s p), 0⟩ :: m.seqn s lim f (p + m.wsz (adr s p))
      else [⟨0, 0, 0, 0, m.wne (adr s p) (lim - p)⟩]
theorem seqn_end {m : Me} {s lim p : Int} {f : Nat} (h : lim ≤ p) : m.seqn s lim f p = [] := by
  cases f with
  | zero => rfl
  | succ f => exact if_pos h
theorem seqn_yes {m : Me} {s lim p : Int} {f : Nat} (h : p < lim) (k : m.wne (adr s p) (lim - p) = 0) :
    m.seqn s lim (f + 1) p = ⟨adr s p, m.att (adr s p), m.atl (adr s p), m.atm (adr s p), 0⟩ :: m.seqn s lim f (p + m.wsz (adr s p)) :=
  (if_neg (by omega)).trans (if_pos k)
theorem seqn_no {m : Me} {s lim p : Int} {f : Nat} (h : p < lim) (k : m.wne (adr s p) (lim - p) ≠ 0) : m.seqn s lim (f + 1) p = [⟨0, 0, 0, 0, m.wne (adr s p) (lim - p)⟩] :=
  (if_neg (by omega)).trans (if_neg k)

/-- What the iterator's boxes hold. -/
def Caps (W : World) (Bm Bs Bl : Nat) (m : Me) (s lim : Int) (P Q : Addr) (c d : Nat) : Prop :=
  Box W Bm m P Q c d ∧ Blk W Bs 3 #[.int .i64 s] ∧ Blk W Bl 3 #[.int .i64 lim]
theorem Caps.up {W W' : World} {Bm Bs Bl : Nat} {m : Me} {s lim : Int} {P Q : Addr} {c d : Nat} (h : Caps W Bm Bs Bl m s lim P Q c d) (k : Up W W') : Caps W' Bm Bs Bl m s lim P Q c d :=
  ⟨h.1.up k, h.2.1.up k, h.2.2.up k⟩

def AtNx (m : Me) (s lim : Int) (P Q : Addr) (c d Bm Bs Bl l : Nat) (all : List Th) (J : List Th → World → Prop) (a' : Act) (w' : World) : Prop :=
  ∃ (p : Int) (f : Nat) (pre : List Th) (u6 u7 u8 u9 u10 u11 u12 u13 u14 u15 u16 u17 u18 u19 u20 u21 u22 u23 u24 u25 u26 u27 u28 u29 u30 u31 u32 u33 u34 u35 u36 u37 u38 u39 : Value),
    a' = { tmps := #[.func (.yield l) #[] #[], bx Bl, bx Bs, bx Bm, undef, .int .i64 p, u6, u7, u8, u9, u10, u11, u12, u13, u14, u15, u16, u17, u18, u19, u20, u21, u22, u23, u24, u25, u26, u27, u28, u29, u30, u31, u32, u33, u34, u35, u36, u37, u38, u39], defers := [] }
      ∧ 0 ≤ p ∧ (lim - p).toNat < f ∧ all = pre ++ m.seqn s lim f p ∧ J pre w' ∧ Caps w' Bm Bs Bl m s lim P Q c d

set_option maxRecDepth 100000 in
set_option maxHeartbeats 4000000 in
theorem things_stops (n : Nat) (hn : 1 ≤ n) (m : Me) (s lim : Int) (P Q : Addr) (c d Bm Bs Bl : Nat) (w : World) (Kp : World → World → Prop) (hwf : m.wf) (hs : s = 0 ∨ s = 1) (hl0 : 0 ≤ lim) (hl1 : lim ≤ m.n)
    (hKp : ∀ A B, Kp A B → Caps A Bm Bs Bl m s lim P Q c d → Caps B Bm Bs Bl m s lim P Q c d)
    (hKh : ∀ A B g cs, Kp A B → Blk A g 33 cs → Blk B g 33 cs)
    (hc : Caps w Bm Bs Bl m s lim P Q c d) :
    SeqStopsK Fence.wide n Try.prog 60 #[bx Bl, bx Bs, bx Bm] Th.enc Kp (fun ys => ys = m.seqn s lim (lim.toNat + 1) 0) (fun pre => pre <+: m.seqn s lim (lim.toNat + 1) 0) (m.seqn s lim (lim.toNat + 1) 0).length w := by
  intro l J Jx W hW hJ hJx hY h0
  have hC := hc.up hW
  obtain ⟨all, hall⟩ : ∃ all, m.seqn s lim (lim.toNat + 1) 0 = all := ⟨_, rfl⟩
  have HA := Lib.hid hall
  rw [hall] at hY ⊢
  have hmn := hc.1.2.1.2.1
  clear hall hc
  refine callsIn_of_wp Try.func60 rfl trivial ?_ rfl
  simp only [Try.ntmps60, List.size_toArray, List.length_cons, List.length_nil, Nat.reduceAdd, Nat.reduceSub, Array.replicate_succ, Array.replicate_zero, List.push_toArray, List.append_toArray, List.nil_append, List.cons_append]
  gi_wp2
  refine wpIn_scope_jumps 0 (AtNx m s lim P Q c d Bm Bs Bl l all J) (fun a' _ => (lim - intOf (a'.tmps.getD 5 undef)).toNat) rfl ?_ ?_
  · have hC := hC
    obtain ⟨pre, hpre⟩ : ∃ pre : List Th, pre = [] := ⟨_, rfl⟩
    obtain ⟨p, hp⟩ : ∃ p : Int, p = 0 := ⟨_, rfl⟩
    have hJp := h0
    rw [← hpre] at hJp
    have hd : all = pre ++ m.seqn s lim (lim.toNat + 1) p := by rw [hpre, hp]; exact HA.out.symm
    have hf : (lim - p).toNat < lim.toNat + 1 := by omega
    have hp0 : 0 ≤ p := by omega
    clear hpre
    gi_wp2
    apply wpIn_label
    simp only [Exit.then]
    rename_i K hK
    refine @Eq.subst Int (fun q => K { tmps := #[.func (.yield l) #[] #[], bx Bl, bx Bs, bx Bm, undef, .int .i64 q, undef, undef, undef, undef, undef, undef, undef, undef, undef, undef, undef, undef, undef, undef, undef, undef, undef, undef, undef, undef, undef, undef, undef, undef, undef, undef, undef, undef, undef, undef, undef, undef, undef, undef], defers := [] } W) p 0 hp ?_
    clear hp HA
    obtain ⟨f, hf1⟩ : ∃ f, f = lim.toNat := ⟨_, rfl⟩
    rw [← hf1] at hd hf
    clear hf1
    have hcM := hC.1.1.cell
    have hcS := hC.2.1.cell
    have hcL := hC.2.2.cell
    have HC := Lib.hid hC
    have HJp := Lib.hid hJp
    have HF := Lib.hid hf
    have HD := Lib.hid hd
    clear hC hJp hf hd
    by_cases hlt : p < lim
    · have hadr := Lib.hid (fun w => addr_ok s p hs hp0 (by omega) w)
      have hau := Lib.hid (adr_u64 hs hp0 (show p < 4294967296 by omega))
      have hsub : IntKind.i64.wrap (lim - p) = lim - p := IntWalk.i64_in _ (by omega)
      have hge : decide (lim ≤ p) = false := decide_eq_false (by omega)
      by_cases hk : m.wne (adr s p) (lim - p) = 0
      · have HS := seqn_yes (f := f) hlt hk
        have hwi := Lib.hid (fun (W : World) (hS : Sits W m P Q c d) => within_ok m (adr s p) (lim - p) P Q c d W hS hau.out hwf hk)
        have hk2 := wne_0.1 hk
        have hwd := Lib.hid (fun w => words_any (m.att (adr s p)) (m.atl (adr s p)) (m.atm (adr s p)) (at_rte hk2.1).2 (at_rte hk2.1).1 w)
        have hsm := wsz_small hk2.1
        have hle := hk2.2
        have HW : m.wsz (adr s p) = wdn (m.att (adr s p)) (m.atl (adr s p)) := rfl
        rw [HW] at hsm hle HS
        generalize wdn (m.att (adr s p)) (m.atl (adr s p)) = k at HS HW hwd hsm hle
        generalize m.att (adr s p) = t at HS hwi hwd
        generalize m.atl (adr s p) = lo at HS hwi hwd
        generalize m.atm (adr s p) = mp at HS hwi hwd
        clear hk hk2 hau HW
        generalize adr s p = a at HS hwi hadr
        have HD2 : Hid (all = (pre ++ [⟨a, t, lo, mp, 0⟩]) ++ m.seqn s lim f (p + k)) := Lib.hid (by rw [HD.out, HS, List.append_assoc]; rfl)
        have hln : pre.length < all.length := by rw [HD2.out]; simp
        clear HS HD
        gi_wp2_with (refine ⟨trivial, ?_⟩; gi_at_call 61; ((with_reducible refine (callsIn_wide.2 (hadr.out _)).mono ?_); rintro e w1 ⟨rfl, rfl⟩))
        refine ⟨trivial, ?_⟩
        refine (callsIn_wide.2 (hwi.out _ HC.out.1.2)).mono ?_
        rintro e w1 ⟨rfl, h1⟩
        have C1 := (HC.out.up h1).up ((Up.refl _).alloc (.cells (hcs t lo mp) 33))
        have H1c := (Blk.new w1 33 (hcs t lo mp)).cell
        have H1 := Blk.new w1 33 (hcs t lo mp)
        have U1 := h1.alloc (.cells (hcs t lo mp) 33)
        have J1 := Lib.hid (hJ _ _ _ none HJp.out U1.gb (fun r e => by cases e))
        clear h1 HC HJp hcM hcS hcL hadr hwi
        obtain ⟨fn, tmps, assign, body, hy, hR⟩ := hY pre ⟨a, t, lo, mp, 0⟩ _ J1.out hln
        clear hln
        dsimp only [Th.enc] at hy
        gi_wp2
        refine hR.mono ?_
        rintro e W3 (⟨rfl, hJ3, hk3⟩ | ⟨rfl, hJx3⟩)
        · have C3 := hKp _ _ hk3 C1
          have H3c := (hKh _ _ _ _ hk3 H1).cell
          clear C1 H1c H1 U1 J1 hk3
          gi_wp2_with (fail)
          refine ⟨trivial, ?_⟩
          refine (callsIn_wide.2 (hwd.out _)).mono ?_
          rintro e W4 ⟨rfl, h4⟩
          have C4 := Lib.hid (C3.up h4)
          have J4 := Lib.hid (hJ _ _ _ none hJ3 h4.gb (fun r e => by cases e))
          clear C3 H3c hJ3 h4
          gi_wp2_with (fail)
          apply wpIn_goto
          exact ⟨rfl, p + k, f, _, _, _, _, _, _, _, _, _, _, _, _, _, _, _, _, _, _, _, _, _, _, _, _, _, _, _, _, _, _, _, _, _, _, _, rfl, by omega, by have := HF.out; omega, HD2.out, J4.out, C4.out⟩
        · gi_wp2
          simp only [Exit.jump]
          refine bodyPost_ret (results_none rfl _ _ _) rfl ?_
          exact ⟨⟨_, rfl⟩, .inr ⟨_, by rw [HD2.out]; exact List.prefix_append _ _, hJx3⟩⟩
      · have HS := seqn_no (f := f) hlt hk
        have hwi := Lib.hid (fun (W : World) (hS : Sits W m P Q c d) => within_no m (adr s p) (lim - p) _ P Q c d W hS hau.out hwf rfl hk)
        generalize m.wne (adr s p) (lim - p) = x at HS hwi hk
        generalize adr s p = a at hwi hadr
        have HD2 : Hid (all = pre ++ [⟨0, 0, 0, 0, x⟩]) := Lib.hid (by rw [HD.out, HS])
        have hln : pre.length < all.length := by rw [HD2.out]; simp
        have hxb : (x != 0) = true := bne_iff_ne.mpr hk
        clear HS HD hk hau
        gi_wp2_with (refine ⟨trivial, ?_⟩; gi_at_call 61; ((with_reducible refine (callsIn_wide.2 (hadr.out _)).mono ?_); rintro e w1 ⟨rfl, rfl⟩))
        refine ⟨trivial, ?_⟩
        refine (callsIn_wide.2 (hwi.out _ HC.out.1.2)).mono ?_
        rintro e w1 ⟨rfl, h1⟩
        have U1 := h1.alloc (.cells (hcs 0 0 0) 33)
        have J1 := Lib.hid (hJ _ _ _ none HJp.out U1.gb (fun r e => by cases e))
        clear h1 HC HJp hcM hcS hcL hadr hwi
        obtain ⟨fn, tmps, assign, body, hy, hR⟩ := hY pre ⟨0, 0, 0, 0, x⟩ _ J1.out hln
        clear hln
        dsimp only [Th.enc] at hy
        gi_wp2
        refine hR.mono ?_
        rintro e W3 (⟨rfl, hJ3, hk3⟩ | ⟨rfl, hJx3⟩)
        · gi_wp2
          simp only [Exit.jump]
          refine bodyPost_ret (results_none rfl _ _ _) rfl ?_
          exact ⟨⟨_, rfl⟩, .inl ⟨_, HD2.out.symm, hJ3⟩⟩
        · gi_wp2
          simp only [Exit.jump]
          refine bodyPost_ret (results_none rfl _ _ _) rfl ?_
          exact ⟨⟨_, rfl⟩, .inr ⟨_, by rw [HD2.out]; exact List.prefix_rfl, hJx3⟩⟩
    · have hge : decide (lim ≤ p) = true := decide_eq_true (by omega)
      have HS := Lib.hid (seqn_end (m := m) (s := s) (f := f + 1) (show lim ≤ p by omega))
      gi_wp2
      simp only [Exit.jump]
      refine bodyPost_ret (results_none rfl _ _ _) rfl ?_
      exact ⟨⟨_, rfl⟩, .inl ⟨_, by rw [HD.out, HS.out, List.append_nil], HJp.out⟩⟩
  · rintro a' wr ⟨p, f, pre, u6, u7, u8, u9, u10, u11, u12, u13, u14, u15, u16, u17, u18, u19, u20, u21, u22, u23, u24, u25, u26, u27, u28, u29, u30, u31, u32, u33, u34, u35, u36, u37, u38, u39, rfl, hp0, hf0, hd, hJp, hC⟩
    obtain ⟨f, rfl⟩ : ∃ g, f = g + 1 := ⟨f - 1, by omega⟩
    have hf := hf0
    clear hf0
    have hcM := hC.1.1.cell
    have hcS := hC.2.1.cell
    have hcL := hC.2.2.cell
    have HC := Lib.hid hC
    have HJp := Lib.hid hJp
    have HF := Lib.hid hf
    have HD := Lib.hid hd
    clear hC hJp hf hd
    by_cases hlt : p < lim
    · have hadr := Lib.hid (fun w => addr_ok s p hs hp0 (by omega) w)
      have hau := Lib.hid (adr_u64 hs hp0 (show p < 4294967296 by omega))
      have hsub : IntKind.i64.wrap (lim - p) = lim - p := IntWalk.i64_in _ (by omega)
      have hge : decide (lim ≤ p) = false := decide_eq_false (by omega)
      by_cases hk : m.wne (adr s p) (lim - p) = 0
      · have HS := seqn_yes (f := f) hlt hk
        have hwi := Lib.hid (fun (W : World) (hS : Sits W m P Q c d) => within_ok m (adr s p) (lim - p) P Q c d W hS hau.out hwf hk)
        have hk2 := wne_0.1 hk
        have hwd := Lib.hid (fun w => words_any (m.att (adr s p)) (m.atl (adr s p)) (m.atm (adr s p)) (at_rte hk2.1).2 (at_rte hk2.1).1 w)
        have hsm := wsz_small hk2.1
        have hle := hk2.2
        have HW : m.wsz (adr s p) = wdn (m.att (adr s p)) (m.atl (adr s p)) := rfl
        rw [HW] at hsm hle HS
        generalize wdn (m.att (adr s p)) (m.atl (adr s p)) = k at HS HW hwd hsm hle
        generalize m.att (adr s p) = t at HS hwi hwd
        generalize m.atl (adr s p) = lo at HS hwi hwd
        generalize m.atm (adr s p) = mp at HS hwi hwd
        clear hk hk2 hau HW
        generalize adr s p = a at HS hwi hadr
        have HD2 : Hid (all = (pre ++ [⟨a, t, lo, mp, 0⟩]) ++ m.seqn s lim f (p + k)) := Lib.hid (by rw [HD.out, HS, List.append_assoc]; rfl)
        have hln : pre.length < all.length := by rw [HD2.out]; simp
        clear HS HD
        gi_wp2_with (refine ⟨trivial, ?_⟩; gi_at_call 61; ((with_reducible refine (callsIn_wide.2 (hadr.out _)).mono ?_); rintro e w1 ⟨rfl, rfl⟩))
        refine ⟨trivial, ?_⟩
        refine (callsIn_wide.2 (hwi.out _ HC.out.1.2)).mono ?_
        rintro e w1 ⟨rfl, h1⟩
        have C1 := (HC.out.up h1).up ((Up.refl _).alloc (.cells (hcs t lo mp) 33))
        have H1c := (Blk.new w1 33 (hcs t lo mp)).cell
        have H1 := Blk.new w1 33 (hcs t lo mp)
        have U1 := h1.alloc (.cells (hcs t lo mp) 33)
        have J1 := Lib.hid (hJ _ _ _ none HJp.out U1.gb (fun r e => by cases e))
        clear h1 HC HJp hcM hcS hcL hadr hwi
        obtain ⟨fn, tmps, assign, body, hy, hR⟩ := hY pre ⟨a, t, lo, mp, 0⟩ _ J1.out hln
        clear hln
        dsimp only [Th.enc] at hy
        gi_wp2
        refine hR.mono ?_
        rintro e W3 (⟨rfl, hJ3, hk3⟩ | ⟨rfl, hJx3⟩)
        · have C3 := hKp _ _ hk3 C1
          have H3c := (hKh _ _ _ _ hk3 H1).cell
          clear C1 H1c H1 U1 J1 hk3
          gi_wp2_with (fail)
          refine ⟨trivial, ?_⟩
          refine (callsIn_wide.2 (hwd.out _)).mono ?_
          rintro e W4 ⟨rfl, h4⟩
          have C4 := Lib.hid (C3.up h4)
          have J4 := Lib.hid (hJ _ _ _ none hJ3 h4.gb (fun r e => by cases e))
          clear C3 H3c hJ3 h4
          gi_wp2_with (fail)
          apply wpIn_goto
          exact ⟨rfl, ⟨p + k, f, _, _, _, _, _, _, _, _, _, _, _, _, _, _, _, _, _, _, _, _, _, _, _, _, _, _, _, _, _, _, _, _, _, _, _, rfl, by omega, by have := HF.out; omega, HD2.out, J4.out, C4.out⟩, by simp [intOf]; omega⟩
        · gi_wp2
          simp only [Exit.jump]
          refine bodyPost_ret (results_none rfl _ _ _) rfl ?_
          exact ⟨⟨_, rfl⟩, .inr ⟨_, by rw [HD2.out]; exact List.prefix_append _ _, hJx3⟩⟩
      · have HS := seqn_no (f := f) hlt hk
        have hwi := Lib.hid (fun (W : World) (hS : Sits W m P Q c d) => within_no m (adr s p) (lim - p) _ P Q c d W hS hau.out hwf rfl hk)
        generalize m.wne (adr s p) (lim - p) = x at HS hwi hk
        generalize adr s p = a at hwi hadr
        have HD2 : Hid (all = pre ++ [⟨0, 0, 0, 0, x⟩]) := Lib.hid (by rw [HD.out, HS])
        have hln : pre.length < all.length := by rw [HD2.out]; simp
        have hxb : (x != 0) = true := bne_iff_ne.mpr hk
        clear HS HD hk hau
        gi_wp2_with (refine ⟨trivial, ?_⟩; gi_at_call 61; ((with_reducible refine (callsIn_wide.2 (hadr.out _)).mono ?_); rintro e w1 ⟨rfl, rfl⟩))
        refine ⟨trivial, ?_⟩
        refine (callsIn_wide.2 (hwi.out _ HC.out.1.2)).mono ?_
        rintro e w1 ⟨rfl, h1⟩
        have U1 := h1.alloc (.cells (hcs 0 0 0) 33)
        have J1 := Lib.hid (hJ _ _ _ none HJp.out U1.gb (fun r e => by cases e))
        clear h1 HC HJp hcM hcS hcL hadr hwi
        obtain ⟨fn, tmps, assign, body, hy, hR⟩ := hY pre ⟨0, 0, 0, 0, x⟩ _ J1.out hln
        clear hln
        dsimp only [Th.enc] at hy
        gi_wp2
        refine hR.mono ?_
        rintro e W3 (⟨rfl, hJ3, hk3⟩ | ⟨rfl, hJx3⟩)
        · gi_wp2
          simp only [Exit.jump]
          refine bodyPost_ret (results_none rfl _ _ _) rfl ?_
          exact ⟨⟨_, rfl⟩, .inl ⟨_, HD2.out.symm, hJ3⟩⟩
        · gi_wp2
          simp only [Exit.jump]
          refine bodyPost_ret (results_none rfl _ _ _) rfl ?_
          exact ⟨⟨_, rfl⟩, .inr ⟨_, by rw [HD2.out]; exact List.prefix_rfl, hJx3⟩⟩
    · have hge : decide (lim ≤ p) = true := decide_eq_true (by omega)
      have HS := Lib.hid (seqn_end (m := m) (s := s) (f := f + 1) (show lim ≤ p by omega))
      gi_wp2
      simp only [Exit.jump]
      refine bodyPost_ret (results_none rfl _ _ _) rfl ?_
      exact ⟨⟨_, rfl⟩, .inl ⟨_, by rw [HD.out, HS.out, List.append_nil], HJp.out⟩⟩
end Go.Proofs.Ytmjadmoadedghaa

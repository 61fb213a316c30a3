import Derived.Test.YtanhhkdoejnpiaaGreatMz
import Derived.Test.YtanhhkdoejnpiaaGreatFr
import Derived.Test.YtanhhkdoejnpiaaGreatPb
import Derived.Test.YtanhhkdoejnpiaaGreatMa
/-! The document's To, Each, One. -/
/- The document's To (dovecoteref11.To): contract, where what comes back is told to be old or new memory. -/
namespace Go.Proofs.YtanhhkdoejnpiaaGreat
open Go.ChangeShapes Go.WideShapes Go.ChangeAt Go.RowKit
set_option linter.unusedVariables false
set_option linter.unusedSimpArgs false

def MvRO (w : World) (g : Nat) (m : Me) (M : Nat → Me) (l : Nat) (P Q : Addr) (c d : Nat) (i : Value) (wr : World) : Prop :=
  ∃ x : Nat, x ≤ l ∧ i = .int .i64 x ∧ Blk wr w.heap.size 25 #[.int .i64 m.n, .slice (some P) m.n c, .slice (some Q) m.n d] ∧ Blk wr (w.heap.size + 1) 25 #[.int .i64 0, .slice none 0 0, .slice none 0 0] ∧ Up w wr ∧
    ∃ P' Q' c' d', Blk wr g 25 #[.int .i64 m.n, .slice (some P') m.n c', .slice (some Q') m.n d'] ∧ Sits wr (M x) P' Q' c' d' ∧ NewO w.heap.size P Q P' Q'
set_option maxHeartbeats 4000000 in
theorem omove_at (m : Me) (a b s t : Int) (i j l : Nat) (P Q : Addr) (c d : Nat) (w : World) (hm : Sits w m P Q c d) (ha : U64 a) (hb : U64 b)
    (hla : Leads a s i) (hlb : Leads b t j) (hi : Runs m.n l i) (hj : Runs m.n l j) :
    Calls Tryz.prog 155 #[.agg #[.int .i64 m.n, .slice (some P) m.n c, .slice (some Q) m.n d], .int .u64 a, .int .u64 b, .int .i64 l] w
      (GivesO P Q w (m.mvx t j (((m.sp s).drop i).take l) l) (.int .i64 0)) := by
  have hok := Lib.hid hm.1
  have hn := hm.1.2.1
  have HM := Lib.hid hm
  have hta := fun w => rthere_any m a P Q c d w ha
  have htb := fun w => rthere_any m b P Q c d w hb
  rw [show decide (m.there a) = true from decide_eq_true ⟨hla.is.2.2, by rw [hla.is.2.1]; have := hi.2; omega⟩] at hta
  rw [show decide (m.there b) = true from decide_eq_true ⟨hlb.is.2.2, by rw [hlb.is.2.1]; have := hj.2; omega⟩] at htb
  have hwa := Lib.hid (fun w => rwhere_yes a s i ha hla w)
  have hwb := Lib.hid (fun w => rwhere_yes b t j hb hlb w)
  have hta := Lib.hid hta
  have htb := Lib.hid htb
  have HA := Lib.hid hla
  have HB := Lib.hid hlb
  obtain ⟨hi0, hi1⟩ := hi
  obtain ⟨hj0, hj1⟩ := hj
  have a0 := ha.1
  have b0 := hb.1
  have a1 : a ≤ 12884901888 := by have := hla.2.2.2; have := hla.1; omega
  have b1 : b ≤ 12884901888 := by have := hlb.2.2.2; have := hlb.1; omega
  have hl0 : decide ((l : Int) < 0) = false := decide_eq_false (by omega)
  have hli : decide ((m.n : Int) - (i : Int) < (l : Int)) = false := decide_eq_false (by omega)
  have hlj : decide ((m.n : Int) - (j : Int) < (l : Int)) = false := decide_eq_false (by omega)
  have hln : l ≤ 4096 := by omega
  have hWl : (((m.sp s).drop i).take l).length = l := by rw [List.length_take, List.length_drop, Me.len_sp hm.1]; omega
  obtain ⟨W, hW⟩ : ∃ W, W = ((m.sp s).drop i).take l := ⟨_, rfl⟩
  rw [← hW] at hWl ⊢
  have HL := Lib.hid (fun (x : Nat) (hx : x < l) (wr : World) (hS : Sits wr m P Q c d) => show Calls Tryz.prog 79 #[.agg #[.int .i64 m.n, .slice (some P) m.n c, .slice (some Q) m.n d], .int .u64 (a + x)] wr fun e w' => e = .returned (.tuple #[.int .u64 (W.getD x 0), .int .i64 0]) ∧ Up wr w' from by
    have h := rload_any m (a + x) P Q c d wr hS ⟨by omega, by omega⟩
    obtain ⟨e1, e2⟩ := ld_add hm.1 hla x (by omega)
    rw [e1, e2] at h
    have e3 : W.getD x 0 = (m.sp s).getD (i + x) 0 := by rw [hW]; simp [List.getD, List.getElem?_take, List.getElem?_drop, hx]
    rw [e3]
    exact h)
  have HS := Lib.hid (fun (x : Nat) (hx : x < l) (P' Q' : Addr) (c' d' : Nat) (wr : World) (hS : Sits wr (m.mvx t j W x) P' Q' c' d') => show Calls Tryz.prog 89 #[.agg #[.int .i64 m.n, .slice (some P') m.n c', .slice (some Q') m.n d'], .int .u64 (b + x), .int .u64 (W.getD x 0)] wr fun e w' =>
      ∃ P Q c d, e = .returned (.tuple #[.agg #[.int .i64 m.n, .slice (some P) m.n c, .slice (some Q) m.n d], .int .i64 0]) ∧ Sits w' (m.mvx t j W (x + 1)) P Q c d ∧ Up wr w' ∧ NewO wr.heap.size P' Q' P Q from by
    obtain ⟨q1, q2, q3⟩ := (leads_add hlb hn (x := x) (by omega)).is
    have h := ostore_any (m.mvx t j W x) (b + x) (W.getD x 0) P' Q' c' d' wr hS ⟨by omega, by omega⟩ ⟨q3, by rw [q2, Me.mvx_n]; omega⟩
    rw [Me.mvx_succ hm.1 hlb W x (by omega) (by omega), Me.mvx_n] at h
    refine h.mono fun e w' ⟨P, Q, c, d, he, h1, h2, h3⟩ => ⟨P, Q, c, d, ?_, h1, h2, h3⟩
    rw [he, Me.mvx_n])
  have H0 := Lib.hid (Me.mvx_0 m hlb.1 j W)
  clear hm ha hb hla hlb hW hWl
  go_enter Tryz.func155, Tryz.ntmps155
  go_wp2_with (fail)
  refine (hta.out _).mono ?_
  rintro e w1 ⟨rfl, h1⟩
  have D1 := ((Blk.new w 25 _).alloc _).up h1
  have F1 := (Blk.new _ 25 _).up h1
  simp at F1
  have U1 : Up w w1 := (((Up.refl w).alloc _).alloc _).trans h1
  clear h1
  have D1c := D1.cell
  go_wp2_with (fail)
  refine (htb.out _).mono ?_
  rintro e w2 ⟨rfl, h2⟩
  have D2 := D1.up h2
  have F2 := F1.up h2
  have U2 : Up w w2 := U1.trans h2
  clear D1 F1 D1c U1 h2
  have D2c := D2.cell
  have D2l := D2.lt
  go_wp2_with (fail)
  refine (hwa.out _).mono ?_
  rintro e w3 ⟨rfl, rfl⟩
  go_wp2_with (fail)
  refine (hwb.out _).mono ?_
  rintro e w3 ⟨rfl, rfl⟩
  go_wp2_with (fail)
  have F2l := F2.lt
  go_loopw [19] (fun i wr => MvRO w w2.heap.size m (fun x => m.mvx t j W x) l P Q c d i wr) (fun i _ => l - (intOf i).toNat)
  case atStart => exact ⟨0, Nat.zero_le _, rfl, D2.alloc _, F2.alloc _, U2.alloc _, P, Q, c, d, Blk.new _ _ _, (by show Sits _ (m.mvx t j W 0) _ _ _ _; rw [H0.out]; exact HM.out.up (U2.alloc _)), NewO.refl _ _ _⟩
  case round =>
    clear D2 F2 D2c
    obtain ⟨x, hx, rfl, D, F, U, P', Q', c', d', G, hS, hO⟩ := hrel
    have HO := Lib.hid hO
    clear hO
    by_cases hlt : x < l
    · have Dc := D.cell
      have Gc := G.cell
      have Dl := D.lt
      have Gl := G.lt
      have hx1 : decide ((x : Int) < (l : Int)) = true := decide_eq_true (by omega)
      go_wp2_with (fail)
      refine (HL.out x hlt _ (HM.out.up U)).mono ?_
      rintro e wa ⟨rfl, ha⟩
      have Da := D.up ha
      have Fa := F.up ha
      have Ga := G.up ha
      have Ua := U.trans ha
      have hSa := hS.up ha
      clear D F G Dc Gc Dl Gl hS ha
      have Gac := Ga.cell
      have Gal := Ga.lt
      go_wp2_with (fail)
      refine (HS.out x hlt P' Q' c' d' _ hSa).mono ?_
      rintro e wb ⟨P2, Q2, c2, d2, rfl, hSb, hb, hob⟩
      have HO2 := Lib.hid (HO.out.trans (hob.le Ua.size))
      clear hob
      have Db := Da.up hb
      have Fb := Fa.up hb
      have Gb := Ga.up hb
      have Ub := Ua.trans hb
      clear Da Fa Ga Gac Gal hSa hb
      have Gbc := Gb.cell
      have Gbf := Gb.frozen
      have Gbl := Gb.lt
      go_wp2
      refine ⟨⟨x + 1, by omega, by go_num, (Db.far3 (by omega) _ _ _).alloc _, (Fb.far3 (by omega) _ _ _).alloc _, (Ub.set3 (by omega) _ _ _).alloc _, P2, Q2, c2, d2, (Gb.set3 _ _ _).alloc _, (hSb.far3 Gb _ _ _).up ((Up.refl _).alloc _), HO2.out⟩, by simp [intOf]; omega⟩
    · obtain rfl : l = x := by omega
      have hx1 : decide ((l : Int) < (l : Int)) = false := decide_eq_false (by omega)
      have Gc := G.cell
      have Fc := F.cell
      have Ff := F.frozen
      go_wp2
      refine bodyPost_ret (v := .tuple #[.agg #[.int .i64 m.n, .slice (some P') m.n c', .slice (some Q') m.n d'], .int .i64 0]) (by simp [results, Tryz.results155, go_sem, Fc]) rfl ?_
      exact ⟨P', Q', c', d', by rw [Me.mvx_n], hS.far3 F _ _ _, U.set3 (by omega) _ _ _, HO.out⟩
theorem omove_ok (m : Me) (a b k : Int) (P Q : Addr) (c d : Nat) (w : World) (hm : Sits w m P Q c d) (ha : U64 a) (hb : U64 b) (h : m.mvok a b k) :
    Calls Tryz.prog 155 #[.agg #[.int .i64 m.n, .slice (some P) m.n c, .slice (some Q) m.n d], .int .u64 a, .int .u64 b, .int .i64 k] w (GivesO P Q w (m.mv a b k) (.int .i64 0)) := by
  have k0 : 0 ≤ k := h.1
  rcases leads_or a ha with ⟨s, p, hla⟩ | hn
  · rcases leads_or b hb with ⟨t, q, hlb⟩ | hn
    · obtain ⟨e1, e2, e3⟩ := hla.is
      obtain ⟨f1, f2, f3⟩ := hlb.is
      obtain ⟨i, rfl⟩ : ∃ i : Nat, p = i := ⟨p.toNat, by have := hla.2.1; omega⟩
      obtain ⟨j, rfl⟩ : ∃ j : Nat, q = j := ⟨q.toNat, by have := hlb.2.1; omega⟩
      obtain ⟨l, rfl⟩ : ∃ l : Nat, k = l := ⟨k.toNat, by omega⟩
      rw [show m.mv a b l = _ from if_pos h, e1, e2, f1, f2]
      simp only [Int.toNat_natCast]
      have r := omove_at m a b s t i j l P Q c d w hm ha hb hla hlb (by rw [← e2]; exact h.2.1.2) (by rw [← f2]; exact h.2.2.2)
      have hl : (((m.sp s).drop i).take l).take l = ((m.sp s).drop i).take l := by rw [List.take_take, Nat.min_self]
      unfold Me.mvx at r
      rw [hl] at r
      exact r
    · exact absurd h.2.2.1 (by rw [hn]; decide)
  · exact absurd h.2.1.1 (by rw [hn]; decide)
/-- A room with old or new memory, an address and an error. -/
def RtO (P Q : Addr) (w : World) (m : Me) (s a l x y b er : Int) (e : Ending) (w' : World) : Prop :=
  ∃ (P' Q' : Addr) (c' d' : Nat), e = .returned (.tuple #[rov m.n (sl P' m.n c') (sl Q' m.n d') s a l x y, .int .u64 b, .int .i64 er]) ∧ Sits w' m P' Q' c' d' ∧ Up w w' ∧ NewO w.heap.size P Q P' Q'
set_option maxRecDepth 100000 in
set_option maxHeartbeats 4000000 in
theorem oto_made (m : Me) (s a l x y A : Int) (P Q : Addr) (c d : Nat) (w : World) (hm : Sits w m P Q c d) (hwf : m.wf) (hA : U64 A) (h0 : A ≠ 0) (hcp : Cp m s a l A) :
    Calls Tryz.prog 148 #[rov m.n (sl P m.n c) (sl Q m.n d) s a l x y, .int .u64 A] w (RtO P Q w (m.cpm s a A) s (a + m.wn A) l x y (adr s a) 0) := by
  have hto := Lib.hid (fun (W : World) (U : Up w W) => rtwin_any m A P Q c d W (hm.up U) hA hwf)
  have HM := Lib.hid hm
  have q0 : (A == 0) = false := beq_eq_false_iff_ne.2 h0
  have hk := hcp.kn
  have ho := hcp.ov
  have ht := hcp.tw
  have hv := Lib.hid (fun (W : World) => rover_any m.n s a l x y A (sl P m.n c) (sl Q m.n d) W hA)
  have hv0 := Lib.hid (fun (W : World) => rover_any m.n s a l x y 0 (sl P m.n c) (sl Q m.n d) W u64_0)
  have hat := Lib.hid (fun (W : World) (U : Up w W) => rat_any m A P Q c d W (hm.up U) hA hwf)
  obtain ⟨k1, k2, k3, k4, k5⟩ := kne_wdn hk
  have hwd := Lib.hid (fun (W : World) => rhwords_any (m.att A) (m.atl A) (m.atm A) (atm_nn m A) k2 W)
  rw [k3] at hwd
  rw [hk, ht] at hto
  rw [ho] at hv
  rw [ovb_0] at hv0
  rw [k1] at hat
  have hfit := hcp.fit
  have hpl := hcp.pl
  have htk := Lib.hid (fun (W : World) => brtake_any s a l (m.wn A) W)
  have hmay : may s a l (m.wn A) := ⟨hcp.rg, by omega, by omega⟩
  rw [show tka s a l (m.wn A) = a + m.wn A from if_pos hmay, show tkw s a l (m.wn A) = adr s a from if_pos hmay, show btke s a l (m.wn A) = 0 from if_pos hmay] at htk
  have hmv := Lib.hid (show ∀ (W : World) (U : Up w W), Calls Tryz.prog 155 #[.agg #[.int .i64 m.n, .slice (some P) m.n c, .slice (some Q) m.n d], .int .u64 A, .int .u64 (adr s a), .int .i64 (m.wn A)] W (GivesO P Q W (m.mv A (adr s a) (m.wn A)) (.int .i64 0)) from fun W U => by
    exact omove_ok m A (adr s a) (m.wn A) P Q c d W (hm.up U) hA (adr_u64 hcp.rg.1 hpl.1 (by omega)) hcp.mvok)
  obtain ⟨t1, t2, t3⟩ := hcp.tw2
  obtain ⟨o1, o2, o3, o4, o5⟩ := hcp.off
  have hs1 := Lib.hid (show ∀ (P1 Q1 : Addr) (c1 d1 : Nat) (W : World) (S : Sits W (m.mv A (adr s a) (m.wn A)) P1 Q1 c1 d1), Calls Tryz.prog 89 #[.agg #[.int .i64 (m.mv A (adr s a) (m.wn A)).n, .slice (some P1) (m.mv A (adr s a) (m.wn A)).n c1, .slice (some Q1) (m.mv A (adr s a) (m.wn A)).n d1], .int .u64 (adr s a + 1), .int .u64 0] W (GivesO P1 Q1 W (m.mv A (adr s a) (m.wn A)) (.int .i64 0)) from fun P1 Q1 c1 d1 W S => by
    have q := ostore_any (m.mv A (adr s a) (m.wn A)) (adr s a + 1) 0 P1 Q1 c1 d1 W S ⟨t1, t2⟩ ((there_n hcp.mvn _).2 t3)
    rw [hcp.st0] at q
    exact q)
  have hs2 := Lib.hid (show ∀ (P1 Q1 : Addr) (c1 d1 : Nat) (W : World) (S : Sits W (m.mv A (adr s a) (m.wn A)) P1 Q1 c1 d1), Calls Tryz.prog 89 #[.agg #[.int .i64 (m.mv A (adr s a) (m.wn A)).n, .slice (some P1) (m.mv A (adr s a) (m.wn A)).n c1, .slice (some Q1) (m.mv A (adr s a) (m.wn A)).n d1], .int .u64 (A + 1), .int .u64 (adr s a)] W (GivesO P1 Q1 W (m.cpm s a A) (.int .i64 0)) from fun P1 Q1 c1 d1 W S => by
    have q := ostore_any (m.mv A (adr s a) (m.wn A)) (A + 1) (adr s a) P1 Q1 c1 d1 W S ⟨o4, o5⟩ ((there_n hcp.mvn _).2 o3)
    rw [← hcp.is] at q
    exact q)
  generalize m.mv A (adr s a) (m.wn A) = K at hmv hs1 hs2
  generalize m.cpm s a A = L at hs2 ⊢
  generalize a + m.wn A = a2 at htk ⊢
  generalize adr s a = T at htk hmv hs1 hs2 t1 t2 ⊢
  generalize m.wn A = n at hwd htk hmv k4 k5
  generalize m.att A = t at hat hwd
  generalize m.atl A = k at hat hwd
  generalize m.atm A = mp at hat hwd
  clear hm hwf hA h0 hk ho ht k1 k2 k3 hcp hfit hpl hmay t3 o1 o2 o3
  go_enter Tryz.func148, Tryz.ntmps148
  go_wp2_with (fail)
  refine calls_at (fun V1 hV => ?_)
  have kv : Up w V1 := by rw [hV]; (repeat (first | with_reducible exact Up.refl _ | with_reducible refine Up.alloc ?_ _ | with_reducible refine Up.drew ?_ | refine Up.setCell ?_ (by simp <;> omega) _))
  have Xv : Blk V1 (w.heap.size) 58 #[.int .i64 m.n, .slice (some P) m.n c, .slice (some Q) m.n d, .int .i64 s, .int .i64 a, .int .i64 l, .int .i64 x, .int .i64 y] := by rw [hV]; (repeat (first | with_reducible exact Blk.new' _ (by simp) _ _ | with_reducible refine Blk.alloc ?_ _ | with_reducible refine Blk.drew ?_ | refine Blk.far ?_ (by simp <;> omega) _))
  have Zv : Blk V1 (w.heap.size + 1) 58 #[.int .i64 0, .slice none 0 0, .slice none 0 0, .int .i64 0, .int .i64 0, .int .i64 0, .int .i64 0, .int .i64 0] := by rw [hV]; (repeat (first | with_reducible exact Blk.new' _ (by simp) _ _ | with_reducible refine Blk.alloc ?_ _ | with_reducible refine Blk.drew ?_ | refine Blk.far ?_ (by simp <;> omega) _))
  have Uv : Up w V1 := kv
  clear hV kv 
  refine (hto.out V1 Uv).mono ?_
  rintro e w1 ⟨rfl, k1⟩
  have X1 := Xv.up k1
  have Z1 := Zv.up k1
  have U1 := Uv.trans k1
  clear k1 Uv Xv Zv 
  have X1c := X1.cell
  have X1f := X1.frozen
  have X1l := X1.lt
  have Z1c := Z1.cell
  have Z1f := Z1.frozen
  have Z1l := Z1.lt
  go_wp2_with (fail)
  refine calls_at (fun V2 hV => ?_)
  have kv : Up w1 V2 := by rw [hV]; (repeat (first | with_reducible exact Up.refl _ | with_reducible refine Up.alloc ?_ _ | with_reducible refine Up.drew ?_ | refine Up.setCell ?_ (by simp <;> omega) _))
  have Xv := X1.up kv
  have Zv := Z1.up kv
  have Uv : Up w V2 := U1.trans kv
  clear hV kv X1 X1c X1f X1l Z1 Z1c Z1f Z1l U1
  refine (hv.out V2).mono ?_
  rintro e w2 ⟨rfl, k2⟩
  have X2 := Xv.up k2
  have Z2 := Zv.up k2
  have U2 := Uv.trans k2
  clear k2 Uv Xv Zv 
  have X2c := X2.cell
  have X2f := X2.frozen
  have X2l := X2.lt
  have Z2c := Z2.cell
  have Z2f := Z2.frozen
  have Z2l := Z2.lt
  go_wp2_with (fail)
  refine calls_at (fun V3 hV => ?_)
  have kv : Up w2 V3 := by rw [hV]; (repeat (first | with_reducible exact Up.refl _ | with_reducible refine Up.alloc ?_ _ | with_reducible refine Up.drew ?_ | refine Up.setCell ?_ (by simp <;> omega) _))
  have Xv := X2.up kv
  have Zv := Z2.up kv
  have Uv : Up w V3 := U2.trans kv
  clear hV kv X2 X2c X2f X2l Z2 Z2c Z2f Z2l U2
  refine (hv0.out V3).mono ?_
  rintro e w3 ⟨rfl, k3⟩
  have X3 := Xv.up k3
  have Z3 := Zv.up k3
  have U3 := Uv.trans k3
  clear k3 Uv Xv Zv 
  have X3c := X3.cell
  have X3f := X3.frozen
  have X3l := X3.lt
  have Z3c := Z3.cell
  have Z3f := Z3.frozen
  have Z3l := Z3.lt
  go_wp2_with (fail)
  refine calls_at (fun V4 hV => ?_)
  have kv : Up w3 V4 := by rw [hV]; (repeat (first | with_reducible exact Up.refl _ | with_reducible refine Up.alloc ?_ _ | with_reducible refine Up.drew ?_ | refine Up.setCell ?_ (by simp <;> omega) _))
  have Xv := X3.up kv
  have Zv := Z3.up kv
  have Uv : Up w V4 := U3.trans kv
  clear hV kv X3 X3c X3f X3l Z3 Z3c Z3f Z3l U3
  refine (hat.out V4 Uv).mono ?_
  rintro e w4 ⟨rfl, k4⟩
  have X4 := Xv.up k4
  have Z4 := Zv.up k4
  have U4 := Uv.trans k4
  clear k4 Uv Xv Zv 
  have X4c := X4.cell
  have X4f := X4.frozen
  have X4l := X4.lt
  have Z4c := Z4.cell
  have Z4f := Z4.frozen
  have Z4l := Z4.lt
  go_wp2_with (fail)
  refine calls_at (fun V5 hV => ?_)
  have kv : Up w4 V5 := by rw [hV]; (repeat (first | with_reducible exact Up.refl _ | with_reducible refine Up.alloc ?_ _ | with_reducible refine Up.drew ?_ | refine Up.setCell ?_ (by simp <;> omega) _))
  have Xv := X4.up kv
  have Zv := Z4.up kv
  have Yv : Blk V5 (w4.heap.size) 69 #[.int .i64 t, .int .i64 k, .int .u64 mp] := by rw [hV]; (repeat (first | with_reducible exact Blk.new' _ (by simp) _ _ | with_reducible refine Blk.alloc ?_ _ | with_reducible refine Blk.drew ?_ | refine Blk.far ?_ (by simp <;> omega) _))
  have Uv : Up w V5 := U4.trans kv
  clear hV kv X4 X4c X4f X4l Z4 Z4c Z4f Z4l U4
  refine (hwd.out V5).mono ?_
  rintro e w5 ⟨rfl, k5⟩
  have X5 := Xv.up k5
  have Z5 := Zv.up k5
  have Y5 := Yv.up k5
  have U5 := Uv.trans k5
  clear k5 Uv Xv Zv Yv 
  have X5c := X5.cell
  have X5f := X5.frozen
  have X5l := X5.lt
  have Z5c := Z5.cell
  have Z5f := Z5.frozen
  have Z5l := Z5.lt
  have Y5c := Y5.cell
  have Y5f := Y5.frozen
  have Y5l := Y5.lt
  go_wp2_with (fail)
  refine calls_at (fun V6 hV => ?_)
  have kv : Up w5 V6 := by rw [hV]; (repeat (first | with_reducible exact Up.refl _ | with_reducible refine Up.alloc ?_ _ | with_reducible refine Up.drew ?_ | refine Up.setCell ?_ (by simp <;> omega) _))
  have Xv := X5.up kv
  have Zv := Z5.up kv
  have Yv := Y5.up kv
  have Uv : Up w V6 := U5.trans kv
  clear hV kv X5 X5c X5f X5l Z5 Z5c Z5f Z5l Y5 Y5c Y5f Y5l U5
  refine (htk.out V6).mono ?_
  rintro e w6 ⟨rfl, k6⟩
  have X6 := Xv.up k6
  have Z6 := Zv.up k6
  have Y6 := Yv.up k6
  have U6 := Uv.trans k6
  clear k6 Uv Xv Zv Yv 
  have X6c := X6.cell
  have X6f := X6.frozen
  have X6l := X6.lt
  have Z6c := Z6.cell
  have Z6f := Z6.frozen
  have Z6l := Z6.lt
  have Y6c := Y6.cell
  have Y6f := Y6.frozen
  have Y6l := Y6.lt
  have lz6 := Z6.lt
  go_wp2_with (fail)
  refine calls_at (fun V7 hV => ?_)
  have kv : Up w6 V7 := by rw [hV]; (repeat (first | with_reducible exact Up.refl _ | with_reducible refine Up.alloc ?_ _ | with_reducible refine Up.drew ?_ | refine Up.setCell ?_ (by simp <;> omega) _))
  have Xv := X6.up kv
  have Zv := Z6.up kv
  have Yv := Y6.up kv
  have Jv : Blk V7 (w6.heap.size) 54 #[.int .i64 s, .int .i64 a2, .int .i64 l] := by rw [hV]; (repeat (first | with_reducible exact Blk.new' _ (by simp) _ _ | with_reducible refine Blk.alloc ?_ _ | with_reducible refine Blk.drew ?_ | refine Blk.far ?_ (by simp <;> omega) _))
  have Uv : Up w V7 := U6.trans kv
  clear hV kv X6 X6c X6f X6l Z6 Z6c Z6f Z6l Y6 Y6c Y6f Y6l U6
  refine (hmv.out V7 Uv).mono ?_
  rintro e w7 ⟨P1, Q1, c1, d1, rfl, s17, k7, o7⟩
  have O7 := Lib.hid (o7.le Uv.size)
  clear o7
  have X7 := Xv.up k7
  have Z7 := Zv.up k7
  have Y7 := Yv.up k7
  have J7 := Jv.up k7
  have U7 := Uv.trans k7
  clear k7 Uv Xv Zv Yv Jv 
  have X7c := X7.cell
  have X7f := X7.frozen
  have X7l := X7.lt
  have Z7c := Z7.cell
  have Z7f := Z7.frozen
  have Z7l := Z7.lt
  have Y7c := Y7.cell
  have Y7f := Y7.frozen
  have Y7l := Y7.lt
  have J7c := J7.cell
  have J7f := J7.frozen
  have J7l := J7.lt
  go_wp2_with (fail)
  refine calls_at (fun V hV => ?_)
  have kv : Up w7 V := by rw [hV]; exact (Up.refl _).alloc _
  have M8 : Blk V w7.heap.size 25 #[.int .i64 K.n, .slice (some P1) K.n c1, .slice (some Q1) K.n d1] := by rw [hV]; exact Blk.new _ _ _
  have U8 := U7.trans kv
  have X8 := X7.up kv
  have Z8 := Z7.up kv
  have J8 := J7.up kv
  have s8 := s17.up kv
  have lX := X7.lt
  have lZ := Z7.lt
  have lJ := J7.lt
  have gX : ¬ w.heap.size = w7.heap.size := by omega
  have gZ : ¬ w.heap.size + 1 = w7.heap.size := by omega
  have gJ : ¬ w6.heap.size = w7.heap.size := by omega
  have gX2 : ¬ w7.heap.size = w.heap.size := by omega
  have gZ2 : ¬ w7.heap.size = w.heap.size + 1 := by omega
  have gJ2 : ¬ w7.heap.size = w6.heap.size := by omega
  have lU := U7.size
  generalize w7.heap.size = gM at M8 gX gZ gJ gX2 gZ2 gJ2 lU
  clear hV kv U7 s17 X7 Z7 J7 Y7 X7c X7f X7l Z7c Z7f Z7l J7c J7f J7l Y7c Y7f Y7l lX lZ lJ
  refine (hs1.out P1 Q1 c1 d1 V s8).mono ?_
  rintro e w9 ⟨P2, Q2, c2, d2, rfl, s9, k9, o9⟩
  have O9 := Lib.hid (O7.out.trans (o9.le U8.size))
  clear o9
  have U9 := U8.trans k9
  have X9 := X8.up k9
  have Z9 := Z8.up k9
  have J9 := J8.up k9
  have M9 := M8.up k9
  clear k9 U8 X8 Z8 J8 M8 s8
  have M9c := M9.cell
  have M9f := M9.frozen
  have M9l := M9.lt
  go_wp2_with (fail)
  refine calls_at (fun V2 hV2 => ?_)
  have M10 : Blk V2 gM 25 #[.int .i64 K.n, .slice (some P2) K.n c2, .slice (some Q2) K.n d2] := by rw [hV2]; exact M9.set3 _ _ _
  have U10 : Up w V2 := by rw [hV2]; exact U9.set3 lU _ _ _
  have X10 : Blk V2 w.heap.size 58 #[.int .i64 m.n, .slice (some P) m.n c, .slice (some Q) m.n d, .int .i64 s, .int .i64 a, .int .i64 l, .int .i64 x, .int .i64 y] := by rw [hV2]; exact X9.far3 gX _ _ _
  have Z10 : Blk V2 (w.heap.size + 1) 58 #[.int .i64 0, .slice none 0 0, .slice none 0 0, .int .i64 0, .int .i64 0, .int .i64 0, .int .i64 0, .int .i64 0] := by rw [hV2]; exact Z9.far3 gZ _ _ _
  have J10 : Blk V2 w6.heap.size 54 #[.int .i64 s, .int .i64 a2, .int .i64 l] := by rw [hV2]; exact J9.far3 gJ _ _ _
  have s10 : Sits V2 K P2 Q2 c2 d2 := by rw [hV2]; exact s9.far3 M9 _ _ _
  clear hV2 U9 X9 Z9 J9 M9 s9 M9c M9f M9l
  refine (hs2.out P2 Q2 c2 d2 V2 s10).mono ?_
  rintro e w11 ⟨P3, Q3, c3, d3, rfl, s11, k11, o11⟩
  have O11 := Lib.hid (O9.out.trans (o11.le U10.size))
  clear o11
  have U11 := U10.trans k11
  have X11 := X10.up k11
  have Z11 := Z10.up k11
  have J11 := J10.up k11
  have M11 := M10.up k11
  clear k11 U10 X10 Z10 J10 M10 s10
  have M11c := M11.cell
  have M11f := M11.frozen
  have M11l := M11.lt
  have X11c := X11.cell
  have X11l := X11.lt
  have J11c := J11.cell
  have J11l := J11.lt
  have Z11c := Z11.cell
  have Z11f := Z11.frozen
  have Z11l := Z11.lt
  have gXZ : ¬ w.heap.size = w.heap.size + 1 := by omega
  have gJZ : ¬ w6.heap.size = w.heap.size + 1 := by omega
  go_wp2_with (fail)
  have Z12 := Z11.far3 gZ (.int .i64 L.n) (.slice (some P3) L.n c3) (.slice (some Q3) L.n d3)
  refine bodyPost_ret (ret_room3 rfl _ _ _ L.n s a2 l x y (sl P3 L.n c3) (sl Q3 L.n d3) _ _ rfl (Z12.set8 (.int .i64 L.n) (sl P3 L.n c3) (sl Q3 L.n d3) (.int .i64 s) (.int .i64 a2) (.int .i64 l) (.int .i64 x) (.int .i64 y)) rfl rfl) rfl ?_
  exact ⟨P3, Q3, c3, d3, rfl, (s11.far3 M11 _ _ _).far8 Z12 _ _ _ _ _ _ _ _, (U11.set3 lU _ _ _).set8 (by omega) _ _ _ _ _ _ _ _, O11.out⟩
set_option maxRecDepth 100000 in
set_option maxHeartbeats 4000000 in
theorem oto_twin (m : Me) (s a l x y A : Int) (P Q : Addr) (c d : Nat) (w : World) (hm : Sits w m P Q c d) (hwf : m.wf) (hA : U64 A) (h0 : A ≠ 0) (hk : m.kne A = 0) (ho : ovb s A = false) (ht : m.twv A ≠ 0) (ho2 : ovb s (m.twv A) = true) :
    Calls Tryz.prog 148 #[rov m.n (sl P m.n c) (sl Q m.n d) s a l x y, .int .u64 A] w (RtO P Q w m s a l x y (m.twv A) 0) := by
  have hto := Lib.hid (fun (W : World) (U : Up w W) => rtwin_any m A P Q c d W (hm.up U) hA hwf)
  have HM := Lib.hid hm
  have q0 : (A == 0) = false := beq_eq_false_iff_ne.2 h0
  have q1 : (m.twv A != 0) = true := bne_iff_ne.2 ht
  have hv := Lib.hid (fun (W : World) => rover_any m.n s a l x y A (sl P m.n c) (sl Q m.n d) W hA)
  have hv0 := Lib.hid (fun (W : World) => rover_any m.n s a l x y (m.twv A) (sl P m.n c) (sl Q m.n d) W (twv_u64 hwf A))
  rw [hk] at hto
  rw [ho] at hv
  rw [ho2] at hv0
  generalize m.twv A = tv at *
  clear hm hwf hA h0 hk ho ht ho2
  go_enter Tryz.func148, Tryz.ntmps148
  go_wp2_with (fail)
  refine calls_at (fun V1 hV => ?_)
  have kv : Up w V1 := by rw [hV]; (repeat (first | with_reducible exact Up.refl _ | with_reducible refine Up.alloc ?_ _ | with_reducible refine Up.drew ?_ | refine Up.setCell ?_ (by simp <;> omega) _))
  have Xv : Blk V1 (w.heap.size) 58 #[.int .i64 m.n, .slice (some P) m.n c, .slice (some Q) m.n d, .int .i64 s, .int .i64 a, .int .i64 l, .int .i64 x, .int .i64 y] := by rw [hV]; (repeat (first | with_reducible exact Blk.new' _ (by simp) _ _ | with_reducible refine Blk.alloc ?_ _ | with_reducible refine Blk.drew ?_ | refine Blk.far ?_ (by simp <;> omega) _))
  have Zv : Blk V1 (w.heap.size + 1) 58 #[.int .i64 0, .slice none 0 0, .slice none 0 0, .int .i64 0, .int .i64 0, .int .i64 0, .int .i64 0, .int .i64 0] := by rw [hV]; (repeat (first | with_reducible exact Blk.new' _ (by simp) _ _ | with_reducible refine Blk.alloc ?_ _ | with_reducible refine Blk.drew ?_ | refine Blk.far ?_ (by simp <;> omega) _))
  have Uv : Up w V1 := kv
  clear hV kv 
  refine (hto.out V1 Uv).mono ?_
  rintro e w1 ⟨rfl, k1⟩
  have X1 := Xv.up k1
  have Z1 := Zv.up k1
  have U1 := Uv.trans k1
  clear k1 Uv Xv Zv 
  have X1c := X1.cell
  have X1f := X1.frozen
  have X1l := X1.lt
  have Z1c := Z1.cell
  have Z1f := Z1.frozen
  have Z1l := Z1.lt
  go_wp2_with (fail)
  refine calls_at (fun V2 hV => ?_)
  have kv : Up w1 V2 := by rw [hV]; (repeat (first | with_reducible exact Up.refl _ | with_reducible refine Up.alloc ?_ _ | with_reducible refine Up.drew ?_ | refine Up.setCell ?_ (by simp <;> omega) _))
  have Xv := X1.up kv
  have Zv := Z1.up kv
  have Uv : Up w V2 := U1.trans kv
  clear hV kv X1 X1c X1f X1l Z1 Z1c Z1f Z1l U1
  refine (hv.out V2).mono ?_
  rintro e w2 ⟨rfl, k2⟩
  have X2 := Xv.up k2
  have Z2 := Zv.up k2
  have U2 := Uv.trans k2
  clear k2 Uv Xv Zv 
  have X2c := X2.cell
  have X2f := X2.frozen
  have X2l := X2.lt
  have Z2c := Z2.cell
  have Z2f := Z2.frozen
  have Z2l := Z2.lt
  go_wp2_with (fail)
  refine calls_at (fun V3 hV => ?_)
  have kv : Up w2 V3 := by rw [hV]; (repeat (first | with_reducible exact Up.refl _ | with_reducible refine Up.alloc ?_ _ | with_reducible refine Up.drew ?_ | refine Up.setCell ?_ (by simp <;> omega) _))
  have Xv := X2.up kv
  have Zv := Z2.up kv
  have Uv : Up w V3 := U2.trans kv
  clear hV kv X2 X2c X2f X2l Z2 Z2c Z2f Z2l U2
  refine (hv0.out V3).mono ?_
  rintro e w3 ⟨rfl, k3⟩
  have X3 := Xv.up k3
  have Z3 := Zv.up k3
  have U3 := Uv.trans k3
  clear k3 Uv Xv Zv 
  have X3c := X3.cell
  have X3f := X3.frozen
  have X3l := X3.lt
  have Z3c := Z3.cell
  have Z3f := Z3.frozen
  have Z3l := Z3.lt
  go_wp2_with (fail)
  refine bodyPost_ret (ret_room3 rfl _ _ _ m.n s a l x y (sl P m.n c) (sl Q m.n d) _ _ rfl (Z3.set8 (.int .i64 m.n) (sl P m.n c) (sl Q m.n d) (.int .i64 s) (.int .i64 a) (.int .i64 l) (.int .i64 x) (.int .i64 y)) rfl rfl) rfl ?_
  exact ⟨P, Q, c, d, rfl, (HM.out.up U3).far8 Z3 _ _ _ _ _ _ _ _, U3.set8 (by omega) _ _ _ _ _ _ _ _, NewO.refl _ _ _⟩
set_option maxRecDepth 100000 in
set_option maxHeartbeats 4000000 in
theorem oto_zero (m : Me) (s a l x y : Int) (P Q : Addr) (c d : Nat) (w : World) (hm : Sits w m P Q c d) :
    Calls Tryz.prog 148 #[rov m.n (sl P m.n c) (sl Q m.n d) s a l x y, .int .u64 0] w (RtO P Q w m s a l x y 0 0) := by
  have HM := Lib.hid hm
  clear hm
  go_enter Tryz.func148, Tryz.ntmps148
  go_wp2_with (fail)
  refine bodyPost_ret (ret_room3 rfl _ _ _ m.n s a l x y (sl P m.n c) (sl Q m.n d) _ _ rfl (Blk.new' _ (by simp) _ _) rfl rfl) rfl ?_
  exact ⟨P, Q, c, d, rfl, HM.out.up (((Up.refl w).alloc _).alloc _), ((Up.refl w).alloc _).alloc _, NewO.refl _ _ _⟩
theorem oto_any (m : Me) (s a l x y A : Int) (P Q : Addr) (c d : Nat) (w : World) (hm : Sits w m P Q c d) (hwf : m.wf) (hA : U64 A) (hr : rgt s a l) (hl : l = m.n) (he : (toa m s a l A).e = 0) (ho : ovb s A = false) :
    Calls Tryz.prog 148 #[rov m.n (sl P m.n c) (sl Q m.n d) s a l x y, .int .u64 A] w (RtO P Q w (toa m s a l A).m s (toa m s a l A).a l x y (toa m s a l A).b 0) := by
  rcases toa_cases (A := A) hm.1 hwf hr hl with k | k | k | k | k
  · rw [k.2]
    have h := oto_zero m s a l x y P Q c d w hm
    rw [← k.1] at h
    rw [k.1] at h ⊢
    exact h
  · rw [k.2.1] at ho; cases ho
  · exact absurd he k.2.1
  · rw [k.2.2.2.2.2]
    exact oto_twin m s a l x y A P Q c d w hm hwf hA k.1 k.2.2.1 k.2.1 k.2.2.2.1 k.2.2.2.2.1
  · rw [k.2.2]
    exact oto_made m s a l x y A P Q c d w hm hwf hA k.1 k.2.1
end Go.Proofs.YtanhhkdoejnpiaaGreat
/- The document's Each (dovecoteref11.Each): contract. -/
namespace Go.Proofs.YtanhhkdoejnpiaaGreat.G
open Go.Joins Go.ChangeShapes Go.WideShapes Go.ChangeAt Go.RowKit Go.Deep Go.Shelf Go.Maps
set_option linter.unusedVariables false
set_option linter.unusedSimpArgs false
set_option linter.unnecessarySimpa false

abbrev rc8 (n : Nat) (P : Addr) (c : Nat) (Q : Addr) (d : Nat) (s a l x y : Int) : Array Value := #[.int .i64 n, .slice (some P) n c, .slice (some Q) n d, .int .i64 s, .int .i64 a, .int .i64 l, .int .i64 x, .int .i64 y]
abbrev rz8 : Array Value := #[.int .i64 0, .slice none 0 0, .slice none 0 0, .int .i64 0, .int .i64 0, .int .i64 0, .int .i64 0, .int .i64 0]
theorem blk_far8 {w : World} {b g : Nat} {t : TypeId} {cs : Array Value} (h : Blk w b t cs) (hg : b ≠ g) (u0 u1 u2 u3 u4 u5 u6 u7 : Value) : Blk ((((((((w.setCell ⟨g, 0, none⟩ u0).setCell ⟨g, 1, none⟩ u1).setCell ⟨g, 2, none⟩ u2).setCell ⟨g, 3, none⟩ u3).setCell ⟨g, 4, none⟩ u4).setCell ⟨g, 5, none⟩ u5).setCell ⟨g, 6, none⟩ u6).setCell ⟨g, 7, none⟩ u7) b t cs :=
  (((((((h.far (p := ⟨g, 0, none⟩) hg _).far (p := ⟨g, 1, none⟩) hg _).far (p := ⟨g, 2, none⟩) hg _).far (p := ⟨g, 3, none⟩) hg _).far (p := ⟨g, 4, none⟩) hg _).far (p := ⟨g, 5, none⟩) hg _).far (p := ⟨g, 6, none⟩) hg _).far (p := ⟨g, 7, none⟩) hg _
theorem own_far8 {w : World} {n₀ : Nat} {e : TypeId} {size n b : Nat} {v : Value} {xs : List Value} (h : w.ownsRow n₀ e size v n xs) (hb : v.ownBlock ≠ some b) (u0 u1 u2 u3 u4 u5 u6 u7 : Value) : ((((((((w.setCell ⟨b, 0, none⟩ u0).setCell ⟨b, 1, none⟩ u1).setCell ⟨b, 2, none⟩ u2).setCell ⟨b, 3, none⟩ u3).setCell ⟨b, 4, none⟩ u4).setCell ⟨b, 5, none⟩ u5).setCell ⟨b, 6, none⟩ u6).setCell ⟨b, 7, none⟩ u7).ownsRow n₀ e size v n xs :=
  (((((((ownsRow_setCell_other h hb u0) |> fun h => ownsRow_setCell_other h hb u1) |> fun h => ownsRow_setCell_other h hb u2) |> fun h => ownsRow_setCell_other h hb u3) |> fun h => ownsRow_setCell_other h hb u4) |> fun h => ownsRow_setCell_other h hb u5) |> fun h => ownsRow_setCell_other h hb u6) |> fun h => ownsRow_setCell_other h hb u7
/-- An append of one word onto a row of the call's own, and where it goes. -/
theorem app_o {w : World} {n₀ n : Nat} {v : Value} {xs : List Value} {a : Int} (h : w.ownsRow n₀ 67 1 v n xs) (hn : n ≤ 1048576) (hb : n₀ ≤ w.heap.size) :
    ∃ g cap w', (Builtin.append_ #[22, 22] 22 #[v, .slice (some ⟨w.heap.size, 0, none⟩) 1 1]).run Tryz.prog (w.alloc (.cells #[.int .u64 a] 67)) = .ok (.slice (some ⟨g, 0, none⟩) (n + 1) cap) w' ∧ w'.ownsRow n₀ 67 1 (.slice (some ⟨g, 0, none⟩) (n + 1) cap) (n + 1) (xs ++ [.int .u64 a]) ∧ (w.alloc (.cells #[.int .u64 a] 67)).grownBy w' v.ownBlock ∧ (v.ownBlock = some g ∨ g = w.heap.size + 1) := by
  have h1 := own_up h ((Up.refl w).alloc (.cells #[.int .u64 a] 67))
  obtain ⟨⟨i0, z, hi, hz0, hz1, hz2, hz3⟩, hu, hp, hs⟩ := el_u64
  obtain ⟨g, cap, w', r1, r2, r3, r4, _⟩ := run_append_lies (P := Tryz.prog) (w.alloc (.cells #[.int .u64 a] 67)) 22 22 n₀ 67 i0 z 1 8 hu hi hz0 hz1 hz2 hz3 (by decide) v n xs h1 ⟨w.heap.size, 0, none⟩ 1 1 [.int .u64 a] rfl (fun j u hj => by
    have := (Blk.new w 67 #[.int .u64 a]).cell j
    cases j with
    | zero => simp at hj; subst hj; simpa [Addr.add] using this
    | succ j => simp at hj) (fun u hu => by rw [List.mem_singleton] at hu; subst hu; rfl) (by omega) (by unfold maxLen; omega) (by omega) (Nat.le_trans hb ((Up.refl w).alloc _).size) (w.heap.size + 1) (by simp)
  exact ⟨g, cap, w', r1, r2, r3, r4⟩
/-- No row of memory is the row that is made. -/
def Apart (u : Value) (P Q : Addr) : Prop := ∀ g, u.ownBlock = some g → P.block ≠ g ∧ Q.block ≠ g
theorem apart_new {u : Value} {P Q P' Q' : Addr} {w : World} {n₀ n : Nat} {e : TypeId} {size : Nat} {xs : List Value} (h : Apart u P Q) (o : NewO w.heap.size P Q P' Q') (hu : w.ownsRow n₀ e size u n xs) : Apart u P' Q' := fun g e => by
  have h1 := h g e
  have h2 := (World.ownsRow.lt hu g e).2
  constructor
  · rcases o.1 with rfl | q
    · exact h1.1
    · omega
  · rcases o.2 with rfl | q
    · exact h1.2
    · omega
theorem apart_app {u : Value} {P Q : Addr} {w : World} {m : Me} {c d g n cap : Nat} (h : Apart u P Q) (hs : Sits w m P Q c d) (ho : u.ownBlock = some g ∨ g = w.heap.size + 1) : Apart (.slice (some ⟨g, 0, none⟩) n cap) P Q := fun g' e => by
  have h1 := hs.2.2.2.2.2.1.1
  have h2 := hs.2.2.2.2.2.2.1
  have e' : g = g' := by simpa [Value.ownBlock] using e
  subst e'
  rcases ho with q | q
  · exact h g q
  · constructor <;> omega
def EaR (n : Nat) (s l x y : Int) (M : Me) (E : Int) (TS L : List Int) (w : World) (u i : Value) (wr : World) : Prop :=
  ∃ (z : Nat) (m : Me) (a : Int) (ts : List Int) (P Q : Addr) (c d : Nat), z ≤ L.length ∧ i = .int .i64 z ∧ ts.length = z ∧ m.n = n ∧ m.wf ∧ rgt s a l ∧
    (eac s l (L.drop z) m a).e = 0 ∧ (eac s l (L.drop z) m a).m = M ∧ (eac s l (L.drop z) m a).a = E ∧ ts ++ (eac s l (L.drop z) m a).ts = TS ∧
    Blk wr w.heap.size 58 (rc8 n P c Q d s a l x y) ∧ Blk wr (w.heap.size + 1) 58 rz8 ∧ Sits wr m P Q c d ∧ wr.ownsRow w.heap.size 67 1 u z (ts.map (Value.int .u64)) ∧ Apart u P Q ∧ Up w wr
/-- What To leaves, memory old or new as of a world of size h. -/
def EaTo (h : Nat) (P Q : Addr) (n : Nat) (s l x y : Int) (m : Me) (a b : Int) (V : World) (e : Ending) (w' : World) : Prop :=
  ∃ (P' Q' : Addr) (c' d' : Nat), e = .returned (.tuple #[YtanhhkdoejnpiaaGreat.rov n (sl P' n c') (sl Q' n d') s a l x y, .int .u64 b, .int .i64 0]) ∧ Sits w' m P' Q' c' d' ∧ Up V w' ∧ NewO h P Q P' Q'
/-- A room, a row of words and no error. -/
def EaPst (m : Me) (s a l x y : Int) (ts : List Int) (w : World) (e : Ending) (w' : World) : Prop :=
  ∃ (P Q : Addr) (c d : Nat) (A : Option Addr) (k : Nat), e = .returned (.tuple #[YtanhhkdoejnpiaaGreat.rov m.n (sl P m.n c) (sl Q m.n d) s a l x y, .slice A ts.length k, .int .i64 0]) ∧ Sits w' m P Q c d ∧ Sl .u64 w' (.slice A ts.length k) ts ∧ Up w w'
set_option maxRecDepth 100000 in
set_option maxHeartbeats 8000000 in
theorem reach_any11 (m0 : Me) (n : Nat) (s a l x y : Int) (P Q : Addr) (c d : Nat) (v : Value) (L : List Int) (w : World) (hm : Sits w m0 P Q c d) (hn : m0.n = n) (hwf : m0.wf) (hr : rgt s a l) (hl : l = n) (hL : Sl .u64 w v L) (hu : ∀ A ∈ L, U64 A) (hk : L.length ≤ 1048576) (he : (eac s l L m0 a).e = 0) (ho : ∀ A ∈ L, ovb s A = false) :
    Calls Tryz.prog 134 #[YtanhhkdoejnpiaaGreat.rov n (sl P n c) (sl Q n d) s a l x y, v] w (EaPst (eac s l L m0 a).m s (eac s l L m0 a).a l x y (eac s l L m0 a).ts w) := by
  have hn' : (eac s l L m0 a).m.n = n := by rw [(eac_la L m0 a hm.1 hwf hr (by rw [hn]; exact hl)).n, hn]
  obtain ⟨M, hM⟩ : ∃ M, (eac s l L m0 a).m = M := ⟨_, rfl⟩
  obtain ⟨E, hE⟩ : ∃ E, (eac s l L m0 a).a = E := ⟨_, rfl⟩
  obtain ⟨TS, hT⟩ : ∃ TS, (eac s l L m0 a).ts = TS := ⟨_, rfl⟩
  rw [hM] at hn'
  rw [hM, hE, hT]
  have hTl : TS.length = L.length := by rw [← hT]; exact eac_len L m0 a he
  obtain ⟨A, cu, rfl⟩ := hL.slice
  have HRD := Lib.hid (fun V (k : Up w V) => hL.up k)
  have HUX := Lib.hid hu
  have HOX := Lib.hid ho
  have HLN := Lib.hid hl
  have HNM := Lib.hid hn'
  have HTL := Lib.hid hTl
  have hst : EaR n s l x y M E TS L w (.slice none 0 0) (.int .i64 ((0 : Nat) : Int)) ((w.alloc (.cells (rc8 n P c Q d s a l x y) 58)).alloc (.cells rz8 58)) := by
    have k : Up w ((w.alloc (.cells (rc8 n P c Q d s a l x y) 58)).alloc (.cells rz8 58)) := ((Up.refl w).alloc _).alloc _
    exact ⟨0, m0, a, [], P, Q, c, d, Nat.zero_le _, rfl, rfl, hn, hwf, hr, he, hM, hE, hT, (Blk.new w _ _).alloc _, Blk.new' _ (by simp) _ _, hm.up k, World.ownsRow_nil _ _ _ _, fun g e => (by cases e), k⟩
  have HST := Lib.hid hst
  clear hst hm hn hwf hr hl hL hu he ho hM hE hT hn' hTl
  obtain ⟨pn, hpn⟩ : ∃ pn, L.length = pn := ⟨_, rfl⟩
  rw [hpn] at HRD hk HTL ⊢
  have HPN := Lib.hid hpn
  clear hpn
  go_enter Tryz.func134, Tryz.ntmps134
  go_wp2_with (fail)
  go_loopw [7, 8] (fun u i wr => EaR n s l x y M E TS L w u i wr) (fun _ i _ => pn - (intOf i).toNat)
  case atStart => exact HST.out
  case round =>
    rename World => wr
    obtain ⟨z, m, a5, ts, P, Q, c, d, hz, rfl, htl, hn, hwf, hr, he, hM, hE, hT, bX, bZ, hs, hu, hap, U⟩ := hrel
    rw [HPN.out] at hz
    obtain ⟨Au, cau, rfl⟩ := own_slice hu
    by_cases hlz : z < pn
    · have hzl : z < L.length := by rw [HPN.out]; exact hlz
      have hdr : L.drop z = L.getD z 0 :: L.drop (z + 1) := by
        rw [show L.getD z 0 = L[z] from by simp [List.getD, List.getElem?_eq_getElem hzl], List.getElem_cons_drop]
      obtain ⟨p, e1, hcl⟩ := (HRD.out wr U).at_ hlz
      subst e1
      have hux := HUX.out _ (getD_mem 0 hzl)
      have hox := HOX.out _ (getD_mem 0 hzl)
      rw [hdr] at he hM hE hT
      unfold eac at he hM hE hT
      generalize L.getD z 0 = B at *
      have h1 : (toa m s a5 l B).e = 0 := by
        refine Classical.byContradiction fun q => ?_
        rw [if_neg q] at he
        exact q he
      rw [if_pos h1] at he hM hE hT
      have hla := toa_la (A := B) hs.1 hwf hr (by rw [hn]; exact HLN.out)
      have hrg := (hla.rg hr (by rw [hn]; exact HLN.out)).1
      have HTO := Lib.hid (fun V (k : Up wr V) => show Calls Tryz.prog 148 #[YtanhhkdoejnpiaaGreat.rov n (sl P n c) (sl Q n d) s a5 l x y, .int .u64 B] V (EaTo wr.heap.size P Q n s l x y (toa m s a5 l B).m (toa m s a5 l B).a (toa m s a5 l B).b V) from by
        have h := oto_any m s a5 l x y B P Q c d V (hs.up k) hwf hux hr (by rw [hn]; exact HLN.out) h1 hox
        unfold RtO at h
        rw [show (toa m s a5 l B).m.n = n from by rw [hla.n, hn], hn] at h
        exact h.mono (fun e w' ⟨P', Q', c', d', e1, s1, u1, o1⟩ => ⟨P', Q', c', d', e1, s1, u1, o1.le k.size⟩))
      have HWF := Lib.hid hla.wf
      have HRG := Lib.hid hrg
      have HN5 : Hid ((toa m s a5 l B).m.n = n) := Lib.hid (by rw [hla.n, hn])
      obtain ⟨mm, hmm⟩ : ∃ mm, (toa m s a5 l B).m = mm := ⟨_, rfl⟩
      obtain ⟨aa, haa⟩ : ∃ aa, (toa m s a5 l B).a = aa := ⟨_, rfl⟩
      obtain ⟨t, ht⟩ : ∃ t, (toa m s a5 l B).b = t := ⟨_, rfl⟩
      rw [hmm] at HN5 HWF
      rw [haa] at HRG
      rw [hmm, haa] at he hM hE hT
      rw [ht] at hT
      rw [hmm, haa, ht] at HTO
      have HE := Lib.hid (And.intro he (And.intro hM (And.intro hE hT)))
      have HTS := Lib.hid htl
      have HU := Lib.hid U
      have HAP := Lib.hid hap
      have HOW := Lib.hid hu
      have HBX := Lib.hid bX
      have HBZ := Lib.hid bZ
      have HPL : Hid (P.block < wr.heap.size ∧ Q.block < wr.heap.size) := Lib.hid ⟨hs.2.2.2.2.2.1.1, hs.2.2.2.2.2.2.1⟩
      have HKP := Lib.hid (fun V (u : Up wr V) => (⟨fun zi => (bX.up u).cell zi, u.cell hcl⟩ : (∀ zi, V.cell? ⟨w.heap.size, zi, none⟩ = (rc8 n P c Q d s a5 l x y)[zi]?) ∧ V.cell? (p.add z) = some (.int .u64 B)))
      have U0 : Up wr wr.drew := (Up.refl wr).drew
      have qX := bX.cell
      have lX := bX.lt
      have hll := lt_of_cell hcl
      rw [block_of_add] at hll
      have hXs : w.heap.size < wr.heap.size := lX
      clear hux hox h1 hla hrg hmm haa ht he hM hE hT htl U hap hu bX bZ hs hwf hr hn
      go_wp2_with (fail)
      go_region_held3 (fun w' => (∀ zi, w'.cell? ⟨w.heap.size, zi, none⟩ = (rc8 n P c Q d s a5 l x y)[zi]?) ∧ w'.cell? (p.add z) = some (.int .u64 B))
        (first
          | with_reducible exact HKP.out _ (by assumption)
          | with_reducible exact HKP.out _ (((Up.refl wr).alloc _).drew)
          | with_reducible exact HKP.out _ (Up.set8 UZ (Nat.le_refl _) _ _ _ _ _ _ _ _)
          | with_reducible exact HKP.out _ (UZ.alloc _))
        ((go_at_call 148; ((with_reducible refine (HTO.out _ (by first | assumption | exact ((Up.refl wr).alloc _).drew)).mono ?_); rintro e w5 ⟨P5, Q5, c5, d5, rfl, s5, k5, o5⟩; have UZ : Up wr w5 := Up.trans (by first | assumption | exact ((Up.refl wr).alloc _).drew) k5; have OZ := Lib.hid o5; clear o5; (try (have MB := ((Blk.new wr 58 rz8).drew).up k5; have mc := MB.cell; have mf := MB.frozen; have ml := MB.lt)))))
      all_goals
        first
          | (obtain ⟨W7, hW7⟩ : ∃ W7, W7 = w5.alloc (.cells #[.int .i64 n, .slice (some P5) n c5, .slice (some Q5) n d5, .int .i64 s, .int .i64 aa, .int .i64 l, .int .i64 x, .int .i64 y] 58) := ⟨_, rfl⟩
             rw [← hW7]
             have bY : Blk W7 w5.heap.size 58 #[.int .i64 n, .slice (some P5) n c5, .slice (some Q5) n d5, .int .i64 s, .int .i64 aa, .int .i64 l, .int .i64 x, .int .i64 y] := by rw [hW7]; exact Blk.new w5 _ _
             have KW7 : Up wr W7 := by rw [hW7]; exact UZ.alloc _
             have S7 : Sits W7 mm P5 Q5 c5 d5 := by rw [hW7]; exact s5.up ((Up.refl w5).alloc _)
             have hge : wr.heap.size ≤ w5.heap.size := UZ.size
             obtain ⟨BH, hBH⟩ : ∃ B, B = w5.heap.size := ⟨_, rfl⟩
             rw [← hBH] at bY hge ⊢)
          | (obtain ⟨W7, hW7⟩ : ∃ W7, W7 = ((((((((w5.setCell ⟨wr.heap.size, 0, none⟩ (.int .i64 n)).setCell ⟨wr.heap.size, 1, none⟩ (.slice (some P5) n c5)).setCell ⟨wr.heap.size, 2, none⟩ (.slice (some Q5) n d5)).setCell ⟨wr.heap.size, 3, none⟩ (.int .i64 s)).setCell ⟨wr.heap.size, 4, none⟩ (.int .i64 aa)).setCell ⟨wr.heap.size, 5, none⟩ (.int .i64 l)).setCell ⟨wr.heap.size, 6, none⟩ (.int .i64 x)).setCell ⟨wr.heap.size, 7, none⟩ (.int .i64 y)) := ⟨_, rfl⟩
             rw [← hW7]
             have bY : Blk W7 wr.heap.size 58 #[.int .i64 n, .slice (some P5) n c5, .slice (some Q5) n d5, .int .i64 s, .int .i64 aa, .int .i64 l, .int .i64 x, .int .i64 y] := by rw [hW7]; exact MB.set8 (.int .i64 n) (.slice (some P5) n c5) (.slice (some Q5) n d5) (.int .i64 s) (.int .i64 aa) (.int .i64 l) (.int .i64 x) (.int .i64 y)
             have KW7 : Up wr W7 := by rw [hW7]; exact UZ.set8 (Nat.le_refl _) (.int .i64 n) (.slice (some P5) n c5) (.slice (some Q5) n d5) (.int .i64 s) (.int .i64 aa) (.int .i64 l) (.int .i64 x) (.int .i64 y)
             have S7 : Sits W7 mm P5 Q5 c5 d5 := by rw [hW7]; exact s5.far8 MB (.int .i64 n) (.slice (some P5) n c5) (.slice (some Q5) n d5) (.int .i64 s) (.int .i64 aa) (.int .i64 l) (.int .i64 x) (.int .i64 y)
             have hge : wr.heap.size ≤ wr.heap.size := Nat.le_refl _
             obtain ⟨BH, hBH⟩ : ∃ B, B = wr.heap.size := ⟨_, rfl⟩
             rw [← hBH] at bY ⊢
             clear mc mf ml MB)
        have bX7 := HBX.out.up KW7
        have bZ7 := HBZ.out.up KW7
        have qY := bY.cell
        have lY := bY.lt
        clear qX lX hll hcl UZ k5 U0 s5
        have qX := bX7.cell
        have fX := bX7.frozen
        have lX := bX7.lt
        have hrow := own_up HOW.out KW7
        have HX8 := Lib.hid (bX7.set8 (.int .i64 n) (.slice (some P5) n c5) (.slice (some Q5) n d5) (.int .i64 s) (.int .i64 aa) (.int .i64 l) (.int .i64 x) (.int .i64 y))
        have HZ8 := Lib.hid (blk_far8 bZ7 (by omega : w.heap.size + 1 ≠ w.heap.size) (.int .i64 n) (.slice (some P5) n c5) (.slice (some Q5) n d5) (.int .i64 s) (.int .i64 aa) (.int .i64 l) (.int .i64 x) (.int .i64 y))
        have HS8 := Lib.hid (S7.far8 bX7 (.int .i64 n) (.slice (some P5) n c5) (.slice (some Q5) n d5) (.int .i64 s) (.int .i64 aa) (.int .i64 l) (.int .i64 x) (.int .i64 y))
        have HO8 := Lib.hid (own_far8 hrow (own_row_ne hrow bX7 (by decide)).symm (.int .i64 n) (.slice (some P5) n c5) (.slice (some Q5) n d5) (.int .i64 s) (.int .i64 aa) (.int .i64 l) (.int .i64 x) (.int .i64 y))
        have HU8 := Lib.hid ((HU.out.trans KW7).set8 (Nat.le_refl _) (.int .i64 n) (.slice (some P5) n c5) (.slice (some Q5) n d5) (.int .i64 s) (.int .i64 aa) (.int .i64 l) (.int .i64 x) (.int .i64 y))
        have HAP5 : Hid (Apart (.slice Au z cau) P5 Q5) := Lib.hid (apart_new HAP.out OZ.out HOW.out)
        clear bY bX7 bZ7 S7 hrow KW7 hW7 hBH hge hXs
        go_upto_region 9 with fail
        generalize hW8 : ((((((((W7.setCell ⟨w.heap.size, 0, none⟩ (.int .i64 n)).setCell ⟨w.heap.size, 1, none⟩ (.slice (some P5) n c5)).setCell ⟨w.heap.size, 2, none⟩ (.slice (some Q5) n d5)).setCell ⟨w.heap.size, 3, none⟩ (.int .i64 s)).setCell ⟨w.heap.size, 4, none⟩ (.int .i64 aa)).setCell ⟨w.heap.size, 5, none⟩ (.int .i64 l)).setCell ⟨w.heap.size, 6, none⟩ (.int .i64 x)).setCell ⟨w.heap.size, 7, none⟩ (.int .i64 y)) = W8 at *
        obtain ⟨g9, cap9, w9, hrun, ho9, hg9, hgo⟩ := app_o (a := t) HO8.out (by omega) HU8.out.size
        have kd : Up W8 (W8.alloc (.cells #[.int .u64 t] 67)) := (Up.refl W8).alloc _
        have hod := own_up HO8.out kd
        have HX9 := Lib.hid ((HX8.out.up kd).grown hg9 (own_row_ne hod (HX8.out.up kd) (by decide)))
        have HZ9 := Lib.hid ((HZ8.out.up kd).grown hg9 (own_row_ne hod (HZ8.out.up kd) (by decide)))
        have HS9 := Lib.hid (sits_grown (HS8.out.up kd) hg9 (fun e => (HAP5.out _ e.symm).1 rfl) (fun e => (HAP5.out _ e.symm).2 rfl))
        have HU9 := Lib.hid ((HU8.out.trans kd).grown hg9 (fun g e => (World.ownsRow.lt hod g e).1))
        have HAP9 : Hid (Apart (.slice (some ⟨g9, 0, none⟩) (z + 1) cap9) P5 Q5) := Lib.hid (apart_app HAP5.out HS8.out hgo)
        have HO9 := Lib.hid ho9
        clear kd hod ho9 hg9 hgo qY lY qX fX lX
        go_wp2_with (at_builtin; refine Lib.wpList_append_run _ rfl _ _ _ _ rfl _ _ rfl rfl _ _ hrun ?_)
        refine ⟨⟨z + 1, mm, aa, ts ++ [t], P5, Q5, c5, d5, by rw [HPN.out]; omega, rfl, by rw [List.length_append, HTS.out]; rfl, HN5.out, HWF.out, HRG.out, HE.out.1, HE.out.2.1, HE.out.2.2.1, by rw [List.append_assoc]; exact HE.out.2.2.2, HX9.out, HZ9.out, HS9.out, by rw [List.map_append]; exact HO9.out, HAP9.out, HU9.out⟩, by simp only [intOf]; omega⟩
    · obtain rfl : z = pn := by omega
      rw [List.drop_of_length_le (by rw [HPN.out]; omega)] at he hM hE hT
      unfold eac at he hM hE hT
      rw [List.append_nil] at hT
      obtain rfl : m = M := hM
      obtain rfl : a5 = E := hE
      obtain rfl : ts = TS := hT
      have qX := bX.cell
      have fX := bX.frozen
      have lX := bX.lt
      have qZ := bZ.cell
      have fZ := bZ.frozen
      have lZ := bZ.lt
      have hne := (own_row_ne hu bZ (by decide)).symm
      have HFIN : Hid (Sits ((((((((wr.setCell ⟨(w.heap.size + 1), 0, none⟩ (.int .i64 n)).setCell ⟨(w.heap.size + 1), 1, none⟩ (.slice (some P) n c)).setCell ⟨(w.heap.size + 1), 2, none⟩ (.slice (some Q) n d)).setCell ⟨(w.heap.size + 1), 3, none⟩ (.int .i64 s)).setCell ⟨(w.heap.size + 1), 4, none⟩ (.int .i64 a5)).setCell ⟨(w.heap.size + 1), 5, none⟩ (.int .i64 l)).setCell ⟨(w.heap.size + 1), 6, none⟩ (.int .i64 x)).setCell ⟨(w.heap.size + 1), 7, none⟩ (.int .i64 y)) m P Q c d ∧ Sl .u64 ((((((((wr.setCell ⟨(w.heap.size + 1), 0, none⟩ (.int .i64 n)).setCell ⟨(w.heap.size + 1), 1, none⟩ (.slice (some P) n c)).setCell ⟨(w.heap.size + 1), 2, none⟩ (.slice (some Q) n d)).setCell ⟨(w.heap.size + 1), 3, none⟩ (.int .i64 s)).setCell ⟨(w.heap.size + 1), 4, none⟩ (.int .i64 a5)).setCell ⟨(w.heap.size + 1), 5, none⟩ (.int .i64 l)).setCell ⟨(w.heap.size + 1), 6, none⟩ (.int .i64 x)).setCell ⟨(w.heap.size + 1), 7, none⟩ (.int .i64 y)) (.slice Au ts.length cau) ts ∧ Up w ((((((((wr.setCell ⟨(w.heap.size + 1), 0, none⟩ (.int .i64 n)).setCell ⟨(w.heap.size + 1), 1, none⟩ (.slice (some P) n c)).setCell ⟨(w.heap.size + 1), 2, none⟩ (.slice (some Q) n d)).setCell ⟨(w.heap.size + 1), 3, none⟩ (.int .i64 s)).setCell ⟨(w.heap.size + 1), 4, none⟩ (.int .i64 a5)).setCell ⟨(w.heap.size + 1), 5, none⟩ (.int .i64 l)).setCell ⟨(w.heap.size + 1), 6, none⟩ (.int .i64 x)).setCell ⟨(w.heap.size + 1), 7, none⟩ (.int .i64 y))) := Lib.hid ⟨hs.far8 bZ (.int .i64 n) (.slice (some P) n c) (.slice (some Q) n d) (.int .i64 s) (.int .i64 a5) (.int .i64 l) (.int .i64 x) (.int .i64 y), by rw [htl]; exact sl_own (own_far8 hu hne (.int .i64 n) (.slice (some P) n c) (.slice (some Q) n d) (.int .i64 s) (.int .i64 a5) (.int .i64 l) (.int .i64 x) (.int .i64 y)) htl, U.set8 (by omega) (.int .i64 n) (.slice (some P) n c) (.slice (some Q) n d) (.int .i64 s) (.int .i64 a5) (.int .i64 l) (.int .i64 x) (.int .i64 y)⟩
      have HZF := Lib.hid (bZ.set8 (.int .i64 n) (.slice (some P) n c) (.slice (some Q) n d) (.int .i64 s) (.int .i64 a5) (.int .i64 l) (.int .i64 x) (.int .i64 y))
      subst hn
      have HU := Lib.hid hu
      clear hu hne hap hs bX bZ U hwf hr he HTL HPN HRD
      go_wp2
      refine bodyPost_ret (ret_room3 rfl _ _ _ m.n s a5 l x y (sl P m.n c) (sl Q m.n d) _ _ rfl HZF.out rfl rfl) rfl ?_
      refine ⟨P, Q, c, d, Au, cau, ?_, HFIN.out⟩
      rw [htl]
      rfl
end Go.Proofs.YtanhhkdoejnpiaaGreat.G
/- One copy's pointers, one at a time, plainly. -/
namespace Go.Proofs.YtanhhkdoejnpiaaGreat.G
open Go.Joins Go.ChangeShapes Go.WideShapes Go.ChangeAt Go.RowKit Go.Deep Go.Shelf Go.Maps
set_option linter.unusedVariables false
set_option linter.unusedSimpArgs false

theorem ord_cl {g : Gr} (hR : Rg g) (hn : g.1.length ≤ 1000) {h : Int} (hh : h ∈ ord g) {f : Nat} (hf : f < (ndOf g h).2.length) (hp : isP (ndOf g h) (f : Int) = true) : (ndOf g h).2.getD f 0 = 0 ∨ (ndOf g h).2.getD f 0 ∈ ord g := by
  have M := ord_more hn
  have hi := M.td.inn h hh
  have hm := ndOf_mem hi
  have h1 := hR.pt _ hm f hf hp
  have h2 := (hR.fu _ hm _ (getD_mem 0 hf)).1
  by_cases h0 : (ndOf g h).2.getD f 0 = 0
  · exact .inl h0
  · exact .inr (M.cl h hh (by simp) _ (List.mem_map.2 ⟨f, pix_mem hf hp, rfl⟩) ⟨by omega, h1⟩)
variable {g : Gr} {W : Nat} {s : Int} {m : Me} {a : Int} {o : List Int} {k i : Nat}
theorem Cx.adr_u (X : Cx g W s) {v : Int} (hv : v = 0 ∨ v ∈ ord g) : U64 (Adr s g.1 v) := by
  rcases hv with rfl | hv
  · rw [Adr_0]; exact ⟨by omega, by omega⟩
  · obtain ⟨e, h1, h2, h3⟩ := X.at_ ((ord_more X.hn).td.inn v hv)
    have h4 := X.hT
    have h5 := X.hW
    unfold szO at h1
    rw [e]
    exact adr_u64 X.hs (by omega) (by omega)
/-- What a round of One's loop does, plainly. -/
structure OneSt (g : Gr) (W : Nat) (s : Int) (m : Me) (a : Int) (o : List Int) (k i : Nat) (A : Int) (f : Nat) (v : Int) : Prop where
  fok : m.fok A f
  get : m.getv A f = Adr s g.1 v
  u : U64 (Adr s g.1 v)
  te : (toa m (1 - s) a W (Adr s g.1 v)).e = 0
  ov : ovb (1 - s) (Adr s g.1 v) = false
  tb : (toa m (1 - s) a W (Adr s g.1 v)).b = Nw g s (vi1 o v) v
  fi : Fi g W s (toa m (1 - s) a W (Adr s g.1 v)).m (toa m (1 - s) a W (Adr s g.1 v)).a (vi1 o v) k i
  fok2 : (toa m (1 - s) a W (Adr s g.1 v)).m.fok A f
  nx : Fi g W s ((toa m (1 - s) a W (Adr s g.1 v)).m.setm A f (Nw g s (vi1 o v) v)) (toa m (1 - s) a W (Adr s g.1 v)).a (vi1 o v) k (i + 1)
theorem one_step (X : Cx g W s) (F : Fi g W s m a o k i) (hk : k < o.length) {nd : Nd} (hnd : ndOf g (o.getD k 0) = nd) {A : Int} (hA : adr (1 - s) (ofs (nsO g o) k) = A) (hi : i < (pix nd).length) {f : Nat} (hf : (pix nd).getD i 0 = f) {v : Int} (hv : nd.2.getD f 0 = v) :
    OneSt g W s m a o k i A f v := by
  have hp := pix_ok hi
  rw [hf] at hp
  obtain ⟨q1, q2, q3⟩ := hp
  have hm := getD_mem 0 hk
  have hcl := ord_cl X.rg X.hn (F.sub _ hm) (f := f) (by rw [hnd]; exact q1) (by rw [hnd]; exact q2)
  rw [hnd, hv] at hcl
  obtain ⟨t1, t2, t3, t4⟩ := F.to X (.inl hk) hcl
  have hpre := vi1_pre o v
  have hk' : k < (vi1 o v).length := Nat.lt_of_lt_of_le hk hpre.length_le
  have hg : (vi1 o v).getD k 0 = o.getD k 0 := by
    obtain ⟨r, hr⟩ := hpre
    rw [← hr]
    simp [List.getD, List.getElem?_append_left hk]
  have ho : ofs (nsO g (vi1 o v)) k = ofs (nsO g o) k := by
    obtain ⟨r, hr⟩ := hpre
    rw [← hr, show nsO g (o ++ r) = nsO g o ++ nsO g r from by simp [nsO], ofs_app (by rw [nsO_len]; omega)]
  obtain ⟨s1, s2⟩ := t2.set X hk' (by rw [hg, hnd]; exact hi) (by rw [hg, hnd, hf, hv]; exact vi1_in o v)
  rw [hg, hnd, hf, hv, ho, hA] at s1
  rw [hg, hnd, hf, ho, hA] at s2
  obtain ⟨n1, n2, n3, n4⟩ := F.new_at X hk
  obtain ⟨p1, p2, p3⟩ := F.pos X hk
  rw [hnd] at n3 p3
  rw [hA] at n1 n3
  have hfok : m.fok A f := ob_fok n1 n3 (by omega)
  have hnf := F.nf k hk f (by rw [hnd]; exact q1)
  rw [hnd, if_neg (show ¬ dn nd k i k f from fun h => by
    rcases h with h | h
    · omega
    · exact q3 h.2)] at hnf
  refine ⟨hfok, ?_, X.adr_u hcl, t1, t4, t3, t2, s2, s1⟩
  rw [show m.getv A f = _ from if_pos hfok, ← hA, show adr (1 - s) (ofs (nsO g o) k) + 2 + (f : Int) = adr (1 - s) (ofs (nsO g o) k + 2 + f : Nat) from by unfold adr; omega, hnf, show fl (Adr s g.1) nd f = _ from if_pos q2, hv]
end Go.Proofs.YtanhhkdoejnpiaaGreat.G
/- The document's One (dovecoteref12.One): contract. -/
namespace Go.Proofs.YtanhhkdoejnpiaaGreat.G
open Go.Joins Go.ChangeShapes Go.WideShapes Go.ChangeAt Go.RowKit Go.Deep Go.Shelf Go.Maps
set_option linter.unusedVariables false
set_option linter.unusedSimpArgs false

def OnR (g : Gr) (W : Nat) (s : Int) (k : Nat) (nd : Nd) (o0 : List Int) (x y : Int) (GH B6 : Nat) (v : Value) (w : World) (i : Value) (wr : World) : Prop :=
  ∃ (z : Nat) (m : Me) (a : Int) (o : List Int) (P Q : Addr) (c d : Nat), z ≤ (pix nd).length ∧ i = .int .i64 z ∧ Fi g W s m a o k z ∧ o0 <+: o ∧
    Blk wr w.heap.size 58 (rc8 W P c Q d (1 - s) a W x y) ∧ Blk wr (w.heap.size + 1) 58 rz8 ∧ Blk wr GH 69 (hcs nd.1.1 nd.1.2.1 nd.1.2.2) ∧ Sits wr m P Q c d ∧ Loi wr B6 v (pix nd) ∧ Up w wr
def OnPst (g : Gr) (W : Nat) (s : Int) (k : Nat) (o0 : List Int) (x y : Int) (w : World) (e : Ending) (w' : World) : Prop :=
  ∃ (m : Me) (a : Int) (o : List Int) (P Q : Addr) (c d : Nat), e = .returned (.tuple #[YtanhhkdoejnpiaaGreat.rov W (sl P W c) (sl Q W d) (1 - s) a W x y, .int .i64 (ofs (nsO g o) (k + 1) : Nat), .int .i64 0]) ∧ Fi g W s m a o (k + 1) 0 ∧ o0 <+: o ∧ Sits w' m P Q c d ∧ Up w w'
theorem pre_get {o o' : List Int} (h : o <+: o') {k : Nat} (hk : k < o.length) : o'.getD k 0 = o.getD k 0 := by
  obtain ⟨r, hr⟩ := h
  rw [← hr]
  simp [List.getD, List.getElem?_append_left hk]
theorem pre_ofs {g : Gr} {o o' : List Int} (h : o <+: o') {k : Nat} (hk : k ≤ o.length) : ofs (nsO g o') k = ofs (nsO g o) k := by
  obtain ⟨r, hr⟩ := h
  rw [← hr, show nsO g (o ++ r) = nsO g o ++ nsO g r from by simp [nsO], ofs_app (by rw [nsO_len]; omega)]
set_option maxRecDepth 100000 in
set_option maxHeartbeats 8000000 in
theorem rone12_any {g : Gr} {W : Nat} {s : Int} (X : Cx g W s) (m0 : Me) (a0 : Int) (o0 : List Int) (k : Nat) (F : Fi g W s m0 a0 o0 k 0) (hk : k < o0.length) (x y : Int) (P Q : Addr) (c d : Nat) (w : World) (hm : Sits w m0 P Q c d) :
    Calls Tryz.prog 149 #[YtanhhkdoejnpiaaGreat.rov W (sl P W c) (sl Q W d) (1 - s) a0 W x y, .int .i64 (ofs (nsO g o0) k : Nat)] w (OnPst g W s k o0 x y w) := by
  have hmn := F.n
  obtain ⟨n1, n2, n3, n4⟩ := F.new_at X hk
  obtain ⟨p1, p2, p3⟩ := F.pos X hk
  have hfit := F.fit X
  have hW := X.hW
  have hs1 := X.s'
  have hat := F.at_
  have hstep := ofs_step (ns := nsO g o0) (k := k) (by rw [nsO_len]; exact hk)
  rw [nsO_get g o0 hk] at hstep
  unfold szO at p1
  obtain ⟨nd, hnd⟩ : ∃ nd, ndOf g (o0.getD k 0) = nd := ⟨_, rfl⟩
  rw [hnd] at n2 n3 n4 p1 p2 p3 hstep
  obtain ⟨l0, l1, l2, l3⟩ := p2.len
  have HPX : Hid (ptk nd.1.2.1 nd.1.2.2 nd.1.2.1.toNat = pix nd) := Lib.hid (ptk_pix p3)
  have HRE : Hid (∀ (o : List Int), o0 <+: o → ∀ (m : Me) (a : Int) (z : Nat), Fi g W s m a o k z → z < (pix nd).length → OneSt g W s m a o k z (adr (1 - s) (ofs (nsO g o0) k)) ((pix nd).getD z 0) (nd.2.getD ((pix nd).getD z 0) 0)) := Lib.hid (fun o ho m a z F hz =>
    one_step X F (Nat.lt_of_lt_of_le hk ho.length_le) (by rw [pre_get ho hk]; exact hnd) (by rw [pre_ofs ho (by omega)]) hz rfl rfl)
  have HFI : Hid (∀ (o : List Int), o0 <+: o → ∀ (m : Me) (a : Int), Fi g W s m a o k (pix nd).length → Fi g W s m a o (k + 1) 0 ∧ ofs (nsO g o) (k + 1) = ofs (nsO g o0) (k + 1)) := Lib.hid (fun o ho m a F => ⟨F.next (Nat.lt_of_lt_of_le hk ho.length_le) (by rw [pre_get ho hk, hnd]), pre_ofs ho hk⟩)
  have HF0 := Lib.hid F
  have hpl : (pix nd).length ≤ 16 := by
    unfold pix
    have := List.length_filter_le (fun (i : Nat) => isP nd (i : Int)) (List.range nd.2.length)
    rw [List.length_range] at this
    omega
  obtain ⟨pk, hpk⟩ : ∃ pk, ofs (nsO g o0) k = pk := ⟨_, rfl⟩
  rw [hpk] at n1 n2 n3 n4 p1 hstep HRE ⊢
  obtain ⟨A, hA⟩ : ∃ A, adr (1 - s) pk = A := ⟨_, rfl⟩
  have hAu : U64 A := by rw [← hA]; exact adr_u64 hs1 (by omega) (by omega)
  have HAD := Lib.hid (fun V => by
    have h := raddr_ok (1 - s) pk hs1 (by omega) (by omega) V
    rw [hA] at h
    exact h)
  rw [hA] at n1 n2 n3 n4 HRE
  have hae : m0.ate A = 0 := ate_0.2 (kne_0.1 n1).1
  have HAT := Lib.hid (fun V (k : Up w V) => by
    have h := rat_any m0 A P Q c d V (hm.up k) hAu F.wf
    rw [n2, n3, n4, hae, hmn] at h
    exact h)
  have HAU := Lib.hid hAu
  have HWD := Lib.hid (fun V => by
    have h := rhwords_any nd.1.1 nd.1.2.1 nd.1.2.2 p2.m p2.r V
    rw [l3] at h
    exact h)
  have HPT := Lib.hid (fun V => by
    have h := G.rptrs_any nd.1.1 nd.1.2.1 nd.1.2.2 l0 (by omega) p2.m (by omega) V
    rw [HPX.out] at h
    exact h)
  have HSI := Lib.hid (fun V (k : Up w V) => hm.up k)
  have HRT : Hid ((pk : Int) + (nd.1.2.1 + 2) = (ofs (nsO g o0) (k + 1) : Nat)) := Lib.hid (by omega)
  have hd1 : decide ((pk : Int) < 0) = false := decide_eq_false (by omega)
  have hd2 : decide ((pk : Int) > a0) = false := decide_eq_false (by omega)
  have hd3 : ((pk : Int) == a0) = false := beq_eq_false_iff_ne.2 (by omega)
  have hd4 : decide ((pk : Int) + (nd.1.2.1 + 2) > a0) = false := decide_eq_false (by omega)
  have q0 : (0 : Int) ≤ (pk : Int) := by omega
  have hwr : IntKind.i64.wrap ((pk : Int) + (nd.1.2.1 + 2)) = (pk : Int) + (nd.1.2.1 + 2) := by
    rw [IntKind.wrap_i64]; omega
  have q1 : 0 ≤ nd.1.2.1 := l0
  have q2 : nd.1.2.1 ≤ 16 := l1
  have q3 : (pk : Int) ≤ 4096 := by omega
  have HL3 := Lib.hid (And.intro l2 p3)
  have HPL := Lib.hid hpl
  have HS1 := Lib.hid hs1
  clear hmn n1 n2 n3 n4 p1 p2 p3 hfit hs1 hat hstep hae hAu hA hpk hm F l0 l1 l2 l3 hpl
  go_enter Tryz.func149, Tryz.ntmps149
  go_wp2_with (fail)
  obtain ⟨w1, hw1⟩ : ∃ w1, w1 = (w.alloc (.cells #[.int .i64 W, .slice (some P) W c, .slice (some Q) W d, .int .i64 (1 - s), .int .i64 a0, .int .i64 W, .int .i64 x, .int .i64 y] 58)).alloc (.cells #[.int .i64 0, .slice none 0 0, .slice none 0 0, .int .i64 0, .int .i64 0, .int .i64 0, .int .i64 0, .int .i64 0] 58) := ⟨_, rfl⟩
  have U1 : Up w w1 := by rw [hw1]; exact ((Up.refl w).alloc _).alloc _
  have bX1 : Blk w1 w.heap.size 58 (rc8 W P c Q d (1 - s) a0 W x y) := by rw [hw1]; exact (Blk.new w _ _).alloc _
  have bZ1 : Blk w1 (w.heap.size + 1) 58 rz8 := by rw [hw1]; exact Blk.new' _ (by simp) _ _
  rw [← hw1]
  have qX := bX1.cell
  have lX := bX1.lt
  clear hw1
  refine (HAD.out _).mono ?_
  rintro e w2 ⟨rfl, rfl⟩
  go_wp2_with (fail)
  refine (HAT.out _ U1).mono ?_
  rintro e w3 ⟨rfl, k3⟩
  have U3 := U1.trans k3
  have bX3 := bX1.up k3
  have bZ3 := bZ1.up k3
  have hgh := bZ3.lt
  clear qX lX bX1 bZ1 U1 k3
  have qX := bX3.cell
  have lX := bX3.lt
  go_upto_region 9 with fail
  obtain ⟨w4, hw4⟩ : ∃ w4, w4 = w3.alloc (.cells (hcs nd.1.1 nd.1.2.1 nd.1.2.2) 69) := ⟨_, rfl⟩
  have bH4 : Blk w4 w3.heap.size 69 (hcs nd.1.1 nd.1.2.1 nd.1.2.2) := by rw [hw4]; exact Blk.new w3 _ _
  have kk : Up w3 w4 := by rw [hw4]; exact (Up.refl w3).alloc _
  have U4 := U3.trans kk
  have bX4 := bX3.up kk
  have bZ4 := bZ3.up kk
  rw [← hw4]
  obtain ⟨GH, hGH⟩ : ∃ GH, w3.heap.size = GH := ⟨_, rfl⟩
  rw [hGH] at bH4 hgh ⊢
  have HGB := Lib.hid hgh
  clear hgh
  clear hw4 hGH kk U3 bX3 bZ3 qX lX
  have qX := bX4.cell
  have lX := bX4.lt
  have qH := bH4.cell
  have lH := bH4.lt
  have HKP := Lib.hid (fun V (u : Up w4 V) => (⟨fun zi => (bX4.up u).cell zi, fun zi => (bH4.up u).cell zi⟩ : (∀ zi, V.cell? ⟨w.heap.size, zi, none⟩ = (rc8 W P c Q d (1 - s) a0 W x y)[zi]?) ∧ (∀ zi, V.cell? ⟨GH, zi, none⟩ = (hcs nd.1.1 nd.1.2.1 nd.1.2.2)[zi]?)))
  have U0 : Up w4 w4.drew := (Up.refl w4).drew
  go_region_held3 (fun w' => (∀ zi, w'.cell? ⟨w.heap.size, zi, none⟩ = (rc8 W P c Q d (1 - s) a0 W x y)[zi]?) ∧ (∀ zi, w'.cell? ⟨GH, zi, none⟩ = (hcs nd.1.1 nd.1.2.1 nd.1.2.2)[zi]?))
    (with_reducible exact HKP.out _ (by assumption))
    ((go_at_call 44; ((with_reducible refine (HWD.out _).mono ?_); rintro e w5 ⟨rfl, k5⟩; have UZ : Up w4 w5 := Up.trans (by assumption) k5)))
  have U5 := U4.trans UZ
  have bX5 := bX4.up UZ
  have bZ5 := bZ4.up UZ
  have bH5 := bH4.up UZ
  clear U4 bX4 bZ4 bH4 qX lX qH lH UZ k5 U0 HKP
  have qX := bX5.cell
  have lX := bX5.lt
  have qH := bH5.cell
  have lH := bH5.lt
  go_wp2_with (fail)
  refine (HPT.out _).mono ?_
  rintro e w6 ⟨v, rfl, hv, k6⟩
  obtain ⟨A6, c6, rfl⟩ := own_slice hv
  generalize w5.heap.size = B6 at hv
  have U6 := U5.trans k6
  have HST : Hid (OnR g W s k nd o0 x y GH B6 (.slice A6 (pix nd).length c6) w (.int .i64 ((0 : Nat) : Int)) w6) := Lib.hid ⟨0, m0, a0, o0, P, Q, c, d, Nat.zero_le _, rfl, HF0.out, List.prefix_refl _, bX5.up k6, bZ5.up k6, bH5.up k6, HSI.out _ U6, hv, U6⟩
  clear hv U5 U6 k6 bX5 bZ5 bH5 qX lX qH lH hd1 hd2 hd3 hd4
  go_wp2_with (fail)
  generalize hpn : (pix nd).length = pn at *
  go_loopw [11] (fun i wr => OnR g W s k nd o0 x y GH B6 (.slice A6 pn c6) w i wr) (fun i _ => pn - (intOf i).toNat)
  case atStart => exact HST.out
  case round =>
    rename World => wr
    obtain ⟨z, m, a, o, P, Q, c, d, hz, rfl, FF, hpre, bX, bZ, bH, hs, hv, U⟩ := hrel
    rw [hpn] at hz
    have hp16 := HPL.out
    have hwX : w.heap.size ≠ GH := by have := HGB.out; omega
    have hwZ : w.heap.size + 1 ≠ GH := by have := HGB.out; omega
    by_cases hlz : z < pn
    · have st := HRE.out o hpre m a z FF hlz
      have hsl : Sl .i64 wr (.slice A6 pn c6) ((pix nd).map fun x : Nat => (x : Int)) := sl_own (n₀ := B6) (e := 3) (by rw [List.map_map]; unfold Loi at hv; rw [hpn] at hv; exact hv) (by rw [List.length_map, hpn])
      obtain ⟨pA, e1, hcl⟩ := hsl.at_ hlz
      subst e1
      rw [show ((pix nd).map fun x : Nat => (x : Int)).getD z 0 = (((pix nd).getD z 0 : Nat) : Int) from by simp [List.getD, List.getElem?_eq_getElem (show z < (pix nd).length by rw [hpn]; exact hlz)]] at hcl
      obtain ⟨f, hf⟩ : ∃ f, (pix nd).getD z 0 = f := ⟨_, rfl⟩
      rw [hf] at st hcl
      obtain ⟨u, hu⟩ : ∃ u, nd.2.getD f 0 = u := ⟨_, rfl⟩
      rw [hu] at st
      have hrg : rgt (1 - s) a W := ⟨HS1.out, by rw [FF.at_]; omega, by have := FF.fit X; have := FF.at_; omega, by omega⟩
      obtain ⟨gb, hgb⟩ : ∃ gb, m.getb A f = gb := ⟨_, rfl⟩
      have HGE := Lib.hid (fun V (k : Up wr V) => by
        have h := rget_any m A f P Q c d V (by exact hs.up k) HAU.out FF.wf
        rw [st.get, gete_0.2 st.fok, hgb, FF.n] at h
        exact h)
      have HTO := Lib.hid (fun V (k : Up wr V) => show Calls Tryz.prog 148 #[YtanhhkdoejnpiaaGreat.rov W (sl P W c) (sl Q W d) (1 - s) a W x y, .int .u64 (Adr s g.1 u)] V (EaTo wr.heap.size P Q W (1 - s) W x y (toa m (1 - s) a W (Adr s g.1 u)).m (toa m (1 - s) a W (Adr s g.1 u)).a (Nw g s (vi1 o u) u) V) from by
        have h := oto_any m (1 - s) a W x y (Adr s g.1 u) P Q c d V (hs.up k) FF.wf st.u hrg (by rw [FF.n]) st.te st.ov
        unfold RtO at h
        rw [st.fi.n, FF.n, st.tb] at h
        exact h.mono (fun e w' ⟨P', Q', c', d', e1, s1, u1, o1⟩ => ⟨P', Q', c', d', e1, s1, u1, o1.le k.size⟩))
      have HSE := Lib.hid (fun V P' Q' c' d' (h5 : Sits V (toa m (1 - s) a W (Adr s g.1 u)).m P' Q' c' d') => show Calls Tryz.prog 48 #[mev W P' Q' c' d', .int .u64 A, .int .i64 f, .int .u64 (Nw g s (vi1 o u) u)] V (fun e w' => ∃ P2 Q2 c2 d2, e = .returned (.tuple #[mev W P2 Q2 c2 d2, .int .i64 0]) ∧ Sits w' ((toa m (1 - s) a W (Adr s g.1 u)).m.setm A f (Nw g s (vi1 o u) u)) P2 Q2 c2 d2 ∧ Up V w') from by
        have h := rset_any (toa m (1 - s) a W (Adr s g.1 u)).m A f (Nw g s (vi1 o u) u) P' Q' c' d' V h5 HAU.out st.fi.wf
        unfold Gives1 at h
        rw [gete_0.2 st.fok2, st.nx.n, st.fi.n] at h
        exact h)
      have HNX := Lib.hid (And.intro st.nx (hpre.trans (vi1_pre o u)))
      generalize Nw g s (vi1 o u) u = t at *
      generalize Adr s g.1 u = av at *
      generalize (toa m (1 - s) a W av).a = aa at *
      generalize (toa m (1 - s) a W av).m = mm at *
      generalize mm.setm A f t = m2 at *
      generalize vi1 o u = o2 at *
      have HBX := Lib.hid bX
      have HBZ := Lib.hid bZ
      have HBH := Lib.hid bH
      have HV := Lib.hid hv
      have HU := Lib.hid U
      have HCL := Lib.hid (fun V (k : Up wr V) => k.cell hcl)
      have HKP := Lib.hid (fun V (u : Up wr V) => (⟨fun zi => (bX.up u).cell zi, u.cell hcl⟩ : (∀ zi, V.cell? ⟨w.heap.size, zi, none⟩ = (rc8 W P c Q d (1 - s) a W x y)[zi]?) ∧ V.cell? (pA.add z) = some (.int .i64 f)))
      have U0 : Up wr wr.drew := (Up.refl wr).drew
      have qX := bX.cell
      have lX := bX.lt
      have hll := lt_of_cell hcl
      rw [block_of_add] at hll
      clear st hsl hrg hgb hf hu FF hpre bX bZ bH hs hv U hnd
      go_wp2_with (fail)
      go_region_held3 (fun w' => (∀ zi, w'.cell? ⟨w.heap.size, zi, none⟩ = (rc8 W P c Q d (1 - s) a W x y)[zi]?) ∧ w'.cell? (pA.add z) = some (.int .i64 f))
        (with_reducible exact HKP.out _ (by assumption))
        ((go_at_call 36; ((with_reducible refine (HGE.out _ (by assumption)).mono ?_); rintro e w5 ⟨rfl, k5⟩; have UZ : Up wr w5 := Up.trans (by assumption) k5)))
      have bX5 := HBX.out.up UZ
      clear qX lX hcl U0 k5 hll
      have qX := bX5.cell
      have lX := bX5.lt
      go_wp2_with (fail)
      refine (HTO.out _ UZ).mono ?_
      rintro e w7 ⟨P5, Q5, c5, d5, rfl, s7, k7, _⟩
      clear qX lX bX5
      have U7 := UZ.trans k7
      go_upto_region 19 with fail
      obtain ⟨w8, hw8⟩ : ∃ w8, w8 = w7.alloc (.cells #[.int .i64 W, .slice (some P5) W c5, .slice (some Q5) W d5, .int .i64 (1 - s), .int .i64 aa, .int .i64 W, .int .i64 x, .int .i64 y] 58) := ⟨_, rfl⟩
      have bY8 : Blk w8 w7.heap.size 58 #[.int .i64 W, .slice (some P5) W c5, .slice (some Q5) W d5, .int .i64 (1 - s), .int .i64 aa, .int .i64 W, .int .i64 x, .int .i64 y] := by rw [hw8]; exact Blk.new w7 _ _
      have k8 : Up w7 w8 := by rw [hw8]; exact (Up.refl w7).alloc _
      have s8 := s7.up k8
      have U8 := U7.trans k8
      rw [← hw8]
      obtain ⟨GY, hGY⟩ : ∃ GY, w7.heap.size = GY := ⟨_, rfl⟩
      rw [hGY] at bY8 ⊢
      clear hw8 hGY k8 s7 k7 U7 UZ
      have hcl8 := HCL.out _ U8
      have HK8 := Lib.hid (fun V (u : Up w8 V) => (⟨fun zi => (bY8.up u).cell zi, u.cell hcl8⟩ : (∀ zi, V.cell? ⟨GY, zi, none⟩ = (#[.int .i64 W, .slice (some P5) W c5, .slice (some Q5) W d5, .int .i64 (1 - s), .int .i64 aa, .int .i64 W, .int .i64 x, .int .i64 y] : Array Value)[zi]?) ∧ V.cell? (pA.add z) = some (.int .i64 f)))
      have HS8 := Lib.hid (fun V (u : Up w8 V) => HSE.out V P5 Q5 c5 d5 (s8.up u))
      have HY8 := Lib.hid bY8
      have V0 : Up w8 w8.drew := (Up.refl w8).drew
      have qY := bY8.cell
      have lY := bY8.lt
      have hll := lt_of_cell hcl8
      rw [block_of_add] at hll
      clear bY8
      go_wp2_with (fail)
      go_region_held3 (fun w' => (∀ zi, w'.cell? ⟨GY, zi, none⟩ = (#[.int .i64 W, .slice (some P5) W c5, .slice (some Q5) W d5, .int .i64 (1 - s), .int .i64 aa, .int .i64 W, .int .i64 x, .int .i64 y] : Array Value)[zi]?) ∧ w'.cell? (pA.add z) = some (.int .i64 f))
        (first
          | with_reducible exact HK8.out _ (by assumption)
          | with_reducible exact HK8.out _ (((Up.refl w8).alloc _).drew)
          | with_reducible exact HK8.out _ (Up.set3 UY (Nat.le_refl _) _ _ _)
          | with_reducible exact HK8.out _ (UY.alloc _))
        ((go_at_call 48; ((with_reducible refine (HS8.out _ (by first | assumption | exact ((Up.refl w8).alloc _).drew)).mono ?_); rintro e w9 ⟨P2, Q2, c2, d2, rfl, s9, k9⟩; have UY : Up w8 w9 := Up.trans (by first | assumption | exact ((Up.refl w8).alloc _).drew) k9; (try (have MB := ((Blk.new w8 25 #[.int .i64 0, .slice none 0 0, .slice none 0 0]).drew).up k9; have mc := MB.cell; have mf := MB.frozen; have ml := MB.lt)))))
      all_goals
        first
          | (obtain ⟨W7, hW7⟩ : ∃ W7, W7 = w9.alloc (.cells #[.int .i64 W, .slice (some P2) W c2, .slice (some Q2) W d2] 25) := ⟨_, rfl⟩
             rw [← hW7]
             have bM : Blk W7 w9.heap.size 25 #[.int .i64 W, .slice (some P2) W c2, .slice (some Q2) W d2] := by rw [hW7]; exact Blk.new w9 _ _
             have KW7 : Up w8 W7 := by rw [hW7]; exact UY.alloc _
             have S7 : Sits W7 m2 P2 Q2 c2 d2 := by rw [hW7]; exact s9.up ((Up.refl w9).alloc _)
             obtain ⟨BH, hBH⟩ : ∃ B, B = w9.heap.size := ⟨_, rfl⟩
             rw [← hBH] at bM ⊢)
          | (obtain ⟨W7, hW7⟩ : ∃ W7, W7 = ((w9.setCell ⟨w8.heap.size, 0, none⟩ (.int .i64 W)).setCell ⟨w8.heap.size, 1, none⟩ (.slice (some P2) W c2)).setCell ⟨w8.heap.size, 2, none⟩ (.slice (some Q2) W d2) := ⟨_, rfl⟩
             rw [← hW7]
             have bM : Blk W7 w8.heap.size 25 #[.int .i64 W, .slice (some P2) W c2, .slice (some Q2) W d2] := by rw [hW7]; exact MB.set3 _ _ _
             have KW7 : Up w8 W7 := by rw [hW7]; exact UY.set3 (Nat.le_refl _) _ _ _
             have S7 : Sits W7 m2 P2 Q2 c2 d2 := by rw [hW7]; exact s9.far3 MB _ _ _
             obtain ⟨BH, hBH⟩ : ∃ B, B = w8.heap.size := ⟨_, rfl⟩
             rw [← hBH] at bM ⊢
             clear mc mf ml MB)
        have UW := U8.trans KW7
        have bX7 := HBX.out.up UW
        have bZ7 := HBZ.out.up UW
        have bH7 := HBH.out.up UW
        have bY7 := HY8.out.up KW7
        have hv7 := own_up HV.out UW
        clear qY lY hll V0 k9 UY s9
        have HBX9 := Lib.hid (bX7.set8 (.int .i64 W) (.slice (some P2) W c2) (.slice (some Q2) W d2) (.int .i64 (1 - s)) (.int .i64 aa) (.int .i64 W) (.int .i64 x) (.int .i64 y))
        have HBZ9 := Lib.hid (blk_far8 bZ7 (by omega : w.heap.size + 1 ≠ w.heap.size) (.int .i64 W) (.slice (some P2) W c2) (.slice (some Q2) W d2) (.int .i64 (1 - s)) (.int .i64 aa) (.int .i64 W) (.int .i64 x) (.int .i64 y))
        have HBH9 := Lib.hid (blk_far8 bH7 hwX.symm (.int .i64 W) (.slice (some P2) W c2) (.slice (some Q2) W d2) (.int .i64 (1 - s)) (.int .i64 aa) (.int .i64 W) (.int .i64 x) (.int .i64 y))
        have HS9 := Lib.hid (S7.far8 bX7 (.int .i64 W) (.slice (some P2) W c2) (.slice (some Q2) W d2) (.int .i64 (1 - s)) (.int .i64 aa) (.int .i64 W) (.int .i64 x) (.int .i64 y))
        have HV9 := Lib.hid (own_far8 hv7 (own_row_ne hv7 bX7 (by decide)).symm (.int .i64 W) (.slice (some P2) W c2) (.slice (some Q2) W d2) (.int .i64 (1 - s)) (.int .i64 aa) (.int .i64 W) (.int .i64 x) (.int .i64 y))
        have HU9 := Lib.hid ((HU.out.trans UW).set8 (Nat.le_refl _) (.int .i64 W) (.slice (some P2) W c2) (.slice (some Q2) W d2) (.int .i64 (1 - s)) (.int .i64 aa) (.int .i64 W) (.int .i64 x) (.int .i64 y))
        have qM := bM.cell
        have lM := bM.lt
        have qY := bY7.cell
        have lY := bY7.lt
        have qX := bX7.cell
        have fX := bX7.frozen
        have lX := bX7.lt
        clear hW7 hBH bM S7 bX7 bZ7 bH7 bY7 hv7 UW KW7 s8 U8 hcl8
        go_wp2_with (fail)
        refine ⟨⟨z + 1, m2, aa, o2, P2, Q2, c2, d2, by rw [hpn]; omega, rfl, HNX.out.1, HNX.out.2, HBX9.out, HBZ9.out, HBH9.out, HS9.out, by unfold Loi; exact HV9.out, HU9.out⟩, by simp only [intOf]; omega⟩
    · obtain rfl : z = pn := by omega
      obtain ⟨F1, hof⟩ := HFI.out o hpre m a FF
      have hrt := HRT.out
      rw [← hof] at hrt
      have HEN := Lib.hid (And.intro F1 (And.intro hpre hrt))
      have hzx : w.heap.size + 1 ≠ w.heap.size := by omega
      have HKP := Lib.hid (fun V (u : Up wr V) => (⟨fun zi => (bX.up u).cell zi, fun zi => (bH.up u).cell zi⟩ : (∀ zi, V.cell? ⟨w.heap.size, zi, none⟩ = (rc8 W P c Q d (1 - s) a W x y)[zi]?) ∧ (∀ zi, V.cell? ⟨GH, zi, none⟩ = (hcs nd.1.1 nd.1.2.1 nd.1.2.2)[zi]?)))
      have HKC := Lib.hid (fun V (u : Up wr V) => (⟨fun zi => (blk_far8 (bX.up u) hzx.symm (.int .i64 W) (.slice (some P) W c) (.slice (some Q) W d) (.int .i64 (1 - s)) (.int .i64 a) (.int .i64 W) (.int .i64 x) (.int .i64 y)).cell zi, fun zi => (blk_far8 (bH.up u) hwZ.symm (.int .i64 W) (.slice (some P) W c) (.slice (some Q) W d) (.int .i64 (1 - s)) (.int .i64 a) (.int .i64 W) (.int .i64 x) (.int .i64 y)).cell zi⟩ : (∀ zi, ((((((((V.setCell ⟨(w.heap.size + 1), 0, none⟩ (.int .i64 W)).setCell ⟨(w.heap.size + 1), 1, none⟩ (.slice (some P) W c)).setCell ⟨(w.heap.size + 1), 2, none⟩ (.slice (some Q) W d)).setCell ⟨(w.heap.size + 1), 3, none⟩ (.int .i64 (1 - s))).setCell ⟨(w.heap.size + 1), 4, none⟩ (.int .i64 a)).setCell ⟨(w.heap.size + 1), 5, none⟩ (.int .i64 W)).setCell ⟨(w.heap.size + 1), 6, none⟩ (.int .i64 x)).setCell ⟨(w.heap.size + 1), 7, none⟩ (.int .i64 y)).cell? ⟨w.heap.size, zi, none⟩ = (rc8 W P c Q d (1 - s) a W x y)[zi]?) ∧ (∀ zi, ((((((((V.setCell ⟨(w.heap.size + 1), 0, none⟩ (.int .i64 W)).setCell ⟨(w.heap.size + 1), 1, none⟩ (.slice (some P) W c)).setCell ⟨(w.heap.size + 1), 2, none⟩ (.slice (some Q) W d)).setCell ⟨(w.heap.size + 1), 3, none⟩ (.int .i64 (1 - s))).setCell ⟨(w.heap.size + 1), 4, none⟩ (.int .i64 a)).setCell ⟨(w.heap.size + 1), 5, none⟩ (.int .i64 W)).setCell ⟨(w.heap.size + 1), 6, none⟩ (.int .i64 x)).setCell ⟨(w.heap.size + 1), 7, none⟩ (.int .i64 y)).cell? ⟨GH, zi, none⟩ = (hcs nd.1.1 nd.1.2.1 nd.1.2.2)[zi]?)))
      have HFA := Lib.hid (fun V (u : Up wr V) => (⟨(bZ.up u).set8 (.int .i64 W) (.slice (some P) W c) (.slice (some Q) W d) (.int .i64 (1 - s)) (.int .i64 a) (.int .i64 W) (.int .i64 x) (.int .i64 y), (hs.up u).far8 (bZ.up u) (.int .i64 W) (.slice (some P) W c) (.slice (some Q) W d) (.int .i64 (1 - s)) (.int .i64 a) (.int .i64 W) (.int .i64 x) (.int .i64 y), (U.trans u).set8 (by omega) (.int .i64 W) (.slice (some P) W c) (.slice (some Q) W d) (.int .i64 (1 - s)) (.int .i64 a) (.int .i64 W) (.int .i64 x) (.int .i64 y)⟩ : Blk ((((((((V.setCell ⟨(w.heap.size + 1), 0, none⟩ (.int .i64 W)).setCell ⟨(w.heap.size + 1), 1, none⟩ (.slice (some P) W c)).setCell ⟨(w.heap.size + 1), 2, none⟩ (.slice (some Q) W d)).setCell ⟨(w.heap.size + 1), 3, none⟩ (.int .i64 (1 - s))).setCell ⟨(w.heap.size + 1), 4, none⟩ (.int .i64 a)).setCell ⟨(w.heap.size + 1), 5, none⟩ (.int .i64 W)).setCell ⟨(w.heap.size + 1), 6, none⟩ (.int .i64 x)).setCell ⟨(w.heap.size + 1), 7, none⟩ (.int .i64 y)) (w.heap.size + 1) 58 #[.int .i64 W, .slice (some P) W c, .slice (some Q) W d, .int .i64 (1 - s), .int .i64 a, .int .i64 W, .int .i64 x, .int .i64 y] ∧ Sits ((((((((V.setCell ⟨(w.heap.size + 1), 0, none⟩ (.int .i64 W)).setCell ⟨(w.heap.size + 1), 1, none⟩ (.slice (some P) W c)).setCell ⟨(w.heap.size + 1), 2, none⟩ (.slice (some Q) W d)).setCell ⟨(w.heap.size + 1), 3, none⟩ (.int .i64 (1 - s))).setCell ⟨(w.heap.size + 1), 4, none⟩ (.int .i64 a)).setCell ⟨(w.heap.size + 1), 5, none⟩ (.int .i64 W)).setCell ⟨(w.heap.size + 1), 6, none⟩ (.int .i64 x)).setCell ⟨(w.heap.size + 1), 7, none⟩ (.int .i64 y)) m P Q c d ∧ Up w ((((((((V.setCell ⟨(w.heap.size + 1), 0, none⟩ (.int .i64 W)).setCell ⟨(w.heap.size + 1), 1, none⟩ (.slice (some P) W c)).setCell ⟨(w.heap.size + 1), 2, none⟩ (.slice (some Q) W d)).setCell ⟨(w.heap.size + 1), 3, none⟩ (.int .i64 (1 - s))).setCell ⟨(w.heap.size + 1), 4, none⟩ (.int .i64 a)).setCell ⟨(w.heap.size + 1), 5, none⟩ (.int .i64 W)).setCell ⟨(w.heap.size + 1), 6, none⟩ (.int .i64 x)).setCell ⟨(w.heap.size + 1), 7, none⟩ (.int .i64 y))))
      have HZB := Lib.hid bZ
      have U0 : Up wr wr.drew := (Up.refl wr).drew
      have qX := bX.cell
      have lX := bX.lt
      have qH := bH.cell
      have lH := bH.lt
      have qZ := bZ.cell
      have fZ := bZ.frozen
      have lZ := bZ.lt
      clear FF hof hrt F1 hpre bX bZ bH hs hv U
      go_wp2_with (fail)
      go_region_held3 (fun w' => (∀ zi, w'.cell? ⟨w.heap.size, zi, none⟩ = (rc8 W P c Q d (1 - s) a W x y)[zi]?) ∧ (∀ zi, w'.cell? ⟨GH, zi, none⟩ = (hcs nd.1.1 nd.1.2.1 nd.1.2.2)[zi]?))
        (first
          | with_reducible exact HKP.out _ (by assumption)
          | with_reducible exact HKC.out _ UZ)
        ((go_at_call 44; ((with_reducible refine (HWD.out _).mono ?_); rintro e w5 ⟨rfl, k5⟩; have UZ : Up wr w5 := Up.trans U0 k5; have zb := HZB.out.up UZ; have zc := zb.cell; have zf := zb.frozen; have zl := zb.lt)))
      go_wp2
      refine bodyPost_ret (ret_room3 rfl _ _ _ W (1 - s) a W x y (sl P W c) (sl Q W d) _ _ rfl (HFA.out _ UZ).1 rfl rfl) rfl ?_
      refine ⟨m, a, o, P, Q, c, d, ?_, HEN.out.1, HEN.out.2.1, (HFA.out _ UZ).2.1, (HFA.out _ UZ).2.2⟩
      rw [← HEN.out.2.2]
      rfl
end Go.Proofs.YtanhhkdoejnpiaaGreat.G

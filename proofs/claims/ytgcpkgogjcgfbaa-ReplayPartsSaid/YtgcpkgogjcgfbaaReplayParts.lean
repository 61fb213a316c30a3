/- The statement ReplayParts is proved for every input, from contracts of the functions that it calls; no condition is added. -/
import Derived.Test.YtgcpkgogjcgfbaaRpA
import Derived.Test.YtgcpkgogjcgfbaaRpB
import Derived.Deep.RegionHeld3
import Derived.Deep.CutRange
namespace Go.Proofs.Ytgcpkgogjcgfbaa.LReplayParts
open Go.Joins Go.ChangeShapes Go.WideShapes Go.ChangeAt Go.RowKit Go.Deep
set_option linter.unusedVariables false
set_option linter.unusedSimpArgs false

set_option maxRecDepth 100000 in
set_option maxHeartbeats 8000000 in
theorem walk_no (N : Int) (A0 A1 : Option Addr) (n0 n1 c0 c1 : Nat) (s a l x y : Int) (A2 B2 : Option Addr) (na ca nb cb : Nat) (w : World) (hfew : fewr N n0 n1 s a l x y = false) :
    Calls Try.prog 3 #[.agg #[.int .i64 N, .slice A0 n0 c0, .slice A1 n1 c1, .int .i64 s, .int .i64 a, .int .i64 l, .int .i64 x, .int .i64 y], .slice A2 na ca, .slice B2 nb cb] w (fun e w' => e = .returned (.bool true) ∧ Up w w') := by
  have hf := fun w => fewr_any N s a l x y A0 A1 n0 n1 c0 c1 w
  rw [hfew] at hf
  have hf := Lib.hid hf
  go_enter Try.func3, Try.ntmps3
  go_wp2_with (fail)
  refine calls_at (fun V1 hV => ?_)
  have kv : Up w V1 := by rw [hV]; (repeat (first | with_reducible exact Up.refl _ | with_reducible refine Up.alloc ?_ _ | with_reducible refine Up.drew ?_ | refine Up.setCell ?_ (by simp <;> omega) _))
  have Xv : Blk V1 (w.heap.size) 31 #[.int .i64 N, .slice A0 n0 c0, .slice A1 n1 c1, .int .i64 s, .int .i64 a, .int .i64 l, .int .i64 x, .int .i64 y] := by rw [hV]; (repeat (first | with_reducible exact Blk.new' _ (by simp) _ _ | with_reducible refine Blk.alloc ?_ _ | with_reducible refine Blk.drew ?_ | refine Blk.far ?_ (by simp <;> omega) _))
  have Uv : Up w V1 := kv
  clear hV kv 
  refine (shown13 _).mono ?_
  rintro e w1 ⟨rfl, k1⟩
  have X1 := Xv.up k1
  have U1 := Uv.trans k1
  clear k1 Uv Xv 
  have X1c := X1.cell
  have X1f := X1.frozen
  have X1l := X1.lt
  go_wp2_with (fail)
  refine calls_at (fun V2 hV => ?_)
  have kv : Up w1 V2 := by rw [hV]; (repeat (first | with_reducible exact Up.refl _ | with_reducible refine Up.alloc ?_ _ | with_reducible refine Up.drew ?_ | refine Up.setCell ?_ (by simp <;> omega) _))
  have Xv := X1.up kv
  have Uv : Up w V2 := U1.trans kv
  clear hV kv X1 X1c X1f X1l U1
  refine (hf.out _).mono ?_
  rintro e w2 ⟨rfl, k2⟩
  have X2 := Xv.up k2
  have U2 := Uv.trans k2
  clear k2 Uv Xv 
  have X2c := X2.cell
  have X2f := X2.frozen
  have X2l := X2.lt
  go_wp2
  go_ret
  refine ⟨rfl, ?_⟩
  (repeat (first | with_reducible exact U2 | with_reducible refine Up.alloc ?_ _ | with_reducible refine Up.drew ?_ | refine Up.setCell ?_ (by simp <;> omega) _))

set_option maxRecDepth 100000 in
set_option maxHeartbeats 8000000 in
theorem walk_long (m : Me) (P Q : Addr) (c d : Nat) (s a l x y : Int) (A2 B2 : Option Addr) (na ca nb cb : Nat) (w : World) (hm : Sits w m P Q c d) (hwf : m.wf) (hn : m.n ≤ 200) (hr : rgt s a l) (hl : l = m.n) (hp : (x = 0 ∧ y = 0) ∨ (0 ≤ x ∧ x ≤ y ∧ y ≤ a)) (ha : na ≤ 8796093021952) (hb : nb ≤ 8796093021952) (h : 60 < na + nb) :
    Calls Try.prog 3 #[.agg #[.int .i64 m.n, .slice (some P) m.n c, .slice (some Q) m.n d, .int .i64 s, .int .i64 a, .int .i64 l, .int .i64 x, .int .i64 y], .slice A2 na ca, .slice B2 nb cb] w (fun e w' => e = .returned (.bool true) ∧ Up w w') := by
  have hf := fun w => fewr_any m.n s a l x y (some P) (some Q) m.n m.n c d w
  rw [fewr_ok m s a l x y hm.1 hn hr hl hp] at hf
  have hf := Lib.hid hf
  have b1 : (na : Int) ≤ 8796093021952 := by omega
  have b2 : (nb : Int) ≤ 8796093021952 := by omega
  have q0 : decide ((60 : Int) < (na : Int) + (nb : Int)) = true := decide_eq_true (by omega)
  clear hm hwf hn hr hl hp h
  go_enter Try.func3, Try.ntmps3
  go_wp2_with (fail)
  refine calls_at (fun V1 hV => ?_)
  have kv : Up w V1 := by rw [hV]; (repeat (first | with_reducible exact Up.refl _ | with_reducible refine Up.alloc ?_ _ | with_reducible refine Up.drew ?_ | refine Up.setCell ?_ (by simp <;> omega) _))
  have Xv : Blk V1 (w.heap.size) 31 #[.int .i64 m.n, .slice (some P) m.n c, .slice (some Q) m.n d, .int .i64 s, .int .i64 a, .int .i64 l, .int .i64 x, .int .i64 y] := by rw [hV]; (repeat (first | with_reducible exact Blk.new' _ (by simp) _ _ | with_reducible refine Blk.alloc ?_ _ | with_reducible refine Blk.drew ?_ | refine Blk.far ?_ (by simp <;> omega) _))
  have Uv : Up w V1 := kv
  clear hV kv 
  refine (shown13 _).mono ?_
  rintro e w1 ⟨rfl, k1⟩
  have X1 := Xv.up k1
  have U1 := Uv.trans k1
  clear k1 Uv Xv 
  have X1c := X1.cell
  have X1f := X1.frozen
  have X1l := X1.lt
  go_wp2_with (fail)
  refine calls_at (fun V2 hV => ?_)
  have kv : Up w1 V2 := by rw [hV]; (repeat (first | with_reducible exact Up.refl _ | with_reducible refine Up.alloc ?_ _ | with_reducible refine Up.drew ?_ | refine Up.setCell ?_ (by simp <;> omega) _))
  have Xv := X1.up kv
  have Uv : Up w V2 := U1.trans kv
  clear hV kv X1 X1c X1f X1l U1
  refine (hf.out _).mono ?_
  rintro e w2 ⟨rfl, k2⟩
  have X2 := Xv.up k2
  have U2 := Uv.trans k2
  clear k2 Uv Xv 
  have X2c := X2.cell
  have X2f := X2.frozen
  have X2l := X2.lt
  go_wp2
  go_ret
  refine ⟨rfl, ?_⟩
  (repeat (first | with_reducible exact U2 | with_reducible refine Up.alloc ?_ _ | with_reducible refine Up.drew ?_ | refine Up.setCell ?_ (by simp <;> omega) _))

set_option maxRecDepth 100000 in
set_option maxHeartbeats 8000000 in
theorem walk_ok (m : Me) (P Q : Addr) (c d : Nat) (s a l x y : Int) (A2 B2 : Option Addr) (na ca nb cb : Nat) (w : World) (hm : Sits w m P Q c d) (hwf : m.wf) (hn : m.n ≤ 200) (hr : rgt s a l) (hl : l = m.n) (hp : (x = 0 ∧ y = 0) ∨ (0 ≤ x ∧ x ≤ y ∧ y ≤ a)) (ea eb : List E.Ent) (hsa : E.Sl w (.slice A2 na ca) ea) (hsb : E.Sl w (.slice B2 nb cb) eb) (hla : ea.length = na) (hlb : eb.length = nb) (hua : ∀ z ∈ ea, U64 z.1) (hub : ∀ z ∈ eb, U64 z.1) (h60 : na + nb ≤ 60) (K : Me) (a2 : Int) (J : List (List E.Ent)) (hJn : J.length = 2) (Kz : Me) (az : Int) (hy : don s l (ea ++ eb) m a = ⟨K, a2, na + nb, 0⟩) (hz : don s l ea m a = ⟨Kz, az, na, 0⟩) (hw : don s l eb Kz az = ⟨K, a2, nb, 0⟩) (hkb : Kb m a Kz az) (hr2 : rgt s az l) (hl2 : l = Kz.n) (hk : lgs s l [ea, eb] m a = ⟨K, a2, J, 0⟩) (hj : E.mny J 0 = 0) :
    Calls Try.prog 3 #[.agg #[.int .i64 m.n, .slice (some P) m.n c, .slice (some Q) m.n d, .int .i64 s, .int .i64 a, .int .i64 l, .int .i64 x, .int .i64 y], .slice A2 na ca, .slice B2 nb cb] w (fun e w' => e = .returned (.bool true) ∧ Up w w') := by
  have hf := fun w => fewr_any m.n s a l x y (some P) (some Q) m.n m.n c d w
  rw [fewr_ok m s a l x y hm.1 hn hr hl hp] at hf
  have hf := Lib.hid hf
  have hua2 : ∀ z ∈ ea ++ eb, U64 z.1 := fun z hz => by
    rcases List.mem_append.1 hz with q | q
    · exact hua z q
    · exact hub z q
  have hAB := Lib.hid (show ∀ (v : Value) (W : World) (U : Up w W) (hv : E.Sl W v (ea ++ eb)), Calls Try.prog 9 #[rov m.n (sl P m.n c) (sl Q m.n d) s a l x y, v] W (fun e w' => ∃ P' Q' c' d', e = .returned (.tuple #[rov K.n (sl P' K.n c') (sl Q' K.n d') s a2 l x y, .int .i64 ((na : Int) + (nb : Int)), .int .i64 0]) ∧ Sits w' K P' Q' c' d' ∧ Up W w') from fun v W U hv => by
    have q := E.all_any m s a l x y P Q c d v (ea ++ eb) W (hm.up U) hwf hr hl hv hua2
    rw [hy] at q
    exact q)
  have hA1 := Lib.hid (show ∀ (W : World) (U : Up w W), Calls Try.prog 9 #[rov m.n (sl P m.n c) (sl Q m.n d) s a l x y, .slice A2 na ca] W (fun e w' => ∃ P' Q' c' d', e = .returned (.tuple #[rov Kz.n (sl P' Kz.n c') (sl Q' Kz.n d') s az l x y, .int .i64 ((na : Int)), .int .i64 0]) ∧ Sits w' Kz P' Q' c' d' ∧ Up W w') from fun W U => by
    have q := E.all_any m s a l x y P Q c d _ ea W (hm.up U) hwf hr hl (hsa.up U) hua
    rw [hz] at q
    exact q)
  have hLo := Lib.hid (show ∀ (W : World) (U : Up w W) (g : Nat) (h : Blk W g 32 #[.slice A2 na ca, .slice B2 nb cb]), Calls Try.prog 10 #[rov m.n (sl P m.n c) (sl Q m.n d) s a l x y, .slice (some ⟨g, 0, none⟩) 2 2] W (fun e w' => ∃ P' Q' c' d' A' k', e = .returned (.tuple #[rov K.n (sl P' K.n c') (sl Q' K.n d') s a2 l x y, .slice A' 2 k', .int .i64 0]) ∧ Sits w' K P' Q' c' d' ∧ E.Rw w' (.slice A' 2 k') J ∧ Up W w') from fun W U g h => by
    have hrw : E.Rw W (.slice (some ⟨g, 0, none⟩) 2 2) [ea, eb] := ⟨_, 2, rfl, by simp, by unfold maxLen; simp, fun q => (by cases q), fun _ => ⟨_, rfl, h.lt, fun j xs hj => by
      match j with
      | 0 =>
        simp at hj
        subst hj
        exact ⟨_, by rw [add_zero']; exact h.cell 0, hsa.up U⟩
      | 1 =>
        simp at hj
        subst hj
        exact ⟨_, by rw [add_zero']; exact h.cell 1, hsb.up U⟩
      | j + 2 => simp at hj⟩⟩
    have q := E.logs_any m s a l x y P Q c d _ [ea, eb] W (hm.up U) hwf hr hl hrw (by simp) (by simp; omega) (by simp only [List.mem_cons, List.not_mem_nil, or_false]; rintro r (rfl | rfl); exact hua; exact hub)
    rw [hk] at q
    refine q.mono ?_
    rintro e w' ⟨P', Q', c', d', v, rfl, hs, hv, hu⟩
    have hv2 := hv
    obtain ⟨A', k', rfl, -⟩ := hv
    simp only [] at hv2 ⊢
    rw [hJn] at hv2 ⊢
    exact ⟨P', Q', c', d', A', k', rfl, hs, hv2, hu⟩)
  have hMb := Lib.hid (show ∀ (W : World) (A' : Option Addr) (k' : Nat) (h : E.Rw W (.slice A' 2 k') J), Calls Try.prog 12 #[.slice A' 2 k'] W (fun e w' => e = .returned (.int .i64 (0)) ∧ Up W w') from fun W A' k' h => by
    refine (E.rmany_any _ J W h).mono ?_
    rintro e w' ⟨rfl, rfl⟩
    exact ⟨by rw [hj], Up.refl _⟩)
  have hSm := Lib.hid (fun (P1 Q1 : Addr) (c1 d1 : Nat) (P2 Q2 : Addr) (c2 d2 : Nat) (W : World) (S1 : Sits W K P1 Q1 c1 d1) (S2 : Sits W K P2 Q2 c2 d2) => rosame_self K P1 Q1 P2 Q2 c1 d1 c2 d2 s a2 l x y W S1 S2)
  have hsaH := Lib.hid hsa
  have hsbH := Lib.hid hsb
  have hbnd : ea.length + eb.length ≤ 60 := by omega
  have HBN := Lib.hid hbnd
  have b1 : (na : Int) ≤ 8796093021952 := by omega
  have b2 : (nb : Int) ≤ 8796093021952 := by omega
  have hB1 := Lib.hid (show ∀ (P1 Q1 : Addr) (c1 d1 : Nat) (W : World) (U : Up w W) (S : Sits W Kz P1 Q1 c1 d1), Calls Try.prog 9 #[rov Kz.n (sl P1 Kz.n c1) (sl Q1 Kz.n d1) s az l x y, .slice B2 nb cb] W (fun e w' => ∃ P' Q' c' d', e = .returned (.tuple #[rov K.n (sl P' K.n c') (sl Q' K.n d') s a2 l x y, .int .i64 (nb : Int), .int .i64 0]) ∧ Sits w' K P' Q' c' d' ∧ Up W w') from fun P1 Q1 c1 d1 W U S => by
    have q := E.all_any Kz s az l x y P1 Q1 c1 d1 _ eb W S hkb.wf hr2 hl2 (hsb.up U) hub
    rw [hw] at q
    exact q)
  have q0 : decide ((60 : Int) < (na : Int) + (nb : Int)) = false := decide_eq_false (by omega)
  clear hm hwf hn hr hl hp hsa hsb hla hlb hua hub hua2 hJn hj hy hz hk hbnd hw hkb hr2 hl2
  go_enter Try.func3, Try.ntmps3
  go_wp2_with (fail)
  refine calls_at (fun V1 hV => ?_)
  have kv : Up w V1 := by rw [hV]; (repeat (first | with_reducible exact Up.refl _ | with_reducible refine Up.alloc ?_ _ | with_reducible refine Up.drew ?_ | refine Up.setCell ?_ (by simp <;> omega) _))
  have Xv : Blk V1 (w.heap.size) 31 #[.int .i64 m.n, .slice (some P) m.n c, .slice (some Q) m.n d, .int .i64 s, .int .i64 a, .int .i64 l, .int .i64 x, .int .i64 y] := by rw [hV]; (repeat (first | with_reducible exact Blk.new' _ (by simp) _ _ | with_reducible refine Blk.alloc ?_ _ | with_reducible refine Blk.drew ?_ | refine Blk.far ?_ (by simp <;> omega) _))
  have Uv : Up w V1 := kv
  clear hV kv 
  refine (shown13 _).mono ?_
  rintro e w1 ⟨rfl, k1⟩
  have X1 := Xv.up k1
  have U1 := Uv.trans k1
  clear k1 Uv Xv 
  have X1c := X1.cell
  have X1f := X1.frozen
  have X1l := X1.lt
  go_wp2_with (fail)
  refine calls_at (fun V2 hV => ?_)
  have kv : Up w1 V2 := by rw [hV]; (repeat (first | with_reducible exact Up.refl _ | with_reducible refine Up.alloc ?_ _ | with_reducible refine Up.drew ?_ | refine Up.setCell ?_ (by simp <;> omega) _))
  have Xv := X1.up kv
  have Uv : Up w V2 := U1.trans kv
  clear hV kv X1 X1c X1f X1l U1
  refine (hf.out _).mono ?_
  rintro e w2 ⟨rfl, k2⟩
  have X2 := Xv.up k2
  have U2 := Uv.trans k2
  clear k2 Uv Xv 
  have X2c := X2.cell
  have X2f := X2.frozen
  have X2l := X2.lt
  go_upto_region 5 with fail
  go_cut [9, 10, 11] from 35 to 45 (fun y9 n10 e11 wx => ∃ (B : Nat) (P1 Q1 : Addr) (c1 d1 : Nat), y9 = .pointer (some ⟨B, 0, none⟩) ∧ n10 = .int .i64 ((na : Int) + (nb : Int)) ∧ e11 = .int .i64 0 ∧ Blk wx B 31 #[.int .i64 K.n, .slice (some P1) K.n c1, .slice (some Q1) K.n d1, .int .i64 s, .int .i64 a2, .int .i64 l, .int .i64 x, .int .i64 y] ∧ Sits wx K P1 Q1 c1 d1 ∧ Up w2 wx)
  case first =>
    clear hA1 hLo hMb hSm
    have hold : ∀ V : World, Up w2 V → ∀ i, V.cell? ⟨w.heap.size, i, none⟩ = (#[.int .i64 m.n, .slice (some P) m.n c, .slice (some Q) m.n d, .int .i64 s, .int .i64 a, .int .i64 l, .int .i64 x, .int .i64 y] : Array Value)[i]? := fun V hV i => (X2.up hV).cell i
    replace hold := Lib.hid hold
    have U2H := Lib.hid U2
    have hsa2 := Lib.hid (hsaH.out.up U2)
    have hsb2 := Lib.hid (hsbH.out.up U2)
    have T0 : Up w2 (World.drew w2) := (Up.refl w2).drew
    have T1 : Up w2 (World.drew (World.alloc w2 (.cells #[] 46))) := ((Up.refl w2).alloc _).drew
    have T2 : Up w2 (World.drew (World.alloc (World.alloc w2 (.cells #[] 46)) (.cells zr 31))) := (((Up.refl w2).alloc _).alloc _).drew
    have T3 : Up w2 (World.drew (World.alloc (World.alloc w2 (.cells zr 31)) (.cells #[] 46))) := (((Up.refl w2).alloc _).alloc _).drew
    have T4 : Up w2 (World.drew (World.alloc w2 (.cells zr 31))) := ((Up.refl w2).alloc _).drew
    clear X2 X2c X2f X2l U2
    go_region_held3 (fun w' => ∀ i, w'.cell? ⟨w.heap.size, i, none⟩ = (#[.int .i64 m.n, .slice (some P) m.n c, .slice (some Q) m.n d, .int .i64 s, .int .i64 a, .int .i64 l, .int .i64 x, .int .i64 y] : Array Value)[i]?)
      (first
        | with_reducible exact hold.out _ T0
        | with_reducible exact hold.out _ T1
        | with_reducible exact hold.out _ T2
        | with_reducible exact hold.out _ T3
        | with_reducible exact hold.out _ T4
        | with_reducible exact hold.out _ UA
        | with_reducible exact hold.out _ (Up.alloc UA _)
        | with_reducible exact hold.out _ UB
        | with_reducible exact hold.out _ (Up.alloc UB _)
        | with_reducible exact hold.out _ UZ
        | with_reducible exact hold.out _ (Up.alloc UZ _)
        | with_reducible exact hold.out _ (Up.set8 UZ (by omega) _ _ _ _ _ _ _ _))
      (first
        | (refine E.step_any (W0 := w2) (by rfl) _ _ (by rfl) (.slice (some ⟨w2.heap.size, 0, none⟩) 0 0) [] (by rfl) (E.lo_empty (Blk.new w2 _ _).drew (Nat.le_refl _)) (.slice A2 na ca) ea (by rfl) (hsa2.out.up T1) (by simp only [List.length_nil]; have := HBN.out; omega) T1 ?_; intro v1 wa hl1 UA hk1; have SA := UA.size)
        | (refine E.step_any (W0 := w2) (by rfl) _ _ (by rfl) (.slice (some ⟨w2.heap.size, 0, none⟩) 0 0) [] (by rfl) (E.lo_empty ((Blk.new w2 _ _).alloc _).drew (Nat.le_refl _)) (.slice A2 na ca) ea (by rfl) (hsa2.out.up T2) (by simp only [List.length_nil]; have := HBN.out; omega) T2 ?_; intro v1 wa hl1 UA hk1; have SA := UA.size; have NZ1 := hk1 _ _ _ (E.blk_two (w := w2) (t := 46) (cs := #[]) (ds := zr) (u := 31)) (by decide))
        | (refine E.step_any (W0 := w2) (by rfl) _ _ (by rfl) (.slice (some ⟨w2.heap.size + 1, 0, none⟩) 0 0) [] (by rfl) (E.lo_empty E.blk_two (by omega)) (.slice A2 na ca) ea (by rfl) (hsa2.out.up T3) (by simp only [List.length_nil]; have := HBN.out; omega) T3 ?_; intro v1 wa hl1 UA hk1; have SA := UA.size; have NZ1 := hk1 _ _ _ ((Blk.new w2 31 zr).alloc (.cells #[] 46)).drew (by decide))
        | (refine E.step_any (W0 := w2) (by rfl) _ _ (by rfl) v1 ea (by rfl) hl1 (.slice B2 nb cb) eb (by rfl) (hsb2.out.up UA) (by have := HBN.out; omega) UA ?_; intro v2 wb hl2 UB hk2; have SB := UB.size; (try (have NZ2 := hk2 _ _ _ NZ1 (by decide))))
        | (refine E.step_any (W0 := w2) (by rfl) _ _ (by rfl) v1 ea (by rfl) (hl1.alloc _) (.slice B2 nb cb) eb (by rfl) (hsb2.out.up (UA.alloc _)) (by have := HBN.out; omega) (UA.alloc _) ?_; intro v2 wb hl2 UB hk2; have SB := UB.size; have NZ2 := hk2 _ _ _ (Blk.new wa 31 zr) (by decide))
        | (go_at_call 9; ((with_reducible refine (hAB.out v2 wb (U2H.out.trans UB) (E.Sl.of_lo hl2)).mono ?_); rintro e wz ⟨P1, Q1, c1, d1, rfl, sz, hz⟩; have UZ := UB.trans hz; (try (have NZ3 := NZ2.up hz; have NZc := NZ3.cell; have NZf := NZ3.frozen; have NZl := NZ3.lt))))
        | (go_at_call 9; ((with_reducible refine (hAB.out v2 _ (U2H.out.trans (UB.alloc _)) (E.Sl.of_lo (hl2.alloc _))).mono ?_); rintro e wz ⟨P1, Q1, c1, d1, rfl, sz, hz⟩; have UZ := (UB.alloc _).trans hz; have NZ3 := (Blk.new wb 31 zr).up hz; have NZc := NZ3.cell; have NZf := NZ3.frozen; have NZl := NZ3.lt)))
    all_goals
      go_wp2_with (fail)
      go_meet
      first
        | with_reducible exact ⟨_, P1, Q1, c1, d1, rfl, rfl, rfl, Blk.new wz _ _, sz.up ((Up.refl _).alloc _), UZ.alloc _⟩
        | with_reducible exact ⟨_, P1, Q1, c1, d1, rfl, rfl, rfl, NZ3.set8 _ _ _ _ _ _ _ _, sz.far8 NZ3 _ _ _ _ _ _ _ _, UZ.set8 (by omega) _ _ _ _ _ _ _ _⟩
  case rest =>
    obtain ⟨B, P1, Q1, c1, d1, rfl, rfl, rfl, Y3, s13, k3⟩ := hcut
    have U3 := U2.trans k3
    have X3 := X2.up k3
    clear k3 U2 X2 X2c X2f X2l hAB
    have X3c := X3.cell
    have X3f := X3.frozen
    have X3l := X3.lt
    have Y3c := Y3.cell
    have Y3f := Y3.frozen
    have Y3l := Y3.lt
    go_wp2_with (fail)
    refine calls_at (fun V4 hV => ?_)
    have kv : Up wc V4 := by rw [hV]; (repeat (first | with_reducible exact Up.refl _ | with_reducible refine Up.alloc ?_ _ | with_reducible refine Up.drew ?_ | refine Up.setCell ?_ (by simp <;> omega) _))
    have Xv := X3.up kv
    have Yv := Y3.up kv
    have Uv : Up w V4 := U3.trans kv
    have s1v := s13.up kv
    clear hV kv X3 X3c X3f X3l Y3 Y3c Y3f Y3l U3 s13
    refine (hA1.out V4 Uv).mono ?_
    rintro e w4 ⟨P2, Q2, c2, d2, rfl, s24, k4⟩
    have X4 := Xv.up k4
    have Y4 := Yv.up k4
    have U4 := Uv.trans k4
    have s14 := s1v.up k4
    clear k4 Uv Xv Yv s1v
    have X4c := X4.cell
    have X4f := X4.frozen
    have X4l := X4.lt
    have Y4c := Y4.cell
    have Y4f := Y4.frozen
    have Y4l := Y4.lt
    go_wp2_with (fail)
    refine calls_at (fun V5 hV => ?_)
    have kv : Up w4 V5 := by rw [hV]; (repeat (first | with_reducible exact Up.refl _ | with_reducible refine Up.alloc ?_ _ | with_reducible refine Up.drew ?_ | refine Up.setCell ?_ (by simp <;> omega) _))
    have Xv := X4.up kv
    have Yv := Y4.up kv
    have Zv : Blk V5 (w4.heap.size) 31 #[.int .i64 Kz.n, .slice (some P2) Kz.n c2, .slice (some Q2) Kz.n d2, .int .i64 s, .int .i64 az, .int .i64 l, .int .i64 x, .int .i64 y] := by rw [hV]; (repeat (first | with_reducible exact Blk.new' _ (by simp) _ _ | with_reducible refine Blk.alloc ?_ _ | with_reducible refine Blk.drew ?_ | refine Blk.far ?_ (by simp <;> omega) _))
    have Gv : Blk V5 (w4.heap.size + 1) 32 #[.slice A2 na ca, .slice B2 nb cb] := by rw [hV]; (repeat (first | with_reducible exact Blk.new' _ (by simp) _ _ | with_reducible refine Blk.alloc ?_ _ | with_reducible refine Blk.drew ?_ | refine Blk.far ?_ (by simp <;> omega) _))
    have Uv : Up w V5 := U4.trans kv
    have s1v := s14.up kv
    have s2v := s24.up kv
    clear hV kv X4 X4c X4f X4l Y4 Y4c Y4f Y4l U4 s14 s24
    refine (hLo.out V5 Uv _ Gv).mono ?_
    rintro e w5 ⟨P3, Q3, c3, d3, A3, k3_, rfl, s35, hJ, k5⟩
    have X5 := Xv.up k5
    have Y5 := Yv.up k5
    have Z5 := Zv.up k5
    have G5 := Gv.up k5
    have U5 := Uv.trans k5
    have s15 := s1v.up k5
    have s25 := s2v.up k5
    clear k5 Uv Xv Yv Zv Gv s1v s2v
    have X5c := X5.cell
    have X5f := X5.frozen
    have X5l := X5.lt
    have Y5c := Y5.cell
    have Y5f := Y5.frozen
    have Y5l := Y5.lt
    have Z5c := Z5.cell
    have Z5f := Z5.frozen
    have Z5l := Z5.lt
    have G5c := G5.cell
    have G5f := G5.frozen
    have G5l := G5.lt
    have HJ5 := Lib.hid hJ
    clear hJ
    go_wp2_with (fail)
    refine calls_at (fun V6 hV => ?_)
    have kv : Up w5 V6 := by rw [hV]; (repeat (first | with_reducible exact Up.refl _ | with_reducible refine Up.alloc ?_ _ | with_reducible refine Up.drew ?_ | refine Up.setCell ?_ (by simp <;> omega) _))
    have Xv := X5.up kv
    have Yv := Y5.up kv
    have Zv := Z5.up kv
    have Gv := G5.up kv
    have Dv : Blk V6 (w5.heap.size) 31 #[.int .i64 K.n, .slice (some P3) K.n c3, .slice (some Q3) K.n d3, .int .i64 s, .int .i64 a2, .int .i64 l, .int .i64 x, .int .i64 y] := by rw [hV]; (repeat (first | with_reducible exact Blk.new' _ (by simp) _ _ | with_reducible refine Blk.alloc ?_ _ | with_reducible refine Blk.drew ?_ | refine Blk.far ?_ (by simp <;> omega) _))
    have Uv : Up w V6 := U5.trans kv
    have s1v := s15.up kv
    have s2v := s25.up kv
    have s3v := s35.up kv
    have HUV := Lib.hid kv
    clear hV kv X5 X5c X5f X5l Y5 Y5c Y5f Y5l Z5 Z5c Z5f Z5l G5 G5c G5f G5l U5 s15 s25 s35
    have HJ6 := Lib.hid (HJ5.out.up HUV.out)
    refine (hB1.out P2 Q2 c2 d2 V6 Uv s2v).mono ?_
    rintro e w6 ⟨P4, Q4, c4, d4, rfl, s46, k6⟩
    have X6 := Xv.up k6
    have Y6 := Yv.up k6
    have Z6 := Zv.up k6
    have G6 := Gv.up k6
    have D6 := Dv.up k6
    have U6 := Uv.trans k6
    have HJ7 := Lib.hid (HJ6.out.up k6)
    have s16 := s1v.up k6
    have s36 := s3v.up k6
    clear k6 Uv Xv Yv Zv Gv Dv s1v s2v s3v HJ5 HJ6 HUV
    have X6c := X6.cell
    have X6f := X6.frozen
    have X6l := X6.lt
    have Y6c := Y6.cell
    have Y6f := Y6.frozen
    have Y6l := Y6.lt
    have Z6c := Z6.cell
    have Z6f := Z6.frozen
    have Z6l := Z6.lt
    have G6c := G6.cell
    have G6f := G6.frozen
    have G6l := G6.lt
    have D6c := D6.cell
    have D6f := D6.frozen
    have D6l := D6.lt
    go_wp2_with (fail)
    refine calls_at (fun V7 hV => ?_)
    have kv : Up w6 V7 := by rw [hV]; (repeat (first | with_reducible exact Up.refl _ | with_reducible refine Up.alloc ?_ _ | with_reducible refine Up.drew ?_ | refine Up.setCell ?_ (by simp <;> omega) _))
    have Xv := X6.up kv
    have Yv := Y6.up kv
    have Zv := Z6.up kv
    have Gv := G6.up kv
    have Dv := D6.up kv
    have Cv : Blk V7 (w6.heap.size) 31 #[.int .i64 K.n, .slice (some P4) K.n c4, .slice (some Q4) K.n d4, .int .i64 s, .int .i64 a2, .int .i64 l, .int .i64 x, .int .i64 y] := by rw [hV]; (repeat (first | with_reducible exact Blk.new' _ (by simp) _ _ | with_reducible refine Blk.alloc ?_ _ | with_reducible refine Blk.drew ?_ | refine Blk.far ?_ (by simp <;> omega) _))
    have Uv : Up w V7 := U6.trans kv
    have s1v := s16.up kv
    have s3v := s36.up kv
    have s4v := s46.up kv
    have HUV := Lib.hid kv
    clear hV kv X6 X6c X6f X6l Y6 Y6c Y6f Y6l Z6 Z6c Z6f Z6l G6 G6c G6f G6l D6 D6c D6f D6l U6 s16 s36 s46
    have HJ8 := Lib.hid (HJ7.out.up HUV.out)
    refine (hSm.out P4 Q4 c4 d4 P1 Q1 c1 d1 V7 s4v s1v).mono ?_
    rintro e w7 ⟨rfl, k7⟩
    have X7 := Xv.up k7
    have Y7 := Yv.up k7
    have Z7 := Zv.up k7
    have G7 := Gv.up k7
    have D7 := Dv.up k7
    have C7 := Cv.up k7
    have U7 := Uv.trans k7
    have HJ9 := Lib.hid (HJ8.out.up k7)
    have s17 := s1v.up k7
    have s37 := s3v.up k7
    clear k7 Uv Xv Yv Zv Gv Dv Cv s1v s3v s4v HJ7 HJ8 HUV
    have X7c := X7.cell
    have X7f := X7.frozen
    have X7l := X7.lt
    have Y7c := Y7.cell
    have Y7f := Y7.frozen
    have Y7l := Y7.lt
    have Z7c := Z7.cell
    have Z7f := Z7.frozen
    have Z7l := Z7.lt
    have G7c := G7.cell
    have G7f := G7.frozen
    have G7l := G7.lt
    have D7c := D7.cell
    have D7f := D7.frozen
    have D7l := D7.lt
    have C7c := C7.cell
    have C7f := C7.frozen
    have C7l := C7.lt
    go_wp2_with (fail)
    refine (hSm.out P3 Q3 c3 d3 P1 Q1 c1 d1 w7 s37 s17).mono ?_
    rintro e w8 ⟨rfl, k8⟩
    have X8 := X7.up k8
    clear X7 X7c X7f X7l
    have Y8 := Y7.up k8
    clear Y7 Y7c Y7f Y7l
    have Z8 := Z7.up k8
    clear Z7 Z7c Z7f Z7l
    have G8 := G7.up k8
    clear G7 G7c G7f G7l
    have D8 := D7.up k8
    clear D7 D7c D7f D7l
    have C8 := C7.up k8
    clear C7 C7c C7f C7l
    have U8 := U7.trans k8
    have HJ10 := Lib.hid (HJ9.out.up k8)
    clear k8 U7 HJ9 s17 s37
    have X8c := X8.cell
    have X8f := X8.frozen
    have X8l := X8.lt
    have Y8c := Y8.cell
    have Y8f := Y8.frozen
    have Y8l := Y8.lt
    have Z8c := Z8.cell
    have Z8f := Z8.frozen
    have Z8l := Z8.lt
    have G8c := G8.cell
    have G8f := G8.frozen
    have G8l := G8.lt
    have D8c := D8.cell
    have D8f := D8.frozen
    have D8l := D8.lt
    have C8c := C8.cell
    have C8f := C8.frozen
    have C8l := C8.lt
    go_wp2_with (fail)
    refine (hMb.out w8 A3 k3_ HJ10.out).mono ?_
    rintro e w9 ⟨rfl, k9⟩
    have U9 := U8.trans k9
    clear k9 U8 HJ10
    go_wp2
    go_ret
    exact ⟨rfl, U9⟩

set_option maxRecDepth 100000 in
set_option maxHeartbeats 8000000 in
theorem walk_e1 (m : Me) (P Q : Addr) (c d : Nat) (s a l x y : Int) (A2 B2 : Option Addr) (na ca nb cb : Nat) (w : World) (hm : Sits w m P Q c d) (hwf : m.wf) (hn : m.n ≤ 200) (hr : rgt s a l) (hl : l = m.n) (hp : (x = 0 ∧ y = 0) ∨ (0 ≤ x ∧ x ≤ y ∧ y ≤ a)) (ea eb : List E.Ent) (hsa : E.Sl w (.slice A2 na ca) ea) (hsb : E.Sl w (.slice B2 nb cb) eb) (hla : ea.length = na) (hlb : eb.length = nb) (hua : ∀ z ∈ ea, U64 z.1) (hub : ∀ z ∈ eb, U64 z.1) (h60 : na + nb ≤ 60) (K : Me) (a2 : Int) (J : List (List E.Ent)) (hJn : J.length = 2) (ny : Nat) (er : Int) (he : er ≠ 0) (hny : ny ≤ na + nb) (hy : don s l (ea ++ eb) m a = ⟨K, a2, ny, er⟩) (hk : lgs s l [ea, eb] m a = ⟨K, a2, J, er⟩) (hj : E.mny J 0 = (na : Int) + (nb : Int) - (ny : Int)) (hz : don s l ea m a = ⟨K, a2, ny, er⟩) :
    Calls Try.prog 3 #[.agg #[.int .i64 m.n, .slice (some P) m.n c, .slice (some Q) m.n d, .int .i64 s, .int .i64 a, .int .i64 l, .int .i64 x, .int .i64 y], .slice A2 na ca, .slice B2 nb cb] w (fun e w' => e = .returned (.bool true) ∧ Up w w') := by
  have hf := fun w => fewr_any m.n s a l x y (some P) (some Q) m.n m.n c d w
  rw [fewr_ok m s a l x y hm.1 hn hr hl hp] at hf
  have hf := Lib.hid hf
  have hua2 : ∀ z ∈ ea ++ eb, U64 z.1 := fun z hz => by
    rcases List.mem_append.1 hz with q | q
    · exact hua z q
    · exact hub z q
  have hAB := Lib.hid (show ∀ (v : Value) (W : World) (U : Up w W) (hv : E.Sl W v (ea ++ eb)), Calls Try.prog 9 #[rov m.n (sl P m.n c) (sl Q m.n d) s a l x y, v] W (fun e w' => ∃ P' Q' c' d', e = .returned (.tuple #[rov K.n (sl P' K.n c') (sl Q' K.n d') s a2 l x y, .int .i64 ((ny : Int)), .int .i64 er]) ∧ Sits w' K P' Q' c' d' ∧ Up W w') from fun v W U hv => by
    have q := E.all_any m s a l x y P Q c d v (ea ++ eb) W (hm.up U) hwf hr hl hv hua2
    rw [hy] at q
    exact q)
  have hA1 := Lib.hid (show ∀ (W : World) (U : Up w W), Calls Try.prog 9 #[rov m.n (sl P m.n c) (sl Q m.n d) s a l x y, .slice A2 na ca] W (fun e w' => ∃ P' Q' c' d', e = .returned (.tuple #[rov K.n (sl P' K.n c') (sl Q' K.n d') s a2 l x y, .int .i64 ((ny : Int)), .int .i64 er]) ∧ Sits w' K P' Q' c' d' ∧ Up W w') from fun W U => by
    have q := E.all_any m s a l x y P Q c d _ ea W (hm.up U) hwf hr hl (hsa.up U) hua
    rw [hz] at q
    exact q)
  have hLo := Lib.hid (show ∀ (W : World) (U : Up w W) (g : Nat) (h : Blk W g 32 #[.slice A2 na ca, .slice B2 nb cb]), Calls Try.prog 10 #[rov m.n (sl P m.n c) (sl Q m.n d) s a l x y, .slice (some ⟨g, 0, none⟩) 2 2] W (fun e w' => ∃ P' Q' c' d' A' k', e = .returned (.tuple #[rov K.n (sl P' K.n c') (sl Q' K.n d') s a2 l x y, .slice A' 2 k', .int .i64 er]) ∧ Sits w' K P' Q' c' d' ∧ E.Rw w' (.slice A' 2 k') J ∧ Up W w') from fun W U g h => by
    have hrw : E.Rw W (.slice (some ⟨g, 0, none⟩) 2 2) [ea, eb] := ⟨_, 2, rfl, by simp, by unfold maxLen; simp, fun q => (by cases q), fun _ => ⟨_, rfl, h.lt, fun j xs hj => by
      match j with
      | 0 =>
        simp at hj
        subst hj
        exact ⟨_, by rw [add_zero']; exact h.cell 0, hsa.up U⟩
      | 1 =>
        simp at hj
        subst hj
        exact ⟨_, by rw [add_zero']; exact h.cell 1, hsb.up U⟩
      | j + 2 => simp at hj⟩⟩
    have q := E.logs_any m s a l x y P Q c d _ [ea, eb] W (hm.up U) hwf hr hl hrw (by simp) (by simp; omega) (by simp only [List.mem_cons, List.not_mem_nil, or_false]; rintro r (rfl | rfl); exact hua; exact hub)
    rw [hk] at q
    refine q.mono ?_
    rintro e w' ⟨P', Q', c', d', v, rfl, hs, hv, hu⟩
    have hv2 := hv
    obtain ⟨A', k', rfl, -⟩ := hv
    simp only [] at hv2 ⊢
    rw [hJn] at hv2 ⊢
    exact ⟨P', Q', c', d', A', k', rfl, hs, hv2, hu⟩)
  have hMb := Lib.hid (show ∀ (W : World) (A' : Option Addr) (k' : Nat) (h : E.Rw W (.slice A' 2 k') J), Calls Try.prog 12 #[.slice A' 2 k'] W (fun e w' => e = .returned (.int .i64 ((na : Int) + (nb : Int) - (ny : Int))) ∧ Up W w') from fun W A' k' h => by
    refine (E.rmany_any _ J W h).mono ?_
    rintro e w' ⟨rfl, rfl⟩
    exact ⟨by rw [hj], Up.refl _⟩)
  have hSm := Lib.hid (fun (P1 Q1 : Addr) (c1 d1 : Nat) (P2 Q2 : Addr) (c2 d2 : Nat) (W : World) (S1 : Sits W K P1 Q1 c1 d1) (S2 : Sits W K P2 Q2 c2 d2) => rosame_self K P1 Q1 P2 Q2 c1 d1 c2 d2 s a2 l x y W S1 S2)
  have hsaH := Lib.hid hsa
  have hsbH := Lib.hid hsb
  have hbnd : ea.length + eb.length ≤ 60 := by omega
  have HBN := Lib.hid hbnd
  have b1 : (na : Int) ≤ 8796093021952 := by omega
  have b2 : (nb : Int) ≤ 8796093021952 := by omega
  have q0 : decide ((60 : Int) < (na : Int) + (nb : Int)) = false := decide_eq_false (by omega)
  have q1 : (er != 0) = true := bne_iff_ne.2 he
  have q2 : (er == 0) = false := beq_eq_false_iff_ne.2 he
  have b3 : (ny : Int) ≤ (na : Int) + (nb : Int) := by omega
  clear hm hwf hn hr hl hp hsa hsb hla hlb hua hub hua2 hJn hj hy hz hk hbnd he hny
  go_enter Try.func3, Try.ntmps3
  go_wp2_with (fail)
  refine calls_at (fun V1 hV => ?_)
  have kv : Up w V1 := by rw [hV]; (repeat (first | with_reducible exact Up.refl _ | with_reducible refine Up.alloc ?_ _ | with_reducible refine Up.drew ?_ | refine Up.setCell ?_ (by simp <;> omega) _))
  have Xv : Blk V1 (w.heap.size) 31 #[.int .i64 m.n, .slice (some P) m.n c, .slice (some Q) m.n d, .int .i64 s, .int .i64 a, .int .i64 l, .int .i64 x, .int .i64 y] := by rw [hV]; (repeat (first | with_reducible exact Blk.new' _ (by simp) _ _ | with_reducible refine Blk.alloc ?_ _ | with_reducible refine Blk.drew ?_ | refine Blk.far ?_ (by simp <;> omega) _))
  have Uv : Up w V1 := kv
  clear hV kv 
  refine (shown13 _).mono ?_
  rintro e w1 ⟨rfl, k1⟩
  have X1 := Xv.up k1
  have U1 := Uv.trans k1
  clear k1 Uv Xv 
  have X1c := X1.cell
  have X1f := X1.frozen
  have X1l := X1.lt
  go_wp2_with (fail)
  refine calls_at (fun V2 hV => ?_)
  have kv : Up w1 V2 := by rw [hV]; (repeat (first | with_reducible exact Up.refl _ | with_reducible refine Up.alloc ?_ _ | with_reducible refine Up.drew ?_ | refine Up.setCell ?_ (by simp <;> omega) _))
  have Xv := X1.up kv
  have Uv : Up w V2 := U1.trans kv
  clear hV kv X1 X1c X1f X1l U1
  refine (hf.out _).mono ?_
  rintro e w2 ⟨rfl, k2⟩
  have X2 := Xv.up k2
  have U2 := Uv.trans k2
  clear k2 Uv Xv 
  have X2c := X2.cell
  have X2f := X2.frozen
  have X2l := X2.lt
  go_upto_region 5 with fail
  go_cut [9, 10, 11] from 35 to 45 (fun y9 n10 e11 wx => ∃ (B : Nat) (P1 Q1 : Addr) (c1 d1 : Nat), y9 = .pointer (some ⟨B, 0, none⟩) ∧ n10 = .int .i64 ((ny : Int)) ∧ e11 = .int .i64 er ∧ Blk wx B 31 #[.int .i64 K.n, .slice (some P1) K.n c1, .slice (some Q1) K.n d1, .int .i64 s, .int .i64 a2, .int .i64 l, .int .i64 x, .int .i64 y] ∧ Sits wx K P1 Q1 c1 d1 ∧ Up w2 wx)
  case first =>
    clear hA1 hLo hMb hSm
    have hold : ∀ V : World, Up w2 V → ∀ i, V.cell? ⟨w.heap.size, i, none⟩ = (#[.int .i64 m.n, .slice (some P) m.n c, .slice (some Q) m.n d, .int .i64 s, .int .i64 a, .int .i64 l, .int .i64 x, .int .i64 y] : Array Value)[i]? := fun V hV i => (X2.up hV).cell i
    replace hold := Lib.hid hold
    have U2H := Lib.hid U2
    have hsa2 := Lib.hid (hsaH.out.up U2)
    have hsb2 := Lib.hid (hsbH.out.up U2)
    have T0 : Up w2 (World.drew w2) := (Up.refl w2).drew
    have T1 : Up w2 (World.drew (World.alloc w2 (.cells #[] 46))) := ((Up.refl w2).alloc _).drew
    have T2 : Up w2 (World.drew (World.alloc (World.alloc w2 (.cells #[] 46)) (.cells zr 31))) := (((Up.refl w2).alloc _).alloc _).drew
    have T3 : Up w2 (World.drew (World.alloc (World.alloc w2 (.cells zr 31)) (.cells #[] 46))) := (((Up.refl w2).alloc _).alloc _).drew
    have T4 : Up w2 (World.drew (World.alloc w2 (.cells zr 31))) := ((Up.refl w2).alloc _).drew
    clear X2 X2c X2f X2l U2
    go_region_held3 (fun w' => ∀ i, w'.cell? ⟨w.heap.size, i, none⟩ = (#[.int .i64 m.n, .slice (some P) m.n c, .slice (some Q) m.n d, .int .i64 s, .int .i64 a, .int .i64 l, .int .i64 x, .int .i64 y] : Array Value)[i]?)
      (first
        | with_reducible exact hold.out _ T0
        | with_reducible exact hold.out _ T1
        | with_reducible exact hold.out _ T2
        | with_reducible exact hold.out _ T3
        | with_reducible exact hold.out _ T4
        | with_reducible exact hold.out _ UA
        | with_reducible exact hold.out _ (Up.alloc UA _)
        | with_reducible exact hold.out _ UB
        | with_reducible exact hold.out _ (Up.alloc UB _)
        | with_reducible exact hold.out _ UZ
        | with_reducible exact hold.out _ (Up.alloc UZ _)
        | with_reducible exact hold.out _ (Up.set8 UZ (by omega) _ _ _ _ _ _ _ _))
      (first
        | (refine E.step_any (W0 := w2) (by rfl) _ _ (by rfl) (.slice (some ⟨w2.heap.size, 0, none⟩) 0 0) [] (by rfl) (E.lo_empty (Blk.new w2 _ _).drew (Nat.le_refl _)) (.slice A2 na ca) ea (by rfl) (hsa2.out.up T1) (by simp only [List.length_nil]; have := HBN.out; omega) T1 ?_; intro v1 wa hl1 UA hk1; have SA := UA.size)
        | (refine E.step_any (W0 := w2) (by rfl) _ _ (by rfl) (.slice (some ⟨w2.heap.size, 0, none⟩) 0 0) [] (by rfl) (E.lo_empty ((Blk.new w2 _ _).alloc _).drew (Nat.le_refl _)) (.slice A2 na ca) ea (by rfl) (hsa2.out.up T2) (by simp only [List.length_nil]; have := HBN.out; omega) T2 ?_; intro v1 wa hl1 UA hk1; have SA := UA.size; have NZ1 := hk1 _ _ _ (E.blk_two (w := w2) (t := 46) (cs := #[]) (ds := zr) (u := 31)) (by decide))
        | (refine E.step_any (W0 := w2) (by rfl) _ _ (by rfl) (.slice (some ⟨w2.heap.size + 1, 0, none⟩) 0 0) [] (by rfl) (E.lo_empty E.blk_two (by omega)) (.slice A2 na ca) ea (by rfl) (hsa2.out.up T3) (by simp only [List.length_nil]; have := HBN.out; omega) T3 ?_; intro v1 wa hl1 UA hk1; have SA := UA.size; have NZ1 := hk1 _ _ _ ((Blk.new w2 31 zr).alloc (.cells #[] 46)).drew (by decide))
        | (refine E.step_any (W0 := w2) (by rfl) _ _ (by rfl) v1 ea (by rfl) hl1 (.slice B2 nb cb) eb (by rfl) (hsb2.out.up UA) (by have := HBN.out; omega) UA ?_; intro v2 wb hl2 UB hk2; have SB := UB.size; (try (have NZ2 := hk2 _ _ _ NZ1 (by decide))))
        | (refine E.step_any (W0 := w2) (by rfl) _ _ (by rfl) v1 ea (by rfl) (hl1.alloc _) (.slice B2 nb cb) eb (by rfl) (hsb2.out.up (UA.alloc _)) (by have := HBN.out; omega) (UA.alloc _) ?_; intro v2 wb hl2 UB hk2; have SB := UB.size; have NZ2 := hk2 _ _ _ (Blk.new wa 31 zr) (by decide))
        | (go_at_call 9; ((with_reducible refine (hAB.out v2 wb (U2H.out.trans UB) (E.Sl.of_lo hl2)).mono ?_); rintro e wz ⟨P1, Q1, c1, d1, rfl, sz, hz⟩; have UZ := UB.trans hz; (try (have NZ3 := NZ2.up hz; have NZc := NZ3.cell; have NZf := NZ3.frozen; have NZl := NZ3.lt))))
        | (go_at_call 9; ((with_reducible refine (hAB.out v2 _ (U2H.out.trans (UB.alloc _)) (E.Sl.of_lo (hl2.alloc _))).mono ?_); rintro e wz ⟨P1, Q1, c1, d1, rfl, sz, hz⟩; have UZ := (UB.alloc _).trans hz; have NZ3 := (Blk.new wb 31 zr).up hz; have NZc := NZ3.cell; have NZf := NZ3.frozen; have NZl := NZ3.lt)))
    all_goals
      go_wp2_with (fail)
      go_meet
      first
        | with_reducible exact ⟨_, P1, Q1, c1, d1, rfl, rfl, rfl, Blk.new wz _ _, sz.up ((Up.refl _).alloc _), UZ.alloc _⟩
        | with_reducible exact ⟨_, P1, Q1, c1, d1, rfl, rfl, rfl, NZ3.set8 _ _ _ _ _ _ _ _, sz.far8 NZ3 _ _ _ _ _ _ _ _, UZ.set8 (by omega) _ _ _ _ _ _ _ _⟩
  case rest =>
    obtain ⟨B, P1, Q1, c1, d1, rfl, rfl, rfl, Y3, s13, k3⟩ := hcut
    have U3 := U2.trans k3
    have X3 := X2.up k3
    clear k3 U2 X2 X2c X2f X2l hAB
    have X3c := X3.cell
    have X3f := X3.frozen
    have X3l := X3.lt
    have Y3c := Y3.cell
    have Y3f := Y3.frozen
    have Y3l := Y3.lt
    go_wp2_with (fail)
    refine calls_at (fun V4 hV => ?_)
    have kv : Up wc V4 := by rw [hV]; (repeat (first | with_reducible exact Up.refl _ | with_reducible refine Up.alloc ?_ _ | with_reducible refine Up.drew ?_ | refine Up.setCell ?_ (by simp <;> omega) _))
    have Xv := X3.up kv
    have Yv := Y3.up kv
    have Uv : Up w V4 := U3.trans kv
    have s1v := s13.up kv
    clear hV kv X3 X3c X3f X3l Y3 Y3c Y3f Y3l U3 s13
    refine (hA1.out V4 Uv).mono ?_
    rintro e w4 ⟨P2, Q2, c2, d2, rfl, s24, k4⟩
    have X4 := Xv.up k4
    have Y4 := Yv.up k4
    have U4 := Uv.trans k4
    have s14 := s1v.up k4
    clear k4 Uv Xv Yv s1v
    have X4c := X4.cell
    have X4f := X4.frozen
    have X4l := X4.lt
    have Y4c := Y4.cell
    have Y4f := Y4.frozen
    have Y4l := Y4.lt
    go_wp2_with (fail)
    refine calls_at (fun V5 hV => ?_)
    have kv : Up w4 V5 := by rw [hV]; (repeat (first | with_reducible exact Up.refl _ | with_reducible refine Up.alloc ?_ _ | with_reducible refine Up.drew ?_ | refine Up.setCell ?_ (by simp <;> omega) _))
    have Xv := X4.up kv
    have Yv := Y4.up kv
    have Zv : Blk V5 (w4.heap.size) 31 #[.int .i64 K.n, .slice (some P2) K.n c2, .slice (some Q2) K.n d2, .int .i64 s, .int .i64 a2, .int .i64 l, .int .i64 x, .int .i64 y] := by rw [hV]; (repeat (first | with_reducible exact Blk.new' _ (by simp) _ _ | with_reducible refine Blk.alloc ?_ _ | with_reducible refine Blk.drew ?_ | refine Blk.far ?_ (by simp <;> omega) _))
    have Gv : Blk V5 (w4.heap.size + 1) 32 #[.slice A2 na ca, .slice B2 nb cb] := by rw [hV]; (repeat (first | with_reducible exact Blk.new' _ (by simp) _ _ | with_reducible refine Blk.alloc ?_ _ | with_reducible refine Blk.drew ?_ | refine Blk.far ?_ (by simp <;> omega) _))
    have Uv : Up w V5 := U4.trans kv
    have s1v := s14.up kv
    have s2v := s24.up kv
    clear hV kv X4 X4c X4f X4l Y4 Y4c Y4f Y4l U4 s14 s24
    refine (hLo.out V5 Uv _ Gv).mono ?_
    rintro e w5 ⟨P3, Q3, c3, d3, A3, k3_, rfl, s35, hJ, k5⟩
    have X5 := Xv.up k5
    have Y5 := Yv.up k5
    have Z5 := Zv.up k5
    have G5 := Gv.up k5
    have U5 := Uv.trans k5
    have s15 := s1v.up k5
    have s25 := s2v.up k5
    clear k5 Uv Xv Yv Zv Gv s1v s2v
    have X5c := X5.cell
    have X5f := X5.frozen
    have X5l := X5.lt
    have Y5c := Y5.cell
    have Y5f := Y5.frozen
    have Y5l := Y5.lt
    have Z5c := Z5.cell
    have Z5f := Z5.frozen
    have Z5l := Z5.lt
    have G5c := G5.cell
    have G5f := G5.frozen
    have G5l := G5.lt
    have HJ5 := Lib.hid hJ
    clear hJ
    go_wp2_with (fail)
    refine calls_at (fun V6 hV => ?_)
    have kv : Up w5 V6 := by rw [hV]; (repeat (first | with_reducible exact Up.refl _ | with_reducible refine Up.alloc ?_ _ | with_reducible refine Up.drew ?_ | refine Up.setCell ?_ (by simp <;> omega) _))
    have Xv := X5.up kv
    have Yv := Y5.up kv
    have Zv := Z5.up kv
    have Gv := G5.up kv
    have Dv : Blk V6 (w5.heap.size) 31 #[.int .i64 K.n, .slice (some P3) K.n c3, .slice (some Q3) K.n d3, .int .i64 s, .int .i64 a2, .int .i64 l, .int .i64 x, .int .i64 y] := by rw [hV]; (repeat (first | with_reducible exact Blk.new' _ (by simp) _ _ | with_reducible refine Blk.alloc ?_ _ | with_reducible refine Blk.drew ?_ | refine Blk.far ?_ (by simp <;> omega) _))
    have Uv : Up w V6 := U5.trans kv
    have s1v := s15.up kv
    have s2v := s25.up kv
    have s3v := s35.up kv
    have HUV := Lib.hid kv
    clear hV kv X5 X5c X5f X5l Y5 Y5c Y5f Y5l Z5 Z5c Z5f Z5l G5 G5c G5f G5l U5 s15 s25 s35
    have HJ6 := Lib.hid (HJ5.out.up HUV.out)
    refine (hSm.out P3 Q3 c3 d3 P1 Q1 c1 d1 V6 s3v s1v).mono ?_
    rintro e w6 ⟨rfl, k6⟩
    have X6 := Xv.up k6
    have Y6 := Yv.up k6
    have Z6 := Zv.up k6
    have G6 := Gv.up k6
    have D6 := Dv.up k6
    have U6 := Uv.trans k6
    have HJ7 := Lib.hid (HJ6.out.up k6)
    clear k6 Uv Xv Yv Zv Gv Dv s1v s2v s3v HJ5 HJ6 HUV
    have X6c := X6.cell
    have X6f := X6.frozen
    have X6l := X6.lt
    have Y6c := Y6.cell
    have Y6f := Y6.frozen
    have Y6l := Y6.lt
    have Z6c := Z6.cell
    have Z6f := Z6.frozen
    have Z6l := Z6.lt
    have G6c := G6.cell
    have G6f := G6.frozen
    have G6l := G6.lt
    have D6c := D6.cell
    have D6f := D6.frozen
    have D6l := D6.lt
    go_wp2_with (fail)
    refine (hMb.out w6 A3 k3_ HJ7.out).mono ?_
    rintro e w7 ⟨rfl, k7⟩
    have U7 := U6.trans k7
    clear k7 U6 HJ7
    go_wp2
    go_ret
    exact ⟨rfl, U7⟩

set_option maxRecDepth 100000 in
set_option maxHeartbeats 8000000 in
theorem walk_e2 (m : Me) (P Q : Addr) (c d : Nat) (s a l x y : Int) (A2 B2 : Option Addr) (na ca nb cb : Nat) (w : World) (hm : Sits w m P Q c d) (hwf : m.wf) (hn : m.n ≤ 200) (hr : rgt s a l) (hl : l = m.n) (hp : (x = 0 ∧ y = 0) ∨ (0 ≤ x ∧ x ≤ y ∧ y ≤ a)) (ea eb : List E.Ent) (hsa : E.Sl w (.slice A2 na ca) ea) (hsb : E.Sl w (.slice B2 nb cb) eb) (hla : ea.length = na) (hlb : eb.length = nb) (hua : ∀ z ∈ ea, U64 z.1) (hub : ∀ z ∈ eb, U64 z.1) (h60 : na + nb ≤ 60) (K : Me) (a2 : Int) (J : List (List E.Ent)) (hJn : J.length = 2) (ny nz : Nat) (er : Int) (Kz : Me) (az : Int) (he : er ≠ 0) (hny : ny ≤ na + nb) (hy : don s l (ea ++ eb) m a = ⟨K, a2, ny, er⟩) (hk : lgs s l [ea, eb] m a = ⟨K, a2, J, er⟩) (hj : E.mny J 0 = (na : Int) + (nb : Int) - (ny : Int)) (hz : don s l ea m a = ⟨Kz, az, nz, 0⟩) :
    Calls Try.prog 3 #[.agg #[.int .i64 m.n, .slice (some P) m.n c, .slice (some Q) m.n d, .int .i64 s, .int .i64 a, .int .i64 l, .int .i64 x, .int .i64 y], .slice A2 na ca, .slice B2 nb cb] w (fun e w' => e = .returned (.bool true) ∧ Up w w') := by
  have hf := fun w => fewr_any m.n s a l x y (some P) (some Q) m.n m.n c d w
  rw [fewr_ok m s a l x y hm.1 hn hr hl hp] at hf
  have hf := Lib.hid hf
  have hua2 : ∀ z ∈ ea ++ eb, U64 z.1 := fun z hz => by
    rcases List.mem_append.1 hz with q | q
    · exact hua z q
    · exact hub z q
  have hAB := Lib.hid (show ∀ (v : Value) (W : World) (U : Up w W) (hv : E.Sl W v (ea ++ eb)), Calls Try.prog 9 #[rov m.n (sl P m.n c) (sl Q m.n d) s a l x y, v] W (fun e w' => ∃ P' Q' c' d', e = .returned (.tuple #[rov K.n (sl P' K.n c') (sl Q' K.n d') s a2 l x y, .int .i64 ((ny : Int)), .int .i64 er]) ∧ Sits w' K P' Q' c' d' ∧ Up W w') from fun v W U hv => by
    have q := E.all_any m s a l x y P Q c d v (ea ++ eb) W (hm.up U) hwf hr hl hv hua2
    rw [hy] at q
    exact q)
  have hA1 := Lib.hid (show ∀ (W : World) (U : Up w W), Calls Try.prog 9 #[rov m.n (sl P m.n c) (sl Q m.n d) s a l x y, .slice A2 na ca] W (fun e w' => ∃ P' Q' c' d', e = .returned (.tuple #[rov Kz.n (sl P' Kz.n c') (sl Q' Kz.n d') s az l x y, .int .i64 ((nz : Int)), .int .i64 0]) ∧ Sits w' Kz P' Q' c' d' ∧ Up W w') from fun W U => by
    have q := E.all_any m s a l x y P Q c d _ ea W (hm.up U) hwf hr hl (hsa.up U) hua
    rw [hz] at q
    exact q)
  have hLo := Lib.hid (show ∀ (W : World) (U : Up w W) (g : Nat) (h : Blk W g 32 #[.slice A2 na ca, .slice B2 nb cb]), Calls Try.prog 10 #[rov m.n (sl P m.n c) (sl Q m.n d) s a l x y, .slice (some ⟨g, 0, none⟩) 2 2] W (fun e w' => ∃ P' Q' c' d' A' k', e = .returned (.tuple #[rov K.n (sl P' K.n c') (sl Q' K.n d') s a2 l x y, .slice A' 2 k', .int .i64 er]) ∧ Sits w' K P' Q' c' d' ∧ E.Rw w' (.slice A' 2 k') J ∧ Up W w') from fun W U g h => by
    have hrw : E.Rw W (.slice (some ⟨g, 0, none⟩) 2 2) [ea, eb] := ⟨_, 2, rfl, by simp, by unfold maxLen; simp, fun q => (by cases q), fun _ => ⟨_, rfl, h.lt, fun j xs hj => by
      match j with
      | 0 =>
        simp at hj
        subst hj
        exact ⟨_, by rw [add_zero']; exact h.cell 0, hsa.up U⟩
      | 1 =>
        simp at hj
        subst hj
        exact ⟨_, by rw [add_zero']; exact h.cell 1, hsb.up U⟩
      | j + 2 => simp at hj⟩⟩
    have q := E.logs_any m s a l x y P Q c d _ [ea, eb] W (hm.up U) hwf hr hl hrw (by simp) (by simp; omega) (by simp only [List.mem_cons, List.not_mem_nil, or_false]; rintro r (rfl | rfl); exact hua; exact hub)
    rw [hk] at q
    refine q.mono ?_
    rintro e w' ⟨P', Q', c', d', v, rfl, hs, hv, hu⟩
    have hv2 := hv
    obtain ⟨A', k', rfl, -⟩ := hv
    simp only [] at hv2 ⊢
    rw [hJn] at hv2 ⊢
    exact ⟨P', Q', c', d', A', k', rfl, hs, hv2, hu⟩)
  have hMb := Lib.hid (show ∀ (W : World) (A' : Option Addr) (k' : Nat) (h : E.Rw W (.slice A' 2 k') J), Calls Try.prog 12 #[.slice A' 2 k'] W (fun e w' => e = .returned (.int .i64 ((na : Int) + (nb : Int) - (ny : Int))) ∧ Up W w') from fun W A' k' h => by
    refine (E.rmany_any _ J W h).mono ?_
    rintro e w' ⟨rfl, rfl⟩
    exact ⟨by rw [hj], Up.refl _⟩)
  have hSm := Lib.hid (fun (P1 Q1 : Addr) (c1 d1 : Nat) (P2 Q2 : Addr) (c2 d2 : Nat) (W : World) (S1 : Sits W K P1 Q1 c1 d1) (S2 : Sits W K P2 Q2 c2 d2) => rosame_self K P1 Q1 P2 Q2 c1 d1 c2 d2 s a2 l x y W S1 S2)
  have hsaH := Lib.hid hsa
  have hsbH := Lib.hid hsb
  have hbnd : ea.length + eb.length ≤ 60 := by omega
  have HBN := Lib.hid hbnd
  have b1 : (na : Int) ≤ 8796093021952 := by omega
  have b2 : (nb : Int) ≤ 8796093021952 := by omega
  have q0 : decide ((60 : Int) < (na : Int) + (nb : Int)) = false := decide_eq_false (by omega)
  have q1 : (er != 0) = true := bne_iff_ne.2 he
  have q2 : (er == 0) = false := beq_eq_false_iff_ne.2 he
  have b3 : (ny : Int) ≤ (na : Int) + (nb : Int) := by omega
  clear hm hwf hn hr hl hp hsa hsb hla hlb hua hub hua2 hJn hj hy hz hk hbnd he hny
  go_enter Try.func3, Try.ntmps3
  go_wp2_with (fail)
  refine calls_at (fun V1 hV => ?_)
  have kv : Up w V1 := by rw [hV]; (repeat (first | with_reducible exact Up.refl _ | with_reducible refine Up.alloc ?_ _ | with_reducible refine Up.drew ?_ | refine Up.setCell ?_ (by simp <;> omega) _))
  have Xv : Blk V1 (w.heap.size) 31 #[.int .i64 m.n, .slice (some P) m.n c, .slice (some Q) m.n d, .int .i64 s, .int .i64 a, .int .i64 l, .int .i64 x, .int .i64 y] := by rw [hV]; (repeat (first | with_reducible exact Blk.new' _ (by simp) _ _ | with_reducible refine Blk.alloc ?_ _ | with_reducible refine Blk.drew ?_ | refine Blk.far ?_ (by simp <;> omega) _))
  have Uv : Up w V1 := kv
  clear hV kv 
  refine (shown13 _).mono ?_
  rintro e w1 ⟨rfl, k1⟩
  have X1 := Xv.up k1
  have U1 := Uv.trans k1
  clear k1 Uv Xv 
  have X1c := X1.cell
  have X1f := X1.frozen
  have X1l := X1.lt
  go_wp2_with (fail)
  refine calls_at (fun V2 hV => ?_)
  have kv : Up w1 V2 := by rw [hV]; (repeat (first | with_reducible exact Up.refl _ | with_reducible refine Up.alloc ?_ _ | with_reducible refine Up.drew ?_ | refine Up.setCell ?_ (by simp <;> omega) _))
  have Xv := X1.up kv
  have Uv : Up w V2 := U1.trans kv
  clear hV kv X1 X1c X1f X1l U1
  refine (hf.out _).mono ?_
  rintro e w2 ⟨rfl, k2⟩
  have X2 := Xv.up k2
  have U2 := Uv.trans k2
  clear k2 Uv Xv 
  have X2c := X2.cell
  have X2f := X2.frozen
  have X2l := X2.lt
  go_upto_region 5 with fail
  go_cut [9, 10, 11] from 35 to 45 (fun y9 n10 e11 wx => ∃ (B : Nat) (P1 Q1 : Addr) (c1 d1 : Nat), y9 = .pointer (some ⟨B, 0, none⟩) ∧ n10 = .int .i64 ((ny : Int)) ∧ e11 = .int .i64 er ∧ Blk wx B 31 #[.int .i64 K.n, .slice (some P1) K.n c1, .slice (some Q1) K.n d1, .int .i64 s, .int .i64 a2, .int .i64 l, .int .i64 x, .int .i64 y] ∧ Sits wx K P1 Q1 c1 d1 ∧ Up w2 wx)
  case first =>
    clear hA1 hLo hMb hSm
    have hold : ∀ V : World, Up w2 V → ∀ i, V.cell? ⟨w.heap.size, i, none⟩ = (#[.int .i64 m.n, .slice (some P) m.n c, .slice (some Q) m.n d, .int .i64 s, .int .i64 a, .int .i64 l, .int .i64 x, .int .i64 y] : Array Value)[i]? := fun V hV i => (X2.up hV).cell i
    replace hold := Lib.hid hold
    have U2H := Lib.hid U2
    have hsa2 := Lib.hid (hsaH.out.up U2)
    have hsb2 := Lib.hid (hsbH.out.up U2)
    have T0 : Up w2 (World.drew w2) := (Up.refl w2).drew
    have T1 : Up w2 (World.drew (World.alloc w2 (.cells #[] 46))) := ((Up.refl w2).alloc _).drew
    have T2 : Up w2 (World.drew (World.alloc (World.alloc w2 (.cells #[] 46)) (.cells zr 31))) := (((Up.refl w2).alloc _).alloc _).drew
    have T3 : Up w2 (World.drew (World.alloc (World.alloc w2 (.cells zr 31)) (.cells #[] 46))) := (((Up.refl w2).alloc _).alloc _).drew
    have T4 : Up w2 (World.drew (World.alloc w2 (.cells zr 31))) := ((Up.refl w2).alloc _).drew
    clear X2 X2c X2f X2l U2
    go_region_held3 (fun w' => ∀ i, w'.cell? ⟨w.heap.size, i, none⟩ = (#[.int .i64 m.n, .slice (some P) m.n c, .slice (some Q) m.n d, .int .i64 s, .int .i64 a, .int .i64 l, .int .i64 x, .int .i64 y] : Array Value)[i]?)
      (first
        | with_reducible exact hold.out _ T0
        | with_reducible exact hold.out _ T1
        | with_reducible exact hold.out _ T2
        | with_reducible exact hold.out _ T3
        | with_reducible exact hold.out _ T4
        | with_reducible exact hold.out _ UA
        | with_reducible exact hold.out _ (Up.alloc UA _)
        | with_reducible exact hold.out _ UB
        | with_reducible exact hold.out _ (Up.alloc UB _)
        | with_reducible exact hold.out _ UZ
        | with_reducible exact hold.out _ (Up.alloc UZ _)
        | with_reducible exact hold.out _ (Up.set8 UZ (by omega) _ _ _ _ _ _ _ _))
      (first
        | (refine E.step_any (W0 := w2) (by rfl) _ _ (by rfl) (.slice (some ⟨w2.heap.size, 0, none⟩) 0 0) [] (by rfl) (E.lo_empty (Blk.new w2 _ _).drew (Nat.le_refl _)) (.slice A2 na ca) ea (by rfl) (hsa2.out.up T1) (by simp only [List.length_nil]; have := HBN.out; omega) T1 ?_; intro v1 wa hl1 UA hk1; have SA := UA.size)
        | (refine E.step_any (W0 := w2) (by rfl) _ _ (by rfl) (.slice (some ⟨w2.heap.size, 0, none⟩) 0 0) [] (by rfl) (E.lo_empty ((Blk.new w2 _ _).alloc _).drew (Nat.le_refl _)) (.slice A2 na ca) ea (by rfl) (hsa2.out.up T2) (by simp only [List.length_nil]; have := HBN.out; omega) T2 ?_; intro v1 wa hl1 UA hk1; have SA := UA.size; have NZ1 := hk1 _ _ _ (E.blk_two (w := w2) (t := 46) (cs := #[]) (ds := zr) (u := 31)) (by decide))
        | (refine E.step_any (W0 := w2) (by rfl) _ _ (by rfl) (.slice (some ⟨w2.heap.size + 1, 0, none⟩) 0 0) [] (by rfl) (E.lo_empty E.blk_two (by omega)) (.slice A2 na ca) ea (by rfl) (hsa2.out.up T3) (by simp only [List.length_nil]; have := HBN.out; omega) T3 ?_; intro v1 wa hl1 UA hk1; have SA := UA.size; have NZ1 := hk1 _ _ _ ((Blk.new w2 31 zr).alloc (.cells #[] 46)).drew (by decide))
        | (refine E.step_any (W0 := w2) (by rfl) _ _ (by rfl) v1 ea (by rfl) hl1 (.slice B2 nb cb) eb (by rfl) (hsb2.out.up UA) (by have := HBN.out; omega) UA ?_; intro v2 wb hl2 UB hk2; have SB := UB.size; (try (have NZ2 := hk2 _ _ _ NZ1 (by decide))))
        | (refine E.step_any (W0 := w2) (by rfl) _ _ (by rfl) v1 ea (by rfl) (hl1.alloc _) (.slice B2 nb cb) eb (by rfl) (hsb2.out.up (UA.alloc _)) (by have := HBN.out; omega) (UA.alloc _) ?_; intro v2 wb hl2 UB hk2; have SB := UB.size; have NZ2 := hk2 _ _ _ (Blk.new wa 31 zr) (by decide))
        | (go_at_call 9; ((with_reducible refine (hAB.out v2 wb (U2H.out.trans UB) (E.Sl.of_lo hl2)).mono ?_); rintro e wz ⟨P1, Q1, c1, d1, rfl, sz, hz⟩; have UZ := UB.trans hz; (try (have NZ3 := NZ2.up hz; have NZc := NZ3.cell; have NZf := NZ3.frozen; have NZl := NZ3.lt))))
        | (go_at_call 9; ((with_reducible refine (hAB.out v2 _ (U2H.out.trans (UB.alloc _)) (E.Sl.of_lo (hl2.alloc _))).mono ?_); rintro e wz ⟨P1, Q1, c1, d1, rfl, sz, hz⟩; have UZ := (UB.alloc _).trans hz; have NZ3 := (Blk.new wb 31 zr).up hz; have NZc := NZ3.cell; have NZf := NZ3.frozen; have NZl := NZ3.lt)))
    all_goals
      go_wp2_with (fail)
      go_meet
      first
        | with_reducible exact ⟨_, P1, Q1, c1, d1, rfl, rfl, rfl, Blk.new wz _ _, sz.up ((Up.refl _).alloc _), UZ.alloc _⟩
        | with_reducible exact ⟨_, P1, Q1, c1, d1, rfl, rfl, rfl, NZ3.set8 _ _ _ _ _ _ _ _, sz.far8 NZ3 _ _ _ _ _ _ _ _, UZ.set8 (by omega) _ _ _ _ _ _ _ _⟩
  case rest =>
    obtain ⟨B, P1, Q1, c1, d1, rfl, rfl, rfl, Y3, s13, k3⟩ := hcut
    have U3 := U2.trans k3
    have X3 := X2.up k3
    clear k3 U2 X2 X2c X2f X2l hAB
    have X3c := X3.cell
    have X3f := X3.frozen
    have X3l := X3.lt
    have Y3c := Y3.cell
    have Y3f := Y3.frozen
    have Y3l := Y3.lt
    go_wp2_with (fail)
    refine calls_at (fun V4 hV => ?_)
    have kv : Up wc V4 := by rw [hV]; (repeat (first | with_reducible exact Up.refl _ | with_reducible refine Up.alloc ?_ _ | with_reducible refine Up.drew ?_ | refine Up.setCell ?_ (by simp <;> omega) _))
    have Xv := X3.up kv
    have Yv := Y3.up kv
    have Uv : Up w V4 := U3.trans kv
    have s1v := s13.up kv
    clear hV kv X3 X3c X3f X3l Y3 Y3c Y3f Y3l U3 s13
    refine (hA1.out V4 Uv).mono ?_
    rintro e w4 ⟨P2, Q2, c2, d2, rfl, s24, k4⟩
    have X4 := Xv.up k4
    have Y4 := Yv.up k4
    have U4 := Uv.trans k4
    have s14 := s1v.up k4
    clear k4 Uv Xv Yv s1v
    have X4c := X4.cell
    have X4f := X4.frozen
    have X4l := X4.lt
    have Y4c := Y4.cell
    have Y4f := Y4.frozen
    have Y4l := Y4.lt
    go_wp2_with (fail)
    refine calls_at (fun V5 hV => ?_)
    have kv : Up w4 V5 := by rw [hV]; (repeat (first | with_reducible exact Up.refl _ | with_reducible refine Up.alloc ?_ _ | with_reducible refine Up.drew ?_ | refine Up.setCell ?_ (by simp <;> omega) _))
    have Xv := X4.up kv
    have Yv := Y4.up kv
    have Zv : Blk V5 (w4.heap.size) 31 #[.int .i64 Kz.n, .slice (some P2) Kz.n c2, .slice (some Q2) Kz.n d2, .int .i64 s, .int .i64 az, .int .i64 l, .int .i64 x, .int .i64 y] := by rw [hV]; (repeat (first | with_reducible exact Blk.new' _ (by simp) _ _ | with_reducible refine Blk.alloc ?_ _ | with_reducible refine Blk.drew ?_ | refine Blk.far ?_ (by simp <;> omega) _))
    have Gv : Blk V5 (w4.heap.size + 1) 32 #[.slice A2 na ca, .slice B2 nb cb] := by rw [hV]; (repeat (first | with_reducible exact Blk.new' _ (by simp) _ _ | with_reducible refine Blk.alloc ?_ _ | with_reducible refine Blk.drew ?_ | refine Blk.far ?_ (by simp <;> omega) _))
    have Uv : Up w V5 := U4.trans kv
    have s1v := s14.up kv
    have s2v := s24.up kv
    clear hV kv X4 X4c X4f X4l Y4 Y4c Y4f Y4l U4 s14 s24
    refine (hLo.out V5 Uv _ Gv).mono ?_
    rintro e w5 ⟨P3, Q3, c3, d3, A3, k3_, rfl, s35, hJ, k5⟩
    have X5 := Xv.up k5
    have Y5 := Yv.up k5
    have Z5 := Zv.up k5
    have G5 := Gv.up k5
    have U5 := Uv.trans k5
    have s15 := s1v.up k5
    have s25 := s2v.up k5
    clear k5 Uv Xv Yv Zv Gv s1v s2v
    have X5c := X5.cell
    have X5f := X5.frozen
    have X5l := X5.lt
    have Y5c := Y5.cell
    have Y5f := Y5.frozen
    have Y5l := Y5.lt
    have Z5c := Z5.cell
    have Z5f := Z5.frozen
    have Z5l := Z5.lt
    have G5c := G5.cell
    have G5f := G5.frozen
    have G5l := G5.lt
    have HJ5 := Lib.hid hJ
    clear hJ
    go_wp2_with (fail)
    refine calls_at (fun V6 hV => ?_)
    have kv : Up w5 V6 := by rw [hV]; (repeat (first | with_reducible exact Up.refl _ | with_reducible refine Up.alloc ?_ _ | with_reducible refine Up.drew ?_ | refine Up.setCell ?_ (by simp <;> omega) _))
    have Xv := X5.up kv
    have Yv := Y5.up kv
    have Zv := Z5.up kv
    have Gv := G5.up kv
    have Dv : Blk V6 (w5.heap.size) 31 #[.int .i64 K.n, .slice (some P3) K.n c3, .slice (some Q3) K.n d3, .int .i64 s, .int .i64 a2, .int .i64 l, .int .i64 x, .int .i64 y] := by rw [hV]; (repeat (first | with_reducible exact Blk.new' _ (by simp) _ _ | with_reducible refine Blk.alloc ?_ _ | with_reducible refine Blk.drew ?_ | refine Blk.far ?_ (by simp <;> omega) _))
    have Uv : Up w V6 := U5.trans kv
    have s1v := s15.up kv
    have s2v := s25.up kv
    have s3v := s35.up kv
    have HUV := Lib.hid kv
    clear hV kv X5 X5c X5f X5l Y5 Y5c Y5f Y5l Z5 Z5c Z5f Z5l G5 G5c G5f G5l U5 s15 s25 s35
    have HJ6 := Lib.hid (HJ5.out.up HUV.out)
    refine (hSm.out P3 Q3 c3 d3 P1 Q1 c1 d1 V6 s3v s1v).mono ?_
    rintro e w6 ⟨rfl, k6⟩
    have X6 := Xv.up k6
    have Y6 := Yv.up k6
    have Z6 := Zv.up k6
    have G6 := Gv.up k6
    have D6 := Dv.up k6
    have U6 := Uv.trans k6
    have HJ7 := Lib.hid (HJ6.out.up k6)
    clear k6 Uv Xv Yv Zv Gv Dv s1v s2v s3v HJ5 HJ6 HUV
    have X6c := X6.cell
    have X6f := X6.frozen
    have X6l := X6.lt
    have Y6c := Y6.cell
    have Y6f := Y6.frozen
    have Y6l := Y6.lt
    have Z6c := Z6.cell
    have Z6f := Z6.frozen
    have Z6l := Z6.lt
    have G6c := G6.cell
    have G6f := G6.frozen
    have G6l := G6.lt
    have D6c := D6.cell
    have D6f := D6.frozen
    have D6l := D6.lt
    go_wp2_with (fail)
    refine (hMb.out w6 A3 k3_ HJ7.out).mono ?_
    rintro e w7 ⟨rfl, k7⟩
    have U7 := U6.trans k7
    clear k7 U6 HJ7
    go_wp2
    go_ret
    exact ⟨rfl, U7⟩

theorem mny2 (p q : List E.Ent) (hp : p.length ≤ 1000) (hq : q.length ≤ 1000) : E.mny [p, q] 0 = (p.length : Int) + (q.length : Int) := by
  simp only [E.mny]
  have e1 : wrap64 (0 + (p.length : Int)) = (p.length : Int) := by
    rw [E.wrap_id (by unfold I64; omega)]
    omega
  rw [e1, E.wrap_id (by unfold I64; omega)]
theorem dn_eq (z : Dn) {n : Nat} {e : Int} (hn : z.n = n) (he : z.e = e) : z = ⟨z.m, z.a, n, e⟩ := by
  subst hn he
  rfl
theorem walk_yes (m : Me) (P Q : Addr) (c d : Nat) (s a l x y : Int) (A2 B2 : Option Addr) (na ca nb cb : Nat) (w : World) (hm : Sits w m P Q c d) (hwf : m.wf) (hn : m.n ≤ 200) (hr : rgt s a l) (hl : l = m.n) (hp : (x = 0 ∧ y = 0) ∨ (0 ≤ x ∧ x ≤ y ∧ y ≤ a)) (ea eb : List E.Ent) (hsa : E.Sl w (.slice A2 na ca) ea) (hsb : E.Sl w (.slice B2 nb cb) eb) (hla : ea.length = na) (hlb : eb.length = nb) (hua : ∀ z ∈ ea, U64 z.1) (hub : ∀ z ∈ eb, U64 z.1) (ha : na ≤ 8796093021952) (hb : nb ≤ 8796093021952) :
    Calls Try.prog 3 #[.agg #[.int .i64 m.n, .slice (some P) m.n c, .slice (some Q) m.n d, .int .i64 s, .int .i64 a, .int .i64 l, .int .i64 x, .int .i64 y], .slice A2 na ca, .slice B2 nb cb] w (fun e w' => e = .returned (.bool true) ∧ Up w w') := by
  by_cases h60 : 60 < na + nb
  · exact walk_long m P Q c d s a l x y A2 B2 na ca nb cb w hm hwf hn hr hl hp ha hb h60
  have h60' : na + nb ≤ 60 := by omega
  have hde := don_le (s := s) (l := l) ea m a
  by_cases h1 : (don s l ea m a).e = 0
  · have K1 := don_kb (s := s) (l := l) ea m a hm.1 hwf hr hl
    obtain ⟨hr2, hl2⟩ := K1.rg hr hl
    have n1 := don_len ea m a h1
    have hz := dn_eq (don s l ea m a) (n1.trans hla) h1
    have hdb := don_le (s := s) (l := l) eb (don s l ea m a).m (don s l ea m a).a
    by_cases h2 : (don s l eb (don s l ea m a).m (don s l ea m a).a).e = 0
    · have n2 := don_len eb (don s l ea m a).m (don s l ea m a).a h2
      have hw := dn_eq (don s l eb (don s l ea m a).m (don s l ea m a).a) (n2.trans hlb) h2
      refine walk_ok m P Q c d s a l x y A2 B2 na ca nb cb w hm hwf hn hr hl hp ea eb hsa hsb hla hlb hua hub h60' _ _ [[], []] rfl _ _ ?_ hz hw K1 hr2 hl2 ?_ (by rw [mny2 _ _ (by simp) (by simp)]; rfl)
      · rw [don_app_ok ea eb m a h1, hla, n2, hlb, h2]
      · rw [lgs_yes h1, lgs_yes h2]
        rfl
    · refine walk_e2 m P Q c d s a l x y A2 B2 na ca nb cb w hm hwf hn hr hl hp ea eb hsa hsb hla hlb hua hub h60' (don s l eb (don s l ea m a).m (don s l ea m a).a).m (don s l eb (don s l ea m a).m (don s l ea m a).a).a [[], eb.drop (don s l eb (don s l ea m a).m (don s l ea m a).a).n] rfl (na + (don s l eb (don s l ea m a).m (don s l ea m a).a).n) na (don s l eb (don s l ea m a).m (don s l ea m a).a).e _ _ h2 (by omega) ?_ ?_ ?_ hz
      · rw [don_app_ok ea eb m a h1, hla]
      · rw [lgs_yes h1, lgs_no h2]
      · rw [mny2 _ _ (by simp) (by rw [List.length_drop]; omega), List.length_drop]
        simp only [List.length_nil]
        omega
  · refine walk_e1 m P Q c d s a l x y A2 B2 na ca nb cb w hm hwf hn hr hl hp ea eb hsa hsb hla hlb hua hub h60' (don s l ea m a).m (don s l ea m a).a [ea.drop (don s l ea m a).n, eb] rfl (don s l ea m a).n (don s l ea m a).e h1 (by omega) ?_ ?_ ?_ rfl
    · rw [don_app_no ea eb m a h1]
    · rw [lgs_no h1]
    · rw [mny2 _ _ (by rw [List.length_drop]; omega) (by omega), List.length_drop]
      omega
theorem walk (N : Int) (A0 A1 : Option Addr) (n0 n1 c0 c1 : Nat) (s a l x y : Int) (xs ys : List Int) (va vb : Value) (ea eb : List E.Ent) (w : World) (hx : SlOk w A0 n0 c0 xs) (hy : SlOk w A1 n1 c1 ys) (hsa : E.Sl w va ea) (hsb : E.Sl w vb eb) (hua : ∀ z ∈ ea, U64 z.1) (hub : ∀ z ∈ eb, U64 z.1) (ha : ea.length ≤ 8796093021952) (hb : eb.length ≤ 8796093021952) :
    Calls Try.prog 3 #[.agg #[.int .i64 N, .slice A0 n0 c0, .slice A1 n1 c1, .int .i64 s, .int .i64 a, .int .i64 l, .int .i64 x, .int .i64 y], va, vb] w (fun e w' => e = .returned (.bool true) ∧ Up w w') := by
  have hsa0 := hsa
  have hsb0 := hsb
  obtain ⟨A2, ca, rfl, -⟩ := hsa
  obtain ⟨B2, cb, rfl, -⟩ := hsb
  cases hfew : fewr N n0 n1 s a l x y
  · exact walk_no N A0 A1 n0 n1 c0 c1 s a l x y A2 B2 _ ca _ cb w hfew
  · obtain ⟨rfl, rfl, h16, h200, hr, hl, hp⟩ := fewr_is hfew
    obtain ⟨P, Q, rfl, rfl, hm⟩ := sits_of hx hy h16 (by omega)
    have hwf := sits_wf hx hy
    exact walk_yes ⟨n0, xs, ys⟩ P Q c0 c1 s a l x y A2 B2 _ ca _ cb w hm hwf h200 hr hl hp ea eb hsa0 hsb0 rfl rfl hua hub ha hb

theorem own : ownKnob Try.prog.godebug = none := by kernel_rfl
set_option maxRecDepth 100000 in
theorem lifted (os : Os) (started : os.Started) (H : Type) (enc : TypeId × Value → H) :
    ReturnsInHanded {} Try.checked os 3 .any (Rows.replayPartsSpec.pre6 enc Try.prog Try.f3 Rows.replayPartsRow.domain false) (Rows.replayPartsSpec.post enc Try.prog Try.f3 false true false false) := by
  refine returnsInHanded_of_change_sized (C := Try.checked) own started (by kernel_rfl) Try.func3
    (ChangeSpec.witness6 (enc := enc) (C := Try.checked) false ⟨#[], #[.agg #[.int .i64 0, .slice none 0 0, .slice none 0 0, .int .i64 0, .int .i64 0, .int .i64 0, .int .i64 0, .int .i64 0], .slice none 0 0, .slice none 0 0], []⟩ 8 (by kernel_rfl) (by kernel_rfl) (by kernel_rfl) (by kernel_rfl)) ?_
  intro W base args ds gs before hval0 hW hcnd hsz0 _
  have hval : ∀ (j : Nat) t v, Try.f3.params[j]? = some t → args[j]? = some v → Value.okWide Try.prog W .any base t v := hval0
  have hW' := hW
  obtain ⟨p, q, hA0, hV, rfl, hfz, hnd⟩ := hW
  have hA : DataW.TrodAll enc Try.prog W 0 (fun _ => true) true Try.f3.params.toList args.toList ds p := hA0
  rw [Try.params3] at hA hval
  obtain ⟨v0, vs0, d0, ds0, p0, q0, hargs, rfl, rfl, h0, r0⟩ := trodAll_cons hA
  obtain ⟨v1, vs1, d1, ds1, p1, q1, rfl, rfl, rfl, h1, r1⟩ := trodAll_cons r0
  obtain ⟨v2, vs2, d2, ds2, p2, q2, rfl, rfl, rfl, h2, r2⟩ := trodAll_cons r1
  obtain ⟨rfl, rfl, rfl⟩ := trodAll_nil r2
  obtain rfl : args = #[v0, v1, v2] := by cases args; simp_all
  obtain ⟨rfl, rfl⟩ := trodVars_none hV
  have l0 : E.Light 31 d0 := fun n hn => by
    have := List.all_eq_true.1 hsz0 n (DataW.weights_mem_each (j := 0) (t := 31) (d := d0) (by kernel_rfl) rfl n hn)
    simpa using this
  have l1 : E.Light 32 d1 := fun n hn => by
    have := List.all_eq_true.1 hsz0 n (DataW.weights_mem_each (j := 1) (t := 32) (d := d1) (by kernel_rfl) rfl n hn)
    simpa using this
  have l2 : E.Light 32 d2 := fun n hn => by
    have := List.all_eq_true.1 hsz0 n (DataW.weights_mem_each (j := 2) (t := 32) (d := d2) (by kernel_rfl) rfl n hn)
    simpa using this
  clear hsz0
  have h0k := h0
  obtain ⟨N, A0, A1, n0, n1, c0, c1, xs, ys, s, a, l, x, y, rfl, hN, hx, hy, hs, ha, hl, hxx, hyy⟩ := room_open (hval 0 31 v0 rfl rfl) h0
  have h1k := h1
  obtain ⟨es1, hs1, hu1, -, hl1⟩ := E.ents_at (hval 1 32 v1 rfl rfl) h1
  have h2k := h2
  obtain ⟨es2, hs2, hu2, -, hl2⟩ := E.ents_at (hval 2 32 v2 rfl rfl) h2
  clear hA0 hval0
  simp only [List.append_nil, List.nil_append] at hW'
  refine (walk N A0 A1 n0 n1 c0 c1 s a l x y xs ys v1 v2 es1 es2 W hx hy hs1 hs2 (fun z hz => (hu1 z hz).1) (fun z hz => (hu2 z hz).1) (hl1 l1) (hl2 l2)).mono fun e W' ⟨he, hg⟩ => ?_
  subst he
  exact ⟨_, rfl, post_below (pa := p0 ++ (p1 ++ p2)) (pv := []) hW' (fun _ _ _ => (trodAll_cons_mk (shut_bool Try.underlying4 _) trodAll_mk0))
    (fun sp hsp => by
      have t := (trodAll_cons_mk (trod_keeps (sp := sp) (by kernel_rfl) (of_decide_eq_true (by kernel_rfl)) h0k hg (fun x hx => hW'.lt x (by simp [hx])) (fun x hx => hsp x (by simp [hx]))) (trodAll_cons_mk (trod_keeps (sp := sp) (by kernel_rfl) (of_decide_eq_true (by kernel_rfl)) h1k hg (fun x hx => hW'.lt x (by simp [hx])) (fun x hx => hsp x (by simp [hx]))) (trodAll_cons_mk (trod_keeps (sp := sp) (by kernel_rfl) (of_decide_eq_true (by kernel_rfl)) h2k hg (fun x hx => hW'.lt x (by simp [hx])) (fun x hx => hsp x (by simp [hx]))) trodAll_mk0)))
      simp only [List.append_nil, List.nil_append] at t
      exact t) (fun _ _ => rfl) (by simp)
    hg (ok_one (by kernel_rfl) rfl (okWide_bool_mk Try.underlying4 _))⟩

set_option maxRecDepth 100000 in
theorem over : Rows.replayPartsRow.holds Try.pinned (OpenSpec.ofChange Rows.replayPartsSpec) :=
  OpenClaim.holds_of_wide 3 Try.f3 rfl rfl rfl rfl rfl rfl rfl ⟨rfl, rfl, rfl, rfl, rfl⟩ rfl rfl rfl rfl rfl (by kernel_rfl) Try.func3 (by kernel_rfl)
    (of_decide_eq_true (by kernel_rfl)) (by unfold Func.isWrapper; first | (rw [if_pos (by decide +kernel)]; kernel_rfl) | (rw [if_neg (by decide +kernel)]; exact ⟨rfl, rfl⟩))
    (fun os started H enc _ => lifted os started H enc)

theorem proved : Rows.ReplayPartsSaid :=
  over
#print axioms proved
end Go.Proofs.Ytgcpkgogjcgfbaa.LReplayParts

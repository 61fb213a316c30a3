/- The document's End, All, Objects and Sound, of what was put: contracts. -/
import Derived.Test.YtanhhkdoejnpiaaQg
import Derived.Test.YtanhhkdoejnpiaaTb
import Derived.Test.YtanhhkdoejnpiaaSa
namespace Go.Proofs.Ytanhhkdoejnpiaa.G
open Go.Joins Go.ChangeShapes Go.WideShapes Go.ChangeAt Go.RowKit Go.Deep Go.Shelf Go.Maps
set_option linter.unusedVariables false
set_option linter.unusedSimpArgs false

def ads (s : Int) (ns : List Nd) (x : Nat) : List Int := (List.range x).map fun k : Nat => adr s (ofs ns k)
theorem ads_step (s : Int) (ns : List Nd) (x : Nat) : ads s ns (x + 1) = ads s ns x ++ [adr s (ofs ns x)] := by simp [ads, List.range_succ]
theorem ads_len (s : Int) (ns : List Nd) (x : Nat) : (ads s ns x).length = x := by simp [ads]
theorem ads_get (s : Int) (ns : List Nd) {x k : Nat} (h : k < x) : (ads s ns x).getD k 0 = adr s (ofs ns k) := by simp [ads, List.getD, h]
theorem adr_u64 {s : Int} {p : Nat} (hs : s = 0 ∨ s = 1) (hp : p < 4294967296) : U64 (adr s p) := by unfold U64 adr; omega
theorem ofs_18 {g : Gr} (hR : Rg g) : ∀ x : Nat, x ≤ g.1.length → ofs g.1 x ≤ 18 * x
  | 0, _ => by rw [ofs_0]; omega
  | x + 1, h => by
    have h1 := ofs_18 hR x (by omega)
    have h2 := ofs_step (ns := g.1) (show x < g.1.length by omega)
    have h3 := hR.ndhd (show x < g.1.length by omega)
    have h4 := h3.h.len
    have h5 := h3.l
    omega
/-- What is told of a node's object. -/
structure PutAt (m : Me) (g : Gr) (s : Int) (x : Nat) (t l mp : Int) : Prop where
  he : m.ate (adr s (ofs g.1 x)) = 0
  ht : m.att (adr s (ofs g.1 x)) = t
  hl : m.atl (adr s (ofs g.1 x)) = l
  hm : m.atm (adr s (ofs g.1 x)) = mp
  hr : m.real (adr s (ofs g.1 x)) = true
  hu : U64 (adr s (ofs g.1 x))
  hp : ∀ b ∈ m.ptv (adr s (ofs g.1 x)), b = 0 ∨ b ∈ ads s g.1 g.1.length
theorem put_at {g : Gr} {W : Nat} {s : Int} (hR : Rg g) (h16 : 16 ≤ W) (hW : W ≤ 4096) (hs : s = 0 ∨ s = 1) (hT : tot g.1 ≤ W) {x : Nat} (hx : x < g.1.length) : PutAt (putG g W s) g s x (g.1.getD x ndN).1.1 (g.1.getD x ndN).1.2.1 (g.1.getD x ndN).1.2.2 := by
  have H := put_hold hR h16 hW hs hT
  have hin : inN g ((x : Int) + 1) := ⟨by omega, by omega⟩
  have hA : Adr s g.1 ((x : Int) + 1) = adr s (ofs g.1 x) := by
    rw [show Adr s g.1 ((x : Int) + 1) = _ from if_pos (by omega), show ((x : Int) + 1).toNat - 1 = x from by omega]
  have hnd : ndOf g ((x : Int) + 1) = g.1.getD x ndN := by
    unfold ndOf
    rw [show ((x : Int) + 1).toNat - 1 = x from by omega]
  have h1 := H.re _ hin
  have h2 := H.nd _ hin
  have h3 := H.ptv hin
  rw [hA] at h1 h2 h3
  rw [hnd] at h2 h3
  have h4 := congrArg Prod.fst h2
  have e1 : (putG g W s).att (adr s (ofs g.1 x)) = (g.1.getD x ndN).1.1 := congrArg Prod.fst h4
  have e2 : (putG g W s).atl (adr s (ofs g.1 x)) = (g.1.getD x ndN).1.2.1 := congrArg (fun z => z.2.1) h4
  have e3 : (putG g W s).atm (adr s (ofs g.1 x)) = (g.1.getD x ndN).1.2.2 := congrArg (fun z => z.2.2) h4
  have hof := ofs_tot (ns := g.1) (show x ≤ g.1.length by omega)
  refine ⟨ate_0.2 (real_head h1).1, e1, e2, e3, h1, adr_u64 hs (by omega), fun b hb => ?_⟩
  rw [h3] at hb
  obtain ⟨v, hv, rfl⟩ := List.mem_map.1 hb
  have hc := H.cl _ hin v (by rw [hnd]; exact hv)
  rcases hc with rfl | hc
  · exact .inl H.z
  · refine .inr (List.mem_map.2 ⟨v.toNat - 1, List.mem_range.2 (by have := hc.1; have := hc.2; omega), ?_⟩)
    exact (if_pos hc).symm
theorem put_ads_u {g : Gr} {s : Int} (hs : s = 0 ∨ s = 1) (hT : tot g.1 ≤ 4096) : ∀ a ∈ ads s g.1 g.1.length, U64 a := fun a ha => by
  obtain ⟨k, hk, rfl⟩ := List.mem_map.1 ha
  have := ofs_tot (ns := g.1) (show k ≤ g.1.length by have := List.mem_range.1 hk; omega)
  exact adr_u64 hs (by omega)

/-! ### End -/
def EndR (g : Gr) (w : World) (va vb : Value) (u3 i : Value) (wr : World) : Prop := ∃ x : Nat, x ≤ g.1.length ∧ i = .int .i64 x ∧ u3 = .int .i64 (ofs g.1 x : Nat) ∧ Blk wr w.heap.size 37 #[va, vb] ∧ Up w wr
set_option maxRecDepth 100000 in
set_option maxHeartbeats 4000000 in
theorem rend_any (v : Value) (g : Gr) (w : World) (hg : GrV w v g) (hR : Rg g) (hn9 : g.1.length ≤ 1000) :
    Calls Try.prog 13 #[v] w fun e w' => e = .returned (.int .i64 (tot g.1 : Nat)) ∧ Up w w' := by
  obtain ⟨A, c, B, d, rfl, m1, m2⟩ := hg.form
  obtain ⟨va, vb, e, ⟨us0, hns⟩, hrw⟩ := hg
  simp only [Value.agg.injEq, Array.mk.injEq, List.cons.injEq, and_true] at e
  obtain ⟨rfl, rfl⟩ := e
  have HND := Lib.hid (fun k (h : k < g.1.length) => hR.ndhd h)
  have HNA : Hid (∀ x, x < g.1.length → ∃ p Af cf, A = some p ∧ ∀ W', Up w W' → p.block < W'.heap.size ∧ NdAt W' (p.add (x * 4)) (g.1.getD x ndN) (.slice Af (g.1.getD x ndN).2.length cf)) := Lib.hid (fun x hx => by
    obtain ⟨p, u, e, -, h1, h2⟩ := hns.at_ hx
    obtain ⟨Af, cf, rfl⟩ := h2.slice
    have hl := lt_of_cell h1.1
    rw [block_of_add] at hl
    exact ⟨p, Af, cf, e, fun W' k => ⟨k.lt hl, ⟨k.cell h1.1, k.cell h1.2.1, k.cell h1.2.2.1, k.cell h1.2.2.2⟩⟩⟩)
  have H18 := Lib.hid (ofs_18 hR)
  have HAL := Lib.hid (ofs_all g.1)
  have HST0 : Hid (Blk (w.alloc (.cells #[.slice A g.1.length c, .slice B g.2.length d] 37)) w.heap.size 37 #[.slice A g.1.length c, .slice B g.2.length d]) := Lib.hid (Blk.new w _ _)
  have HO0 := Lib.hid (ofs_0 g.1)
  clear hns hrw hR
  obtain ⟨n, hn⟩ : ∃ n, g.1.length = n := ⟨_, rfl⟩
  rw [hn] at HND HNA H18 HAL HST0 hn9 m1 ⊢
  have HNN := Lib.hid hn
  clear hn
  generalize g.2.length = n2 at *
  go_enter Try.func13, Try.ntmps13
  go_wp2_with (fail)
  go_loopw [3, 4] (fun u3 i wr => EndR g w (.slice A n c) (.slice B n2 d) u3 i wr) (fun _ i _ => n - (intOf i).toNat)
  case atStart => exact ⟨0, Nat.zero_le _, rfl, by rw [HO0.out]; rfl, HST0.out, (Up.refl w).alloc _⟩
  case round =>
    rename World => wr
    obtain ⟨x, hx, rfl, rfl, bG, U⟩ := hrel
    rw [HNN.out] at hx
    have qG := bG.cell
    have lG := bG.lt
    by_cases hlt : x < n
    · obtain ⟨p, Af, cf, e1, hat⟩ := HNA.out x hlt
      subst e1
      have hnh := HND.out x hlt
      have hst := ofs_step (ns := g.1) (show x < g.1.length by rw [HNN.out]; exact hlt)
      obtain ⟨z0, z1, z2, z3, z4⟩ := hat wr U
      have hb1 := H18.out x hx
      have hb2 := H18.out (x + 1) hlt
      have hdk := hnh.h
      have hll := hnh.l
      obtain ⟨l0, l1, l2, l3⟩ := hdk.len
      generalize (g.1.getD x ndN).2.length = ln at *
      generalize (g.1.getD x ndN).1.1 = t at *
      generalize (g.1.getD x ndN).1.2.1 = l at *
      generalize (g.1.getD x ndN).1.2.2 = mp at *
      have HWD := Lib.hid (fun V => by
        have h := rhwords_any t l mp hdk.m hdk.r V
        rw [l3] at h
        exact h)
      have HE : Hid ((ofs g.1 x : Int) + (l + 2) = (ofs g.1 (x + 1) : Nat)) := Lib.hid (by omega)
      have HBG := Lib.hid bG
      have HU := Lib.hid U
      have q1 : (0 : Int) ≤ (ofs g.1 x : Nat) := by omega
      have q2 : ((ofs g.1 x : Nat) : Int) ≤ 18000 := by omega
      generalize hof : ((ofs g.1 x : Nat) : Int) = of at *
      clear hat hdk hnh hst hb1 hb2 bG U hll hof
      go_wp2_with (fail)
      refine (HWD.out _).mono ?_
      rintro e w4 ⟨rfl, k4⟩
      have HB4 := Lib.hid (HBG.out.up k4)
      have HU4 := Lib.hid (HU.out.trans k4)
      clear k4 qG lG z0 z1 z2 z3 z4
      go_wp2
      exact ⟨⟨x + 1, by rw [HNN.out]; omega, by go_num, by rw [← HE.out], HB4.out, HU4.out⟩, by simp [intOf]; omega⟩
    · obtain rfl : x = n := by omega
      have HU := Lib.hid U
      clear bG U
      go_wp2
      go_ret
      exact ⟨by have h := HAL.out; rw [← h]; rfl, HU.out⟩

/-! ### All -/
def AlR (g : Gr) (s : Int) (W : Nat) (P Q : Addr) (c d : Nat) (w : World) (u8 u9 : Value) (wr : World) : Prop :=
  ∃ x : Nat, x ≤ g.1.length ∧ u9 = .int .i64 (ofs g.1 x : Nat) ∧ wr.ownsRow w.heap.size 48 1 u8 x ((ads s g.1 x).map (Value.int .u64)) ∧ Blk wr w.heap.size 25 (mec W P Q c d) ∧ Up w wr
def RowP (xs : List Int) (w : World) (e : Ending) (w' : World) : Prop := ∃ A c, e = .returned (.tuple #[.slice A xs.length c, .int .i64 0]) ∧ Sl .u64 w' (.slice A xs.length c) xs ∧ Up w w'
theorem app_one {w : World} {n₀ n : Nat} {v : Value} {xs : List Value} {a : Int} (h : w.ownsRow n₀ 48 1 v n xs) (hn : n ≤ 1048576) (hb : n₀ ≤ w.heap.size) :
    ∃ v' w', (Builtin.append_ #[22, 22] 22 #[v, .slice (some ⟨w.heap.size, 0, none⟩) 1 1]).run Try.prog (w.alloc (.cells #[.int .u64 a] 48)) = .ok v' w' ∧ w'.ownsRow n₀ 48 1 v' (n + 1) (xs ++ [.int .u64 a]) ∧ (w.alloc (.cells #[.int .u64 a] 48)).grownBy w' v.ownBlock := by
  have h1 := own_up h ((Up.refl w).alloc (.cells #[.int .u64 a] 48))
  obtain ⟨v2, wb, r1, r2, r3, -⟩ := run_any el_u64 (w := w.alloc (.cells #[.int .u64 a] 48)) 22 n₀ n _ _ h1 (some ⟨w.heap.size, 0, none⟩) 1 1 [.int .u64 a] rfl (rv_of_blk (Blk.new w _ _) (fun i u hi => by simpa using hi)) (fun u hu => by rw [List.mem_singleton] at hu; subst hu; rfl) (by omega) (Nat.le_trans hb ((Up.refl w).alloc _).size)
  exact ⟨v2, wb, r1, r2, r3⟩
set_option maxRecDepth 100000 in
set_option maxHeartbeats 8000000 in
theorem rall6_any (g : Gr) (W : Nat) (s : Int) (P Q : Addr) (c d : Nat) (w : World) (hm : Sits w (putG g W s) P Q c d) (hwf : (putG g W s).wf) (hR : Rg g) (hn9 : g.1.length ≤ 1000) (h16 : 16 ≤ W) (hW : W ≤ 4096) (hs : s = 0 ∨ s = 1) (hT : tot g.1 ≤ W) :
    Calls Try.prog 31 #[mev W P Q c d, .int .i64 s, .int .i64 (tot g.1 : Nat)] w (RowP (ads s g.1 g.1.length) w) := by
  have hnm : (putG g W s).n = W := mk_n _ _ _
  have HAT := Lib.hid (fun x (hx : x < g.1.length) V (k : Up w V) => by
    have p := put_at hR h16 hW hs hT hx
    have h := rat_any (putG g W s) (adr s (ofs g.1 x)) P Q c d V (hm.up k) p.hu hwf
    rw [hnm, p.he, p.ht, p.hl, p.hm] at h
    exact h)
  have HND := Lib.hid (fun k (h : k < g.1.length) => hR.ndhd h)
  have HTT := Lib.hid (fun k (h : k ≤ g.1.length) => ofs_tot (ns := g.1) h)
  have HAL := Lib.hid (ofs_all g.1)
  have HO0 := Lib.hid (ofs_0 g.1)
  have HS := Lib.hid (fun p h1 h2 V => raddr_ok s p hs h1 h2 V)
  have HB0 := Lib.hid (Blk.new w 25 (mec W P Q c d))
  obtain ⟨T, hTT⟩ : ∃ T, tot g.1 = T := ⟨_, rfl⟩
  rw [hTT] at HTT HAL hT ⊢
  have hl0 : decide ((T : Int) < 0) = false := decide_eq_false (by omega)
  have hl1 : decide ((T : Int) > (W : Int)) = false := decide_eq_false (by omega)
  have hl2 : decide (W < T) = false := decide_eq_false (by omega)
  have HRL := Lib.hid (ads_len s g.1 g.1.length)
  clear hm hwf hR hnm hTT
  obtain ⟨n, hn⟩ : ∃ n, g.1.length = n := ⟨_, rfl⟩
  rw [hn] at HAT HND HTT HAL HRL hn9 ⊢
  have HNN := Lib.hid hn
  clear hn
  have hq : (s != 0) = false ∨ ((s != 0) = true ∧ (s != 1) = false) := by rcases hs with rfl | rfl <;> simp
  clear hs
  rcases hq with hq | ⟨hq, hq2⟩
  all_goals
    go_enter Try.func31, Try.ntmps31
    have q0G := HB0.out.cell
    have l0G := HB0.out.lt
    go_wp2_with (fail)
    go_loopw [8, 9] (fun u8 u9 wr => AlR g s W P Q c d w u8 u9 wr) (fun _ u9 _ => T - (intOf u9).toNat)
    case atStart => exact ⟨0, Nat.zero_le _, by rw [HO0.out]; rfl, World.ownsRow_nil _ _ _ _, HB0.out, (Up.refl w).alloc _⟩
    case round =>
      rename World => wr
      obtain ⟨x, hx, rfl, ho, bG, U⟩ := hrel
      rw [HNN.out] at hx
      have qG := bG.cell
      have lG := bG.lt
      have hmx := HTT.out x hx
      by_cases hlt : x < n
      · have hnh := HND.out x hlt
        have hst := ofs_step (ns := g.1) (show x < g.1.length by rw [HNN.out]; exact hlt)
        have hm1 := HTT.out (x + 1) hlt
        have hdk := hnh.h
        have hll := hnh.l
        obtain ⟨l0, l1, l2, l3⟩ := hdk.len
        have HA2 := Lib.hid (HAT.out x hlt)
        obtain ⟨A1, c1, rfl⟩ := own_slice ho
        generalize (g.1.getD x ndN).2.length = ln at *
        generalize (g.1.getD x ndN).1.1 = t at *
        generalize (g.1.getD x ndN).1.2.1 = l at *
        generalize (g.1.getD x ndN).1.2.2 = mp at *
        have HWD := Lib.hid (fun V => by
          have h := rhwords_any t l mp hdk.m hdk.r V
          rw [l3] at h
          exact h)
        have HAD := Lib.hid (fun V => HS.out (ofs g.1 x) (by omega) (by omega) V)
        have HE : Hid ((ofs g.1 x : Int) + (l + 2) = (ofs g.1 (x + 1) : Nat)) := Lib.hid (by omega)
        have HDC : Hid (T - (ofs g.1 (x + 1)) < T - (ofs g.1 x)) := Lib.hid (by omega)
        have hd1 : decide (((ofs g.1 x : Nat) : Int) + (l + 2) > (T : Int)) = false := decide_eq_false (by omega)
        have hd2 : ((ofs g.1 x : Nat) : Int) < T := by omega
        have q1 : (0 : Int) ≤ (ofs g.1 x : Nat) := by omega
        have q2 : ((ofs g.1 x : Nat) : Int) ≤ 4096 := by omega
        have HSP := Lib.hid (ads_step s g.1 x)
        have HBG := Lib.hid bG
        have HU := Lib.hid U
        have HOW := Lib.hid ho
        have HTN : Hid ((((ofs g.1 x : Nat) : Int)).toNat = ofs g.1 x) := Lib.hid (by omega)
        clear ho bG U hnh hst hm1 hdk hll hmx
        generalize hof : ((ofs g.1 x : Nat) : Int) = of at *
        generalize adr s of = a at *
        go_wp2_with (fail)
        refine (HAD.out _).mono ?_
        rintro e w4' ⟨rfl, rfl⟩
        go_wp2_with (fail)
        refine (HA2.out _ HU.out).mono ?_
        rintro e w5 ⟨rfl, k5⟩
        have k6 : Up w5 (w5.alloc (.cells (hcs t l mp) 50)) := (Up.refl w5).alloc _
        clear qG lG
        have bG6 := (HBG.out.up k5).up k6
        have qG := bG6.cell
        have lG := bG6.lt
        have HK6 := Lib.hid (k5.trans k6)
        have HB6 := Lib.hid bG6
        clear k5 k6 bG6
        go_wp2_with (fail)
        refine (HWD.out _).mono ?_
        rintro e w7 ⟨rfl, k7⟩
        have K7 := HK6.out.trans k7
        have bG7 := HB6.out.up k7
        have ho7 := own_up HOW.out K7
        obtain ⟨v8, w8, hrun, ho8, hg8⟩ := app_one (a := a) ho7 (by omega) (HU.out.trans K7).size
        have kd : Up w7 (w7.alloc (.cells #[.int .u64 a] 48)) := (Up.refl w7).alloc _
        have HB8 := Lib.hid ((bG7.up kd).grown hg8 (own_row_ne (own_up ho7 kd) (bG7.up kd) (by decide)))
        have HU8 := Lib.hid (((HU.out.trans K7).trans kd).grown hg8 (fun g e => (World.ownsRow.lt (own_up ho7 kd) g e).1))
        have HO8 := Lib.hid ho8
        have q7 := bG7.cell
        have l7 := bG7.lt
        clear qG lG k7 K7 bG7 ho7 ho8 hg8 kd
        go_wp2_with (at_builtin; refine Lib.wpList_append_run _ rfl _ _ _ _ rfl _ _ rfl rfl _ _ hrun ?_)
        refine ⟨⟨x + 1, by rw [HNN.out]; omega, by rw [← HE.out], ?_, HB8.out, HU8.out⟩, ?_⟩
        · rw [HSP.out, List.map_append]
          exact HO8.out
        · have h1 := HDC.out
          have h2 := HE.out
          simp only [intOf]
          omega
      · obtain rfl : x = n := by omega
        have hd2 : ¬ ((ofs g.1 x : Nat) : Int) < T := by rw [HAL.out]; omega
        have HU := Lib.hid U
        obtain ⟨A1, c1, rfl⟩ := own_slice ho
        have HSL := Lib.hid (sl_own ho (ads_len _ _ _))
        generalize ((ofs g.1 x : Nat) : Int) = of at *
        clear bG U ho
        go_wp2
        go_ret2
        refine ⟨A1, c1, by rw [HRL.out]; rfl, ?_, HU.out⟩
        rw [HRL.out]
        exact HSL.out

/-! ### Objects -/
def OjR (xs : List Int) (W : Nat) (P Q : Addr) (c d : Nat) (w w1 : World) (u10 i : Value) (wr : World) : Prop :=
  ∃ x : Nat, x ≤ xs.length ∧ i = .int .i64 x ∧ wr.ownsRow w1.heap.size 48 1 u10 x ((xs.take x).map (Value.int .u64)) ∧ Blk wr w.heap.size 25 (mec W P Q c d) ∧ Up w wr
set_option maxRecDepth 100000 in
set_option maxHeartbeats 8000000 in
theorem robjs_any (g : Gr) (W : Nat) (s : Int) (P Q : Addr) (c d : Nat) (w : World) (hm : Sits w (putG g W s) P Q c d) (hwf : (putG g W s).wf) (hR : Rg g) (hn9 : g.1.length ≤ 1000) (h16 : 16 ≤ W) (hW : W ≤ 4096) (hs : s = 0 ∨ s = 1) (hT : tot g.1 ≤ W) :
    Calls Try.prog 14 #[mev W P Q c d, .int .i64 s, .int .i64 (tot g.1 : Nat)] w (RowP (ads s g.1 g.1.length) w) := by
  have hnm : (putG g W s).n = W := mk_n _ _ _
  have HRE := Lib.hid (fun x (hx : x < (ads s g.1 g.1.length).length) V (k : Up w V) => by
    have hx' : x < g.1.length := by rw [ads_len] at hx; exact hx
    have p := put_at hR h16 hW hs hT hx'
    have h := rreal_any (putG g W s) (adr s (ofs g.1 x)) P Q c d V (hm.up k) p.hu hwf
    rw [hnm, p.hr, ← ads_get s g.1 hx'] at h
    exact h)
  have HALL := Lib.hid (fun V (k : Up w V) => rall6_any g W s P Q c d V (hm.up k) hwf hR hn9 h16 hW hs hT)
  have hxl : (ads s g.1 g.1.length).length ≤ 1000 := by rw [ads_len]; exact hn9
  have HB0 := Lib.hid (Blk.new w 25 (mec W P Q c d))
  have HK0 : Hid (Up w (w.alloc (.cells (mec W P Q c d) 25))) := Lib.hid ((Up.refl w).alloc _)
  generalize ads s g.1 g.1.length = xs at *
  generalize ((tot g.1 : Nat) : Int) = T at *
  clear hm hwf hR hnm hT hs h16 hW hn9
  obtain ⟨n, hn⟩ : ∃ n, xs.length = n := ⟨_, rfl⟩
  rw [hn] at HRE hxl
  have HNN := Lib.hid hn
  unfold RowP at HALL ⊢
  rw [hn] at HALL ⊢
  clear hn
  go_enter Try.func14, Try.ntmps14
  go_wp2_with (fail)
  refine (HALL.out _ HK0.out).mono ?_
  rintro e w1 ⟨A, cA, rfl, hsl, k1⟩
  have HB1 := Lib.hid (HB0.out.up k1)
  have HU1 := Lib.hid (HK0.out.trans k1)
  have HRD := Lib.hid (fun V (k : Up w1 V) => rd_sl (hsl.up k))
  clear hsl k1
  go_wp2_with (fail)
  go_loopw [10, 11] (fun u10 i wr => OjR xs W P Q c d w w1 u10 i wr ∧ Up w1 wr) (fun _ i _ => n - (intOf i).toNat)
  case atStart => exact ⟨⟨0, Nat.zero_le _, rfl, World.ownsRow_nil _ _ _ _, HB1.out, HU1.out⟩, Up.refl _⟩
  case round =>
    rename World => wr
    obtain ⟨⟨x, hx, rfl, ho, bG, U⟩, UL⟩ := hrel
    rw [HNN.out] at hx
    by_cases hlt : x < n
    · obtain ⟨pp, e1, hcl⟩ := (HRD.out wr UL).at_ hlt
      subst e1
      have HCC := Lib.hid (fun V (k : Up wr V) => by
        obtain ⟨p', e, h⟩ := (HRD.out V (UL.trans k)).at_ hlt
        cases e
        exact h : ∀ V, Up wr V → V.cell? (pp.add x) = some (.int .u64 (xs.getD x 0)))
      have HCL := Lib.hid (fun V (k : Up wr V) => HRE.out x hlt V (U.trans k))
      have HST := Lib.hid (take_snoc' (show x < xs.length by rw [HNN.out]; exact hlt))
      generalize xs.getD x 0 = a at *
      have hll := lt_of_cell hcl
      rw [block_of_add] at hll
      have qG := bG.cell
      have lG := bG.lt
      have HBG := Lib.hid bG
      have HU := Lib.hid U
      have HUL := Lib.hid UL
      obtain ⟨A1, c1, rfl⟩ := own_slice ho
      have HOW := Lib.hid ho
      have HC0 := Lib.hid (HCL.out wr.drew (Up.refl wr).drew)
      clear ho bG U UL
      go_wp2_with (fail)
      go_region_with (go_at_call 32; (with_reducible refine HC0.out.mono ?_); rintro e w5 ⟨rfl, k5⟩)
      all_goals
        have k6 := (Up.refl wr).drew.trans k5
        have bG6 := HBG.out.up k6
        have ho6 := own_up HOW.out k6
        have hc6 := HCC.out _ k6
        have hl6 := k6.lt hll
        obtain ⟨v8, w8, hrun, ho8, hg8⟩ := app_one (a := a) ho6 (by omega) (HUL.out.trans k6).size
        have kd : Up w5 (w5.alloc (.cells #[.int .u64 a] 48)) := (Up.refl w5).alloc _
        have HB8 := Lib.hid ((bG6.up kd).grown hg8 (own_row_ne (own_up ho6 kd) (bG6.up kd) (by decide)))
        have HU8 := Lib.hid (((HU.out.trans k6).trans kd).grown hg8 (fun g e => Nat.le_trans HU1.out.size (World.ownsRow.lt (own_up ho6 kd) g e).1))
        have HL8 := Lib.hid (((HUL.out.trans k6).trans kd).grown hg8 (fun g e => (World.ownsRow.lt (own_up ho6 kd) g e).1))
        have HO8 := Lib.hid ho8
        clear qG lG hcl hll k5 k6 bG6 ho6 ho8 hg8 kd
        go_wp2_with (at_builtin; refine Lib.wpList_append_run _ rfl _ _ _ _ rfl _ _ rfl rfl _ _ hrun ?_)
        refine ⟨⟨⟨x + 1, by rw [HNN.out]; omega, by go_num, ?_, HB8.out, HU8.out⟩, HL8.out⟩, by simp [intOf]; omega⟩
        rw [HST.out, List.map_append]
        exact HO8.out
    · obtain rfl : x = n := by omega
      have HU := Lib.hid U
      obtain ⟨A1, c1, rfl⟩ := own_slice ho
      have HPA : Hid (xs.take x = xs) := Lib.hid (List.take_of_length_le (by rw [HNN.out]; exact Nat.le_refl _))
      rw [HPA.out] at ho
      have HSL := Lib.hid (sl_own ho HNN.out)
      clear bG U UL ho
      go_wp2
      go_ret2
      exact ⟨A1, c1, rfl, HSL.out, HU.out⟩

/-! ### Sound -/
def SdO (W : Nat) (P Q : Addr) (c d : Nat) (n : Nat) (w w1 : World) (i : Value) (wr : World) : Prop := ∃ x : Nat, x ≤ n ∧ i = .int .i64 x ∧ Blk wr w.heap.size 25 (mec W P Q c d) ∧ Up w wr ∧ Up w1 wr
def SdI (W : Nat) (P Q : Addr) (c d : Nat) (n : Nat) (w w3 : World) (i : Value) (wr : World) : Prop := ∃ x : Nat, x ≤ n ∧ i = .int .i64 x ∧ Blk wr w.heap.size 25 (mec W P Q c d) ∧ Up w wr ∧ Up w3 wr
set_option maxRecDepth 100000 in
set_option maxHeartbeats 8000000 in
theorem rsound_any (g : Gr) (W : Nat) (s : Int) (P Q : Addr) (c d : Nat) (w : World) (hm : Sits w (putG g W s) P Q c d) (hwf : (putG g W s).wf) (hR : Rg g) (hn9 : g.1.length ≤ 1000) (h16 : 16 ≤ W) (hW : W ≤ 4096) (hs : s = 0 ∨ s = 1) (hT : tot g.1 ≤ W) :
    Calls Try.prog 15 #[mev W P Q c d, .int .i64 s, .int .i64 (tot g.1 : Nat)] w fun e w' => e = .returned (.bool true) ∧ Up w w' := by
  have hnm : (putG g W s).n = W := mk_n _ _ _
  have HPT := Lib.hid (fun x (hx : x < (ads s g.1 g.1.length).length) V (k : Up w V) => by
    have hx' : x < g.1.length := by rw [ads_len] at hx; exact hx
    have p := put_at hR h16 hW hs hT hx'
    have h := rpointers_any (putG g W s) P Q c d (adr s (ofs g.1 x)) V (hm.up k) p.hu hwf (of_decide_eq_true p.hr)
    rw [hnm, ← ads_get s g.1 hx'] at h
    exact (h.mono fun e w' h => (⟨_, by have := ptv_len (putG g W s) ((ads s g.1 g.1.length).getD x 0); omega, fun b hb => p.hp b (by rw [← ads_get s g.1 hx']; exact hb), h⟩ : ∃ ps : List Int, ps.length ≤ 16 ∧ (∀ b ∈ ps, b = 0 ∨ b ∈ ads s g.1 g.1.length) ∧ ∃ v, e = .returned v ∧ Lo w' V.heap.size v ps ∧ Up V w')))
  have HOJ := Lib.hid (fun V (k : Up w V) => robjs_any g W s P Q c d V (hm.up k) hwf hR hn9 h16 hW hs hT)
  have hxl : (ads s g.1 g.1.length).length ≤ 1000 := by rw [ads_len]; exact hn9
  have HB0 := Lib.hid (Blk.new w 25 (mec W P Q c d))
  have HK0 : Hid (Up w (w.alloc (.cells (mec W P Q c d) 25))) := Lib.hid ((Up.refl w).alloc _)
  generalize ads s g.1 g.1.length = xs at *
  generalize ((tot g.1 : Nat) : Int) = T at *
  clear hm hwf hR hnm hT hs h16 hW hn9
  obtain ⟨n, hn⟩ : ∃ n, xs.length = n := ⟨_, rfl⟩
  have HHA := Lib.hid (fun A cu b V (h : Rd V A n xs) => rhas_any A n cu xs b V h (by unfold maxLen; omega))
  rw [hn] at HPT hxl
  unfold RowP at HOJ
  rw [hn] at HOJ
  clear hn
  go_enter Try.func15, Try.ntmps15
  go_wp2_with (fail)
  refine (HOJ.out _ HK0.out).mono ?_
  rintro e w1 ⟨A, cA, rfl, hsl, k1⟩
  have HB1 := Lib.hid (HB0.out.up k1)
  have HU1 := Lib.hid (HK0.out.trans k1)
  have HRD := Lib.hid (fun V (k : Up w1 V) => rd_sl (hsl.up k))
  clear hsl k1
  go_wp2_with (fail)
  go_loopw [9] (fun i wr => SdO W P Q c d n w w1 i wr) (fun i _ => n - (intOf i).toNat)
  case atStart => exact ⟨0, Nat.zero_le _, rfl, HB1.out, HU1.out, Up.refl _⟩
  case round =>
    rename World => wr
    obtain ⟨x, hx, rfl, bG, U, UL⟩ := hrel
    by_cases hlt : x < n
    · obtain ⟨pp, e1, hcl⟩ := (HRD.out wr UL).at_ hlt
      subst e1
      have HCL := Lib.hid (HPT.out x hlt wr.drew U.drew)
      generalize xs.getD x 0 = a at hcl HCL
      have hll := lt_of_cell hcl
      rw [block_of_add] at hll
      have qG := bG.cell
      have lG := bG.lt
      have HBG := Lib.hid bG
      have HU := Lib.hid U
      have HUL := Lib.hid UL
      clear bG U UL
      go_wp2_with (fail)
      go_region_with (go_at_call 33; (with_reducible refine HCL.out.mono ?_); rintro e w5 ⟨ps, hp1, hp2, v5, rfl, hlo, k5⟩)
      all_goals
        obtain ⟨A5, c5, rfl, hl1, hl2, hrd⟩ := hlo.sl
        have HB5 := Lib.hid (HBG.out.up ((Up.refl wr).drew.trans k5))
        have HU5 := Lib.hid (HU.out.trans ((Up.refl wr).drew.trans k5))
        have HL5 := Lib.hid (HUL.out.trans ((Up.refl wr).drew.trans k5))
        have HRP := Lib.hid (fun V (k : Up w5 V) => hrd.up k)
        have HIN := Lib.hid (fun k (h : k < ps.length) => hp2 _ (getD_mem 0 h))
        obtain ⟨pn, hpn⟩ : ∃ pn, ps.length = pn := ⟨_, rfl⟩
        rw [hpn] at HRP hp1 HIN ⊢
        clear hlo hl1 hl2 hrd k5 qG lG hcl hll HBG HU HUL hp2 hpn
        go_wp2_with (fail)
        go_loopw [11] (fun i wr => SdI W P Q c d pn w w5 i wr) (fun i _ => pn - (intOf i).toNat)
        case atStart => exact ⟨0, Nat.zero_le _, rfl, HB5.out, HU5.out, Up.refl _⟩
        case round =>
          rename World => wq
          obtain ⟨y, hy, rfl, bQ, UQ, U5⟩ := hrel
          by_cases hly : y < pn
          · obtain ⟨p6, e1, hc6⟩ := (HRP.out wq U5).at_ hly
            subst e1
            have hin := HIN.out y hly
            generalize ps.getD y 0 = b at *
            have HH := Lib.hid (HHA.out _ cA b wq (HRD.out wq (HL5.out.trans U5)))
            have hl6 := lt_of_cell hc6
            rw [block_of_add] at hl6
            obtain ⟨q, hq⟩ : ∃ q, decide (b ∈ xs) = q := ⟨_, rfl⟩
            rw [hq] at HH
            have hor : (b != 0) = false ∨ ((b != 0) = true ∧ q = true) := by
              by_cases h0 : b = 0
              · exact .inl (by simp [h0])
              · refine .inr ⟨by simp [h0], ?_⟩
                rw [← hq]
                exact decide_eq_true (hin.resolve_left h0)
            have HBQ := Lib.hid bQ
            have HUQ := Lib.hid UQ
            have HQ5 := Lib.hid U5
            clear bQ UQ U5 hin hq
            rcases hor with h0 | ⟨h0, rfl⟩
            · go_wp2_with (fail)
              refine HH.out.mono ?_
              rintro e w6 ⟨rfl, rfl⟩
              go_wp2
              exact ⟨⟨y + 1, by omega, by go_num, HBQ.out, HUQ.out, HQ5.out⟩, by simp [intOf]; omega⟩
            · go_wp2_with (fail)
              refine HH.out.mono ?_
              rintro e w6 ⟨rfl, rfl⟩
              go_wp2
              exact ⟨⟨y + 1, by omega, by go_num, HBQ.out, HUQ.out, HQ5.out⟩, by simp [intOf]; omega⟩
          · obtain rfl : y = pn := by omega
            have HX := Lib.hid (show SdO W P Q c d n w w1 (.int .i64 ((x + 1 : Nat) : Int)) wq from ⟨x + 1, by omega, rfl, bQ, UQ, HL5.out.trans U5⟩)
            clear bQ UQ U5
            go_wp2
            exact ⟨HX.out, by simp [intOf]; omega⟩
    · obtain rfl : x = n := by omega
      have HU := Lib.hid U
      clear bG U UL
      go_wp2
      go_ret
      exact ⟨rfl, HU.out⟩
end Go.Proofs.Ytanhhkdoejnpiaa.G

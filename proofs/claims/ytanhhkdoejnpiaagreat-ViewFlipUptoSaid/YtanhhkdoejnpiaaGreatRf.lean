/- Rows of handles turned into rows of numbers (view.turned, one way), by the closure that numbers: contract. -/
import Derived.Test.YtanhhkdoejnpiaaGreatRe
namespace Go.Proofs.YtanhhkdoejnpiaaGreat.G
open Go.Joins Go.ChangeShapes Go.WideShapes Go.ChangeAt Go.RowKit Go.Deep Go.Shelf Go.Maps
set_option linter.unusedVariables false
set_option linter.unusedSimpArgs false

theorem step_run {w : World} {T : TypeId} {ops : Array Oper} {o : Oper} {a : Act} {K : Act → World → Prop} {Q : Exit → Act → World → Prop} {F : Prop} (hgd : o.guard = none) (s x : Operand) (ho : o.op = .call { callee := .builtin .append, args := #[s, x], argTypes := #[T, T] })
    (u v : Value) (hs : a.eval s = u) (hx : a.eval x = v) (v' : Value) (w' : World) (hr : (Builtin.append_ #[T, T] o.type #[u, v]).run Tryz.prog w = .ok v' w') (h : K (a.put o.dst v') w') : if Region.wanted o (yielded ops a.tmps) = true then Oper.wp Tryz.prog o a w K Q else F := by
  have hw : Region.wanted o (yielded ops a.tmps) = true := by simp [Region.wanted, hgd]
  rw [if_pos hw]
  exact Lib.wp_append_run w s x T T ho _ _ hs hx _ w' hr h
/-- A row, so many of it turned. -/
def partR (f : Int → Int) (L : List (List Int)) (x : Nat) : List (List Int) := (List.range L.length).map fun i => if i < x then (L.getD i []).map f else []
theorem partR_0 (f : Int → Int) (L : List (List Int)) : partR f L 0 = List.replicate L.length [] := by
  unfold partR
  simp only [Nat.not_lt_zero, if_false]
  exact List.ext_getElem (by simp) (fun i h1 h2 => by simp)
theorem partR_len (f : Int → Int) (L : List (List Int)) (x : Nat) : (partR f L x).length = L.length := by simp [partR]
theorem partR_all (f : Int → Int) (L : List (List Int)) {x : Nat} (h : x = L.length) : partR f L x = L.map fun row => row.map f := by
  subst h
  unfold partR
  refine List.ext_getElem (by simp) (fun i h1 h2 => ?_)
  have hi : i < L.length := by simpa using h1
  simp [hi]
theorem partR_step (f : Int → Int) (L : List (List Int)) {x : Nat} (h : x < L.length) : (partR f L x).set x ((L.getD x []).map f) = partR f L (x + 1) := by
  refine List.ext_getElem? fun j => ?_
  rw [List.getElem?_set]
  unfold partR
  by_cases q : x = j
  · subst q
    rw [if_pos rfl, if_pos (by simpa using h), List.getElem?_map, List.getElem?_range h]
    simp
  · rw [if_neg q, List.getElem?_map, List.getElem?_map]
    by_cases r : j < L.length
    · rw [List.getElem?_range r]
      simp only [Option.map_some]
      congr 1
      by_cases z : j < x
      · rw [if_pos z, if_pos (show j < x + 1 by omega)]
      · rw [if_neg z, if_neg (show ¬ j < x + 1 by omega)]
    · rw [List.getElem?_eq_none (by simpa using r)]
      rfl
theorem partR_at (f : Int → Int) (L : List (List Int)) {x : Nat} (h : x < L.length) : (partR f L x)[x]? = some [] := by
  unfold partR
  rw [List.getElem?_map, List.getElem?_range h]
  simp
/-- Rows of the call's own, of one kind. -/
structure OwL (base : Nat) (w : World) (us : List Value) (K : List (List Int)) : Prop where
  l : us.length = K.length
  r : ∀ (k : Nat) (u : Value) (xs : List Int), us[k]? = some u → K[k]? = some xs → w.ownsRow base 3 1 u xs.length (xs.map (Value.int .i64))
theorem OwL.keep {base : Nat} {w w' : World} {us : List Value} {K : List (List Int)} (h : OwL base w us K) (k : ∀ b cs, Blk w b 3 cs → Blk w' b 3 cs) : OwL base w' us K :=
  ⟨h.l, fun j u xs h1 h2 => own_keep (h.r j u xs h1 h2) k⟩
theorem OwL.nil (base : Nat) (w : World) (n : Nat) : OwL base w (List.replicate n (.slice none 0 0)) (List.replicate n []) := by
  refine ⟨by simp, fun k u xs h1 h2 => ?_⟩
  rw [List.getElem?_replicate] at h1 h2
  split at h1
  · cases h1
    rw [if_pos (by assumption)] at h2
    cases h2
    exact World.ownsRow_nil _ _ _ _
  · cases h1
theorem OwL.set {base : Nat} {w : World} {us : List Value} {K : List (List Int)} (h : OwL base w us K) (x : Nat) {u : Value} {xs : List Int} (hu : w.ownsRow base 3 1 u xs.length (xs.map (Value.int .i64))) : OwL base w (us.set x u) (K.set x xs) := by
  refine ⟨by simp [h.l], fun k v ys h1 h2 => ?_⟩
  rw [List.getElem?_set] at h1 h2
  by_cases q : x = k
  · rw [if_pos q] at h1 h2
    split at h1
    · split at h2
      · cases h1; cases h2; exact hu
      · cases h2
    · cases h1
  · rw [if_neg q] at h1 h2
    exact h.r k v ys h1 h2
theorem kp_grown {S : List Nat} {a b c : World} {row : Option Nat} (h : Kp S a b) (hg : b.grownBy c row) (hr : ∀ g, row = some g → a.heap.size ≤ g) : Kp S a c :=
  ⟨hg.os.trans h.os, hg.tape.trans h.tape, hg.output.trans h.output, Nat.le_trans h.size hg.size, fun k hk hS => (hg.block k (Nat.lt_of_lt_of_le hk h.size) (fun e => by have := hr k e.symm; omega)).trans (h.block k hk hS)⟩
theorem own_ne_map {w : World} {n₀ n M N : Nat} {e k : TypeId} {size : Nat} {v : Value} {xs : List Value} {R : Value → Option (DataW Unit × List MemPlace)} {D : DataW Unit} (h : w.ownsRow n₀ e size v n xs) (hm : w.ownsMap Tryz.prog k R M N D) : v.ownBlock ≠ some M := fun q => by
  rcases h.2 with ⟨e1, _⟩ | ⟨g, cap, cur, e1, _, hb, _⟩
  · rw [e1] at q; cases q
  · rw [e1] at q
    have : g = M := by simpa [Value.ownBlock] using q
    subst this
    obtain ⟨es, clock, hm2, _⟩ := hm
    rw [hb] at hm2
    cases hm2
structure TuI (L : List (List Int)) (l : List Int) (B M Bl G : Nat) (b : Bool) (w : World) (us : List Value) (K : List (List Int)) (done : List Int) (wr : World) : Prop where
  bG : Blk wr G 72 us.toArray
  rows : OwL w.heap.size wr us K
  nm : NmBox wr B M l
  bl : Blk wr Bl 4 #[.bool (b || !okL l done)]
  kp : Kp [Bl] w wr
def TuO_ (L : List (List Int)) (l : List Int) (B M Bl G : Nat) (b : Bool) (w : World) (i : Value) (wr : World) : Prop :=
  ∃ (x : Nat) (us : List Value), x ≤ L.length ∧ i = .int .i64 x ∧ (∀ j, x ≤ j → j < L.length → us[j]? = some (.slice none 0 0)) ∧ TuI L l B M Bl G b w us (partR (pl l) L x) (L.take x).flatten wr
def TuN_ (L : List (List Int)) (l row : List Int) (B M Bl G x : Nat) (b : Bool) (us : List Value) (w wb : World) (i : Value) (wr : World) : Prop :=
  ∃ (h : Nat) (u : Value), h ≤ row.length ∧ i = .int .i64 h ∧ wr.ownsRow wb.heap.size 3 1 u h (((row.take h).map (pl l)).map (Value.int .i64)) ∧ Blk wr G 72 (us.set x u).toArray ∧ NmBox wr B M l ∧ Blk wr Bl 4 #[.bool (b || !okL l ((L.take x).flatten ++ row.take h))] ∧ Kp [Bl] w wr ∧ Kp [Bl, G] wb wr
def TuPost (L : List (List Int)) (l : List Int) (B M Bl : Nat) (b : Bool) (w : World) (e : Ending) (w' : World) : Prop :=
  ∃ G us, e = .returned (.slice (some ⟨G, 0, none⟩) L.length L.length) ∧ w.heap.size ≤ G ∧ TuI L l B M Bl G b w us (L.map fun row => row.map (pl l)) L.flatten w'
theorem run_makeRows (n : Nat) (hn : n ≤ 1048576) (w : World) :
    (Instr.makeSlice 28 (.int .i64 (n : Int)) (.int .i64 (n : Int))).run Tryz.prog w = .ok (.slice (some ⟨w.heap.size, 0, none⟩) n n) (w.alloc (.cells (List.replicate n (Value.slice none 0 0)).toArray 72)) := by
  have := run_make_row' (P := Tryz.prog) 28 72 (.slice none 0 0) 24 Tryz.underlying28 (by kernel_rfl) rfl .i64 .i64 n (by omega) (by omega) w
  rw [show madeCells #[Value.slice none 0 0] n = (List.replicate n (Value.slice none 0 0)).toArray from by
    apply Array.ext
    · simp [size_madeCells]
    · intro i h1 h2
      simp [madeCells, Nat.mod_one]] at this
  exact this
theorem okL_snoc (l xs : List Int) (y : Int) : okL l (xs ++ [y]) = (okL l xs && decide (y ∈ 0 :: l)) := by simp [okL, List.all_append]
theorem pl_bd2 (l : List Int) (a : Int) : 0 ≤ pl l a ∧ pl l a ≤ l.length := by
  unfold pl
  split
  · rename_i h
    have := List.idxOf_lt_length_of_mem h
    omega
  · omega
set_option maxRecDepth 100000 in
set_option maxHeartbeats 8000000 in
theorem turnedI_any (v : Value) (L : List (List Int)) (l : List Int) (B M Bl : Nat) (b : Bool) (w0 w : World) (hL : Rw .u64 w0 v L) (hU : Up w0 w) (hBl : w0.heap.size ≤ Bl) (hO : RwOk L) (hs : L.length ≤ 1048576) (hll : l.length ≤ 1048576) (hN : NmBox w B M l) (hb : Blk w Bl 4 #[.bool b]) :
    Calls Tryz.prog 33 #[v, .func (.func 29) #[] #[bx B, bx Bl]] w (TuPost L l B M Bl b w) := by
  have hup : ∀ W, Kp [Bl] w W → Up w0 W := fun W k => hU.kp k (fun x hx => by rw [List.mem_singleton.1 hx]; exact hBl)
  obtain ⟨A, c, rfl, hmx⟩ := hL.slice
  have HRW : Hid (∀ x, x < L.length → ∃ p A1 c1, A = some p ∧ ∀ W, Kp [Bl] w W → p.block < W.heap.size ∧ W.cell? (p.add x) = some (.slice A1 (L.getD x []).length c1) ∧ Sl .u64 W (.slice A1 (L.getD x []).length c1) (L.getD x [])) := Lib.hid (fun x hx => by
    obtain ⟨p, u, e, h1, h2⟩ := hL.at_ hx
    obtain ⟨A1, c1, rfl⟩ := h2.slice
    have hl := lt_of_cell h1
    rw [block_of_add] at hl
    exact ⟨p, A1, c1, e, fun W k => ⟨(hup W k).lt hl, (hup W k).cell h1, h2.up (hup W k)⟩⟩)
  have HNU := Lib.hid (fun (x : Int) (bb : Bool) (W : World) (hx : U64 x) (h1 : NmBox W B M l) (h2 : Blk W Bl 4 #[.bool bb]) => number_any l x B M Bl bb W hx h1 h2)
  have HOU : Hid (∀ x h, x < L.length → h < (L.getD x []).length → U64 ((L.getD x []).getD h 0)) := Lib.hid (fun x h h1 h2 => hO.u _ (List.mem_flatten.2 ⟨L.getD x [], getD_mem [] h1, getD_mem 0 h2⟩))
  have HOL : Hid (∀ x, x < L.length → (L.getD x []).length ≤ 1048576) := Lib.hid (fun x h1 => by
    have h2 := jflat_le L (x + 1)
    rw [jflat_take h1, List.length_append] at h2
    have := hO.l
    omega)
  have HPB : Hid (∀ y, 0 ≤ pl l y ∧ pl l y ≤ 1048576) := Lib.hid (fun y => by have := pl_bd2 l y; omega)
  have HNM := Lib.hid hN
  have HBL := Lib.hid hb
  have hlt3 := hb.lt
  have hmk := fun W => run_makeRows L.length hs W
  clear hL hU hBl hO hN hb hll hup
  obtain ⟨n, hn⟩ : ∃ n, L.length = n := ⟨_, rfl⟩
  rw [hn] at HRW hmk hs HOU HOL ⊢
  have HNN := Lib.hid hn
  clear hn
  go_enter Tryz.func33, Tryz.ntmps33
  go_wp2_with (fail)
  obtain ⟨W1, hW1⟩ : ∃ W1, W1 = w.alloc (.cells (Array.replicate n (Value.slice none 0 0)) 72) := ⟨_, rfl⟩
  rw [← hW1]
  have hst : TuI L l B M Bl w.heap.size b w (List.replicate n (.slice none 0 0)) (partR (pl l) L 0) (L.take 0).flatten W1 := by
    have k1 : Up w W1 := by rw [hW1]; exact (Up.refl w).alloc _
    refine ⟨by rw [hW1, List.toArray_replicate]; exact Blk.new w _ _, ?_, HNM.out.up k1, by simpa [okL] using HBL.out.up k1, Kp.of_up k1⟩
    rw [partR_0, HNN.out]
    exact OwL.nil _ _ _
  have HST := Lib.hid hst
  clear hst hW1 hmk
  go_loopw [15] (fun i wr => TuO_ L l B M Bl w.heap.size b w i wr) (fun i _ => n - (intOf i).toNat)
  case atStart => exact ⟨0, _, Nat.zero_le _, rfl, fun j _ hj => by rw [HNN.out] at hj; simp [hj], HST.out⟩
  case round =>
    rename World => wb
    obtain ⟨x, us, hx, rfl, hz, hI⟩ := hrel
    rw [HNN.out] at hx hz
    by_cases hlt : x < n
    · have hlx : x < L.length := by rw [HNN.out]; exact hlt
      obtain ⟨p, Ar, cr, e1, hat⟩ := HRW.out x hlt
      subst e1
      obtain ⟨hll, hcl, hsl⟩ := hat wb hI.kp
      have HSL := Lib.hid (fun W k => (hat W k).2.2)
      have HU0 := Lib.hid (fun h h2 => HOU.out x h hlt h2)
      have hrl := HOL.out x hlt
      have HPS := Lib.hid (partR_step (pl l) L hlx)
      have HPA := Lib.hid (partR_at (pl l) L hlx)
      have HFT := Lib.hid (jflat_take hlx)
      have hGl := hI.bG.lt
      have hxu : x < us.length := by have := hI.rows.l; rw [partR_len, HNN.out] at this; omega
      obtain ⟨row, hrow⟩ : ∃ row, L.getD x [] = row := ⟨_, rfl⟩
      rw [hrow] at HU0 hrl HPS HFT HSL hcl
      obtain ⟨k, hk⟩ : ∃ k, row.length = k := ⟨_, rfl⟩
      rw [hk] at HU0 hrl HSL hcl
      have HK := Lib.hid hk
      have hst2 : TuN_ L l row B M Bl w.heap.size x b us w wb (.int .i64 ((0 : Nat) : Int)) wb := by
        refine ⟨0, .slice none 0 0, Nat.zero_le _, rfl, by simpa using World.ownsRow_nil _ _ _ _, ?_, hI.nm, by simpa using hI.bl, hI.kp, Kp.refl _ _⟩
        rw [show us.set x (.slice none 0 0) = us from List.ext_getElem? fun j => by
          rw [List.getElem?_set]
          split
          · rename_i e
            subst e
            exact (hz x (Nat.le_refl _) hlt).symm
          · rfl]
        exact hI.bG
      have HST2 := Lib.hid hst2
      have HI := Lib.hid hI
      have HZ := Lib.hid hz
      have hwl := hI.kp.size
      clear hst2 hrow hk hsl hat hI hz
      go_wp2_with (fail)
      go_loopw [22] (fun i wr => TuN_ L l row B M Bl w.heap.size x b us w wb i wr) (fun i _ => k - (intOf i).toNat)
      case atStart => exact HST2.out
      case round =>
        rename World => wr
        obtain ⟨h, u, hh, rfl, ho, bG, nm, bl, kp, kb⟩ := hrel
        rw [HK.out] at hh
        have hwb := kb.size
        by_cases hlh : h < k
        · obtain ⟨pe, rfl, hce⟩ := (HSL.out wr kp).at_ hlh
          have hle := lt_of_cell hce
          rw [block_of_add] at hle
          have hyu := HU0.out h hlh
          have hlr : h < row.length := by rw [HK.out]; exact hlh
          have HTK := Lib.hid (take_snoc' hlr)
          obtain ⟨y, hy⟩ : ∃ y, row.getD h 0 = y := ⟨_, rfl⟩
          rw [hy] at hce hyu HTK
          obtain ⟨A1, c1, rfl⟩ := own_slice ho
          have hcx : (us.set x (Value.slice A1 h c1)).toArray[x]? = some (.slice A1 h c1) := by
            rw [List.getElem?_toArray, List.getElem?_set_self hxu]
          have hGc := (bG.cell x).trans hcx
          have hGf := bG.frozen
          have hGl2 := bG.lt
          have HBG := Lib.hid bG
          have HKP := Lib.hid kp
          have HKB := Lib.hid kb
          have HO := Lib.hid ho
          have HB2 := Lib.hid bl
          have HPY := HPB.out y
          have hwp : IntKind.i64.wrap (pl l y) = pl l y := by rw [IntKind.wrap_i64]; omega
          have HCL := Lib.hid (HNU.out y _ wr.drew hyu (nm.up (Up.refl wr).drew) (bl.drew))
          have hbl2 : Bl < w.heap.size := hlt3
          have HAP : Hid (∀ w4, NmBox w4 B M l → Blk w4 Bl 4 #[.bool (b || !okL l ((L.take x).flatten ++ row.take h) || !decide (y ∈ 0 :: l))] → Kp [Bl] wr.drew w4 → w4.cell? ⟨w.heap.size, x, none⟩ = some (.slice A1 h c1) ∧ (∀ i, w4.frozen? ⟨w.heap.size, i, none⟩ = false) ∧ w.heap.size < w4.heap.size ∧
              ∃ A2 c2 wz, (Builtin.append_ #[72, 72] 72 #[.slice A1 h c1, .slice (some ⟨w4.heap.size, 0, none⟩) 1 1]).run Tryz.prog (w4.alloc (.cells #[.int .i64 (pl l y)] 3)) = .ok (.slice A2 (h + 1) c2) wz ∧
                (Blk wz w.heap.size 72 (us.set x (Value.slice A1 h c1)).toArray ∧ wz.ownsRow wb.heap.size 3 1 (.slice A2 (h + 1) c2) (h + 1) (((row.take (h + 1)).map (pl l)).map (Value.int .i64)) ∧ NmBox wz B M l ∧ Blk wz Bl 4 #[.bool (b || !okL l ((L.take x).flatten ++ row.take h) || !decide (y ∈ 0 :: l))] ∧ Kp [Bl] w wz ∧ Kp [Bl, w.heap.size] wb wz)) := Lib.hid (fun w4 nM4 bL4 k4 => by
            have hG4 := bG.drew.kp k4 (by simp; omega)
            have ho4 : w4.ownsRow wb.heap.size 3 1 (.slice A1 h c1) h (((row.take h).map (pl l)).map (Value.int .i64)) := own_keep ho (fun g cs hb => hb.drew.kp k4 (by simp; exact hb.ne_type bl (by decide)))
            have K4 : Kp [Bl] w w4 := (kp.up (Up.refl wr).drew).trans k4
            have KB4 : Kp [Bl, w.heap.size] wb w4 := (kb.up (Up.refl wr).drew).trans (k4.mono (by simp))
            have ho5 := own_up ho4 ((Up.refl w4).alloc (.cells #[.int .i64 (pl l y)] 3))
            have u5 : Up w4 (w4.alloc (.cells #[.int .i64 (pl l y)] 3)) := (Up.refl w4).alloc _
            obtain ⟨v2, wz, hr2, ho6, hg6, -⟩ := run_any el_int (w := w4.alloc (.cells #[.int .i64 (pl l y)] 3)) 72 wb.heap.size h _ _ ho5 (some ⟨w4.heap.size, 0, none⟩) 1 1 [.int .i64 (pl l y)] rfl (rv_of_blk (Blk.new w4 _ _) (fun i u hi => by simpa using hi)) (fun u hu => by rw [List.mem_singleton] at hu; subst hu; rfl) (by omega) (Nat.le_trans KB4.size u5.size)
            obtain ⟨A2, c2, rfl⟩ := own_slice ho6
            refine ⟨(hG4.cell x).trans hcx, hG4.frozen, hG4.lt, A2, c2, wz, hr2, (hG4.up u5).grown hg6 (own_row_ne ho5 (hG4.up u5) (by decide)), ?_, ?_, (bL4.up u5).grown hg6 (own_row_ne ho5 (bL4.up u5) (by decide)), ?_, ?_⟩
            · rw [HTK.out, List.map_append, List.map_append]
              exact ho6
            · have hn5 := nM4.up u5
              obtain ⟨q1, nn, D, q2, q3⟩ := hn5
              exact ⟨q1.grown hg6 (own_row_ne ho5 q1 (by decide)), nn, D, q2.kept hg6 (fun e => by
                have := own_ne_map ho5 q2
                exact this e.symm), q3⟩
            · exact kp_grown (K4.up u5) hg6 (fun g e => Nat.le_trans hwl (World.ownsRow.lt ho5 g e).1)
            · exact kp_grown (KB4.up u5) hg6 (fun g e => (World.ownsRow.lt ho5 g e).1))
          clear bG kp kb ho nm bl hcl hy hyu
          have hB1 : Bl ∉ [Bl] → False := fun q => q (by simp)
          go_wp2_with (fail)
          go_region_law (first
            | (refine step_run (by rfl) _ _ (by rfl) _ _ (by rfl) (by rfl) _ wz hr2 ?_)
            | (go_simp; go_wp2_with (go_at_call 29; (with_reducible refine HCL.out.mono ?_); rintro e w4 ⟨rfl, nM4, bL4, k4⟩; obtain ⟨hGc4, hGf4, hGl4, A2, c2, wz, hr2, bz1, HZ4⟩ := HAP.out w4 nM4 bL4 k4; have hGc5 := (bz1.cell x).trans hcx; have hGf5 := bz1.frozen; have hGl5 := bz1.lt; have HZ5 := Lib.hid HZ4; have HB5 := Lib.hid bz1; clear HZ4 bz1 nM4 bL4 k4)))
          all_goals
            have HPR : Hid (TuN_ L l row B M Bl w.heap.size x b us w wb (.int .i64 ((h + 1 : Nat) : Int)) (wz.setCell ⟨w.heap.size, x, none⟩ (.slice A2 (h + 1) c2))) := Lib.hid (by
              obtain ⟨z1, z2, z3, z4, z5⟩ := HZ5.out
              refine ⟨h + 1, .slice A2 (h + 1) c2, by rw [HK.out]; omega, rfl, own_keep z1 (fun g cs hb => hb.far (p := ⟨w.heap.size, x, none⟩) (hb.ne_type HB5.out (by decide)) _), ?_, z2.kp ((Kp.refl [w.heap.size] wz).set_ (by simp) _) (by simpa using z2.1.ne_type HB5.out (by decide)) (by simpa using z2.ne HB5.out), ?_, kp_new z4 (Nat.le_refl _) _, z5.set_ (by simp) _⟩
              · have := HB5.out.set_ x (.slice A2 (h + 1) c2)
                simpa using this
              · rw [HTK.out, ← List.append_assoc, okL_snoc, Bool.not_and, ← Bool.or_assoc]
                exact z3.far (p := ⟨w.heap.size, x, none⟩) (z3.ne_type HB5.out (by decide)) _)
            clear HZ5 HB5 HAP HCL hGc hGf hGl2 hGc4 hGf4 hGl4 hGc5 hGf5 hGl5 hr2
            go_wp2
            exact ⟨HPR.out, by simp [intOf]; omega⟩
        · obtain rfl : h = k := by omega
          have hrow : row.take h = row := List.take_of_length_le (by rw [HK.out]; exact Nat.le_refl _)
          rw [hrow] at ho bl
          have HPR : Hid (TuO_ L l B M Bl w.heap.size b w (.int .i64 ((x + 1 : Nat) : Int)) wr) := Lib.hid (by
            refine ⟨x + 1, us.set x u, by rw [HNN.out]; omega, rfl, fun j h1 h2 => ?_, bG, ?_, nm, by rw [HFT.out]; exact bl, kp⟩
            · rw [HNN.out] at h2
              rw [List.getElem?_set_ne (by omega)]
              exact HZ.out j (by omega) h2
            · rw [← HPS.out]
              refine OwL.set (HI.out.rows.keep (fun g cs hb => hb.kp kb (by
                simp only [List.mem_cons, List.not_mem_nil, or_false, not_or]
                exact ⟨hb.ne_type HI.out.bl (by decide), hb.ne_type HI.out.bG (by decide)⟩))) x ?_
              rw [List.length_map, HK.out]
              exact own_le ho hwl)
          clear bG kp kb ho nm bl hrow
          go_wp2
          exact ⟨HPR.out, by simp [intOf]; omega⟩
    · obtain rfl : x = n := by omega
      have HI := Lib.hid hI
      have HPA := Lib.hid (partR_all (pl l) L (x := x) HNN.out.symm)
      have HTA : Hid (L.take x = L) := Lib.hid (List.take_of_length_le (by rw [HNN.out]; exact Nat.le_refl _))
      clear hI hz HST
      go_wp2
      go_ret
      refine ⟨w.heap.size, us, by rw [HNN.out]; rfl, Nat.le_refl _, ?_⟩
      have h := HI.out
      rw [HPA.out, HTA.out] at h
      exact h
end Go.Proofs.YtanhhkdoejnpiaaGreat.G

/- The closures of view.Of: an address's number (a map and a box), an object's node: contracts. -/
import Derived.Test.YtanhhkdoejnpiaaGreatVa
import Derived.Test.YtanhhkdoejnpiaaGreatRc
import Derived.Test.YtanhhkdoejnpiaaGreatGd
namespace Go.Proofs.YtanhhkdoejnpiaaGreat.G
open Go.Joins Go.ChangeShapes Go.WideShapes Go.ChangeAt Go.RowKit Go.Deep Go.Shelf Go.Maps
set_option linter.unusedVariables false
set_option linter.unusedSimpArgs false

theorem kp_new {S : List Nat} {a b : World} (h : Kp S a b) {g i : Nat} (hg : a.heap.size ≤ g) (u : Value) : Kp S a (b.setCell ⟨g, i, none⟩ u) :=
  ⟨h.os, h.tape, h.output, by simpa [World.setCell] using h.size, fun k hk hS => (Below.heap_setCell b ⟨g, i, none⟩ u k (fun e => by simp only [] at e; omega)).trans (h.block k hk hS)⟩
theorem wpList_insert_own {H : Type} {P : Program} (w : World) {ops : Array Oper} {rest : List Oper} {o : Oper} {a : Act} {Q : Exit → Act → World → Prop}
    (hg : o.guard = none) (m x v : Operand) (t : TypeId) (hop : o.op = Op.insert t m x v)
    (k e : TypeId) (K : Keyed P k) (ht : P.underlying t = some (.map k e)) (R : Value → Option (DataW H × List MemPlace)) (b n : Nat) (D : DataW H)
    (hm : a.eval m = .map (some b)) (hown : w.ownsMap P k R b n D) (hn : n < maxLen) (key val : Value) (kl : Lit) (hx : a.eval x = key) (hv : a.eval v = val) (hkey : keyOf P k key = some kl)
    (d : DataW H) (ps : List MemPlace) (hval : R val = some (d, ps))
    (hK : ∀ w', w'.ownsMap P k R b (n + 1) (D.put kl d) → w.grownBy w' (some b) → wpList P ops Q rest (a.put o.dst undef) w') :
    wpList P ops Q (o :: rest) a w := by
  refine wpList_plain hg fun K' hK' => ?_
  obtain ⟨w', hrun, r1, r2⟩ := hown.update K ht hn hkey hval
  unfold Oper.wp
  simp [execOp, hop, hm, hx, hv, hrun, Result.andThen]
  exact hK' _ _ (hK w' r1 r2)

/-! ### Numbers -/
/-- A datum tells the numbers of a row of addresses. -/
structure NumD (l : List Int) (D : DataW Unit) : Prop where
  m : IsMap D
  z : (0 : Int) ∉ l
  h : ∀ a, Maps.has D (.int .u64 a) = decide (a ∈ 0 :: l)
  v : ∀ a z, a ∈ 0 :: l → D.atKey (.int .u64 a) z = .lit (.int .u64 (pl l a))
theorem pl_no {l : List Int} {a : Int} (h : a ∉ l) : pl l a = 0 := if_neg h
theorem NumD.nil : NumD [] (DataW.put (.map []) (.int .u64 0) (.lit (.int .u64 0))) := by
  have hm : IsMap (.map [] : DataW Unit) := ⟨_, rfl⟩
  refine ⟨⟨_, rfl⟩, by simp, fun a => ?_, fun a z h => ?_⟩
  · by_cases q : a = 0
    · subst q
      rw [Maps.has_put_same hm (show WideAt.IsKeyLit (.int .u64 0) from trivial)]
      simp
    · rw [Maps.has_put_other (fun e => q (by injection e))]
      simp [Maps.has, q]
  · obtain rfl : a = 0 := by simpa using h
    rw [Maps.atKey_put_same hm (show WideAt.IsKeyLit (.int .u64 0) from trivial)]
    rfl
theorem npl_snoc {l : List Int} {a b : Int} (h : b ∈ l) : pl (l ++ [a]) b = pl l b := by
  unfold pl
  rw [if_pos h, if_pos (by simp [h]), List.idxOf_append, if_pos h]
theorem pl_last {l : List Int} {a : Int} (h : a ∉ l) : pl (l ++ [a]) a = l.length + 1 := by
  unfold pl
  rw [if_pos (by simp), List.idxOf_append, if_neg h]
  simp
theorem NumD.new {l : List Int} {D : DataW Unit} {a : Int} (h : NumD l D) (k : a ∉ 0 :: l) : NumD (l ++ [a]) (D.put (.int .u64 a) (.lit (.int .u64 ((l.length : Nat) + 1 : Int)))) := by
  obtain ⟨es, rfl⟩ := h.m
  have ka : a ≠ 0 ∧ a ∉ l := by simpa using k
  refine ⟨⟨_, rfl⟩, by simp [h.z, Ne.symm ka.1], fun b => ?_, fun b z hb => ?_⟩
  · by_cases q : b = a
    · subst q
      rw [Maps.has_put_same h.m (show WideAt.IsKeyLit (.int .u64 b) from trivial)]
      simp
    · rw [Maps.has_put_other (fun e => q (by injection e)), h.h b]
      simp [q]
  · by_cases q : b = a
    · subst q
      rw [Maps.atKey_put_same h.m (show WideAt.IsKeyLit (.int .u64 b) from trivial), pl_last ka.2]
    · rw [Maps.atKey_put_other (fun e => q (by injection e))]
      have hb2 : b ∈ 0 :: l := by simpa [q] using hb
      rw [h.v b z hb2]
      rcases List.mem_cons.1 hb2 with rfl | r
      · rw [pl_no h.z, pl_no (by simp [h.z, Ne.symm ka.1])]
      · rw [npl_snoc r]
theorem zeroU (w : World) : (zeroValue 67).run Tryz.prog w = .ok (.int .u64 0) w := by kernel_rfl
theorem NumD.at_ {l : List Int} {D : DataW Unit} (h : NumD l D) {a c : Int} (hat : D.atKey (.int .u64 a) (.lit (.int .u64 0)) = .lit (.int .u64 c)) : c = pl l a := by
  by_cases q : a ∈ 0 :: l
  · rw [h.v a _ q] at hat
    injection hat with hat
    injection hat with _ hat
    exact hat.symm
  · rw [Maps.atKey_of_not_has (by rw [h.h]; exact decide_eq_false q)] at hat
    injection hat with hat
    injection hat with _ hat
    rw [pl_no (fun r => q (by simp [r]))]
    exact hat.symm
/-- The map's box, and what it holds. -/
def NmBox (w : World) (B M : Nat) (l : List Int) : Prop := Blk w B 76 #[.map (some M)] ∧ ∃ n D, w.ownsMap Tryz.prog 67 (plainElem (H := Unit) Tryz.prog 67) M n D ∧ NumD l D
theorem NmBox.up {w w' : World} {B M : Nat} {l : List Int} (h : NmBox w B M l) (k : Up w w') : NmBox w' B M l := by
  obtain ⟨h1, n, D, h2, h3⟩ := h
  exact ⟨h1.up k, n, D, h2.kept k.gb (by simp), h3⟩
theorem NmBox.ne {w : World} {B M : Nat} {l : List Int} (h : NmBox w B M l) {g : Nat} {t : TypeId} {cs : Array Value} (hb : Blk w g t cs) : M ≠ g := fun e => by
  obtain ⟨_, _, _, ⟨es, clock, hm, _⟩, _⟩ := h
  subst e
  unfold Blk at hb
  rw [hb] at hm
  cases hm
theorem NmBox.kp {w w' : World} {B M : Nat} {l : List Int} {S : List Nat} (h : NmBox w B M l) (k : Kp S w w') (hB : B ∉ S) (hM : M ∉ S) : NmBox w' B M l := by
  obtain ⟨h1, n, D, h2, h3⟩ := h
  refine ⟨h1.kp k hB, n, D, ?_, h3⟩
  obtain ⟨es, clock, hb, r⟩ := h2
  exact ⟨es, clock, (k.block M (Array.getElem?_eq_some_iff.1 hb).1 hM).trans hb, r⟩
def NmPost (l : List Int) (a : Int) (B M Bl : Nat) (b : Bool) (w : World) (e : Ending) (w' : World) : Prop :=
  e = .returned (.int .u64 (pl l a)) ∧ NmBox w' B M l ∧ Blk w' Bl 4 #[.bool (b || !decide (a ∈ 0 :: l))] ∧ Kp [Bl] w w'
set_option maxHeartbeats 1000000 in
theorem number_any (l : List Int) (a : Int) (B M Bl : Nat) (b : Bool) (w : World) (ha : U64 a) (h : NmBox w B M l) (hb : Blk w Bl 4 #[.bool b]) :
    Calls Tryz.prog 29 #[.int .u64 a, bx B, bx Bl] w (NmPost l a B M Bl b w) := by
  have HN := Lib.hid h
  have hne := h.ne hb
  have hne2 : B ≠ Bl := h.1.ne_type hb (by decide)
  obtain ⟨hB, n, D, hp, hD⟩ := h
  have hc := hB.cell
  have hbc := hb.cell
  have hbf := hb.frozen
  have hbt := hb.lt
  have hkey := key_of ha
  have hh := hD.h a
  have HE := Lib.hid (fun c hat => hD.at_ (a := a) (c := c) hat)
  have HB := Lib.hid hb
  have HK : Hid (∀ u, NmBox (w.setCell ⟨Bl, 0, none⟩ u) B M l) := Lib.hid (fun u => HN.out.kp ((Kp.refl [Bl] w).set_ (by simp) u) (by simpa using hne2) (by simpa using hne))
  unfold NmPost
  generalize decide (a ∈ 0 :: l) = q at *
  generalize pl l a = y at *
  clear hD hB hb ha hne hne2
  cases q <;> cases b
  all_goals
    go_enter Tryz.func29, Tryz.ntmps29
    go_wp2_with (at_lookup; refine wpList_lookup_own_ok_int _ rfl _ _ 76 rfl 67 67 .u64 law64 Tryz.underlying76 Tryz.underlying67 (zeroU _) M n D rfl hp _ _ rfl hkey ?_; rw [hh]; intro c hat hwc)
    go_ret
    refine ⟨by rw [HE.out c hat]; rfl, HK.out _, ?_, (Kp.refl [Bl] w).set_ (by simp) _⟩
    first
      | exact (by simpa using HB.out.set_ 0 (.bool true))
      | exact (by simpa using HB.out.set_ 0 (.bool false))

/-! ### Nodes -/
/-- The fields of a node, so many of them turned, all others 0. -/
def fhalf (l : List Int) (n : Nd) (x : Nat) : List Int := (List.range n.2.length).map fun i => if i < x then (if isP n (i : Int) then pl l (n.2.getD i 0) else n.2.getD i 0) else 0
theorem fhalf_0 (l : List Int) (n : Nd) : fhalf l n 0 = List.replicate n.2.length 0 := by
  unfold fhalf
  simp only [Nat.not_lt_zero, if_false]
  exact List.ext_getElem (by simp) (fun i h1 h2 => by simp)
theorem fhalf_len (l : List Int) (n : Nd) (x : Nat) : (fhalf l n x).length = n.2.length := by simp [fhalf]
theorem fhalf_all (l : List Int) (n : Nd) {x : Nat} (h : x = n.2.length) : fhalf l n x = (mpF (pl l) n).2 := by
  subst h
  unfold fhalf mpF
  refine List.map_congr_left fun i hi => ?_
  rw [if_pos (List.mem_range.1 hi)]
theorem fhalf_step (l : List Int) (n : Nd) {x : Nat} (h : x < n.2.length) : (fhalf l n x).set x (if isP n (x : Int) then pl l (n.2.getD x 0) else n.2.getD x 0) = fhalf l n (x + 1) := by
  refine List.ext_getElem? fun j => ?_
  rw [List.getElem?_set]
  unfold fhalf
  by_cases q : x = j
  · subst q
    rw [if_pos rfl, if_pos (by simpa using h)]
    rw [List.getElem?_map, List.getElem?_range h]
    simp
  · rw [if_neg q]
    rw [List.getElem?_map, List.getElem?_map]
    by_cases r : j < n.2.length
    · rw [List.getElem?_range r]
      simp only [Option.map_some]
      congr 1
      by_cases z : j < x
      · rw [if_pos z, if_pos (show j < x + 1 by omega)]
      · rw [if_neg z, if_neg (show ¬ j < x + 1 by omega)]
    · rw [List.getElem?_eq_none (by simpa using r)]
      rfl
/-- Do the pointers among the first so many fields lead to objects? -/
def okx (l : List Int) (n : Nd) (x : Nat) : Bool := okL l (((List.range x).filter fun (i : Nat) => isP n (i : Int)).map fun i => n.2.getD i 0)
theorem okx_0 (l : List Int) (n : Nd) : okx l n 0 = true := rfl
theorem okx_all (l : List Int) (n : Nd) {x : Nat} (h : x = n.2.length) : okx l n x = okL l (ptrs n) := by subst h; rfl
theorem okx_no (l : List Int) (n : Nd) (x : Nat) (h : isP n (x : Int) = false) : okx l n (x + 1) = okx l n x := by
  unfold okx
  rw [List.range_succ, List.filter_append]
  simp [h]
theorem okx_yes (l : List Int) (n : Nd) (x : Nat) (h : isP n (x : Int) = true) : okx l n (x + 1) = (okx l n x && decide (n.2.getD x 0 ∈ 0 :: l)) := by
  unfold okx okL
  rw [List.range_succ, List.filter_append]
  simp [h, List.all_append]
theorem set_map (xs : List Int) (x : Nat) (y : Int) : ((xs.map (Value.int .u64)).toArray).setIfInBounds x (.int .u64 y) = ((xs.set x y).map (Value.int .u64)).toArray := by
  simp [List.map_set]
def NdRel (m : Me) (P Q : Addr) (c d : Nat) (l : List Int) (n : Nd) (B M Bl Bf Bm Bh Bn Bg L : Nat) (b : Bool) (w : World) (i : Value) (wr : World) : Prop :=
  ∃ x : Nat, x ≤ L ∧ i = .int .i64 x ∧ Blk wr Bg 67 ((fhalf l n x).map (Value.int .u64)).toArray ∧ Blk wr Bn 71 #[.int .i64 n.1.1, .int .i64 n.1.2.1, .int .u64 n.1.2.2, .slice (some ⟨Bg, 0, none⟩) L L] ∧
    Blk wr Bh 69 #[.int .i64 n.1.1, .int .i64 n.1.2.1, .int .u64 n.1.2.2] ∧ Blk wr w.heap.size 71 #[.int .i64 0, .int .i64 0, .int .u64 0, .slice none 0 0] ∧ Blk wr Bm 25 (mec m.n P Q c d) ∧ Sits wr m P Q c d ∧
    Blk wr Bf 78 #[.func (.func 29) #[] #[bx B, bx Bl]] ∧ NmBox wr B M l ∧ Blk wr Bl 4 #[.bool (b || !okx l n x)] ∧ Kp [Bl] w wr
def NdPost (l : List Int) (n : Nd) (ok : Bool) (m : Me) (P Q : Addr) (c d B M Bl Bf Bm : Nat) (b : Bool) (w : World) (e : Ending) (w' : World) : Prop :=
  ∃ Bg L, e = .returned (.agg #[.int .i64 n.1.1, .int .i64 n.1.2.1, .int .u64 n.1.2.2, .slice (some ⟨Bg, 0, none⟩) L L]) ∧ L = (mpF (pl l) n).2.length ∧ w.heap.size ≤ Bg ∧ Blk w' Bg 67 ((mpF (pl l) n).2.map (Value.int .u64)).toArray ∧
    NmBox w' B M l ∧ Blk w' Bl 4 #[.bool (b || !ok)] ∧ Kp [Bl] w w'
set_option maxRecDepth 100000 in
set_option maxHeartbeats 8000000 in
theorem node_any (m : Me) (P Q : Addr) (c d : Nat) (l : List Int) (a : Int) (B M Bl Bf Bm : Nat) (b : Bool) (w : World) (hm : Sits w m P Q c d) (hwf : m.wf) (hr : m.real a = true)
    (hM : Blk w Bm 25 (mec m.n P Q c d)) (hF : Blk w Bf 78 #[.func (.func 29) #[] #[bx B, bx Bl]]) (hN : NmBox w B M l) (hb : Blk w Bl 4 #[.bool b]) :
    Calls Tryz.prog 30 #[.int .u64 a, bx Bm, bx Bf] w (NdPost l (ndm m a) (okL l (m.ptv a)) m P Q c d B M Bl Bf Bm b w) := by
  have ha := real_u64 hr
  obtain ⟨hk, _, _, hl0, hl1, hm0, hm1⟩ := real_head hr
  have hln := ndm_len hr
  have hptv := ptv_ndm hr
  have HAT := Lib.hid (fun W (k : Up w W) => by
    have h := at_any m a P Q c d W (hm.up k) ha hwf
    rw [ate_0.2 hk] at h
    exact h)
  have HGT := Lib.hid (fun (i : Nat) (hi : i < (ndm m a).2.length) W (hs : Sits W m P Q c d) => by
    have h := get_any m a i P Q c d W hs ha hwf
    have hfk : m.fok a i := ⟨of_decide_eq_true hr, by unfold hasb; exact decide_eq_true ⟨by omega, by omega⟩⟩
    rw [← ndm_at hi, gete_0.2 hfk, show m.getb a i = ptb (m.atl a) (m.atm a) i from if_pos hfk] at h
    exact h)
  have HU := Lib.hid (fun (i : Nat) => (getv_u64 hwf a i : U64 (m.getv a i)))
  have HUX : Hid (∀ i, i < (ndm m a).2.length → U64 ((ndm m a).2.getD i 0)) := Lib.hid (fun i hi => by rw [ndm_at hi]; exact HU.out i)
  rw [hptv]
  obtain ⟨n, hn⟩ : ∃ n, ndm m a = n := ⟨_, rfl⟩
  have e1 : m.att a = n.1.1 := by rw [← hn]; rfl
  have e2 : m.atl a = n.1.2.1 := by rw [← hn]; rfl
  have e3 : m.atm a = n.1.2.2 := by rw [← hn]; rfl
  rw [hn] at HGT hln HUX ⊢
  rw [e1, e2, e3] at HAT
  rw [e2, e3] at HGT
  rw [e2] at hln hl0 hl1
  have HNU := Lib.hid (fun (x : Int) (bb : Bool) (W : World) (hx : U64 x) (h1 : NmBox W B M l) (h2 : Blk W Bl 4 #[.bool bb]) => number_any l x B M Bl bb W hx h1 h2)
  have HSI := Lib.hid (fun W (k : Up w W) => hm.up k)
  have HOLD : Hid (∀ W, Kp [Bl] w W → Blk W Bm 25 (mec m.n P Q c d) ∧ Sits W m P Q c d ∧ Blk W Bf 78 #[.func (.func 29) #[] #[bx B, bx Bl]] ∧ NmBox W B M l) := Lib.hid (fun W k =>
    ⟨hM.kp k (by simpa using hM.ne_type hb (by decide)), hm.kp k (Tiny.one hb (by simp)), hF.kp k (by simpa using hF.ne_type hb (by decide)), hN.kp k (by simpa using hN.1.ne_type hb (by decide)) (by simpa using hN.ne hb)⟩)
  have HNM := Lib.hid hN
  have HBL := Lib.hid hb
  have HBM := Lib.hid hM
  have HBF := Lib.hid hF
  have hne1 : B ≠ Bl := hN.1.ne_type hb (by decide)
  have hne2 := hN.ne hb
  have hne3 : Bm ≠ Bl := hM.ne_type hb (by decide)
  have hne4 : Bf ≠ Bl := hF.ne_type hb (by decide)
  have hlt1 := hM.lt
  have hlt2 := hF.lt
  have hlt3 := hb.lt
  have hMc := hM.cell
  clear hm hwf hr hk hm0 hm1 hptv hn e1 e2 e3 HU hM hF hN hb ha
  obtain ⟨L, hL⟩ : ∃ L, n.2.length = L := ⟨_, rfl⟩
  rw [hL] at HGT HUX hln
  have HL := Lib.hid hL
  obtain ⟨t, ht⟩ : ∃ t, n.1.1 = t := ⟨_, rfl⟩
  obtain ⟨mp, hmp⟩ : ∃ mp, n.1.2.2 = mp := ⟨_, rfl⟩
  rw [← hln, ht, hmp] at HAT
  rw [← hln, hmp] at HGT
  have HHD : Hid (n.1.1 = t ∧ n.1.2.1 = (L : Int) ∧ n.1.2.2 = mp) := Lib.hid ⟨ht, hln.symm, hmp⟩
  rw [← hln] at hl1
  clear hL ht hmp hln hl0
  have hmk := fun w => make_wordsN L (by omega) w
  go_enter Tryz.func30, Tryz.ntmps30
  go_wp2_with (fail)
  refine (HAT.out _ ((Up.refl w).alloc _)).mono ?_
  rintro e w1 ⟨rfl, k1⟩
  have K1 : Up w w1 := ((Up.refl w).alloc (.cells #[.int .i64 0, .int .i64 0, .int .u64 0, .slice none 0 0] 71)).trans k1
  have bR1 : Blk w1 w.heap.size 71 #[.int .i64 0, .int .i64 0, .int .u64 0, .slice none 0 0] := (Blk.new w _ _).up k1
  clear k1 hMc
  have hM1 : Hid (Blk w1 Bm 25 (mec m.n P Q c d)) := Lib.hid (HBM.out.up K1)
  have hF1 : Hid (Blk w1 Bf 78 #[.func (.func 29) #[] #[bx B, bx Bl]]) := Lib.hid (HBF.out.up K1)
  have HNM1 := Lib.hid (HNM.out.up K1)
  have HBL1 := Lib.hid (HBL.out.up K1)
  have HK1 := Lib.hid K1
  have HR1 := Lib.hid bR1
  clear bR1 K1
  have bHc := fun o => (((Blk.new w1 69 #[.int .i64 t, .int .i64 L, .int .u64 mp]).alloc o)).cell
  go_wp2_with (fail)
  go_region
  all_goals
  first
    | (obtain ⟨W2, hW2⟩ : ∃ W2, W2 = (((w1.alloc (.cells #[.int .i64 t, .int .i64 L, .int .u64 mp] 69)).alloc (.cells #[.int .i64 t, .int .i64 L, .int .u64 mp, .slice (some ⟨w1.heap.size + 1 + 1, 0, none⟩) L L] 71)).alloc (.cells (Array.replicate L (Value.int .u64 0)) 67)).drew := ⟨_, rfl⟩
       rw [← hW2]
       have k2 : Up w1 W2 := by rw [hW2]; exact ((((Up.refl w1).alloc _).alloc _).alloc _).drew
       have bH2 : Blk W2 w1.heap.size 69 #[.int .i64 t, .int .i64 L, .int .u64 mp] := by rw [hW2]; exact (((Blk.new w1 _ _).alloc _).alloc _).drew
       have bN2 : Blk W2 (w1.heap.size + 1) 71 #[.int .i64 t, .int .i64 L, .int .u64 mp, .slice (some ⟨w1.heap.size + 1 + 1, 0, none⟩) L L] := by rw [hW2]; exact ((Blk.new' _ (by simp) _ _).alloc _).drew
       have bF2 : Blk W2 (w1.heap.size + 1 + 1) 67 (Array.replicate L (Value.int .u64 0)) := by rw [hW2]; exact (Blk.new' _ (by simp) _ _).drew
       have hn2 : w1.heap.size ≤ w1.heap.size + 1 := by omega
       have hg2 : w1.heap.size ≤ w1.heap.size + 1 + 1 := by omega
       generalize w1.heap.size + 1 + 1 = Bg at *
       generalize w1.heap.size + 1 = Bn at *)
    | (obtain ⟨W2, hW2⟩ : ∃ W2, W2 = (((w1.alloc (.cells #[.int .i64 t, .int .i64 L, .int .u64 mp] 69)).alloc (.cells (Array.replicate L (Value.int .u64 0)) 67)).alloc (.cells #[.int .i64 t, .int .i64 L, .int .u64 mp, .slice (some ⟨w1.heap.size + 1, 0, none⟩) L L] 71)).drew := ⟨_, rfl⟩
       rw [← hW2]
       have k2 : Up w1 W2 := by rw [hW2]; exact ((((Up.refl w1).alloc _).alloc _).alloc _).drew
       have bH2 : Blk W2 w1.heap.size 69 #[.int .i64 t, .int .i64 L, .int .u64 mp] := by rw [hW2]; exact (((Blk.new w1 _ _).alloc _).alloc _).drew
       have bN2 : Blk W2 (w1.heap.size + 1 + 1) 71 #[.int .i64 t, .int .i64 L, .int .u64 mp, .slice (some ⟨w1.heap.size + 1, 0, none⟩) L L] := by rw [hW2]; exact (Blk.new' _ (by simp) _ _).drew
       have bF2 : Blk W2 (w1.heap.size + 1) 67 (Array.replicate L (Value.int .u64 0)) := by rw [hW2]; exact ((Blk.new' _ (by simp) _ _).alloc _).drew
       have hn2 : w1.heap.size ≤ w1.heap.size + 1 + 1 := by omega
       have hg2 : w1.heap.size ≤ w1.heap.size + 1 := by omega
       generalize w1.heap.size + 1 + 1 = Bn at *
       generalize w1.heap.size + 1 = Bg at *)
  all_goals
    have bF3 : Blk W2 Bg 67 ((fhalf l n 0).map (Value.int .u64)).toArray := by
      rw [fhalf_0, HL.out]
      simpa using bF2
    have hwl := HK1.out.size
    have hst : NdRel m P Q c d l n B M Bl Bf Bm w1.heap.size Bn Bg L b w (.int .i64 ((0 : Nat) : Int)) W2 := by
      obtain ⟨q1, q2, q3⟩ := HHD.out
      refine ⟨0, Nat.zero_le _, rfl, bF3, by rw [q1, q2, q3]; exact bN2, by rw [q1, q2, q3]; exact bH2, HR1.out.up k2, hM1.out.up k2, HSI.out _ (HK1.out.trans k2), hF1.out.up k2, HNM1.out.up k2, by rw [okx_0]; simpa using HBL1.out.up k2, Kp.of_up (HK1.out.trans k2)⟩
    have HST := Lib.hid hst
    have hHc := bH2.cell
    have hHl := bH2.lt
    have hgm : Bl < w1.heap.size := Nat.lt_of_lt_of_le hlt3 hwl
    generalize w1.heap.size = G at *
    clear hst bH2 bN2 bF2 bF3 k2 bHc hM1 hF1 HNM1 HBL1 HK1 HR1 HAT hW2
    go_wp2_with (fail)
    go_loopw [25] (fun i wr => NdRel m P Q c d l n B M Bl Bf Bm G Bn Bg L b w i wr) (fun i _ => L - (intOf i).toNat)
    case atStart => exact HST.out
    case round =>
      rename World => wr
      obtain ⟨x, hx, rfl, bF, bN, bH, bR, bM, sM, bFn, nM, bL, kp⟩ := hrel
      have hMr := bM.cell
      have hMl := bM.lt
      have hNc := bN.cell
      have hNl := bN.lt
      have hRc := bR.cell
      have hRf := bR.frozen
      have hRl := bR.lt
      by_cases hlt : x < L
      · have HG := Lib.hid (HGT.out x hlt wr sM)
        have hux := HUX.out x hlt
        have hxn : x < n.2.length := by rw [HL.out]; exact hlt
        have HFS := Lib.hid (fhalf_step l n hxn)
        have HOY := Lib.hid (okx_yes l n x)
        have HON := Lib.hid (okx_no l n x)
        have HP : Hid (isP n (x : Int) = ptb (L : Int) mp x) := Lib.hid (by unfold isP; rw [HHD.out.2.1, HHD.out.2.2])
        have hFl : (fhalf l n x).length = L := by rw [fhalf_len, HL.out]
        have hcx : ((fhalf l n x).map (Value.int .u64)).toArray[x]? = some (.int .u64 ((fhalf l n x).getD x 0)) := by
          have hxf : x < (fhalf l n x).length := by rw [hFl]; exact hlt
          simp [List.getD, hxf]
        have HBF := Lib.hid bF
        have HBN := Lib.hid bN
        have HBH := Lib.hid bH
        have HBR := Lib.hid bR
        have HBM := Lib.hid bM
        have HSM := Lib.hid sM
        have HBFn := Lib.hid bFn
        have HNM := Lib.hid nM
        have HBL := Lib.hid bL
        have HKP := Lib.hid kp
        clear bF bN bH bR bM sM bFn nM bL kp
        generalize hy : n.2.getD x 0 = y at *
        generalize hp : ptb (L : Int) mp x = pp at *
        clear hp
        go_wp2_with (fail)
        refine HG.out.mono ?_
        rintro e w3 ⟨rfl, k3⟩
        have HBN3 := Lib.hid (HBN.out.up k3)
        have HBF3 := Lib.hid (HBF.out.up k3)
        have hNc3 := HBN3.out.cell
        have hNl3 := HBN3.out.lt
        have hFc3 := (HBF3.out.cell x).trans hcx
        have hFf3 := HBF3.out.frozen
        have hFl3 := HBF3.out.lt
        have hBFc := (HBFn.out.up k3).cell
        have hBFl := (HBFn.out.up k3).lt
        have HK3 := Lib.hid k3
        clear hMr hMl hNc hNl hRc hRf hRl k3
        have hgb : w.heap.size ≤ Bg := Nat.le_trans hwl hg2
        have hnb : Bl < Bn := Nat.lt_of_lt_of_le hgm hn2
        cases pp
        · have hor : okx l n (x + 1) = okx l n x := HON.out HP.out
          rw [HP.out, if_neg (by decide)] at HFS
          have HOR := Lib.hid hor
          have HBH3 := Lib.hid (HBH.out.up HK3.out)
          have HBR3 := Lib.hid (HBR.out.up HK3.out)
          have HBL3 := Lib.hid (HBL.out.up HK3.out)
          have HKP3 := Lib.hid (HKP.out.up HK3.out)
          clear hor HOY HON HP hcx
          go_wp2_with (fail)
          have kp := kp_new HKP3.out (i := x) hgb (.int .u64 y)
          obtain ⟨o1, o2, o3, o4⟩ := HOLD.out _ kp
          refine ⟨⟨x + 1, by omega, by go_num, ?_, HBN3.out.far (p := ⟨Bg, x, none⟩) (HBN3.out.ne_type HBF3.out (by decide)) _, HBH3.out.far (p := ⟨Bg, x, none⟩) (HBH3.out.ne_type HBF3.out (by decide)) _, HBR3.out.far (p := ⟨Bg, x, none⟩) (HBR3.out.ne_type HBF3.out (by decide)) _, o1, o2, o3, o4, ?_, kp⟩, by simp [intOf]; omega⟩
          · rw [← HFS.out, ← set_map]
            exact HBF3.out.set_ x _
          · rw [HOR.out]
            exact HBL3.out.far (p := ⟨Bg, x, none⟩) (HBL3.out.ne_type HBF3.out (by decide)) _
        · have hor := HOY.out HP.out
          rw [HP.out, if_pos rfl] at HFS
          have HOR := Lib.hid hor
          clear hor HOY HON HP
          have HNUM := Lib.hid (HNU.out y (b || !okx l n x) w3 hux (HNM.out.up HK3.out) (HBL.out.up HK3.out))
          go_wp2_with (fail)
          refine HNUM.out.mono ?_
          rintro e w4 ⟨rfl, nM4, bL4, k4⟩
          have hnb2 : Bn ∉ [Bl] := by simp; omega
          have hgb2 : Bg ∉ [Bl] := by simp; omega
          have hhb2 : G ∉ [Bl] := by simp; omega
          have hrb2 : w.heap.size ∉ [Bl] := by simp; omega
          have HBN4 := Lib.hid (HBN3.out.kp k4 hnb2)
          have HBF4 := Lib.hid (HBF3.out.kp k4 hgb2)
          have HBH4 := Lib.hid ((HBH.out.up HK3.out).kp k4 hhb2)
          have HBR4 := Lib.hid ((HBR.out.up HK3.out).kp k4 hrb2)
          have HKP4 := Lib.hid ((HKP.out.up HK3.out).trans k4)
          have HBL4 := Lib.hid bL4
          have hNc4 := HBN4.out.cell
          have hNl4 := HBN4.out.lt
          have hFc4 := (HBF4.out.cell x).trans hcx
          have hFf4 := HBF4.out.frozen
          have hFl4 := HBF4.out.lt
          clear hnb2 hgb2 hhb2 hrb2 nM4 bL4 k4 hNc3 hNl3 hFc3 hFf3 hFl3 hBFc hBFl hcx HBN3 HBF3
          go_wp2_with (fail)
          have kp := kp_new HKP4.out (i := x) hgb (.int .u64 (pl l y))
          obtain ⟨o1, o2, o3, o4⟩ := HOLD.out _ kp
          refine ⟨⟨x + 1, by omega, by go_num, ?_, HBN4.out.far (p := ⟨Bg, x, none⟩) (HBN4.out.ne_type HBF4.out (by decide)) _, HBH4.out.far (p := ⟨Bg, x, none⟩) (HBH4.out.ne_type HBF4.out (by decide)) _, HBR4.out.far (p := ⟨Bg, x, none⟩) (HBR4.out.ne_type HBF4.out (by decide)) _, o1, o2, o3, o4, ?_, kp⟩, by simp [intOf]; omega⟩
          · rw [← HFS.out, ← set_map]
            exact HBF4.out.set_ x _
          · rw [HOR.out, Bool.not_and, ← Bool.or_assoc]
            exact HBL4.out.far (p := ⟨Bg, x, none⟩) (HBL4.out.ne_type HBF4.out (by decide)) _
      · obtain rfl : x = L := by omega
        have HFA := Lib.hid (fhalf_all l n (x := x) HL.out.symm)
        have HOA := Lib.hid (okx_all l n (x := x) HL.out.symm)
        have HBF := Lib.hid bF
        have HBR := Lib.hid bR
        have HBL := Lib.hid bL
        have HKP := Lib.hid kp
        clear bF bN bH bR bM sM bFn nM bL kp hMr hMl HST
        go_wp2_with (fail)
        obtain ⟨W5, hW5⟩ : ∃ W5, W5 = ((((wr.setCell ⟨w.heap.size, 0, none⟩ (.int .i64 n.1.1)).setCell ⟨w.heap.size, 1, none⟩ (.int .i64 n.1.2.1)).setCell ⟨w.heap.size, 2, none⟩ (.int .u64 n.1.2.2)).setCell ⟨w.heap.size, 3, none⟩ (.slice (some ⟨Bg, 0, none⟩) x x)) := ⟨_, rfl⟩
        have kp := kp_new (i := 3) (kp_new (i := 2) (kp_new (i := 1) (kp_new (i := 0) HKP.out (Nat.le_refl w.heap.size) (.int .i64 n.1.1)) (Nat.le_refl _) (.int .i64 n.1.2.1)) (Nat.le_refl _) (.int .u64 n.1.2.2)) (Nat.le_refl _) (.slice (some ⟨Bg, 0, none⟩) x x)
        rw [← hW5] at kp ⊢
        have bR5 : Blk W5 w.heap.size 71 #[.int .i64 n.1.1, .int .i64 n.1.2.1, .int .u64 n.1.2.2, .slice (some ⟨Bg, 0, none⟩) x x] := by
          rw [hW5]
          simpa using (((HBR.out.set_ 0 (.int .i64 n.1.1)).set_ 1 (.int .i64 n.1.2.1)).set_ 2 (.int .u64 n.1.2.2)).set_ 3 (.slice (some ⟨Bg, 0, none⟩) x x)
        have hfar : ∀ g t cs, g ≠ w.heap.size → Blk wr g t cs → Blk W5 g t cs := fun g t cs hg h => by
          rw [hW5]
          exact (((h.far (p := ⟨w.heap.size, 0, none⟩) hg _).far (p := ⟨w.heap.size, 1, none⟩) hg _).far (p := ⟨w.heap.size, 2, none⟩) hg _).far (p := ⟨w.heap.size, 3, none⟩) hg _
        have h5 := bR5.cell
        have h5l := bR5.lt
        obtain ⟨o1, o2, o3, o4⟩ := HOLD.out _ kp
        refine bodyPost_ret (v := .agg #[.int .i64 n.1.1, .int .i64 n.1.2.1, .int .u64 n.1.2.2, .slice (some ⟨Bg, 0, none⟩) x x]) (by simp [results, Tryz.results30, go_sem, h5, h5l, Nat.ne_of_lt h5l]) rfl ⟨Bg, x, rfl, by rw [mp_len, HL.out], Nat.le_trans hwl hg2, ?_, o4, ?_, kp⟩
        · rw [← HFA.out]
          exact hfar _ _ _ (HBF.out.ne_type HBR.out (by decide)) HBF.out
        · rw [← HOA.out]
          exact hfar _ _ _ (by omega) HBL.out
end Go.Proofs.YtanhhkdoejnpiaaGreat.G

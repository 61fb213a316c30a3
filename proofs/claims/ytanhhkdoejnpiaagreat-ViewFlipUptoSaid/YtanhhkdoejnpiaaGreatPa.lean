/- The document's Put (dovecoteref16.Put): contract. -/
import Derived.Test.YtanhhkdoejnpiaaGreatVc
import Derived.Test.YtanhhkdoejnpiaaGreatRc
import Derived.Test.YtanhhkdoejnpiaaGreatFr
import Derived.Deep.CutRange
namespace Go.Proofs.YtanhhkdoejnpiaaGreat.G
open Go.Joins Go.ChangeShapes Go.WideShapes Go.ChangeAt Go.RowKit Go.Deep Go.Shelf Go.Maps
set_option linter.unusedVariables false
set_option linter.unusedSimpArgs false

set_option maxHeartbeats 400000 in
theorem raddr_ok (s p : Int) (h0 : s = 0 ∨ s = 1) (h1 : 0 ≤ p) (h2 : p < 4294967296) (w : World) :
    Calls Tryz.prog 45 #[.int .i64 s, .int .i64 p] w fun e w' => e = .returned (.int .u64 (adr s p)) ∧ w = w' := by
  rcases h0 with rfl | rfl
  · go_enter Tryz.func45, Tryz.ntmps45
    go_wp2
    go_ret
    exact ⟨ret_int (by unfold adr; omega), rfl⟩
  · go_enter Tryz.func45, Tryz.ntmps45
    go_wp2
    go_ret
    exact ⟨ret_int (by unfold adr; omega), rfl⟩
theorem el_rows : El 26 22 1 24 := ⟨by
  obtain ⟨i0, h1, h2, h3, h4⟩ := info_parts (P := Tryz.prog) (e := 22) (z := .slice none 0 0) (size := 1) (bytes := 24) (by kernel_rfl)
  exact ⟨i0, _, h1, h2, h3, h4, rfl⟩, Tryz.underlying26, by decide, by decide⟩

theorem own_one {V : World} {g n₀ : Nat} {e : TypeId} {v : Value} (h : Blk V g e #[v]) (hb : n₀ ≤ g) : V.ownsRow n₀ e 1 (.slice (some ⟨g, 0, none⟩) 1 1) 1 [v] := ⟨by simp, .inr ⟨g, 1, #[v], rfl, hb, h, Nat.le_refl _, by unfold maxLen; omega, by simp, by simp⟩⟩
/-! ### What comes out -/
abbrev mem0 : Value := .agg #[.int .i64 0, .slice none 0 0, .slice none 0 0]
abbrev mcz : Array Value := #[.int .i64 0, .slice none 0 0, .slice none 0 0]
/-- Why nothing is put. -/
def pte (g : Gr) (words space : Int) : Int := if bnd words ≠ 0 then bnd words else if space ≠ 0 ∧ space ≠ 1 then 1 else if words < tot g.1 then 4 else 0
def PutNo (x : Int) (w : World) (e : Ending) (w' : World) : Prop := e = .returned (.tuple #[mem0, .slice none 0 0, .int .i64 x]) ∧ Up w w'
def PutYes (g : Gr) (W : Nat) (s : Int) (w : World) (e : Ending) (w' : World) : Prop :=
  ∃ P Q c d B k, e = .returned (.tuple #[mev W P Q c d, .slice B g.2.length k, .int .i64 0]) ∧ Sits w' (putG g W s) P Q c d ∧ (putG g W s).wf ∧ Rw .u64 w' (.slice B g.2.length k) (putR g s) ∧ Up w w'
theorem bnd_ok {k : Int} (h : bnd k = 0) : 16 ≤ k ∧ k ≤ 4096 := by
  unfold bnd at h
  split at h
  · cases h
  · split at h
    · cases h
    · omega
theorem bnd_13 {k : Int} (h : bnd k ≠ 0) : bnd k = 1 ∨ bnd k = 3 := by
  unfold bnd at *
  split
  · exact .inl rfl
  · split
    · exact .inr rfl
    · simp_all
theorem pte_0 {g : Gr} {words space : Int} (h : pte g words space = 0) : 16 ≤ words ∧ words ≤ 4096 ∧ (space = 0 ∨ space = 1) ∧ (tot g.1 : Int) ≤ words := by
  unfold pte at h
  split at h
  · exact absurd h (by assumption)
  · rename_i h1
    have := bnd_ok (Classical.byContradiction h1)
    split at h
    · cases h
    · split at h
      · cases h
      · refine ⟨this.1, this.2, ?_, by omega⟩
        omega
section
variable {w wr : World} {va vb : Value}
/-- What is kept all the while. -/
structure Pb (w : World) (va vb : Value) (wr : World) : Prop where
  bG : Blk wr w.heap.size 30 #[va, vb]
  bR : Blk wr (w.heap.size + 1) 25 mcz
  up : Up w wr
theorem Pb.upw {wc : World} (h : Pb w va vb wr) (k : Up wr wc) : Pb w va vb wc := ⟨h.bG.up k, h.bR.up k, h.up.trans k⟩
theorem Pb.set {B i : Nat} (h : Pb w va vb wr) (hB : w.heap.size + 1 < B) (u : Value) : Pb w va vb (wr.setCell ⟨B, i, none⟩ u) :=
  ⟨h.bG.far (p := ⟨B, i, none⟩) (by show w.heap.size ≠ B; omega) u, h.bR.far (p := ⟨B, i, none⟩) (by show w.heap.size + 1 ≠ B; omega) u, h.up.setCell (by show w.heap.size ≤ B; omega) u⟩
theorem Pb.set3 {B : Nat} (h : Pb w va vb wr) (hB : w.heap.size + 1 < B) (u0 u1 u2 : Value) : Pb w va vb (((wr.setCell ⟨B, 0, none⟩ u0).setCell ⟨B, 1, none⟩ u1).setCell ⟨B, 2, none⟩ u2) := ((h.set hB u0).set hB u1).set hB u2
end
set_option maxRecDepth 100000 in
set_option maxHeartbeats 4000000 in
theorem rput_bnd (v : Value) (g : Gr) (k s x : Int) (w : World) (hg : GrV w v g) (hx : x = 1 ∨ x = 3) (hk : bnd k = x) :
    Calls Tryz.prog 14 #[v, .int .i64 k, .int .i64 s] w (PutNo x w) := by
  obtain ⟨A, c, B, d, rfl, m1, m2⟩ := hg.form
  have HN := Lib.hid (fun W => rnew_no k x hx hk W)
  have hb : (x != 0) = true := by rcases hx with rfl | rfl <;> rfl
  generalize g.1.length = n at *
  generalize g.2.length = m at *
  clear hg hx hk
  go_enter Tryz.func14, Tryz.ntmps14
  go_wp2_with (fail)
  refine (HN.out _).mono ?_
  rintro e w1 ⟨rfl, k1⟩
  have bR := (Blk.new' (w.alloc (.cells #[.slice A n c, .slice B m d] 30)) (g := w.heap.size + 1) (by simp) 25 mcz).up k1
  have K1 := (((Up.refl w).alloc (.cells #[.slice A n c, .slice B m d] 30)).alloc (.cells mcz 25)).trans k1
  have R1c := bR.cell
  have R1f := bR.frozen
  have R1l := bR.lt
  have zc := fun o => ((Blk.alloc bR o) : Blk _ _ _ _).cell
  clear k1
  go_wp2
  refine bodyPost_ret (v := .tuple #[mem0, .slice none 0 0, .int .i64 x]) (by simp [results, Tryz.results14, go_sem, R1c, R1l, R1f, Nat.ne_of_lt R1l]) rfl ⟨rfl, ?_⟩
  first
    | exact (K1.set3 (by omega) _ _ _).alloc _
    | exact ((K1.alloc _).set3 (by omega) _ _ _)
set_option maxRecDepth 100000 in
set_option maxHeartbeats 4000000 in
theorem rput_arg (v : Value) (g : Gr) (W : Nat) (s : Int) (w : World) (hg : GrV w v g) (h16 : 16 ≤ W) (hW : W ≤ 4096) (h0 : s ≠ 0) (h1 : s ≠ 1) :
    Calls Tryz.prog 14 #[v, .int .i64 W, .int .i64 s] w (PutNo 1 w) := by
  obtain ⟨A, c, B, d, rfl, m1, m2⟩ := hg.form
  have HN := Lib.hid (fun V => rnew_ok W h16 hW V)
  have hb0 : (s != 0) = true := bne_iff_ne.2 h0
  have hb1 : (s != 1) = true := bne_iff_ne.2 h1
  generalize g.1.length = n at *
  generalize g.2.length = m at *
  clear hg h0 h1
  go_enter Tryz.func14, Tryz.ntmps14
  go_wp2_with (fail)
  refine (HN.out _).mono ?_
  rintro e w1 ⟨P, Q, cp, cq, rfl, hs, k1⟩
  have bR := (Blk.new' (w.alloc (.cells #[.slice A n c, .slice B m d] 30)) (g := w.heap.size + 1) (by simp) 25 mcz).up k1
  have K1 := (((Up.refl w).alloc (.cells #[.slice A n c, .slice B m d] 30)).alloc (.cells mcz 25)).trans k1
  have R1c := bR.cell
  have R1f := bR.frozen
  have R1l := bR.lt
  clear k1 hs
  go_wp2
  refine bodyPost_ret (v := .tuple #[mem0, .slice none 0 0, .int .i64 1]) (by simp [results, Tryz.results14, go_sem, R1c, R1l, R1f, Nat.ne_of_lt R1l]) rfl ⟨rfl, ?_⟩
  first
    | exact (K1.set3 (by omega) _ _ _).alloc _
    | exact ((K1.alloc _).set3 (by omega) _ _ _)

/-! ### Where there is room, and where there isn't -/
def adl (s : Int) (ns : List Nd) (x : Nat) : List Int := 0 :: (List.range x).map fun i => adr s (ofs ns i)
theorem adl_len (s : Int) (ns : List Nd) (x : Nat) : (adl s ns x).length = x + 1 := by simp [adl]
theorem adl_snoc (s : Int) (ns : List Nd) (x : Nat) : adl s ns (x + 1) = adl s ns x ++ [adr s (ofs ns x)] := by simp [adl, List.range_succ]
theorem adl_at (s : Int) (ns : List Nd) {h : Int} (h0 : 0 ≤ h) (h1 : h ≤ ns.length) : (adl s ns ns.length).getD h.toNat 0 = Adr s ns h := by
  unfold adl Adr
  by_cases q : h = 0
  · subst q; simp
  · obtain ⟨k, rfl⟩ : ∃ k : Nat, h = (k : Int) + 1 := ⟨h.toNat - 1, by omega⟩
    rw [if_pos (by omega), show ((k : Int) + 1).toNat = k + 1 from by omega, Nat.add_sub_cancel]
    simp [List.getD, show k < ns.length from by omega]
theorem Adr_u64 {s : Int} {ns : List Nd} {h : Int} (hs : s = 0 ∨ s = 1) (hT : tot ns ≤ 4096) : U64 (Adr s ns h) := by
  unfold Adr
  split
  · rename_i q
    have := ofs_tot (ns := ns) (show h.toNat - 1 ≤ ns.length by omega)
    unfold adr U64
    omega
  · exact u64_0
end Go.Proofs.YtanhhkdoejnpiaaGreat.G

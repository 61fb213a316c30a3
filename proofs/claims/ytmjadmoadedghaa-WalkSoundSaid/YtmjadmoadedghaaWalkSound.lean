/- The statement WalkSound is proved for every input, from contracts of the functions that it calls; no condition is added. -/
import Derived.Test.YtmjadmoadedghaaWk12
namespace Go.Proofs.Ytmjadmoadedghaa.LWalkSound
open Go.Joins Go.ChangeShapes Go.WideShapes Go.ChangeAt Go.RowKit Go.Deep
set_option linter.unusedVariables false
set_option linter.unusedSimpArgs false

set_option maxRecDepth 100000 in
set_option maxHeartbeats 4000000 in
theorem walk_no (NM : Int) (AM0 AM1 : Option Addr) (nM0 nM1 cM0 cM1 : Nat) (xsM ysM : List Int) (s : Int) (lim : Int) (i : Int) (hfew : few NM nM0 nM1 = false) (w : World) :
    Calls Try.prog 5 #[.agg #[.int .i64 NM, .slice AM0 nM0 cM0, .slice AM1 nM1 cM1, .int .i64 s, .int .i64 lim, .int .i64 i]] w (fun e w' => e = .returned (.bool true) ∧ Up w w') := by
  have hf := fun w => few_any NM AM0 AM1 nM0 nM1 cM0 cM1 w
  rw [hfew] at hf
  have hf := Lib.hid hf
  clear hfew
  go_enter Try.func5, Try.ntmps5
  go_wp2_with (fail)
  refine (shown_any _).mono ?_
  rintro e w1 ⟨rfl, h1⟩
  have M1 : Blk w1 (w.heap.size + 1) 25 #[.int .i64 NM, .slice AM0 nM0 cM0, .slice AM1 nM1 cM1] := ((Blk.new' _ (by simp) _ _)).up h1
  have U1 : Up w w1 := ((((Up.refl w).alloc _).alloc _)).trans h1
  clear h1
  have M1c := M1.cell
  have M1l := M1.lt
  go_wp2_with (fail)
  refine (hf.out _).mono ?_
  rintro e w2 ⟨rfl, h2⟩
  have M2 := M1.up h2
  have U2 : Up w w2 := U1.trans h2
  clear h2 M1 M1c M1l U1
  have M2c := M2.cell
  have M2l := M2.lt
  go_wp2
  go_ret
  exact ⟨rfl, U2⟩

set_option maxRecDepth 100000 in
set_option maxHeartbeats 8000000 in
theorem walk_e (m : Me) (P Q : Addr) (c d : Nat) (s : Int) (lim : Int) (i : Int) (w : World) (hm : Sits w m P Q c d) (hn : m.n ≤ 200) (hwf : m.wf) (hs : I64 s) (hlim : I64 lim) (hi : I64 i) (he : m.tle s lim ≠ 0) :
    Calls Try.prog 5 #[.agg #[.int .i64 m.n, .slice (some P) m.n c, .slice (some Q) m.n d, .int .i64 s, .int .i64 lim, .int .i64 i]] w (fun e w' => e = .returned (.bool true) ∧ Up w w') := by
  have hfew : few m.n m.n m.n = true := by unfold few rt; simp; have := hm.1.1; omega
  have hf := fun w => few_any m.n (some P) (some Q) m.n m.n c d w
  rw [hfew] at hf
  have hf := Lib.hid hf
  have hok := hm.1
  have HM := Lib.hid hm
  clear hfew hm
  have h1 := fun (W : World) (hS : Sits W m P Q c d) => objects_any m P Q c d s lim W hS hwf
  have hlX := tll_len m s lim wObj hok.2.1
  have q1 : (m.tle s lim != 0) = true := bne_iff_ne.mpr he
  have h1 := Lib.hid h1
  generalize m.tle s lim = z1 at h1 q1 he
  clear he
  generalize m.tll wObj s lim = X at *
  clear hwf hs hlim hi hn hok
  go_enter Try.func5, Try.ntmps5
  go_wp2_with (fail)
  refine (shown_any _).mono ?_
  rintro e w1 ⟨rfl, h1⟩
  have M1 : Blk w1 (w.heap.size + 1) 25 #[.int .i64 m.n, .slice (some P) m.n c, .slice (some Q) m.n d] := ((Blk.new' _ (by simp) _ _)).up h1
  have U1 : Up w w1 := ((((Up.refl w).alloc _).alloc _)).trans h1
  clear h1
  have M1c := M1.cell
  have M1l := M1.lt
  go_wp2_with (fail)
  refine (hf.out _).mono ?_
  rintro e w2 ⟨rfl, h2⟩
  have M2 := M1.up h2
  have U2 : Up w w2 := U1.trans h2
  clear h2 M1 M1c M1l U1
  have M2c := M2.cell
  have M2l := M2.lt
  go_wp2_with (fail)
  refine (h1.out _ (HM.out.up U2)).mono ?_
  rintro e w3 ⟨vX, rfl, hlX, h3⟩
  have M3 := M2.up h3
  have U3 : Up w w3 := U2.trans h3
  obtain ⟨AX, capX, rfl, hcX, hmX, rdX⟩ := hlX.sl
  have rX3 := Lib.hid rdX
  clear h3 M2 M2c M2l U2 rdX hlX
  have M3c := M3.cell
  have M3l := M3.lt
  go_wp2
  go_ret
  exact ⟨rfl, U3⟩

set_option maxRecDepth 100000 in
set_option maxHeartbeats 8000000 in
theorem walk_lo (m : Me) (P Q : Addr) (c d : Nat) (s : Int) (lim : Int) (i : Int) (w : World) (hm : Sits w m P Q c d) (hn : m.n ≤ 200) (hwf : m.wf) (hs : I64 s) (hlim : I64 lim) (hi : I64 i) (he : m.tle s lim = 0) (i0 : i < 0) :
    Calls Try.prog 5 #[.agg #[.int .i64 m.n, .slice (some P) m.n c, .slice (some Q) m.n d, .int .i64 s, .int .i64 lim, .int .i64 i]] w (fun e w' => e = .returned (.bool true) ∧ Up w w') := by
  have hfew : few m.n m.n m.n = true := by unfold few rt; simp; have := hm.1.1; omega
  have hf := fun w => few_any m.n (some P) (some Q) m.n m.n c d w
  rw [hfew] at hf
  have hf := Lib.hid hf
  have hok := hm.1
  have HM := Lib.hid hm
  clear hfew hm
  have h1 := fun (W : World) (hS : Sits W m P Q c d) => objects_any m P Q c d s lim W hS hwf
  have hlX := tll_len m s lim wObj hok.2.1
  have q1 : decide (i < 0) = true := decide_eq_true i0
  rw [he] at h1
  have h1 := Lib.hid h1
  clear he
  generalize m.tll wObj s lim = X at *
  clear hwf hs hlim hi hn hok
  go_enter Try.func5, Try.ntmps5
  go_wp2_with (fail)
  refine (shown_any _).mono ?_
  rintro e w1 ⟨rfl, h1⟩
  have M1 : Blk w1 (w.heap.size + 1) 25 #[.int .i64 m.n, .slice (some P) m.n c, .slice (some Q) m.n d] := ((Blk.new' _ (by simp) _ _)).up h1
  have U1 : Up w w1 := ((((Up.refl w).alloc _).alloc _)).trans h1
  clear h1
  have M1c := M1.cell
  have M1l := M1.lt
  go_wp2_with (fail)
  refine (hf.out _).mono ?_
  rintro e w2 ⟨rfl, h2⟩
  have M2 := M1.up h2
  have U2 : Up w w2 := U1.trans h2
  clear h2 M1 M1c M1l U1
  have M2c := M2.cell
  have M2l := M2.lt
  go_wp2_with (fail)
  refine (h1.out _ (HM.out.up U2)).mono ?_
  rintro e w3 ⟨vX, rfl, hlX, h3⟩
  have M3 := M2.up h3
  have U3 : Up w w3 := U2.trans h3
  obtain ⟨AX, capX, rfl, hcX, hmX, rdX⟩ := hlX.sl
  have rX3 := Lib.hid rdX
  clear h3 M2 M2c M2l U2 rdX hlX
  have M3c := M3.cell
  have M3l := M3.lt
  go_wp2
  go_ret
  exact ⟨rfl, U3⟩

set_option maxRecDepth 100000 in
set_option maxHeartbeats 8000000 in
theorem walk_hi (m : Me) (P Q : Addr) (c d : Nat) (s : Int) (lim : Int) (i : Int) (w : World) (hm : Sits w m P Q c d) (hn : m.n ≤ 200) (hwf : m.wf) (hs : I64 s) (hlim : I64 lim) (hi : I64 i) (he : m.tle s lim = 0) (i0 : 0 ≤ i) (i1 : ((m.tll wObj s lim).length : Int) ≤ i) :
    Calls Try.prog 5 #[.agg #[.int .i64 m.n, .slice (some P) m.n c, .slice (some Q) m.n d, .int .i64 s, .int .i64 lim, .int .i64 i]] w (fun e w' => e = .returned (.bool true) ∧ Up w w') := by
  have hfew : few m.n m.n m.n = true := by unfold few rt; simp; have := hm.1.1; omega
  have hf := fun w => few_any m.n (some P) (some Q) m.n m.n c d w
  rw [hfew] at hf
  have hf := Lib.hid hf
  have hok := hm.1
  have HM := Lib.hid hm
  clear hfew hm
  have h1 := fun (W : World) (hS : Sits W m P Q c d) => objects_any m P Q c d s lim W hS hwf
  have hlX := tll_len m s lim wObj hok.2.1
  have q0 : decide (i < 0) = false := decide_eq_false (by omega)
  have q1 : decide (((m.tll wObj s lim).length : Int) ≤ i) = true := decide_eq_true i1
  rw [he] at h1
  have h1 := Lib.hid h1
  clear he
  generalize m.tll wObj s lim = X at *
  clear hwf hs hlim hi hn hok
  go_enter Try.func5, Try.ntmps5
  go_wp2_with (fail)
  refine (shown_any _).mono ?_
  rintro e w1 ⟨rfl, h1⟩
  have M1 : Blk w1 (w.heap.size + 1) 25 #[.int .i64 m.n, .slice (some P) m.n c, .slice (some Q) m.n d] := ((Blk.new' _ (by simp) _ _)).up h1
  have U1 : Up w w1 := ((((Up.refl w).alloc _).alloc _)).trans h1
  clear h1
  have M1c := M1.cell
  have M1l := M1.lt
  go_wp2_with (fail)
  refine (hf.out _).mono ?_
  rintro e w2 ⟨rfl, h2⟩
  have M2 := M1.up h2
  have U2 : Up w w2 := U1.trans h2
  clear h2 M1 M1c M1l U1
  have M2c := M2.cell
  have M2l := M2.lt
  go_wp2_with (fail)
  refine (h1.out _ (HM.out.up U2)).mono ?_
  rintro e w3 ⟨vX, rfl, hlX, h3⟩
  have M3 := M2.up h3
  have U3 : Up w w3 := U2.trans h3
  obtain ⟨AX, capX, rfl, hcX, hmX, rdX⟩ := hlX.sl
  have rX3 := Lib.hid rdX
  clear h3 M2 M2c M2l U2 rdX hlX
  have M3c := M3.cell
  have M3l := M3.lt
  go_wp2
  go_ret
  exact ⟨rfl, U3⟩

set_option maxRecDepth 100000 in
set_option maxHeartbeats 8000000 in
theorem walk_ns (m : Me) (P Q : Addr) (c d : Nat) (s : Int) (lim : Int) (i : Int) (w : World) (hm : Sits w m P Q c d) (hn : m.n ≤ 200) (hwf : m.wf) (hs : I64 s) (hlim : I64 lim) (hi : I64 i) (he : m.tle s lim = 0) (i0 : 0 ≤ i) (i1 : i < ((m.tll wObj s lim).length : Int)) (hsn : m.snd s lim = false) :
    Calls Try.prog 5 #[.agg #[.int .i64 m.n, .slice (some P) m.n c, .slice (some Q) m.n d, .int .i64 s, .int .i64 lim, .int .i64 i]] w (fun e w' => e = .returned (.bool true) ∧ Up w w') := by
  have hfew : few m.n m.n m.n = true := by unfold few rt; simp; have := hm.1.1; omega
  have hf := fun w => few_any m.n (some P) (some Q) m.n m.n c d w
  rw [hfew] at hf
  have hf := Lib.hid hf
  have hok := hm.1
  have HM := Lib.hid hm
  clear hfew hm
  have h1 := fun (W : World) (hS : Sits W m P Q c d) => objects_any m P Q c d s lim W hS hwf
  have hlX := tll_len m s lim wObj hok.2.1
  have q0 : decide (i < 0) = false := decide_eq_false (by omega)
  have q1 : decide (((m.tll wObj s lim).length : Int) ≤ i) = false := decide_eq_false (by omega)
  rw [he] at h1
  have h1 := Lib.hid h1
  have h2 := fun (W : World) (hS : Sits W m P Q c d) => sound_any m P Q c d s lim W hS hwf
  rw [hsn] at h2
  have h2 := Lib.hid h2
  clear he hsn
  generalize m.tll wObj s lim = X at *
  clear hwf hs hlim hi hn hok
  go_enter Try.func5, Try.ntmps5
  go_wp2_with (fail)
  refine (shown_any _).mono ?_
  rintro e w1 ⟨rfl, h1⟩
  have M1 : Blk w1 (w.heap.size + 1) 25 #[.int .i64 m.n, .slice (some P) m.n c, .slice (some Q) m.n d] := ((Blk.new' _ (by simp) _ _)).up h1
  have U1 : Up w w1 := ((((Up.refl w).alloc _).alloc _)).trans h1
  clear h1
  have M1c := M1.cell
  have M1l := M1.lt
  go_wp2_with (fail)
  refine (hf.out _).mono ?_
  rintro e w2 ⟨rfl, h2⟩
  have M2 := M1.up h2
  have U2 : Up w w2 := U1.trans h2
  clear h2 M1 M1c M1l U1
  have M2c := M2.cell
  have M2l := M2.lt
  go_wp2_with (fail)
  refine (h1.out _ (HM.out.up U2)).mono ?_
  rintro e w3 ⟨vX, rfl, hlX, h3⟩
  have M3 := M2.up h3
  have U3 : Up w w3 := U2.trans h3
  obtain ⟨AX, capX, rfl, hcX, hmX, rdX⟩ := hlX.sl
  have rX3 := Lib.hid rdX
  clear h3 M2 M2c M2l U2 rdX hlX
  have M3c := M3.cell
  have M3l := M3.lt
  go_wp2_with (fail)
  refine (h2.out _ (HM.out.up U3)).mono ?_
  rintro e w4 ⟨rfl, h4⟩
  have M4 := M3.up h4
  have U4 : Up w w4 := U3.trans h4
  have rX4 := Lib.hid (rX3.out.up h4)
  clear h4 M3 M3c M3l U3 rX3
  have M4c := M4.cell
  have M4l := M4.lt
  go_wp2
  go_ret
  exact ⟨rfl, U4⟩

set_option maxRecDepth 100000 in
set_option maxHeartbeats 8000000 in
theorem walk_ok (m : Me) (P Q : Addr) (c d : Nat) (s : Int) (lim : Int) (i : Int) (w : World) (hm : Sits w m P Q c d) (hn : m.n ≤ 200) (hwf : m.wf) (hs : I64 s) (hlim : I64 lim) (hi : I64 i) (he : m.tle s lim = 0) (k : Nat) (hik : i = k) (hk : k < (m.tll wObj s lim).length) (hsn : m.snd s lim = true) :
    Calls Try.prog 5 #[.agg #[.int .i64 m.n, .slice (some P) m.n c, .slice (some Q) m.n d, .int .i64 s, .int .i64 lim, .int .i64 i]] w (fun e w' => e = .returned (.bool true) ∧ Up w w') := by
  have hfew : few m.n m.n m.n = true := by unfold few rt; simp; have := hm.1.1; omega
  have hf := fun w => few_any m.n (some P) (some Q) m.n m.n c d w
  rw [hfew] at hf
  have hf := Lib.hid hf
  have hok := hm.1
  have HM := Lib.hid hm
  clear hfew hm
  have h1 := fun (W : World) (hS : Sits W m P Q c d) => objects_any m P Q c d s lim W hS hwf
  have hlX := tll_len m s lim wObj hok.2.1
  subst hik
  have q0 : decide ((k : Int) < 0) = false := decide_eq_false (by omega)
  have q1 : decide (((m.tll wObj s lim).length : Int) ≤ k) = false := decide_eq_false (by omega)
  rw [he] at h1
  have h1 := Lib.hid h1
  have h2 := fun (W : World) (hS : Sits W m P Q c d) => sound_any m P Q c d s lim W hS hwf
  rw [hsn] at h2
  have h2 := Lib.hid h2
  have hmem : (m.tll wObj s lim).getD k 0 ∈ m.tll wObj s lim := by simp [List.getD, List.getElem?_eq_getElem hk]
  have hau := tll_u64 (s := s) (lim := lim) (wn := wObj) hok.2.1 _ hmem
  have hra := obj_real hmem
  have hcl := sndb_true.1 (show m.sndb (m.tll wObj s lim) = true from by unfold Me.snd at hsn; rw [he] at hsn; simpa using hsn)
  have h3 := Lib.hid (fun (V : World) (g : Nat) (hS : Sits V m P Q c d) (hb : Blk V g 31 #[.int .u64 ((m.tll wObj s lim).getD k 0)]) => reach_any m P Q c d (some ⟨g, 0, none⟩) 1 1 [(m.tll wObj s lim).getD k 0] V hS hwf (Rd.of_row (blk_row1 hb) rfl) (fun x hx => by rw [List.mem_singleton.1 hx]; exact hau) (by decide))
  have hRin := Lib.hid (rch_in (m := m) (S := fun x => x ∈ m.tll wObj s lim) (fun a ha b hb hrb => by
    rcases List.mem_cons.1 (hcl a ha b hb) with q | q
    · rw [q, real_0] at hrb; cases hrb
    · exact q) [(m.tll wObj s lim).getD k 0] (fun a ha => by rw [List.mem_singleton.1 ha]; exact hmem))
  have hR1 : 1 ≤ (m.rch [(m.tll wObj s lim).getD k 0]).length := List.length_pos_of_mem ((rch_facts m [(m.tll wObj s lim).getD k 0]).2.2.2.1 _ (by simp) hra)
  have hRl := rch_len m hok.2.1 [(m.tll wObj s lim).getD k 0]
  have qR : decide ((1 : Int) ≤ ((m.rch [(m.tll wObj s lim).getD k 0]).length : Int)) = true := decide_eq_true (by omega)
  generalize m.rch [(m.tll wObj s lim).getD k 0] = R at h3 hRin hR1 hRl qR
  have hmx : Hid ((m.tll wObj s lim).length ≤ maxLen) := Lib.hid (by unfold maxLen; omega)
  clear he hsn hmem hau hra hcl
  generalize m.tll wObj s lim = X at *
  clear hwf hs hlim hi hn hok
  go_enter Try.func5, Try.ntmps5
  go_wp2_with (fail)
  refine (shown_any _).mono ?_
  rintro e w1 ⟨rfl, h1⟩
  have M1 : Blk w1 (w.heap.size + 1) 25 #[.int .i64 m.n, .slice (some P) m.n c, .slice (some Q) m.n d] := ((Blk.new' _ (by simp) _ _)).up h1
  have U1 : Up w w1 := ((((Up.refl w).alloc _).alloc _)).trans h1
  clear h1
  have M1c := M1.cell
  have M1l := M1.lt
  go_wp2_with (fail)
  refine (hf.out _).mono ?_
  rintro e w2 ⟨rfl, h2⟩
  have M2 := M1.up h2
  have U2 : Up w w2 := U1.trans h2
  clear h2 M1 M1c M1l U1
  have M2c := M2.cell
  have M2l := M2.lt
  go_wp2_with (fail)
  refine (h1.out _ (HM.out.up U2)).mono ?_
  rintro e w3 ⟨vX, rfl, hlX, h3⟩
  have M3 := M2.up h3
  have U3 : Up w w3 := U2.trans h3
  obtain ⟨AX, capX, rfl, hcX, hmX, rdX⟩ := hlX.sl
  have rX3 := Lib.hid rdX
  clear h3 M2 M2c M2l U2 rdX hlX
  have M3c := M3.cell
  have M3l := M3.lt
  go_wp2_with (fail)
  refine (h2.out _ (HM.out.up U3)).mono ?_
  rintro e w4 ⟨rfl, h4⟩
  have M4 := M3.up h4
  have U4 : Up w w4 := U3.trans h4
  have rX4 := Lib.hid (rX3.out.up h4)
  clear h4 M3 M3c M3l U3 rX3
  have M4c := M4.cell
  have M4l := M4.lt
  obtain ⟨p, rfl, hrow⟩ := rX4.out.2 (by omega)
  obtain ⟨W0, hW0⟩ : ∃ W0 : World, W0 = w4.drew := ⟨_, rfl⟩
  have U0 : Up W0 w4.drew := by rw [hW0]; exact Up.refl _
  have UW : Up w4 W0 := by rw [hW0]; exact (Up.refl _).drew
  have U1 : Up W0 (w4.alloc (.cells #[.int .u64 (X.getD k 0)] 31)).drew := by rw [hW0]; exact (Up.refl w4.drew).alloc (.cells #[.int .u64 (X.getD k 0)] 31)
  have S1 : Blk (w4.alloc (.cells #[.int .u64 (X.getD k 0)] 31)).drew w4.heap.size 31 #[.int .u64 (X.getD k 0)] := (Blk.new w4 _ _).drew
  have M0 := M4.up UW
  have hrow0 := hrow.up UW
  have RX0 := Lib.hid (rX4.out.up UW)
  have UU := U4.trans UW
  have h3 := Lib.hid (fun (V : World) (g : Nat) (hU : Up W0 V) (hb : Blk V g 31 #[.int .u64 (X.getD k 0)]) => h3.out V g ((HM.out.up UU).up hU) hb)
  clear hW0 M4 M4c M4l U4 rX4 hrow UW
  have hat0 := Lib.hid (fun (V : World) (hV : Up W0 V) => (hrow0.up hV).at_ k hk)
  generalize X.getD k 0 = a at *
  go_wp2_with (fail)
  go_region_held3 (fun w' => (∀ i, w'.cell? ⟨w.heap.size + 1, i, none⟩ = (#[.int .i64 m.n, .slice (some P) m.n c, .slice (some Q) m.n d] : Array Value)[i]?) ∧ w'.cell? (p.add k) = some (.int .u64 a))
    (exact ⟨fun i => (Blk.up M0 (by assumption)).cell i, hat0.out _ (by assumption)⟩)
    (first
      | (go_at_call 16; ((with_reducible refine (h3.out _ _ (by assumption) S1).mono ?_); rintro e wz ⟨vr, rfl, hlr, hz⟩; have UZ := Up.trans (a := W0) (by assumption) hz; obtain ⟨AR, capR, rfl, hcR, hmR, rdR⟩ := hlr.sl; have RR := Lib.hid rdR; clear rdR hlr)))
  have RXz := Lib.hid (RX0.out.up UZ)
  have UF := Lib.hid (UU.trans UZ)
  clear hz UZ RX0 UU hat0 hrow0 M0 S1 U1 U0 h3
  go_wp2
  go_loop [12] (fun i => ∃ x : Nat, x ≤ R.length ∧ i = .int .i64 x) (fun i => R.length - (intOf i).toNat)
  case atStart => exact ⟨0, Nat.zero_le _, rfl⟩
  case round =>
    obtain ⟨x, hx, rfl⟩ := hrel
    by_cases hlt : x < R.length
    · obtain ⟨p2, rfl, hc2⟩ := RR.out.at_ hlt
      have hin : R.getD x 0 ∈ X := hRin.out _ (by simp [List.getD, List.getElem?_eq_getElem hlt])
      have hh := rhas_any (some p) X.length capX X (R.getD x 0) wz RXz.out hmx.out
      rw [decide_eq_true hin] at hh
      have hh := Lib.hid hh
      generalize R.getD x 0 = b at hc2 hh hin
      clear hin
      go_wp2_with (fail)
      refine hh.out.mono ?_
      rintro e w' ⟨rfl, rfl⟩
      go_wp2
      go_round
      case rel => exact ⟨x + 1, by omega, by go_num⟩
      case measure => simp [intOf]; omega
    · obtain rfl : x = R.length := by omega
      go_wp2
      go_ret
      exact ⟨rfl, UF.out⟩

theorem walk (NM : Int) (AM0 AM1 : Option Addr) (nM0 nM1 cM0 cM1 : Nat) (xsM ysM : List Int) (s : Int) (lim : Int) (i : Int) (w : World) (hxM : SlOk w AM0 nM0 cM0 xsM) (hyM : SlOk w AM1 nM1 cM1 ysM) (hs : I64 s) (hlim : I64 lim) (hi : I64 i) :
    Calls Try.prog 5 #[.agg #[.int .i64 NM, .slice AM0 nM0 cM0, .slice AM1 nM1 cM1, .int .i64 s, .int .i64 lim, .int .i64 i]] w (fun e w' => e = .returned (.bool true) ∧ Up w w') := by
  cases hfew : few NM nM0 nM1
  · exact walk_no NM AM0 AM1 nM0 nM1 cM0 cM1 xsM ysM s lim i hfew w
  · obtain ⟨rfl, rfl, h16, h200⟩ := few_is hfew
    obtain ⟨P, Q, rfl, rfl, hm⟩ := sits_of hxM hyM h16 (by omega)
    have hwf := sits_wf hxM hyM
    by_cases he : (⟨nM0, xsM, ysM⟩ : Me).tle s lim = 0
    · by_cases i0 : i < 0
      · exact walk_lo ⟨nM0, xsM, ysM⟩ P Q cM0 cM1 s lim i w hm h200 hwf hs hlim hi he i0
      by_cases i1 : i < (((⟨nM0, xsM, ysM⟩ : Me).tll wObj s lim).length : Int)
      · cases hsn : (⟨nM0, xsM, ysM⟩ : Me).snd s lim
        · exact walk_ns ⟨nM0, xsM, ysM⟩ P Q cM0 cM1 s lim i w hm h200 hwf hs hlim hi he (by omega) i1 hsn
        · exact walk_ok ⟨nM0, xsM, ysM⟩ P Q cM0 cM1 s lim i w hm h200 hwf hs hlim hi he i.toNat (by omega) (by omega) hsn
      · exact walk_hi ⟨nM0, xsM, ysM⟩ P Q cM0 cM1 s lim i w hm h200 hwf hs hlim hi he (by omega) (by omega)
    · exact walk_e ⟨nM0, xsM, ysM⟩ P Q cM0 cM1 s lim i w hm h200 hwf hs hlim hi he
theorem cells : Try.prog.cellsOf 47 = 6 := by kernel_rfl
set_option maxRecDepth 100000 in
theorem opened {H : Type} {enc : TypeId × Value → H} {w : World} {r : Reach} {b0 : Nat} {vl_ : Value} {d : DataW H} {p : List MemPlace} (hvl_ : Value.okWide Try.prog w r b0 47 vl_) (h_ : DataW.Trod enc Try.prog w 0 (fun _ => true) true 47 vl_ d p) :
    ∃ (NM : Int) (AM0 AM1 : Option Addr) (nM0 nM1 cM0 cM1 : Nat) (xsM ysM : List Int) (s : Int) (lim : Int) (i : Int), vl_ = .agg #[.int .i64 NM, .slice AM0 nM0 cM0, .slice AM1 nM1 cM1, .int .i64 s, .int .i64 lim, .int .i64 i] ∧ I64 NM ∧ SlOk w AM0 nM0 cM0 xsM ∧ SlOk w AM1 nM1 cM1 ysM ∧ I64 s ∧ I64 lim ∧ I64 i := by
  obtain ⟨⟨l⟩, rfl, hsz⟩ := okWide_struct Try.underlying47 hvl_
  match l, hsz.trans cells with
  | [z0_, z1_, z2_, z3_, z4_, z5_], _ =>
    obtain ⟨fuel, hf_⟩ := h_
    obtain ⟨ys_, n_, _, _, _, hlen_, hg_⟩ := DataW.trod_struct Try.underlying47 hf_
    have f0_ := hg_ 0 _ rfl
    have f1_ := hg_ 1 _ rfl
    have f2_ := hg_ 2 _ rfl
    have f3_ := hg_ 3 _ rfl
    match ys_, hlen_ with
    | [y0_, y1_, y2_, y3_], _ =>
      change DataW.trod enc Try.prog w 0 (fun _ => true) true n_ 25 (([z0_, z1_, z2_, z3_, z4_, z5_].drop 0).take (Try.prog.cellsOf 25)) = some y0_ at f0_
      rw [cells_mem] at f0_
      change DataW.trod enc Try.prog w 0 (fun _ => true) true n_ 3 (([z0_, z1_, z2_, z3_, z4_, z5_].drop 3).take (Try.prog.cellsOf 3)) = some y1_ at f1_
      rw [cells_int] at f1_
      change DataW.trod enc Try.prog w 0 (fun _ => true) true n_ 3 (([z0_, z1_, z2_, z3_, z4_, z5_].drop 4).take (Try.prog.cellsOf 3)) = some y2_ at f2_
      rw [cells_int] at f2_
      change DataW.trod enc Try.prog w 0 (fun _ => true) true n_ 3 (([z0_, z1_, z2_, z3_, z4_, z5_].drop 5).take (Try.prog.cellsOf 3)) = some y3_ at f3_
      rw [cells_int] at f3_
      obtain ⟨NM, AM0, AM1, nM0, nM1, cM0, cM1, xsM, ysM, rfl, rfl, rfl, hNM, hxM, hyM⟩ := mem_open (v0 := z0_) (v1 := z1_) (v2 := z2_) f0_
      obtain ⟨s, rfl, hs⟩ := int_open (v := z3_) f1_
      obtain ⟨lim, rfl, hlim⟩ := int_open (v := z4_) f2_
      obtain ⟨i, rfl, hi⟩ := int_open (v := z5_) f3_
      exact ⟨NM, AM0, AM1, nM0, nM1, cM0, cM1, xsM, ysM, s, lim, i, rfl, hNM, hxM, hyM, hs, hlim, hi⟩

theorem own : ownKnob Try.prog.godebug = none := by kernel_rfl
set_option maxRecDepth 100000 in
theorem lifted (os : Os) (started : os.Started) (H : Type) (enc : TypeId × Value → H) :
    ReturnsInHanded {} Try.checked os 5 .any (Rows.walkSoundSpec.pre6 enc Try.prog Try.f5 Rows.walkSoundRow.domain false) (Rows.walkSoundSpec.post enc Try.prog Try.f5 false true false false) := by
  refine returnsInHanded_of_change (C := Try.checked) own started (by kernel_rfl) Try.func5
    (ChangeSpec.witness6 (enc := enc) (C := Try.checked) false ⟨#[], #[.agg #[.int .i64 0, .slice none 0 0, .slice none 0 0, .int .i64 0, .int .i64 0, .int .i64 0]], []⟩ 8 (by kernel_rfl) (by kernel_rfl) (by kernel_rfl) (by kernel_rfl)) ?_
  intro W base args ds gs before hval0 hW hcnd _
  have hval : ∀ (j : Nat) t v, Try.f5.params[j]? = some t → args[j]? = some v → Value.okWide Try.prog W .any base t v := hval0
  have hW' := hW
  obtain ⟨p, q, hA0, hV, rfl, hfz, hnd⟩ := hW
  have hA : DataW.TrodAll enc Try.prog W 0 (fun _ => true) true Try.f5.params.toList args.toList ds p := hA0
  rw [Try.params5] at hA hval
  obtain ⟨v0, vs0, d0, ds0, p0, q0, hargs, rfl, rfl, h0, r0⟩ := trodAll_cons hA
  obtain ⟨rfl, rfl, rfl⟩ := trodAll_nil r0
  obtain rfl : args = #[v0] := by cases args; simp_all
  obtain ⟨rfl, rfl⟩ := trodVars_none hV
  have h0k := h0
  obtain ⟨NM, AM0, AM1, nM0, nM1, cM0, cM1, xsM, ysM, s, lim, i, rfl, hNM, hxM, hyM, hs, hlim, hi⟩ := opened (hval 0 47 v0 rfl rfl) h0
  clear hA0 hval0
  simp only [List.append_nil] at hW'
  refine (walk NM AM0 AM1 nM0 nM1 cM0 cM1 xsM ysM s lim i W hxM hyM hs hlim hi).mono fun e W' ⟨he, hg⟩ => ?_
  subst he
  exact ⟨_, rfl, post_below (pa := p0) (pv := []) hW' (fun _ _ _ => (trodAll_cons_mk (shut_bool Try.underlying4 _) trodAll_mk0))
    (fun sp hsp => by
      have t := trodAll_cons_mk (trod_keeps (sp := sp) (by kernel_rfl) (of_decide_eq_true (by kernel_rfl)) h0k hg (fun x hx => hW'.lt x hx) (fun x hx => hsp x hx)) trodAll_mk0
      rw [List.append_nil] at t
      exact t) (fun _ _ => rfl) (by simp)
    hg (ok_one (by kernel_rfl) rfl (okWide_bool_mk Try.underlying4 _))⟩

set_option maxRecDepth 100000 in
theorem over : Rows.walkSoundRow.holds Try.pinned (OpenSpec.ofChange Rows.walkSoundSpec) :=
  OpenClaim.holds_of_wide 5 Try.f5 rfl rfl rfl rfl rfl rfl rfl ⟨rfl, rfl, rfl, rfl, rfl⟩ rfl rfl rfl rfl rfl (by kernel_rfl) Try.func5 (by kernel_rfl)
    (of_decide_eq_true (by kernel_rfl)) (by unfold Func.isWrapper; first | (rw [if_pos (by decide +kernel)]; kernel_rfl) | (rw [if_neg (by decide +kernel)]; exact ⟨rfl, rfl⟩))
    (fun os started H enc _ => lifted os started H enc)

theorem proved : Rows.WalkSoundSaid :=
  over
#print axioms proved
end Go.Proofs.Ytmjadmoadedghaa.LWalkSound

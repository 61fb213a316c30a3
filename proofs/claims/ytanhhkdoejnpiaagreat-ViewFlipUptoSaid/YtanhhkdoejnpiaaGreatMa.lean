import Derived.Test.YtanhhkdoejnpiaaGreatMz
import Derived.Test.YtanhhkdoejnpiaaGreatVc
/-! A graph copied into the other space, plainly. -/
/- A graph that was put is copied into the other space (To, and Set of what is gone through), plainly: what memory holds all the while. -/
namespace Go.Proofs.YtanhhkdoejnpiaaGreat.G
open Go.Joins Go.ChangeShapes Go.WideShapes Go.ChangeAt Go.RowKit Go.Deep Go.Shelf Go.Maps
set_option linter.unusedVariables false
set_option linter.unusedSimpArgs false

/-! ### Lists -/
theorem sum_le (f : Int → Nat) : ∀ (n : Nat) (o : List Int), o.Nodup → (∀ h ∈ o, 1 ≤ h ∧ h ≤ n) → (o.map f).sum ≤ ((List.range n).map fun i : Nat => f ((i : Int) + 1)).sum
  | 0, o, _, h => by
    cases o with
    | nil => simp
    | cons x r => have := h x (by simp); omega
  | n + 1, o, hd, h => by
    rw [List.range_succ, List.map_append, List.sum_append]
    by_cases q : ((n : Int) + 1) ∈ o
    · have hp := List.perm_cons_erase q
      have hs : (o.map f).sum = f ((n : Int) + 1) + ((o.erase ((n : Int) + 1)).map f).sum := by
        rw [(hp.map f).sum_nat]; simp
      have ih := sum_le f n (o.erase ((n : Int) + 1)) (hd.erase _) (fun x hx => by
        have h1 := h x (List.mem_of_mem_erase hx)
        have h2 : x ≠ (n : Int) + 1 := fun e => by
          subst e
          exact hd.not_mem_erase hx
        omega)
      simp only [List.map_cons, List.map_nil, List.sum_cons, List.sum_nil]
      omega
    · have ih := sum_le f n o hd (fun x hx => by
        have h1 := h x hx
        have h2 : x ≠ (n : Int) + 1 := fun e => q (e ▸ hx)
        omega)
      omega
theorem ofs_app {ns ms : List Nd} {j : Nat} (h : j ≤ ns.length) : ofs (ns ++ ms) j = ofs ns j := by
  unfold ofs
  rw [List.take_append_of_le_length h]
theorem tot_app (ns : List Nd) (n : Nd) : tot (ns ++ [n]) = tot ns + (n.2.length + 2) := by simp [tot]
theorem iv_inj {ns : List Nd} {j k x y : Nat} (hj : j < ns.length) (hk : k < ns.length) (hx : x < (ns.getD j ndN).2.length + 2) (hy : y < (ns.getD k ndN).2.length + 2) (e : ofs ns j + x = ofs ns k + y) : j = k ∧ x = y := by
  rcases Nat.lt_trichotomy j k with q | q | q
  · have := ofs_step hj
    have := ofs_le (ns := ns) (show j + 1 ≤ k by omega) (by omega)
    omega
  · subst q; exact ⟨rfl, by omega⟩
  · have := ofs_step hk
    have := ofs_le (ns := ns) (show k + 1 ≤ j by omega) (by omega)
    omega
theorem adr_ne {s : Int} {p q : Nat} (h : p ≠ q) : adr s p ≠ adr s q := by unfold adr; omega
theorem adr_sp {s : Int} {p q : Nat} (hp : p < 4294967296) (hq : q < 4294967296) : adr s p ≠ adr (1 - s) q := by unfold adr; omega

/-! ### Objects -/
abbrev hwd (n : Nd) : Int := wrd n.1.1 n.1.2.1 n.1.2.2
theorem ob_at {m : Me} {s : Int} {p : Nat} {t l mp : Int} (hs : s = 0 ∨ s = 1) (hm : m.n ≤ 4096) (hh : HdOk t l mp) (hp : (p : Int) + (l + 2) ≤ m.n) (hr : m.ld (adr s p) = wrd t l mp) :
    m.kne (adr s p) = 0 ∧ m.att (adr s p) = t ∧ m.atl (adr s p) = l ∧ m.atm (adr s p) = mp := by
  obtain ⟨l0, l1, l2, l3⟩ := hh.len
  obtain ⟨e1, e2, e3⟩ := adr_is hs (show p < 4294967296 by omega)
  obtain ⟨w1, w2, w3, w4⟩ := wrd_parts hh.m hh.r
  have hk : m.atok (adr s p) := by
    refine ⟨⟨e3, by rw [e2]; omega⟩, ?_, ?_⟩
    · rw [hr]; unfold tkb; rw [w1, w2, w3]; exact hh.r
    · rw [hr, w1, w2, l3]; exact ⟨e3, by rw [e2]; exact hp⟩
  obtain ⟨q1, q2, q3⟩ := at_of hk
  rw [hr, w1] at q1; rw [hr, w2] at q2; rw [hr, w3] at q3
  exact ⟨kne_0.2 ⟨hk, by rw [q1]; exact hh.f⟩, q1, q2, q3⟩
theorem ob_fok {m : Me} {a l : Int} {f : Nat} (h : m.kne a = 0) (hl : m.atl a = l) (hf : (f : Int) < l) : m.fok a f := ⟨h, by unfold hasb; rw [hl]; exact decide_eq_true ⟨by omega, hf⟩⟩

/-! ### What is copied -/
/-- What is asked of a graph that is copied, of memory and a space. -/
structure Cx (g : Gr) (W : Nat) (s : Int) : Prop where
  rg : Rg g
  h16 : 16 ≤ W
  hW : W ≤ 4096
  hs : s = 0 ∨ s = 1
  hT : tot g.1 ≤ W
  hn : g.1.length ≤ 1000
abbrev nsO (g : Gr) (o : List Int) : List Nd := o.map (ndOf g)
abbrev szO (g : Gr) (h : Int) : Nat := (ndOf g h).2.length + 2
/-- A node's place in the old space. -/
abbrev PoO (g : Gr) (h : Int) : Nat := ofs g.1 (h.toNat - 1)
/-- Where the copy of a node is, or 0. -/
def Nw (g : Gr) (s : Int) (o : List Int) (h : Int) : Int := if h ∈ o then adr (1 - s) (ofs (nsO g o) (o.idxOf h)) else 0
/-- Is a field of a copy put right? -/
def dn (nd : Nd) (k i j f : Nat) : Prop := j < k ∨ (j = k ∧ f ∈ (pix nd).take i)
instance (nd : Nd) (k i j f : Nat) : Decidable (dn nd k i j f) := by unfold dn; infer_instance
def fl (F : Int → Int) (nd : Nd) (f : Nat) : Int := if isP nd (f : Int) then F (nd.2.getD f 0) else nd.2.getD f 0
theorem fl_mp (F : Int → Int) (nd : Nd) {f : Nat} (h : f < nd.2.length) : (mpF F nd).2.getD f 0 = fl F nd f := mp_at F nd h
section
variable {g : Gr} {W : Nat} {s : Int} {m : Me} {a : Int} {o : List Int} {k i : Nat}
theorem Cx.s' (X : Cx g W s) : 1 - s = 0 ∨ 1 - s = 1 := by have := X.hs; omega
theorem Cx.at_ (X : Cx g W s) {h : Int} (hi : inN g h) : Adr s g.1 h = adr s (PoO g h) ∧ PoO g h + szO g h ≤ tot g.1 ∧ HdOk (ndOf g h).1.1 (ndOf g h).1.2.1 (ndOf g h).1.2.2 ∧ ((ndOf g h).2.length : Int) = (ndOf g h).1.2.1 := by
  obtain ⟨hk, hnd⟩ := ndOf_in hi
  obtain ⟨hh, hlen⟩ := X.rg.hdok (ndOf_mem hi)
  have hstep := ofs_step hk
  have htot := ofs_tot (show h.toNat - 1 + 1 ≤ g.1.length by omega)
  rw [← hnd] at hstep
  exact ⟨if_pos hi, by unfold szO PoO; omega, hh, hlen⟩
theorem Cx.old_inj (X : Cx g W s) {h v : Int} {x y : Nat} (hh : inN g h) (hv : inN g v) (hx : x < szO g h) (hy : y < szO g v) (e : PoO g h + x = PoO g v + y) : h = v ∧ x = y := by
  obtain ⟨h1, h2⟩ := ndOf_in hh
  obtain ⟨v1, v2⟩ := ndOf_in hv
  unfold szO at hx hy
  rw [h2] at hx
  rw [v2] at hy
  obtain ⟨e1, e2⟩ := iv_inj h1 v1 hx hy e
  have := hh.1
  have := hv.1
  exact ⟨by omega, e2⟩
theorem tot_O (o : List Int) : tot (nsO g o) = (o.map (szO g)).sum := by
  unfold tot nsO
  rw [List.map_map]
  rfl
theorem Cx.fit (X : Cx g W s) (hd : o.Nodup) (hi : ∀ h ∈ o, inN g h) : tot (nsO g o) ≤ tot g.1 := by
  rw [tot_O]
  refine Nat.le_trans (sum_le (szO g) g.1.length o hd hi) (Nat.le_of_eq ?_)
  unfold tot
  congr 1
  refine List.ext_getElem (by simp) fun j h1 h2 => ?_
  have hj : j < g.1.length := by simpa using h1
  simp only [List.getElem_map, List.getElem_range]
  unfold szO ndOf
  rw [show ((j : Int) + 1).toNat - 1 = j from by omega]
  simp [List.getD, List.getElem?_eq_getElem hj]
theorem nsO_len (g : Gr) (o : List Int) : (nsO g o).length = o.length := List.length_map _
theorem nsO_get (g : Gr) (o : List Int) {j : Nat} (h : j < o.length) : (nsO g o).getD j ndN = ndOf g (o.getD j 0) := by
  simp [nsO, List.getD, List.getElem?_map, List.getElem?_eq_getElem h]
theorem nsO_app (g : Gr) (o : List Int) (v : Int) : nsO g (o ++ [v]) = nsO g o ++ [ndOf g v] := by simp [nsO]
theorem Nw_no {h : Int} (k : h ∉ o) : Nw g s o h = 0 := if_neg k
theorem Nw_app {v h : Int} (hh : h ∈ o) : Nw g s (o ++ [v]) h = Nw g s o h := by
  have hl := List.idxOf_lt_length_of_mem hh
  unfold Nw
  rw [if_pos hh, if_pos (List.mem_append.2 (.inl hh)), List.idxOf_append, if_pos hh, nsO_app, ofs_app (by rw [nsO_len]; omega)]
theorem Nw_new {v : Int} (hv : v ∉ o) : Nw g s (o ++ [v]) v = adr (1 - s) (tot (nsO g o) : Nat) := by
  unfold Nw
  rw [if_pos (by simp), List.idxOf_append, if_neg hv, nsO_app]
  simp only [List.idxOf_cons_self, Nat.zero_add]
  rw [ofs_app (by rw [nsO_len]; exact Nat.le_refl _), ← nsO_len g o, ofs_all]
theorem Nw_at {j : Nat} (hd : o.Nodup) (h : j < o.length) : Nw g s o (o.getD j 0) = adr (1 - s) (ofs (nsO g o) j) := by
  have hm : o.getD j 0 ∈ o := getD_mem 0 h
  unfold Nw
  rw [if_pos hm]
  congr 2
  have e : o.getD j 0 = o[j] := by simp [List.getD, List.getElem?_eq_getElem h]
  rw [e, hd.idxOf_getElem]
/-- What memory holds while a graph is copied: so many copies are gone through, and so many pointers of the next one. -/
structure Fi (g : Gr) (W : Nat) (s : Int) (m : Me) (a : Int) (o : List Int) (k i : Nat) : Prop where
  n : m.n = W
  ok : m.ok
  wf : m.wf
  at_ : a = (tot (nsO g o) : Nat)
  nd : o.Nodup
  sub : ∀ h ∈ o, h ∈ ord g
  hd : ∀ h, inN g h → m.ld (adr s (PoO g h)) = hwd (ndOf g h)
  tw : ∀ h, inN g h → m.ld (adr s (PoO g h + 1 : Nat)) = Nw g s o h
  of : ∀ h, inN g h → ∀ f : Nat, f < (ndOf g h).2.length → m.ld (adr s (PoO g h + 2 + f : Nat)) = fl (Adr s g.1) (ndOf g h) f
  nh : ∀ j, j < o.length → m.ld (adr (1 - s) (ofs (nsO g o) j)) = hwd (ndOf g (o.getD j 0))
  nt : ∀ j, j < o.length → m.ld (adr (1 - s) (ofs (nsO g o) j + 1 : Nat)) = 0
  nf : ∀ j, j < o.length → ∀ f : Nat, f < (ndOf g (o.getD j 0)).2.length → m.ld (adr (1 - s) (ofs (nsO g o) j + 2 + f : Nat)) = fl (if dn (ndOf g (o.getD j 0)) k i j f then Nw g s o else Adr s g.1) (ndOf g (o.getD j 0)) f
  cl : ∀ j, j < o.length → ∀ f : Nat, f < (ndOf g (o.getD j 0)).2.length → dn (ndOf g (o.getD j 0)) k i j f → isP (ndOf g (o.getD j 0)) (f : Int) = true → (ndOf g (o.getD j 0)).2.getD f 0 = 0 ∨ (ndOf g (o.getD j 0)).2.getD f 0 ∈ o
theorem Fi.inn (X : Cx g W s) (F : Fi g W s m a o k i) : ∀ h ∈ o, inN g h := fun h hh => (ord_more X.hn).td.inn h (F.sub h hh)
theorem Fi.fit (X : Cx g W s) (F : Fi g W s m a o k i) : tot (nsO g o) ≤ W := Nat.le_trans (X.fit F.nd (F.inn X)) X.hT
/-- A copy is within the space. -/
theorem Fi.pos (X : Cx g W s) (F : Fi g W s m a o k i) {j : Nat} (h : j < o.length) : ofs (nsO g o) j + szO g (o.getD j 0) ≤ tot (nsO g o) ∧ HdOk (ndOf g (o.getD j 0)).1.1 (ndOf g (o.getD j 0)).1.2.1 (ndOf g (o.getD j 0)).1.2.2 ∧ ((ndOf g (o.getD j 0)).2.length : Int) = (ndOf g (o.getD j 0)).1.2.1 := by
  have h1 := ofs_step (ns := nsO g o) (k := j) (by rw [nsO_len]; exact h)
  have h2 := ofs_tot (ns := nsO g o) (k := j + 1) (by rw [nsO_len]; exact h)
  rw [nsO_get g o h] at h1
  obtain ⟨_, _, h3, h4⟩ := X.at_ (F.inn X _ (getD_mem 0 h))
  exact ⟨by unfold szO; omega, h3, h4⟩
theorem Fi.new_at (X : Cx g W s) (F : Fi g W s m a o k i) {j : Nat} (h : j < o.length) :
    m.kne (adr (1 - s) (ofs (nsO g o) j)) = 0 ∧ m.att (adr (1 - s) (ofs (nsO g o) j)) = (ndOf g (o.getD j 0)).1.1 ∧ m.atl (adr (1 - s) (ofs (nsO g o) j)) = (ndOf g (o.getD j 0)).1.2.1 ∧ m.atm (adr (1 - s) (ofs (nsO g o) j)) = (ndOf g (o.getD j 0)).1.2.2 := by
  obtain ⟨h1, h2, h3⟩ := F.pos X h
  have h4 := F.fit X
  have h5 := F.n
  have h6 := X.hW
  exact ob_at X.s' (by omega) h2 (by unfold szO at h1; omega) (F.nh j h)
theorem Fi.old_at (X : Cx g W s) (F : Fi g W s m a o k i) {h : Int} (hi : inN g h) :
    m.kne (Adr s g.1 h) = 0 ∧ m.atl (Adr s g.1 h) = (ndOf g h).1.2.1 ∧ m.twv (Adr s g.1 h) = Nw g s o h ∧ ovb (1 - s) (Adr s g.1 h) = false ∧ Adr s g.1 h ≠ 0 := by
  obtain ⟨e, h1, h2, h3⟩ := X.at_ hi
  have h5 := F.n
  have h6 := X.hW
  have h7 := X.hT
  unfold szO at h1
  obtain ⟨k1, k2, k3, k4⟩ := ob_at (m := m) X.hs (by omega) h2 (by omega) (F.hd h hi)
  obtain ⟨e1, e2, e3⟩ := adr_is X.hs (show PoO g h < 4294967296 by omega)
  rw [e]
  refine ⟨k1, k3, ?_, ?_, ?_⟩
  · rw [show m.twv (adr s (PoO g h)) = _ from if_pos k1, show adr s (PoO g h) + 1 = adr s (PoO g h + 1 : Nat) from by unfold adr; omega]
    exact F.tw h hi
  · unfold ovb
    rw [e1, decide_eq_false (by have := X.hs; omega)]
    simp
  · have := X.hs
    unfold adr
    omega
theorem Fi.nw_ov (X : Cx g W s) (F : Fi g W s m a o k i) {h : Int} (hh : h ∈ o) : ovb (1 - s) (Nw g s o h) = true ∧ Nw g s o h ≠ 0 ∧ U64 (Nw g s o h) := by
  have hl := List.idxOf_lt_length_of_mem hh
  have h1 := ofs_tot (ns := nsO g o) (k := o.idxOf h) (by rw [nsO_len]; omega)
  have h4 := F.fit X
  have h6 := X.hW
  have h7 := X.s'
  unfold Nw
  rw [if_pos hh]
  obtain ⟨e1, e2, e3⟩ := adr_is h7 (show ofs (nsO g o) (o.idxOf h) < 4294967296 by omega)
  refine ⟨?_, ?_, ?_⟩
  · unfold ovb
    rw [e3, e1]
    simp
  · unfold adr; omega
  · unfold U64 adr; omega
end
end Go.Proofs.YtanhhkdoejnpiaaGreat.G
/- A graph that was put is copied into the other space, plainly: To, Set, Each, and what memory holds behind all. -/
namespace Go.Proofs.YtanhhkdoejnpiaaGreat.G
open Go.Joins Go.ChangeShapes Go.WideShapes Go.ChangeAt Go.RowKit Go.Deep Go.Shelf Go.Maps
set_option linter.unusedVariables false
set_option linter.unusedSimpArgs false

def vi1 (o : List Int) (v : Int) : List Int := if v = 0 ∨ v ∈ o then o else o ++ [v]
theorem adr_x (s : Int) (p x : Nat) : adr s p + (x : Int) = adr s (p + x : Nat) := by unfold adr; omega
section
variable {g : Gr} {W : Nat} {s : Int} {m : Me} {a : Int} {o : List Int} {k i : Nat}
theorem Fi.no0 (X : Cx g W s) (F : Fi g W s m a o k i) : (0 : Int) ∉ o := fun h => no_0 g (F.inn X 0 h)
theorem Nw_0 (X : Cx g W s) (F : Fi g W s m a o k i) : Nw g s o 0 = 0 := Nw_no (F.no0 X)
theorem Adr_0 (g : Gr) (s : Int) : Adr s g.1 0 = 0 := if_neg (by omega)
/-- To of a node's object, or of nothing. -/
theorem Fi.to (X : Cx g W s) (F : Fi g W s m a o k i) (hk : k < o.length ∨ (k = o.length ∧ i = 0)) {v : Int} (hv : v = 0 ∨ v ∈ ord g) :
    (toa m (1 - s) a W (Adr s g.1 v)).e = 0 ∧ Fi g W s (toa m (1 - s) a W (Adr s g.1 v)).m (toa m (1 - s) a W (Adr s g.1 v)).a (vi1 o v) k i ∧ (toa m (1 - s) a W (Adr s g.1 v)).b = Nw g s (vi1 o v) v ∧ ovb (1 - s) (Adr s g.1 v) = false := by
  by_cases h0 : v = 0
  · subst h0
    rw [show vi1 o 0 = o from if_pos (.inl rfl), Adr_0, show toa m (1 - s) a W 0 = ⟨m, a, 0, 0⟩ from if_pos rfl]
    exact ⟨rfl, F, (Nw_0 X F).symm, ovb_0 _⟩
  have hvo := hv.resolve_left h0
  have hin : inN g v := (ord_more X.hn).td.inn v hvo
  obtain ⟨k1, k2, k3, k4, k5⟩ := F.old_at X hin
  by_cases hm : v ∈ o
  · rw [show vi1 o v = o from if_pos (.inr hm)]
    obtain ⟨q1, q2, q3⟩ := F.nw_ov X hm
    have e : toa m (1 - s) a W (Adr s g.1 v) = ⟨m, a, Nw g s o v, 0⟩ := by
      unfold toa
      rw [if_neg k5, if_neg (by simp [k1]), if_neg (by simp [k4]), if_pos (by rw [k3]; exact q2), k3, if_pos q1]
    rw [e]
    exact ⟨rfl, F, rfl, k4⟩
  · rw [show vi1 o v = o ++ [v] from if_neg (fun q => q.elim h0 hm)]
    have hd2 : (o ++ [v]).Nodup := by
      rw [List.nodup_append]
      exact ⟨F.nd, by simp, fun x hx y hy e => hm (by rw [List.mem_singleton] at hy; subst hy; subst e; exact hx)⟩
    have hsub2 : ∀ h ∈ o ++ [v], h ∈ ord g := fun h hh => (List.mem_append.1 hh).elim (F.sub h) (fun q => by rw [List.mem_singleton.1 q]; exact hvo)
    have hfit := Nat.le_trans (X.fit hd2 (fun h hh => (ord_more X.hn).td.inn h (hsub2 h hh))) X.hT
    rw [nsO_app, tot_app] at hfit
    obtain ⟨e0, h1, h2, h3⟩ := X.at_ hin
    have hT := X.hT
    have hW := X.hW
    have hwn : m.wn (Adr s g.1 v) = ((ndOf g v).2.length + 2 : Nat) := by unfold Me.wn; rw [k2, ← h3]; omega
    have hat := F.at_
    have C : Cp m (1 - s) a W (Adr s g.1 v) := ⟨F.ok, F.wf, ⟨X.s', by omega, by omega, by omega⟩, by rw [F.n], k1, k4, by rw [k3, Nw_no hm], by rw [hwn]; omega⟩
    have e : toa m (1 - s) a W (Adr s g.1 v) = ⟨m.cpm (1 - s) a (Adr s g.1 v), a + m.wn (Adr s g.1 v), adr (1 - s) a, 0⟩ := by
      unfold toa
      rw [if_neg k5, if_neg (by simp [k1]), if_neg (by simp [k4]), if_neg (by rw [k3, Nw_no hm]; simp), if_neg (by rw [hwn]; omega)]
    rw [e]
    have hbl : a = ((tot (nsO g o) : Nat) : Int) := hat
    have hs := X.hs
    -- words of the old space
    have lo : ∀ p : Nat, p < 4294967296 → p ≠ PoO g v + 1 → (m.cpm (1 - s) a (Adr s g.1 v)).ld (adr s p) = m.ld (adr s p) := fun p hp hne => by
      obtain ⟨e1, e2, e3⟩ := adr_is hs hp
      refine C.ld (fun q => ?_) (fun q => ?_)
      · have := q.2.1
        rw [e1] at this
        omega
      · rw [e0, show adr s (PoO g v) + 1 = adr s (PoO g v + 1 : Nat) from by unfold adr; omega] at q
        exact adr_ne hne q
    have lt : (m.cpm (1 - s) a (Adr s g.1 v)).ld (adr s (PoO g v + 1 : Nat)) = adr (1 - s) a := by
      have := C.ldt
      rw [e0, show adr s (PoO g v) + 1 = adr s (PoO g v + 1 : Nat) from by unfold adr; omega] at this
      rw [e0]
      exact this
    have ln : ∀ p : Nat, p < tot (nsO g o) → (m.cpm (1 - s) a (Adr s g.1 v)).ld (adr (1 - s) p) = m.ld (adr (1 - s) p) := fun p hp => by
      obtain ⟨e1, e2, e3⟩ := adr_is X.s' (show p < 4294967296 by omega)
      refine C.ld (fun q => ?_) (fun q => ?_)
      · have := q.2.2.1
        rw [e2] at this
        omega
      · rw [e0, show adr s (PoO g v) + 1 = adr s (PoO g v + 1 : Nat) from by unfold adr; omega] at q
        exact adr_sp (by unfold szO at h1; omega) (by omega) q.symm
    have lm : ∀ x : Nat, x < (ndOf g v).2.length + 2 → (m.cpm (1 - s) a (Adr s g.1 v)).ld (adr (1 - s) (tot (nsO g o) + x : Nat)) = m.ld (adr s (PoO g v + x : Nat)) := fun x hx => by
      have := C.ldn (j := (x : Int)) (by omega) (by rw [hwn]; omega)
      rw [hbl, adr_x, ← hbl] at this
      rw [this, e0, adr_x]
    have nsl : ∀ j, j < o.length → ofs (nsO g (o ++ [v])) j = ofs (nsO g o) j := fun j hj => by rw [nsO_app, ofs_app (by rw [nsO_len]; omega)]
    have gl : ∀ j, j < o.length → (o ++ [v]).getD j 0 = o.getD j 0 := fun j hj => by simp [List.getD, List.getElem?_append_left hj]
    have nse : ofs (nsO g (o ++ [v])) o.length = tot (nsO g o) := by rw [nsO_app, ofs_app (by rw [nsO_len]; exact Nat.le_refl _), ← nsO_len g o, ofs_all]
    have ge : (o ++ [v]).getD o.length 0 = v := by simp [List.getD]
    have dne : ∀ nd f, ¬ dn nd k i o.length f := fun nd f q => by
      rcases q with q | ⟨q1, q2⟩
      · omega
      · rcases hk with z | ⟨z1, z2⟩
        · omega
        · subst z2
          simp at q2
    refine ⟨rfl, ⟨by rw [C.n, F.n], C.cok, C.cwf, ?_, hd2, hsub2, fun h hh => ?_, fun h hh => ?_, fun h hh f hf => ?_, fun j hj => ?_, fun j hj => ?_, fun j hj f hf => ?_, fun j hj f hf hd hp => ?_⟩, ?_, k4⟩
    · show a + m.wn (Adr s g.1 v) = _
      rw [hwn, nsO_app, tot_app, hbl]
      omega
    · obtain ⟨e4, h4, h5, h6⟩ := X.at_ hh
      show (m.cpm (1 - s) a (Adr s g.1 v)).ld _ = _
      rw [lo _ (by unfold szO at h4; omega) (fun q => by
        have := X.old_inj hh hin (x := 0) (y := 1) (by unfold szO; omega) (by unfold szO; omega) (by omega)
        omega)]
      exact F.hd h hh
    · obtain ⟨e4, h4, h5, h6⟩ := X.at_ hh
      show (m.cpm (1 - s) a (Adr s g.1 v)).ld _ = _
      by_cases e5 : h = v
      · subst e5
        rw [lt, Nw_new hm, ← hbl]
      · rw [lo _ (by unfold szO at h4; omega) (fun q => e5 (X.old_inj hh hin (x := 1) (y := 1) (by unfold szO; omega) (by unfold szO; omega) (by omega)).1), F.tw h hh]
        by_cases e6 : h ∈ o
        · exact (Nw_app e6).symm
        · rw [Nw_no e6, Nw_no (fun q => (List.mem_append.1 q).elim e6 (fun z => e5 (List.mem_singleton.1 z)))]
    · obtain ⟨e4, h4, h5, h6⟩ := X.at_ hh
      show (m.cpm (1 - s) a (Adr s g.1 v)).ld _ = _
      rw [lo _ (by unfold szO at h4; omega) (fun q => by
        have := X.old_inj hh hin (x := 2 + f) (y := 1) (by unfold szO; omega) (by unfold szO; omega) (by omega)
        omega)]
      exact F.of h hh f hf
    · show (m.cpm (1 - s) a (Adr s g.1 v)).ld _ = _
      by_cases q : j < o.length
      · obtain ⟨p1, p2, p3⟩ := F.pos X q
        rw [nsl j q, gl j q, ln _ (by unfold szO at p1; omega)]
        exact F.nh j q
      · have ej : j = o.length := by rw [List.length_append, List.length_singleton] at hj; omega
        subst ej
        rw [nse, ge]
        have := lm 0 (by omega)
        rw [Nat.add_zero, Nat.add_zero] at this
        rw [this]
        exact F.hd v hin
    · show (m.cpm (1 - s) a (Adr s g.1 v)).ld _ = _
      by_cases q : j < o.length
      · obtain ⟨p1, p2, p3⟩ := F.pos X q
        rw [nsl j q, ln _ (by unfold szO at p1; omega)]
        exact F.nt j q
      · have ej : j = o.length := by rw [List.length_append, List.length_singleton] at hj; omega
        subst ej
        rw [nse, lm 1 (by omega), F.tw v hin]
        exact Nw_no hm
    · show (m.cpm (1 - s) a (Adr s g.1 v)).ld _ = _
      by_cases q : j < o.length
      · obtain ⟨p1, p2, p3⟩ := F.pos X q
        rw [gl j q] at hf ⊢
        rw [nsl j q, ln _ (by unfold szO at p1; omega), F.nf j q f hf]
        unfold fl
        by_cases hp : isP (ndOf g (o.getD j 0)) (f : Int) = true
        · rw [if_pos hp, if_pos hp]
          by_cases hdn : dn (ndOf g (o.getD j 0)) k i j f
          · rw [if_pos hdn, if_pos hdn]
            rcases F.cl j q f hf hdn hp with z | z
            · rw [z, Nw_0 X F]
              exact (Nw_no (fun w => (List.mem_append.1 w).elim (F.no0 X) (fun z => h0 (List.mem_singleton.1 z).symm))).symm
            · exact (Nw_app z).symm
          · rw [if_neg hdn, if_neg hdn]
        · rw [if_neg hp, if_neg hp]
      · have ej : j = o.length := by rw [List.length_append, List.length_singleton] at hj; omega
        subst ej
        rw [ge] at hf ⊢
        have := lm (2 + f) (by omega)
        rw [← Nat.add_assoc, ← Nat.add_assoc] at this
        rw [nse, this, F.of v hin f hf, if_neg (dne _ _)]
    · by_cases q : j < o.length
      · rw [gl j q] at hf hd hp ⊢
        exact (F.cl j q f hf hd hp).imp id (fun z => List.mem_append.2 (.inl z))
      · have ej : j = o.length := by rw [List.length_append, List.length_singleton] at hj; omega
        subst ej
        exact absurd hd (dne _ _)
    · rw [Nw_new hm, ← hbl]
/-! ### Set -/
theorem pix_mem {nd : Nd} {f : Nat} (h : f < nd.2.length) (k : isP nd (f : Int) = true) : f ∈ pix nd := List.mem_filter.2 ⟨List.mem_range.2 h, k⟩
theorem pix_get {nd : Nd} {i : Nat} (h : i < (pix nd).length) : (pix nd).take (i + 1) = (pix nd).take i ++ [(pix nd).getD i 0] := by
  rw [List.take_succ_eq_append_getElem h]
  simp [List.getD, List.getElem?_eq_getElem h]
theorem pix_ok {nd : Nd} {i : Nat} (h : i < (pix nd).length) : (pix nd).getD i 0 < nd.2.length ∧ isP nd ((pix nd).getD i 0 : Nat) = true ∧ (pix nd).getD i 0 ∉ (pix nd).take i := by
  have hm : (pix nd).getD i 0 ∈ pix nd := getD_mem 0 h
  obtain ⟨h1, h2⟩ := List.mem_filter.1 hm
  refine ⟨List.mem_range.1 h1, h2, fun q => ?_⟩
  have hd : (pix nd).Nodup := List.Nodup.sublist List.filter_sublist List.nodup_range
  have e := pix_get h
  have hd2 : ((pix nd).take (i + 1)).Nodup := List.Nodup.sublist (List.take_sublist _ _) hd
  rw [e, List.nodup_append] at hd2
  exact hd2.2.2 _ q _ (by simp) rfl
theorem dn_step {nd : Nd} {k i j f : Nat} (h : i < (pix nd).length) : dn nd k (i + 1) j f ↔ dn nd k i j f ∨ (j = k ∧ f = (pix nd).getD i 0) := by
  unfold dn
  rw [pix_get h, List.mem_append, List.mem_singleton]
  constructor
  · rintro (q | ⟨q1, q2 | q2⟩)
    · exact .inl (.inl q)
    · exact .inl (.inr ⟨q1, q2⟩)
    · exact .inr ⟨q1, q2⟩
  · rintro ((q | ⟨q1, q2⟩) | ⟨q1, q2⟩)
    · exact .inl q
    · exact .inr ⟨q1, .inl q2⟩
    · exact .inr ⟨q1, .inr q2⟩
theorem Fi.set (X : Cx g W s) (F : Fi g W s m a o k i) (hk : k < o.length) (hi : i < (pix (ndOf g (o.getD k 0))).length)
    (hv : (ndOf g (o.getD k 0)).2.getD ((pix (ndOf g (o.getD k 0))).getD i 0) 0 = 0 ∨ (ndOf g (o.getD k 0)).2.getD ((pix (ndOf g (o.getD k 0))).getD i 0) 0 ∈ o) :
    Fi g W s (m.setm (adr (1 - s) (ofs (nsO g o) k)) ((pix (ndOf g (o.getD k 0))).getD i 0 : Nat) (Nw g s o ((ndOf g (o.getD k 0)).2.getD ((pix (ndOf g (o.getD k 0))).getD i 0) 0))) a o k (i + 1)
      ∧ m.fok (adr (1 - s) (ofs (nsO g o) k)) ((pix (ndOf g (o.getD k 0))).getD i 0 : Nat) := by
  obtain ⟨n1, n2, n3, n4⟩ := F.new_at X hk
  obtain ⟨p1, p2, p3⟩ := F.pos X hk
  obtain ⟨f1, f2, f3⟩ := pix_ok hi
  have hT := F.fit X
  have hW := X.hW
  have hn := F.n
  have hfk : m.fok (adr (1 - s) (ofs (nsO g o) k)) ((pix (ndOf g (o.getD k 0))).getD i 0 : Nat) := ob_fok n1 n3 (by omega)
  refine ⟨?_, hfk⟩
  have hdk := fun j (hj : j < o.length) f => dn_step (k := k) (j := j) (f := f) hi
  obtain ⟨nd, hnd⟩ : ∃ nd, ndOf g (o.getD k 0) = nd := ⟨_, rfl⟩
  have hU : U64 (Nw g s o (nd.2.getD ((pix nd).getD i 0) 0)) := by
    rw [hnd] at hv
    rcases hv with q | q
    · rw [q, Nw_0 X F]; exact u64_0
    · exact (F.nw_ov X q).2.2
  rw [show m.setm (adr (1 - s) (ofs (nsO g o) k)) ((pix (ndOf g (o.getD k 0))).getD i 0 : Nat) (Nw g s o ((ndOf g (o.getD k 0)).2.getD ((pix (ndOf g (o.getD k 0))).getD i 0) 0)) = _ from if_pos hfk]
  unfold szO at p1
  rw [hnd] at hfk p1 p2 p3 f1 f2 f3 hv hi ⊢
  obtain ⟨f, hf⟩ : ∃ f, (pix nd).getD i 0 = f := ⟨_, rfl⟩
  rw [hf] at hfk f1 f2 f3 hv hU ⊢
  obtain ⟨b, hb⟩ : ∃ b, Nw g s o (nd.2.getD f 0) = b := ⟨_, rfl⟩
  rw [hb] at hU ⊢
  rw [show adr (1 - s) (ofs (nsO g o) k) + 2 + (f : Int) = adr (1 - s) (ofs (nsO g o) k + 2 + f : Nat) from by unfold adr; omega]
  have hth : m.there (adr (1 - s) (ofs (nsO g o) k + 2 + f : Nat)) := by
    obtain ⟨e1, e2, e3⟩ := adr_is X.s' (show ofs (nsO g o) k + 2 + f < 4294967296 by omega)
    exact ⟨e3, by rw [e2]; omega⟩
  have lo : ∀ p : Nat, p < 4294967296 → (m.st (adr (1 - s) (ofs (nsO g o) k + 2 + f : Nat)) b).ld (adr s p) = m.ld (adr s p) := fun p hp => st_other (fun e => adr_sp hp (by omega) e.symm)
  have ln : ∀ p : Nat, p ≠ ofs (nsO g o) k + 2 + f → (m.st (adr (1 - s) (ofs (nsO g o) k + 2 + f : Nat)) b).ld (adr (1 - s) p) = m.ld (adr (1 - s) p) := fun p hp => st_other (fun e => adr_ne (fun q => hp q.symm) e)
  have lt := st_ld (v := b) F.ok hth
  have szl : ∀ j, j < o.length → ∀ x y : Nat, x < (ndOf g (o.getD j 0)).2.length + 2 → y < nd.2.length + 2 → ofs (nsO g o) j + x = ofs (nsO g o) k + y → j = k ∧ x = y := fun j hj x y hx hy e => by
    refine iv_inj (ns := nsO g o) (by rw [nsO_len]; exact hj) (by rw [nsO_len]; exact hk) ?_ ?_ e
    · rw [nsO_get g o hj]; exact hx
    · rw [nsO_get g o hk, hnd]; exact hy
  have dq : ∀ j, j < o.length → ∀ f', (dn (ndOf g (o.getD j 0)) k (i + 1) j f' ↔ dn (ndOf g (o.getD j 0)) k i j f' ∨ (j = k ∧ f' = f)) := fun j hj f' => by
    by_cases e : j = k
    · subst e
      rw [hnd]
      have := dn_step (k := j) (j := j) (f := f') hi
      rw [hf] at this
      exact this
    · unfold dn
      constructor
      · rintro (q | ⟨q1, q2⟩)
        · exact .inl (.inl q)
        · exact absurd q1 e
      · rintro ((q | ⟨q1, q2⟩) | ⟨q1, q2⟩)
        · exact .inl q
        · exact absurd q1 e
        · exact absurd q1 e
  have hTW := X.hT
  refine ⟨by rw [Me.st_n, F.n], Me.ok.st F.ok _ _, F.wf.st hU _, F.at_, F.nd, F.sub, fun h hh => ?_, fun h hh => ?_, fun h hh f' hf' => ?_, fun j hj => ?_, fun j hj => ?_, fun j hj f' hf' => ?_, fun j hj f' hf' hd hp => ?_⟩
  · obtain ⟨e4, h4, h5, h6⟩ := X.at_ hh
    rw [lo _ (by unfold szO at h4; omega)]; exact F.hd h hh
  · obtain ⟨e4, h4, h5, h6⟩ := X.at_ hh
    rw [lo _ (by unfold szO at h4; omega)]; exact F.tw h hh
  · obtain ⟨e4, h4, h5, h6⟩ := X.at_ hh
    rw [lo _ (by unfold szO at h4; omega)]; exact F.of h hh f' hf'
  · rw [ln _ (fun q => by
      have := szl j hj 0 (2 + f) (by omega) (by omega) (by omega)
      omega)]
    exact F.nh j hj
  · rw [ln _ (fun q => by
      have := szl j hj 1 (2 + f) (by omega) (by omega) (by omega)
      omega)]
    exact F.nt j hj
  · by_cases q : j = k ∧ f' = f
    · obtain ⟨rfl, rfl⟩ := q
      rw [lt, if_pos ((dq j hj f').2 (.inr ⟨rfl, rfl⟩)), hnd]
      unfold fl
      rw [if_pos f2, hb]
    · rw [ln _ (fun z => q (by
        have := szl j hj (2 + f') (2 + f) (by omega) (by omega) (by omega)
        exact ⟨this.1, by omega⟩)), F.nf j hj f' hf']
      congr 1
      by_cases z : dn (ndOf g (o.getD j 0)) k i j f'
      · rw [if_pos z, if_pos ((dq j hj f').2 (.inl z))]
      · rw [if_neg z, if_neg (fun w => ((dq j hj f').1 w).elim z q)]
  · rcases (dq j hj f').1 hd with z | ⟨rfl, rfl⟩
    · exact F.cl j hj f' hf' z hp
    · rw [hnd]; exact hv
/-- A copy is gone through. -/
theorem Fi.next (F : Fi g W s m a o k i) (hk : k < o.length) (hi : i = (pix (ndOf g (o.getD k 0))).length) : Fi g W s m a o (k + 1) 0 := by
  have dq : ∀ j, j < o.length → ∀ f, f < (ndOf g (o.getD j 0)).2.length → isP (ndOf g (o.getD j 0)) (f : Int) = true → (dn (ndOf g (o.getD j 0)) (k + 1) 0 j f ↔ dn (ndOf g (o.getD j 0)) k i j f) := fun j hj f hf hp => by
    unfold dn
    constructor
    · rintro (q | ⟨q1, q2⟩)
      · rcases Nat.lt_or_ge j k with z | z
        · exact .inl z
        · have e : j = k := by omega
          subst e
          exact .inr ⟨rfl, by rw [hi, List.take_of_length_le (Nat.le_refl _)]; exact pix_mem hf hp⟩
      · simp at q2
    · rintro (q | ⟨q1, q2⟩)
      · exact .inl (by omega)
      · exact .inl (by omega)
  refine ⟨F.n, F.ok, F.wf, F.at_, F.nd, F.sub, F.hd, F.tw, F.of, F.nh, F.nt, fun j hj f hf => ?_, fun j hj f hf hd hp => F.cl j hj f hf ((dq j hj f hf hp).1 hd) hp⟩
  rw [F.nf j hj f hf]
  unfold fl
  by_cases hp : isP (ndOf g (o.getD j 0)) (f : Int) = true
  · rw [if_pos hp, if_pos hp]
    by_cases z : dn (ndOf g (o.getD j 0)) k i j f
    · rw [if_pos z, if_pos ((dq j hj f hf hp).2 z)]
    · rw [if_neg z, if_neg (fun w => z ((dq j hj f hf hp).1 w))]
  · rw [if_neg hp, if_neg hp]
/-! ### Each -/
theorem Nw_pre {o o' : List Int} {v : Int} (h : o <+: o') (hv : v ∈ o) : Nw g s o' v = Nw g s o v := by
  obtain ⟨t, rfl⟩ := h
  have hl := List.idxOf_lt_length_of_mem hv
  unfold Nw
  rw [if_pos hv, if_pos (List.mem_append.2 (.inl hv)), List.idxOf_append, if_pos hv, show nsO g (o ++ t) = nsO g o ++ nsO g t from by simp [nsO], ofs_app (by rw [nsO_len]; omega)]
theorem vi1_pre (o : List Int) (v : Int) : o <+: vi1 o v := by
  unfold vi1
  split
  · exact List.prefix_refl _
  · exact ⟨[v], rfl⟩
theorem vi1_in (o : List Int) (v : Int) : v = 0 ∨ v ∈ vi1 o v := by
  unfold vi1
  split
  · rename_i h; exact h
  · exact .inr (by simp)
theorem vi1_self {o : List Int} {v : Int} (h : v = 0 ∨ v ∈ o) : vi1 o v = o := if_pos h
theorem Fi.each (X : Cx g W s) : ∀ (vs : List Int) (m : Me) (a : Int) (o : List Int), Fi g W s m a o k 0 → k ≤ o.length → (∀ v ∈ vs, v = 0 ∨ v ∈ ord g) →
    (eac (1 - s) W (vs.map (Adr s g.1)) m a).e = 0 ∧ (∀ A ∈ vs.map (Adr s g.1), ovb (1 - s) A = false) ∧ ∃ o', o <+: o' ∧ Fi g W s (eac (1 - s) W (vs.map (Adr s g.1)) m a).m (eac (1 - s) W (vs.map (Adr s g.1)) m a).a o' k 0 ∧ (∀ v ∈ vs, v = 0 ∨ v ∈ o') ∧ (eac (1 - s) W (vs.map (Adr s g.1)) m a).ts = vs.map (Nw g s o')
      ∧ ((∀ v ∈ vs, v = 0 ∨ v ∈ o) → (eac (1 - s) W (vs.map (Adr s g.1)) m a).m = m ∧ (eac (1 - s) W (vs.map (Adr s g.1)) m a).a = a ∧ o' = o)
  | [], m, a, o, F, hk, _ => ⟨rfl, fun A h => (by cases h), o, List.prefix_refl _, F, fun v h => (by cases h), rfl, fun _ => ⟨rfl, rfl, rfl⟩⟩
  | v :: vs, m, a, o, F, hk, hv => by
    obtain ⟨t1, t2, t3, t4⟩ := F.to X (by omega) (hv v (by simp))
    have hp := vi1_pre o v
    obtain ⟨r1, r2, o', r3, r4, r5, r6, r7⟩ := Fi.each X vs _ _ _ t2 (Nat.le_trans hk hp.length_le) (fun x hx => hv x (by simp [hx]))
    have hvi := vi1_in o v
    have hv' : v = 0 ∨ v ∈ o' := hvi.imp id (fun q => r3.subset q)
    simp only [List.map_cons]
    unfold eac
    rw [if_pos t1]
    refine ⟨r1, fun A hA => ?_, o', hp.trans r3, r4, fun x hx => ?_, ?_, fun hq => ?_⟩
    · rcases List.mem_cons.1 hA with rfl | q
      · exact t4
      · exact r2 A q
    · rcases List.mem_cons.1 hx with rfl | q
      · exact hv'
      · exact r5 x q
    · show _ :: _ = _ :: _
      rw [r6, t3]
      congr 1
      rcases hvi with q | q
      · subst q
        rw [Nw_0 X t2, Nw_0 X r4]
      · exact (Nw_pre r3 q).symm
    · have e := vi1_self (hq v (by simp))
      obtain ⟨z1, z2, z3⟩ := r7 (fun x hx => by rw [e]; exact hq x (by simp [hx]))
      rw [e] at z3
      have hto : (toa m (1 - s) a W (Adr s g.1 v)).m = m ∧ (toa m (1 - s) a W (Adr s g.1 v)).a = a := by
        rcases hq v (by simp) with q | q
        · subst q
          rw [Adr_0, show toa m (1 - s) a W 0 = ⟨m, a, 0, 0⟩ from if_pos rfl]
          exact ⟨rfl, rfl⟩
        · obtain ⟨k1, k2, k3, k4, k5⟩ := F.old_at X (F.inn X v q)
          obtain ⟨q1, q2, q3⟩ := F.nw_ov X q
          have e : toa m (1 - s) a W (Adr s g.1 v) = ⟨m, a, Nw g s o v, 0⟩ := by
            unfold toa
            rw [if_neg k5, if_neg (by simp [k1]), if_neg (by simp [k4]), if_pos (by rw [k3]; exact q2), k3, if_pos q1]
          rw [e]
          exact ⟨rfl, rfl⟩
      exact ⟨z1.trans hto.1, z2.trans hto.2, z3⟩
end
end Go.Proofs.YtanhhkdoejnpiaaGreat.G
/- A graph that was put is copied into the other space, plainly: the beginning, and what the new space holds. -/
namespace Go.Proofs.YtanhhkdoejnpiaaGreat.G
open Go.Joins Go.ChangeShapes Go.WideShapes Go.ChangeAt Go.RowKit Go.Deep Go.Shelf Go.Maps
set_option linter.unusedVariables false
set_option linter.unusedSimpArgs false

/-! ### A space that is cleared -/
theorem clr_n (m : Me) (t : Int) : (m.clr t).n = m.n := by unfold Me.clr; split; exact Me.put_n _ _ _; rfl
theorem clr_ok {m : Me} (h : m.ok) (t : Int) : (m.clr t).ok := by
  unfold Me.clr
  split
  · exact Me.ok.put h _ (by simp [zers])
  · exact h
theorem clr_wf {m : Me} (h : m.wf) (t : Int) : (m.clr t).wf := by
  have hz : ∀ x ∈ zers m.n, U64 x := fun x hx => by
    rw [List.eq_of_mem_replicate hx]
    exact u64_0
  unfold Me.clr
  split
  · unfold Me.put
    split
    · exact ⟨h.1, hz⟩
    · exact ⟨hz, h.2⟩
  · exact h
theorem clr_ld (m : Me) {s : Int} (hs : s = 0 ∨ s = 1) {p : Nat} (hp : p < 4294967296) : (m.clr (1 - s)).ld (adr s p) = m.ld (adr s p) := by
  obtain ⟨e1, e2, e3⟩ := adr_is hs hp
  by_cases ht : m.there (adr s p)
  · rw [show (m.clr (1 - s)).ld (adr s p) = _ from if_pos ((there_n (clr_n _ _) _).2 ht), show m.ld (adr s p) = _ from if_pos ht, e1]
    rw [show m.clr (1 - s) = m.put (1 - s) (zers m.n) from if_pos (by omega), Me.sp_put_ne m (by omega) hs (by omega)]
  · rw [show (m.clr (1 - s)).ld (adr s p) = _ from if_neg (fun k => ht ((there_n (clr_n _ _) _).1 k)), show m.ld (adr s p) = _ from if_neg ht]
theorem lay_tw {A : Int → Int} {ns : List Nd} {k : Nat} (h : k < ns.length) (zs : List Int) : (lay A ns ++ zs).getD (ofs ns k + 1) 0 = 0 := by
  have e := lay_split (A := A) h
  have hl : (lay A (ns.take k)).length = ofs ns k := lay_len A _
  rw [e, List.append_assoc, ← hl, getD_app2, List.append_assoc, getD_app (by rw [ndw_len]; omega)]
  rfl
section
variable {g : Gr} {W : Nat} {s : Int} {m m' : Me} {a : Int} {o : List Int} {k i : Nat}
theorem Fi.start (X : Cx g W s) (hwf : (putG g W s).wf) : Fi g W s ((putG g W s).clr (1 - s)) 0 [] 0 0 := by
  have hW := X.hW
  have hT := X.hT
  have hlen : (lay (Adr s g.1) g.1 ++ zers (W - tot g.1)).length = W := by
    rw [List.length_append, lay_len]
    simp [zers]
    omega
  have hok : (putG g W s).ok := mk_ok X.h16 hW hlen
  have ld : ∀ p : Nat, p < W → ((putG g W s).clr (1 - s)).ld (adr s p) = (lay (Adr s g.1) g.1 ++ zers (W - tot g.1)).getD p 0 := fun p hp => by
    rw [clr_ld _ X.hs (by omega)]
    exact mk_ld X.hs hp hW
  have nn : ∀ h, Nw g s [] h = 0 := fun h => Nw_no (by simp)
  refine ⟨by rw [clr_n]; exact mk_n _ _ _, clr_ok hok _, clr_wf hwf _, rfl, List.nodup_nil, fun h hh => (by cases hh), fun h hh => ?_, fun h hh => ?_, fun h hh f hf => ?_, fun j hj => absurd hj (Nat.not_lt_zero _), fun j hj => absurd hj (Nat.not_lt_zero _), fun j hj => absurd hj (Nat.not_lt_zero _), fun j hj => absurd hj (Nat.not_lt_zero _)⟩
  all_goals
    obtain ⟨e, h1, h2, h3⟩ := X.at_ hh
    obtain ⟨hk, hnd⟩ := ndOf_in hh
    unfold szO at h1
  · rw [ld _ (by omega), (lay_at (A := Adr s g.1) hk _).1, ← hnd]
  · rw [ld _ (by omega), lay_tw hk, nn]
  · rw [ld _ (by omega), (lay_at (A := Adr s g.1) hk _).2 f (by rw [← hnd]; exact hf), ← hnd]
    exact fl_mp _ _ hf
theorem idx_get {o : List Int} {h : Int} (k : h ∈ o) : o.getD (o.idxOf h) 0 = h := by
  have := (pl_in k).2.2
  unfold pl at this
  rw [if_pos k] at this
  rw [show ((o.idxOf h : Int) + 1).toNat - 1 = o.idxOf h from by omega] at this
  exact this
/-- The new space holds the graph. -/
theorem Fi.hold (X : Cx g W s) (F : Fi g W s m a o o.length 0) (hn : m'.n = W) (hl : ∀ p : Nat, p < 4294967296 → m'.ld (adr (1 - s) p) = m.ld (adr (1 - s) p)) : Hold m' g (Nw g s o) (· ∈ o) := by
  have hW := X.hW
  have hT := F.fit X
  have hat : ∀ h, h ∈ o → Nw g s o h = adr (1 - s) (ofs (nsO g o) (o.idxOf h)) ∧ o.idxOf h < o.length := fun h hh => ⟨if_pos hh, List.idxOf_lt_length_of_mem hh⟩
  have hob : ∀ h, h ∈ o → m'.kne (Nw g s o h) = 0 ∧ m'.att (Nw g s o h) = (ndOf g h).1.1 ∧ m'.atl (Nw g s o h) = (ndOf g h).1.2.1 ∧ m'.atm (Nw g s o h) = (ndOf g h).1.2.2 ∧ ofs (nsO g o) (o.idxOf h) + szO g h ≤ W ∧ ((ndOf g h).2.length : Int) = (ndOf g h).1.2.1 := fun h hh => by
    obtain ⟨e, hj⟩ := hat h hh
    obtain ⟨p1, p2, p3⟩ := F.pos X hj
    have h1 := F.nh _ hj
    rw [idx_get hh] at p1 p2 p3 h1
    unfold szO at p1 ⊢
    rw [e]
    obtain ⟨q1, q2, q3, q4⟩ := ob_at (m := m') (p := ofs (nsO g o) (o.idxOf h)) X.s' (by omega) p2 (by omega) (by rw [hl _ (by omega)]; exact h1)
    exact ⟨q1, q2, q3, q4, by omega, p3⟩
  refine ⟨Nw_0 X F, F.inn X, fun x y hx hy e => ?_, fun h hh => decide_eq_true (hob h hh).1, fun h hh v hv => ?_, fun h hh => ?_⟩
  · obtain ⟨e1, j1⟩ := hat x hx
    obtain ⟨e2, j2⟩ := hat y hy
    rw [e1, e2] at e
    have e3 : ofs (nsO g o) (o.idxOf x) = ofs (nsO g o) (o.idxOf y) := by unfold adr at e; omega
    have := (iv_inj (ns := nsO g o) (x := 0) (y := 0) (by rw [nsO_len]; exact j1) (by rw [nsO_len]; exact j2) (by omega) (by omega) (by omega)).1
    rw [← idx_get hx, this, idx_get hy]
  · obtain ⟨f, hf, hp, rfl⟩ := ptrs_mem hv
    obtain ⟨e, hj⟩ := hat h hh
    have := F.cl _ hj f
    rw [idx_get hh] at this
    exact this hf (.inl hj) hp
  · obtain ⟨q1, q2, q3, q4, q5, q6⟩ := hob h hh
    obtain ⟨e, hj⟩ := hat h hh
    unfold szO at q5
    unfold ndm
    rw [q2, q3, q4]
    refine Prod.ext rfl ?_
    show (List.range (ndOf g h).1.2.1.toNat).map _ = _
    rw [show (ndOf g h).1.2.1.toNat = (ndOf g h).2.length from by omega]
    refine List.map_congr_left fun f hf => ?_
    have hf' := List.mem_range.1 hf
    rw [show m'.getv (Nw g s o h) f = _ from if_pos (ob_fok q1 q3 (by omega)), e, show adr (1 - s) (ofs (nsO g o) (o.idxOf h)) + 2 + (f : Int) = adr (1 - s) (ofs (nsO g o) (o.idxOf h) + 2 + f : Nat) from by unfold adr; omega, hl _ (by omega)]
    have := F.nf _ hj f
    rw [idx_get hh] at this
    rw [this hf', if_pos (.inl hj)]
    rfl
/-! ### Words -/
theorem ows_hold {A : Int → Int} {S : Int → Prop} (H : Hold m g A S) : ∀ hs : List Int, (∀ h ∈ hs, S h) → m.ows (hs.map A) = ((hs.map (szO g)).sum : Nat)
  | [], _ => rfl
  | h :: r, hh => by
    have h1 := H.re h (hh h (by simp))
    have h2 := H.nd h (hh h (by simp))
    have h3 := ows_hold H r (fun x hx => hh x (by simp [hx]))
    have hk := kne_0.1 (of_decide_eq_true h1)
    have hl := ndm_len h1
    rw [h2, mp_len] at hl
    show m.ow (A h) + m.ows (r.map A) = _
    rw [h3, show m.ow (A h) = m.wsz (A h) from if_pos ⟨ate_0.2 hk.1, hk.2⟩]
    have : m.wsz (A h) = ((ndOf g h).2.length : Int) + 2 := by
      unfold Me.wsz wdn
      rw [if_neg hk.2, hl]
    rw [this]
    simp only [List.map_cons, List.sum_cons]
    unfold szO
    omega
/-- As many words are copied as are reached. -/
theorem Fi.sum (X : Cx g W s) (F : Fi g W s m a o o.length 0) (hr : ∀ v ∈ g.2.flatten, v = 0 ∨ v ∈ o) : tot (nsO g o) = ((ord g).map (szO g)).sum := by
  have H := F.hold X F.n (fun _ _ => rfl)
  have h2 := (H.rch X.hn g.2.flatten hr).2
  have hp : o.Perm (ord g) := (List.perm_ext_iff_of_nodup F.nd (ord_more X.hn).td.nd).2 fun x => ⟨F.sub x, h2 x⟩
  rw [tot_O]
  exact (hp.map _).sum_nat
end
end Go.Proofs.YtanhhkdoejnpiaaGreat.G

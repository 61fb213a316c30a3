/- What a graph's nodes are in memory, plainly: one behind the other; memory that they were put into holds the graph. -/
import Derived.Test.YtanhhkdoejnpiaaGreatVa
namespace Go.Proofs.YtanhhkdoejnpiaaGreat.G
open Go.Joins Go.ChangeShapes Go.WideShapes Go.ChangeAt Go.RowKit Go.Deep Go.Shelf Go.Maps
set_option linter.unusedVariables false
set_option linter.unusedSimpArgs false

/-! ### Memory with words in one space alone -/
def mk (W : Nat) (s : Int) (row : List Int) : Me := (⟨W, zers W, zers W⟩ : Me).put s row
theorem leads_adr {s : Int} {p : Nat} (hs : s = 0 ∨ s = 1) (hp : p < 4294967296) : Leads (adr s p) s p := ⟨hs, by omega, by omega, rfl⟩
theorem adr_is {s : Int} {p : Nat} (hs : s = 0 ∨ s = 1) (hp : p < 4294967296) : whs (adr s p) = s ∧ whp (adr s p) = p ∧ whb (adr s p) = true := (leads_adr hs hp).is
theorem mk_n (W : Nat) (s : Int) (row : List Int) : (mk W s row).n = W := by unfold mk Me.put; split <;> rfl
theorem mk_sp (W : Nat) {s : Int} (hs : s = 0 ∨ s = 1) (row : List Int) : (mk W s row).sp s = row := Me.sp_put _ hs _
theorem mk_ok {W : Nat} {s : Int} {row : List Int} (h0 : 16 ≤ W) (h1 : W ≤ 4096) (hl : row.length = W) : (mk W s row).ok := by
  unfold mk Me.put Me.ok
  split <;> simp [zers, h0, h1, hl]
theorem mk_wf {W : Nat} {s : Int} {row : List Int} (h : ∀ x ∈ row, U64 x) : (mk W s row).wf := by
  have hz : ∀ x ∈ zers W, U64 x := fun x hx => by
    rw [List.eq_of_mem_replicate hx]
    exact u64_0
  unfold mk Me.put Me.wf
  split
  · exact ⟨hz, h⟩
  · exact ⟨h, hz⟩
theorem mk_there {W : Nat} {s : Int} {row : List Int} {p : Nat} (hs : s = 0 ∨ s = 1) (hp : p < W) (hW : W ≤ 4096) : (mk W s row).there (adr s p) := by
  obtain ⟨_, e2, e3⟩ := adr_is hs (show p < 4294967296 by omega)
  exact ⟨e3, by rw [e2, mk_n]; omega⟩
theorem mk_ld {W : Nat} {s : Int} {row : List Int} {p : Nat} (hs : s = 0 ∨ s = 1) (hp : p < W) (hW : W ≤ 4096) : (mk W s row).ld (adr s p) = row.getD p 0 := by
  obtain ⟨e1, e2, e3⟩ := adr_is hs (show p < 4294967296 by omega)
  rw [show (mk W s row).ld (adr s p) = _ from if_pos (mk_there hs hp hW), e1, e2, mk_sp W hs, Int.toNat_natCast]
theorem mk_st {W : Nat} {s : Int} {row : List Int} {p : Nat} (hs : s = 0 ∨ s = 1) (hp : p < W) (hW : W ≤ 4096) (v : Int) : (mk W s row).st (adr s p) v = mk W s (row.set p v) := by
  obtain ⟨e1, e2, e3⟩ := adr_is hs (show p < 4294967296 by omega)
  rw [show (mk W s row).st (adr s p) v = _ from if_pos (mk_there hs hp hW), e1, e2, mk_sp W hs, Int.toNat_natCast]
  exact Me.put_put _ hs _ _
theorem adr_add (s : Int) (p j : Nat) : adr s p + (j : Int) = adr s (p + j : Nat) := by unfold adr; omega
theorem zs_same {m : Me} (hm : m.ok) (a : Int) : ∀ k : Nat, (∀ j : Nat, j < k → m.there (a + (j + 1)) ∧ m.ld (a + (j + 1)) = 0) → m.zs a k = m
  | 0, _ => rfl
  | k + 1, h => by
    show (m.zs a k).st (a + (k + 1)) 0 = m
    rw [zs_same hm a k (fun j hj => h j (by omega))]
    exact st_same hm (h k (by omega)).1 (h k (by omega)).2

/-! ### Objects in it -/
/-- A head that is one of an object. -/
structure HdOk (t l mp : Int) : Prop where
  r : rte t l mp = 0
  f : t ≠ 255
  m : 0 ≤ mp
theorem HdOk.len {t l mp : Int} (h : HdOk t l mp) : 0 ≤ l ∧ l ≤ 16 ∧ mp ≤ 65535 ∧ wdn t l = l + 2 := by
  obtain ⟨a1, a2, a3, a4, a5, a6⟩ := rte_small h.m h.r
  refine ⟨a3, ?_, by omega, if_neg h.f⟩
  rcases a6 with q | q
  · exact q.2.2.1
  · exact absurd q.1 h.f
theorem mk_at {W : Nat} {s : Int} {row : List Int} {p : Nat} {t l mp : Int} (hs : s = 0 ∨ s = 1) (hW : W ≤ 4096) (hh : HdOk t l mp) (hp : (p : Int) + (l + 2) ≤ W) (hr : row.getD p 0 = wrd t l mp) :
    (mk W s row).real (adr s p) = true ∧ (mk W s row).kne (adr s p) = 0 ∧ (mk W s row).att (adr s p) = t ∧ (mk W s row).atl (adr s p) = l ∧ (mk W s row).atm (adr s p) = mp := by
  obtain ⟨l0, l1, l2, l3⟩ := hh.len
  have hp' : p < W := by omega
  obtain ⟨e1, e2, e3⟩ := adr_is hs (show p < 4294967296 by omega)
  have hl := (mk_ld (row := row) hs hp' hW).trans hr
  obtain ⟨w1, w2, w3, w4⟩ := wrd_parts hh.m hh.r
  have hk : (mk W s row).atok (adr s p) := by
    refine ⟨mk_there hs hp' hW, ?_, ?_⟩
    · rw [hl]; unfold tkb; rw [w1, w2, w3]; exact hh.r
    · rw [hl, w1, w2, l3]; exact ⟨e3, by rw [e2, mk_n]; exact hp⟩
  obtain ⟨q1, q2, q3⟩ := at_of hk
  rw [hl, w1] at q1; rw [hl, w2] at q2; rw [hl, w3] at q3
  have hkn : (mk W s row).kne (adr s p) = 0 := kne_0.2 ⟨hk, by rw [q1]; exact hh.f⟩
  exact ⟨decide_eq_true hkn, hkn, q1, q2, q3⟩
theorem mk_fok {W : Nat} {s : Int} {row : List Int} {p : Nat} {t l mp : Int} (hs : s = 0 ∨ s = 1) (hW : W ≤ 4096) (hh : HdOk t l mp) (hp : (p : Int) + (l + 2) ≤ W) (hr : row.getD p 0 = wrd t l mp) {i : Nat} (hi : (i : Int) < l) : (mk W s row).fok (adr s p) i := by
  obtain ⟨_, h2, _, h4, _⟩ := mk_at (row := row) hs hW hh hp hr
  exact ⟨h2, by unfold hasb; rw [h4]; exact decide_eq_true ⟨by omega, hi⟩⟩
theorem mk_getv {W : Nat} {s : Int} {row : List Int} {p : Nat} {t l mp : Int} (hs : s = 0 ∨ s = 1) (hW : W ≤ 4096) (hh : HdOk t l mp) (hp : (p : Int) + (l + 2) ≤ W) (hr : row.getD p 0 = wrd t l mp) {i : Nat} (hi : (i : Int) < l) : (mk W s row).getv (adr s p) i = row.getD (p + 2 + i) 0 := by
  rw [show (mk W s row).getv (adr s p) i = _ from if_pos (mk_fok hs hW hh hp hr hi), show adr s p + 2 + (i : Int) = adr s (p + 2 + i : Nat) from by unfold adr; omega]
  exact mk_ld hs (by omega) hW
theorem mk_setm {W : Nat} {s : Int} {row : List Int} {p : Nat} {t l mp : Int} (hs : s = 0 ∨ s = 1) (hW : W ≤ 4096) (hh : HdOk t l mp) (hp : (p : Int) + (l + 2) ≤ W) (hr : row.getD p 0 = wrd t l mp) {i : Nat} (hi : (i : Int) < l) (v : Int) : (mk W s row).setm (adr s p) i v = mk W s (row.set (p + 2 + i) v) := by
  rw [show (mk W s row).setm (adr s p) i v = _ from if_pos (mk_fok hs hW hh hp hr hi), show adr s p + 2 + (i : Int) = adr s (p + 2 + i : Nat) from by unfold adr; omega]
  exact mk_st hs (by omega) hW v
theorem getD_app {xs ys : List Int} {k : Nat} (h : k < xs.length) : (xs ++ ys).getD k 0 = xs.getD k 0 := by
  simp [List.getD, List.getElem?_append_left h]
theorem getD_app2 (xs ys : List Int) (k : Nat) : (xs ++ ys).getD (xs.length + k) 0 = ys.getD k 0 := by
  simp [List.getD, List.getElem?_append_right]
theorem set_app (xs ys : List Int) (x v : Int) {k : Nat} (h : xs.length = k) : (xs ++ x :: ys).set k v = xs ++ v :: ys := by
  subst h
  simp [List.set_append_right]
theorem zers_succ (k : Nat) : zers (k + 1) = 0 :: zers k := List.replicate_succ
theorem zers_add (a b : Nat) : zers (a + b) = zers a ++ zers b := by unfold zers; rw [List.replicate_append_replicate]
theorem zers_get (k j : Nat) : (zers k).getD j 0 = 0 := by
  simp only [zers, List.getD, List.getElem?_replicate]
  split <;> rfl
/-- An object is put where all is 0. -/
theorem mk_putm {W : Nat} {s : Int} {pre : List Int} {p k : Nat} {t l mp : Int} (hs : s = 0 ∨ s = 1) (h16 : 16 ≤ W) (hW : W ≤ 4096) (hh : HdOk t l mp) (hp : (p : Int) + (l + 2) ≤ W) (hl : pre.length = p) (hk : p + k = W) :
    (mk W s (pre ++ zers k)).putm (adr s p) t l mp = mk W s (pre ++ wrd t l mp :: zers (k - 1)) := by
  obtain ⟨l0, l1, l2, l3⟩ := hh.len
  obtain ⟨e1, e2, e3⟩ := adr_is hs (show p < 4294967296 by omega)
  have hpo : (mk W s (pre ++ zers k)).pok (adr s p) t l mp := ⟨hh.r, by rw [l3]; exact ⟨e3, by rw [e2, mk_n]; exact hp⟩⟩
  rw [show (mk W s (pre ++ zers k)).putm (adr s p) t l mp = _ from if_pos hpo, mk_st hs (by omega) hW]
  obtain ⟨k, rfl⟩ : ∃ j, k = j + 1 := ⟨k - 1, by omega⟩
  rw [zers_succ, set_app _ _ _ _ hl, Nat.add_sub_cancel]
  have hlen : (pre ++ wrd t l mp :: zers k).length = W := by simp [zers]; omega
  refine (show (mk W s _).blk _ t l = _ from if_neg hh.f).trans (zs_same (mk_ok h16 hW hlen) _ _ fun j hj => ?_)
  rw [show adr s p + ((j : Int) + 1) = adr s (p + 1 + j : Nat) from by unfold adr; omega]
  refine ⟨mk_there hs (by omega) hW, ?_⟩
  rw [mk_ld hs (by omega) hW, show p + 1 + j = pre.length + (j + 1) from by omega, getD_app2]
  show (zers k).getD j 0 = 0
  exact zers_get k j

/-! ### Where nodes go -/
abbrev ndN : Nd := ((0, 0, 0), [])
def ofs (ns : List Nd) (k : Nat) : Nat := ((ns.take k).map fun n => n.2.length + 2).sum
def tot (ns : List Nd) : Nat := (ns.map fun n => n.2.length + 2).sum
def Adr (s : Int) (ns : List Nd) (h : Int) : Int := if 1 ≤ h ∧ h ≤ ns.length then adr s (ofs ns (h.toNat - 1)) else 0
def ndw (A : Int → Int) (n : Nd) : List Int := wrd n.1.1 n.1.2.1 n.1.2.2 :: 0 :: (mpF A n).2
def ndz (n : Nd) : List Int := wrd n.1.1 n.1.2.1 n.1.2.2 :: 0 :: zers n.2.length
def lay (A : Int → Int) (ns : List Nd) : List Int := ns.flatMap (ndw A)
def layz (ns : List Nd) : List Int := ns.flatMap ndz
theorem ndw_len (A : Int → Int) (n : Nd) : (ndw A n).length = n.2.length + 2 := by simp [ndw, mpF]
theorem ndz_len (n : Nd) : (ndz n).length = n.2.length + 2 := by simp [ndz, zers]
theorem lay_len (A : Int → Int) (ns : List Nd) : (lay A ns).length = tot ns := by
  unfold lay tot
  rw [List.length_flatMap]
  congr 1
  exact List.map_congr_left fun n _ => ndw_len A n
theorem layz_len (ns : List Nd) : (layz ns).length = tot ns := by
  unfold layz tot
  rw [List.length_flatMap]
  congr 1
  exact List.map_congr_left fun n _ => ndz_len n
theorem ofs_0 (ns : List Nd) : ofs ns 0 = 0 := by simp [ofs]
theorem ofs_all (ns : List Nd) : ofs ns ns.length = tot ns := by simp [ofs, tot]
theorem take_node {ns : List Nd} {k : Nat} (h : k < ns.length) : ns.take (k + 1) = ns.take k ++ [ns.getD k ndN] := by
  rw [List.take_add_one, List.getElem?_eq_getElem h]
  simp [List.getD, List.getElem?_eq_getElem h]
theorem ofs_step {ns : List Nd} {k : Nat} (h : k < ns.length) : ofs ns (k + 1) = ofs ns k + ((ns.getD k ndN).2.length + 2) := by
  unfold ofs
  rw [take_node h, List.map_append, List.sum_append]
  rfl
theorem ofs_le {ns : List Nd} : ∀ {j k : Nat}, k ≤ j → j ≤ ns.length → ofs ns k ≤ ofs ns j
  | 0, k, h, _ => by obtain rfl : k = 0 := by omega
                     exact Nat.le_refl _
  | j + 1, k, h, hj => by
    rcases Nat.lt_or_eq_of_le h with q | q
    · have := ofs_le (ns := ns) (show k ≤ j by omega) (by omega)
      have := ofs_step (show j < ns.length by omega)
      omega
    · subst q; exact Nat.le_refl _
theorem ofs_tot {ns : List Nd} {k : Nat} (h : k ≤ ns.length) : ofs ns k ≤ tot ns := by
  rw [← ofs_all]
  exact ofs_le h (Nat.le_refl _)
theorem ofs_lt {ns : List Nd} {j k : Nat} (h : k < j) (hj : j ≤ ns.length) : ofs ns k + 2 ≤ ofs ns j := by
  have := ofs_step (show k < ns.length by omega)
  have := ofs_le (ns := ns) (show k + 1 ≤ j by omega) hj
  omega
theorem lay_split {A : Int → Int} {ns : List Nd} {k : Nat} (h : k < ns.length) : lay A ns = lay A (ns.take k) ++ (ndw A (ns.getD k ndN) ++ lay A (ns.drop (k + 1))) := by
  have e : ns = ns.take k ++ (ns.getD k ndN :: ns.drop (k + 1)) := by
    rw [show ns.getD k ndN = ns[k] from by simp [List.getD, List.getElem?_eq_getElem h], List.getElem_cons_drop, List.take_append_drop]
  conv => lhs; rw [e]
  simp [lay]
theorem tot_take (ns : List Nd) (k : Nat) : tot (ns.take k) = ofs ns k := rfl
theorem lay_at {A : Int → Int} {ns : List Nd} {k : Nat} (h : k < ns.length) (zs : List Int) : (lay A ns ++ zs).getD (ofs ns k) 0 = wrd (ns.getD k ndN).1.1 (ns.getD k ndN).1.2.1 (ns.getD k ndN).1.2.2 ∧
    ∀ i, i < (ns.getD k ndN).2.length → (lay A ns ++ zs).getD (ofs ns k + 2 + i) 0 = (mpF A (ns.getD k ndN)).2.getD i 0 := by
  have e := lay_split (A := A) h
  have hl : (lay A (ns.take k)).length = ofs ns k := lay_len A _
  rw [e, List.append_assoc, ← hl]
  refine ⟨?_, fun i hi => ?_⟩
  · exact (getD_app2 (lay A (ns.take k)) (ndw A (ns.getD k ndN) ++ lay A (ns.drop (k + 1)) ++ zs) 0).trans rfl
  · rw [Nat.add_assoc, getD_app2, List.append_assoc, getD_app (by rw [ndw_len]; omega)]
    rw [show 2 + i = i + 1 + 1 from by omega]
    rfl
/-- A graph in memory, and its handles. -/
def putG (g : Gr) (W : Nat) (s : Int) : Me := mk W s (lay (Adr s g.1) g.1 ++ zers (W - tot g.1))
def putR (g : Gr) (s : Int) : List (List Int) := g.2.map fun row => row.map (Adr s g.1)
theorem Rg.hdok {g : Gr} (hR : Rg g) {n : Nd} (hn : n ∈ g.1) : HdOk n.1.1 n.1.2.1 n.1.2.2 ∧ (n.2.length : Int) = n.1.2.1 := by
  obtain ⟨h1, h2⟩ := hR.hd n hn
  unfold okH at h1
  simp only [Bool.and_eq_true, decide_eq_true_eq, bne_iff_ne, ne_eq, beq_iff_eq] at h1
  exact ⟨⟨by first | exact h1.1 | exact h1.2, by first | exact h1.2 | exact h1.1, (hR.mp n hn).1⟩, h2⟩
theorem ndOf_in {g : Gr} {h : Int} (hi : inN g h) : h.toNat - 1 < g.1.length ∧ ndOf g h = g.1.getD (h.toNat - 1) ndN := ⟨by have := hi.1; have := hi.2; omega, rfl⟩
theorem put_hold {g : Gr} {W : Nat} {s : Int} (hR : Rg g) (h16 : 16 ≤ W) (hW : W ≤ 4096) (hs : s = 0 ∨ s = 1) (hT : tot g.1 ≤ W) : Hold (putG g W s) g (Adr s g.1) (inN g) := by
  have hA : ∀ h, inN g h → Adr s g.1 h = adr s (ofs g.1 (h.toNat - 1)) := fun h hi => if_pos hi
  have main : ∀ h, inN g h → (putG g W s).real (Adr s g.1 h) = true ∧ ndm (putG g W s) (Adr s g.1 h) = mpF (Adr s g.1) (ndOf g h) := fun h hi => by
    obtain ⟨hk, hnd⟩ := ndOf_in hi
    obtain ⟨hh, hlen⟩ := hR.hdok (ndOf_mem hi)
    have hstep := ofs_step hk
    have htot := ofs_tot (show h.toNat - 1 + 1 ≤ g.1.length by omega)
    rw [← hnd] at hstep
    obtain ⟨r1, r2⟩ := lay_at (A := Adr s g.1) hk (zers (W - tot g.1))
    rw [← hnd] at r1 r2
    have hp : ((ofs g.1 (h.toNat - 1) : Nat) : Int) + ((ndOf g h).1.2.1 + 2) ≤ W := by omega
    rw [hA h hi]
    unfold putG
    obtain ⟨q1, q2, q3, q4, q5⟩ := mk_at hs hW hh hp r1
    refine ⟨q1, ?_⟩
    unfold ndm
    rw [q3, q4, q5]
    refine Prod.ext rfl ?_
    have hL : (ndOf g h).1.2.1.toNat = (ndOf g h).2.length := by omega
    show (List.range (ndOf g h).1.2.1.toNat).map _ = _
    rw [hL]
    refine List.map_congr_left fun i hir => ?_
    have hi' := List.mem_range.1 hir
    rw [mk_getv hs hW hh hp r1 (by omega), r2 i hi', mp_at _ _ hi']
  refine ⟨if_neg (by omega), fun h hi => hi, fun a b ha hb e => ?_, fun h hi => (main h hi).1, fun h hi v hv => ?_, fun h hi => (main h hi).2⟩
  · rw [hA a ha, hA b hb] at e
    have e' : ofs g.1 (a.toNat - 1) = ofs g.1 (b.toNat - 1) := by unfold adr at e; omega
    obtain ⟨a1, a2⟩ := ha
    obtain ⟨b1, b2⟩ := hb
    rcases Nat.lt_trichotomy (a.toNat - 1) (b.toNat - 1) with q | q | q
    · have := ofs_lt (ns := g.1) q (by omega); omega
    · omega
    · have := ofs_lt (ns := g.1) q (by omega); omega
  · obtain ⟨i, hi', hp, rfl⟩ := ptrs_mem hv
    have f1 := (hR.fu _ (ndOf_mem hi) _ (getD_mem 0 hi')).1
    have f2 := hR.pt _ (ndOf_mem hi) i hi' hp
    rcases Int.lt_or_eq_of_le f1 with q | q
    · exact .inr ⟨by omega, f2⟩
    · exact .inl q.symm
theorem Rg.rw0 {g : Gr} (hR : Rg g) : ∀ row ∈ g.2, ∀ h ∈ row, h = 0 ∨ inN g h := fun row hr h hh => by
  have := hR.hn row hr h hh
  rcases Int.lt_or_eq_of_le this.1 with q | q
  · exact .inr ⟨by omega, this.2⟩
  · exact .inl q.symm
/-- What is put is alike. -/
theorem put_of {g : Gr} {W : Nat} {s : Int} (hR : Rg g) (hn : g.1.length ≤ 1000) (h16 : 16 ≤ W) (hW : W ≤ 4096) (hs : s = 0 ∨ s = 1) (hT : tot g.1 ≤ W) :
    (putG g W s).rch (putR g s).flatten = (ord g).map (Adr s g.1) ∧ ofG (putG g W s) (putR g s) = canon g ∧ ofB (putG g W s) (putR g s) = true := (put_hold hR h16 hW hs hT).of hn hR.rw0
end Go.Proofs.YtanhhkdoejnpiaaGreat.G

/- Memory while a graph is put, plainly: node by node, field by field (the program's way; the document's: first all heads). -/
import Derived.Test.YtanhhkdoejnpiaaGreatVb
namespace Go.Proofs.YtanhhkdoejnpiaaGreat.G
open Go.Joins Go.ChangeShapes Go.WideShapes Go.ChangeAt Go.RowKit Go.Deep Go.Shelf Go.Maps
set_option linter.unusedVariables false
set_option linter.unusedSimpArgs false

/-- A node of which so many fields are set. -/
def ndp (A : Int → Int) (n : Nd) (i : Nat) : List Int := wrd n.1.1 n.1.2.1 n.1.2.2 :: 0 :: ((mpF A n).2.take i ++ zers (n.2.length - i))
theorem ndp_0 (A : Int → Int) (n : Nd) : ndp A n 0 = ndz n := rfl
theorem ndp_all (A : Int → Int) (n : Nd) {i : Nat} (h : i = n.2.length) : ndp A n i = ndw A n := by
  subst h
  unfold ndp ndw
  rw [Nat.sub_self, show zers 0 = [] from rfl, List.append_nil, List.take_of_length_le (by rw [mp_len]; exact Nat.le_refl _)]
theorem ndp_len (A : Int → Int) (n : Nd) {i : Nat} (h : i ≤ n.2.length) : (ndp A n i).length = n.2.length + 2 := by
  simp [ndp, zers, mp_len]
  omega
theorem ndp_set (A : Int → Int) (n : Nd) {i : Nat} (h : i < n.2.length) (pre post : List Int) :
    (pre ++ (ndp A n i ++ post)).set (pre.length + 2 + i) ((mpF A n).2.getD i 0) = pre ++ (ndp A n (i + 1) ++ post) ∧ (pre ++ (ndp A n i ++ post)).getD (pre.length + 2 + i) 0 = 0 ∧ (pre ++ (ndp A n i ++ post)).getD pre.length 0 = wrd n.1.1 n.1.2.1 n.1.2.2 := by
  have hl : i < (mpF A n).2.length := by rw [mp_len]; exact h
  have e1 : pre ++ (ndp A n i ++ post) = (pre ++ (wrd n.1.1 n.1.2.1 n.1.2.2 :: 0 :: (mpF A n).2.take i)) ++ 0 :: (zers (n.2.length - (i + 1)) ++ post) := by
    unfold ndp
    rw [show n.2.length - i = (n.2.length - (i + 1)) + 1 from by omega, zers_succ]
    simp
  have e2 : pre ++ (ndp A n (i + 1) ++ post) = (pre ++ (wrd n.1.1 n.1.2.1 n.1.2.2 :: 0 :: (mpF A n).2.take i)) ++ (mpF A n).2.getD i 0 :: (zers (n.2.length - (i + 1)) ++ post) := by
    unfold ndp
    rw [take_snoc' hl]
    simp
  have hlen : (pre ++ (wrd n.1.1 n.1.2.1 n.1.2.2 :: 0 :: (mpF A n).2.take i)).length = pre.length + 2 + i := by
    simp [mp_len]
    omega
  refine ⟨?_, ?_, ?_⟩
  · rw [e1, e2, set_app _ _ _ _ hlen]
  · rw [e1, ← hlen]
    exact (getD_app2 (pre ++ (wrd n.1.1 n.1.2.1 n.1.2.2 :: 0 :: (mpF A n).2.take i)) (0 :: (zers (n.2.length - (i + 1)) ++ post)) 0).trans rfl
  · exact (getD_app2 pre (ndp A n i ++ post) 0).trans rfl
section
variable {ns : List Nd} {A : Int → Int} {W k : Nat} {s : Int}
def rowP (A : Int → Int) (ns : List Nd) (W k : Nat) : List Int := lay A (ns.take k) ++ zers (W - ofs ns k)
def rowQ (A : Int → Int) (ns : List Nd) (W k i : Nat) : List Int := lay A (ns.take k) ++ (ndp A (ns.getD k ndN) i ++ zers (W - ofs ns (k + 1)))
def rowZ (ns : List Nd) (W k : Nat) : List Int := layz (ns.take k) ++ zers (W - ofs ns k)
def rowR (A : Int → Int) (ns : List Nd) (W k : Nat) : List Int := lay A (ns.take k) ++ (layz (ns.drop k) ++ zers (W - tot ns))
def rowS (A : Int → Int) (ns : List Nd) (W k i : Nat) : List Int := lay A (ns.take k) ++ (ndp A (ns.getD k ndN) i ++ (layz (ns.drop (k + 1)) ++ zers (W - tot ns)))
theorem drop_node (h : k < ns.length) : ns.drop k = ns.getD k ndN :: ns.drop (k + 1) := by
  rw [show ns.getD k ndN = ns[k] from by simp [List.getD, List.getElem?_eq_getElem h], List.getElem_cons_drop]
theorem lay_take (h : k < ns.length) : lay A (ns.take (k + 1)) = lay A (ns.take k) ++ ndw A (ns.getD k ndN) := by
  rw [take_node h]; simp [lay]
theorem layz_take (h : k < ns.length) : layz (ns.take (k + 1)) = layz (ns.take k) ++ ndz (ns.getD k ndN) := by
  rw [take_node h]; simp [layz]
theorem layz_drop (h : k < ns.length) : layz (ns.drop k) = ndz (ns.getD k ndN) ++ layz (ns.drop (k + 1)) := by
  rw [drop_node h]; simp [layz]
theorem rowP_0 (A : Int → Int) (ns : List Nd) (W : Nat) : rowP A ns W 0 = zers W := by simp [rowP, lay, ofs_0]
theorem rowZ_0 (ns : List Nd) (W : Nat) : rowZ ns W 0 = zers W := by simp [rowZ, layz, ofs_0]
theorem rowP_all (A : Int → Int) (ns : List Nd) (W : Nat) : rowP A ns W ns.length = lay A ns ++ zers (W - tot ns) := by simp [rowP, ofs_all]
theorem rowR_all (A : Int → Int) (ns : List Nd) (W : Nat) : rowR A ns W ns.length = lay A ns ++ zers (W - tot ns) := by simp [rowR, layz]
theorem rowR_0 (A : Int → Int) (ns : List Nd) (W : Nat) : rowZ ns W ns.length = rowR A ns W 0 := by simp [rowR, rowZ, lay, layz, ofs_all]
theorem rowR_S (h : k < ns.length) : rowR A ns W k = rowS A ns W k 0 := by
  unfold rowR rowS
  rw [layz_drop h, ndp_0, List.append_assoc]
theorem rowS_end (h : k < ns.length) : rowS A ns W k (ns.getD k ndN).2.length = rowR A ns W (k + 1) := by
  unfold rowR rowS
  rw [ndp_all A _ rfl, lay_take h, List.append_assoc]
theorem rowQ_end (h : k < ns.length) : rowQ A ns W k (ns.getD k ndN).2.length = rowP A ns W (k + 1) := by
  unfold rowQ rowP
  rw [ndp_all A _ rfl, lay_take h, List.append_assoc]
theorem lay_ofs (k : Nat) : (lay A (ns.take k)).length = ofs ns k := lay_len A _
theorem layz_ofs (k : Nat) : (layz (ns.take k)).length = ofs ns k := layz_len _
theorem zers_node (h : k < ns.length) (hW : ofs ns (k + 1) ≤ W) (x : Int) : x :: zers (W - ofs ns k - 1) = (x :: 0 :: zers (ns.getD k ndN).2.length) ++ zers (W - ofs ns (k + 1)) := by
  have := ofs_step h
  rw [show W - ofs ns k - 1 = 1 + ((ns.getD k ndN).2.length + (W - ofs ns (k + 1))) from by omega, zers_add, zers_add]
  rfl
/-- What is told of a node's head. -/
structure NdHd (n : Nd) : Prop where
  h : HdOk n.1.1 n.1.2.1 n.1.2.2
  l : (n.2.length : Int) = n.1.2.1
theorem putP (h : k < ns.length) (hh : NdHd (ns.getD k ndN)) (hs : s = 0 ∨ s = 1) (h16 : 16 ≤ W) (hW : W ≤ 4096) (hf : ofs ns (k + 1) ≤ W) :
    (mk W s (rowP A ns W k)).putm (adr s (ofs ns k)) (ns.getD k ndN).1.1 (ns.getD k ndN).1.2.1 (ns.getD k ndN).1.2.2 = mk W s (rowQ A ns W k 0) ∧ (mk W s (rowP A ns W k)).pute (adr s (ofs ns k)) (ns.getD k ndN).1.1 (ns.getD k ndN).1.2.1 (ns.getD k ndN).1.2.2 = 0 := by
  have hst := ofs_step h
  have hl := hh.l
  have hp : ((ofs ns k : Nat) : Int) + ((ns.getD k ndN).1.2.1 + 2) ≤ W := by omega
  obtain ⟨e1, e2, e3⟩ := adr_is hs (show ofs ns k < 4294967296 by omega)
  refine ⟨?_, pute_0.2 ⟨hh.h.r, by rw [hh.h.len.2.2.2]; exact ⟨e3, by rw [e2, mk_n]; exact hp⟩⟩⟩
  unfold rowP rowQ
  rw [mk_putm hs h16 hW hh.h hp (lay_ofs k) (by omega), zers_node h hf, ndp_0]
  rfl
theorem putZ (h : k < ns.length) (hh : NdHd (ns.getD k ndN)) (hs : s = 0 ∨ s = 1) (h16 : 16 ≤ W) (hW : W ≤ 4096) (hf : ofs ns (k + 1) ≤ W) :
    (mk W s (rowZ ns W k)).putm (adr s (ofs ns k)) (ns.getD k ndN).1.1 (ns.getD k ndN).1.2.1 (ns.getD k ndN).1.2.2 = mk W s (rowZ ns W (k + 1)) ∧ (mk W s (rowZ ns W k)).pute (adr s (ofs ns k)) (ns.getD k ndN).1.1 (ns.getD k ndN).1.2.1 (ns.getD k ndN).1.2.2 = 0 := by
  have hst := ofs_step h
  have hl := hh.l
  have hp : ((ofs ns k : Nat) : Int) + ((ns.getD k ndN).1.2.1 + 2) ≤ W := by omega
  obtain ⟨e1, e2, e3⟩ := adr_is hs (show ofs ns k < 4294967296 by omega)
  refine ⟨?_, pute_0.2 ⟨hh.h.r, by rw [hh.h.len.2.2.2]; exact ⟨e3, by rw [e2, mk_n]; exact hp⟩⟩⟩
  unfold rowZ
  rw [mk_putm hs h16 hW hh.h (by omega) (layz_ofs k) (by omega), zers_node h hf, layz_take h, List.append_assoc]
  rfl
theorem setQ (h : k < ns.length) (hh : NdHd (ns.getD k ndN)) (hs : s = 0 ∨ s = 1) (hW : W ≤ 4096) (hf : ofs ns (k + 1) ≤ W) {i : Nat} (hi : i < (ns.getD k ndN).2.length) :
    (mk W s (rowQ A ns W k i)).setm (adr s (ofs ns k)) i ((mpF A (ns.getD k ndN)).2.getD i 0) = mk W s (rowQ A ns W k (i + 1)) := by
  have hst := ofs_step h
  have hl := hh.l
  obtain ⟨q1, q2, q3⟩ := ndp_set A (ns.getD k ndN) hi (lay A (ns.take k)) (zers (W - ofs ns (k + 1)))
  rw [lay_ofs] at q1 q3
  unfold rowQ
  rw [mk_setm hs hW hh.h (by omega) q3 (by omega), q1]
theorem setQ0 {i : Nat} (hi : i < (ns.getD k ndN).2.length) (h0 : (mpF A (ns.getD k ndN)).2.getD i 0 = 0) : rowQ A ns W k i = rowQ A ns W k (i + 1) := by
  obtain ⟨q1, q2, q3⟩ := ndp_set A (ns.getD k ndN) hi (lay A (ns.take k)) (zers (W - ofs ns (k + 1)))
  unfold rowQ
  rw [← q1, h0, set_same (by rw [List.length_append, List.length_append, ndp_len A _ (Nat.le_of_lt hi)]; omega) q2]
theorem setS (h : k < ns.length) (hh : NdHd (ns.getD k ndN)) (hs : s = 0 ∨ s = 1) (hW : W ≤ 4096) (hf : ofs ns (k + 1) ≤ W) {i : Nat} (hi : i < (ns.getD k ndN).2.length) :
    (mk W s (rowS A ns W k i)).setm (adr s (ofs ns k)) i ((mpF A (ns.getD k ndN)).2.getD i 0) = mk W s (rowS A ns W k (i + 1)) := by
  have hst := ofs_step h
  have hl := hh.l
  obtain ⟨q1, q2, q3⟩ := ndp_set A (ns.getD k ndN) hi (lay A (ns.take k)) (layz (ns.drop (k + 1)) ++ zers (W - tot ns))
  rw [lay_ofs] at q1 q3
  unfold rowS
  rw [mk_setm hs hW hh.h (by omega) q3 (by omega), q1]
end
theorem Rg.ndhd {g : Gr} (hR : Rg g) {k : Nat} (h : k < g.1.length) : NdHd (g.1.getD k ndN) := by
  obtain ⟨a, b⟩ := hR.hdok (n := g.1.getD k ndN) (by simp [List.getD, List.getElem?_eq_getElem h])
  exact ⟨a, b⟩
end Go.Proofs.YtanhhkdoejnpiaaGreat.G
